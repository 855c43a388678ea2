import PyProof.Rows.All
import PyProof.StrBlock2
import PyProof.Rows.StrIntSpec
import KE.KItemsList
import KE.KDictLaws
import PyProof.SumWalkG
import KE.KRevIter
import PyProof.ListRange
import PyProof.Rows.SortWalk
import KE.KSortedM
import PyProof.Rows.SortStr
import Wide.All
import OpenK.AllK
import Wide.FinOn
import Lean
import PyProof.EqAt
import PyProof.EqKinds
import PyProof.TupleCall
import PyProof.NeKinds
import PyProof.DictUpdate
import KE.KDictList
import KE.KEqDict
import PyProof.Draws
import PyProof.Rows.EnumRows
import PyProof.StationsW
import PyProof.ExcClass3
import PyProof.RulesAs
import PyProof.ExcBaseAll.ValueError
import PyProof.InstStoreFacts
import PyProof.ExcArgsOwn
import PyProof.NsDelKeeps
import KE.RegKIsAll
import PyProof.Rows.LoopZipPat
import PyProof.StrLawsRepr
import KE.KDictOf
import PyProof.WalksS
import PyProof.AttrMissHeap
import PySem.Challenge.RW_goaltrail_k23_made_one_flat
set_option Elab.async false
set_option linter.all false
set_option maxRecDepth 100000
set_option genSizeOf false
set_option compiler.extract_closed false
namespace L2
open PySem PySem.Spec PyProof.Rows
theorem us0 {us : List Value} {P : List Value → Prop} (hl : us.length = 0) (h : P []) : P us := by cases us with | nil => exact h | cons a r => cases hl
theorem us1 {us : List Value} {P : List Value → Prop} (hl : us.length = 1) (h : ∀ a, P [a]) : P us := by cases us with | nil => cases hl | cons a r => exact us0 (P := fun r => P (a :: r)) (Nat.succ.inj hl) (h a)
theorem us2 {us : List Value} {P : List Value → Prop} (hl : us.length = 2) (h : ∀ a b, P [a, b]) : P us := by cases us with | nil => cases hl | cons a r => exact us1 (P := fun r => P (a :: r)) (Nat.succ.inj hl) (h a)
theorem us3 {us : List Value} {P : List Value → Prop} (hl : us.length = 3) (h : ∀ a b c, P [a, b, c]) : P us := by cases us with | nil => cases hl | cons a r => exact us2 (P := fun r => P (a :: r)) (Nat.succ.inj hl) (h a)
theorem us4 {us : List Value} {P : List Value → Prop} (hl : us.length = 4) (h : ∀ a b c d, P [a, b, c, d]) : P us := by cases us with | nil => cases hl | cons a r => exact us3 (P := fun r => P (a :: r)) (Nat.succ.inj hl) (h a)
theorem us5 {us : List Value} {P : List Value → Prop} (hl : us.length = 5) (h : ∀ a b c d e, P [a, b, c, d, e]) : P us := by cases us with | nil => cases hl | cons a r => exact us4 (P := fun r => P (a :: r)) (Nat.succ.inj hl) (h a)
theorem us6 {us : List Value} {P : List Value → Prop} (hl : us.length = 6) (h : ∀ a b c d e f, P [a, b, c, d, e, f]) : P us := by cases us with | nil => cases hl | cons a r => exact us5 (P := fun r => P (a :: r)) (Nat.succ.inj hl) (h a)
theorem ex1 {us : List Value} (hl : us.length = 1) : ∃ a, us = [a] := us1 (P := fun us => ∃ a', us = [a']) hl fun a => ⟨a, rfl⟩
theorem ex2 {us : List Value} (hl : us.length = 2) : ∃ a b, us = [a, b] := us2 (P := fun us => ∃ a' b', us = [a', b']) hl fun a b => ⟨a, b, rfl⟩
theorem ex3 {us : List Value} (hl : us.length = 3) : ∃ a b c, us = [a, b, c] := us3 (P := fun us => ∃ a' b' c', us = [a', b', c']) hl fun a b c => ⟨a, b, c, rfl⟩
theorem ex4 {us : List Value} (hl : us.length = 4) : ∃ a b c d, us = [a, b, c, d] := us4 (P := fun us => ∃ a' b' c' d', us = [a', b', c', d']) hl fun a b c d => ⟨a, b, c, d, rfl⟩
theorem ex5 {us : List Value} (hl : us.length = 5) : ∃ a b c d e, us = [a, b, c, d, e] := us5 (P := fun us => ∃ a' b' c' d' e', us = [a', b', c', d', e']) hl fun a b c d e => ⟨a, b, c, d, e, rfl⟩
theorem ex6 {us : List Value} (hl : us.length = 6) : ∃ a b c d e f, us = [a, b, c, d, e, f] := us6 (P := fun us => ∃ a' b' c' d' e' f', us = [a', b', c', d', e', f']) hl fun a b c d e f => ⟨a, b, c, d, e, f, rfl⟩
noncomputable abbrev Key := Sum Int Str
noncomputable def keyIs : Key → Value → Bool
  | .inl k, v => Value.isInt k v
  | .inr x, v => Value.isStrOf x v
noncomputable def keyH (w : World) : Key → Int
  | .inl k => hashInt k
  | .inr x => hashStr w x
theorem keyIs_shape : ∀ {k : Key} {v : Value}, keyIs k v = true → (∃ i t, k = Sum.inl i ∧ v = Value.int i t) ∨ (∃ x t, k = Sum.inr x ∧ v = Value.str x t)
  | .inl i, v, h => by
    obtain ⟨t, e⟩ := Value.isInt_shape (k := i) (v := v) h
    exact .inl ⟨i, t, rfl, e⟩
  | .inr x, v, h => by
    obtain ⟨t, e⟩ := Value.isStrOf_shape (x := x) (v := v) h
    exact .inr ⟨x, t, rfl, e⟩
theorem keyIs_int (i : Int) (t : Tok) : keyIs (.inl i) (.int i t) = true := by simp [keyIs, Value.isInt]
theorem keyIs_str (x : Str) (t : Tok) : keyIs (.inr x) (.str x t) = true := by simp [keyIs, Value.isStrOf]
theorem key_ll (a b : Int) : decide ((Sum.inl a : Key) = Sum.inl b) = (a == b) := by
  by_cases e : a = b
  · subst e; simp
  · have h : ¬ (Sum.inl a : Key) = Sum.inl b := fun q => e (Sum.inl.inj q)
    rw [decide_eq_false h]
    exact (beq_eq_false_iff_ne.mpr e).symm
theorem key_rr (a b : Str) : decide ((Sum.inr a : Key) = Sum.inr b) = decide (a = b) := by
  by_cases e : a = b
  · subst e; simp
  · have h : ¬ (Sum.inr a : Key) = Sum.inr b := fun q => e (Sum.inr.inj q)
    rw [decide_eq_false h, decide_eq_false e]
theorem key_lr (a : Int) (b : Str) : decide ((Sum.inl a : Key) = Sum.inr b) = false := decide_eq_false (fun q => nomatch q)
theorem key_rl (a : Str) (b : Int) : decide ((Sum.inr a : Key) = Sum.inl b) = false := decide_eq_false (fun q => nomatch q)
noncomputable def mixKind (prog : Program) (w : World) : PySem.KeyKind prog w Key where
  is := keyIs
  hash := keyH w
  inj := fun v a b ha hb => by
    rcases keyIs_shape ha with ⟨i, t, rfl, rfl⟩ | ⟨x, t, rfl, rfl⟩
    · rcases keyIs_shape hb with ⟨j, u, rfl, e⟩ | ⟨y, u, rfl, e⟩
      · injection e with e1 _; rw [e1]
      · exact nomatch e
    · rcases keyIs_shape hb with ⟨j, u, rfl, e⟩ | ⟨y, u, rfl, e⟩
      · exact nomatch e
      · injection e with e1 _; rw [e1]
  byValue := fun k v h => by
    rcases keyIs_shape h with ⟨i, t, rfl, rfl⟩ | ⟨x, t, rfl, rfl⟩ <;> rfl
  pyHash := fun hv h => by
    rcases keyIs_shape hv with ⟨i, t, rfl, rfl⟩ | ⟨x, t, rfl, rfl⟩
    · exact wpAny_pyHash_int h
    · exact wpAny_pyHash_str h
  eqBool := fun hu hv h => by
    rcases keyIs_shape hu with ⟨i, t, rfl, rfl⟩ | ⟨x, t, rfl, rfl⟩
    · rcases keyIs_shape hv with ⟨j, u, rfl, rfl⟩ | ⟨y, u, rfl, rfl⟩
      · rw [key_ll] at h; exact wpAny_eqBool_int h
      · rw [key_lr] at h; exact SeqAt.EqAt.int_str i t y u _ _ _ _ h
    · rcases keyIs_shape hv with ⟨j, u, rfl, rfl⟩ | ⟨y, u, rfl, rfl⟩
      · rw [key_rl] at h; exact SeqAt.EqAt.str_int x t j u _ _ _ _ h
      · rw [key_rr] at h; exact wpAny_eqBool_str h
  «strs» := fun k x t v h => by
    rcases keyIs_shape h with ⟨i, u, rfl, e⟩ | ⟨y, u, rfl, e⟩
    · exact nomatch e
    · injection e with e1 _
      subst e1
      cases v <;> rfl
theorem mixKind_int (prog : Program) (w : World) (i : Int) (t : Tok) : (mixKind prog w).is (.inl i) (.int i t) = true := keyIs_int i t
theorem mixKind_str (prog : Program) (w : World) (x : Str) (t : Tok) : (mixKind prog w).is (.inr x) (.str x t) = true := keyIs_str x t
end L2
namespace L2
open PySem PySem.Spec PyProof.Rows
inductive V where
  | non | bl (b : Bool) | int (i : Int) | str (x : Str) | byt (b : Array UInt8) | flt (b : UInt64) | ref (a : Addr) | ty (n : String)
  deriving DecidableEq
noncomputable def RelV : V → Value → Prop
  | .non, u => u = Value.none
  | .bl b, u => u = Value.bool b
  | .int i, u => ∃ t, u = Value.int i t
  | .str x, u => ∃ t, u = Value.str x t
  | .byt b, u => ∃ t, u = Value.bytes b t
  | .flt b, u => ∃ t, u = Value.float b t
  | .ref a, u => u = Value.ref a
  | .ty n, u => u = Value.type n
noncomputable abbrev Vals : List V → List Value → Prop := Paired RelV
theorem Vals.length {xs : List V} {us : List Value} (r : Vals xs us) : xs.length = us.length := Paired.length r
theorem Vals.get : ∀ {xs : List V} {us : List Value} {i : Nat} {x : V}, Vals xs us → xs[i]? = some x → ∃ u, us[i]? = some u ∧ RelV x u
  | _, _, _, _, .nil, e => by simp at e
  | _, _, 0, _, .cons r _, e => by simp at e; subst e; exact ⟨_, rfl, r⟩
  | _, _, i + 1, x, .cons _ t, e => by
    obtain ⟨u, h1, h2⟩ := Vals.get (i := i) (x := x) t (by simpa using e)
    exact ⟨u, by simpa using h1, h2⟩
theorem Vals.set {x : V} {u : Value} (r : RelV x u) : ∀ {xs : List V} {us : List Value} (i : Nat), Vals xs us → Vals (xs.set i x) (us.set i u)
  | _, _, _, .nil => .nil
  | _, _, 0, .cons _ t => .cons r t
  | _, _, i + 1, .cons q t => .cons q (Vals.set r i t)
theorem Vals.append : ∀ {xs ys : List V} {us ws : List Value}, Vals xs us → Vals ys ws → Vals (xs ++ ys) (us ++ ws)
  | _, _, _, _, .nil, s => s
  | _, _, _, _, .cons r t, s => .cons r (Vals.append t s)
theorem Vals.take : ∀ {xs : List V} {us : List Value} (n : Nat), Vals xs us → Vals (xs.take n) (us.take n)
  | _, _, 0, _ => .nil
  | _, _, _ + 1, .nil => .nil
  | _, _, n + 1, .cons r t => .cons r (Vals.take n t)
theorem Vals.drop : ∀ {xs : List V} {us : List Value} (n : Nat), Vals xs us → Vals (xs.drop n) (us.drop n)
  | _, _, 0, r => r
  | _, _, _ + 1, .nil => .nil
  | _, _, n + 1, .cons _ t => Vals.drop n t
theorem Vals.none_of : ∀ {xs : List V} {us : List Value} {i : Nat}, Vals xs us → xs[i]? = none → us[i]? = none := fun {xs us i} r e => by
  have h1 := r.length
  have h2 : xs.length ≤ i := List.getElem?_eq_none_iff.mp e
  exact List.getElem?_eq_none_iff.mpr (by omega)
noncomputable def RelO : Option V → Option Value → Prop
  | some v, some u => RelV v u
  | none, none => True
  | _, _ => False
noncomputable def KV {κ : Type} : List (κ × V) → List (κ × Value) → Prop := Paired fun (p : κ × V) (q : κ × Value) => p.1 = q.1 ∧ RelV p.2 q.2
noncomputable def kV : Key → V
  | .inl i => .int i
  | .inr x => .str x
inductive HO where
  | lst (xs : List V)
  | tup (xs : List V)
  | dK (kvs : List (Key × V)) | dT (kvs : List (List Key × V))
  | set (S : Int → Bool) (n : Nat)
  | ins (C dx : Addr) (fs : List (Str × V))
  | own (x : Addr)
  | xd (fs : List (Str × V))
  | met (f x : Addr)
  | rng (lo hi : Int)
  | frz (o : Obj) (u : HO)
  | tbl (ps : Array Value)
  | ext (φ : Heap → Prop)
noncomputable abbrev Hp := Addr → Option HO
noncomputable def upd (H : Hp) (a : Addr) (o : HO) : Hp := fun b => if b = a then some o else H b
theorem upd_same {H : Hp} {a : Addr} {o : HO} : upd H a o a = some o := by unfold upd; rw [if_pos rfl]
theorem upd_ne {H : Hp} {a b : Addr} {o : HO} (h : b ≠ a) : upd H a o b = H b := by unfold upd; rw [if_neg h]
theorem ne_of {H : Hp} {a b : Addr} {o u : HO} (h : H a = some o) (h' : H b = some u) (d : o ≠ u) : a ≠ b := by
  intro e; subst e; rw [h] at h'; exact d (Option.some.inj h')
theorem ne_of_none {H : Hp} {a b : Addr} {o : HO} (h : H a = some o) (h' : H b = none) : a ≠ b := by
  intro e; subst e; rw [h] at h'; cases h'
section
variable (P : Program) (w : World)
noncomputable def ObjOk (H : Hp) (h : Heap) (a : Addr) : HO → Prop
  | .lst xs => xs.length ≤ sizeLine ∧ ∃ (its : List Value) (n : Nat), Vals xs its ∧ h.get? a = some { cls := .type "list", data := .seq its.toArray n }
  | .tup xs => xs.length ≤ sizeLine ∧ ∃ its : List Value, Vals xs its ∧ IsTup h a its.toArray
  | .dK kvs => kvs.length ≤ sizeLine ∧ (a == sysModules) = false ∧ ∃ vs, KV kvs vs ∧ h.DictOf (mixKind P w) a vs
  | .dT kvs => kvs.length ≤ sizeLine ∧ (a == sysModules) = false ∧ ∃ xs : List (List Key × Addr × Value),
      Paired (fun (p : List Key × V) (q : List Key × Addr × Value) => p.1 = q.1 ∧ H q.2.1 = some (.tup (p.1.map kV)) ∧ RelV p.2 q.2.2) kvs xs ∧
      ∃ o es ep, h.get? a = some o ∧ o.ExactDict ∧ o.data = .dict es ep ∧ es.toList = xs.map (entryOfKey (tupleKind (mixKind P w))) ∧ (xs.map (·.1)).Nodup
  | .set S n => h.SetOf (intKind P w) a S n
  | .ins C dx fs => H dx = some (.own a) ∧ fs.length ≤ 1000 ∧ dx ≠ a ∧ h.get? a = some (PySem.W.instObj C dx) ∧
      ∃ mA, h.Ns1 dx mA ∧ (∀ f, RelO (fs.lookup f) (mA f)) ∧ PySem.Within mA (fs.map (·.1))
  | .own _ => ∃ o, h.get? a = some o
  | .xd fs => ∃ mA, h.Ns1 a mA ∧ ∀ f, RelO (fs.lookup f) (mA f)
  | .rng lo hi => ∃ t u v, h.get? a = some { cls := .type "range", data := .fields #[.int lo t, .int hi u, .int 1 v] }
  | .frz o u => h.get? a = some o ∧ ObjOk H h a u
  | .tbl ps => h.get? a = some { cls := .none, data := .fields ps }
  | .met f x => h.get? a = some (PySem.W.methodObj (.ref f) (.ref x))
  | .ext φ => φ h ∧ (∃ o, h.get? a = some o) ∧ ∀ h1 h2 : Heap, φ h1 → (∀ o, h1.get? a = some o → h2.get? a = some o) → φ h2
noncomputable def HOk (H : Hp) (h : Heap) : Prop := ∀ a o, H a = some o → ObjOk P w H h a o
end
section
variable {P : Program} {w : World} {H H' : Hp} {h h' : Heap} {a : Addr} {o : HO}
theorem ObjOk.lt (x : ObjOk P w H h a o) : a < h.objs.size := by
  cases o with
  | lst xs => obtain ⟨_, _, _, _, e⟩ := x; exact Heap.lt_size e
  | tup xs => obtain ⟨_, _, _, p⟩ := x; exact p.lt
  | dK kvs => obtain ⟨_, _, _, _, o, _, _, e, _⟩ := x; exact Heap.lt_size e
  | dT kvs => obtain ⟨_, _, _, _, o, _, _, e, _⟩ := x; exact Heap.lt_size e
  | set S n => obtain ⟨o, _, _, _, e, _⟩ := x; exact Heap.lt_size e
  | ins C dx fs => obtain ⟨_, _, _, e, _⟩ := x; exact Heap.lt_size e
  | own y => obtain ⟨_, e⟩ := x; exact Heap.lt_size e
  | xd fs => obtain ⟨_, ⟨_, _, _, e, _⟩, _⟩ := x; exact Heap.lt_size e
  | rng lo hi => obtain ⟨_, _, _, e⟩ := x; exact Heap.lt_size e
  | frz ob u => obtain ⟨e, _⟩ := x; exact Heap.lt_size e
  | tbl ps => exact Heap.lt_size (show h.get? a = some _ from x)
  | met f y => exact Heap.lt_size (show h.get? a = some _ from x)
  | ext φ => obtain ⟨_, ⟨_, e⟩, _⟩ := x; exact Heap.lt_size e
theorem Paired.mapP {α β : Type} {F G : α → β → Prop} : ∀ {l₁ : List α} {l₂ : List β}, Paired F l₁ l₂ → (∀ a b, F a b → G a b) → Paired G l₁ l₂
  | _, _, .nil, _ => .nil
  | _, _, .cons r t, f => .cons (f _ _ r) (Paired.mapP t f)
theorem ObjOk.stay (x : ObjOk P w H h a o) (k : ∀ b u, (b = a ∨ H b = some (.own a)) → h.get? b = some u → h'.get? b = some u)
    (ho : ∀ b, H b = some (.own a) → H' b = some (.own a)) (ht : ∀ b xs, H b = some (.tup xs) → H' b = some (.tup xs)) : ObjOk P w H' h' a o := by
  induction o with
  | lst xs => obtain ⟨z, its, n, r, e⟩ := x; exact ⟨z, its, n, r, k _ _ (.inl rfl) e⟩
  | tup xs => obtain ⟨z, its, r, ob, e, c⟩ := x; exact ⟨z, its, r, ob, k _ _ (.inl rfl) e, c⟩
  | dK kvs => obtain ⟨z, y, vs, r, ob, es, ep, e, c⟩ := x; exact ⟨z, y, vs, r, ob, es, ep, k _ _ (.inl rfl) e, c⟩
  | dT kvs =>
    obtain ⟨z, y, xs, r, ob, es, ep, e, c⟩ := x
    exact ⟨z, y, xs, Paired.mapP r fun p q z => ⟨z.1, ht _ _ z.2.1, z.2.2⟩, ob, es, ep, k _ _ (.inl rfl) e, c⟩
  | set S n => obtain ⟨ob, es, ep, t, e, c⟩ := x; exact ⟨ob, es, ep, t, k _ _ (.inl rfl) e, c⟩
  | ins C dx fs =>
    obtain ⟨d, z, ne, e, mA, ⟨od, es, ep, e2, c⟩, r⟩ := x
    exact ⟨ho _ d, z, ne, k _ _ (.inl rfl) e, mA, ⟨od, es, ep, k _ _ (.inr d) e2, c⟩, r⟩
  | own y => obtain ⟨ob, e⟩ := x; exact ⟨ob, k _ _ (.inl rfl) e⟩
  | xd fs => obtain ⟨mA, ⟨od, es, ep, e, c⟩, r⟩ := x; exact ⟨mA, ⟨od, es, ep, k _ _ (.inl rfl) e, c⟩, r⟩
  | rng lo hi => obtain ⟨t, u, v, e⟩ := x; exact ⟨t, u, v, k _ _ (.inl rfl) e⟩
  | frz ob u ih => obtain ⟨e, q⟩ := x; exact ⟨k _ _ (.inl rfl) e, ih q⟩
  | tbl ps =>
    have e : h.get? a = some { cls := .none, data := .fields ps } := x
    show h'.get? a = some { cls := .none, data := .fields ps }
    exact k a _ (.inl rfl) e
  | met f y =>
    have e : h.get? a = some (PySem.W.methodObj (.ref f) (.ref y)) := x
    show h'.get? a = some (PySem.W.methodObj (.ref f) (.ref y))
    exact k a _ (.inl rfl) e
  | ext φ => obtain ⟨p, ⟨o, e⟩, st⟩ := x; exact ⟨st _ _ p fun o q => k _ _ (.inl rfl) q, ⟨o, k _ _ (.inl rfl) e⟩, st⟩
theorem HOk.lt (x : HOk P w H h) (e : H a = some o) : a < h.objs.size := (x a o e).lt
theorem HOk.fresh (x : HOk P w H h) (e : h.objs.size ≤ a) : H a = none := by
  cases q : H a with
  | none => rfl
  | some u => exact absurd (Nat.lt_of_lt_of_le (x.lt q) e) (Nat.lt_irrefl _)
theorem HOk.kept (x : HOk P w H h) (k : ∀ b u, h.get? b = some u → h'.get? b = some u) : HOk P w H h' := fun a o e =>
  (x a o e).stay (fun b u _ q => k b u q) (fun _ q => q) fun _ _ q => q
theorem HOk.laid (x : HOk P w H h) (k : ∀ b u, h.get? b = some u → h'.get? b = some u) (hp : h.objs.size ≤ a) (new : ObjOk P w (upd H a o) h' a o) : HOk P w (upd H a o) h' := fun b u e => by
  have hn := x.fresh hp
  by_cases hb : b = a
  · subst hb; rw [upd_same] at e; cases e; exact new
  · rw [upd_ne hb] at e
    exact (x b u e).stay (fun c v _ q => k c v q) (fun c q => by rw [upd_ne (ne_of_none q hn)]; exact q) fun c xs q => by rw [upd_ne (ne_of_none q hn)]; exact q
end
noncomputable def Rd (H : Hp) (a : Addr) (u : HO) : Prop := H a = some u ∨ ∃ o, H a = some (.frz o u)
theorem Rd.of {H : Hp} {a : Addr} {u : HO} (h : H a = some u) : Rd H a u := .inl h
theorem Rd.ok {P : Program} {w : World} {H : Hp} {h : Heap} {a : Addr} {u : HO} (r : Rd H a u) (x : HOk P w H h) : ObjOk P w H h a u := by
  rcases r with r | ⟨o, r⟩
  · exact x a u r
  · obtain ⟨_, q⟩ := x a _ r
    exact q
noncomputable def Mut : Option HO → Prop
  | some (.lst _) => True
  | some (.dK _) => True
  | some (.dT _) => True
  | some (.set _ _) => True
  | some (.ins _ _ _) => True
  | some (.ext _) => True
  | _ => False
section
variable {P : Program} {w : World} {H : Hp} {h h' : Heap} {x e : Addr} {o' : HO}
theorem HOk.write (ok : HOk P w H h) (mu : Mut (H x)) (he : e = x ∨ H e = some (.own x)) (k : ∀ b u, b ≠ e → h.get? b = some u → h'.get? b = some u) (heo : ∃ u, h'.get? e = some u)
    (new : ObjOk P w (upd H x o') h' x o') : HOk P w (upd H x o') h' := fun b u q => by
  have nown : ∀ c y, H c = some (.own y) → c ≠ x := fun c y r z => by subst z; rw [r] at mu; exact mu
  have ntup : ∀ c xs, H c = some (.tup xs) → c ≠ x := fun c xs r z => by subst z; rw [r] at mu; exact mu
  by_cases hb : b = x
  · subst hb; rw [upd_same] at q; cases q; exact new
  · rw [upd_ne hb] at q
    by_cases hbe : b = e
    · have q' : H b = some (.own x) := by
        rcases he with z | z
        · exact absurd (hbe.trans z) hb
        · rw [hbe]; exact z
      rw [q] at q'; cases q'
      obtain ⟨v, hv⟩ := heo
      exact ⟨v, by rw [hbe]; exact hv⟩
    · refine (ok b u q).stay (fun c v hc r => k c v ?_ r) (fun c r => by rw [upd_ne (nown c b r)]; exact r) fun c xs r => by rw [upd_ne (ntup c xs r)]; exact r
      rcases hc with rfl | hc
      · exact hbe
      · rintro rfl
        rcases he with z | z
        · exact nown c b hc z
        · rw [hc] at z; cases z; exact hb rfl
end
structure Un (fs ex : List Addr) (H H' : Hp) (h h' : Heap) : Prop where
  keep : ∀ b o, h.get? b = some o → H b = none → b ∉ fs → b ∉ ex → h'.get? b = some o
  slot : ∀ b o, h.get? b = some o → H b = none → b ∈ fs → b ∉ ex → ∃ sl, h'.get? b = some { o with slots := sl }
  free : ∀ b o, h.get? b = some o → H b = none → b ∉ ex → H' b = none
  there : ∀ b o, h.get? b = some o → b ∉ ex → ∃ o', h'.get? b = some o'
  tups : ∀ b xs, H b = some (.tup xs) → H' b = some (.tup xs)
  frzs : ∀ b o u, H b = some (.frz o u) → H' b = some (.frz o u)
  tbls : ∀ b ps, H b = some (.tbl ps) → ∃ more, H' b = some (.tbl (ps ++ more))
section
variable {fs fs' ex ex' : List Addr} {H H1 H2 : Hp} {h h1 h2 h' : Heap} {a x e : Addr} {o : HO}
theorem Un.any (u : Un fs ex H H1 h h1) {b : Addr} {ob : Obj} (q : h.get? b = some ob) (n : H b = none) (hx : b ∉ ex) : ∃ sl, h1.get? b = some { ob with slots := sl } := by
  by_cases hb : b ∈ fs
  · exact u.slot b ob q n hb hx
  · exact ⟨ob.slots, u.keep b ob q n hb hx⟩
theorem Un.trans (a : Un fs ex H H1 h h1) (b : Un fs ex H1 H2 h1 h2) : Un fs ex H H2 h h2 where
  keep := fun c ob q n hc hx => b.keep c ob (a.keep c ob q n hc hx) (a.free c ob q n hx) hc hx
  slot := fun c ob q n hc hx => by
    obtain ⟨sl, e1⟩ := a.slot c ob q n hc hx
    obtain ⟨sl', e2⟩ := b.slot c _ e1 (a.free c ob q n hx) hc hx
    exact ⟨sl', e2⟩
  free := fun c ob q n hx => by
    obtain ⟨o', e1⟩ := a.there c ob q hx
    exact b.free c o' e1 (a.free c ob q n hx) hx
  there := fun c ob q hx => by
    obtain ⟨o', e1⟩ := a.there c ob q hx
    exact b.there c o' e1 hx
  tups := fun c xs q => b.tups c xs (a.tups c xs q)
  frzs := fun c ob xs q => b.frzs c ob xs (a.frzs c ob xs q)
  tbls := fun c ps q => by
    obtain ⟨m1, e1⟩ := a.tbls c ps q
    obtain ⟨m2, e2⟩ := b.tbls c _ e1
    exact ⟨m1 ++ m2, by rw [e2, Array.append_assoc]⟩
theorem Un.kept (k : ∀ b u, h.get? b = some u → h'.get? b = some u) : Un fs ex H H h h' :=
  ⟨fun b ob q _ _ _ => k b ob q, fun b ob q _ _ _ => ⟨ob.slots, k b ob q⟩, fun _ _ _ n _ => n, fun b ob q _ => ⟨ob, k b ob q⟩, fun _ _ q => q, fun _ _ _ q => q, fun _ ps q => ⟨#[], by rw [q]; simp⟩⟩
theorem Un.refl : Un fs ex H H h h := Un.kept fun _ _ q => q
theorem Un.laid (k : ∀ b u, h.get? b = some u → h'.get? b = some u) (hp : h.objs.size ≤ a) (hn : H a = none) : Un fs ex H (upd H a o) h h' where
  keep := fun b u q _ _ _ => k b u q
  slot := fun b u q _ _ _ => ⟨u.slots, k b u q⟩
  free := fun b u q n _ => by rw [upd_ne (Nat.ne_of_lt (Nat.lt_of_lt_of_le (Heap.lt_size q) hp))]; exact n
  there := fun b u q _ => ⟨u, k b u q⟩
  tups := fun b xs q => by rw [upd_ne (ne_of_none q hn)]; exact q
  frzs := fun b u xs q => by rw [upd_ne (ne_of_none q hn)]; exact q
  tbls := fun b ps q => ⟨#[], by rw [upd_ne (ne_of_none q hn), q]; simp⟩
theorem Un.write (mu : Mut (H x)) (he : e = x ∨ H e = some (.own x)) (k : ∀ b u, b ≠ e → h.get? b = some u → h'.get? b = some u) (heo : ∃ u, h'.get? e = some u) : Un fs ex H (upd H x o) h h' := by
  have hx : ∀ b, H b = none → b ≠ x := fun b n z => by subst z; rw [n] at mu; exact mu
  have hb : ∀ b, H b = none → b ≠ e := fun b n z => by
    subst z
    rcases he with r | r
    · exact hx b n r
    · rw [n] at r; cases r
  have hm : ∀ b u, H b = some u → ¬ Mut (some u) → b ≠ x := fun b u q nm z => by subst z; rw [q] at mu; exact nm mu
  refine ⟨fun b u q n _ _ => k b u (hb b n) q, fun b u q n _ _ => ⟨u.slots, k b u (hb b n) q⟩, fun b u q n _ => by rw [upd_ne (hx b n)]; exact n, fun b u q _ => ?_,
    fun b xs q => by rw [upd_ne (hm b _ q fun z => z)]; exact q, fun b u xs q => by rw [upd_ne (hm b _ q fun z => z)]; exact q, fun b ps q => ⟨#[], by rw [upd_ne (hm b _ q fun z => z), q]; simp⟩⟩
  by_cases hbe : b = e
  · subst hbe; exact heo
  · exact ⟨u, k b u hbe q⟩
theorem Un.mono (u : Un fs ex H H1 h h1) (hs : ∀ b ∈ fs, b ∈ fs') (hx : ∀ b ∈ ex, b ∈ ex') : Un fs' ex' H H1 h h1 :=
  ⟨fun b ob q n hb he => u.keep b ob q n (fun z => hb (hs b z)) fun z => he (hx b z), fun _ _ q n _ he => u.any q n fun z => he (hx _ z), fun b ob q n he => u.free b ob q n fun z => he (hx b z), fun b ob q he => u.there b ob q fun z => he (hx b z), u.tups, u.frzs, u.tbls⟩
end
noncomputable def trk (h : Heap) (H : Hp) : List Addr := (List.range h.objs.size).filter fun a => (H a).isSome
noncomputable def hidT (h : Heap) (H : Hp) : Heap := PySem.W.hideAll h (trk h H)
theorem hidT_size (h : Heap) (H : Hp) : (hidT h H).objs.size = h.objs.size := PySem.W.hideAll_size _ _
theorem hidT_get {h : Heap} {H : Hp} {b : Addr} {o : Obj} (e : h.get? b = some o) (n : H b = none) : (hidT h H).get? b = some o :=
  PySem.W.hideAll_get _ e fun hm => by
    have q : (H b).isSome = true := (List.mem_filter.mp hm).2
    rw [n] at q; simp at q
theorem of_hidT {h : Heap} {H : Hp} {b : Addr} {o : Obj} (e : (hidT h H).get? b = some o) : h.get? b = some o ∧ H b = none := by
  have e' : h.get? b = some o := PySem.W.of_hideAll (trk h H) e
  refine ⟨e', ?_⟩
  cases q : H b with
  | none => rfl
  | some x =>
    have hm : b ∈ trk h H := List.mem_filter.mpr ⟨List.mem_range.mpr (Heap.lt_size e'), by simp [q]⟩
    have z : (hidT h H).get? b = none := PySem.W.hideAll_none (trk h H) hm
    rw [z] at e; cases e
noncomputable def allNews (g h : Heap) (L : Addr) : List (Addr × Obj) := (List.range h.objs.size).filterMap fun a => if a = L ∨ (g.get? a).isSome = true then none else (h.get? a).map fun o => (a, o)
noncomputable def rest (g h : Heap) (L d : Addr) : List (Addr × Obj) := (allNews g h L).filter fun p => decide (p.1 ≠ d)
end L2
namespace L2
open PySem PySem.Spec PyProof.Rows
structure Mod (K : PySem.W.Frag) (mg : Str → Option Value) (base : Heap) : Prop where
  kin : K.In base
  glob : base.Ns mainGlobals mg
  blt : ∃ mb, base.Ns builtinsNs mb ∧ ∀ x : Str, x ≠ "__name__" → mb x = bootBuiltins x
  nolimit : base.NoLimit
structure Cx where
  prog : Program
  w : World
  K : PySem.W.Frag
  mg : Str → Option Value
  base : Heap
  A : Around
  N : List Str
  s₀ : Shared
  H₀ : Hp
  env : Env
  outer : List Env
  stack : List Env
  ex : List Addr
  fn : Str → Bool
  calm : Bool
  pn : List (Addr × Obj)
  xe : Value → Shared → Prop
noncomputable def frs (l : List Env) : List Addr := l.filterMap (·.frame)
noncomputable abbrev Cx.fs (X : Cx) : List Addr := frs X.outer
noncomputable def Vis (sc : Scope) (x : Str) : Prop := sc.names.lookup x = some .local ∨ sc.names.lookup x = some .cell ∨ sc.names.lookup x = some .free
noncomputable def Loc (sc : Scope) (x : Str) : Prop := sc.names.lookup x = some .local ∨ sc.names.lookup x = some .cell
noncomputable def Look (env : Env) (h : Heap) (m : Str → Option Value) (x : Str) (u : Value) : Prop :=
  (env.kindOf x = some .local ∧ m x = some u) ∨ ((env.kindOf x = some .cell ∨ env.kindOf x = some .free) ∧ ∃ c, env.cells.lookup x = some c ∧ h.IsCell c (some u))
structure Cx.Ok (X : Cx) : Prop where
  mod : Mod X.K X.mg X.base
  kind : X.env.scope.kind = .function
  glob : X.env.globals = mainGlobals
  blt : X.env.builtins = builtinsNs
  above : X.s₀.heap.objs.size ≤ X.env.locals
  inj : ∀ x y c, X.env.cells.lookup x = some c → X.env.cells.lookup y = some c → x = y
  has : ∀ x, (X.env.kindOf x = some .cell ∨ X.env.kindOf x = some .free) → ∃ c, X.env.cells.lookup x = some c
  cab : ∀ x c, X.fn x = true → X.env.cells.lookup x = some c → X.s₀.heap.objs.size ≤ c
  hd : X.calm = true → X.A.handled = none
  frames : X.A.frames = some X.stack
  stk : X.stack = X.outer ∨ (X.stack = X.env :: X.outer ∧ X.env.frame = some X.env.locals)
  exf : ∀ b ∈ X.ex, b ≠ X.env.locals ∧ ∀ x c, X.env.cells.lookup x = some c → c ≠ b
  bs : ∀ b o, X.base.get? b = some o → X.s₀.heap.get? b = some o ∧ X.H₀ b = none
  bsz : X.base.objs.size ≤ X.s₀.heap.objs.size
  noex : ∀ b o, X.base.get? b = some o → b ∉ X.ex
  exfs : ∀ b ∈ X.ex, b ∉ X.fs
  funs : X.s₀.heap.FunFrames X.base X.outer
  frf : ∀ b ∈ X.fs, X.H₀ b = none
structure Inv (X : Cx) (pins : List (Addr × Obj)) (σ : List (Option V)) (H : Hp) (s : Shared) : Prop where
  ok : X.Ok
  os : s.os = X.s₀.os
  bare : AllBare s.gens
  base : Un X.fs X.ex X.H₀ H X.s₀.heap s.heap
  loc : ∃ m, s.heap.Ns X.env.locals m ∧ ∀ (i : Nat) (x : Str) (v : V), X.N[i]? = some x → σ[i]? = some (some v) → Vis X.env.scope x → ∃ u, RelV v u ∧ Look X.env s.heap m x u
  cell : ∀ x c, X.env.cells.lookup x = some c → ∃ v, s.heap.IsCell c v
  free : H X.env.locals = none
  freeC : ∀ x c, X.env.cells.lookup x = some c → H c = none
  pin : ∀ p ∈ X.pn ++ pins, s.heap.get? p.1 = some p.2 ∧ H p.1 = none ∧ p.1 ≠ X.env.locals ∧ p.1 ∉ X.fs ∧ ∀ v, p.2.data ≠ .cell v
  hok : HOk X.prog X.w H s.heap
  len : σ.length = X.N.length
section
variable {X : Cx} {pins : List (Addr × Obj)} {σ : List (Option V)} {H H' : Hp} {s : Shared} {h' : Heap}
theorem Cx.Ok.nofr (ok : X.Ok) {b : Addr} {o : Obj} (e : X.base.get? b = some o) : b ∉ X.fs := fun hb => by
  have := (ok.funs.mem hb).1
  rw [e] at this; cases this
theorem Inv.bs (I : Inv X pins σ H s) : ∀ b o, X.base.get? b = some o → s.heap.get? b = some o ∧ H b = none := fun b o e =>
  ⟨I.base.keep b o (I.ok.bs b o e).1 (I.ok.bs b o e).2 (I.ok.nofr e) (I.ok.noex b o e), I.base.free b o (I.ok.bs b o e).1 (I.ok.bs b o e).2 (I.ok.noex b o e)⟩
theorem Inv.bk (I : Inv X pins σ H s) : ∀ b o, X.base.get? b = some o → s.heap.get? b = some o := fun b o e => (I.bs b o e).1
theorem Inv.mod (I : Inv X pins σ H s) : Mod X.K X.mg X.base := I.ok.mod
theorem Inv.kIn (I : Inv X pins σ H s) : X.K.In s.heap := I.ok.mod.kin.keeps I.bk
theorem Inv.nolimit (I : Inv X pins σ H s) : s.heap.NoLimit := I.ok.mod.nolimit.keeps I.bk
theorem Inv.fr (I : Inv X pins σ H s) : ∃ m, Fr X.base X.env.locals s.heap m :=
  let ⟨m, hn, _⟩ := I.loc
  ⟨m, hn, I.bk, Nat.le_trans I.ok.bsz I.ok.above⟩
theorem Inv.lt (I : Inv X pins σ H s) : X.env.locals < s.heap.objs.size := let ⟨_, hn, _⟩ := I.loc; hn.lt
theorem Inv.sz (I : Inv X pins σ H s) : X.s₀.heap.objs.size ≤ s.heap.objs.size := Nat.le_trans I.ok.above (Nat.le_of_lt I.lt)
theorem Inv.nofs (I : Inv X pins σ H s) {a : Addr} (h : s.heap.objs.size ≤ a) : a ∉ X.fs := fun hb => by
  obtain ⟨_, o, ho, _⟩ := I.ok.funs.mem hb
  exact absurd (Nat.lt_of_lt_of_le (Heap.lt_size ho) (Nat.le_trans I.sz h)) (Nat.lt_irrefl _)
theorem Inv.cne (I : Inv X pins σ H s) : ∀ x c, X.env.cells.lookup x = some c → c ≠ X.env.locals := fun x c e z => by
  obtain ⟨v, o, ho, hd⟩ := I.cell x c e
  obtain ⟨m, ⟨o', es, ep, ho', hd', _⟩, _⟩ := I.loc
  rw [z, ho'] at ho; cases ho; rw [hd'] at hd; cases hd
theorem Inv.funs (I : Inv X pins σ H s) : s.heap.FunFrames X.base X.outer := by
  have all : ∀ (l : List Env), (∀ b ∈ frs l, b ∈ X.fs) → X.s₀.heap.FunFrames X.base l → s.heap.FunFrames X.base l := by
    intro l
    induction l with
    | nil => intro _ _; trivial
    | cons env r ih =>
      intro hs hl
      obtain ⟨hk, ⟨L, o, hf, hn, ho, hd⟩, hr⟩ := hl
      have hL : L ∈ X.fs := hs L (by unfold frs; rw [List.filterMap_cons, hf]; exact List.mem_cons_self)
      obtain ⟨sl, e⟩ := I.base.slot L o ho (I.ok.frf L hL) hL fun z => I.ok.exfs L z hL
      exact ⟨hk, ⟨L, _, hf, hn, e, hd⟩, ih (fun b hb => hs b (by unfold frs; rw [List.filterMap_cons, hf]; exact List.mem_cons_of_mem _ hb)) hr⟩
  exact all X.outer (fun _ hb => hb) I.ok.funs
theorem Inv.stack (I : Inv X pins σ H s) : s.heap.FunFrames X.base X.stack := by
  rcases I.ok.stk with e | ⟨e, hf⟩
  · rw [e]; exact I.funs
  · rw [e]
    obtain ⟨m, hn, _⟩ := I.loc
    refine .cons (by rw [I.ok.kind]; decide) hf hn ?_ I.funs
    exact Heap.get?_none_of_le (Nat.le_trans I.ok.bsz I.ok.above)
theorem Inv.stkSub (I : Inv X pins σ H s) : ∀ b ∈ frs X.stack, b ∈ X.env.locals :: X.fs := fun b hb => by
  rcases I.ok.stk with e | ⟨e, hf⟩
  · rw [e] at hb; exact List.mem_cons_of_mem _ hb
  · rw [e] at hb
    unfold frs at hb
    rw [List.filterMap_cons, hf] at hb
    exact hb
theorem Inv.stkFree (I : Inv X pins σ H s) : ∀ b ∈ frs X.stack, H b = none := fun b hb => by
  rcases List.mem_cons.mp (I.stkSub b hb) with e | hb
  · rw [e]; exact I.free
  · obtain ⟨_, o, ho, _⟩ := I.ok.funs.mem hb
    exact I.base.free b o ho (I.ok.frf b hb) fun z => I.ok.exfs b z hb
theorem Inv.step {g' : Array GenState} {t' : Nat} {d' : Drawn} {ch : List Addr} (I : Inv X pins σ H s)
    (hch : ∀ b ∈ ch, (b ∈ X.ex ∨ X.s₀.heap.objs.size ≤ b) ∧ b ≠ X.env.locals ∧ (∀ x c, X.env.cells.lookup x = some c → c ≠ b) ∧ ∀ p ∈ X.pn ++ pins, p.1 ≠ b)
    (keep : ∀ b o, b ≠ X.env.locals → b ∉ X.fs → b ∉ ch → s.heap.get? b = some o → H b = none → h'.get? b = some o)
    (slot : ∀ b o, b ≠ X.env.locals → b ∈ X.fs → b ∉ ch → s.heap.get? b = some o → H b = none → ∃ sl, h'.get? b = some { o with slots := sl }) (free : ∀ b o, b ∉ ch → s.heap.get? b = some o → H b = none → H' b = none)
    (there : ∀ b o, b ∉ ch → s.heap.get? b = some o → ∃ o', h'.get? b = some o')
    (tups : ∀ b xs, H b = some (.tup xs) → H' b = some (.tup xs)) (frzs : ∀ b o u, H b = some (.frz o u) → H' b = some (.frz o u)) (tbls : ∀ b ps, H b = some (.tbl ps) → ∃ more, H' b = some (.tbl (ps ++ more)))
    (ns : ∀ m, s.heap.Ns X.env.locals m → h'.Ns X.env.locals m) (hok : HOk X.prog X.w H' h') (hg : AllBare g') :
    Inv X pins σ H' { s with heap := h', gens := g', drawn := d', toks := t' } := by
  have neL : ∀ b o, X.s₀.heap.get? b = some o → b ≠ X.env.locals := fun b o e => Nat.ne_of_lt (Nat.lt_of_lt_of_le (Heap.lt_size e) I.ok.above)
  have neC : ∀ b o, X.s₀.heap.get? b = some o → b ∉ X.ex → b ∉ ch := fun b o e hx hb => by
    rcases (hch b hb).1 with z | z
    · exact hx z
    · exact absurd (Nat.lt_of_lt_of_le (Heap.lt_size e) z) (Nat.lt_irrefl _)
  have cellK : ∀ x c, X.env.cells.lookup x = some c → ∀ v, s.heap.IsCell c v → h'.IsCell c v := fun x c e v ⟨o, ho, hd⟩ => by
    have nch : c ∉ ch := fun z => (hch c z).2.2.1 x c e rfl
    by_cases hc : c ∈ X.fs
    · obtain ⟨sl, q⟩ := slot c o (I.cne x c e) hc nch ho (I.freeC x c e)
      exact ⟨_, q, hd⟩
    · exact ⟨o, keep c o (I.cne x c e) hc nch ho (I.freeC x c e), hd⟩
  refine ⟨I.ok, I.os, hg, ⟨fun b o e n hb hx => ?_, fun b o e n hb hx => ?_, fun b o e n hx => ?_, fun b o e hx => ?_, fun b xs e => tups b xs (I.base.tups b xs e), fun b o xs e => frzs b o xs (I.base.frzs b o xs e), fun b ps e => ?_⟩, ?_, fun x c e => ?_, ?_, fun x c e => ?_, fun p hp => ?_, hok, I.len⟩
  · exact keep b o (neL b o e) hb (neC b o e hx) (I.base.keep b o e n hb hx) (I.base.free b o e n hx)
  · obtain ⟨sl, e1⟩ := I.base.slot b o e n hb hx
    obtain ⟨sl', e2⟩ := slot b _ (neL b o e) hb (neC b o e hx) e1 (I.base.free b o e n hx)
    exact ⟨sl', e2⟩
  · obtain ⟨o', e1⟩ := I.base.there b o e hx
    exact free b o' (neC b o e hx) e1 (I.base.free b o e n hx)
  · obtain ⟨o', e1⟩ := I.base.there b o e hx
    exact there b o' (neC b o e hx) e1
  · obtain ⟨m1, e1⟩ := I.base.tbls b ps e
    obtain ⟨m2, e2⟩ := tbls b _ e1
    exact ⟨m1 ++ m2, by rw [e2, Array.append_assoc]⟩
  · obtain ⟨m, hn, hl⟩ := I.loc
    refine ⟨m, ns m hn, fun i x v e1 e2 e3 => ?_⟩
    obtain ⟨u, r, l⟩ := hl i x v e1 e2 e3
    refine ⟨u, r, ?_⟩
    rcases l with l | ⟨k, c, e, z⟩
    · exact .inl l
    · exact .inr ⟨k, c, e, cellK x c e _ z⟩
  · obtain ⟨v, z⟩ := I.cell x c e
    exact ⟨v, cellK x c e v z⟩
  · obtain ⟨m, ⟨o, _, _, ho, _⟩, _⟩ := I.loc
    exact free _ o (fun z => (hch _ z).2.1 rfl) ho I.free
  · obtain ⟨v, o, ho, hd⟩ := I.cell x c e
    exact free c o (fun z => (hch c z).2.2.1 x c e rfl) ho (I.freeC x c e)
  · obtain ⟨e, n, ne, nf, d⟩ := I.pin p hp
    have nch : p.1 ∉ ch := fun z => (hch p.1 z).2.2.2 p hp rfl
    exact ⟨keep p.1 p.2 ne nf nch e n, free p.1 p.2 nch e n, ne, nf, d⟩
theorem Inv.un {t' : Nat} (I : Inv X pins σ H s) (u : Un X.fs [] H H' s.heap h') (hok : HOk X.prog X.w H' h') : Inv X pins σ H' { s with heap := h', toks := t' } := by
  obtain ⟨m, ⟨o, es, ep, ho, r⟩, _⟩ := id I.loc
  obtain ⟨sl, hL⟩ := u.any ho I.free (by simp)
  exact I.step (g' := s.gens) (d' := s.drawn) (ch := []) (fun _ z => nomatch z) (fun b o _ hb _ e n => u.keep b o e n hb (by simp)) (fun b o _ hb _ e n => u.slot b o e n hb (by simp)) (fun b o _ e n => u.free b o e n (by simp)) (fun b o _ e => u.there b o e (by simp)) u.tups u.frzs u.tbls (fun m' hm => by
    obtain ⟨o', es', ep', ho', r'⟩ := hm
    rw [ho] at ho'; cases ho'
    exact ⟨_, es', ep', hL, r'⟩) hok I.bare
theorem Inv.call {g' : Array GenState} {t' : Nat} {d' : Drawn} {ch : List Addr} (I : Inv X pins σ H s) (u : Un (frs X.stack) ch H H' s.heap h') (hok : HOk X.prog X.w H' h') (hg : AllBare g')
    (hch : ∀ b ∈ ch, (b ∈ X.ex ∨ X.s₀.heap.objs.size ≤ b) ∧ b ≠ X.env.locals ∧ (∀ x c, X.env.cells.lookup x = some c → c ≠ b) ∧ ∀ p ∈ X.pn ++ pins, p.1 ≠ b) :
    Inv X pins σ H' { s with heap := h', gens := g', drawn := d', toks := t' } := by
  obtain ⟨m, ⟨o, es, ep, ho, r⟩, _⟩ := id I.loc
  obtain ⟨sl, hL⟩ := u.any ho I.free fun z => (hch _ z).2.1 rfl
  exact I.step (ch := ch) hch (fun b o hL hb hc e n => u.keep b o e n (fun z => (List.mem_cons.mp (I.stkSub b z)).elim hL hb) hc) (fun b o _ _ hc e n => u.any e n hc) (fun b o hc e n => u.free b o e n hc) (fun b o hc e => u.there b o e hc) u.tups u.frzs u.tbls (fun m' hm => by
    obtain ⟨o', es', ep', ho', r'⟩ := hm
    rw [ho] at ho'; cases ho'
    exact ⟨_, es', ep', hL, r'⟩) hok hg
theorem Inv.turned {t' : Nat} {it : Addr} (I : Inv X pins σ H s) (k : ∀ b o, b ≠ it → s.heap.get? b = some o → h'.get? b = some o) (hn : H it = none) (hL : it ≠ X.env.locals)
    (h1 : it ∈ X.ex ∨ X.s₀.heap.objs.size ≤ it) (h2 : ∀ x c, X.env.cells.lookup x = some c → c ≠ it) (h3 : ∀ p ∈ X.pn ++ pins, p.1 ≠ it) : Inv X pins σ H { s with heap := h', toks := t' } := by
  have nit : ∀ b u, H b = some u → b ≠ it := fun b u e z => by rw [z, hn] at e; cases e
  refine I.step (g' := s.gens) (d' := s.drawn) (ch := [it]) (fun b hb => ?_) (fun b o _ _ hc e _ => k b o (fun z => hc (by simp [z])) e) (fun b o _ _ hc e _ => ⟨o.slots, k b o (fun z => hc (by simp [z])) e⟩) (fun _ _ _ _ n => n)
    (fun b o hc e => ⟨o, k b o (fun z => hc (by simp [z])) e⟩) (fun _ _ e => e) (fun _ _ _ e => e) (fun b ps e => ⟨#[], by rw [e]; simp⟩) (fun m hm => ?_) (fun b u e => ?_) I.bare
  · have e : b = it := by simpa using hb
    subst e
    exact ⟨h1, hL, h2, h3⟩
  · obtain ⟨o, es, ep, ho, r⟩ := hm
    exact ⟨o, es, ep, k _ o (Ne.symm hL) ho, r⟩
  · refine (I.hok b u e).stay (fun c v hc q => k c v ?_ q) (fun _ q => q) fun _ _ q => q
    rcases hc with z | z
    · rw [z]; exact nit b u e
    · exact nit c _ z
theorem Inv.tok (I : Inv X pins σ H s) (t : Nat) : Inv X pins σ H { s with toks := t } := I.un (h' := s.heap) (t' := t) Un.refl I.hok
theorem Inv.kept {t' : Nat} (I : Inv X pins σ H s) (k : ∀ b u, s.heap.get? b = some u → h'.get? b = some u) : Inv X pins σ H { s with heap := h', toks := t' } := I.un (Un.kept k) (I.hok.kept k)
theorem Inv.laid {a : Addr} {o : HO} {t' : Nat} (I : Inv X pins σ H s) (k : ∀ b u, s.heap.get? b = some u → h'.get? b = some u) (hp : s.heap.objs.size ≤ a) (new : ObjOk X.prog X.w (upd H a o) h' a o) :
    Inv X pins σ (upd H a o) { s with heap := h', toks := t' } := I.un (Un.laid k hp (I.hok.fresh hp)) (I.hok.laid k hp new)
theorem Inv.write {x e : Addr} {o : HO} {t' : Nat} (I : Inv X pins σ H s) (mu : Mut (H x)) (he : e = x ∨ H e = some (.own x)) (k : ∀ b u, b ≠ e → s.heap.get? b = some u → h'.get? b = some u) (heo : ∃ u, h'.get? e = some u)
    (new : ObjOk X.prog X.w (upd H x o) h' x o) : Inv X pins σ (upd H x o) { s with heap := h', toks := t' } := I.un (Un.write mu he k heo) (I.hok.write mu he k heo new)
theorem Inv.pins_of {pins' : List (Addr × Obj)} (I : Inv X pins σ H s) (h : ∀ p ∈ pins', s.heap.get? p.1 = some p.2 ∧ H p.1 = none ∧ p.1 ≠ X.env.locals ∧ p.1 ∉ X.fs ∧ ∀ v, p.2.data ≠ .cell v) : Inv X pins' σ H s :=
  ⟨I.ok, I.os, I.bare, I.base, I.loc, I.cell, I.free, I.freeC, fun p hp => (List.mem_append.mp hp).elim (fun z => I.pin p (List.mem_append_left _ z)) (h p), I.hok, I.len⟩
theorem nodup_ix {N : List Str} (hN : N.Nodup) {i j : Nat} {x : Str} (a : N[i]? = some x) (b : N[j]? = some x) : i = j := by
  obtain ⟨h1, e1⟩ := List.getElem?_eq_some_iff.mp a
  obtain ⟨h2, e2⟩ := List.getElem?_eq_some_iff.mp b
  exact (List.getElem_inj hN).mp (e1.trans e2.symm)
theorem store_ok2 {M : Model} {A : Around} {E : Value → Shared → Prop} {i : Nat} {x : Str} {v : V} {u : Value} {Q : Unit → Shared → Prop} (I : Inv X pins σ H s) (hN : X.N.Nodup) (hi : X.N[i]? = some x) (hx : Loc X.env.scope x) (r : RelV v u)
    (h : ∀ s', Inv X pins (σ.set i (some v)) H s' → (∃ a, Heap.SameBut a s.heap s'.heap ∧ (a = X.env.locals ∨ X.env.cells.lookup x = some a)) → Q () s') (hf : X.fn x = true ∨ X.env.scope.names.lookup x = some .local := by first | exact .inl rfl | exact .inr rfl | assumption) : wpAny M A (storeName X.env x u) Q E s := by
  obtain ⟨m, hn, hl⟩ := id I.loc
  have hcls : (X.env.scope.kind == .class || (X.env.scope.kind == .module && X.env.locals != X.env.globals)) = false := by rw [I.ok.kind]; rfl
  have hiσ : i < σ.length := by rw [I.len]; exact (List.getElem?_eq_some_iff.mp hi).1
  have cne := I.cne
  have tracked : ∀ {a : Addr} {h' : Heap}, (∃ o, s.heap.get? a = some o ∧ H a = none) → Heap.SameBut a s.heap h' → HOk X.prog X.w H h' := fun {a h'} ha hs b ob e => by
    obtain ⟨_, _, hfree⟩ := ha
    refine (I.hok b ob e).stay (fun c w' hc q => (hs.2 c ?_).trans q) (fun _ q => q) fun _ _ q => q
    rintro rfl
    rcases hc with rfl | hc
    · rw [hfree] at e; cases e
    · rw [hfree] at hc; cases hc
  rcases hx with hk | hk
  · refine wpAny_storeName_local hk hn (fun h' hn' hs => ?_) hcls
    obtain ⟨oL, _, _, hoL, _⟩ := id hn
    refine h _ ⟨I.ok, I.os, I.bare, ⟨fun b o e n hb hx => ?_, fun b o e n hb hx => ?_, I.base.free, fun b o e hx => ?_, I.base.tups, I.base.frzs, I.base.tbls⟩, ⟨_, hn', fun j y v' e1 e2 e3 => ?_⟩, fun y c e => ?_, I.free, I.freeC, fun p hp => ?_, tracked ⟨oL, hoL, I.free⟩ hs, by simpa using I.len⟩ ⟨_, hs, .inl rfl⟩
    · exact (hs.2 b (Nat.ne_of_lt (Nat.lt_of_lt_of_le (Heap.lt_size e) I.ok.above))).trans (I.base.keep b o e n hb hx)
    · obtain ⟨sl, e1⟩ := I.base.slot b o e n hb hx
      exact ⟨sl, (hs.2 b (Nat.ne_of_lt (Nat.lt_of_lt_of_le (Heap.lt_size e) I.ok.above))).trans e1⟩
    · obtain ⟨o', e1⟩ := I.base.there b o e hx
      exact ⟨o', (hs.2 b (Nat.ne_of_lt (Nat.lt_of_lt_of_le (Heap.lt_size e) I.ok.above))).trans e1⟩
    · by_cases hj : j = i
      · subst hj
        rw [hi] at e1; cases e1
        rw [List.getElem?_set_self hiσ] at e2
        cases e2
        exact ⟨u, r, .inl ⟨hk, by simp⟩⟩
      · rw [List.getElem?_set_ne (Ne.symm hj)] at e2
        obtain ⟨u', r', q⟩ := hl j y v' e1 e2 e3
        refine ⟨u', r', ?_⟩
        rcases q with ⟨k, e⟩ | ⟨k, c, e, z⟩
        · refine .inl ⟨k, ?_⟩
          have : y ≠ x := fun e => hj (nodup_ix hN e1 (e ▸ hi))
          simp [this, e]
        · exact .inr ⟨k, c, e, z.sameBut hs (cne y c e)⟩
    · obtain ⟨w', z⟩ := I.cell y c e
      exact ⟨w', z.sameBut hs (cne y c e)⟩
    · obtain ⟨e, n, ne, nf, d⟩ := I.pin p hp
      exact ⟨(hs.2 p.1 ne).trans e, n, ne, nf, d⟩
  · have hfn : X.fn x = true := by
      rcases hf with z | z
      · exact z
      · rw [z] at hk; cases hk
    obtain ⟨c, hc⟩ := I.ok.has x (.inl hk)
    obtain ⟨w', z⟩ := I.cell x c hc
    refine wpAny_storeName_cell I.ok.kind hk hc z (fun h' hc' hs => ?_)
    obtain ⟨oc, hoc, hocd⟩ := id z
    refine h { s with heap := h' } ⟨I.ok, I.os, I.bare, ⟨fun b o e n hb hx => ?_, fun b o e n hb hx => ?_, I.base.free, fun b o e hx => ?_, I.base.tups, I.base.frzs, I.base.tbls⟩, ⟨m, hn.sameBut hs (Ne.symm (cne x c hc)), fun j y v' e1 e2 e3 => ?_⟩, fun y c' e => ?_, I.free, I.freeC, fun p hp => ?_, tracked ⟨oc, hoc, I.freeC x c hc⟩ hs, by simpa using I.len⟩ ⟨c, hs, .inr hc⟩
    · exact (hs.2 b (Nat.ne_of_lt (Nat.lt_of_lt_of_le (Heap.lt_size e) (I.ok.cab x c hfn hc)))).trans (I.base.keep b o e n hb hx)
    · obtain ⟨sl, e1⟩ := I.base.slot b o e n hb hx
      exact ⟨sl, (hs.2 b (Nat.ne_of_lt (Nat.lt_of_lt_of_le (Heap.lt_size e) (I.ok.cab x c hfn hc)))).trans e1⟩
    · obtain ⟨o', e1⟩ := I.base.there b o e hx
      exact ⟨o', (hs.2 b (Nat.ne_of_lt (Nat.lt_of_lt_of_le (Heap.lt_size e) (I.ok.cab x c hfn hc)))).trans e1⟩
    · by_cases hj : j = i
      · subst hj
        rw [hi] at e1; cases e1
        rw [List.getElem?_set_self hiσ] at e2
        cases e2
        exact ⟨u, r, .inr ⟨.inl hk, c, hc, hc'⟩⟩
      · rw [List.getElem?_set_ne (Ne.symm hj)] at e2
        obtain ⟨u', r', q⟩ := hl j y v' e1 e2 e3
        refine ⟨u', r', ?_⟩
        rcases q with q | ⟨k, c', e, z'⟩
        · exact .inl q
        · refine .inr ⟨k, c', e, z'.sameBut hs ?_⟩
          rintro rfl
          exact hj (nodup_ix hN e1 (I.ok.inj _ _ _ e hc ▸ hi))
    · by_cases hcc : c' = c
      · subst hcc; exact ⟨_, hc'⟩
      · obtain ⟨w2, z2⟩ := I.cell y c' e
        exact ⟨w2, z2.sameBut hs hcc⟩
    · obtain ⟨e, n, ne, nf, d⟩ := I.pin p hp
      refine ⟨(hs.2 p.1 ?_).trans e, n, ne, nf, d⟩
      intro q
      rw [q, hoc] at e
      have q' : oc = p.2 := Option.some.inj e
      exact d w' (by rw [← q']; exact hocd)
theorem store_ok {M : Model} {A : Around} {E : Value → Shared → Prop} {i : Nat} {x : Str} {v : V} {u : Value} {Q : Unit → Shared → Prop} (I : Inv X pins σ H s) (hN : X.N.Nodup) (hi : X.N[i]? = some x) (hx : Loc X.env.scope x) (r : RelV v u)
    (h : ∀ s', Inv X pins (σ.set i (some v)) H s' → Q () s') (hf : X.fn x = true ∨ X.env.scope.names.lookup x = some .local := by first | exact .inl rfl | exact .inr rfl | assumption) : wpAny M A (storeName X.env x u) Q E s :=
  store_ok2 I hN hi hx r (fun s' I' _ => h s' I') hf
theorem Inv.call' {s' : Shared} {ch : List Addr} (I : Inv X pins σ H s) (ho : s'.os = s.os) (u : Un (frs X.stack) ch H H' s.heap s'.heap) (hok : HOk X.prog X.w H' s'.heap) (hg : AllBare s'.gens)
    (hch : ∀ b ∈ ch, (b ∈ X.ex ∨ X.s₀.heap.objs.size ≤ b) ∧ b ≠ X.env.locals ∧ (∀ x c, X.env.cells.lookup x = some c → c ≠ b) ∧ ∀ p ∈ X.pn ++ pins, p.1 ≠ b) : Inv X pins σ H' s' := by
  obtain ⟨h', g', d', t', o'⟩ := s'
  have e : o' = s.os := ho
  subst e
  exact I.call (g' := g') (t' := t') (d' := d') u hok hg hch
end
noncomputable abbrev XK := Value → Option Addr → Hp → Prop
noncomputable abbrev St := List (Option V)
noncomputable abbrev VK := V → Hp → Prop
noncomputable abbrev TE := St → Hp → VK → Prop
noncomputable abbrev TT := St → Hp → (Bool → Hp → Prop) → Prop
noncomputable abbrev TA := St → Hp → (List V → Hp → Prop) → Prop
structure Ends where
  nx : St → Hp → Prop
  rt : VK
  bk : St → Hp → Prop := fun _ _ => False
  ct : St → Hp → Prop := fun _ _ => False
noncomputable abbrev TS := Ends → St → Hp → Prop
noncomputable def EP (X : Cx) (pins : List (Addr × Obj)) (σ : St) (Q : VK) (u : Value) (s' : Shared) : Prop := ∃ v H', Inv X pins σ H' s' ∧ RelV v u ∧ Q v H'
noncomputable def TP (X : Cx) (pins : List (Addr × Obj)) (σ : St) (Q : Bool → Hp → Prop) (b : Bool) (s' : Shared) : Prop := ∃ H', Inv X pins σ H' s' ∧ Q b H'
noncomputable def AP (X : Cx) (pins : List (Addr × Obj)) (σ : St) (Q : List V → Hp → Prop) (us : List Value) (s' : Shared) : Prop := ∃ vs H', Inv X pins σ H' s' ∧ Vals vs us ∧ Q vs H'
noncomputable def SP (X : Cx) (pins : List (Addr × Obj)) (D : Ends) (f : Flow) (s' : Shared) : Prop :=
  match f with
  | .next => ∃ σ' H', Inv X pins σ' H' s' ∧ D.nx σ' H'
  | .brk => ∃ σ' H', Inv X pins σ' H' s' ∧ D.bk σ' H'
  | .cont => ∃ σ' H', Inv X pins σ' H' s' ∧ D.ct σ' H'
  | .ret u => ∃ v σ' H', Inv X pins σ' H' s' ∧ RelV v u ∧ D.rt v H'
noncomputable def PE (X : Cx) (e : Expr) (t : TE) : Prop :=
  ∀ (pins : List (Addr × Obj)) (s : Shared) (σ : St) (H : Hp) (Q : VK), Inv X pins σ H s → t σ H Q → wpAny (model X.prog X.w) X.A (eval e X.env) (EP X pins σ Q) X.xe s
noncomputable def PT (X : Cx) (e : Expr) (t : TT) : Prop :=
  ∀ (pins : List (Addr × Obj)) (s : Shared) (σ : St) (H : Hp) (Q : Bool → Hp → Prop), Inv X pins σ H s → t σ H Q → wpAny (model X.prog X.w) X.A (isTrue e X.env (eval e X.env)) (TP X pins σ Q) X.xe s
noncomputable def PW (X : Cx) (e : Expr) (t : TT) : Prop :=
  ∀ (whole : Sem Value) (pins : List (Addr × Obj)) (s : Shared) (σ : St) (H : Hp) (Q : Bool → Hp → Prop), Inv X pins σ H s → t σ H Q → wpAny (model X.prog X.w) X.A (isTrue e X.env whole) (TP X pins σ Q) X.xe s
theorem PW.pt {X : Cx} {e : Expr} {t : TT} (h : PW X e t) : PT X e t := h _
noncomputable def PA (X : Cx) (es : List Expr) (t : TA) : Prop :=
  ∀ (pos : Pos) (pins : List (Addr × Obj)) (s : Shared) (σ : St) (H : Hp) (Q : List V → Hp → Prop), Inv X pins σ H s → t σ H Q → wpAny (model X.prog X.w) X.A (spliced (backTo pos (starEach es X.env))) (AP X pins σ Q) X.xe s
noncomputable def PS (X : Cx) (st : Stmt) (t : TS) : Prop :=
  ∀ (pins : List (Addr × Obj)) (s : Shared) (σ : St) (H : Hp) (D : Ends), Inv X pins σ H s → t D σ H → wpAny (model X.prog X.w) X.A (exec st X.env) (SP X pins D) X.xe s
noncomputable def PSs (X : Cx) (st : List Stmt) (t : TS) : Prop :=
  ∀ (pins : List (Addr × Obj)) (s : Shared) (σ : St) (H : Hp) (D : Ends), Inv X pins σ H s → t D σ H → wpAny (model X.prog X.w) X.A (execs st X.env) (SP X pins D) X.xe s
theorem thn {α : Type} {t : Sem α} {Q Q' : α → Shared → Prop} {M : Model} {A : Around} {E : Value → Shared → Prop} {s : Shared} (h : wpAny M A t Q E s) (hQ : ∀ a s, Q a s → Q' a s) : wpAny M A t Q' E s := wpAny_mono h hQ fun _ _ x => x
end L2
namespace L2
open PySem PySem.Spec PyProof.Rows
section
variable {X : Cx}
noncomputable def tVar (i : Nat) : TE := fun σ H Q => ∃ v, σ[i]? = some (some v) ∧ Q v H
noncomputable def tC (v : V) : TE := fun _ H Q => Q v H
theorem pe_var {i : Nat} {x : Str} {pos : Pos} (hN : X.N[i]? = some x) (hv : Vis X.env.scope x) (hd : (x == ("__debug__" : Str)) = false := by decide) (hcd : (x == ("__classdict__" : Str)) = false := by decide) : PE X (.Name x pos) (tVar i) := by
  intro pins s σ H Q I h
  obtain ⟨v, e, h⟩ := h
  obtain ⟨m, hn, hl⟩ := I.loc
  obtain ⟨u, r, l⟩ := hl i x v hN e hv
  have fin : EP X pins σ Q u s := ⟨v, H, I, r, h⟩
  rcases l with ⟨hk, hm⟩ | ⟨hk, c, hc, hcell⟩
  · exact wpAny_Name (wpAny_loadName_local I.ok.kind hk hn hm fin) hd
  · rcases hk with hk | hk
    · exact wpAny_Name (wpAny_loadName_cell I.ok.kind hk hc hcell fin) hd
    · exact wpAny_Name (wpAny_loadName_free I.ok.kind hk hc hcell fin hcd) hd
theorem pe_int {i j pos} : PE X (.Constant (.int i) j pos) (tC (.int i)) := fun _ _ _ H _ I h => wpAny_Constant_int ⟨.int i, H, I.tok _, ⟨_, rfl⟩, h⟩
theorem pe_bl {b j pos} : PE X (.Constant (.bool b) j pos) (tC (.bl b)) := fun _ _ _ H _ I h => Constant_bool ⟨.bl b, H, I, rfl, h⟩
theorem pe_non {j pos} : PE X (.Constant .none j pos) (tC .non) := fun _ _ _ H _ I h => Constant_none ⟨.non, H, I, rfl, h⟩
theorem pe_str {x j pos} : PE X (.Constant (.str x) j pos) (tC (.str x)) := fun _ _ _ H _ I h => Calls.Constant_str ⟨.str x, H, I.tok _, ⟨_, rfl⟩, h⟩
noncomputable def Gl (X : Cx) (x : Str) : Prop := X.env.kindOf x = some .globalImplicit
theorem ld_glob {E : Value → Shared → Prop} {pins : List (Addr × Obj)} {s : Shared} {σ : St} {H : Hp} {x : Str} {u : Value} {pos : Pos} {Q : Value → Shared → Prop} (I : Inv X pins σ H s) (hg : Gl X x) (hm : X.mg x = some u) (h : Q u s)
    (hd : (x == ("__debug__" : Str)) = false := by decide) : wpAny (model X.prog X.w) X.A (eval (.Name x pos) X.env) Q E s :=
  Calls.Name_function_global I.ok.kind hg (Calls.loadGlobal_global (by rw [I.ok.glob]; exact I.mod.glob.keeps I.bk) hm h) hd
theorem ld_blt {E : Value → Shared → Prop} {pins : List (Addr × Obj)} {s : Shared} {σ : St} {H : Hp} {x : Str} {u : Value} {pos : Pos} {Q : Value → Shared → Prop} (I : Inv X pins σ H s) (hg : Gl X x) (hm : X.mg x = none) (hv : bootBuiltins x = some u) (h : Q u s)
    (hn : x ≠ "__name__" := by decide) (hd : (x == ("__debug__" : Str)) = false := by decide) : wpAny (model X.prog X.w) X.A (eval (.Name x pos) X.env) Q E s := by
  obtain ⟨mb, h1, h2⟩ := I.mod.blt
  exact Calls.Name_function_global I.ok.kind hg (Calls.loadGlobal_builtin (by rw [I.ok.glob]; exact I.mod.glob.keeps I.bk) hm (by rw [I.ok.blt]; exact h1.keeps I.bk) ((h2 x hn).trans hv) h) hd
theorem pe_bltn {x : Str} {v : V} {u : Value} {pos : Pos} (hg : Gl X x) (hm : X.mg x = none) (hv : bootBuiltins x = some u) (r : RelV v u) (hn : x ≠ "__name__" := by decide) (hd : (x == ("__debug__" : Str)) = false := by decide) : PE X (.Name x pos) (tC v) :=
  fun _ _ _ H _ I h => ld_blt I hg hm hv ⟨v, H, I, r, h⟩ hn hd
variable {a b : Expr} {ta tb : TE} {pos : Pos}
variable {tA tB' : TT} {rest : List Expr}
noncomputable def tAnd (t u : TT) : TT := fun σ H Q => t σ H fun c H1 => if c = true then u σ H1 Q else Q false H1
noncomputable def tOr (t u : TT) : TT := fun σ H Q => t σ H fun c H1 => if c = true then Q true H1 else u σ H1 Q
noncomputable def tNot (t : TT) : TT := fun σ H Q => t σ H fun c H1 => Q (!c) H1
theorem pw_and1 (ha : PT X a tA) : PW X (.BoolOp .And [a] pos) tA := by
  intro wh pins s σ H Q I h
  refine isTrue_and (thn (ha pins s σ H Q I h) fun c s1 e => ?_)
  cases c with
  | true => exact isTrue_and_nil e
  | false => exact e
theorem pw_or1 (ha : PT X a tA) : PW X (.BoolOp .Or [a] pos) tA := by
  intro wh pins s σ H Q I h
  refine isTrue_or (thn (ha pins s σ H Q I h) fun c s1 e => ?_)
  cases c with
  | false => exact isTrue_or_nil e
  | true => exact e
theorem pw_and (ha : PT X a tA) (hb : PW X (.BoolOp .And (b :: rest) pos) tB') : PW X (.BoolOp .And (a :: b :: rest) pos) (tAnd tA tB') := by
  intro wh pins s σ H Q I h
  refine isTrue_and (thn (ha pins s σ H _ I h) fun c s1 ⟨H1, I1, q1⟩ => ?_)
  cases c with
  | true => exact hb wh pins s1 σ H1 Q I1 q1
  | false => exact ⟨H1, I1, q1⟩
theorem pw_or (ha : PT X a tA) (hb : PW X (.BoolOp .Or (b :: rest) pos) tB') : PW X (.BoolOp .Or (a :: b :: rest) pos) (tOr tA tB') := by
  intro wh pins s σ H Q I h
  refine isTrue_or (thn (ha pins s σ H _ I h) fun c s1 ⟨H1, I1, q1⟩ => ?_)
  cases c with
  | true => exact ⟨H1, I1, q1⟩
  | false => exact hb wh pins s1 σ H1 Q I1 q1
theorem pt_not (ha : PT X a tA) : PT X (.UnaryOp .Not a pos) (tNot tA) := by
  intro pins s σ H Q I h
  exact isTrue_not (ha pins s σ H (fun c H1 => Q (!c) H1) I h)
noncomputable def tAndV (ta tb : TE) : TE := fun σ H Q => ta σ H fun x H1 => ∃ c, x = .bl c ∧ if c = true then tb σ H1 Q else Q (.bl false) H1
theorem pe_one {op} {t : TE} (h : PE X a t) : PE X (.BoolOp op [a] pos) t := fun pins s σ H Q I hw => BoolOp_one (h pins s σ H Q I hw)
theorem pe_and (ha : PE X a ta) (hb : PE X (.BoolOp .And (b :: rest) pos) tb) : PE X (.BoolOp .And (a :: b :: rest) pos) (tAndV ta tb) := by
  intro pins s σ H Q I h
  refine BoolOp_and (thn (ha pins s σ H _ I h) fun v s1 ⟨x, H1, I1, r1, q1⟩ => ?_)
  obtain ⟨c, rfl, q1⟩ := q1
  cases r1
  refine wpAny_truthy_bool ?_
  cases c with
  | true => exact hb pins s1 σ H1 Q I1 q1
  | false => exact ⟨.bl false, H1, I1, rfl, q1⟩
noncomputable def tIf (t : TT) (ta tb : TE) : TE := fun σ H Q => t σ H fun c H1 => if c = true then ta σ H1 Q else tb σ H1 Q
theorem pe_ifExp {c : Expr} (hc : PT X c tA) (ha : PE X a ta) (hb : PE X b tb) : PE X (.IfExp c a b pos) (tIf tA ta tb) := by
  intro pins s σ H Q I h
  refine wpAny_IfExp (thn (hc pins s σ H _ I h) fun d s1 ⟨H1, I1, q1⟩ => ?_)
  cases d with
  | true => exact ha pins s1 σ H1 Q I1 q1
  | false => exact hb pins s1 σ H1 Q I1 q1
end
end L2
namespace L2
open PySem PySem.Spec PyProof.Rows
noncomputable def SqL (K : PySem.W.Frag) (H : Hp) (a : Addr) (xs : List V) : Prop :=
  Rd H a (.lst xs) ∨
    ∃ (o : Obj) (its : Array Value) (n : Nat), K.lookup a = some o ∧ o.cls = .type "list" ∧ o.dict = none ∧ o.data = .seq its n ∧ its.size ≤ sizeLine ∧ Vals xs its.toList
noncomputable def SqT (K : PySem.W.Frag) (H : Hp) (a : Addr) (xs : List V) : Prop :=
  Rd H a (.tup xs) ∨
    ∃ (o : Obj) (its : Array Value) (n : Nat), K.lookup a = some o ∧ o.cls = .type "tuple" ∧ o.data = .seq its n ∧ its.size ≤ sizeLine ∧ Vals xs its.toList
noncomputable def absV : Value → Option V
  | .none => some .non
  | .bool b => some (.bl b)
  | .int i _ => some (.int i)
  | .str x _ => some (.str x)
  | .bytes b _ => some (.byt b)
  | .float b _ => some (.flt b)
  | .ref a => some (.ref a)
  | .type n => some (.ty n)
  | _ => none
theorem RelV.abs {x : V} {u : Value} (r : RelV x u) : absV u = some x := by
  cases x with
  | non => cases r; rfl
  | bl _ => cases r; rfl
  | int _ => obtain ⟨t, rfl⟩ := r; rfl
  | str _ => obtain ⟨t, rfl⟩ := r; rfl
  | byt _ => obtain ⟨t, rfl⟩ := r; rfl
  | flt _ => obtain ⟨t, rfl⟩ := r; rfl
  | ref _ => cases r; rfl
  | ty _ => cases r; rfl
theorem RelV.inj {x y : V} {u : Value} (r : RelV x u) (q : RelV y u) : x = y := Option.some.inj (r.abs.symm.trans q.abs)
theorem Vals.inj : ∀ {xs ys : List V} {us : List Value}, Vals xs us → Vals ys us → xs = ys
  | _, _, _, .nil, .nil => rfl
  | _, _, _, .cons r t, .cons r' t' => by rw [r.inj r', Vals.inj t t']
section
variable {X : Cx} {pins : List (Addr × Obj)} {σ : St} {H : Hp} {s : Shared} {a : Addr} {xs ys : List V}
theorem SqL.of {K : PySem.W.Frag} (h : H a = some (.lst xs)) : SqL K H a xs := .inl (.inl h)
theorem SqT.of {K : PySem.W.Frag} (h : H a = some (.tup xs)) : SqT K H a xs := .inl (.inl h)
theorem Inv.list (I : Inv X pins σ H s) (h : SqL X.K H a xs) : ∃ its : List Value, Vals xs its ∧ PlainL s.heap a its.toArray ∧ xs.length ≤ sizeLine := by
  rcases h with h | ⟨o, its, n, hk, hc, hd, hs, hz, r⟩
  · obtain ⟨z, its, n, r, e⟩ := h.ok I.hok
    exact ⟨its, r, ⟨_, n, e, rfl, rfl, rfl⟩, z⟩
  · refine ⟨its.toList, r, ⟨o, n, I.kIn a o hk, hc, hd, by simpa using hs⟩, ?_⟩
    have e := r.length
    simp only [Array.length_toList] at e
    omega
theorem Inv.tuple (I : Inv X pins σ H s) (h : SqT X.K H a xs) : ∃ its : List Value, Vals xs its ∧ IsTup s.heap a its.toArray ∧ xs.length ≤ sizeLine := by
  rcases h with h | ⟨o, its, n, hk, hc, hs, hz, r⟩
  · obtain ⟨z, its, r, p⟩ := h.ok I.hok
    exact ⟨its, r, p, z⟩
  · refine ⟨its.toList, r, ⟨o, I.kIn a o hk, hc, n, by simpa using hs⟩, ?_⟩
    have e := r.length
    simp only [Array.length_toList] at e
    omega
theorem Inv.list_inj (I : Inv X pins σ H s) (h : SqL X.K H a xs) (h' : SqL X.K H a ys) : xs = ys := by
  obtain ⟨its, r, ⟨o, n, e, _, _, d⟩, _⟩ := I.list h
  obtain ⟨its', r', ⟨o', n', e', _, _, d'⟩, _⟩ := I.list h'
  rw [e] at e'; cases e'
  rw [d] at d'
  injection d' with d1 _
  have : its = its' := by simpa using congrArg Array.toList d1
  subst this
  exact r.inj r'
theorem Inv.tuple_inj (I : Inv X pins σ H s) (h : SqT X.K H a xs) (h' : SqT X.K H a ys) : xs = ys := by
  obtain ⟨its, r, ⟨o, e, _, n, d⟩, _⟩ := I.tuple h
  obtain ⟨its', r', ⟨o', e', _, n', d'⟩, _⟩ := I.tuple h'
  rw [e] at e'; cases e'
  rw [d] at d'
  injection d' with d1 _
  have : its = its' := by simpa using congrArg Array.toList d1
  subst this
  exact r.inj r'
end
noncomputable abbrev Cx.wish (X : Cx) (E : Value → Shared → Prop) : Cx := { X with xe := E }
noncomputable abbrev Cx.nox (X : Cx) : Cx := X.wish fun _ _ => False
theorem Cx.Ok.wish {X : Cx} (ok : X.Ok) (E : Value → Shared → Prop) : (X.wish E).Ok :=
  ⟨ok.mod, ok.kind, ok.glob, ok.blt, ok.above, ok.inj, ok.has, ok.cab, ok.hd, ok.frames, ok.stk, ok.exf, ok.bs, ok.bsz, ok.noex, ok.exfs, ok.funs, ok.frf⟩
theorem Cx.Ok.unwish {X : Cx} {E : Value → Shared → Prop} (ok : (X.wish E).Ok) : X.Ok :=
  ⟨ok.mod, ok.kind, ok.glob, ok.blt, ok.above, ok.inj, ok.has, ok.cab, ok.hd, ok.frames, ok.stk, ok.exf, ok.bs, ok.bsz, ok.noex, ok.exfs, ok.funs, ok.frf⟩
section
variable {X : Cx} {pins : List (Addr × Obj)} {σ : St} {H : Hp} {s : Shared} {E : Value → Shared → Prop}
theorem Inv.wish (I : Inv X pins σ H s) (E : Value → Shared → Prop) : Inv (X.wish E) pins σ H s := ⟨I.ok.wish E, I.os, I.bare, I.base, I.loc, I.cell, I.free, I.freeC, I.pin, I.hok, I.len⟩
theorem Inv.unwish (I : Inv (X.wish E) pins σ H s) : Inv X pins σ H s := ⟨I.ok.unwish, I.os, I.bare, I.base, I.loc, I.cell, I.free, I.freeC, I.pin, I.hok, I.len⟩
theorem SP.unwish {D : Ends} {f : Flow} {s' : Shared} (h : SP (X.wish E) pins D f s') : SP X pins D f s' := by
  cases f with
  | next => obtain ⟨σ', H', I, q⟩ := h; exact ⟨σ', H', I.unwish, q⟩
  | brk => obtain ⟨σ', H', I, q⟩ := h; exact ⟨σ', H', I.unwish, q⟩
  | cont => obtain ⟨σ', H', I, q⟩ := h; exact ⟨σ', H', I.unwish, q⟩
  | ret u => obtain ⟨v, σ', H', I, r, q⟩ := h; exact ⟨v, σ', H', I.unwish, r, q⟩
theorem PE.nox {e : Expr} {t : TE} (h : PE X.nox e t) : PE X e t := fun pins s σ H Q I hw =>
  wpAny_mono (h pins s σ H Q (I.wish _) hw) (fun _ _ ⟨v, H', I', r, q⟩ => ⟨v, H', I'.unwish, r, q⟩) fun _ _ z => False.elim z
theorem PT.nox {e : Expr} {t : TT} (h : PT X.nox e t) : PT X e t := fun pins s σ H Q I hw =>
  wpAny_mono (h pins s σ H Q (I.wish _) hw) (fun _ _ ⟨H', I', q⟩ => ⟨H', I'.unwish, q⟩) fun _ _ z => False.elim z
theorem PSs.nox {st : List Stmt} {t : TS} (h : PSs X.nox st t) : PSs X st t := fun pins s σ H D I hw =>
  wpAny_mono (h pins s σ H D (I.wish _) hw) (fun _ _ q => q.unwish) fun _ _ z => False.elim z
end
section
variable {X : Cx} {st : Stmt} {rest : List Stmt} {t u : TS} {e : Expr} {te : TE} {pos : Pos}
noncomputable def tNext : TS := fun D σ H => D.nx σ H
noncomputable def tSeq (t u : TS) : TS := fun D σ H => t { D with nx := u D } σ H
theorem pss_nil : PSs X [] tNext := fun _ _ σ H _ I h => wpAny_execs_nil ⟨σ, H, I, h⟩
theorem pss_cons (h1 : PS X st t) (h2 : PSs X rest u) : PSs X (st :: rest) (tSeq t u) := by
  intro pins s σ H D I h
  refine wpAny_execs_cons (thn (h1 pins s σ H { D with nx := u D } I h) fun f s1 q => ?_)
  cases f with
  | next =>
    obtain ⟨σ', H', I', q⟩ := q
    exact h2 pins s1 σ' H' D I' q
  | ret v => exact q
  | brk => exact q
  | cont => exact q
theorem pss_one (h1 : PS X st t) : PSs X [st] t := by
  intro pins s σ H D I h
  refine wpAny_execs_cons (thn (h1 pins s σ H D I h) fun f s1 q => ?_)
  cases f with
  | next => exact wpAny_execs_nil q
  | ret v => exact q
  | brk => exact q
  | cont => exact q
theorem Inv.quiet {pins : List (Addr × Obj)} {σ : St} {H : Hp} {s : Shared} (I : Inv X pins σ H s) : interactive X.env = false := by simp [interactive, I.ok.kind]
noncomputable def tDrop (te : TE) : TS := fun D σ H => te σ H fun _ H1 => D.nx σ H1
theorem ps_expr (he : PE X e te) (hs : swapsWith e none pos.line X.env = pure false := by rfl) : PS X (.Expr e pos) (tDrop te) := by
  intro pins s σ H D I h
  exact wpAny_Expr_any (thn (he pins s σ H _ I h) fun v s1 ⟨x, H1, I1, r1, q1⟩ => ⟨σ, H1, I1, q1⟩) I.quiet hs
noncomputable def tRet (te : TE) : TS := fun D σ H => te σ H D.rt
theorem ps_ret (he : PE X e te) : PS X (.Return (some e) pos) (tRet te) := by
  intro pins s σ H D I h
  exact wpAny_Return_some (thn (he pins s σ H _ I h) fun v s1 ⟨x, H1, I1, r1, q1⟩ => ⟨x, σ, H1, I1, r1, q1⟩)
noncomputable def tIfS (c : TT) (t u : TS) : TS := fun D σ H => c σ H fun b H1 => if b = true then t D σ H1 else u D σ H1
theorem ps_if {c : Expr} {a b : List Stmt} {tc : TT} (hc : PT X c tc) (ha : PSs X a t) (hb : PSs X b u) : PS X (.If c a b pos) (tIfS tc t u) := by
  intro pins s σ H D I h
  refine wpAny_If (thn (hc pins s σ H _ I h) fun d s1 ⟨H1, I1, q1⟩ => ?_)
  cases d with
  | true => exact ha pins s1 σ H1 D I1 q1
  | false => exact hb pins s1 σ H1 D I1 q1
end
noncomputable abbrev TG := V → St → Hp → (St → Hp → Prop) → Prop
noncomputable abbrev TGs := List V → St → Hp → (St → Hp → Prop) → Prop
noncomputable def PG (X : Cx) (target : Expr) (t : TG) : Prop :=
  ∀ (pins : List (Addr × Obj)) (s : Shared) (σ : St) (H : Hp) (v : V) (u : Value) (Q : St → Hp → Prop), Inv X pins σ H s → RelV v u → t v σ H Q →
    wpAny (model X.prog X.w) X.A (assign target X.env u) (fun _ s' => ∃ σ' H', Inv X pins σ' H' s' ∧ Q σ' H') X.xe s
noncomputable abbrev TSet := V → V → V → Hp → (Hp → Prop) → Prop
noncomputable def PSet (X : Cx) (t : TSet) : Prop :=
  ∀ (pins : List (Addr × Obj)) (s : Shared) (σ : St) (H : Hp) (o i v : V) (ov iv u : Value) (Q : Hp → Prop), Inv X pins σ H s → RelV o ov → RelV i iv → RelV v u → t o i v H Q →
    wpAny (model X.prog X.w) X.A (setItem ov iv u) (fun _ s' => ∃ H', Inv X pins σ H' s' ∧ Q H') X.xe s
noncomputable abbrev TIp := V → V → Hp → VK → Prop
noncomputable def PIp (X : Cx) (op : Operator) (t : TIp) : Prop :=
  ∀ (pins : List (Addr × Obj)) (s : Shared) (σ : St) (H : Hp) (x y : V) (v u : Value) (Q : VK), Inv X pins σ H s → RelV x v → RelV y u → t x y H Q →
    wpAny (model X.prog X.w) X.A (inplaceOp op v u) (EP X pins σ Q) X.xe s
section
variable {X : Cx} {pos : Pos}
noncomputable def gName (i : Nat) : TG := fun v σ H Q => Q (σ.set i (some v)) H
theorem pg_name {i : Nat} {x : Str} (hN : X.N.Nodup) (hi : X.N[i]? = some x) (hx : Loc X.env.scope x) (hf : X.fn x = true ∨ X.env.scope.names.lookup x = some .local := by first | exact .inl rfl | exact .inr rfl | assumption) : PG X (.Name x pos) (gName i) := by
  intro pins s σ H v u Q I r h
  exact wpAny_assign_Name (store_ok I hN hi hx r (fun s' I' => ⟨_, H, I', h⟩) hf)
noncomputable def gNil : TGs := fun vs σ H Q => vs = [] ∧ Q σ H
noncomputable def gCons (t : TG) (u : TGs) : TGs := fun vs σ H Q => ∃ v r, vs = v :: r ∧ t v σ H fun σ' H' => u r σ' H' Q
noncomputable def gSub (to ti : TE) (t : TSet) : TG := fun v σ H Q => to σ H fun o H1 => ti σ H1 fun i H2 => t o i v H2 fun H3 => Q σ H3
theorem pg_sub {o i : Expr} {to ti : TE} {t : TSet} (ho : PE X o to) (hi : PE X i ti) (hs : PSet X t)
    (ha : ∀ v, assign (.Subscript o i pos) X.env v = (do
      let ov ← holding [v] (eval o X.env)
      let iv ← holding [v, ov] (eval i X.env)
      standAt pos
      holding [v, ov, iv] (setItem ov iv v)
      release [v, ov, iv] []) := by intro _; rfl) : PG X (.Subscript o i pos) (gSub to ti t) := by
  intro pins s σ H v u Q I r h
  rw [ha]
  refine wpAny_bind (wpAny_holding (thn (ho pins s σ H _ I h) fun ov s1 ⟨x, H1, I1, r1, q1⟩ => ?_))
  refine wpAny_bind (wpAny_holding (thn (hi pins s1 σ H1 _ I1 q1) fun iv s2 ⟨y, H2, I2, r2, q2⟩ => ?_))
  refine wpAny_bind (wpAny_standAt (wpAny_bind (wpAny_holding (thn (hs pins s2 σ H2 x y v ov iv u _ I2 r1 r2 r q2) fun _ s3 ⟨H3, I3, q3⟩ => ?_))))
  exact wpAny_release ⟨σ, H3, I3, q3⟩
noncomputable def tAsg (te : TE) (g : TG) : TS := fun D σ H => te σ H fun x H1 => g x σ H1 D.nx
theorem ps_asg {tg e : Expr} {te : TE} {g : TG} (he : PE X e te) (hg : PG X tg g) (hs : swapsWithSole [tg] e pos.line X.env = pure false := by rfl) (hw : swappedStores [tg] e X.env = pure none := by rfl)
    (h1 : (assignEach [tg] X.env).map (·.2) = [assign tg X.env] := by rfl) : PS X (.Assign [tg] e pos) (tAsg te g) := by
  intro pins s σ H D I h
  refine wpAny_Assign_stores (thn (he pins s σ H _ I h) fun v s1 ⟨x, H1, I1, r1, q1⟩ => ?_) hs hw
  rw [h1]
  exact thn (hg pins s1 σ H1 x v _ I1 r1 q1) fun _ s2 q => q
theorem ps_set {i : Nat} {x : Str} {e : Expr} {te : TE} {pos' : Pos} (hN : X.N.Nodup) (hi : X.N[i]? = some x) (hx : Loc X.env.scope x) (he : PE X e te) (hs : swapsWith e (some (.Name x pos')) pos.line X.env = pure false := by rfl) (hf : X.fn x = true ∨ X.env.scope.names.lookup x = some .local := by first | exact .inl rfl | exact .inr rfl | assumption) :
    PS X (.Assign [.Name x pos'] e pos) (tAsg te (gName i)) := by
  intro pins s σ H D I h
  refine wpAny_Assign_Name (thn (he pins s σ H _ I h) fun v s1 ⟨y, H1, I1, r1, q1⟩ => ?_) hs
  exact store_ok I1 hN hi hx r1 (fun s2 I2 => ⟨_, H1, I2, q1⟩) hf
noncomputable def tPar (i j : Nat) (ta : TA) : TS := fun D σ H => ta σ H fun vs H1 => ∃ v w, vs = [v, w] ∧ D.nx ((σ.set i (some v)).set j (some w)) H1
end
section
variable {X : Cx} {pos : Pos}
noncomputable def tWhile (c : TT) (tb : TS) : TS := fun D σ H => ∃ W : Nat → St → Hp → Prop, (∃ m, W m σ H) ∧ ∀ m σ H, W m σ H →
  c σ H fun b H1 => if b = true then ∃ N : St → Hp → Prop, (∀ σ' H', N σ' H' → ∃ m', m' < m ∧ W m' σ' H') ∧ tb { D with nx := N, ct := N, bk := D.nx } σ H1 else D.nx σ H1
theorem ps_while {c : Expr} {body : List Stmt} {tc : TT} {tb : TS} (hp : PassesOwn (model X.prog X.w) X.A X.env X.xe) (hc : PT X c tc) (hb : PSs X body tb) : PS X (.While c body [] pos) (tWhile tc tb) := by
  intro pins s σ H D I h
  obtain ⟨W, ⟨m0, w0⟩, turn⟩ := h
  refine wpAny_While (codeAny_whileLoop (fun n s' => ∃ σ' H', Inv X pins σ' H' s' ∧ W n σ' H') ?_ m0 ⟨σ, H, I, w0⟩)
  rintro n s1 ⟨σ1, H1, I1, w1⟩
  refine wpAny_passesOwn hp (thn (hc pins s1 σ1 H1 _ I1 (turn n σ1 H1 w1)) fun b s2 ⟨H2, I2, q2⟩ => ?_)
  cases b with
  | true =>
    obtain ⟨N, hN, q2⟩ := q2
    rw [if_pos rfl]
    refine wpAny_passesOwn hp (thn (hb pins s2 σ1 H2 _ I2 q2) fun f s3 q3 => ?_)
    cases f with
    | next =>
      obtain ⟨σ3, H3, I3, n3⟩ := q3
      obtain ⟨m', hm, w3⟩ := hN σ3 H3 n3
      exact ⟨m', hm, σ3, H3, I3, w3⟩
    | cont =>
      obtain ⟨σ3, H3, I3, n3⟩ := q3
      obtain ⟨m', hm, w3⟩ := hN σ3 H3 n3
      exact ⟨m', hm, σ3, H3, I3, w3⟩
    | brk => exact q3
    | ret v => exact q3
  | false =>
    rw [if_neg Bool.false_ne_true]
    exact wpAny_execs_nil ⟨σ1, H2, I2, q2⟩
end
structure It where
  go : Nat → Hp → Prop
  yld : Nat → Hp → V → Hp → Prop
  stop : Nat → Hp → Prop
noncomputable def FpOk (X : Cx) (pins : List (Addr × Obj)) (H : Hp) (b : Addr) : Prop :=
  H b = none ∧ b ≠ X.env.locals ∧ b ∉ X.fs ∧ (b ∈ X.ex ∨ X.s₀.heap.objs.size ≤ b) ∧ (∀ x c, X.env.cells.lookup x = some c → c ≠ b) ∧ ∀ p ∈ X.pn ++ pins, p.1 ≠ b
theorem Inv.fpOk {X : Cx} {pins : List (Addr × Obj)} {σ : St} {H H' : Hp} {s : Shared} {b : Addr} (I : Inv X pins σ H s) (hb : s.heap.objs.size ≤ b) (hn : H' b = none) : FpOk X pins H' b := by
  refine ⟨hn, Nat.ne_of_gt (Nat.lt_of_lt_of_le I.lt hb), I.nofs hb, .inr (Nat.le_trans I.sz hb), fun x c e z => ?_, fun p hp z => ?_⟩
  · obtain ⟨v, q⟩ := I.cell x c e
    exact absurd (Nat.lt_of_lt_of_le q.lt (by rw [z]; exact hb)) (Nat.lt_irrefl _)
  · exact absurd (Nat.lt_of_lt_of_le (Heap.lt_size (I.pin p hp).1) (by rw [z]; exact hb)) (Nat.lt_irrefl _)
structure Turn (P : Program) (w : World) (K : PySem.W.Frag) (tg : Expr) (J : It) (fp : List Addr) (it : Addr) (tn : Nat → Heap → Prop) : Prop where
  mem : it ∈ fp
  obj : ∀ i h, tn i h → ∀ b ∈ fp, ∃ o, h.get? b = some o ∧ ∀ v, o.data ≠ .cell v
  keep : ∀ i h h', tn i h → (∀ b ∈ fp, ∀ o, h.get? b = some o → h'.get? b = some o) → tn i h'
  item : ∀ (X : Cx), X.prog = P → X.w = w → X.K = K → X.calm = true → ∀ (i : Nat) (pins : List (Addr × Obj)) (s : Shared) (σ : St) (H : Hp) (E : Value → Shared → Prop), Inv X pins σ H s → (∀ b ∈ fp, FpOk X pins H b) → tn i s.heap → J.go i H →
    wpAny (model P w) X.A (pyNext (.ref it)) (fun r s1 => ∃ u, r = some u ∧
      wpAny (model P w) X.A (letOwnedTupleGo tg (.ref it) u) (fun _ s2 => ∃ x H', Inv X pins σ H' s2 ∧ RelV x u ∧ J.yld i H x H' ∧ tn (i + 1) s2.heap ∧ ∀ b ∈ fp, H' b = none) E s1) E s
  done : ∀ (X : Cx), X.prog = P → X.w = w → X.K = K → X.calm = true → ∀ (i : Nat) (pins : List (Addr × Obj)) (s : Shared) (σ : St) (H : Hp) (E : Value → Shared → Prop), Inv X pins σ H s → (∀ b ∈ fp, FpOk X pins H b) → tn i s.heap → J.stop i H →
    wpAny (model P w) X.A (pyNext (.ref it)) (fun r s1 => r = none ∧ Inv X pins σ H s1) E s
  self : ∀ (A : Around) (i : Nat) (s : Shared) (Q : Value → Shared → Prop) (E : Value → Shared → Prop), tn i s.heap → Q (.ref it) s → wpAny (model P w) A (pyIter (.ref it)) Q E s
noncomputable abbrev TI := St → Hp → (It → Hp → Prop) → Prop
noncomputable def PIE (X : Cx) (pins : List (Addr × Obj)) (σ : St) (tg : Expr) (R : It → Hp → Prop) (itv : Value) (s2 : Shared) : Prop :=
  ∃ (it : Addr) (fp : List Addr) (tn : Nat → Heap → Prop) (J : It) (H' : Hp), itv = .ref it ∧ Inv X pins σ H' s2 ∧ Turn X.prog X.w X.K tg J fp it tn ∧ tn 0 s2.heap ∧ (∀ b ∈ fp, FpOk X pins H' b) ∧ R J H'
noncomputable def PI (X : Cx) (tg iter : Expr) (wi : TI) : Prop :=
  ∀ (pins : List (Addr × Obj)) (s : Shared) (σ : St) (H : Hp) (R : It → Hp → Prop), Inv X pins σ H s → wi σ H R →
    wpAny (model X.prog X.w) X.A (eval iter X.env) (fun v s1 => wpAny (model X.prog X.w) X.A (pyIter v) (PIE X pins σ tg R) X.xe s1) X.xe s
theorem go_of {M : Model} {A : Around} {E : Value → Shared → Prop} {s : Shared} {tg : Expr} {it : Addr} {u : Value} {o : Obj} {n : String} {vs : Array Value} {Q : Unit → Shared → Prop} (ho : s.heap.get? it = some o) (hc : o.cls = .type n) (hd : o.data = .fields vs)
    (hn : ["enumerate", "zip", "dict_itemiterator", "dict_reverseitemiterator", "odict_iterator", "itertools.zip_longest", "itertools.pairwise"].contains n = false) (hQ : Q () s) : wpAny M A (letOwnedTupleGo tg (.ref it) u) Q E s := by
  unfold letOwnedTupleGo
  cases tg <;> first
    | exact wpAny_pure hQ
    | (cases u <;> first
        | exact wpAny_pure hQ
        | (refine wpAny_bind (wpAny_load ho ?_)
           rw [hc, hd]
           show wpAny M A (if (["enumerate", "zip", "dict_itemiterator", "dict_reverseitemiterator", "odict_iterator", "itertools.zip_longest", "itertools.pairwise"].contains n && vs[0]? == some (rawInt _)) = true then _ else _) Q E s
           rw [if_neg (by intro h; rw [hn, Bool.false_and] at h; cases h)]
           exact wpAny_pure hQ))
noncomputable def Itl (K : PySem.W.Frag) (a : Addr) : It :=
  ⟨fun i H => ∃ xs x, SqL K H a xs ∧ xs[i]? = some x, fun i H x H' => H' = H ∧ ∀ xs, SqL K H a xs → xs[i]? = some x, fun i H => ∃ xs, SqL K H a xs ∧ xs.length ≤ i⟩
noncomputable def Itt (K : PySem.W.Frag) (a : Addr) : It :=
  ⟨fun i H => ∃ xs x, SqT K H a xs ∧ xs[i]? = some x, fun i H x H' => H' = H ∧ ∀ xs, SqT K H a xs → xs[i]? = some x, fun i H => ∃ xs, SqT K H a xs ∧ xs.length ≤ i⟩
noncomputable def Itr (lo : Int) (n : Nat) : It := ⟨fun i _ => i < n, fun i H x H' => H' = H ∧ x = .int (lo + i), fun i _ => n ≤ i⟩
theorem turn_list {P : Program} {w : World} {K : PySem.W.Frag} {tg : Expr} (a it : Addr) : Turn P w K tg (Itl K a) [it] it (fun i h => h.IsListIter it a i) where
  mem := by simp
  obj := fun i h st b hb => by
    have e : b = it := by simpa using hb
    subst e
    obtain ⟨o, e, c, d⟩ := st
    exact ⟨o, e, fun v z => by rw [d] at z; cases z⟩
  keep := fun i h h' st k => st.at fun o e => k it (by simp) o e
  item := by
    intro X hP hw hK hc i pins s σ H E I hf st hg
    subst hP hw hK
    obtain ⟨xs, x, hq, hx⟩ := hg
    obtain ⟨its, rv, p, hz⟩ := I.list hq
    obtain ⟨u, hu, ru⟩ := rv.get hx
    obtain ⟨f0, f1, f2, f3, f4, f5⟩ := hf it (by simp)
    refine wpAny_pyNext_list_item st p.isList (x := u) (by simpa using hu) fun h' st' sb => ?_
    have I1 : Inv X pins σ H { s with heap := h' } := I.turned (t' := s.toks) (fun b o hb e => (sb.2 b hb).trans e) f0 f1 f3 f4 f5
    obtain ⟨o, e, c, d⟩ := id st'
    exact ⟨u, rfl, go_of (s := { s with heap := h' }) e c d (by decide) ⟨x, H, I1, ru, ⟨rfl, fun ys hy => by rw [I.list_inj hy hq]; exact hx⟩, st', fun b hb => (hf b hb).1⟩⟩
  done := by
    intro X hP hw hK hc i pins s σ H E I hf st hg
    subst hP hw hK
    obtain ⟨xs, hq, hx⟩ := hg
    obtain ⟨its, rv, p, hz⟩ := I.list hq
    obtain ⟨f0, f1, f2, f3, f4, f5⟩ := hf it (by simp)
    have hl := rv.length
    exact wpAny_pyNext_list_end (I.ok.hd hc) st p.isList (by simp; omega) fun h' eb => ⟨rfl, I.turned (t' := s.toks) (fun b o hb e => eb b o hb e) f0 f1 f3 f4 f5⟩
  self := fun _ _ _ _ _ st h => wpAny_pyIter_listiter st h
theorem turn_range {P : Program} {w : World} {K : PySem.W.Frag} {tg : Expr} (it : Addr) (lo : Int) (n : Nat) : Turn P w K tg (Itr lo n) [it] it (fun i h => IsRangeIter h it (lo + (i : Nat) * 1) ((n : Int) - (i : Nat)) 1) where
  mem := by simp
  obj := fun i h st b hb => by
    have e : b = it := by simpa using hb
    subst e
    exact ⟨_, st, fun v z => by
      have z' : Data.fields _ = Data.cell v := z
      cases z'⟩
  keep := fun i h h' st k => k it (by simp) _ st
  item := by
    intro X hP hw hK hc i pins s σ H E I hf st hg
    subst hP hw hK
    obtain ⟨f0, f1, f2, f3, f4, f5⟩ := hf it (by simp)
    have W := Walks.range (prog := X.prog) (w := X.w) (I.ok.hd hc) it lo 1 n
    refine W.item i s _ _ hg st fun v h' tk hv st' kk => ?_
    obtain ⟨t, rfl⟩ := hv
    have I1 : Inv X pins σ H { s with heap := h', toks := tk } := I.turned (fun b o hb e => kk b o (by simpa using hb) e) f0 f1 f3 f4 f5
    refine ⟨_, rfl, go_of (s := { s with heap := h', toks := tk }) (n := "range_iterator") st' rfl rfl (by decide) ⟨.int (lo + i), H, I1, ⟨t, ?_⟩, ⟨rfl, rfl⟩, st', fun b hb => (hf b hb).1⟩⟩
    rw [Int.mul_one]
  done := by
    intro X hP hw hK hc i pins s σ H E I hf st hg
    subst hP hw hK
    obtain ⟨f0, f1, f2, f3, f4, f5⟩ := hf it (by simp)
    exact wpAny_pyNext_range_end (I.ok.hd hc) st (by have : n ≤ i := hg; omega) fun h' eb => ⟨rfl, I.turned (t' := s.toks) (fun b o hb e => eb b o hb e) f0 f1 f3 f4 f5⟩
  self := fun _ _ _ _ _ st h => wpAny_pyIter_rangeiter st h
end L2
namespace L2
open PySem PySem.Spec PyProof.Rows
section
variable {X : Cx} {tg : Expr}
noncomputable def iList (K : PySem.W.Frag) (tl : TE) : TI := fun σ H R => tl σ H fun x H1 => ∃ a, x = .ref a ∧ (∃ xs, SqL K H1 a xs) ∧ R (Itl K a) H1
noncomputable def iTup (K : PySem.W.Frag) (tl : TE) : TI := fun σ H R => tl σ H fun x H1 => ∃ a, x = .ref a ∧ (∃ xs, SqT K H1 a xs) ∧ R (Itt K a) H1
theorem pi_list {l : Expr} {tl : TE} (hl : PE X l tl) : PI X tg l (iList X.K tl) := by
  intro pins s σ H R I h
  refine thn (hl pins s σ H _ I h) fun v s1 ⟨x, H1, I1, r1, q1⟩ => ?_
  obtain ⟨a, e, ⟨xs, hq⟩, q⟩ := q1
  subst e
  cases r1
  obtain ⟨its, rv, p, hz⟩ := I1.list hq
  refine wpAny_pyIter_list p.isList ?_
  refine ⟨s1.heap.objs.size, [s1.heap.objs.size], _, _, H1, rfl, I1.kept (t' := s1.toks) fun b o e => Heap.get?_push_of_some _ e, turn_list a _, ⟨_, Heap.get?_push_size _ rfl, rfl, rfl⟩, fun b hb => ?_, q⟩
  have e : b = s1.heap.objs.size := by simpa using hb
  subst e
  exact I1.fpOk (Nat.le_refl _) (I1.hok.fresh (Nat.le_refl _))
theorem range_it {pins : List (Addr × Obj)} {σ : St} {H : Hp} {s : Shared} {R : It → Hp → Prop} {E : Value → Shared → Prop} {lo hi : Int} {t u v : Tok} {tk : Nat} (I : Inv X pins σ H s) (h1 : -(2 ^ 62) ≤ lo) (h2 : lo < 2 ^ 62) (h3 : -(2 ^ 62) ≤ hi) (h4 : hi < 2 ^ 62)
    (q : R (Itr lo (hi - lo).toNat) H) : wpAny (model X.prog X.w) X.A (pyIter (.ref s.heap.objs.size)) (PIE X pins σ tg R) E { s with heap := s.heap.push { cls := .type "range", data := .fields #[.int lo t, .int hi u, .int 1 v] }, toks := tk } := by
  refine wpAny_pyIter_range (IsRange.new ..) (small_one h1 h2 h3 h4) ?_
  have I1 : Inv X pins σ H { s with heap := s.heap.push { cls := .type "range", data := .fields #[.int lo t, .int hi u, .int 1 v] }, toks := tk } := I.kept fun b o e => Heap.get?_push_of_some _ e
  refine ⟨(s.heap.push { cls := .type "range", data := .fields #[.int lo t, .int hi u, .int 1 v] }).objs.size, [(s.heap.push { cls := .type "range", data := .fields #[.int lo t, .int hi u, .int 1 v] }).objs.size], _, _, H, rfl,
    I1.kept (t' := tk) fun b o e => Heap.get?_push_of_some _ e, turn_range _ lo (hi - lo).toNat, ?_, fun b hb => ?_, q⟩
  · have e1 : lo + ((0 : Nat) : Int) * 1 = lo := by simp
    have e2 : (((hi - lo).toNat : Nat) : Int) - ((0 : Nat) : Int) = Builtin.Range.rangeSize lo hi 1 := by rw [rangeSize_one]; split <;> omega
    show IsRangeIter _ _ (lo + ((0 : Nat) : Int) * 1) ((((hi - lo).toNat : Nat) : Int) - ((0 : Nat) : Int)) 1
    rw [e1, e2]
    exact Heap.get?_push_size _ rfl
  · have e : b = (s.heap.push { cls := .type "range", data := .fields #[.int lo t, .int hi u, .int 1 v] }).objs.size := by simpa using hb
    subst e
    exact I1.fpOk (Nat.le_refl _) (I1.hok.fresh (Nat.le_refl _))
noncomputable def iRng1 (ta : TA) : TI := fun σ H R => ta σ H fun vs H1 => ∃ j : Int, vs = [.int j] ∧ -(2 ^ 62) ≤ j ∧ j < 2 ^ 62 ∧ R (Itr 0 j.toNat) H1
noncomputable def iRng2 (ta : TA) : TI := fun σ H R => ta σ H fun vs H1 => ∃ i j : Int, vs = [.int i, .int j] ∧ (-(2 ^ 62) ≤ i ∧ i < 2 ^ 62 ∧ -(2 ^ 62) ≤ j ∧ j < 2 ^ 62) ∧ R (Itr i (j - i).toNat) H1
theorem pi_range1 {a : Expr} {ta : TA} {p pos : Pos} (hg : Gl X "range") (hm : X.mg "range" = none) (ha : PA X [a] ta) (hs : starEach [a] X.env = [(false, eval a X.env)] := by rfl) : PI X tg (.Call (.Name "range" p) [a] [] pos) (iRng1 ta) := by
  intro pins s σ H R I h
  refine Call_ (ld_blt I hg hm boot_range (PyProof.Rows.callWith_type1 (thn (ha pos pins s σ H _ I h) fun us s1 ⟨vs, H1, I1, r1, q1⟩ => ?_) hs rfl))
  obtain ⟨j, e, q1, q2, q⟩ := q1
  subst e
  cases r1 with
  | cons r rr =>
    cases rr
    obtain ⟨t, rfl⟩ := r
    exact call_range_1 (range_it I1 (by omega) (by omega) q1 q2 (by simpa using q))
noncomputable def tFor (wi : TI) (g : TG) (tb : TS) : TS := fun D σ H => wi σ H fun J H1 => ∃ W : Nat → Nat → St → Hp → Prop, (∃ m, W 0 m σ H1) ∧ ∀ i m σ H, W i m σ H →
  (J.stop i H ∧ D.nx σ H) ∨ (J.go i H ∧ ∃ N : St → Hp → Prop, (∀ σ' H', N σ' H' → ∃ m', m' < m ∧ W (i + 1) m' σ' H') ∧ ∀ x H', J.yld i H x H' → g x σ H' fun σ2 H2 => tb { D with nx := N, ct := N, bk := D.nx } σ2 H2)
noncomputable def pinsAt (fp : List Addr) (h : Heap) : List (Addr × Obj) := fp.filterMap fun b => (h.get? b).map fun o => (b, o)
theorem mem_pinsAt {fp : List Addr} {h : Heap} {b : Addr} {o : Obj} (hb : b ∈ fp) (e : h.get? b = some o) : (b, o) ∈ pinsAt fp h := List.mem_filterMap.mpr ⟨b, hb, by rw [e]; rfl⟩
theorem of_pinsAt {fp : List Addr} {h : Heap} {p : Addr × Obj} (hp : p ∈ pinsAt fp h) : p.1 ∈ fp ∧ h.get? p.1 = some p.2 := by
  obtain ⟨b, hb, e⟩ := List.mem_filterMap.mp hp
  cases q : h.get? b with
  | none => rw [q] at e; cases e
  | some o =>
    rw [q] at e
    have e' : (b, o) = p := Option.some.inj e
    subst e'
    exact ⟨hb, q⟩
theorem Inv.pinned {pins : List (Addr × Obj)} {σ : St} {H : Hp} {s : Shared} {fp : List Addr} (I : Inv X pins σ H s) (hf : ∀ b ∈ fp, FpOk X pins H b) (ho : ∀ b ∈ fp, ∃ o, s.heap.get? b = some o ∧ ∀ v, o.data ≠ .cell v) : Inv X (pins ++ pinsAt fp s.heap) σ H s :=
  I.pins_of fun p hp => (List.mem_append.mp hp).elim (fun z => I.pin p (List.mem_append_right _ z)) fun z => by
    obtain ⟨hb, e⟩ := of_pinsAt z
    obtain ⟨f0, f1, f2, _⟩ := hf p.1 hb
    obtain ⟨o, e', d⟩ := ho p.1 hb
    rw [e] at e'; cases e'
    exact ⟨e, f0, f1, f2, d⟩
theorem Inv.unpinned {pins pl : List (Addr × Obj)} {σ : St} {H : Hp} {s : Shared} (I : Inv X (pins ++ pl) σ H s) : Inv X pins σ H s := I.pins_of fun p hp => I.pin p (List.mem_append_right _ (List.mem_append_left _ hp))
theorem ps_for {iter : Expr} {body : List Stmt} {wi : TI} {g : TG} {tb : TS} {pos : Pos} (hp : PassesOwn (model X.prog X.w) X.A X.env X.xe) (hc : X.calm = true) (hi : PI X tg iter wi) (hg : PG X tg g) (hb : PSs X body tb)
    (hs : ∀ x, foldedSetIterable iter X.env x = pure x := by intro _; rfl) : PS X (.For tg iter body [] pos) (tFor wi g tb) := by
  intro pins s σ H D I h
  refine wpAny_For (thn (hi pins s σ H _ I h) fun v s1 h1 => thn h1 fun itv s2 h2 => ?_) hs
  obtain ⟨it, fp, tn, J, H2, e, I2, T, st2, f2, W, ⟨m0, w0⟩, turn⟩ := h2
  subst e
  have stat : ∀ {H' : Hp}, (∀ b ∈ fp, H' b = none) → ∀ b ∈ fp, FpOk X pins H' b := fun hn b hb => ⟨hn b hb, (f2 b hb).2⟩
  refine codeAny_forLoop_any (fun n s' => ∃ i σ' H', Inv X pins σ' H' s' ∧ tn i s'.heap ∧ (∀ b ∈ fp, H' b = none) ∧ W i n σ' H') ?_ m0 ⟨0, σ, H2, I2, st2, fun b hb => (f2 b hb).1, w0⟩
  rintro n s3 ⟨i, σ3, H3, I3, st3, fr3, w3⟩
  rcases turn i n σ3 H3 w3 with ⟨stop, qn⟩ | ⟨go, N, hN, step⟩
  · refine wpAny_passesOwn hp (thn (T.done X rfl rfl rfl hc i pins s3 σ3 H3 X.xe I3 (stat fr3) st3 stop) fun r s4 ⟨hr, I4⟩ => ?_)
    subst hr
    exact wpAny_execs_nil ⟨σ3, H3, I4, qn⟩
  · refine wpAny_passesOwn hp (thn (T.item X rfl rfl rfl hc i pins s3 σ3 H3 X.xe I3 (stat fr3) st3 go) fun r s4 ⟨u, hr, h4⟩ => ?_)
    subst hr
    refine wpAny_passesOwn hp (thn h4 fun _ s5 ⟨x, H5, I5, r5, y5, st5, fr5⟩ => ?_)
    have I5' := I5.pinned (stat fr5) (T.obj _ _ st5)
    refine wpAny_passesOwn hp (thn (hg _ s5 σ3 H5 x u _ I5' r5 (step x H5 y5)) fun _ s6 ⟨σ6, H6, I6, q6⟩ => ?_)
    refine wpAny_passesOwn hp (thn (hb _ s6 σ6 H6 _ I6 q6) fun f s7 q7 => ?_)
    have again : ∀ {σ7 : St} {H7 : Hp}, Inv X (pins ++ pinsAt fp s5.heap) σ7 H7 s7 → N σ7 H7 → ∃ m, m < n ∧ ∃ i σ' H', Inv X pins σ' H' s7 ∧ tn i s7.heap ∧ (∀ b ∈ fp, H' b = none) ∧ W i m σ' H' := fun {σ7 H7} I7 n7 => by
      obtain ⟨m', hm, w7⟩ := hN σ7 H7 n7
      refine ⟨m', hm, i + 1, σ7, H7, I7.unpinned, T.keep _ _ _ st5 fun b hb o e => (I7.pin (b, o) (List.mem_append_right _ (List.mem_append_right _ (mem_pinsAt hb e)))).1, fun b hb => ?_, w7⟩
      obtain ⟨o, e, d⟩ := T.obj _ _ st5 b hb
      exact (I7.pin (b, o) (List.mem_append_right _ (List.mem_append_right _ (mem_pinsAt hb e)))).2.1
    cases f with
    | next => obtain ⟨σ7, H7, I7, n7⟩ := q7; exact again I7 n7
    | cont => obtain ⟨σ7, H7, I7, n7⟩ := q7; exact again I7 n7
    | brk => obtain ⟨σ7, H7, I7, q7⟩ := q7; exact ⟨σ7, H7, I7.unpinned, q7⟩
    | ret v => obtain ⟨x7, σ7, H7, I7, r7, q7⟩ := q7; exact ⟨x7, σ7, H7, I7.unpinned, r7, q7⟩
end
end L2
namespace L2
open PySem PySem.Spec PyProof.Rows
noncomputable abbrev R2 := V → V → Hp → VK → Prop
noncomputable def OpR (X : Cx) (f : Value → Value → Sem Value) (r : R2) : Prop :=
  ∀ (pins : List (Addr × Obj)) (s : Shared) (σ : St) (H : Hp) (x y : V) (v u : Value) (Q : VK), Inv X pins σ H s → RelV x v → RelV y u → r x y H Q →
    wpAny (model X.prog X.w) X.A (f v u) (EP X pins σ Q) X.xe s
noncomputable def UnR (X : Cx) (f : Value → Sem Value) (r : V → Hp → VK → Prop) : Prop :=
  ∀ (pins : List (Addr × Obj)) (s : Shared) (σ : St) (H : Hp) (x : V) (v : Value) (Q : VK), Inv X pins σ H s → RelV x v → r x H Q →
    wpAny (model X.prog X.w) X.A (f v) (EP X pins σ Q) X.xe s
noncomputable def CallR (X : Cx) (f : Value) (r : List V → Hp → VK → Prop) : Prop :=
  ∀ (pins : List (Addr × Obj)) (s : Shared) (σ : St) (H : Hp) (xs : List V) (us : List Value) (Q : VK), Inv X pins σ H s → Vals xs us → r xs H Q →
    wpAny (model X.prog X.w) X.A (call f us) (EP X pins σ Q) X.xe s
noncomputable def TruR (X : Cx) (r : V → Hp → (Bool → Hp → Prop) → Prop) : Prop :=
  ∀ (pins : List (Addr × Obj)) (s : Shared) (σ : St) (H : Hp) (x : V) (v : Value) (Q : Bool → Hp → Prop), Inv X pins σ H s → RelV x v → r x H Q →
    wpAny (model X.prog X.w) X.A (truthy v) (TP X pins σ Q) X.xe s
noncomputable def tOp (r : R2) (ta tb : TE) : TE := fun σ H Q => ta σ H fun x H1 => tb σ H1 fun y H2 => r x y H2 Q
noncomputable def tUn (r : V → Hp → VK → Prop) (ta : TE) : TE := fun σ H Q => ta σ H fun x H1 => r x H1 Q
noncomputable def rI (C : Int → Int → Prop) (g : Int → Int → V) : R2 := fun x y H Q => ∃ i j, x = .int i ∧ y = .int j ∧ C i j ∧ Q (g i j) H
noncomputable def rI0 (g : Int → Int → V) : R2 := fun x y H Q => ∃ i j, x = .int i ∧ y = .int j ∧ Q (g i j) H
noncomputable def rU (g : Int → V) : V → Hp → VK → Prop := fun x H Q => ∃ i, x = .int i ∧ Q (g i) H
section
variable {X : Cx} {a b c : Expr} {ta tb tc : TE} {pos : Pos}
theorem binT (ha : PE X a ta) (hb : PE X b tb) {pins : List (Addr × Obj)} {s : Shared} {σ : St} {H : Hp} {R : V → V → Hp → Prop} (I : Inv X pins σ H s)
    (h : ta σ H fun x H1 => tb σ H1 fun y H2 => R x y H2) {Q : Value → Shared → Prop} {f : Value → Value → Sem Value}
    (hf : ∀ v u s2 x y H2, Inv X pins σ H2 s2 → RelV x v → RelV y u → R x y H2 → wpAny (model X.prog X.w) X.A (f v u) Q X.xe s2) :
    wpAny (model X.prog X.w) X.A (eval a X.env) (fun v s₁ => wpAny (model X.prog X.w) X.A (eval b X.env) (fun u s₂ => wpAny (model X.prog X.w) X.A (f v u) Q X.xe s₂) X.xe s₁) X.xe s := by
  refine thn (ha pins s σ H _ I h) fun v s1 ⟨x, H1, I1, r1, q1⟩ => ?_
  refine thn (hb pins s1 σ H1 _ I1 q1) fun u s2 ⟨y, H2, I2, r2, q2⟩ => ?_
  exact hf v u s2 x y H2 I2 r1 r2 q2
theorem pe_op {op : Operator} {r : R2} (ho : OpR X (binaryOp op) r) (ha : PE X a ta) (hb : PE X b tb) : PE X (.BinOp a op b pos) (tOp r ta tb) := by
  intro pins s σ H Q I h
  exact wpAny_BinOp (binT ha hb I h fun v u s2 x y H2 I2 rx ry q => ho pins s2 σ H2 x y v u Q I2 rx ry q)
theorem pe_un {op : UnaryOp} {r : V → Hp → VK → Prop} (ho : UnR X (unaryOp op) r) (ha : PE X a ta) : PE X (.UnaryOp op a pos) (tUn r ta) := by
  intro pins s σ H Q I h
  exact UnaryOp_ (thn (ha pins s σ H _ I h) fun v s1 ⟨x, H1, I1, r1, q1⟩ => ho pins s1 σ H1 x v Q I1 r1 q1)
theorem opI {f : Value → Value → Sem Value} {C : Int → Int → Prop} {g : Int → Int → Int}
    (rule : ∀ (i j : Int) (t u : Tok) (s : Shared) (Q : Value → Shared → Prop) (E : Value → Shared → Prop), C i j → Q (.int (g i j) s.toks) { s with toks := s.toks + 1 } → wpAny (model X.prog X.w) X.A (f (.int i t) (.int j u)) Q E s) :
    OpR X f (rI C fun i j => .int (g i j)) := by
  intro pins s σ H x y v u Q I rx ry h
  obtain ⟨i, j, rfl, rfl, hc, q⟩ := h
  obtain ⟨t, rfl⟩ := rx
  obtain ⟨t', rfl⟩ := ry
  exact rule i j t t' s _ _ hc ⟨.int (g i j), H, I.tok _, ⟨_, rfl⟩, q⟩
theorem opI0 {f : Value → Value → Sem Value} {g : Int → Int → Int}
    (rule : ∀ (i j : Int) (t u : Tok) (s : Shared) (Q : Value → Shared → Prop) (E : Value → Shared → Prop), Q (.int (g i j) s.toks) { s with toks := s.toks + 1 } → wpAny (model X.prog X.w) X.A (f (.int i t) (.int j u)) Q E s) :
    OpR X f (rI0 fun i j => .int (g i j)) := by
  intro pins s σ H x y v u Q I rx ry h
  obtain ⟨i, j, rfl, rfl, q⟩ := h
  obtain ⟨t, rfl⟩ := rx
  obtain ⟨t', rfl⟩ := ry
  exact rule i j t t' s _ _ ⟨.int (g i j), H, I.tok _, ⟨_, rfl⟩, q⟩
theorem opB0 {f : Value → Value → Sem Value} {g : Int → Int → Bool}
    (rule : ∀ (i j : Int) (t u : Tok) (s : Shared) (Q : Value → Shared → Prop) (E : Value → Shared → Prop), Q (.bool (g i j)) s → wpAny (model X.prog X.w) X.A (f (.int i t) (.int j u)) Q E s) :
    OpR X f (rI0 fun i j => .bl (g i j)) := by
  intro pins s σ H x y v u Q I rx ry h
  obtain ⟨i, j, rfl, rfl, q⟩ := h
  obtain ⟨t, rfl⟩ := rx
  obtain ⟨t', rfl⟩ := ry
  exact rule i j t t' s _ _ ⟨.bl (g i j), H, I, rfl, q⟩
noncomputable def CDiv (i j : Int) : Prop := 0 < j ∧ j < 1073741824
noncomputable def CPow (i j : Int) : Prop := 0 ≤ j ∧ j ≤ 1000000 ∧ i.natAbs < 2 ^ 64
noncomputable def CMul (i j : Int) : Prop := (-(2 ^ 64) < i ∧ i < 2 ^ 64) ∨ (-(2 ^ 64) < j ∧ j < 2 ^ 64)
theorem CMul.ok {i j : Int} (h : CMul i j) : IntMulOk i j := by
  rcases h with ⟨h1, h2⟩ | ⟨h1, h2⟩
  · exact .of_left (intBits_le_64 h1 h2)
  · exact .of_right (intBits_le_64 h1 h2)
theorem op_add : OpR X (binaryOp .Add) (rI0 fun i j => .int (i + j)) := opI0 fun _ _ _ _ _ _ _ q => add_int q
theorem op_sub : OpR X (binaryOp .Sub) (rI0 fun i j => .int (i - j)) := opI0 fun _ _ _ _ _ _ _ q => sub_int q
theorem op_fdiv : OpR X (binaryOp .FloorDiv) (rI CDiv fun i j => .int (i / j)) := opI fun i j _ _ _ _ _ hc q => by
  have h1 : (0 : Int) < j := hc.1
  have h2 : j < 1073741824 := hc.2
  exact floordiv_int (by omega) (by rw [Int.fdiv_eq_ediv_of_nonneg i (by omega)]; exact q) (.inl (PyProof.noPylong_small (by omega)))
theorem op_mod : OpR X (binaryOp .Mod) (rI (fun _ j => 0 < j) fun i j => .int (i % j)) := opI fun i j _ _ _ _ _ hc q => by
  have h1 : (0 : Int) < j := hc
  exact mod_int' (by omega) (by rw [Int.fmod_eq_emod_of_nonneg i (by omega)]; exact q)
theorem op_pow : OpR X (binaryOp .Pow) (rI CPow fun i j => .int (i ^ j.toNat)) := opI fun _ _ _ _ _ _ _ hc q => pow_int_small hc.1 hc.2.1 hc.2.2 q
theorem iop_add : OpR X (inplaceOp .Add) (rI0 fun i j => .int (i + j)) := opI0 fun _ _ _ _ _ _ _ q => iadd_int q
theorem unI {f : Value → Sem Value} {g : Int → Int}
    (rule : ∀ (i : Int) (t : Tok) (s : Shared) (Q : Value → Shared → Prop) (E : Value → Shared → Prop), Q (.int (g i) s.toks) { s with toks := s.toks + 1 } → wpAny (model X.prog X.w) X.A (f (.int i t)) Q E s) :
    UnR X f (rU fun i => .int (g i)) := by
  intro pins s σ H x v Q I rx h
  obtain ⟨i, rfl, q⟩ := h
  obtain ⟨t, rfl⟩ := rx
  exact rule i t s _ _ ⟨.int (g i), H, I.tok _, ⟨_, rfl⟩, q⟩
theorem un_neg : UnR X (unaryOp .USub) (rU fun i => .int (-i)) := unI fun _ _ _ _ _ q => neg_int q
end
noncomputable def scal : V → V → Bool
  | .non, .non => true | .non, .int _ => true | .int _, .non => true | .non, .bl _ => true | .bl _, .non => true | .non, .str _ => true | .str _, .non => true
  | .int _, .int _ => true | .bl _, .bl _ => true | .str _, .str _ => true | .byt _, .byt _ => true
  | .int _, .str _ => true | .str _, .int _ => true | .bl _, .str _ => true | .str _, .bl _ => true
  | _, _ => false
noncomputable def rEq : R2 := fun x y H Q => scal x y = true ∧ Q (.bl (decide (x = y))) H
noncomputable def rNe : R2 := fun x y H Q => scal x y = true ∧ Q (.bl (!decide (x = y))) H
theorem dec_int {i j : Int} : decide (V.int i = V.int j) = (i == j) := by
  rw [Bool.eq_iff_iff]
  simp
theorem dec_bl {i j : Bool} : decide (V.bl i = V.bl j) = (i == j) := by
  rw [Bool.eq_iff_iff]
  simp
theorem dec_str {i j : Str} : decide (V.str i = V.str j) = (i == j) := by
  rw [Bool.eq_iff_iff]
  simp
theorem dec_byt {i j : Array UInt8} : decide (V.byt i = V.byt j) = (i.toList == j.toList) := by
  rw [Bool.eq_iff_iff]
  cases i
  cases j
  simp
section
variable {X : Cx} {a b c : Expr} {ta tb tc : TE} {pos : Pos}
theorem fin_bl {pins : List (Addr × Obj)} {σ : St} {H : Hp} {s : Shared} {Q : VK} {k k' : Bool} (I : Inv X pins σ H s) (q : Q (.bl k) H) (e : k = k') : EP X pins σ Q (.bool k') s := by
  subst e
  exact ⟨.bl k, H, I, rfl, q⟩
theorem op_eq : OpR X (compareOp .Eq) rEq := by
  intro pins s σ H x y v u Q I rx ry h
  obtain ⟨hs, q⟩ := h
  cases x with
  | non =>
    cases rx
    cases y with
    | non => cases ry; exact PySem.EqNone.eq_none_none (fin_bl I q (by simp))
    | bl j => cases ry; exact PySem.EqNone.eq_none_bool (fin_bl I q (by simp))
    | int j => obtain ⟨t', rfl⟩ := ry; exact PySem.EqNone.eq_none_int (fin_bl I q (by simp))
    | str j => obtain ⟨t', rfl⟩ := ry; exact PySem.EqNone.eq_none_str (fin_bl I q (by simp))
    | _ => exact absurd (show false = true from hs) Bool.false_ne_true
  | bl i =>
    cases rx
    cases y with
    | non => cases ry; exact PySem.EqNone.eq_bool_none (fin_bl I q (by simp))
    | bl j => cases ry; exact eq_bool (fin_bl I q dec_bl)
    | str j => obtain ⟨t', rfl⟩ := ry; exact PySem.EqMixed.eq_bool_str (fin_bl I q (by simp))
    | _ => exact absurd (show false = true from hs) Bool.false_ne_true
  | int i =>
    obtain ⟨t, rfl⟩ := rx
    cases y with
    | non => cases ry; exact PySem.EqNone.eq_int_none (fin_bl I q (by simp))
    | int j => obtain ⟨t', rfl⟩ := ry; exact eq_int (fin_bl I q dec_int)
    | str j => obtain ⟨t', rfl⟩ := ry; exact PySem.EqMixed.eq_int_str (fin_bl I q (by simp))
    | _ => exact absurd (show false = true from hs) Bool.false_ne_true
  | str i =>
    obtain ⟨t, rfl⟩ := rx
    cases y with
    | non => cases ry; exact PySem.EqNone.eq_str_none (fin_bl I q (by simp))
    | bl j => cases ry; exact PySem.EqMixed.eq_str_bool (fin_bl I q (by simp))
    | int j => obtain ⟨t', rfl⟩ := ry; exact PySem.EqMixed.eq_str_int (fin_bl I q (by simp))
    | str j => obtain ⟨t', rfl⟩ := ry; exact eq_str (fin_bl I q dec_str)
    | _ => exact absurd (show false = true from hs) Bool.false_ne_true
  | byt i =>
    obtain ⟨t, rfl⟩ := rx
    cases y with
    | byt j => obtain ⟨t', rfl⟩ := ry; exact PySem.W.eq_bytes (fin_bl I q dec_byt)
    | _ => exact absurd (show false = true from hs) Bool.false_ne_true
  | _ => cases y <;> exact absurd (show false = true from hs) Bool.false_ne_true
theorem op_ne : OpR X (compareOp .NotEq) rNe := by
  intro pins s σ H x y v u Q I rx ry h
  obtain ⟨hs, q⟩ := h
  cases x with
  | non =>
    cases rx
    cases y with
    | non => cases ry; exact PySem.EqNone.ne_none_none (fin_bl I q (by simp))
    | bl j => cases ry; exact PySem.EqNone.ne_none_bool (fin_bl I q (by simp))
    | int j => obtain ⟨t', rfl⟩ := ry; exact PySem.EqNone.ne_none_int (fin_bl I q (by simp))
    | str j => obtain ⟨t', rfl⟩ := ry; exact PySem.EqNone.ne_none_str (fin_bl I q (by simp))
    | _ => exact absurd (show false = true from hs) Bool.false_ne_true
  | bl i =>
    cases rx
    cases y with
    | non => cases ry; exact PySem.EqNone.ne_bool_none (fin_bl I q (by simp))
    | bl j => cases ry; exact ne_bool (fin_bl I q (congrArg not dec_bl))
    | str j => obtain ⟨t', rfl⟩ := ry; exact PySem.EqMixed.ne_bool_str (fin_bl I q (by simp))
    | _ => exact absurd (show false = true from hs) Bool.false_ne_true
  | int i =>
    obtain ⟨t, rfl⟩ := rx
    cases y with
    | non => cases ry; exact PySem.EqNone.ne_int_none (fin_bl I q (by simp))
    | int j => obtain ⟨t', rfl⟩ := ry; exact ne_int (fin_bl I q (congrArg not dec_int))
    | str j => obtain ⟨t', rfl⟩ := ry; exact PySem.EqMixed.ne_int_str (fin_bl I q (by simp))
    | _ => exact absurd (show false = true from hs) Bool.false_ne_true
  | str i =>
    obtain ⟨t, rfl⟩ := rx
    cases y with
    | non => cases ry; exact PySem.EqNone.ne_str_none (fin_bl I q (by simp))
    | bl j => cases ry; exact PySem.EqMixed.ne_str_bool (fin_bl I q (by simp))
    | int j => obtain ⟨t', rfl⟩ := ry; exact PySem.EqMixed.ne_str_int (fin_bl I q (by simp))
    | str j => obtain ⟨t', rfl⟩ := ry; exact ne_str (fin_bl I q (congrArg not dec_str))
    | _ => exact absurd (show false = true from hs) Bool.false_ne_true
  | byt i =>
    obtain ⟨t, rfl⟩ := rx
    cases y with
    | byt j => obtain ⟨t', rfl⟩ := ry; exact PySem.W.ne_bytes (fin_bl I q (congrArg not dec_byt))
    | _ => exact absurd (show false = true from hs) Bool.false_ne_true
  | _ => cases y <;> exact absurd (show false = true from hs) Bool.false_ne_true
theorem op_lt : OpR X (compareOp .Lt) (rI0 fun i j => .bl (decide (i < j))) := opB0 fun _ _ _ _ _ _ _ q => lt_int q
theorem op_gt : OpR X (compareOp .Gt) (rI0 fun i j => .bl (decide (j < i))) := opB0 fun _ _ _ _ _ _ _ q => gt_int q
theorem op_isN : OpR X (compareOp .Is) (fun x y H Q => y = .non ∧ Q (.bl (decide (x = .non))) H) := by
  intro pins s σ H x y v u Q I rx ry h
  obtain ⟨rfl, q⟩ := h
  cases ry
  refine is_none_gen (fin_bl I q ?_)
  cases x <;> first
    | (cases rx; rfl)
    | (obtain ⟨t, rfl⟩ := rx; rfl)
theorem OpR.or {f : Value → Value → Sem Value} {r r' : R2} (h : OpR X f r) (h' : OpR X f r') : OpR X f (fun x y H Q => r x y H Q ∨ r' x y H Q) := by
  intro pins s σ H x y v u Q I rx ry q
  rcases q with q | q
  · exact h pins s σ H x y v u Q I rx ry q
  · exact h' pins s σ H x y v u Q I rx ry q
theorem nomark (b : Expr) {op : CmpOp} (h : op ≠ .In := by decide) (h2 : op ≠ .NotIn := by decide) : behindInMarks op b = false := by
  have e1 : (op == CmpOp.In) = false := by cases op <;> first | rfl | exact absurd rfl h
  have e2 : (op == CmpOp.NotIn) = false := by cases op <;> first | rfl | exact absurd rfl h2
  cases b <;> simp [behindInMarks, e1, e2]
theorem pe_cmpR {op : CmpOp} {r : R2} (ho : OpR X (compareOp op) r) (ha : PE X a ta) (hb : PE X b tb) (hm : behindInMarks op b = false) : PE X (.Compare a [op] [b] pos) (tOp r ta tb) := by
  intro pins s σ H Q I h
  exact wpAny_Compare1 (binT ha hb I h fun v u s2 x y H2 I2 rx ry q => ho pins s2 σ H2 x y v u Q I2 rx ry q) hm
noncomputable def tTest (t : TE) : TT := fun σ H Q => t σ H fun x H' => ∃ k, x = .bl k ∧ Q k H'
theorem pt_cmpR {op : CmpOp} {r : R2} (ho : OpR X (compareOp op) r) (ha : PE X a ta) (hb : PE X b tb) (hm : behindInMarks op b = false) : PT X (.Compare a [op] [b] pos) (tTest (tOp r ta tb)) := by
  intro pins s σ H Q I h
  refine wpAny_isTrue_Compare1 (thn (ha pins s σ H _ I h) fun v s1 ⟨x, H1, I1, r1, q1⟩ => thn (hb pins s1 σ H1 _ I1 q1) fun u s2 ⟨y, H2, I2, r2, q2⟩ =>
    thn (ho pins s2 σ H2 x y v u _ I2 r1 r2 q2) fun c s3 ⟨z, H3, I3, r3, k, e, q3⟩ => ?_) hm
  subst e
  cases r3
  exact wpAny_truthy_bool ⟨H3, I3, q3⟩
noncomputable def TruV (K : PySem.W.Frag) (x : V) (H : Hp) (k : Bool) : Prop :=
  match x with
  | .non => k = false
  | .bl b => k = b
  | .int i => k = (i != 0)
  | .str y => y.length ≤ sizeLine ∧ k = ((y.length : Int) != 0)
  | .byt y => y.size ≤ sizeLine ∧ k = ((y.size : Int) != 0)
  | .ref p => (∃ xs, SqL K H p xs ∧ k = !xs.isEmpty) ∨ (∃ xs, SqT K H p xs ∧ k = !xs.isEmpty) ∨ ∃ kvs, H p = some (.dK kvs) ∧ k = !kvs.isEmpty
  | _ => False
theorem isEmpty_kv {κ : Type} {kvs : List (κ × V)} {vs : List (κ × Value)} (r : KV kvs vs) : (!vs.isEmpty) = !kvs.isEmpty := by
  cases r <;> rfl
theorem isEmpty_of {xs : List V} {its : List Value} (r : Vals xs its) : (!its.toArray.isEmpty) = !xs.isEmpty := by
  cases r <;> simp
theorem line63 : (sizeLine : Nat) < 2 ^ 63 := by rw [sizeLine_eq]; decide
theorem tru_ok : TruR X (fun x H Q => ∃ k, TruV X.K x H k ∧ Q k H) := by
  intro pins s σ H x v Q I rx h
  obtain ⟨k, e, q⟩ := h
  have hl := line63
  have hs : sizeLine = 16777216 := sizeLine_eq
  cases x with
  | non =>
    cases rx
    have e' : k = false := e
    subst e'
    exact truthy_none ⟨H, I, q⟩
  | bl b =>
    cases rx
    have e' : k = b := e
    subst e'
    exact wpAny_truthy_bool ⟨H, I, q⟩
  | int i =>
    obtain ⟨t, rfl⟩ := rx
    have e' : k = (i != 0) := e
    subst e'
    exact PySem.P.truthy_int ⟨H, I, q⟩
  | str y =>
    obtain ⟨t, rfl⟩ := rx
    obtain ⟨hy, e'⟩ : y.length ≤ sizeLine ∧ k = ((y.length : Int) != 0) := e
    subst e'
    exact PySem.P.truthy_str (by omega) ⟨H, I.tok _, q⟩
  | byt y =>
    obtain ⟨t, rfl⟩ := rx
    obtain ⟨hy, e'⟩ : y.size ≤ sizeLine ∧ k = ((y.size : Int) != 0) := e
    subst e'
    exact PySem.W.truthy_bytes (by omega) ⟨H, I.tok _, q⟩
  | ref p =>
    cases rx
    have e' : (∃ xs, SqL X.K H p xs ∧ k = !xs.isEmpty) ∨ (∃ xs, SqT X.K H p xs ∧ k = !xs.isEmpty) ∨ ∃ kvs, H p = some (.dK kvs) ∧ k = !kvs.isEmpty := e
    rcases e' with ⟨xs, hx, e'⟩ | ⟨xs, hx, e'⟩ | ⟨kvs, hx, e'⟩
    · subst e'
      obtain ⟨its, r, pl, hz⟩ := I.list hx
      have hlen := r.length
      exact wpAny_truthy_list pl.isList (by simp only [List.size_toArray]; omega) ⟨H, I.tok _, by rw [isEmpty_of r]; exact q⟩
    · subst e'
      obtain ⟨its, r, pl, hz⟩ := I.tuple hx
      have hlen := r.length
      exact truthy_tuple pl (by simp only [List.size_toArray]; omega) ⟨H, I.tok _, by rw [isEmpty_of r]; exact q⟩
    · subst e'
      obtain ⟨hz, hS, vs, r, m⟩ : kvs.length ≤ sizeLine ∧ (p == sysModules) = false ∧ ∃ vs, KV kvs vs ∧ s.heap.DictOf (mixKind X.prog X.w) p vs := I.hok p _ hx
      have hlen : kvs.length = vs.length := Paired.length r
      exact wpAny_truthy_dict hS m (by omega) ⟨H, I.tok _, by rw [isEmpty_kv r]; exact q⟩
  | _ => exact (show False from e).elim
theorem op_add_str : OpR X (binaryOp .Add) (fun x y H Q => ∃ i j, x = .str i ∧ y = .str j ∧ i.length + j.length ≤ sizeLine ∧ Q (.str (i ++ j)) H) := by
  intro pins s σ H x y v u Q I rx ry h
  obtain ⟨i, j, rfl, rfl, hz, q⟩ := h
  obtain ⟨t, rfl⟩ := rx
  obtain ⟨t', rfl⟩ := ry
  exact add_str (fun t' tk => ⟨.str (i ++ j), H, I.tok _, ⟨_, rfl⟩, q⟩) hz
theorem iop_add_str : OpR X (inplaceOp .Add) (fun x y H Q => ∃ i j, x = .str i ∧ y = .str j ∧ i.length + j.length ≤ sizeLine ∧ Q (.str (i ++ j)) H) := by
  intro pins s σ H x y v u Q I rx ry h
  obtain ⟨i, j, rfl, rfl, hz, q⟩ := h
  obtain ⟨t, rfl⟩ := rx
  obtain ⟨t', rfl⟩ := ry
  exact iadd_str (fun t' tk => ⟨.str (i ++ j), H, I.tok _, ⟨_, rfl⟩, q⟩) hz
theorem vals1 {x : V} {us : List Value} (r : Vals [x] us) : ∃ u, us = [u] ∧ RelV x u := by
  cases r with
  | cons r1 r2 => cases r2; exact ⟨_, rfl, r1⟩
theorem vals2 {x y : V} {us : List Value} (r : Vals [x, y] us) : ∃ u w', us = [u, w'] ∧ RelV x u ∧ RelV y w' := by
  cases r with
  | cons r1 r2 =>
    cases r2 with
    | cons r3 r4 => cases r4; exact ⟨_, _, rfl, r1, r3⟩
theorem call_int1 : CallR X (.type "int") (fun xs H Q => (∃ i, xs = [.int i] ∧ Q (.int i) H) ∨ ∃ k, xs = [.bl k] ∧ Q (.int (if k then 1 else 0)) H) := by
  intro pins s σ H xs us Q I r h
  rcases h with ⟨i, rfl, q⟩ | ⟨k, rfl, q⟩
  · obtain ⟨u, rfl, t, rfl⟩ := vals1 r
    exact call_int_int ⟨.int i, H, I, ⟨_, rfl⟩, q⟩
  · obtain ⟨u, rfl, r1⟩ := vals1 r
    cases r1
    exact call_int_bool ⟨.int (if k then 1 else 0), H, I.tok _, ⟨_, rfl⟩, q⟩
theorem call_str_int : CallR X (.type "str") (fun xs H Q => ∃ i, xs = [.int i] ∧ i.natAbs.log2 < 1920 ∧ Q (.str (toString i)) H) := by
  intro pins s σ H xs us Q I r h
  obtain ⟨i, rfl, hz, q⟩ := h
  obtain ⟨u, rfl, t, rfl⟩ := vals1 r
  exact PySem.P.str_of_int hz ⟨.str _, H, I.tok _, ⟨_, rfl⟩, q⟩
noncomputable def LenV (K : PySem.W.Frag) (x : V) (H : Hp) (n : Nat) : Prop :=
  match x with
  | .str y => y.length ≤ sizeLine ∧ n = y.length
  | .byt y => y.size ≤ sizeLine ∧ n = y.size
  | .ref p => (∃ xs, SqL K H p xs ∧ n = xs.length) ∨ ∃ xs, SqT K H p xs ∧ n = xs.length
  | _ => False
theorem call_len : CallR X (.builtin "len") (fun xs H Q => ∃ x n, xs = [x] ∧ LenV X.K x H n ∧ Q (.int n) H) := by
  intro pins s σ H xs us Q I r h
  obtain ⟨x, n, rfl, e, q⟩ := h
  obtain ⟨u, rfl, rx⟩ := vals1 r
  have hl := line63
  have hs : sizeLine = 16777216 := sizeLine_eq
  cases x with
  | str y =>
    obtain ⟨t, rfl⟩ := rx
    obtain ⟨hy, e'⟩ : y.length ≤ sizeLine ∧ n = y.length := e
    subst e'
    exact len_str (by omega) ⟨.int _, H, I.tok _, ⟨_, rfl⟩, q⟩
  | byt y =>
    obtain ⟨t, rfl⟩ := rx
    obtain ⟨hy, e'⟩ : y.size ≤ sizeLine ∧ n = y.size := e
    subst e'
    exact PySem.W.len_bytes (by omega) ⟨.int _, H, I.tok _, ⟨_, rfl⟩, q⟩
  | ref p =>
    cases rx
    have e' : (∃ xs, SqL X.K H p xs ∧ n = xs.length) ∨ ∃ xs, SqT X.K H p xs ∧ n = xs.length := e
    rcases e' with ⟨xs, hx, e'⟩ | ⟨xs, hx, e'⟩
    · subst e'
      obtain ⟨its, r', pl, hz⟩ := I.list hx
      have hlen := r'.length
      exact Calls.call_len_list pl.isList (by simp only [List.size_toArray]; omega) ⟨.int xs.length, H, I.tok _, ⟨_, by simp only [List.size_toArray]; rw [hlen]⟩, q⟩
    · subst e'
      obtain ⟨its, r', pl, hz⟩ := I.tuple hx
      have hlen := r'.length
      exact len_tuple pl (by simp only [List.size_toArray]; omega) ⟨.int xs.length, H, I.tok _, ⟨_, by simp only [List.size_toArray]; rw [hlen]⟩, q⟩
  | _ => exact (show False from e).elim
end
end L2
namespace L2
open PySem PySem.Spec PyProof.Rows
structure ObjM (h : Heap) (x dx C : Addr) (mA : Str → Option Value) : Prop where
  obj : h.get? x = some (PySem.W.instObj C dx)
  ns : h.Ns1 dx mA
  ne : dx ≠ x
theorem lookIn_ns {h : Heap} {dx : Addr} {mA : Str → Option Value} (n : h.Ns1 dx mA) : ∃ od, h.get? dx = some od ∧ ∀ name, PySem.W.lookIn name od = some (mA name) := by
  obtain ⟨o, es, ep, ho, hd, hk, _, hm⟩ := n
  refine ⟨o, ho, fun name => ?_⟩
  have e := hm name
  unfold nsFind findBy at e
  rw [← Array.find?_toList] at e
  unfold PySem.W.lookIn
  rw [hd]
  dsimp only
  split
  · rename_i y q
    rw [q] at e
    exact congrArg some e
  · rename_i q
    rw [q] at e
    have a : es.toList.any (·.refKey) = false := by
      rw [List.any_eq_false]
      intro y hy
      obtain ⟨z, t, hkey⟩ := hk y (Array.mem_toList_iff.mp hy)
      simp [DictEntry.refKey, hkey]
    have a' : ¬ es.toList.any (·.refKey) = true := by rw [a]; exact Bool.false_ne_true
    rw [if_neg a']
    exact congrArg some e
theorem ObjM.look {h : Heap} {x dx C : Addr} {mA : Str → Option Value} (I : ObjM h x dx C mA) : ∃ od, PySem.W.InstAt h x (PySem.W.instObj C dx) C (some od) ∧ ∀ name, PySem.W.lookIn name od = some (mA name) :=
  let ⟨od, ho, hl⟩ := lookIn_ns I.ns
  ⟨od, ⟨I.obj, rfl, rfl, ho⟩, hl⟩
section
variable {prog : Program} {w : World} {A : Around} {E : Value → Shared → Prop} {s : Shared} {K : PySem.W.Frag} {x dx C f : Addr} {mA : Str → Option Value} {name : Str} {v : Value}
theorem get_map {expr : Bool} {Q : Value → Shared → Prop} (X : K.In s.heap) (I : ObjM s.heap x dx C mA) (hg : PySem.W.plainGet K C name = true) (hh : PySem.W.hasDictIn K C = true)
    (ha : PySem.W.findIn K (.ref C) name = some none) (hv : mA name = some v) (hv' : PySem.W.handedIn v = true) (h : Q v { s with toks := s.toks + 1 }) :
    wpAny (model prog w) A (getAttr (.ref x) name expr) Q E s := by
  obtain ⟨od, J, hl⟩ := I.look
  exact PySem.W.get_value X J (PySem.W.plainGet_of hg).1 (PySem.W.findObj_own hh ha rfl (by rw [hl, hv])) hv' h
theorem get_meth {pl : Sem Bool} {Q : Value × List Value → Shared → Prop} (X : K.In s.heap) (I : ObjM s.heap x dx C mA) (hg : PySem.W.plainGet K C name = true)
    (hf : PySem.W.findIn K (.ref C) name = some (some (.ref f))) (ht : PySem.W.isFn K (.ref f) = true) (hv : mA name = none) (h : Q (.ref f, [.ref x]) s) :
    wpAny (model prog w) A (getMethod (.ref x) name pl) Q E s := by
  obtain ⟨od, J, hl⟩ := I.look
  exact PySem.W.method_fn X J (PySem.W.plainGet_of hg).1 (PySem.W.plainGet_of hg).2 hf (beq_iff_eq.mp ht) (by show (PySem.W.lookIn name od).map (·.isSome) = some false; rw [hl, hv]; rfl) h
theorem set_map {ns : List Str} {Q : Unit → Shared → Prop} (X : K.In s.heap) (I : ObjM s.heap x dx C mA)
    (hs : PySem.W.findIn K (.ref C) "__setattr__" = some (some (.builtin "object.__setattr__"))) (hp : PySem.W.plainOver K C = true) (ht : PySem.W.takerIn K C name = some none) (hh : PySem.W.hasDictIn K C = true)
    (hw : PySem.Within mA ns) (hsz : ns.length ≤ sizeLine)
    (h : ∀ h', ObjM h' x dx C (fun y => if y = name then some v else mA y) → Heap.SameBut dx s.heap h' → Q () { s with heap := h', toks := s.toks + 2 }) :
    wpAny (model prog w) A (setAttr (.ref x) name v) Q E s := by
  obtain ⟨od, J, hl⟩ := I.look
  refine PySem.W.set_plain X J hs (PySem.W.osa_open (s := { s with toks := s.toks + 1 }) (r := none) X J hp ht fun b => ?_)
  obtain ⟨cd, hc, hd'⟩ := PySem.W.any_some hh
  have hx : s.heap.get? x = some ⟨.ref C, some dx, .plain, #[]⟩ := I.obj
  refine wpAny_bind (wpAny_pure (wpAny_bind (wpAny_bind (wpAny_loadPart hx (wpAny_bind (PySem.W.Looks.here (s := { s with toks := s.toks + 1 }) (PySem.W.looks_clsIn X hc) ?_))))))
  rw [hd']
  refine wpAny_pure (a := some dx) (wpAny_bind (wpAny_pure (wpAny_bind ?_)))
  refine wpAny_nsSet1 (s := { s with toks := s.toks + 1 }) I.ns fun h' hn2 hs2 => ?_
  obtain ⟨oD, esD, epD, hoD, hdD, hcD⟩ := hn2.count (PySem.Within.cons name v hw)
  refine wpAny_bind (wpAny_lookBehind hoD (by rw [hdD]; exact pastItsLine_dict (Nat.le_trans hcD (by rw [List.length_cons]; omega))) ?_)
  exact wpAny_pure (h _ ⟨(hs2.2 _ (Ne.symm I.ne)).trans I.obj, hn2, I.ne⟩ hs2)
theorem make_map {R : Result → Shared → Prop} {vs : List Value} {kw : List (Str × Value)} (X : K.In s.heap) (hm : PySem.W.makesIn K C = true)
    (hi : PySem.W.findIn K (.ref C) "__init__" = some (some (.ref f))) (hf : PySem.W.typeIn K (.ref f) = some (.type "function"))
    (h : codeAny (model prog w) (A.under (.builtin "type.__call__" ⟨.ref C :: vs, kw⟩)) (.call (.ref f) ⟨.ref (s.heap.objs.size + 1) :: vs, kw⟩) (PySem.W.InitBack (s.heap.objs.size + 1) R)
      { s with heap := (s.heap.push PySem.W.emptyDict).push (PySem.W.instObj C s.heap.objs.size) }) :
    codeAny (model prog w) A (.call (.ref C) ⟨vs, kw⟩) R s := by
  obtain ⟨hh, g, d, t, os⟩ := s
  exact PySem.W.make_core (PySem.W.makes_of X hm) (PySem.W.looks_findIn X hi) (fun self => PySem.W.bind_fn X self hf) (.inl rfl) h
end
noncomputable def putF (f : Str) (v : V) : List (Str × V) → List (Str × V)
  | [] => [(f, v)]
  | (g, x) :: r => if g = f then (g, v) :: r else (g, x) :: putF f v r
theorem lookup_putF (f g : Str) (v : V) : ∀ fs : List (Str × V), (putF f v fs).lookup g = if g = f then some v else fs.lookup g
  | [] => by
    show List.lookup g [(f, v)] = _
    by_cases h : g = f
    · have hb : (g == f) = true := beq_iff_eq.mpr h
      simp only [List.lookup, hb, if_pos h]
    · have hb : (g == f) = false := beq_eq_false_iff_ne.mpr h
      simp only [List.lookup, hb, if_neg h]
  | (k, x) :: r => by
    have ih := lookup_putF f g v r
    rw [show putF f v ((k, x) :: r) = (if k = f then (k, v) :: r else (k, x) :: putF f v r) from rfl]
    by_cases hk : k = f
    · rw [if_pos hk]
      by_cases h : g = k
      · have hb : (g == k) = true := beq_iff_eq.mpr h
        simp only [List.lookup, hb, if_pos (h.trans hk)]
      · have hb : (g == k) = false := beq_eq_false_iff_ne.mpr h
        simp only [List.lookup, hb, if_neg (fun e : g = f => h (e.trans hk.symm))]
    · rw [if_neg hk]
      by_cases h : g = k
      · have hb : (g == k) = true := beq_iff_eq.mpr h
        simp only [List.lookup, hb, if_neg (fun e : g = f => hk (h.symm.trans e))]
      · have hb : (g == k) = false := beq_eq_false_iff_ne.mpr h
        simp only [List.lookup, hb]
        exact ih
theorem keys_putF (f : Str) (v : V) : ∀ fs : List (Str × V), f ∈ (putF f v fs).map (·.1) ∧ ∀ g, g ∈ fs.map (·.1) → g ∈ (putF f v fs).map (·.1)
  | [] => ⟨by simp [putF], fun g h => by simp at h⟩
  | (k, x) :: r => by
    obtain ⟨i1, i2⟩ := keys_putF f v r
    rw [show putF f v ((k, x) :: r) = (if k = f then (k, v) :: r else (k, x) :: putF f v r) from rfl]
    by_cases hk : k = f
    · rw [if_pos hk]
      subst hk
      exact ⟨by simp, fun g h => by simpa using h⟩
    · rw [if_neg hk]
      refine ⟨?_, fun g h => ?_⟩
      · rw [List.map_cons]
        exact List.mem_cons_of_mem _ i1
      · rw [List.map_cons] at h ⊢
        rcases List.mem_cons.mp h with e | e
        · exact List.mem_cons.mpr (.inl e)
        · exact List.mem_cons_of_mem _ (i2 g e)
theorem length_putF (f : Str) (v : V) : ∀ fs : List (Str × V), (putF f v fs).length ≤ fs.length + 1
  | [] => by simp [putF]
  | (k, x) :: r => by
    have ih := length_putF f v r
    rw [show putF f v ((k, x) :: r) = (if k = f then (k, v) :: r else (k, x) :: putF f v r) from rfl]
    by_cases hk : k = f
    · rw [if_pos hk, List.length_cons, List.length_cons]; omega
    · rw [if_neg hk, List.length_cons, List.length_cons]; omega
theorem RelO.some_of {v : V} {o : Option Value} (r : RelO (some v) o) : ∃ u, o = some u ∧ RelV v u := by
  cases o with
  | none => exact (show False from r).elim
  | some u => exact ⟨u, rfl, r⟩
theorem RelO.none_of {o : Option Value} (r : RelO none o) : o = none := by
  cases o with
  | none => rfl
  | some u => exact (show False from r).elim
theorem handed_of {v : V} {u : Value} (r : RelV v u) : PySem.W.handedIn u = true := by
  cases v with
  | non => cases (show u = Value.none from r); rfl
  | bl b => cases (show u = Value.bool b from r); rfl
  | int i => obtain ⟨t, e⟩ := (show ∃ t, u = Value.int i t from r); cases e; rfl
  | str x => obtain ⟨t, e⟩ := (show ∃ t, u = Value.str x t from r); cases e; rfl
  | byt b => obtain ⟨t, e⟩ := (show ∃ t, u = Value.bytes b t from r); cases e; rfl
  | flt b => obtain ⟨t, e⟩ := (show ∃ t, u = Value.float b t from r); cases e; rfl
  | ref a => cases (show u = Value.ref a from r); rfl
  | ty n => cases (show u = Value.type n from r); rfl
section
variable {P : Program} {w : World} {H H' : Hp} {h h' : Heap} {a C dx : Addr} {fs fs' : List (Str × V)}
theorem ins_get (hok : HOk P w H h) (e : H a = some (.ins C dx fs)) : ∃ mA, ObjM h a dx C mA ∧ (∀ f, RelO (fs.lookup f) (mA f)) ∧ PySem.Within mA (fs.map (·.1)) ∧ fs.length ≤ 1000 ∧ H dx = some (.own a) := by
  obtain ⟨d, z, ne, ob, mA, n, r, q⟩ := (show ObjOk P w H h a (.ins C dx fs) from hok a _ e)
  exact ⟨mA, ⟨ob, n, ne⟩, r, q, z, d⟩
end
structure Cls (K : PySem.W.Frag) (C : Addr) : Prop where
  pg : PySem.W.plainGet K C Str.empty = true
  hd : PySem.W.hasDictIn K C = true
  po : PySem.W.plainOver K C = true
  sa : PySem.W.findIn K (.ref C) "__setattr__" = some (some (.builtin "object.__setattr__"))
theorem Cls.get {K : PySem.W.Frag} {C : Addr} (c : Cls K C) (f : Str) : PySem.W.plainGet K C f = true := c.pg
noncomputable def NoAttr (K : PySem.W.Frag) (C : Addr) (f : Str) : Prop := PySem.W.findIn K (.ref C) f = some none
theorem NoAttr.taker {K : PySem.W.Frag} {C : Addr} {f : Str} (n : NoAttr K C f) : PySem.W.takerIn K C f = some none := by
  unfold PySem.W.takerIn
  rw [show PySem.W.findIn K (.ref C) f = some none from n]
  rfl
structure Meth (K : PySem.W.Frag) (C : Addr) (m : Str) (f : Addr) : Prop where
  at_ : PySem.W.findIn K (.ref C) m = some (some (.ref f))
  fn : PySem.W.isFn K (.ref f) = true
  kp : PySem.W.keepIn K (.ref f) = true
section
variable {X : Cx} {pins : List (Addr × Obj)} {σ : St} {H : Hp} {s : Shared} {a C dx : Addr} {fs : List (Str × V)} {f : Str} {v : V} {A : Around} {E : Value → Shared → Prop}
theorem getattr_ok {b : Bool} {Q : Value → Shared → Prop} (I : Inv X pins σ H s) (e : H a = some (.ins C dx fs)) (c : Cls X.K C) (n : NoAttr X.K C f) (l : fs.lookup f = some v)
    (h : ∀ u s', Inv X pins σ H s' → RelV v u → Q u s') : wpAny (model X.prog X.w) A (getAttr (.ref a) f b) Q E s := by
  obtain ⟨mA, O, r, _, _, _⟩ := ins_get I.hok e
  obtain ⟨u, hu, ru⟩ := RelO.some_of (v := v) (o := mA f) (by rw [← l]; exact r f)
  exact get_map I.kIn O (c.get f) c.hd n hu (handed_of ru) (h u _ (I.tok _) ru)
theorem getmeth_ok {m : Str} {g : Addr} {pl : Sem Bool} {Q : Value × List Value → Shared → Prop} (I : Inv X pins σ H s) (e : H a = some (.ins C dx fs)) (c : Cls X.K C) (k : Meth X.K C m g) (l : fs.lookup m = none)
    (h : Q (.ref g, [.ref a]) s) : wpAny (model X.prog X.w) A (getMethod (.ref a) m pl) Q E s := by
  obtain ⟨mA, O, r, _, _, _⟩ := ins_get I.hok e
  have hn : mA m = none := RelO.none_of (by rw [← l]; exact r m)
  exact get_meth I.kIn O (c.get m) k.at_ k.fn hn h
theorem setattr_ok {y : V} {u : Value} {Q : Unit → Shared → Prop} (I : Inv X pins σ H s) (e : H a = some (.ins C dx fs)) (c : Cls X.K C) (n : NoAttr X.K C f) (hl : fs.length < 1000) (ry : RelV y u)
    (h : ∀ s', Inv X pins σ (upd H a (.ins C dx (putF f y fs))) s' → Q () s') : wpAny (model X.prog X.w) A (setAttr (.ref a) f u) Q E s := by
  obtain ⟨mA, O, r, wi, _, ho⟩ := ins_get I.hok e
  have hz : (fs.map (·.1)).length ≤ sizeLine := by rw [List.length_map, sizeLine_eq]; omega
  refine set_map I.kIn O c.sa c.po n.taker c.hd wi hz fun h' O' sb => h _ ?_
  have hd : ∃ o, h'.get? dx = some o := let ⟨o, _, _, e', _⟩ := O'.ns; ⟨o, e'⟩
  refine I.write (x := a) (e := dx) (by rw [e]; exact True.intro) (.inr ho) (fun b q hb z => (sb.2 b hb).trans z) hd ?_
  refine ⟨by rw [upd_ne O.ne]; exact ho, ?_, O.ne, O'.obj, _, O'.ns, fun g => ?_, fun g hg => ?_⟩
  · have := length_putF f y fs; omega
  · show RelO ((putF f y fs).lookup g) (if g = f then some u else mA g)
    rw [lookup_putF]
    by_cases q : g = f
    · rw [if_pos q, if_pos q]; exact ry
    · rw [if_neg q, if_neg q]; exact r g
  · by_cases q : g = f
    · rw [q]; exact (keys_putF f y fs).1
    · refine (keys_putF f y fs).2 g (wi g fun z => hg ?_)
      show (if g = f then some u else mA g) = none
      rw [if_neg q]; exact z
theorem Inv.made (I : Inv X pins σ H s) : Inv X pins σ (upd (upd H s.heap.objs.size (.own (s.heap.objs.size + 1))) (s.heap.objs.size + 1) (.ins C s.heap.objs.size []))
    { s with heap := (s.heap.push PySem.W.emptyDict).push (PySem.W.instObj C s.heap.objs.size) } := by
  have e1 : (s.heap.push PySem.W.emptyDict).get? s.heap.objs.size = some PySem.W.emptyDict := Heap.get?_push_size s.heap rfl
  have e2 : ((s.heap.push PySem.W.emptyDict).push (PySem.W.instObj C s.heap.objs.size)).get? (s.heap.objs.size + 1) = some (PySem.W.instObj C s.heap.objs.size) := by
    have := Heap.get?_push_size (s.heap.push PySem.W.emptyDict) (o := PySem.W.instObj C s.heap.objs.size) rfl
    rwa [Heap.size_push] at this
  have e3 : (s.heap.push PySem.W.emptyDict).Ns s.heap.objs.size (fun _ => none) := ⟨PySem.W.emptyDict, #[], _, e1, rfl, (fun e he => absurd he (by simp)), fun _ => rfl⟩
  have I1 := I.laid (a := s.heap.objs.size) (o := .own (s.heap.objs.size + 1)) (h' := s.heap.push PySem.W.emptyDict) (t' := s.toks) (fun b u q => Heap.get?_push_of_some _ q) (Nat.le_refl _) ⟨_, e1⟩
  refine I1.laid (a := s.heap.objs.size + 1) (o := .ins C s.heap.objs.size []) (t' := s.toks) (fun b u q => Heap.get?_push_of_some _ q) (Nat.le_of_eq (Heap.size_push _ _)) ?_
  have ne : s.heap.objs.size ≠ s.heap.objs.size + 1 := Nat.ne_of_lt (Nat.lt_succ_self _)
  refine ⟨by rw [upd_ne ne, upd_same], Nat.zero_le _, ne, e2, fun _ => none, (Heap.Ns1.of_empty e3).at fun o q => Heap.get?_push_of_some _ q, fun _ => True.intro, fun y hy => absurd rfl hy⟩
theorem attr_of {prog : Program} {w : World} {env : Env} {e : Expr} {f : Str} {pos : Pos} {s : Shared} {Q : Value → Shared → Prop} (hb : attributeBase e f env (eval e env) = eval e env)
    (h : wpAny (model prog w) A (eval e env) (fun o s₁ => wpAny (model prog w) A (getAttr o f true) Q E s₁) E s) : wpAny (model prog w) A (eval (.Attribute e f pos) env) Q E s :=
  Attribute_any_ h (by rw [arm_eval_Attribute, hb])
end
noncomputable def tFld (K : PySem.W.Frag) (ta : TE) (f : Str) : TE := fun σ H Q => ta σ H fun x H1 => ∃ a C dx fs v, x = .ref a ∧ H1 a = some (.ins C dx fs) ∧ Cls K C ∧ NoAttr K C f ∧ fs.lookup f = some v ∧ Q v H1
noncomputable def sFld (K : PySem.W.Frag) (ta tv : TE) (f : Str) : TS := fun D σ H => tv σ H fun y H1 => ta σ H1 fun x H2 => ∃ a C dx fs, x = .ref a ∧ H2 a = some (.ins C dx fs) ∧ Cls K C ∧ NoAttr K C f ∧ fs.length < 1000 ∧
  D.nx σ (upd H2 a (.ins C dx (putF f y fs)))
noncomputable def InOp (X : Cx) (op : Operator) (rd : V → V → Hp → VK → Prop) : Prop :=
  ∀ (pins : List (Addr × Obj)) (s : Shared) (σ : St) (H : Hp) (x y : V) (u v : Value) (Q : VK), Inv X pins σ H s → RelV x u → RelV y v → rd x y H Q → wpAny (model X.prog X.w) X.A (inplaceOp op u v) (EP X pins σ Q) X.xe s
noncomputable def sFldAug (K : PySem.W.Frag) (ta tv : TE) (rd : V → V → Hp → VK → Prop) (f : Str) : TS := fun D σ H => ta σ H fun x H1 => ∃ a C dx fs v, x = .ref a ∧ H1 a = some (.ins C dx fs) ∧ Cls K C ∧ NoAttr K C f ∧ fs.lookup f = some v ∧
  tv σ H1 fun y H2 => rd v y H2 fun z H3 => ∃ dx' fs', H3 a = some (.ins C dx' fs') ∧ fs'.length < 1000 ∧ D.nx σ (upd H3 a (.ins C dx' (putF f z fs')))
section
variable {X : Cx} {o e value : Expr} {f : Str} {pos pos' tpos : Pos} {ta tv : TE}
theorem pe_fld (he : PE X e ta) (hb : attributeBase e f X.env (eval e X.env) = eval e X.env) : PE X (.Attribute e f pos) (tFld X.K ta f) := by
  intro pins s σ H Q I h
  refine attr_of hb (thn (he pins s σ H _ I h) fun u s1 ⟨x, H1, I1, rx, a, C, dx, fs, v, ex, ea, c, n, l, q⟩ => ?_)
  subst ex
  obtain rfl : u = Value.ref a := rx
  exact getattr_ok I1 ea c n l fun u' s2 I2 ru => ⟨v, H1, I2, ru, q⟩
theorem ps_fld (ha : PE X o ta) (hv : PE X value tv) (hs : swapsWith value (some (.Attribute o f pos')) pos.line X.env = pure false) : PS X (.Assign [.Attribute o f pos'] value pos) (sFld X.K ta tv f) := by
  intro pins s σ H D I h
  refine plainObj_wpAny_Assign_Attribute (thn (hv pins s σ H _ I h) fun u s1 ⟨y, H1, I1, ry, q⟩ => thn (ha pins s1 σ H1 _ I1 q) fun ov s2 ⟨x, H2, I2, rx, a, C, dx, fs, ex, ea, c, n, l, q2⟩ => ?_) hs
  subst ex
  obtain rfl : ov = Value.ref a := rx
  exact setattr_ok I2 ea c n l ry fun s3 I3 => ⟨σ, _, I3, q2⟩
theorem ps_fldaug {op : Operator} {rd : V → V → Hp → VK → Prop} (ha : PE X o ta) (hv : PE X value tv) (hop : InOp X op rd) : PS X (.AugAssign (.Attribute o f tpos) op value pos) (sFldAug X.K ta tv rd f) := by
  intro pins s σ H D I h
  refine wpAny_AugAssign_AttributeAny (thn (ha pins s σ H _ I h) fun ov s1 ⟨x, H1, I1, rx, a, C, dx, fs, v, ex, ea, c, n, l, q⟩ => ?_)
  subst ex
  obtain rfl : ov = Value.ref a := rx
  refine getattr_ok I1 ea c n l fun u s2 I2 ru => thn (hv pins s2 σ H1 _ I2 q) fun w3 s3 ⟨y, H2, I3, ry, q3⟩ => thn (hop pins s3 σ H2 v y u w3 _ I3 ru ry q3) fun w4 s4 ⟨z, H3, I4, rz, dx', fs', ea', l', q4⟩ => ?_
  exact setattr_ok I4 ea' c n l' rz fun s5 I5 => ⟨σ, _, I5, q4⟩
end
section
variable {X : Cx} {pins : List (Addr × Obj)} {σ : St} {H : Hp} {s : Shared} {A : Around} {E : Value → Shared → Prop} {Q : Value → Shared → Prop} {c : Value} {b : Bool}
inductive TyOf (K : PySem.W.Frag) (H : Hp) : V → Value → Prop where
  | non : TyOf K H .non (.type "NoneType")
  | bl (x : Bool) : TyOf K H (.bl x) (.type "bool")
  | int (i : Int) : TyOf K H (.int i) (.type "int")
  | str (x : Str) : TyOf K H (.str x) (.type "str")
  | flt (x : UInt64) : TyOf K H (.flt x) (.type "float")
  | lst {a : Addr} {xs : List V} (e : H a = some (.lst xs)) : TyOf K H (.ref a) (.type "list")
  | frz {a : Addr} {o : Obj} {xs : List V} (e : H a = some (.frz o (.lst xs))) : TyOf K H (.ref a) (.type "list")
  | tup {a : Addr} {xs : List V} (e : H a = some (.tup xs)) : TyOf K H (.ref a) (.type "tuple")
  | dK {a : Addr} {kvs : List (Key × V)} (e : H a = some (.dK kvs)) : TyOf K H (.ref a) (.type "dict")
  | dT {a : Addr} {kvs : List (List Key × V)} (e : H a = some (.dT kvs)) : TyOf K H (.ref a) (.type "dict")
  | ins {a C dx : Addr} {fs : List (Str × V)} (e : H a = some (.ins C dx fs)) (cl : Cls K C) (ha : PySem.W.findIn K (.ref C) "__class__" = some (some (.builtin "object.__class__")))
      (hn : PySem.W.specialIn K (.builtin "object.__class__") "__get__" = some (some (.builtin "getset_descriptor.__get__"))) (htk : PySem.W.takesIn K (.builtin "object.__class__") = some true)
      (hm : PySem.W.mroIn K C (.type "object") = some true) : TyOf K H (.ref a) (.ref C)
theorem isinst_ok {x : V} {u t : Value} (I : Inv X pins σ H s) (rx : RelV x u) (ty : TyOf X.K H x t) (e : PySem.W.kitOne X.K t c = some b) (h : ∀ tk, Q (.bool b) { s with toks := tk }) :
    wpAny (model X.prog X.w) A (call (.builtin "isinstance") [u, c]) Q E s := by
  cases ty with
  | non => cases (show u = Value.none from rx); exact PySem.W.kia_one PySem.W.kitx_none I.kIn True.intro e (fun z => nomatch z) h
  | bl y => cases (show u = Value.bool y from rx); exact PySem.W.kia_one PySem.W.kitx_bool I.kIn True.intro e (fun z => nomatch z) h
  | int i => obtain ⟨t, q⟩ := (show ∃ t, u = Value.int i t from rx); cases q; exact PySem.W.kia_one PySem.W.kitx_int I.kIn True.intro e (fun z => nomatch z) h
  | str y => obtain ⟨t, q⟩ := (show ∃ t, u = Value.str y t from rx); cases q; exact PySem.W.kia_one PySem.W.kitx_str I.kIn True.intro e (fun z => nomatch z) h
  | flt y => obtain ⟨t, q⟩ := (show ∃ t, u = Value.float y t from rx); cases q; exact PySem.W.kia_one PySem.W.kitx_float I.kIn True.intro e (fun z => nomatch z) h
  | @lst a xs ea =>
    cases (show u = Value.ref a from rx)
    obtain ⟨_, _, n, _, h1⟩ := (show ObjOk X.prog X.w H s.heap a (.lst xs) from I.hok a _ ea)
    exact PySem.W.kia_one PySem.W.kitx_list I.kIn ⟨_, h1, rfl⟩ e (fun z => nomatch z) h
  | @frz a ob xs ea =>
    cases (show u = Value.ref a from rx)
    obtain ⟨_, _, _, n, _, h1⟩ := (show ObjOk X.prog X.w H s.heap a (.frz ob (.lst xs)) from I.hok a _ ea)
    exact PySem.W.kia_one PySem.W.kitx_list I.kIn ⟨_, h1, rfl⟩ e (fun z => nomatch z) h
  | @tup a xs ea =>
    cases (show u = Value.ref a from rx)
    obtain ⟨_, _, _, p⟩ := (show ObjOk X.prog X.w H s.heap a (.tup xs) from I.hok a _ ea)
    obtain ⟨o, h1, h2, _⟩ := p
    exact PySem.W.kia_one PySem.W.kitx_tuple I.kIn ⟨o, h1, h2⟩ e (fun z => nomatch z) h
  | @dK a kvs ea =>
    cases (show u = Value.ref a from rx)
    obtain ⟨_, _, vs, _, p⟩ := (show ObjOk X.prog X.w H s.heap a (.dK kvs) from I.hok a _ ea)
    obtain ⟨o, es, ep, h1, h2, _⟩ := p
    exact PySem.W.kia_one PySem.W.kitx_dict I.kIn ⟨o, h1, h2.1⟩ e (fun z => nomatch z) h
  | @dT a kvs ea =>
    cases (show u = Value.ref a from rx)
    obtain ⟨_, _, xs, _, o, es, ep, h1, h2, _⟩ := (show ObjOk X.prog X.w H s.heap a (.dT kvs) from I.hok a _ ea)
    exact PySem.W.kia_one PySem.W.kitx_dict I.kIn ⟨o, h1, h2.1⟩ e (fun z => nomatch z) h
  | @ins a C dx fs ea cl ha hn htk hm =>
    cases (show u = Value.ref a from rx)
    obtain ⟨mA, O, _⟩ := ins_get I.hok ea
    obtain ⟨od, J, _⟩ := O.look
    exact PySem.W.kia_one (PySem.W.kitx_own (cl.get _) cl.hd ha hn htk hm) I.kIn J e (fun z => nomatch z) h
end
end L2
namespace L2
open PySem PySem.Spec PyProof.Rows
structure Room (k : Nat) (A : Around) : Prop where
  hd : A.handled = none
  dp : A.depth + 3 * k + 5 < recursionLimit
  un : A.units + 16 * k + 200 < cLine
theorem Room.mono {j k : Nat} {A : Around} (r : Room k A) (h : j ≤ k) : Room j A := ⟨r.hd, by have := r.dp; omega, by have := r.un; omega⟩
theorem Room.deeper {k : Nat} {A : Around} (r : Room (k + 1) A) (env : Env) : Room k (A.deeper env) :=
  ⟨r.hd, by have := r.dp; show A.depth + 1 + 3 * k + 5 < _; omega, by have := r.un; show A.units + 3 + 16 * k + 200 < _; omega⟩
theorem Room.in1 {k : Nat} {A : Around} (r : Room (k + 1) A) : Room k A.in1 :=
  ⟨r.hd, by have := r.dp; show A.depth + 3 * k + 5 < _; omega, by have := r.un; show A.units + 1 + 16 * k + 200 < _; omega⟩
theorem make_depth {A : Around} {C : Addr} {us : List Value} {kw : List (Str × Value)} : (A.under (.builtin "type.__call__" ⟨.ref C :: us, kw⟩)).depth = A.depth + 1 := by
  first | rfl | simp [Around.under, Code.weight, Code.isCreation, Code.isGuard, Code.isCaller, Code.frames, Code.isFrame, guardIds]
theorem make_units {A : Around} {C : Addr} {us : List Value} {kw : List (Str × Value)} : (A.under (.builtin "type.__call__" ⟨.ref C :: us, kw⟩)).units = A.units + 1 := by
  first | rfl | simp [Around.under, Code.cUnits, Code.frames, Code.isFrame]
theorem Room.make {k : Nat} {A : Around} (r : Room (k + 1) A) (C : Addr) (us : List Value) (kw : List (Str × Value)) : Room k (A.under (.builtin "type.__call__" ⟨.ref C :: us, kw⟩)) :=
  ⟨r.hd, by have := r.dp; rw [make_depth]; omega, by have := r.un; rw [make_units]; omega⟩
theorem Room.depth {k : Nat} {A : Around} (r : Room k A) : A.depth < recursionLimit := by have := r.dp; omega
theorem Room.units {k : Nat} {A : Around} (r : Room k A) : A.units + 64 < cLine := by have := r.un; omega
noncomputable def tNil : TA := fun _ H Q => Q [] H
noncomputable def tCons (ta : TE) (tr : TA) : TA := fun σ H Q => ta σ H fun x H1 => tr σ H1 fun xs H2 => Q (x :: xs) H2
section
variable {X : Cx} {e : Expr} {es : List Expr} {te : TE} {t : TA} {pos : Pos}
theorem pa_nil : PA X [] tNil := fun _ _ _ _ H Q I h => Calls.spliced_nil ⟨[], H, I, .nil, h⟩
theorem pa_cons (ha : PE X e te) (hr : PA X es t) (hs : starEach (e :: es) X.env = (false, eval e X.env) :: starEach es X.env := by rfl) : PA X (e :: es) (tCons te t) := by
  intro pos pins s σ H Q I h
  rw [hs]
  show wpAny _ _ (spliced ((false, eval e X.env) :: backTo pos (starEach es X.env))) _ _ s
  refine Calls.spliced_cons (thn (ha pins s σ H _ I h) fun u s1 ⟨x, H1, I1, r1, q1⟩ => ?_)
  exact thn (hr pos pins s1 σ H1 _ I1 q1) fun us s2 ⟨xs, H2, I2, r2, q2⟩ => ⟨x :: xs, H2, I2, .cons r1 r2, q2⟩
noncomputable def tTup (t : TA) : TE := fun σ H Q => t σ H fun xs H1 => xs.length ≤ sizeLine ∧ ∀ p, H1 p = none → Q (.ref p) (upd H1 p (.tup xs))
noncomputable def tLst (t : TA) : TE := fun σ H Q => t σ H fun xs H1 => xs.length ≤ sizeLine ∧ ∀ p, H1 p = none → Q (.ref p) (upd H1 p (.lst xs))
theorem pe_tup {x1} (h : PA X es t) : PE X (.Tuple es x1 pos) (tTup t) := by
  intro pins s σ H Q I hq
  refine wpAny_Tuple_spliced (thn (h pos pins s σ H _ I hq) fun us s1 ⟨xs, H1, I1, r, z, q⟩ => ⟨by rw [← r.length]; exact z, ?_⟩)
  have hf : H1 s1.heap.objs.size = none := I1.hok.fresh (Nat.le_refl _)
  refine ⟨.ref s1.heap.objs.size, upd H1 s1.heap.objs.size (.tup xs), I1.laid (t' := s1.toks) (fun b u e => Heap.get?_push_of_some _ e) (Nat.le_refl _) ?_, rfl, q _ hf⟩
  exact ⟨z, us, r, ⟨_, Heap.get?_push_size _ rfl, rfl, _, rfl⟩⟩
theorem pe_lst (h : PA X es t) : PE X (.List es pos) (tLst t) := by
  intro pins s σ H Q I hq
  refine wpAny_List_spliced (thn (h pos pins s σ H _ I hq) fun us s1 ⟨xs, H1, I1, r, z, q⟩ => ⟨by rw [← r.length]; exact z, ?_⟩)
  have hf : H1 s1.heap.objs.size = none := I1.hok.fresh (Nat.le_refl _)
  refine ⟨.ref s1.heap.objs.size, upd H1 s1.heap.objs.size (.lst xs), I1.laid (t' := s1.toks) (fun b u e => Heap.get?_push_of_some _ e) (Nat.le_refl _) ?_, rfl, q _ hf⟩
  exact ⟨z, us, 0, r, Heap.get?_push_size _ rfl⟩
end
noncomputable abbrev Sp := List V → Hp → VK → XK → Prop
noncomputable abbrev CXT := List Env → Hp → Shared → XK → Value → Shared → Prop
structure Env0 (P : Program) (w : World) (K : PySem.W.Frag) (mg : Str → Option Value) (base : Heap) (A : Around) (outer : List Env) (s : Shared) (H : Hp) : Prop where
  frames : A.frames = some outer
  mod : Mod K mg base
  bs : ∀ b o, base.get? b = some o → s.heap.get? b = some o ∧ H b = none
  bsz : base.objs.size ≤ s.heap.objs.size
  funs : s.heap.FunFrames base outer
  frf : ∀ b ∈ frs outer, H b = none
  hok : HOk P w H s.heap
  bare : AllBare s.gens
noncomputable def CE (outer : List Env) (P : Program) (w : World) (H : Hp) (s : Shared) (Q : VK) (u : Value) (s' : Shared) : Prop :=
  ∃ v H', s'.os = s.os ∧ AllBare s'.gens ∧ Un (frs outer) [] H H' s.heap s'.heap ∧ HOk P w H' s'.heap ∧ RelV v u ∧ Q v H'
noncomputable def CR (CX : CXT) (outer : List Env) (P : Program) (w : World) (H : Hp) (s : Shared) (Q : VK) (E : XK) (r : Result) (s' : Shared) : Prop :=
  match r with
  | .ok (.ret u) => CE outer P w H s Q u s'
  | .ok _ => False
  | .error e => CX outer H s E e s'
structure FnOk (P : Program) (w : World) (K : PySem.W.Frag) (mg : Str → Option Value) (base : Heap) (CX : CXT) (k : Nat) (f : Addr) (fd : FuncData) (ps : List Str) (sp : Sp) : Prop where
  len : ∀ vs H Q E, sp vs H Q E → vs.length = ps.length
  run : ∀ (A : Around) (outer : List Env) (s : Shared) (H : Hp) (args : Args) (us : List Value) (vs : List V) (Q : VK) (E : XK), Room k A → Env0 P w K mg base A outer s H → BindsTo s fd args (ps.zip us) → Vals vs us → sp vs H Q E →
    codeAny (model P w) A (.call (.ref f) args) (CR CX outer P w H s Q E) s
theorem FnOk.mono {P : Program} {w : World} {K : PySem.W.Frag} {mg : Str → Option Value} {base : Heap} {CX : CXT} {j k : Nat} {f : Addr} {fd : FuncData} {ps : List Str} {sp : Sp} (F : FnOk P w K mg base CX j f fd ps sp) (h : j ≤ k) :
    FnOk P w K mg base CX k f fd ps sp := ⟨F.len, fun A outer s H args us vs Q E hr => F.run A outer s H args us vs Q E (hr.mono h)⟩
theorem FnOk.imp {P : Program} {w : World} {K : PySem.W.Frag} {mg : Str → Option Value} {base : Heap} {CX : CXT} {k : Nat} {f : Addr} {fd : FuncData} {ps : List Str} {sp sp' : Sp} (F : FnOk P w K mg base CX k f fd ps sp)
    (h : ∀ vs H Q E, sp' vs H Q E → sp vs H Q E) : FnOk P w K mg base CX k f fd ps sp' :=
  ⟨fun vs H Q E q => F.len vs H Q E (h _ _ _ _ q), fun A outer s H args us vs Q E hr he hb hv hs => F.run A outer s H args us vs Q E hr he hb hv (h _ _ _ _ hs)⟩
theorem Env0.make {P : Program} {w : World} {K : PySem.W.Frag} {mg : Str → Option Value} {base : Heap} {A : Around} {outer : List Env} {s : Shared} {H : Hp} (e : Env0 P w K mg base A outer s H) (C : Addr) (us : List Value) (kw : List (Str × Value)) :
    Env0 P w K mg base (A.under (.builtin "type.__call__" ⟨.ref C :: us, kw⟩)) outer s H := ⟨by first | exact e.frames | (simpa [Around.under, Code.envs, Code.isFrame, pushEnvs] using e.frames), e.mod, e.bs, e.bsz, e.funs, e.frf, e.hok, e.bare⟩
theorem Env0.in1 {P : Program} {w : World} {K : PySem.W.Frag} {mg : Str → Option Value} {base : Heap} {A : Around} {outer : List Env} {s : Shared} {H : Hp} (e : Env0 P w K mg base A outer s H) :
    Env0 P w K mg base A.in1 outer s H := ⟨e.frames, e.mod, e.bs, e.bsz, e.funs, e.frf, e.hok, e.bare⟩
section
variable {X : Cx} {pins : List (Addr × Obj)} {σ : St} {H : Hp} {s s' : Shared}
theorem Inv.env0 (I : Inv X pins σ H s) : Env0 X.prog X.w X.K X.mg X.base X.A X.stack s H :=
  ⟨I.ok.frames, I.ok.mod, I.bs, Nat.le_trans I.ok.bsz I.sz, I.stack, I.stkFree, I.hok, I.bare⟩
theorem Inv.after {Q : VK} {u : Value} (I : Inv X pins σ H s) (h : CE X.stack X.prog X.w H s Q u s') : EP X pins σ Q u s' := by
  obtain ⟨v, H', os, bare, un, hok, r, q⟩ := h
  obtain ⟨hh, g, d, t, os'⟩ := s'
  obtain rfl : os' = s.os := os
  exact ⟨v, H', I.call (h' := hh) (g' := g) (d' := d) (t' := t) (ch := []) un hok bare (fun b z => absurd z (by simp)), r, q⟩
end
noncomputable def tCall (sp : Sp) (dvs : List V) (E : XK) (t : TA) : TE := fun σ H Q => t σ H fun vs H1 => sp (vs ++ dvs) H1 Q E
noncomputable def tMeth (C : Addr) (m : Str) (sp : Sp) (dvs : List V) (E : XK) (ta : TE) (t : TA) : TE := fun σ H Q => ta σ H fun x H1 => ∃ a dx fs, x = .ref a ∧ H1 a = some (.ins C dx fs) ∧ fs.lookup m = none ∧
  t σ H1 fun vs H2 => sp (x :: (vs ++ dvs)) H2 Q E
noncomputable def tMake (C : Addr) (sp : Sp) (dvs : List V) (E : XK) (t : TA) : TE := fun σ H Q => t σ H fun vs H1 => ∀ x dx, H1 x = none → H1 dx = none → dx ≠ x →
  sp (.ref x :: (vs ++ dvs)) (upd (upd H1 dx (.own x)) x (.ins C dx [])) (fun v H2 => v = .non ∧ Q (.ref x) H2) E
noncomputable def Binds (K : PySem.W.Frag) (fd : FuncData) (ps : List Str) (ds : List Value) : Prop :=
  ∀ (s : Shared) (us : List Value), K.In s.heap → (us ++ ds).length = ps.length → BindsTo s fd ⟨us, []⟩ (ps.zip (us ++ ds))
theorem Binds.all {K : PySem.W.Frag} {fd : FuncData} {ps : List Str} (h : ∀ us : List Value, us.length = ps.length → bindArgs fd ⟨us, []⟩ = pure (ps.zip us)) : Binds K fd ps [] := fun s us _ hl => by
  rw [List.append_nil] at hl ⊢
  exact .of_eq (h us hl)
noncomputable def Passes (CX : CXT) (X : Cx) (E : XK) : Prop := ∀ (pins : List (Addr × Obj)) (σ : St) (H : Hp) (s : Shared) (e : Value) (s' : Shared), Inv X pins σ H s → CX X.stack H s E e s' → X.xe e s'
section
variable {X : Cx} {CX : CXT} {k : Nat} {f C : Addr} {fd : FuncData} {ps : List Str} {sp : Sp} {dvs : List V} {ds : List Value} {E : XK} {x m : Str} {p pos apos : Pos} {e o : Expr} {es : List Expr} {ta : TE} {t : TA}
theorem run_fn {pins : List (Addr × Obj)} {σ : St} {H : Hp} {s : Shared} {Q : VK} {us : List Value} {vs : List V} (F : FnOk X.prog X.w X.K X.mg X.base CX k f fd ps sp) (hr : Room k X.A) (hb : Binds X.K fd ps ds) (hd : Vals dvs ds) (hx : Passes CX X E)
    (I : Inv X pins σ H s) (r : Vals vs us) (h : sp (vs ++ dvs) H Q E) : wpAny (model X.prog X.w) X.A (call (.ref f) us) (EP X pins σ Q) X.xe s := by
  have r2 : Vals (vs ++ dvs) (us ++ ds) := r.append hd
  have hl : (us ++ ds).length = ps.length := by rw [← r2.length]; exact F.len _ _ _ _ h
  refine wpAny_call (codeAny_mono (F.run X.A X.stack s H ⟨us, []⟩ (us ++ ds) (vs ++ dvs) Q E hr I.env0 (hb s us I.kIn hl) r2 h) fun r s' hq => ?_)
  cases r with
  | error e => exact hx pins σ H s e s' I hq
  | ok fl =>
    cases fl with
    | ret u => exact I.after hq
    | next => exact False.elim hq
    | brk => exact False.elim hq
    | cont => exact False.elim hq
theorem pe_call (F : FnOk X.prog X.w X.K X.mg X.base CX k f fd ps sp) (hr : Room k X.A) (hg : Gl X x) (hm : X.mg x = some (.ref f)) (hk : PySem.W.keepIn X.K (.ref f) = true) (hb : Binds X.K fd ps ds) (hd : Vals dvs ds) (hx : Passes CX X E)
    (ha : PA X (e :: es) t) (hdb : (x == ("__debug__" : Str)) = false := by decide) (he : starEach (e :: es) X.env = (false, eval e X.env) :: starEach es X.env := by rfl) (hpl : (backTo pos (starEach es X.env)).any (·.1) = false := by rfl) :
    PE X (.Call (.Name x p) (e :: es) [] pos) (tCall sp dvs E t) := by
  intro pins s σ H Q I h
  refine wpAny_Call_Name_kw (ld_glob I hg hm ?_ hdb)
  refine PySem.W.callWith_K (h₀ := X.base) I.ok.mod.kin hk (thn (ha pos pins s σ H _ I h) fun us s1 ⟨vs, H1, I1, r, q⟩ => ⟨I1.kIn, ?_⟩) he hpl
  exact run_fn F hr hb hd hx I1 r q
theorem pe_meth {pl : Sem Bool} (he : PE X o ta) (c : Cls X.K C) (hm : Meth X.K C m f) (F : FnOk X.prog X.w X.K X.mg X.base CX k f fd ps sp) (hr : Room k X.A) (hb : Binds X.K fd ps ds) (hd : Vals dvs ds) (hx : Passes CX X E) (ha : PA X (e :: es) t)
    (hst : starEach (e :: es) X.env = (false, eval e X.env) :: starEach es X.env := by rfl) (hpl : (backTo pos (starEach es X.env)).any (·.1) = false := by rfl)
    (ht : eval (.Call (.Attribute o m apos) (e :: es) [] pos) X.env = (do
      let ov ← eval o X.env
      standAt apos.atName
      let (f, first) ← holding [ov] (getMethod ov m pl)
      callWith pos f first (backTo pos (starEach (e :: es) X.env)) (backToKw pos (keywordEach [] X.env))) := by rfl) :
    PE X (.Call (.Attribute o m apos) (e :: es) [] pos) (tMeth C m sp dvs E ta t) := by
  intro pins s σ H Q I h
  refine PySem.W.methodCall_KW (pl := pl) (thn (he pins s σ H _ I h) fun u s1 ⟨x, H1, I1, rx, a, dx, fs, ex, ea, l, q⟩ => ?_) ht
  subst ex
  obtain rfl : u = Value.ref a := rx
  refine getmeth_ok I1 ea c hm l ?_
  refine PySem.W.callWith_K (first := [.ref a]) (h₀ := X.base) I.ok.mod.kin hm.kp (thn (ha pos pins s1 σ H1 _ I1 q) fun us s2 ⟨vs, H2, I2, r, q2⟩ => ⟨I2.kIn, ?_⟩) hst hpl
  exact run_fn (us := .ref a :: us) (vs := .ref a :: vs) F hr hb hd hx I2 (.cons rfl r) q2
theorem pe_meth0 {pl : Sem Bool} (he : PE X o ta) (c : Cls X.K C) (hm : Meth X.K C m f) (F : FnOk X.prog X.w X.K X.mg X.base CX k f fd ps sp) (hr : Room k X.A) (hb : Binds X.K fd ps ds) (hd : Vals dvs ds) (hx : Passes CX X E)
    (ht : eval (.Call (.Attribute o m apos) [] [] pos) X.env = (do
      let ov ← eval o X.env
      standAt apos.atName
      let (f, first) ← holding [ov] (getMethod ov m pl)
      callWith pos f first (backTo pos (starEach [] X.env)) (backToKw pos (keywordEach [] X.env))) := by rfl) :
    PE X (.Call (.Attribute o m apos) [] [] pos) (tMeth C m sp dvs E ta tNil) := by
  intro pins s σ H Q I h
  refine PySem.W.methodCall_KW (pl := pl) (thn (he pins s σ H _ I h) fun u s1 ⟨x, H1, I1, rx, a, dx, fs, ex, ea, l, q⟩ => ?_) ht
  subst ex
  obtain rfl : u = Value.ref a := rx
  refine getmeth_ok I1 ea c hm l ?_
  exact PySem.W.callWith_K0 (first := [.ref a]) I1.kIn hm.kp (run_fn (us := [.ref a]) (vs := [.ref a]) F hr hb hd hx I1 (.cons rfl .nil) q)
structure Mk (K : PySem.W.Frag) (C f : Addr) : Prop where
  makes : PySem.W.makesIn K C = true
  init : PySem.W.findIn K (.ref C) "__init__" = some (some (.ref f))
  fn : PySem.W.isFn K (.ref f) = true
  kp : PySem.W.keepIn K (.ref C) = true
theorem run_make {pins : List (Addr × Obj)} {σ : St} {H : Hp} {s : Shared} {Q : VK} {us : List Value} {vs : List V} (M : Mk X.K C f) (F : FnOk X.prog X.w X.K X.mg X.base CX k f fd ps sp) (hr : Room (k + 1) X.A) (hb : Binds X.K fd ps ds) (hd : Vals dvs ds)
    (hx : Passes CX X E) (I : Inv X pins σ H s) (r : Vals vs us)
    (h : ∀ x dx, H x = none → H dx = none → dx ≠ x → sp (.ref x :: (vs ++ dvs)) (upd (upd H dx (.own x)) x (.ins C dx [])) (fun v H2 => v = .non ∧ Q (.ref x) H2) E) :
    wpAny (model X.prog X.w) X.A (call (.ref C) us) (EP X pins σ Q) X.xe s := by
  have hq := h (s.heap.objs.size + 1) s.heap.objs.size (I.hok.fresh (Nat.le_succ _)) (I.hok.fresh (Nat.le_refl _)) (Nat.ne_of_lt (Nat.lt_succ_self _))
  have I2 := Inv.made (C := C) I
  have r2 : Vals (V.ref (s.heap.objs.size + 1) :: (vs ++ dvs)) (Value.ref (s.heap.objs.size + 1) :: (us ++ ds)) := .cons rfl (r.append hd)
  have hl : (Value.ref (s.heap.objs.size + 1) :: us ++ ds).length = ps.length := by
    have e := r2.length
    rw [F.len _ _ _ _ hq] at e
    exact e.symm
  refine wpAny_call (make_map (f := f) I.kIn M.makes M.init (beq_iff_eq.mp M.fn) (codeAny_mono (F.run _ X.stack _ _ ⟨Value.ref (s.heap.objs.size + 1) :: us, []⟩ (Value.ref (s.heap.objs.size + 1) :: (us ++ ds)) _ _ E (hr.make C us [])
    (I2.env0.make C us []) (hb _ (Value.ref (s.heap.objs.size + 1) :: us) I2.kIn hl) r2 hq) fun r s' hq' => ?_))
  cases r with
  | error e => exact hx pins σ _ _ e s' I2 hq'
  | ok fl =>
    cases fl with
    | ret u =>
      obtain ⟨v, H', I3, rv, ev, q3⟩ := I2.after hq'
      subst ev
      exact ⟨rv, ⟨V.ref (s.heap.objs.size + 1), H', I3, rfl, q3⟩⟩
    | next => exact False.elim hq'
    | brk => exact False.elim hq'
    | cont => exact False.elim hq'
theorem pe_make (M : Mk X.K C f) (F : FnOk X.prog X.w X.K X.mg X.base CX k f fd ps sp) (hr : Room (k + 1) X.A) (hg : Gl X x) (hm : X.mg x = some (.ref C)) (hb : Binds X.K fd ps ds) (hd : Vals dvs ds) (hx : Passes CX X E)
    (ha : PA X (e :: es) t) (hdb : (x == ("__debug__" : Str)) = false := by decide) (he : starEach (e :: es) X.env = (false, eval e X.env) :: starEach es X.env := by rfl) (hpl : (backTo pos (starEach es X.env)).any (·.1) = false := by rfl) :
    PE X (.Call (.Name x p) (e :: es) [] pos) (tMake C sp dvs E t) := by
  intro pins s σ H Q I h
  refine wpAny_Call_Name_kw (ld_glob I hg hm ?_ hdb)
  refine PySem.W.callWith_K (h₀ := X.base) I.ok.mod.kin M.kp (thn (ha pos pins s σ H _ I h) fun us s1 ⟨vs, H1, I1, r, q⟩ => ⟨I1.kIn, ?_⟩) he hpl
  exact run_make M F hr hb hd hx I1 r q
end
section
variable {X : Cx} {CX : CXT} {k : Nat} {f C : Addr} {fd : FuncData} {ps ks : List Str} {sp : Sp} {E : XK} {x m : Str} {p pos apos kpos : Pos} {e o : Expr} {es : List Expr} {kws : List Keyword} {te ta : TE} {t tk : TA} {nm : Option Str}
variable {g : List Value → List Value → List Value} {gV : List V → List V → List V}
end
structure FnScope (N P : List Str) (sc : Scope) : Prop where
  kind : sc.kind = .function
  co : sc.isCoroutine = false
  gen : sc.isGenerator = false
  nd : N.Nodup
  pre : N.take P.length = P
  par : ∀ x ∈ P, sc.names.lookup x = some .local ∨ sc.names.lookup x = some .cell
  nofree : ∀ y ∈ sc.names, y.2 ≠ .free
theorem bindL_out {kindOf : Str → Option NameKind} {x : Str} : ∀ {binds : List (Str × Value)} {m : Str → Option Value}, (∀ v, (x, v) ∉ binds) → bindL kindOf binds m x = m x
  | [], _, _ => rfl
  | (n, v) :: r, m, h => by
    unfold bindL
    rw [bindL_out fun w hw => h w (List.mem_cons_of_mem _ hw)]
    split
    · have : x ≠ n := by rintro rfl; exact h v List.mem_cons_self
      simp [this]
    · rfl
theorem bindC_out {kindOf : Str → Option NameKind} {x : Str} : ∀ {binds : List (Str × Value)} {m : Str → Option Value}, (∀ v, (x, v) ∉ binds) → bindC kindOf binds m x = m x
  | [], _, _ => rfl
  | (n, v) :: r, m, h => by
    unfold bindC
    rw [bindC_out fun w hw => h w (List.mem_cons_of_mem _ hw)]
    split
    · rfl
    · have : x ≠ n := by rintro rfl; exact h v List.mem_cons_self
      simp [this]
theorem bindL_get {kindOf : Str → Option NameKind} {x : Str} {v : Value} : ∀ {P : List Str} {vs : List Value} {i : Nat} {m : Str → Option Value}, P.Nodup → P[i]? = some x → vs[i]? = some v → kindOf x = some .local →
    bindL kindOf (P.zip vs) m x = some v
  | [], _, _, _, _, h, _, _ => by simp at h
  | _ :: _, [], _, _, _, _, h, _ => by simp at h
  | p :: P, w :: vs, 0, m, nd, h1, h2, hk => by
    simp at h1 h2; subst h1; subst h2
    show bindL kindOf ((p, w) :: P.zip vs) m p = _
    unfold bindL
    rw [bindL_out fun v hv => (List.nodup_cons.mp nd).1 (List.of_mem_zip hv).1, if_pos hk]
    simp
  | p :: P, w :: vs, i + 1, m, nd, h1, h2, hk => by
    show bindL kindOf ((p, w) :: P.zip vs) m x = _
    unfold bindL
    exact bindL_get (i := i) (List.nodup_cons.mp nd).2 (by simpa using h1) (by simpa using h2) hk
theorem bindC_get {kindOf : Str → Option NameKind} {x : Str} {v : Value} : ∀ {P : List Str} {vs : List Value} {i : Nat} {m : Str → Option Value}, P.Nodup → P[i]? = some x → vs[i]? = some v → kindOf x ≠ some .local →
    bindC kindOf (P.zip vs) m x = some v
  | [], _, _, _, _, h, _, _ => by simp at h
  | _ :: _, [], _, _, _, _, h, _ => by simp at h
  | p :: P, w :: vs, 0, m, nd, h1, h2, hk => by
    simp at h1 h2; subst h1; subst h2
    show bindC kindOf ((p, w) :: P.zip vs) m p = _
    unfold bindC
    rw [bindC_out fun v hv => (List.nodup_cons.mp nd).1 (List.of_mem_zip hv).1, if_neg hk]
    simp
  | p :: P, w :: vs, i + 1, m, nd, h1, h2, hk => by
    show bindC kindOf ((p, w) :: P.zip vs) m x = _
    unfold bindC
    exact bindC_get (i := i) (List.nodup_cons.mp nd).2 (by simpa using h1) (by simpa using h2) hk
noncomputable def start (N : List Str) (vs : List V) : St := vs.map some ++ List.replicate (N.length - vs.length) none
noncomputable def cxOf (CX : CXT) (P : Program) (w : World) (K : PySem.W.Frag) (mg : Str → Option Value) (base : Heap) (N : List Str) (qual : Str) (scope : Scope) (f : Addr) (cd : Value) (A : Around) (outer : List Env) (s : Shared) (H : Hp) (E : XK) : Cx where
  prog := P
  w := w
  K := K
  mg := mg
  base := base
  A := A.deeper (envOfC qual scope s.heap.objs.size f cd)
  N := N
  s₀ := s
  H₀ := H
  env := envOfC qual scope s.heap.objs.size f cd
  outer := outer
  stack := envOfC qual scope s.heap.objs.size f cd :: outer
  ex := []
  calm := true
  fn := fun _ => true
  pn := []
  xe := fun e s' => wpAny (model P w) (A.deeper (envOfC qual scope s.heap.objs.size f cd)) (leaving (envOfC qual scope s.heap.objs.size f cd) e) (fun _ s'' => CX outer H s E e s'') (fun e' s'' => CX outer H s E e' s'') s'
theorem cell_has {sc : Scope} {n : Nat} {x : Str} (h : sc.names.lookup x = some .cell) : ∃ c, (cellsFrom n sc.names []).lookup x = some c := by
  have q := PySem.W.cellsFrom_some sc.names n [] (.inl h)
  exact Option.isSome_iff_exists.mp q
theorem inv_start {CX : CXT} {P : Program} {w : World} {K : PySem.W.Frag} {mg : Str → Option Value} {base : Heap} {N ps : List Str} {qual : Str} {scope : Scope} {f : Addr} {cd : Value} {A : Around} {outer : List Env} {s s1 : Shared} {H : Hp} {E : XK} {us : List Value} {vs : List V}
    (S : FnScope N ps scope) (hd : A.handled = none) (e0 : Env0 P w K mg base A outer s H) (hl : vs.length = ps.length) (r : Vals vs us)
    (x : InCallC s s.heap.objs.size (bindL (envOfC qual scope s.heap.objs.size f cd).kindOf (ps.zip us) fun _ => none) (cellsFrom (s.heap.objs.size + 1) scope.names []) (bindC (envOfC qual scope s.heap.objs.size f cd).kindOf (ps.zip us) fun _ => none) s1) :
    Inv (cxOf CX P w K mg base N qual scope f cd A outer s H E) [] (start N vs) H s1 := by
  have hpl : ps.length ≤ N.length := by have := congrArg List.length S.pre; rw [List.length_take] at this; omega
  obtain ⟨h1, tk, rfl, hk⟩ := x.done
  have noA : ∀ b : Addr, b ∉ (cxOf CX P w K mg base N qual scope f cd A outer s H E).ex := fun b z => absurd (show b ∈ ([] : List Addr) from z) (by simp)
  refine ⟨⟨e0.mod, S.kind, rfl, rfl, Nat.le_refl _, fun y z c h1 h2 => ?_, fun y hy => ?_, fun y c _ h => ?_, fun _ => hd, Around.frames_deeper e0.frames, .inr ⟨rfl, rfl⟩, fun b z => absurd z (noA b), e0.bs, e0.bsz, fun b _ _ => noA b, fun b z => absurd z (noA b), e0.funs, e0.frf⟩,
    rfl, e0.bare, Un.kept hk, ⟨_, x.toInCall.ns, fun i y v h1 h2 h3 => ?_⟩, fun y c h => ⟨_, x.cell y c h⟩, e0.hok.fresh (Nat.le_refl _), fun y c h => ?_, fun p hp => absurd (show p ∈ ([] : List (Addr × Obj)) from hp) (by simp), e0.hok.kept hk, ?_⟩
  · exact name_of_addr x.apart (PySem.mem_of_lookup h1) (PySem.mem_of_lookup h2)
  · have hy : scope.names.lookup y = some .cell ∨ scope.names.lookup y = some .free := hy
    rcases hy with hy | hy
    · exact cell_has hy
    · exact absurd rfl (S.nofree _ (PySem.mem_of_lookup hy))
  · exact Nat.le_of_lt (x.above y c (PySem.mem_of_lookup h))
  · have hi : i < vs.length := by
      unfold start at h2
      by_cases hi : i < vs.length
      · exact hi
      · rw [List.getElem?_append_right (by simpa using hi)] at h2
        rw [List.getElem?_replicate] at h2
        split at h2 <;> cases h2
    have ha : vs[i]? = some v := by
      unfold start at h2
      rw [List.getElem?_append_left (by simpa using hi), List.getElem?_map] at h2
      cases e : vs[i]? with
      | none => rw [e] at h2; cases h2
      | some a => rw [e] at h2; cases h2; rfl
    obtain ⟨u, hu, rv⟩ := r.get ha
    have hp : ps[i]? = some y := by
      rw [← S.pre, List.getElem?_take_of_lt (by omega)]; exact h1
    have ndP : ps.Nodup := by rw [← S.pre]; exact S.nd.sublist (List.take_sublist _ _)
    refine ⟨u, rv, ?_⟩
    rcases S.par y (List.mem_of_getElem? hp) with k | k
    · exact .inl ⟨k, bindL_get ndP hp hu k⟩
    · obtain ⟨c, e⟩ := cell_has (n := s.heap.objs.size + 1) k
      refine .inr ⟨.inl k, c, e, ?_⟩
      have q := x.cell y c e
      rw [bindC_get ndP hp hu (by show scope.names.lookup y ≠ _; rw [k]; decide)] at q
      exact q
  · exact e0.hok.fresh (Nat.le_of_lt (x.above y c (PySem.mem_of_lookup h)))
  · unfold start
    show _ = N.length
    rw [List.length_append, List.length_map, List.length_replicate]
    omega
theorem fn_of {CX : CXT} {P : Program} {w : World} {K : PySem.W.Frag} {mg : Str → Option Value} {base : Heap} {k : Nat} {f : Addr} {name qual : Str} {params : Arguments} {body : List Stmt} {scope : Scope} {dV kV doc pm cdv ct oc : Value} {an od : Option Addr}
    {osl : Array (Option Value)} {N ps : List Str} {sp : Sp} (lk : K.lookup f = some ⟨oc, od, .func (PySem.W.fnOf name qual params body scope dV kV doc pm an cdv ct), osl⟩) (hcd : PySem.W.codeIn K cdv qual = true) (S : FnScope N ps scope)
    (len : ∀ vs H Q E, sp vs H Q E → vs.length = ps.length)
    (hbody : ∀ (A : Around) (outer : List Env) (s : Shared) (H : Hp) (vs : List V) (Q : VK) (E : XK), Room k (A.deeper (envOfC qual scope s.heap.objs.size f cdv)) → sp vs H Q E →
      ∃ t, PSs (cxOf CX P w K mg base N qual scope f cdv A outer s H E) body t ∧ t { nx := fun _ H' => Q .non H', rt := Q } (start N vs) H) :
    FnOk P w K mg base CX (k + 1) f (PySem.W.fnOf name qual params body scope dV kV doc pm an cdv ct) ps sp := by
  refine ⟨len, fun A outer s H args us vs Q E hr e0 hb r hsp => ?_⟩
  have hl := len _ _ _ _ hsp
  have KX : K.In s.heap := e0.mod.kin.keeps fun b o e => (e0.bs b o e).1
  have lim : s.heap.NoLimit := e0.mod.nolimit.keeps fun b o e => (e0.bs b o e).1
  have hkind : ∀ y ∈ ps.zip us, scope.names.lookup y.1 = some .local ∨ (scope.names.lookup y.1 = some .cell ∧ ((cellsFrom (s.heap.objs.size + 1) scope.names []).lookup y.1).isSome = true) := fun ⟨n, v⟩ hy => by
    rcases S.par n (List.of_mem_zip hy).1 with q | q
    · exact .inl q
    · exact .inr ⟨q, PySem.W.cellsFrom_some _ _ _ (.inl q)⟩
  refine codeAny_call_function hr.depth (KX _ _ lk) rfl S.co S.gen rfl (PySem.W.codeRec_of KX hcd) (hb _ _ _ _ ?_)
  refine wpAny_newFunctionEnv_cells S.kind hkind fun env he s1 x => ?_
  subst he
  refine ⟨lim.keeps x.toInCall.keep, codeAny_func ?_⟩
  obtain ⟨t, ht, hq⟩ := hbody A outer s H vs Q E (hr.deeper _) hsp
  have I : Inv (cxOf CX P w K mg base N qual scope f cdv A outer s H E) [] (start N vs) H s1 := inv_start S hr.hd e0 hl r x
  refine wpAny_mono (ht [] s1 (start N vs) H _ I hq) (fun fl s' hs => ?_) fun e s' hs => hs
  have fin : ∀ {σ' : St} {H' : Hp} {v : V} {u : Value}, Inv (cxOf CX P w K mg base N qual scope f cdv A outer s H E) [] σ' H' s' → RelV v u → Q v H' → CE outer P w H s Q u s' :=
    fun {σ' H' v u} J rv q => ⟨v, H', J.os, J.bare, J.base, J.hok, rv, q⟩
  cases fl with
  | ret u =>
    obtain ⟨v, σ', H', J, rv, q⟩ := hs
    exact fin J rv q
  | next =>
    obtain ⟨σ', H', J, q⟩ := hs
    exact fin (v := V.non) (u := Value.none) J rfl q
  | brk =>
    obtain ⟨_, _, _, q⟩ := hs
    exact False.elim q
  | cont =>
    obtain ⟨_, _, _, q⟩ := hs
    exact False.elim q
end L2
namespace L2
open PySem PySem.Spec PyProof.Rows
section
variable {X : Cx} {x : Str} {p pos : Pos} {e : Expr} {es : List Expr} {t : TA} {id T : String} {r : List V → Hp → VK → Prop}
noncomputable def tCB (r : List V → Hp → VK → Prop) (t : TA) : TE := fun σ H Q => t σ H fun vs H1 => r vs H1 Q
theorem pe_callB (hc : CallR X (.builtin id) r) (hg : Gl X x) (hm : X.mg x = none) (hv : bootBuiltins x = some (.builtin id)) (ha : PA X (e :: es) t) (hn : x ≠ "__name__" := by decide) (hdb : (x == ("__debug__" : Str)) = false := by decide)
    (he : starEach (e :: es) X.env = (false, eval e X.env) :: starEach es X.env := by rfl) (hpl : (backTo pos (starEach es X.env)).any (·.1) = false := by rfl) : PE X (.Call (.Name x p) (e :: es) [] pos) (tCB r t) := by
  intro pins s σ H Q I h
  refine wpAny_Call_Name_kw (ld_blt I hg hm hv ?_ hn hdb)
  exact PyProof.Rows.callWith_builtin1 (thn (ha pos pins s σ H _ I h) fun us s1 ⟨vs, H1, I1, r1, q1⟩ => hc pins s1 σ H1 vs us Q I1 r1 q1) he hpl
theorem pe_callTy (hc : CallR X (.type T) r) (hg : Gl X x) (hm : X.mg x = none) (hv : bootBuiltins x = some (.type T)) (ha : PA X (e :: es) t) (hn : x ≠ "__name__" := by decide) (hdb : (x == ("__debug__" : Str)) = false := by decide)
    (he : starEach (e :: es) X.env = (false, eval e X.env) :: starEach es X.env := by rfl) (hpl : (backTo pos (starEach es X.env)).any (·.1) = false := by rfl) : PE X (.Call (.Name x p) (e :: es) [] pos) (tCB r t) := by
  intro pins s σ H Q I h
  refine wpAny_Call_Name_kw (ld_blt I hg hm hv ?_ hn hdb)
  exact PyProof.Rows.callWith_type1 (thn (ha pos pins s σ H _ I h) fun us s1 ⟨vs, H1, I1, r1, q1⟩ => hc pins s1 σ H1 vs us Q I1 r1 q1) he hpl
end
end L2
namespace HT
open PySem PyProof.Rows
section
open PySem.SeqAt
open PySem.AutoSeq1 (wpAny_loadPart')
open PySem.MeetsSeq PySem.MeetsSeq2 PySem.MeetsSeq3
end
section
variable {prog : Program} {w : World} {A : Around} {E : Value → Shared → Prop} {s : Shared}
theorem cat_tup {t b : Addr} {vs ws : List Value} {Q : Value → Shared → Prop} (ht : IsTup s.heap t vs.toArray) (hb : IsTup s.heap b ws.toArray) (hv : vs ≠ [])
    (h1 : ws = [] → Q (.ref t) s) (h2 : ws ≠ [] → Q (.ref s.heap.objs.size) { s with heap := s.heap.push { cls := .type "tuple", data := .seq (vs ++ ws).toArray } })
    (hsz : vs.length + ws.length ≤ sizeLine) : wpAny (model prog w) A (binaryOp .Add (.ref t) (.ref b)) Q E s := by
  obtain ⟨⟨cls, dd, data, sl⟩, ho, hc, n, hd⟩ := id ht
  obtain ⟨⟨cls2, dd2, data2, sl2⟩, ho2, hc2, n2, hd2⟩ := id hb
  simp only at hc hd hc2 hd2
  subst hc hd hc2 hd2
  have e : vs.toArray ++ ws.toArray = (vs ++ ws).toArray := by simp
  by_cases hw : ws = []
  · exact concat_meets ⟨_, ho, rfl⟩ ⟨_, ho2, rfl⟩ noFill_tuple_add seq_tuple_add PySem.F.slot_tuple_add PySem.F.entry_tuple_add (PySem.F.args_tuple_add_2 _ _)
      (tuple_addW1 t b vs.toArray ws.toArray n n2 dd dd2 sl sl2 (by simpa using hv) (by simp [hw])) ⟨ho, ho2, h1 hw⟩
  · refine concat_meets ⟨_, ho, rfl⟩ ⟨_, ho2, rfl⟩ noFill_tuple_add seq_tuple_add PySem.F.slot_tuple_add PySem.F.entry_tuple_add (PySem.F.args_tuple_add_2 _ _)
      (tuple_addW2 t b vs.toArray ws.toArray n n2 dd dd2 sl sl2 (by simpa using hv) (by simpa using hw) (by rw [List.size_toArray, List.size_toArray]; exact hsz)) ⟨ho, ho2, ?_⟩
    rw [e]
    exact h2 hw
noncomputable def sIx (n d : Nat) : Option Int → Nat
  | none => d
  | some v => if v < 0 then (v + (n : Int)).toNat else min v.toNat n
theorem sIx_none (n d : Nat) : sIx n d none = d := rfl
end
end HT
namespace L2
open PySem PySem.Spec PyProof.Rows
noncomputable abbrev TO := St → Hp → (Option Int → Hp → Prop) → Prop
noncomputable def PO (X : Cx) (e : Option Expr) (t : TO) : Prop :=
  ∀ (pins : List (Addr × Obj)) (s : Shared) (σ : St) (H : Hp) (Q : Option Int → Hp → Prop), Inv X pins σ H s → t σ H Q →
    wpAny (model X.prog X.w) X.A (evalPart e X.env) (fun u s' => ∃ o H', Inv X pins σ H' s' ∧ IsPart u o ∧ Q o H') X.xe s
noncomputable def tNoPart : TO := fun _ H Q => Q none H
noncomputable def tPart (t : TE) : TO := fun σ H Q => t σ H fun x H1 => ∃ i, x = .int i ∧ Q (some i) H1
section
variable {X : Cx} {e : Expr} {te : TE} {lo hi : Option Expr} {tl th : TO} {pos p2 : Pos}
theorem po_none : PO X none tNoPart := by
  intro pins s σ H Q I h
  rw [evalPart_none]
  exact wpAny_pure ⟨none, H, I, .none, h⟩
theorem po_some (h : PE X e te) : PO X (some e) (tPart te) := by
  intro pins s σ H Q I hw
  rw [evalPart_some]
  refine thn (h pins s σ H _ I hw) fun u s1 ⟨x, H1, I1, r1, q1⟩ => ?_
  obtain ⟨i, rfl, q⟩ := q1
  obtain ⟨t, rfl⟩ := r1
  exact ⟨some i, H1, I1, .int i t, q⟩
noncomputable def SlR (X : Cx) (r : V → Option Int → Option Int → Hp → VK → Prop) : Prop :=
  ∀ (pins : List (Addr × Obj)) (s : Shared) (σ : St) (H : Hp) (x : V) (v vl vu : Value) (lo hi : Option Int) (sl : Addr) (Q : VK), Inv X pins σ H s → RelV x v → s.heap.IsSliceOf sl vl vu .none → IsPart vl lo → IsPart vu hi → r x lo hi H Q →
    ∃ T id, typeLookup (.type T) "__getitem__" = pure (some (.builtin id)) ∧ s.TypeIs v T ∧ wpAny (model X.prog X.w) X.A (getItem v (.ref sl)) (EP X pins σ Q) X.xe s
theorem SlR.or {r r' : V → Option Int → Option Int → Hp → VK → Prop} (h : SlR X r) (h' : SlR X r') : SlR X (fun x lo hi H Q => r x lo hi H Q ∨ r' x lo hi H Q) := by
  intro pins s σ H x v vl vu lo hi sl Q I rx hs pl pu q
  rcases q with q | q
  · exact h pins s σ H x v vl vu lo hi sl Q I rx hs pl pu q
  · exact h' pins s σ H x v vl vu lo hi sl Q I rx hs pl pu q
noncomputable def tSl (r : V → Option Int → Option Int → Hp → VK → Prop) (te : TE) (tl th : TO) : TE := fun σ H Q => te σ H fun x H1 => tl σ H1 fun l H2 => th σ H2 fun u H3 => r x l u H3 Q
theorem pe_slice {r : V → Option Int → Option Int → Hp → VK → Prop} (hr : SlR X r) (he : PE X e te) (hl : PO X lo tl) (hu : PO X hi th) : PE X (.Subscript e (.Slice lo hi none p2) pos) (tSl r te tl th) := by
  intro pins s σ H Q I h
  refine Subscript_ (thn (he pins s σ H _ I h) fun v s1 ⟨x, H1, I1, r1, q1⟩ => ?_)
  refine wpAny_Slice (thn (hl pins s1 σ H1 _ I1 q1) fun vl s2 ⟨l, H2, I2, pl, q2⟩ => thn (hu pins s2 σ H2 _ I2 q2) fun vu s3 ⟨u, H3, I3, pu, q3⟩ => ?_)
  rw [evalPart_none]
  refine wpAny_pure ?_
  have I4 : Inv X pins σ H3 { s3 with heap := s3.heap.push { cls := .type "slice", data := .fields #[vl, vu, .none] } } := I3.kept (t' := s3.toks) fun b ob q => Heap.get?_push_of_some _ q
  obtain ⟨T, id, hT, ht, hg⟩ := hr pins { s3 with heap := s3.heap.push { cls := .type "slice", data := .fields #[vl, vu, .none] } } σ H3 x v vl vu l u s3.heap.objs.size Q I4 r1 (Heap.IsSliceOf.new ..) pl pu q3
  show wpAny (model X.prog X.w) X.A (subscriptTail e (.Slice lo hi none p2) v (.ref s3.heap.objs.size)) (EP X pins σ Q) X.xe { s3 with heap := s3.heap.push { cls := .type "slice", data := .fields #[vl, vu, .none] } }
  exact tail_any (ops := [.ref s3.heap.objs.size, v]) ht hT hg (by with_unfolding_all rfl)
noncomputable def cutV (xs : List V) (lo hi : Option Int) : List V := (xs.drop (HT.sIx xs.length 0 lo)).take (HT.sIx xs.length xs.length hi - HT.sIx xs.length 0 lo)
theorem cutV_length (xs : List V) (lo hi : Option Int) : (cutV xs lo hi).length ≤ xs.length := by
  unfold cutV
  rw [List.length_take, List.length_drop]
  omega
noncomputable def rCatT (K : PySem.W.Frag) : R2 := fun x y H Q => ∃ a b xs ys, x = .ref a ∧ y = .ref b ∧ SqT K H a xs ∧ SqT K H b ys ∧ xs ≠ [] ∧ xs.length + ys.length ≤ sizeLine ∧
  (ys = [] → Q (.ref a) H) ∧ (ys ≠ [] → ∀ p, H p = none → Q (.ref p) (upd H p (.tup (xs ++ ys))))
theorem Vals.nil_iff {xs : List V} {us : List Value} (r : Vals xs us) : us = [] ↔ xs = [] := by
  cases r with
  | nil => simp
  | cons _ _ => simp
theorem op_catT : OpR X (binaryOp .Add) (rCatT X.K) := by
  intro pins s σ H x y v u Q I rx ry h
  obtain ⟨a, b, xs, ys, rfl, rfl, ha, hb, hx, hz, q1, q2⟩ := h
  cases rx
  cases ry
  obtain ⟨its, r1, p1, _⟩ := I.tuple ha
  obtain ⟨its2, r2, p2, _⟩ := I.tuple hb
  refine HT.cat_tup p1 p2 (fun z => hx (r1.nil_iff.mp z)) (fun z => ⟨.ref a, H, I, rfl, q1 (r2.nil_iff.mp z)⟩) (fun z => ?_) (by rw [← r1.length, ← r2.length]; exact hz)
  refine ⟨.ref s.heap.objs.size, _, I.laid (t' := s.toks) (o := .tup (xs ++ ys)) (fun b ob q => Heap.get?_push_of_some _ q) (Nat.le_refl _) ?_, rfl, q2 (fun w => z (r2.nil_iff.mpr w)) _ (I.hok.fresh (Nat.le_refl _))⟩
  exact ⟨by rw [List.length_append]; exact hz, _, r1.append r2, IsTup.new _ _⟩
end
end L2
namespace L2
open PySem PySem.Spec PyProof.Rows
noncomputable def ixN (n : Nat) (i : Int) : Option Nat := if 0 ≤ i then (if i < n then some i.toNat else none) else if -(n : Int) ≤ i then some (i + n).toNat else none
noncomputable def atI {α : Type} (xs : List α) (i : Int) : Option α := (ixN xs.length i).bind fun j => xs[j]?
theorem ixN_seq {n : Nat} {i : Int} {j : Nat} (h : ixN n i = some j) : seqIndex? i n = some j ∧ j < n ∧ -(n : Int) ≤ i ∧ i < n := by
  unfold ixN at h
  by_cases h0 : 0 ≤ i
  · rw [if_pos h0] at h
    by_cases h1 : i < n
    · rw [if_pos h1] at h
      have e : i.toNat = j := Option.some.inj h
      exact ⟨by rw [seqIndex_of h0 h1, e], by omega, by omega, h1⟩
    · rw [if_neg h1] at h; cases h
  · rw [if_neg h0] at h
    by_cases h1 : -(n : Int) ≤ i
    · rw [if_pos h1] at h
      have e : (i + n).toNat = j := Option.some.inj h
      exact ⟨by rw [seqIndex_neg (by omega) h1, e], by omega, h1, by omega⟩
    · rw [if_neg h1] at h; cases h
theorem atI_get {α : Type} {xs : List α} {i : Int} {v : α} (h : atI xs i = some v) : ∃ j, seqIndex? i xs.length = some j ∧ xs[j]? = some v ∧ j < xs.length ∧ -(xs.length : Int) ≤ i ∧ i < xs.length := by
  unfold atI at h
  cases e : ixN xs.length i with
  | none => rw [e] at h; cases h
  | some j =>
    rw [e] at h
    obtain ⟨h1, h2, h3, h4⟩ := ixN_seq e
    exact ⟨j, h1, h, h2, h3, h4⟩
theorem atI_nat {α : Type} {xs : List α} {j : Nat} {v : α} (h : xs[j]? = some v) : atI xs (j : Int) = some v := by
  have hj : j < xs.length := (List.getElem?_eq_some_iff.mp h).1
  have e : ixN xs.length (j : Int) = some j := by
    unfold ixN
    rw [if_pos (by omega), if_pos (by omega)]; simp
  unfold atI; rw [e]; exact h
theorem atI_last {α : Type} (xs : List α) (v : α) : atI (xs ++ [v]) (-1) = some v := by
  have hl : (xs ++ [v]).length = xs.length + 1 := by simp
  have e : ixN (xs ++ [v]).length (-1) = some xs.length := by
    unfold ixN
    rw [hl, if_neg (by decide), if_pos (by omega)]
    congr 1
    omega
  unfold atI
  rw [e]
  show (xs ++ [v])[xs.length]? = some v
  simp
noncomputable def PlainIx (b : Expr) : Prop := ∀ o i, subscripted b false o i = operate [o, i] (getItem o i)
noncomputable def IxR (X : Cx) (r : R2) : Prop :=
  ∀ (value slice : Expr) (pins : List (Addr × Obj)) (s : Shared) (σ : St) (H : Hp) (x y : V) (v u : Value) (Q : VK), Inv X pins σ H s → RelV x v → RelV y u → r x y H Q →
    subscripted slice false v u = operate [v, u] (getItem v u) → wpAny (model X.prog X.w) X.A (subscriptTail value slice v u) (EP X pins σ Q) X.xe s
noncomputable def MtR (X : Cx) (id : String) (r : V → List V → Hp → VK → Prop) : Prop :=
  ∀ (pins : List (Addr × Obj)) (s : Shared) (σ : St) (H : Hp) (x : V) (xs : List V) (v : Value) (us : List Value) (Q : VK), Inv X pins σ H s → RelV x v → Vals xs us → r x xs H Q →
    wpAny (model X.prog X.w) X.A (call (.builtin id) (v :: us)) (EP X pins σ Q) X.xe s
section
variable {X : Cx} {a b : Expr} {ta tb : TE} {pos : Pos}
theorem IxR.or {r r' : R2} (h : IxR X r) (h' : IxR X r') : IxR X (fun x y H Q => r x y H Q ∨ r' x y H Q) := by
  intro value slice pins s σ H x y v u Q I rx ry q hs
  rcases q with q | q
  · exact h value slice pins s σ H x y v u Q I rx ry q hs
  · exact h' value slice pins s σ H x y v u Q I rx ry q hs
theorem MtR.or {id : String} {r r' : V → List V → Hp → VK → Prop} (h : MtR X id r) (h' : MtR X id r') : MtR X id (fun x xs H Q => r x xs H Q ∨ r' x xs H Q) := by
  intro pins s σ H x xs v us Q I rx rs q
  rcases q with q | q
  · exact h pins s σ H x xs v us Q I rx rs q
  · exact h' pins s σ H x xs v us Q I rx rs q
theorem pe_ix {r : R2} (hr : IxR X r) (ha : PE X a ta) (hb : PE X b tb) (hs : PlainIx b) : PE X (.Subscript a b pos) (tOp r ta tb) := by
  intro pins s σ H Q I h
  exact Subscript_ (binT ha hb I h fun v u s2 x y H2 I2 rx ry q => hr a b pins s2 σ H2 x y v u Q I2 rx ry q (hs _ _))
noncomputable def rIxL (K : PySem.W.Frag) : R2 := fun x y H Q => ∃ p xs i v, x = .ref p ∧ y = .int i ∧ SqL K H p xs ∧ atI xs i = some v ∧ Q v H
noncomputable def rIxT (K : PySem.W.Frag) : R2 := fun x y H Q => ∃ p xs i v, x = .ref p ∧ y = .int i ∧ SqT K H p xs ∧ atI xs i = some v ∧ Q v H
noncomputable def rIxS : R2 := fun x y H Q => ∃ z i c, x = .str z ∧ y = .int i ∧ z.length ≤ sizeLine ∧ atI z.cps.toList i = some c ∧ Q (.str ⟨#[c]⟩) H
theorem ix_list : IxR X (rIxL X.K) := by
  intro value slice pins s σ H x y v u Q I rx ry h hs
  obtain ⟨p, xs, i, z, rfl, rfl, hq, he, q⟩ := h
  cases rx
  obtain ⟨t, rfl⟩ := ry
  obtain ⟨its, r, pl, hz⟩ := I.list hq
  obtain ⟨j, h1, h2, h3, h4, h5⟩ := atI_get he
  obtain ⟨w, ew, rw'⟩ := r.get h2
  have hl := r.length
  have hn := line63
  have fin : EP X pins σ Q w s := ⟨z, H, I, rw', q⟩
  by_cases h0 : 0 ≤ i
  · have hj : i.toNat = j := by
      rw [seqIndex_of h0 h5] at h1
      exact Option.some.inj h1
    exact item_listR pl.isList h0 (by omega) (by rw [hj]; simpa using ew) fin hs
  · have hj : (i + (its.toArray.size : Int)).toNat = j := by
      rw [seqIndex_neg (by omega) h4] at h1
      rw [List.size_toArray, ← hl]
      exact Option.some.inj h1
    exact subscriptTail_builtinR (x := w) pl.isList.typeIs slot_list_getitem.lookup
      (wpAny_getItem_list_neg (Q := fun r s' => r = w ∧ EP X pins σ Q r s') pl.isList (by omega) (by rw [List.size_toArray] <;> omega) (by omega) (by rw [hj]; simpa using ew) ⟨rfl, fin⟩) hs
theorem ix_tup : IxR X (rIxT X.K) := by
  intro value slice pins s σ H x y v u Q I rx ry h hs
  obtain ⟨p, xs, i, z, rfl, rfl, hq, he, q⟩ := h
  cases rx
  obtain ⟨t, rfl⟩ := ry
  obtain ⟨its, r, pl, hz⟩ := I.tuple hq
  obtain ⟨j, h1, h2, h3, h4, h5⟩ := atI_get he
  obtain ⟨w, ew, rw'⟩ := r.get h2
  have hl := r.length
  have hn := line63
  have fin : EP X pins σ Q w s := ⟨z, H, I, rw', q⟩
  exact subscriptTail_builtinR (x := w) pl.typeIs slot_tuple_getitem.lookup
    (getItem_tuple (j := j) (Q := fun r s' => r = w ∧ EP X pins σ Q r s') pl (by omega) (by omega) (by rw [List.size_toArray, ← hl]; exact h1) (by simpa using ew) ⟨rfl, fin⟩) hs
theorem ix_str : IxR X rIxS := by
  intro value slice pins s σ H x y v u Q I rx ry h hs
  obtain ⟨z, i, c, rfl, rfl, hz, he, q⟩ := h
  obtain ⟨t, rfl⟩ := rx
  obtain ⟨t', rfl⟩ := ry
  obtain ⟨j, h1, h2, h3, h4, h5⟩ := atI_get he
  have hl : z.cps.toList.length = z.length := by simp [Str.length]
  rw [hl] at h1 h4 h5
  have hn := line63
  exact tail_any (typeIs_str s z t) slot_str_getitem.lookup (getItem_str (c := c) (by
    have e1 : decide (i < -(2 ^ 63 : Int)) = false := decide_eq_false (by omega)
    have e2 : decide (i ≥ 2 ^ 63) = false := decide_eq_false (by omega)
    rw [e1, e2, Bool.or_false]) (by rw [h1]; simpa using h2) ⟨.str ⟨#[c]⟩, H, I.tok _, ⟨_, rfl⟩, q⟩) hs
noncomputable def rIx (K : PySem.W.Frag) : R2 := fun x y H Q => rIxL K x y H Q ∨ rIxT K x y H Q ∨ rIxS x y H Q
theorem ix_seq : IxR X (rIx X.K) := ix_list.or (ix_tup.or ix_str)
theorem mapSeq_set (its : List Value) (n j : Nat) (u : Value) : Obj.mapSeq (·.setIfInBounds j u) { cls := .type "list", data := .seq its.toArray n } = { cls := .type "list", data := .seq (its.set j u).toArray n } := by
  simp [Obj.mapSeq]
theorem Inv.lst {pins : List (Addr × Obj)} {σ : St} {H : Hp} {s : Shared} {p : Addr} {xs : List V} (I : Inv X pins σ H s) (h : H p = some (.lst xs)) :
    ∃ (its : List Value) (n : Nat), Vals xs its ∧ s.heap.get? p = some { cls := .type "list", data := .seq its.toArray n } ∧ xs.length ≤ sizeLine := by
  obtain ⟨z, its, n, r, e⟩ := I.hok p _ h
  exact ⟨its, n, r, e, z⟩
theorem Inv.lstUpd {pins : List (Addr × Obj)} {σ : St} {H : Hp} {s : Shared} {p : Addr} {xs ys : List V} {its its' : List Value} {n n' : Nat} {f : Obj → Obj} (I : Inv X pins σ H s) (h : H p = some (.lst xs))
    (ho : s.heap.get? p = some { cls := .type "list", data := .seq its.toArray n }) (hf : f { cls := .type "list", data := .seq its.toArray n } = { cls := .type "list", data := .seq its'.toArray n' }) (r : Vals ys its') (hz : ys.length ≤ sizeLine) (t : Nat) :
    Inv X pins σ (upd H p (.lst ys)) { s with heap := s.heap.update p f, toks := t } := by
  have e : (s.heap.update p f).get? p = some { cls := .type "list", data := .seq its'.toArray n' } := by
    rw [Heap.get?_update_self f ho (by rw [hf] <;> rfl), hf]
  refine I.write (x := p) (e := p) (by rw [h]; trivial) (.inl rfl) (fun b u hb q => (Heap.get?_update_other _ _ (Ne.symm hb)).trans q) ⟨_, e⟩ ?_
  exact ⟨hz, its', n', r, e⟩
noncomputable def rSetL : V → V → V → Hp → (Hp → Prop) → Prop := fun o i v H Q => ∃ p xs k j, o = .ref p ∧ i = .int k ∧ H p = some (.lst xs) ∧ ixN xs.length k = some j ∧ Q (upd H p (.lst (xs.set j v)))
theorem set_list : PSet X rSetL := by
  intro pins s σ H o i v ov iv u Q I ro ri rv h
  obtain ⟨p, xs, k, j, rfl, rfl, hp, hj, q⟩ := h
  cases ro
  obtain ⟨t, rfl⟩ := ri
  obtain ⟨its, n, r, ho, hz⟩ := I.lst hp
  obtain ⟨h1, h2, h3, h4⟩ := ixN_seq hj
  have hl := r.length
  have hn := line63
  have I' : Inv X pins σ (upd H p (.lst (xs.set j v))) { s with heap := s.heap.update p (Obj.mapSeq (·.setIfInBounds j u)) } :=
    I.lstUpd hp ho (mapSeq_set its n j u) (r.set rv j) (by rw [List.length_set]; exact hz) s.toks
  by_cases h0 : 0 ≤ k
  · have hk : k.toNat = j := by
      rw [seqIndex_of h0 h4] at h1
      exact Option.some.inj h1
    exact PySem.W.ki_setAt ho h0 (by omega) (by rw [List.size_toArray, ← hl]; exact h4) (by rw [hk]; exact ⟨_, I', q⟩)
  · have hk : (k + (its.toArray.size : Int)).toNat = j := by
      rw [seqIndex_neg (by omega) h3] at h1
      rw [List.size_toArray, ← hl]
      exact Option.some.inj h1
    exact PySem.W.ki_setBack ho (by omega) (by rw [List.size_toArray, ← hl]; exact h3) (by omega) (by rw [hk]; exact ⟨_, I', q⟩)
theorem slice_bounds (lo hi : Option Int) (n : Nat) : (sliceBounds lo hi none n).1 = ((HT.sIx n 0 lo : Nat) : Int) ∧ (sliceBounds lo hi none n).2.1 = ((HT.sIx n n hi : Nat) : Int) ∧ (sliceBounds lo hi none n).2.2 = 1 := by
  refine ⟨?_, ?_, rfl⟩
  · cases lo with
    | none => simp [sliceBounds, HT.sIx]
    | some i =>
      simp only [sliceBounds, HT.sIx, Option.getD_none, show (1 : Int) > 0 by decide, if_true]
      by_cases h : i < 0
      · simp only [h, if_true] <;> omega
      · simp only [h, if_false] <;> omega
  · cases hi with
    | none => simp [sliceBounds, HT.sIx]
    | some i =>
      simp only [sliceBounds, HT.sIx, Option.getD_none, show (1 : Int) > 0 by decide, if_true]
      by_cases h : i < 0
      · simp only [h, if_true] <;> omega
      · simp only [h, if_false] <;> omega
theorem slicePick_cut (its : List Value) (lo hi : Option Int) : slicePick its.toArray lo hi none = ((its.drop (HT.sIx its.length 0 lo)).take (HT.sIx its.length its.length hi - HT.sIx its.length 0 lo)).toArray := by
  obtain ⟨h1, h2, h3⟩ := slice_bounds lo hi its.toArray.size
  unfold slicePick
  rw [h1, h2, h3]
  simp only [sliceRange_one, pick_run, List.size_toArray] <;> rfl
noncomputable def rSlL (K : PySem.W.Frag) : V → Option Int → Option Int → Hp → VK → Prop := fun x lo hi H Q => ∃ a xs, x = .ref a ∧ SqL K H a xs ∧ ∀ p, H p = none → Q (.ref p) (upd H p (.lst (cutV xs lo hi)))
theorem sl_list : SlR X (rSlL X.K) := by
  intro pins s σ H x v vl vu lo hi sl Q I rx hs pl pu h
  obtain ⟨a, xs, rfl, hx, q⟩ := h
  cases rx
  obtain ⟨its, r, ht, hz⟩ := I.list hx
  have hlen := r.length
  refine ⟨"list", _, slot_list_getitem.lookup, ht.isList.typeIs, ?_⟩
  refine wpAny_getItem_list_slice ht.isList hs pl pu .none (by simp) ?_ (by rw [List.size_toArray] <;> omega)
  rw [slicePick_cut, ← hlen]
  refine ⟨.ref s.heap.objs.size, _, I.laid (t' := s.toks) (o := .lst (cutV xs lo hi)) (fun b ob q => Heap.get?_push_of_some _ q) (Nat.le_refl _) ?_, rfl, q _ (I.hok.fresh (Nat.le_refl _))⟩
  exact ⟨Nat.le_trans (cutV_length xs lo hi) hz, _, 0, (r.drop (HT.sIx xs.length 0 lo)).take (HT.sIx xs.length xs.length hi - HT.sIx xs.length 0 lo), Heap.get?_push_size _ rfl⟩
noncomputable def flatV : V → Bool
  | .non => true
  | .bl _ => true
  | .int _ => true
  | .str _ => true
  | _ => false
noncomputable def eqV : V → V → Bool
  | .non, .non => true
  | .bl a, .bl b => a == b
  | .bl a, .int b => (if a then 1 else 0) == b
  | .int a, .bl b => a == (if b then 1 else 0)
  | .int a, .int b => a == b
  | .str a, .str b => a == b
  | _, _ => false
theorem eqAt_V {A : Around} {s : Shared} {y x : V} {u v : Value} (ry : RelV y u) (rx : RelV x v) (fy : flatV y = true) (fx : flatV x = true) : SeqAt.EqAt A s u v (eqV y x) := by
  cases y with
  | non =>
    cases ry
    cases x with
    | non => cases rx; exact SeqAt.EqAt.same _
    | bl b => cases rx; exact SeqAt.EqAt.none_bool b
    | int b => obtain ⟨t, rfl⟩ := rx; exact SeqAt.EqAt.none_int b t
    | str b => obtain ⟨t, rfl⟩ := rx; exact SeqAt.EqAt.none_str b t
    | _ => exact absurd (show false = true from fx) Bool.false_ne_true
  | bl a =>
    cases ry
    cases x with
    | non => cases rx; exact SeqAt.EqAt.bool_none a
    | bl b => cases rx; exact SeqAt.EqAt.bool_bool a b
    | int b => obtain ⟨t, rfl⟩ := rx; exact SeqAt.EqAt.bool_int a b t
    | str b => obtain ⟨t, rfl⟩ := rx; exact SeqAt.EqAt.bool_str a b t
    | _ => exact absurd (show false = true from fx) Bool.false_ne_true
  | int a =>
    obtain ⟨t', rfl⟩ := ry
    cases x with
    | non => cases rx; exact SeqAt.EqAt.int_none a t'
    | bl b => cases rx; exact SeqAt.EqAt.int_bool a t' b
    | int b => obtain ⟨t, rfl⟩ := rx; exact SeqAt.EqAt.int_int a t' b t
    | str b => obtain ⟨t, rfl⟩ := rx; exact SeqAt.EqAt.int_str a t' b t
    | _ => exact absurd (show false = true from fx) Bool.false_ne_true
  | str a =>
    obtain ⟨t', rfl⟩ := ry
    cases x with
    | non => cases rx; exact SeqAt.EqAt.str_none a t'
    | bl b => cases rx; exact SeqAt.EqAt.str_bool a t' b
    | int b => obtain ⟨t, rfl⟩ := rx; exact SeqAt.EqAt.str_int a t' b t
    | str b => obtain ⟨t, rfl⟩ := rx; exact SeqAt.EqAt.str_str a t' b t
    | _ => exact absurd (show false = true from fx) Bool.false_ne_true
  | _ => exact absurd (show false = true from fy) Bool.false_ne_true
noncomputable def eqU (x : V) (u : Value) : Bool := match u with
  | .none => eqV .non x
  | .bool b => eqV (.bl b) x
  | .int i _ => eqV (.int i) x
  | .str z _ => eqV (.str z) x
  | _ => false
theorem eqU_of {x y : V} {u : Value} (r : RelV y u) (f : flatV y = true) : eqU x u = eqV y x := by
  cases y with
  | non => cases r; rfl
  | bl b => cases r; rfl
  | int i => obtain ⟨t, rfl⟩ := r; rfl
  | str z => obtain ⟨t, rfl⟩ := r; rfl
  | _ => exact absurd (show false = true from f) Bool.false_ne_true
theorem any_eqU {x : V} : ∀ {xs : List V} {us : List Value}, Vals xs us → xs.all flatV = true → us.any (eqU x) = xs.any fun y => eqV y x
  | _, _, .nil, _ => rfl
  | y :: xs, u :: us, .cons r t, f => by
    rw [List.all_cons, Bool.and_eq_true] at f
    rw [List.any_cons, List.any_cons, eqU_of r f.1, any_eqU t f.2]
theorem mem_eqAt {A : Around} {s : Shared} {x : V} {v : Value} (rx : RelV x v) (fx : flatV x = true) : ∀ {xs : List V} {us : List Value}, Vals xs us → xs.all flatV = true → ∀ u ∈ us, SeqAt.EqAt A s u v (eqU x u)
  | _, _, .nil, _ => fun u hu => by cases hu
  | y :: xs, u :: us, .cons r t, f => fun u' hu => by
    rw [List.all_cons, Bool.and_eq_true] at f
    rcases List.mem_cons.mp hu with rfl | hu
    · rw [eqU_of r f.1]; exact eqAt_V r rx f.1 fx
    · exact mem_eqAt rx fx t f.2 u' hu
noncomputable def inV (x : V) (xs : List V) : Bool := xs.any fun y => eqV y x
noncomputable def rIn (K : PySem.W.Frag) (neg : Bool) : R2 := fun x y H Q => ∃ p xs, y = .ref p ∧ (SqL K H p xs ∨ SqT K H p xs) ∧ flatV x = true ∧ xs.all flatV = true ∧ Q (.bl (if neg then !inV x xs else inV x xs)) H
theorem op_in_seq : OpR X (compareOp .In) (rIn X.K false) := by
  intro pins s σ H x y v u Q I rx ry h
  obtain ⟨p, xs, rfl, hq, fx, fs, q⟩ := h
  cases ry
  rcases hq with hq | hq
  · obtain ⟨its, r, pl, hz⟩ := I.list hq
    refine SeqAt.in_listAt (eqU x) pl.isList (fun w hw => mem_eqAt rx fx r fs w (by simpa using hw)) ⟨.bl _, H, I, rfl, ?_⟩
    rw [show its.toArray.any (eqU x) = its.any (eqU x) by simp, any_eqU r fs]
    exact q
  · obtain ⟨its, r, pl, hz⟩ := I.tuple hq
    refine SeqAt.in_tupleAt (eqU x) pl (fun w hw => mem_eqAt rx fx r fs w (by simpa using hw)) ⟨.bl _, H, I, rfl, ?_⟩
    rw [show its.toArray.any (eqU x) = its.any (eqU x) by simp, any_eqU r fs]
    exact q
theorem CallR.or {f : Value} {r r' : List V → Hp → VK → Prop} (h : CallR X f r) (h' : CallR X f r') : CallR X f (fun xs H Q => r xs H Q ∨ r' xs H Q) := by
  intro pins s σ H xs us Q I rs q
  rcases q with q | q
  · exact h pins s σ H xs us Q I rs q
  · exact h' pins s σ H xs us Q I rs q
theorem call_list_of : CallR X (.type "list") (fun xs H Q => ∃ p ys, xs = [.ref p] ∧ (SqL X.K H p ys ∨ SqT X.K H p ys) ∧ ∀ l, H l = none → Q (.ref l) (upd H l (.lst ys))) := by
  intro pins s σ H xs us Q I r h
  obtain ⟨p, ys, rfl, hq, q⟩ := h
  obtain ⟨u, rfl, rx⟩ := vals1 r
  cases rx
  have fin : ∀ (its : List Value), Vals ys its → ys.length ≤ sizeLine → ∀ (h' : Heap) (c' : Nat), (∀ b o', s.heap.get? b = some o' → h'.get? b = some o') →
      h'.get? s.heap.objs.size = some { cls := .type "list", dict := none, data := .seq its.toArray c', slots := #[] } → EP X pins σ Q (.ref s.heap.objs.size) { s with heap := h' } := fun its r' hz h' c' kp e =>
    ⟨.ref s.heap.objs.size, _, I.laid (t' := s.toks) kp (Nat.le_refl _) (show ObjOk X.prog X.w _ h' _ (.lst ys) from ⟨hz, its, c', r', e⟩), rfl, q _ (I.hok.fresh (Nat.le_refl _))⟩
  rcases hq with hq | hq
  · obtain ⟨its, r', pl, hz⟩ := I.list hq
    have hlen := r'.length
    obtain ⟨o, ho, hc, n, hd⟩ := pl.isList
    exact call_list_seq p (.inl rfl) ho hc hd (fun h' c' kp e => fin its r' hz h' c' kp e) (by simp only [List.size_toArray] <;> omega)
  · obtain ⟨its, r', pl, hz⟩ := I.tuple hq
    have hlen := r'.length
    obtain ⟨o, ho, hc, n, hd⟩ := pl
    exact call_list_seq p (.inr rfl) ho hc hd (fun h' c' kp e => fin its r' hz h' c' kp e) (by simp only [List.size_toArray] <;> omega)
theorem call_tuple_of : CallR X (.type "tuple") (fun xs H Q => ∃ p ys, xs = [.ref p] ∧ ((SqL X.K H p ys ∧ ∀ l, H l = none → Q (.ref l) (upd H l (.tup ys))) ∨ (SqT X.K H p ys ∧ Q (.ref p) H))) := by
  intro pins s σ H xs us Q I r h
  obtain ⟨p, ys, rfl, h⟩ := h
  obtain ⟨u, rfl, rx⟩ := vals1 r
  cases rx
  rcases h with ⟨hq, q⟩ | ⟨hq, q⟩
  · obtain ⟨its, r', pl, hz⟩ := I.list hq
    have hlen := r'.length
    refine call_tuple_list pl.isList (fun h' kp => ?_) (by simp only [List.size_toArray] <;> omega)
    have I1 : Inv X pins σ H { s with heap := h' } := I.kept (t' := s.toks) kp
    have I2 : Inv X pins σ (upd H h'.objs.size (.tup ys)) { s with heap := h'.push { cls := .type "tuple", data := .seq its.toArray } } :=
      I1.laid (t' := s.toks) (fun b o e => Heap.get?_push_of_some _ e) (Nat.le_refl _) (show ObjOk X.prog X.w _ _ _ (.tup ys) from ⟨hz, its, r', IsTup.new _ _⟩)
    exact ⟨.ref h'.objs.size, _, I2, rfl, q _ (I1.hok.fresh (Nat.le_refl _))⟩
  · obtain ⟨its, r', pl, hz⟩ := I.tuple hq
    exact call_tuple_same pl ⟨.ref p, H, I, rfl, q⟩
noncomputable def tyV (K : PySem.W.Frag) (T : String) (x : V) (H : Hp) : Prop := match x with
  | .str _ => T = "str"
  | .int _ => T = "int"
  | .ref p => (T = "list" ∧ ∃ xs, SqL K H p xs) ∨ (T = "tuple" ∧ ∃ o, K.lookup p = some o ∧ o.cls = .type "tuple" ∧ o.dict = none) ∨
      (T = "dict" ∧ ((∃ kvs, H p = some (.dK kvs)) ∨ ∃ kvs, H p = some (.dT kvs))) ∨ (T = "set" ∧ ∃ S n, H p = some (.set S n))
  | _ => False
theorem tyV_is {pins : List (Addr × Obj)} {σ : St} {H : Hp} {s : Shared} {T : String} {x : V} {v : Value} (I : Inv X pins σ H s) (r : RelV x v) (ty : tyV X.K T x H) :
    s.TypeIs v T ∧ ∀ a, v = .ref a → ∃ ob, s.heap.get? a = some ob ∧ ob.dict = none := by
  cases x with
  | str z =>
    obtain ⟨t, rfl⟩ := r
    cases (show T = "str" from ty)
    exact ⟨typeIs_str s z t, fun _ e => nomatch e⟩
  | int i =>
    obtain ⟨t, rfl⟩ := r
    cases (show T = "int" from ty)
    exact ⟨typeIs_int s i t, fun _ e => nomatch e⟩
  | ref p =>
    cases r
    rcases ty with ⟨rfl, xs, hq⟩ | ⟨rfl, o, hk, hc, hd⟩ | ⟨rfl, hk⟩ | ⟨rfl, S, n, hk⟩
    · obtain ⟨its, _, pl, _⟩ := I.list hq
      refine ⟨pl.isList.typeIs, fun a e => ?_⟩
      cases e
      obtain ⟨o, n, e, c, hd, _⟩ := pl
      exact ⟨o, e, hd⟩
    · refine ⟨⟨o, I.kIn p o hk, hc⟩, fun a e => ?_⟩
      cases e
      exact ⟨o, I.kIn _ o hk, hd⟩
    · have z : ∃ o, s.heap.get? p = some o ∧ o.ExactDict := by
        rcases hk with ⟨kvs, hk⟩ | ⟨kvs, hk⟩
        · obtain ⟨_, _, _, _, o, _, _, e, ex, _⟩ := I.hok p _ hk
          exact ⟨o, e, ex⟩
        · obtain ⟨_, _, _, _, o, _, _, e, ex, _⟩ := I.hok p _ hk
          exact ⟨o, e, ex⟩
      obtain ⟨o, e, ex⟩ := z
      refine ⟨⟨o, e, ex.1⟩, fun a e2 => ?_⟩
      cases e2
      exact ⟨o, e, ex.2.1⟩
    · obtain ⟨o, _, _, _, e, ex, _⟩ := I.hok p _ hk
      refine ⟨⟨o, e, ex.1⟩, fun a e2 => ?_⟩
      cases e2
      exact ⟨o, e, ex.2.1⟩
  | _ => exact False.elim ty
noncomputable def tBM0 (K : PySem.W.Frag) (T : String) (r : V → List V → Hp → VK → Prop) (to : TE) : TE := fun σ H Q => to σ H fun x H1 => tyV K T x H1 ∧ r x [] H1 Q
noncomputable def tBM (K : PySem.W.Frag) (T : String) (r : V → List V → Hp → VK → Prop) (to : TE) (t : TA) : TE := fun σ H Q => to σ H fun x H1 => tyV K T x H1 ∧ t σ H1 fun xs H2 => r x xs H2 Q
variable {o e : Expr} {es : List Expr} {to : TE} {t : TA} {name : Str} {apos cpos : Pos} {T id : String} {r : V → List V → Hp → VK → Prop}
theorem pe_bm0 (pa : PlainAttrs T) (slot : Slot T name id) (hty : typeOf (.builtin id) = pure (.type "method_descriptor")) (hm : MtR X id r) (ho : PE X o to)
    (hbase : attributeBase o name X.env (eval o X.env) = eval o X.env := by rfl) (hline : (apos.endLine == cpos.line) = true := by rfl) : PE X (.Call (.Attribute o name apos) [] [] cpos) (tBM0 X.K T r to) := by
  intro pins s σ H Q I h
  refine wpAny_Call_method0_late hbase hline (thn (ho pins s σ H _ I h) fun v s1 ⟨x, H1, I1, r1, ty, q1⟩ => ?_)
  obtain ⟨h1, h2⟩ := tyV_is I1 r1 ty
  exact ⟨T, id, pa, slot, hty, h1, h2, Calls.callWith_builtin rfl (PySem.evalArgs_none (hm pins s1 σ H1 x [] v [] Q I1 r1 .nil q1))⟩
theorem pe_bm (pa : PlainAttrs T) (slot : Slot T name id) (hty : typeOf (.builtin id) = pure (.type "method_descriptor")) (hm : MtR X id r) (ho : PE X o to) (ha : PA X (e :: es) t)
    (hbase : attributeBase o name X.env (eval o X.env) = eval o X.env := by rfl)
    (hfew : ((backTo cpos (starEach (e :: es) X.env)).all (fun x => !x.1) && (backToKw cpos (keywordEach [] X.env)).all (fun x => x.1.isSome)
      && decide ((e :: es).length + ([] : List Keyword).length + (if ([] : List Keyword).isEmpty then 0 else 1) < 30)) = true := by rfl)
    (hline : (apos.endLine == cpos.line) = true := by rfl) (hs : starEach (e :: es) X.env = (false, eval e X.env) :: starEach es X.env := by rfl) (hplain : (backTo cpos (starEach es X.env)).any (·.1) = false := by rfl) :
    PE X (.Call (.Attribute o name apos) (e :: es) [] cpos) (tBM X.K T r to t) := by
  intro pins s σ H Q I h
  refine wpAny_Call_method_late hbase hfew hline rfl (thn (ho pins s σ H _ I h) fun v s1 ⟨x, H1, I1, r1, ty, q1⟩ => ?_)
  obtain ⟨h1, h2⟩ := tyV_is I1 r1 ty
  refine ⟨T, id, pa, slot, hty, h1, h2, ?_⟩
  have hA := ha cpos pins s1 σ H1 _ I1 q1
  rw [hs] at hA ⊢
  refine Calls.callWith_builtin (by show (false || (backTo cpos (starEach es X.env)).any (·.1)) = false; rw [hplain] <;> rfl) (Calls.evalArgs_plain ?_)
  exact thn hA fun us s2 ⟨vs, H2, I2, r2, q2⟩ => hm pins s2 σ H2 x vs v us Q I2 r1 r2 q2
end
end L2
namespace L2
open PySem PySem.Spec PyProof.Rows
noncomputable def MtM (X : Cx) (id : String) (r : V → List V → Hp → VK → Prop) : Prop :=
  ∀ (pins : List (Addr × Obj)) (s : Shared) (σ : St) (H : Hp) (x : V) (xs : List V) (v : Value) (us : List Value) (Q : VK), Inv X pins σ H s → RelV x v → Vals xs us → r x xs H Q →
    wpAny (model X.prog X.w) X.A (call (.builtin id) (v :: us)) (EP X pins σ Q) X.xe s
theorem Vals.one : ∀ {x : V} {us : List Value}, Vals [x] us → ∃ u, us = [u] ∧ RelV x u
  | _, _, .cons r .nil => ⟨_, rfl, r⟩
theorem Vals.zero : ∀ {us : List Value}, Vals [] us → us = []
  | _, .nil => rfl
theorem Vals.dropLast {xs : List V} {us : List Value} (h : Vals xs us) : Vals xs.dropLast us.dropLast := by
  induction h with
  | nil => exact .nil
  | cons r t ih =>
    cases t with
    | nil => exact .nil
    | cons q t' => exact .cons r ih
theorem Vals.eraseIdx : ∀ {xs : List V} {us : List Value} (i : Nat), Vals xs us → Vals (xs.eraseIdx i) (us.eraseIdx i)
  | _, _, _, .nil => .nil
  | _, _, 0, .cons _ t => t
  | _, _, i + 1, .cons r t => .cons r (Vals.eraseIdx i t)
theorem Vals.rep {xs : List V} {us : List Value} (h : Vals xs us) : ∀ k : Nat, Vals (List.replicate k xs).flatten (List.replicate k us).flatten
  | 0 => .nil
  | k + 1 => by
    rw [List.replicate_succ, List.replicate_succ, List.flatten_cons, List.flatten_cons]
    exact Vals.append h (Vals.rep h k)
theorem erase_last {α : Type} (l : List α) : l.eraseIdx (l.length - 1) = l.dropLast := by
  induction l with
  | nil => rfl
  | cons a r ih =>
    cases r with
    | nil => rfl
    | cons b r =>
      have e : (a :: b :: r).length - 1 = ((b :: r).length - 1) + 1 := by
        have h1 : (a :: b :: r).length = r.length + 2 := rfl
        have h2 : (b :: r).length = r.length + 1 := rfl
        omega
      rw [e, List.eraseIdx_cons_succ, ih]
      all_goals rfl
theorem foldl_rep (its : List Value) : ∀ (k : Nat) (acc : List Value),
    List.foldl (fun x1 x2 => x1 ++ x2) acc.toArray (List.replicate k its.toArray) = (acc ++ (List.replicate k its).flatten).toArray
  | 0, acc => by simp
  | k + 1, acc => by
    have e : acc.toArray ++ its.toArray = (acc ++ its).toArray := by simp
    have e2 : (acc ++ its) ++ (List.replicate k its).flatten = acc ++ (List.replicate (k + 1) its).flatten := by
      rw [List.replicate_succ, List.flatten_cons, List.append_assoc]
    rw [← e2, ← foldl_rep its k (acc ++ its), ← e, List.replicate_succ, List.foldl_cons]
section
variable {X : Cx} {pins : List (Addr × Obj)} {σ : St} {H : Hp} {s : Shared} {l b : Addr} {xs ys zs : List V}
theorem Inv.lset {its its' : List Value} {n : Nat} {f : Array Value → Array Value} {t' : Nat} (I : Inv X pins σ H s) (hH : H l = some (.lst xs))
    (e : s.heap.get? l = some { cls := .type "list", data := .seq its.toArray n }) (hf : f its.toArray = its'.toArray) (hv : Vals ys its') (hz : ys.length ≤ sizeLine) :
    Inv X pins σ (upd H l (.lst ys)) { s with heap := s.heap.update l (Obj.mapSeq f), toks := t' } := by
  have q := PySem.IsL.update e f
  rw [hf] at q
  refine I.write (x := l) (e := l) (by rw [hH]; exact trivial) (.inl rfl) (fun b' u hb hu => (Heap.get?_update_other s.heap (Obj.mapSeq f) (Ne.symm hb)).trans hu) ⟨_, q⟩ ?_
  exact ⟨hz, its', _, hv, q⟩
theorem Inv.lnew {its : List Value} {t' : Nat} (I : Inv X pins σ H s) (hv : Vals ys its) (hz : ys.length ≤ sizeLine) :
    Inv X pins σ (upd H s.heap.objs.size (.lst ys)) { s with heap := s.heap.push { cls := .type "list", data := .seq its.toArray }, toks := t' } :=
  I.laid (fun _ _ q => Heap.get?_push_of_some _ q) (Nat.le_refl _) ⟨hz, its, 0, hv, Heap.get?_push_size _ rfl⟩
theorem Inv.fresh (I : Inv X pins σ H s) : H s.heap.objs.size = none := I.hok.fresh (Nat.le_refl _)
theorem Inv.lstM (I : Inv X pins σ H s) (hH : H l = some (.lst xs)) : xs.length ≤ sizeLine ∧ ∃ (its : List Value) (n : Nat), Vals xs its ∧ xs.length = its.length ∧ s.heap.get? l = some { cls := .type "list", data := .seq its.toArray n } := by
  obtain ⟨z, its, n, r, e⟩ := I.hok l _ hH
  exact ⟨z, its, n, r, r.length, e⟩
theorem notLongL {n : Nat} (h : n ≤ sizeLine) : Builtin.List.listTooLong n = false := by
  unfold Builtin.List.listTooLong
  exact decide_eq_false (by omega)
end
section
variable {X : Cx}
noncomputable def rAppend : V → List V → Hp → VK → Prop := fun x vs H Q => ∃ l xs y, x = .ref l ∧ vs = [y] ∧ H l = some (.lst xs) ∧ xs.length < sizeLine ∧ Q .non (upd H l (.lst (xs ++ [y])))
theorem mt_append : MtM X "list.append" rAppend := by
  intro pins s σ H x vs v us Q I rx rv h
  obtain ⟨l, xs, y, rfl, rfl, hH, hz, q⟩ := h
  cases rx
  obtain ⟨u, rfl, ru⟩ := rv.one
  obtain ⟨z, its, n, r, hl, e⟩ := I.lstM hH
  refine call_meets F.slot_list_append ⟨_, e, rfl⟩ F.entry_list_append (F.args_list_append_2 _ _) (PySem.list_append l its.toArray n u (by rw [List.size_toArray]; omega)) ⟨e, ?_⟩
  refine ⟨.non, _, I.lset (its' := its ++ [u]) hH e (by simp) (r.append (.cons ru .nil)) ?_, rfl, q⟩
  rw [List.length_append, List.length_singleton]
  omega
noncomputable def rExtend : V → List V → Hp → VK → Prop := fun x vs H Q => ∃ l b xs zs, x = .ref l ∧ vs = [.ref b] ∧ H l = some (.lst xs) ∧ H b = some (.lst zs) ∧ xs.length + zs.length ≤ sizeLine ∧ Q .non (upd H l (.lst (xs ++ zs)))
theorem mt_extend : MtM X "list.extend" rExtend := by
  intro pins s σ H x vs v us Q I rx rv h
  obtain ⟨l, b, xs, zs, rfl, rfl, hH, hB, hz, q⟩ := h
  cases rx
  obtain ⟨u, rfl, ru⟩ := rv.one
  cases ru
  obtain ⟨z, its, n, r, hl, e⟩ := I.lstM hH
  obtain ⟨z2, its2, n2, r2, hl2, e2⟩ := I.lstM hB
  have hsz : its.toArray.size + its2.toArray.size ≤ sizeLine := by rw [List.size_toArray, List.size_toArray]; omega
  have hlong : ¬ (!its.toArray.isEmpty && Builtin.List.listTooLong (its.toArray.size + its2.toArray.size)) = true := by
    rw [notLongL hsz, Bool.and_false]
    exact Bool.false_ne_true
  refine call_meets F.slot_list_extend ⟨_, e, rfl⟩ F.entry_list_extend (F.args_list_extend_2 _ _)
    (AutoSeq1.list_extend_list_list_0 l its.toArray n b its2.toArray n2 hlong (by rw [List.size_toArray]; omega) (by omega)) ⟨e, e2, ?_⟩
  refine ⟨.non, _, I.lset (its' := its ++ its2) hH e (by simp) (r.append r2) ?_, rfl, q⟩
  rw [List.length_append]
  omega
noncomputable def rPop : V → List V → Hp → VK → Prop := fun x vs H Q => ∃ l xs y, x = .ref l ∧ vs = [] ∧ H l = some (.lst xs) ∧ xs[xs.length - 1]? = some y ∧ Q y (upd H l (.lst xs.dropLast))
theorem mt_pop : MtM X "list.pop" rPop := by
  intro pins s σ H x vs v us Q I rx rv h
  obtain ⟨l, xs, y, rfl, rfl, hH, hy, q⟩ := h
  cases rx
  have hus := rv.zero
  subst hus
  obtain ⟨z, its, n, r, hl, e⟩ := I.lstM hH
  obtain ⟨u, hu, ru⟩ := r.get hy
  have hy' : its.toArray[its.toArray.size - 1]? = some u := by
    show its.toArray[its.length - 1]? = some u
    rw [← Array.getElem?_toList, ← hl]
    exact hu
  refine call_meets F.slot_list_pop ⟨_, e, rfl⟩ F.entry_list_pop (F.args_list_pop_1 _) (MeetsSeq.list_pop_last l its.toArray n u hy' (by rw [List.size_toArray]; omega)) ⟨e, ?_⟩
  refine ⟨y, _, I.lset (its' := its.dropLast) hH e ?_ r.dropLast ?_, ru, q⟩
  · show its.toArray.eraseIdxIfInBounds (its.toArray.size - 1) = its.dropLast.toArray
    rw [List.size_toArray, List.eraseIdxIfInBounds_toArray, erase_last]
  · rw [List.length_dropLast]
    omega
noncomputable def rCat : R2 := fun x y H Q => ∃ l b xs zs, x = .ref l ∧ y = .ref b ∧ H l = some (.lst xs) ∧ H b = some (.lst zs) ∧ xs.length + zs.length ≤ sizeLine ∧ ∀ p, H p = none → Q (.ref p) (upd H p (.lst (xs ++ zs)))
theorem op_cat : OpR X (binaryOp .Add) rCat := by
  intro pins s σ H x y v u Q I rx ry h
  obtain ⟨l, b, xs, zs, rfl, rfl, hH, hB, hz, q⟩ := h
  cases rx
  cases ry
  obtain ⟨z, its, n, r, hl, e⟩ := I.lstM hH
  obtain ⟨z2, its2, n2, r2, hl2, e2⟩ := I.lstM hB
  refine PySem.P.add_list e e2 ?_ (by rw [List.size_toArray, List.size_toArray]; omega)
  have ea : its.toArray ++ its2.toArray = (its ++ its2).toArray := by simp
  rw [ea]
  exact ⟨.ref _, _, I.lnew (t' := s.toks) (r.append r2) (by rw [List.length_append]; omega), rfl, q _ I.fresh⟩
noncomputable def rRep : R2 := fun x y H Q => ∃ l k xs, x = .ref l ∧ y = .int k ∧ H l = some (.lst xs) ∧ -(2 ^ 63) ≤ k ∧ k < 2 ^ 63 ∧ xs.length * k.toNat ≤ sizeLine ∧
  ∀ p, H p = none → Q (.ref p) (upd H p (.lst (List.replicate k.toNat xs).flatten))
theorem len_rep {α : Type} (xs : List α) (k : Nat) : (List.replicate k xs).flatten.length = k * xs.length := by
  induction k with
  | zero => simp
  | succ k ih => rw [List.replicate_succ, List.flatten_cons, List.length_append, ih, Nat.succ_mul, Nat.add_comm]
theorem op_rep : OpR X (binaryOp .Mult) rRep := by
  intro pins s σ H x y v u Q I rx ry h
  obtain ⟨l, k, xs, rfl, rfl, hH, h1, h2, hz, q⟩ := h
  cases rx
  obtain ⟨t, rfl⟩ := ry
  obtain ⟨z, its, n, r, hl, e⟩ := I.lstM hH
  have hlen : its.toArray.size * k.toNat ≤ sizeLine := by rw [List.size_toArray, ← hl]; exact hz
  have hcap : ¬ its.toArray.size * k.toNat > (2 ^ 63 - 1) / 8 := by
    have : (sizeLine : Nat) ≤ (2 ^ 63 - 1) / 8 := by decide
    omega
  have hfit : ¬ (!Builtin.List.listFitsIndex k) = true := by
    rw [fitsIndex_both h1 h2]
    exact Bool.false_ne_true
  have hlong : ¬ Builtin.List.listTooLong (its.toArray.size * k.toNat) = true := by
    rw [notLongL hlen]
    exact Bool.false_ne_true
  have hnew : List.foldl (fun x1 x2 => x1 ++ x2) #[] (List.replicate (if its.toArray.isEmpty = true then 0 else k.toNat) its.toArray) = (List.replicate k.toNat its).flatten.toArray := by
    have f0 : ∀ m : Nat, List.foldl (fun x1 x2 => x1 ++ x2) #[] (List.replicate m its.toArray) = (List.replicate m its).flatten.toArray := fun m => by
      have := foldl_rep its m []
      rw [List.nil_append] at this
      exact this
    rw [f0]
    cases its with
    | nil => simp
    | cons a r' => rw [if_neg (by simp)]
  refine wpAny_binaryOp_repeat_ref (T := "list") (U := "int") (by decide) ⟨_, e, rfl⟩ (fun s' => typeIs_int s' k t) noFill_list_mul F.fills_int_mul F.slot_int_rmul repeat_list F.slot_int_index.lookup
    (call_meets F.slot_int_rmul (typeIs_int s k t) F.entry_int_rmul (F.args_int_rmul_2 _ _) (int___rmul___int_list k t l its.toArray n)
      ⟨e, rfl, ⟨_, e, rfl⟩, call_meets F.slot_list_mul ⟨_, e, rfl⟩ F.entry_list_mul (F.args_list_mul_2 _ _) (AutoListH.list___mul___list_int_3 l its.toArray n k t hfit hcap hlong) ⟨e, ?_⟩⟩)
  rw [hnew]
  exact ⟨.ref _, _, I.lnew (t' := s.toks) (r.rep k.toNat) (by rw [len_rep, Nat.mul_comm]; exact hz), rfl, q _ I.fresh⟩
end
section
variable {prog : Program} {w : World} {A : Around} {E : Value → Shared → Prop} {s : Shared}
end
section
variable {X : Cx}
end
end L2
namespace L2
open PySem PySem.Spec PyProof.Rows
section
variable {κ : Type} [DecidableEq κ]
noncomputable def valV (kvs : List (κ × V)) (k : κ) : Option V := (kvs.find? fun kv => decide (kv.1 = k)).map (·.2)
noncomputable def putK (kvs : List (κ × V)) (k : κ) (v : V) : List (κ × V) :=
  if (kvs.any fun kv => decide (kv.1 = k)) = true then kvs.map (fun kv => if kv.1 = k then (kv.1, v) else kv) else kvs ++ [(k, v)]
noncomputable def dropK (kvs : List (κ × V)) (k : κ) : List (κ × V) := kvs.filter fun kv => decide (kv.1 ≠ k)
theorem valV_pos {p : κ × V} {r : List (κ × V)} {k : κ} (e : p.1 = k) : valV (p :: r) k = some p.2 := by simp [valV, List.find?_cons, e]
theorem valV_neg {p : κ × V} {r : List (κ × V)} {k : κ} (e : ¬ p.1 = k) : valV (p :: r) k = valV r k := by simp [valV, List.find?_cons, e]
theorem valV_any (k : κ) : ∀ kvs : List (κ × V), (kvs.any fun kv => decide (kv.1 = k)) = (valV kvs k).isSome
  | [] => rfl
  | p :: r => by
    rw [List.any_cons]
    by_cases e : p.1 = k
    · simp only [valV_pos e, decide_eq_true e, Bool.true_or, Option.isSome_some]
    · rw [valV_neg e, decide_eq_false e, Bool.false_or]; exact valV_any k r
theorem length_putK (kvs : List (κ × V)) (k : κ) (v : V) : (putK kvs k v).length ≤ kvs.length + 1 := by
  unfold putK
  split
  · rw [List.length_map]; omega
  · rw [List.length_append, List.length_cons, List.length_nil]; omega
theorem RelO.isSome_eq {o : Option V} {u : Option Value} (r : RelO o u) : o.isSome = u.isSome := by
  cases o with
  | none => cases u with
    | none => rfl
    | some _ => exact (show False from r).elim
  | some _ => cases u with
    | none => exact (show False from r).elim
    | some _ => rfl
theorem RelO.getD {o : Option V} {u : Option Value} {d : V} {d' : Value} (r : RelO o u) (rd : RelV d d') : RelV (o.getD d) (u.getD d') := by
  cases o with
  | none => cases u with
    | none => exact rd
    | some _ => exact (show False from r).elim
  | some _ => cases u with
    | none => exact (show False from r).elim
    | some _ => exact r
theorem KV.val {kvs : List (κ × V)} {vs : List (κ × Value)} (r : KV kvs vs) (k : κ) : RelO (valV kvs k) (valueAt vs k) := by
  unfold KV at r
  induction r with
  | nil => exact True.intro
  | @cons p q ps qs h t ih =>
    obtain ⟨h1, h2⟩ := h
    by_cases e : p.1 = k
    · have e' : q.1 = k := h1.symm.trans e
      have b : valueAt (q :: qs) k = some q.2 := by simp [valueAt, List.find?_cons, e']
      rw [valV_pos e, b]; exact h2
    · have e' : ¬ q.1 = k := fun z => e (h1.trans z)
      have b : valueAt (q :: qs) k = valueAt qs k := by simp [valueAt, List.find?_cons, e']
      rw [valV_neg e, b]; exact ih
theorem KV.any {kvs : List (κ × V)} {vs : List (κ × Value)} (r : KV kvs vs) (k : κ) : (kvs.any fun kv => decide (kv.1 = k)) = vs.any fun kv => decide (kv.1 = k) := by
  unfold KV at r
  induction r with
  | nil => rfl
  | cons h t ih => rw [List.any_cons, List.any_cons, ih, h.1]
theorem KV.repl {kvs : List (κ × V)} {vs : List (κ × Value)} (r : KV kvs vs) (k : κ) {y : V} {u : Value} (ry : RelV y u) :
    KV (kvs.map fun kv => if kv.1 = k then (kv.1, y) else kv) (vs.map fun kv => if kv.1 = k then (kv.1, u) else kv) := by
  unfold KV at r ⊢
  induction r with
  | nil => exact .nil
  | @cons p q ps qs h t ih =>
    rw [List.map_cons, List.map_cons]
    refine .cons ?_ ih
    obtain ⟨h1, h2⟩ := h
    by_cases e : p.1 = k
    · rw [if_pos e, if_pos (h1.symm.trans e)]; exact ⟨h1, ry⟩
    · rw [if_neg e, if_neg (fun z => e (h1.trans z))]; exact ⟨h1, h2⟩
theorem KV.put {kvs : List (κ × V)} {vs : List (κ × Value)} (r : KV kvs vs) (k : κ) {y : V} {u : Value} (ry : RelV y u) : KV (putK kvs k y) (stored vs k u) := by
  unfold putK stored
  rw [r.any k]
  by_cases e : (vs.any fun kv => decide (kv.1 = k)) = true
  · rw [if_pos e, if_pos e]; exact r.repl k ry
  · rw [if_neg e, if_neg e]; exact Paired.snoc r ⟨rfl, ry⟩
theorem KV.drop {kvs : List (κ × V)} {vs : List (κ × Value)} (r : KV kvs vs) (k : κ) : KV (dropK kvs k) (without vs k) := by
  unfold KV at r ⊢
  unfold dropK without
  induction r with
  | nil => exact .nil
  | @cons p q ps qs h t ih =>
    obtain ⟨h1, h2⟩ := h
    rw [List.filter_cons, List.filter_cons]
    by_cases e : p.1 = k
    · have a : ¬ decide (p.1 ≠ k) = true := by simp [e]
      have b : ¬ decide (q.1 ≠ k) = true := by simp [h1.symm.trans e]
      rw [if_neg a, if_neg b]; exact ih
    · have e' : ¬ q.1 = k := fun z => e (h1.trans z)
      have a : decide (p.1 ≠ k) = true := by simp [e]
      have b : decide (q.1 ≠ k) = true := by simp [e']
      rw [if_pos a, if_pos b]; exact .cons ⟨h1, h2⟩ ih
theorem KV.keys {kvs : List (κ × V)} {vs : List (κ × Value)} (r : KV kvs vs) : kvs.map (·.1) = vs.map (·.1) := by
  unfold KV at r
  induction r with
  | nil => rfl
  | cons h t ih => rw [List.map_cons, List.map_cons, ih, h.1]
theorem KV.length {kvs : List (κ × V)} {vs : List (κ × Value)} (r : KV kvs vs) : kvs.length = vs.length := Paired.length r
end
theorem kV_is {P : Program} {w : World} {k : Key} {u : Value} (r : RelV (kV k) u) : (mixKind P w).is k u = true := by
  cases k with
  | inl i => obtain ⟨t, e⟩ := (show ∃ t, u = Value.int i t from r); subst e; exact mixKind_int P w i t
  | inr x => obtain ⟨t, e⟩ := (show ∃ t, u = Value.str x t from r); subst e; exact mixKind_str P w x t
theorem items_are {P : Program} {w : World} : ∀ {ks : List Key} {us : List Value}, Vals (ks.map kV) us → ItemsAre (mixKind P w) ks us
  | [], _, r => by rw [List.map_nil] at r; cases r; exact .nil
  | k :: ks, _, r => by
    rw [List.map_cons] at r
    cases r with
    | cons h t => exact .cons (kV_is h) (items_are t)
noncomputable abbrev KT (H : Hp) : List (List Key × V) → List (List Key × Addr × Value) → Prop := Paired fun p q => p.1 = q.1 ∧ H q.2.1 = some (.tup (p.1.map kV)) ∧ RelV p.2 q.2.2
theorem KT.val {H : Hp} {kvs : List (List Key × V)} {xs : List (List Key × Addr × Value)} (r : KT H kvs xs) (k : List Key) : RelO (valV kvs k) ((atKey xs k).map (·.2)) := by
  induction r with
  | nil => exact True.intro
  | @cons p q ps qs h t ih =>
    obtain ⟨h1, _, h2⟩ := h
    by_cases e : p.1 = k
    · have e' : q.1 = k := h1.symm.trans e
      have b : atKey (q :: qs) k = some q.2 := by simp [atKey, List.find?_cons, e']
      rw [valV_pos e, b]; exact h2
    · have e' : ¬ q.1 = k := fun z => e (h1.trans z)
      have b : atKey (q :: qs) k = atKey qs k := by simp [atKey, List.find?_cons, e']
      rw [valV_neg e, b]; exact ih
theorem KT.repl {H : Hp} {kvs : List (List Key × V)} {xs : List (List Key × Addr × Value)} (r : KT H kvs xs) (k : List Key) {y : V} {u : Value} (ry : RelV y u) :
    KT H (kvs.map fun kv => if kv.1 = k then (kv.1, y) else kv) (xs.map (putAt k u)) := by
  induction r with
  | nil => exact .nil
  | @cons p q ps qs h t ih =>
    rw [List.map_cons, List.map_cons]
    refine .cons ?_ ih
    obtain ⟨h1, h2, h3⟩ := h
    unfold putAt
    by_cases e : p.1 = k
    · rw [if_pos e, if_pos (h1.symm.trans e)]; exact ⟨h1, h2, ry⟩
    · rw [if_neg e, if_neg (fun z => e (h1.trans z))]; exact ⟨h1, h2, h3⟩
theorem KT.put {H : Hp} {kvs : List (List Key × V)} {xs : List (List Key × Addr × Value)} (r : KT H kvs xs) (k : List Key) {b : Addr} {y : V} {u : Value} (hb : H b = some (.tup (k.map kV))) (ry : RelV y u) :
    KT H (putK kvs k y) (storedH xs k b u) := by
  have e : (kvs.any fun kv => decide (kv.1 = k)) = (atKey xs k).isSome := by
    rw [valV_any, (r.val k).isSome_eq, Option.isSome_map]
  unfold putK storedH
  rw [e]
  by_cases q : (atKey xs k).isSome = true
  · rw [if_pos q, if_pos q]; exact r.repl k ry
  · rw [if_neg q, if_neg q]; exact Paired.snoc r ⟨rfl, hb, ry⟩
theorem KT.keeps {H H' : Hp} {kvs : List (List Key × V)} {xs : List (List Key × Addr × Value)} (r : KT H kvs xs) (ht : ∀ b ys, H b = some (.tup ys) → H' b = some (.tup ys)) : KT H' kvs xs :=
  Paired.mapP r fun _ _ z => ⟨z.1, ht _ _ z.2.1, z.2.2⟩
section
variable {P : Program} {w : World} {H : Hp} {h : Heap} {a : Addr}
theorem rd_of {u : HO} (ok : HOk P w H h) (e : Rd H a u) : ObjOk P w H h a u := e.ok ok
theorem dk_rd {kvs : List (Key × V)} (ok : HOk P w H h) (e : Rd H a (.dK kvs)) : kvs.length ≤ sizeLine ∧ (a == sysModules) = false ∧ ∃ vs, KV kvs vs ∧ h.DictOf (mixKind P w) a vs :=
  show ObjOk P w H h a (.dK kvs) from rd_of ok e
theorem dk_of {kvs : List (Key × V)} (ok : HOk P w H h) (e : H a = some (.dK kvs)) : kvs.length ≤ sizeLine ∧ (a == sysModules) = false ∧ ∃ vs, KV kvs vs ∧ h.DictOf (mixKind P w) a vs := dk_rd ok (.inl e)
theorem key_of {ks : List Key} (ok : HOk P w H h) (e : H a = some (.tup (ks.map kV))) : (tupleKind (mixKind P w)).is h ks a := by
  obtain ⟨_, its, r, o, h1, h2, n, h3⟩ := (show ObjOk P w H h a (.tup (ks.map kV)) from ok a _ e)
  exact ⟨o, its.toArray, n, h1, h2, h3, by simpa using items_are r⟩
theorem dt_rd {kvs : List (List Key × V)} (ok : HOk P w H h) (e : Rd H a (.dT kvs)) : kvs.length ≤ sizeLine ∧ (a == sysModules) = false ∧
    ∃ xs, KT H kvs xs ∧ h.DictOfH (tupleKind (mixKind P w)) a xs := by
  obtain ⟨z, y, xs, r, o, es, ep, h1, h2, h3, h4, h5⟩ := (show ObjOk P w H h a (.dT kvs) from rd_of ok e)
  refine ⟨z, y, xs, r, o, es, ep, h1, h2, h3, h4, fun x hx => ?_, h5⟩
  have all : ∀ {l : List (List Key × V)} {m : List (List Key × Addr × Value)}, KT H l m → ∀ x ∈ m, (tupleKind (mixKind P w)).is h x.1 x.2.1 := by
    intro l m q
    induction q with
    | nil => intro x hx; exact nomatch hx
    | @cons p q ps qs hq t ih =>
      intro x hx
      rcases List.mem_cons.mp hx with e | hx
      · subst e
        exact key_of ok (by rw [← hq.1]; exact hq.2.1)
      · exact ih x hx
  exact all r x hx
theorem dt_of {kvs : List (List Key × V)} (ok : HOk P w H h) (e : H a = some (.dT kvs)) : kvs.length ≤ sizeLine ∧ (a == sysModules) = false ∧
    ∃ xs, KT H kvs xs ∧ h.DictOfH (tupleKind (mixKind P w)) a xs := dt_rd ok (.inl e)
end
noncomputable def DGet (H : Hp) (a : Addr) (y : V) (r : Option V) : Prop :=
  (∃ kvs k, Rd H a (.dK kvs) ∧ y = kV k ∧ r = valV kvs k) ∨ ∃ kvs k b, Rd H a (.dT kvs) ∧ y = .ref b ∧ H b = some (.tup (k.map kV)) ∧ r = valV kvs k
noncomputable def DPut (H : Hp) (a : Addr) (y v : V) (H' : Hp) : Prop :=
  (∃ kvs k, H a = some (.dK kvs) ∧ y = kV k ∧ kvs.length < sizeLine ∧ H' = upd H a (.dK (putK kvs k v))) ∨
  ∃ kvs k b, H a = some (.dT kvs) ∧ y = .ref b ∧ H b = some (.tup (k.map kV)) ∧ kvs.length < sizeLine ∧ H' = upd H a (.dT (putK kvs k v))
theorem DGet.k {H : Hp} {a : Addr} {kvs : List (Key × V)} {k : Key} (e : H a = some (.dK kvs)) : DGet H a (kV k) (valV kvs k) := .inl ⟨kvs, k, .inl e, rfl, rfl⟩
theorem DGet.t {H : Hp} {a b : Addr} {kvs : List (List Key × V)} {k : List Key} (e : H a = some (.dT kvs)) (eb : H b = some (.tup (k.map kV))) : DGet H a (.ref b) (valV kvs k) := .inr ⟨kvs, k, b, .inl e, rfl, eb, rfl⟩
theorem DPut.k {H : Hp} {a : Addr} {kvs : List (Key × V)} {k : Key} {v : V} (e : H a = some (.dK kvs)) (hl : kvs.length < sizeLine) : DPut H a (kV k) v (upd H a (.dK (putK kvs k v))) := .inl ⟨kvs, k, e, rfl, hl, rfl⟩
theorem DPut.t {H : Hp} {a b : Addr} {kvs : List (List Key × V)} {k : List Key} {v : V} (e : H a = some (.dT kvs)) (eb : H b = some (.tup (k.map kV))) (hl : kvs.length < sizeLine) :
    DPut H a (.ref b) v (upd H a (.dT (putK kvs k v))) := .inr ⟨kvs, k, b, e, rfl, eb, hl, rfl⟩
section
variable {X : Cx} {pins : List (Addr × Obj)} {σ : St} {H : Hp} {s : Shared} {a : Addr} {y v : V} {u r : Value} {o : Option V} {A : Around} {E : Value → Shared → Prop}
theorem Inv.big (I : Inv X pins σ H s) : sysModules < s.heap.objs.size := by
  have h : mainGlobals < s.heap.objs.size := (I.mod.glob.keeps I.bk).lt
  exact Nat.lt_trans (by decide) h
theorem d_getItem {Q : Value → Shared → Prop} (hu : A.units + 1 < cLine) (I : Inv X pins σ H s) (g : DGet H a y (some v)) (ry : RelV y u) (h : ∀ w' s', Inv X pins σ H s' → RelV v w' → Q w' s') :
    wpAny (model X.prog X.w) A (getItem (.ref a) u) Q E s := by
  rcases g with ⟨kvs, k, e, ey, l⟩ | ⟨kvs, k, b, e, ey, eb, l⟩
  · subst ey
    obtain ⟨z, hd, vs, rel, dd⟩ := dk_rd I.hok e
    obtain ⟨w', hw, rw'⟩ := RelO.some_of (v := v) (o := valueAt vs k) (by rw [l]; exact rel.val k)
    exact wpAny_getItem_of (kV_is ry) dd.mapOf hw (h w' _ (I.tok _) rw')
  · subst ey
    cases (show u = Value.ref b from ry)
    obtain ⟨z, hd, xs, rel, dd⟩ := dt_rd I.hok e
    obtain ⟨w', hw, rw'⟩ := RelO.some_of (v := v) (o := (atKey xs k).map (·.2)) (by rw [l]; exact rel.val k)
    obtain ⟨p, hp, hp2⟩ := Option.map_eq_some_iff.mp hw
    refine wpAny_getItem_heap (tupleKind_room_in1 hu) (key_of I.hok eb) dd hp ?_
    rw [hp2]
    exact h w' _ (I.tok _) rw'
theorem d_in {Q : Value → Shared → Prop} (hu : A.units + 1 < cLine) (I : Inv X pins σ H s) (g : DGet H a y o) (ry : RelV y u) (h : ∀ s', Inv X pins σ H s' → Q (.bool o.isSome) s') :
    wpAny (model X.prog X.w) A (compareOp .In u (.ref a)) Q E s := by
  rcases g with ⟨kvs, k, e, ey, l⟩ | ⟨kvs, k, b, e, ey, eb, l⟩
  · subst ey
    obtain ⟨z, hd, vs, rel, dd⟩ := dk_rd I.hok e
    refine wpAny_in_of (kV_is ry) hd dd.mapOf ?_
    rw [← (rel.val k).isSome_eq, ← l]
    exact h _ (I.tok _)
  · subst ey
    cases (show u = Value.ref b from ry)
    obtain ⟨z, hd, xs, rel, dd⟩ := dt_rd I.hok e
    refine wpAny_in_heap (tupleKind_room_in1 hu) (key_of I.hok eb) hd dd ?_
    have q := (rel.val k).isSome_eq
    rw [Option.isSome_map] at q
    rw [← q, ← l]
    exact h _ (I.tok _)
theorem d_notIn {Q : Value → Shared → Prop} (hu : A.units + 1 < cLine) (I : Inv X pins σ H s) (g : DGet H a y o) (ry : RelV y u) (h : ∀ s', Inv X pins σ H s' → Q (.bool (!o.isSome)) s') :
    wpAny (model X.prog X.w) A (compareOp .NotIn u (.ref a)) Q E s := by
  rcases g with ⟨kvs, k, e, ey, l⟩ | ⟨kvs, k, b, e, ey, eb, l⟩
  · subst ey
    obtain ⟨z, hd, vs, rel, dd⟩ := dk_rd I.hok e
    refine wpAny_notIn_of (kV_is ry) hd dd.mapOf ?_
    rw [← (rel.val k).isSome_eq, ← l]
    exact h _ (I.tok _)
  · subst ey
    cases (show u = Value.ref b from ry)
    obtain ⟨z, hd, xs, rel, dd⟩ := dt_rd I.hok e
    refine wpAny_notIn_heap (tupleKind_room_in1 hu) (key_of I.hok eb) hd dd ?_
    have q := (rel.val k).isSome_eq
    rw [Option.isSome_map] at q
    rw [← q, ← l]
    exact h _ (I.tok _)
theorem d_write {h' : Heap} {t' : Nat} {ob : HO} (I : Inv X pins σ H s) (mu : Mut (H a)) (hs : Heap.SameBut a s.heap h') (he : ∃ q, h'.get? a = some q) (new : ObjOk X.prog X.w (upd H a ob) h' a ob) :
    Inv X pins σ (upd H a ob) { s with heap := h', toks := t' } :=
  I.write (x := a) (e := a) mu (.inl rfl) (fun b q hb z => (hs.2 b hb).trans z) he new
theorem dk_new {P : Program} {w : World} {H' : Hp} {h' : Heap} {kvs : List (Key × V)} {vs : List (Key × Value)} (z : kvs.length ≤ sizeLine) (hd : (a == sysModules) = false) (rel : KV kvs vs) (dd : h'.DictOf (mixKind P w) a vs) :
    ObjOk P w H' h' a (.dK kvs) := ⟨z, hd, vs, rel, dd⟩
theorem d_setItem {H' : Hp} {Q : Unit → Shared → Prop} (hu : A.units + 1 < cLine) (I : Inv X pins σ H s) (g : DPut H a y v H') (ry : RelV y u) (rv : RelV v r) (h : ∀ s', Inv X pins σ H' s' → Q () s') :
    wpAny (model X.prog X.w) A (setItem (.ref a) u r) Q E s := by
  rcases g with ⟨kvs, k, e, ey, l, eH⟩ | ⟨kvs, k, b, e, ey, eb, l, eH⟩
  · subst ey eH
    obtain ⟨z, hd, vs, rel, dd⟩ := dk_of I.hok e
    have hz : vs.length ≤ sizeLine := by rw [← rel.length]; exact z
    have hl : (putK kvs k v).length ≤ sizeLine := by have := length_putK kvs k v; omega
    refine wpAny_setItem_pairs (hsz := hz) (kV_is ry) dd fun h' dd' hs => h _ ?_
    have he : ∃ q, h'.get? a = some q := let ⟨q, _, _, hq, _⟩ := dd'; ⟨q, hq⟩
    exact d_write I (by rw [e]; exact True.intro) hs he (dk_new hl hd (rel.put k rv) dd')
  · subst ey eH
    cases (show u = Value.ref b from ry)
    obtain ⟨z, hd, xs, rel, dd⟩ := dt_of I.hok e
    have hz : xs.length ≤ sizeLine := by rw [← Paired.length rel]; exact z
    have hl : (putK kvs k v).length ≤ sizeLine := by have := length_putK kvs k v; omega
    refine wpAny_setItem_heap (hsz := hz) (tupleKind_room_in1 hu) (key_of I.hok eb) dd fun h' dd' hs => h _ ?_
    obtain ⟨q, es, ep, hq, h2, h3, h4, _, h5⟩ := dd'
    refine d_write I (by rw [e]; exact True.intro) hs ⟨q, hq⟩ ⟨hl, hd, _, (rel.put k eb rv).keeps fun c ys ec => ?_, q, es, ep, hq, h2, h3, h4, h5⟩
    rw [upd_ne (ne_of ec e (fun z => nomatch z))]
    exact ec
end
section
variable {X : Cx} {pins : List (Addr × Obj)} {σ : St} {H : Hp} {s : Shared} {a : Addr} {kvs : List (Key × V)} {k : Key} {u : Value} {A : Around} {E : Value → Shared → Prop}
theorem d_clear {Q : Value → Shared → Prop} (I : Inv X pins σ H s) (e : H a = some (.dK kvs)) (h : ∀ s', Inv X pins σ (upd H a (.dK [])) s' → Q .none s') : wpAny (model X.prog X.w) A (call (.builtin "dict.clear") [.ref a]) Q E s := by
  obtain ⟨z, hd, vs, rel, dd⟩ := dk_of I.hok e
  refine call_meetsIn PySem.F.slot_dict_clear dd.typeIs PySem.F.entry_dict_clear (PySem.F.args_dict_clear_1 _) (meets_dict_clear (mixKind X.prog X.w) a) ⟨vs, dd, by rw [← rel.length]; exact z, fun h' dd' hs => h _ ?_⟩
  have he : ∃ q, h'.get? a = some q := let ⟨q, _, _, hq, _⟩ := dd'; ⟨q, hq⟩
  exact d_write (t' := s.toks) I (by rw [e]; exact True.intro) hs he (dk_new (Nat.zero_le _) hd .nil dd')
end
noncomputable def NoSl (i : Expr) : Prop := ∀ ov iv, subscripted i false ov iv = operate [ov, iv] (getItem ov iv)
theorem subD_of {prog : Program} {w : World} {A : Around} {E : Value → Shared → Prop} {s : Shared} {env : Env} {value slice : Expr} {pos : Pos} {T id : String} {Q : Value → Shared → Prop}
    (hl : typeLookup (.type T) "__getitem__" = pure (some (.builtin id))) (hs : NoSl slice)
    (h : wpAny (model prog w) A (eval value env) (fun o s₁ => wpAny (model prog w) A (eval slice env) (fun i s₂ => s₂.TypeIs o T ∧ wpAny (model prog w) A (getItem o i) Q E s₂) E s₁) E s) :
    wpAny (model prog w) A (eval (.Subscript value slice pos) env) Q E s := by
  refine Subscript_ (wpAny_mono h (fun o s₁ h₁ => wpAny_mono h₁ (fun i s₂ h₂ => ?_) fun _ _ x => x) fun _ _ x => x)
  obtain ⟨hT, h₂⟩ := h₂
  unfold subscriptTail
  refine wpAny_bind ?_
  rw [getitemInPython_of_ne hT.not_modules]
  refine wpAny_bind (wpAny_specialOf hT hl ?_)
  have fin : wpAny (model prog w) A (subscripted slice false o i) (fun r s₃ => wpAny (model prog w) A (letTemporaryGo value o r >>= fun _ => pure r) Q E s₃) E s₂ := by
    rw [hs o i]
    exact wpAny_operating (wpAny_mono h₂ (fun r s₃ h₃ => wpAny_bind (wpAny_letTemporaryGo (wpAny_pure h₃))) fun _ _ x => x)
  first
    | exact wpAny_pure (wpAny_bind fin)
    | exact wpAny_bind (wpAny_pure (wpAny_bind fin))
    | exact wpAny_bind fin
theorem dict_typeIs {X : Cx} {pins : List (Addr × Obj)} {σ : St} {H : Hp} {s : Shared} {a : Addr} {y : V} {o : Option V} (I : Inv X pins σ H s) (g : DGet H a y o) : s.TypeIs (.ref a) "dict" := by
  rcases g with ⟨kvs, k, e, _, _⟩ | ⟨kvs, k, b, e, _, _, _⟩
  · obtain ⟨_, _, vs, _, dd⟩ := dk_rd I.hok e
    exact dd.typeIs
  · obtain ⟨_, _, xs, _, dd⟩ := dt_rd I.hok e
    exact dd.typeIs
noncomputable def tDGet (td ty : TE) : TE := fun σ H Q => td σ H fun x H1 => ty σ H1 fun y H2 => ∃ a v, x = .ref a ∧ DGet H2 a y (some v) ∧ Q v H2
noncomputable def sDPut (td ty tv : TE) : TS := fun D σ H => tv σ H fun v H1 => td σ H1 fun x H2 => ty σ H2 fun y H3 => ∃ a H4, x = .ref a ∧ DPut H3 a y v H4 ∧ D.nx σ H4
section
variable {X : Cx} {o i e value : Expr} {pos pos' tpos : Pos} {td ty tv : TE}
theorem pe_dget (hu : X.A.units + 1 < cLine) (ho : PE X o td) (hi : PE X i ty) (hs : NoSl i) : PE X (.Subscript o i pos) (tDGet td ty) := by
  intro pins s σ H Q I h
  refine subD_of PySem.F.slot_dict_getitem.lookup hs (thn (ho pins s σ H _ I h) fun u s1 ⟨x, H1, I1, rx, q1⟩ => thn (hi pins s1 σ H1 _ I1 q1) fun iv s2 ⟨y, H2, I2, ry, a, v, ex, g, q2⟩ => ?_)
  subst ex
  obtain rfl : u = Value.ref a := rx
  exact ⟨dict_typeIs I2 g, d_getItem hu I2 g ry fun w' s3 I3 rw' => ⟨v, H2, I3, rw', q2⟩⟩
theorem ps_dput (hu : X.A.units + 1 < cLine) (ho : PE X o td) (hi : PE X i ty) (hv : PE X value tv) (hs : swapsWith value (some (.Subscript o i pos')) pos.line X.env = pure false) :
    PS X (.Assign [.Subscript o i pos'] value pos) (sDPut td ty tv) := by
  intro pins s σ H D I h
  refine wpAny_Assign_Subscript (thn (hv pins s σ H _ I h) fun r s1 ⟨v, H1, I1, rv, q1⟩ => thn (ho pins s1 σ H1 _ I1 q1) fun u s2 ⟨x, H2, I2, rx, q2⟩ => thn (hi pins s2 σ H2 _ I2 q2) fun iv s3 ⟨y, H3, I3, ry, a, H4, ex, g, q3⟩ => ?_) hs
  subst ex
  obtain rfl : u = Value.ref a := rx
  exact d_setItem hu I3 g ry rv fun s4 I4 => ⟨σ, H4, I4, q3⟩
end
theorem dk_empty {P : Program} {w : World} {H : Hp} (h : Heap) (hb : sysModules < h.objs.size) : ObjOk P w H (h.push { cls := .type "dict", data := .dict #[] }) h.objs.size (.dK []) :=
  ⟨Nat.zero_le _, beq_eq_false_iff_ne.mpr (Ne.symm (Nat.ne_of_lt hb)), [], .nil, Heap.DictOf.new h⟩
noncomputable def tDNewK : TE := fun _ H Q => ∀ p, H p = none → Q (.ref p) (upd H p (.dK []))
section
variable {X : Cx} {pos : Pos}
theorem pe_dnewK : PE X (.Dict [] [] pos) tDNewK := fun pins s σ H Q I h =>
  wpAny_Dict_empty ⟨.ref s.heap.objs.size, _, I.laid (a := s.heap.objs.size) (o := .dK []) (t' := s.toks) (fun _ _ q => Heap.get?_push_of_some _ q) (Nat.le_refl _) (dk_empty s.heap I.big), rfl, h _ (I.hok.fresh (Nat.le_refl _))⟩
end
noncomputable def tPairs : List (TE × TE) → St → Hp → (List (V × V) → Hp → Prop) → Prop
  | [], _, H, Q => Q [] H
  | (tk, tv) :: r, σ, H, Q => tk σ H fun x H1 => tv σ H1 fun y H2 => tPairs r σ H2 fun ps H3 => Q ((x, y) :: ps) H3
noncomputable abbrev VV : List (V × V) → List (Value × Value) → Prop := Paired fun p q => RelV p.1 q.1 ∧ RelV p.2 q.2
noncomputable def PPs (X : Cx) (pos : Pos) (keys : List (Option Expr)) (values : List Expr) (trs : List (TE × TE)) : Prop :=
  ∀ (pins : List (Addr × Obj)) (s : Shared) (σ : St) (H : Hp) (Q : List (V × V) → Hp → Prop), Inv X pins σ H s → tPairs trs σ H Q →
    wpAny (model X.prog X.w) X.A (evalPairs (pairTrees keys values X.env pos)) (fun vs s' => ∃ ps H', Inv X pins σ H' s' ∧ VV ps vs ∧ Q ps H') X.xe s
theorem pps_nil {X : Cx} {pos : Pos} : PPs X pos [] [] [] := fun pins s σ H Q I h => pairTrees_nil_walk ⟨[], H, I, .nil, h⟩
theorem pps_cons {X : Cx} {pos : Pos} {k v : Expr} {ks : List (Option Expr)} {vs : List Expr} {tk tv : TE} {trs : List (TE × TE)} (hk : PE X k tk) (hv : PE X v tv) (hr : PPs X pos ks vs trs) :
    PPs X pos (some k :: ks) (v :: vs) ((tk, tv) :: trs) := fun pins s σ H Q I h =>
  pairTrees_cons_walk (thn (hk pins s σ H _ I h) fun u s1 ⟨x, H1, I1, rx, q1⟩ => thn (hv pins s1 σ H1 _ I1 q1) fun w2 s2 ⟨y, H2, I2, ry, q2⟩ =>
    thn (hr pins s2 σ H2 _ I2 q2) fun ws s3 ⟨ps, H3, I3, rel, q3⟩ => ⟨(x, y) :: ps, H3, I3, .cons ⟨rx, ry⟩ rel, q3⟩)
noncomputable def mergeK (kvs more : List (Key × V)) : List (Key × V) := more.foldl (fun acc kv => putK acc kv.1 kv.2) kvs
theorem KV.merge : ∀ {more : List (Key × V)} {rs : List (Key × Value)} {kvs : List (Key × V)} {vs : List (Key × Value)}, KV more rs → KV kvs vs → KV (mergeK kvs more) (merged vs rs) := by
  intro more rs kvs vs r
  unfold KV at r
  induction r generalizing kvs vs with
  | nil => intro q; exact q
  | @cons p q ps qs h t ih =>
    intro r0
    have e : KV (putK kvs p.1 p.2) (stored vs q.1 q.2) := by
      have := r0.put p.1 h.2
      rw [← h.1]; exact this
    exact ih e
theorem length_mergeK : ∀ (more kvs : List (Key × V)), (mergeK kvs more).length ≤ kvs.length + more.length
  | [], kvs => by show kvs.length ≤ kvs.length + 0; omega
  | p :: r, kvs => by
    have h1 := length_mergeK r (putK kvs p.1 p.2)
    have h2 := length_putK kvs p.1 p.2
    show (mergeK (putK kvs p.1 p.2) r).length ≤ _
    rw [List.length_cons]; omega
theorem carries_of {P : Program} {w : World} : ∀ {kvs : List (Key × V)} {ws : List (Value × Value)}, VV (kvs.map fun kv => (kV kv.1, kv.2)) ws → ∃ rs, Carries (mixKind P w) ws rs ∧ KV kvs rs
  | [], _, r => by rw [List.map_nil] at r; cases r; exact ⟨[], True.intro, .nil⟩
  | p :: kvs, _, r => by
    rw [List.map_cons] at r
    cases r with
    | @cons a b as bs h t =>
      obtain ⟨rs, c, q⟩ := carries_of (P := P) (w := w) t
      obtain ⟨b1, b2⟩ := b
      exact ⟨(p.1, b2) :: rs, ⟨kV_is h.1, rfl, c⟩, .cons ⟨rfl, h.2⟩ q⟩
noncomputable def tDisp (trs : List (TE × TE)) : TE := fun σ H Q => ∀ p, H p = none → tPairs trs σ (upd H p (.dK [])) fun ps H2 => H2 p = some (.dK []) ∧ ∃ kvs : List (Key × V), ps = kvs.map (fun kv => (kV kv.1, kv.2)) ∧ kvs.length ≤ 15 ∧ Q (.ref p) (upd H2 p (.dK (mergeK [] kvs)))
theorem pe_disp {X : Cx} {pos : Pos} {keys : List (Option Expr)} {values : List Expr} {trs : List (TE × TE)} (h : PPs X pos keys values trs) (hall : keys.all (·.isSome) = true) (hl : keys.length = values.length) (h0 : keys ≠ [])
    (h15 : keys.length ≤ 15) : PE X (.Dict keys values pos) (tDisp trs) := by
  intro pins s σ H Q I q
  have hn := I.hok.fresh (Nat.le_refl s.heap.objs.size)
  have I1 := I.laid (a := s.heap.objs.size) (o := .dK []) (h' := s.heap.push { cls := .type "dict", data := .dict #[] }) (t' := s.toks) (fun _ _ q => Heap.get?_push_of_some _ q) (Nat.le_refl _) (dk_empty s.heap I.big)
  refine wpAny_Dict_walk (knd := mixKind X.prog X.w) hall hl h0 h15 (thn (h pins _ σ _ _ I1 (q _ hn)) fun ws s2 ⟨ps, H2, I2, rel, e, kvs, ep, lk, q2⟩ => ?_)
  subst ep
  obtain ⟨rs, c, rk⟩ := carries_of (P := X.prog) (w := X.w) rel
  obtain ⟨z, hd, vs0, r0, dd⟩ := dk_of I2.hok e
  cases r0
  refine ⟨rs, c, dd, fun h' dd' hs => ⟨.ref s.heap.objs.size, _, ?_, rfl, q2⟩⟩
  have hz : (mergeK [] kvs).length ≤ sizeLine := by
    have h1 := length_mergeK kvs []
    rw [List.length_nil] at h1
    rw [sizeLine_eq]; omega
  have he : ∃ q, h'.get? s.heap.objs.size = some q := let ⟨q, _, _, hq, _⟩ := dd'; ⟨q, hq⟩
  exact d_write I2 (by rw [e]; exact True.intro) hs he (dk_new hz hd (rk.merge .nil) dd')
structure M2 (X : Cx) (o : Expr) (m : Str) (apos : Pos) (e f : Expr) (cpos : Pos) : Prop where
  base : attributeBase o m X.env (eval o X.env) = eval o X.env
  few : ((backTo cpos (starEach [e, f] X.env)).all (fun x => !x.1) && (backToKw cpos (keywordEach [] X.env)).all (fun x => x.1.isSome)
    && decide (([e, f] : List Expr).length + ([] : List Keyword).length + (if ([] : List Keyword).isEmpty then 0 else 1) < 30)) = true
  line : (apos.endLine == cpos.line) = true
  trees : backTo cpos (starEach [e, f] X.env) = [(false, eval e X.env), (false, eval f X.env)]
noncomputable def IsD (H : Hp) (a : Addr) : Prop := (∃ kvs, Rd H a (.dK kvs)) ∨ ∃ kvs, Rd H a (.dT kvs)
theorem isD_at {X : Cx} {pins : List (Addr × Obj)} {σ : St} {H : Hp} {s : Shared} {a : Addr} (I : Inv X pins σ H s) (d : IsD H a) :
    s.TypeIs (.ref a) "dict" ∧ (∀ b, Value.ref a = .ref b → ∃ ob, s.heap.get? b = some ob ∧ ob.dict = none) ∧ (a == sysModules) = false := by
  rcases d with ⟨kvs, e⟩ | ⟨kvs, e⟩
  · obtain ⟨_, hd, vs, _, dd⟩ := dk_rd I.hok e
    refine ⟨dd.typeIs, fun b q => ?_, hd⟩
    cases q
    obtain ⟨ob, _, _, h1, h2, _⟩ := dd
    exact ⟨ob, h1, h2.2.1⟩
  · obtain ⟨_, hd, xs, _, dd⟩ := dt_rd I.hok e
    refine ⟨dd.typeIs, fun b q => ?_, hd⟩
    cases q
    obtain ⟨ob, _, _, h1, h2, _⟩ := dd
    exact ⟨ob, h1, h2.2.1⟩
section
variable {X : Cx} {pins : List (Addr × Obj)} {σ : St} {H : Hp} {s : Shared} {a : Addr} {y d : V} {u r : Value} {o : Option V} {A : Around} {E : Value → Shared → Prop}
theorem d_get2 {Q : Value → Shared → Prop} (hu : A.units + 1 < cLine) (I : Inv X pins σ H s) (g : DGet H a y o) (ry : RelV y u) (rd : RelV d r) (h : ∀ w' s', Inv X pins σ H s' → RelV (o.getD d) w' → Q w' s') :
    wpAny (model X.prog X.w) A (call (.builtin "dict.get") [.ref a, u, r]) Q E s := by
  rcases g with ⟨kvs, k, e, ey, l⟩ | ⟨kvs, k, b, e, ey, eb, l⟩
  · subst ey
    obtain ⟨z, hd, vs, rel, dd⟩ := dk_rd I.hok e
    refine call_meetsIn PySem.F.slot_dict_get dd.typeIs PySem.F.entry_dict_get (PySem.F.args_dict_get_3 _ _ _) (meets_dict_get_default (mixKind X.prog X.w) a (kV_is ry) hd r) ⟨_, dd.mapOf, h _ _ (I.tok _) ?_⟩
    rw [l]
    exact (rel.val k).getD rd
  · subst ey
    cases (show u = Value.ref b from ry)
    obtain ⟨z, hd, xs, rel, dd⟩ := dt_rd I.hok e
    refine call_meetsIn PySem.F.slot_dict_get dd.typeIs PySem.F.entry_dict_get (PySem.F.args_dict_get_3 _ _ _) (meetsH_dict_get_default (tupleKind (mixKind X.prog X.w)) a b hd r) ⟨tupleKind_room_in1 hu, k, xs, key_of I.hok eb, dd, h _ _ (I.tok _) ?_⟩
    rw [l]
    exact (rel.val k).getD rd
end
noncomputable def tDGet2 (td ty tx : TE) : TE := fun σ H Q => td σ H fun x H1 => ∃ a, x = .ref a ∧ IsD H1 a ∧ ty σ H1 fun y H2 => tx σ H2 fun z H3 => ∃ o, DGet H3 a y o ∧ Q (o.getD z) H3
section
variable {X : Cx} {o e f : Expr} {apos cpos : Pos} {td ty tx : TE}
theorem pe_dget2 (hu : X.A.units + 1 < cLine) (ho : PE X o td) (he : PE X e ty) (hf : PE X f tx) (m : M2 X o "get" apos e f cpos) : PE X (.Call (.Attribute o "get" apos) [e, f] [] cpos) (tDGet2 td ty tx) := by
  intro pins s σ H Q I h
  refine wpAny_Call_method m.base m.few m.line PySem.F.plainAttrs_dict PySem.F.slot_dict_get PySem.F.type_dict_get (thn (ho pins s σ H _ I h) fun u s1 ⟨x, H1, I1, rx, a, ex, d, q1⟩ => ?_)
  subst ex
  obtain rfl : u = Value.ref a := rx
  obtain ⟨t1, t2, _⟩ := isD_at I1 d
  refine ⟨t1, t2, ?_⟩
  rw [m.trees]
  refine Calls.callWith_builtin rfl (Calls.evalArgs_plain (Calls.spliced_cons (thn (he pins s1 σ H1 _ I1 q1) fun iv s2 ⟨y, H2, I2, ry, q2⟩ =>
    Calls.spliced_cons (thn (hf pins s2 σ H2 _ I2 q2) fun fv s3 ⟨z, H3, I3, rz, ov, g, q3⟩ => Calls.spliced_nil ?_))))
  exact d_get2 hu I3 g ry rz fun w' s4 I4 rw' => ⟨_, H3, I4, rw', q3⟩
end
section
variable {X : Cx} {pins : List (Addr × Obj)} {σ : St} {H : Hp} {s : Shared} {a : Addr} {kvs : List (Key × V)} {A : Around} {E : Value → Shared → Prop}
theorem d_copyOf {Q : Value → Shared → Prop} (I : Inv X pins σ H s) (e : Rd H a (.dK kvs)) (h : ∀ p s', H p = none → Inv X pins σ (upd H p (.dK kvs)) s' → Q (.ref p) s') : wpAny (model X.prog X.w) A (call (.type "dict") [.ref a]) Q E s := by
  obtain ⟨z, hd, vs, rel, dd⟩ := dk_rd I.hok e
  refine kt_call_dict hd dd (by rw [← rel.length]; exact z) fun h' dd' hs => ?_
  refine h _ _ (I.hok.fresh (Nat.le_refl _)) (I.laid (a := s.heap.objs.size) (o := .dK kvs) (t' := s.toks) (fun b q hq => ?_) (Nat.le_refl _) (dk_new z (beq_eq_false_iff_ne.mpr (Ne.symm (Nat.ne_of_lt I.big))) rel dd'))
  exact (hs.2 b (Nat.ne_of_lt (Heap.lt_size hq))).trans (Heap.get?_push_of_some _ hq)
end
section
variable {X : Cx} {pins : List (Addr × Obj)} {σ : St} {H : Hp} {s : Shared} {a : Addr} {y : V} {u : Value} {A : Around} {E : Value → Shared → Prop}
end
end L2
namespace Att
open PySem PySem.W PySem.Calls PyProof.Rows
theorem ints_of_wellAll {P : Params} {h : Heap} : ∀ (ns : List Int) (vs : List Value), WellAll P h vs (ns.map WData.int) → IntsAre vs ns := by
  intro ns
  induction ns with
  | nil =>
    intro vs w
    rw [List.map_nil] at w
    cases w
    exact .nil
  | cons n ns ih =>
    intro vs w
    rw [List.map_cons] at w
    cases w with
    | cons a b =>
      cases a
      exact .cons _ _ (ih _ b)
theorem script_of {l : OpenLaw} {n : Nat} (hn : l.most = some n) {P : Params} {h : Heap} {args : List WData} {vals : List Value}
    (hpre : l.row.toRowW.claim.pre args = true) (hwl : WellAll P h vals args) :
    ∃ a vs ns, vals = [Value.ref a] ∧ args = [WData.list (ns.map WData.int)] ∧ h.get? a = some { cls := .type "list", data := .seq vs.toArray } ∧ IntsAre vs ns ∧ ns.length ≤ n := by
  have hsh : WShape.hasAll [] args [.list .int] = true := (pre_splitW hpre).1
  have hc : l.pre.holds [] { args := args } = true := (pre_splitW hpre).2
  obtain ⟨d, r, rfl, h1, h2⟩ := hasAllW_cons hsh
  obtain rfl := hasAllW_nil h2
  obtain ⟨xs, rfl, h3⟩ := hasW_list h1
  obtain ⟨ns, rfl⟩ := items_int h3
  have hlen : ns.length ≤ n := by
    unfold OpenLaw.pre at hc
    have h4 : (WTm.not (.lt (.lit (.int (n : Int))) (.len (.arg 0)))).holds [] { args := [.list (ns.map .int)] } = true := by
      have h4 := (holds_andW hc).1
      rw [hn] at h4
      exact h4
    have h5 := condW_of h4 (w_not (w_lt w_lit (w_len_list (w_arg rfl))))
    rw [List.length_map] at h5
    refine Nat.le_of_not_lt fun q => ?_
    have q' : (n : Int) < ((ns.length : Nat) : Int) := by omega
    first
      | (rw [decide_eq_true q'] at h5; exact absurd h5 (by decide))
      | (simp at h5; omega)
  cases hwl with
  | cons w1 w2 =>
    cases w2
    cases w1 with
    | list ho hall => exact ⟨_, _, ns, rfl, rfl, ho, ints_of_wellAll ns _ hall, hlen⟩
theorem post_true (l : OpenLaw) (args : List WData) : l.row.toRowW.claim.post args (.bool true) args = true :=
  postW_of (r := l.row.toRowW) (X := (true == true))
    (show WShape.has [] (.bool true) .bool = true by first | rfl | decide | simp [WShape.has, WShape.arms, WShape.armsAll])
    (show (WTm.eq .res (.lit (.bool true))).value [] { args := args, res := some (.bool true), after := args } = some (.bool (true == true)) from w_eq_bool (w_res rfl) w_lit) rfl
section
variable {prog : Program} {w : World} {A : Around} {E : Value → Shared → Prop} {s : Shared} {K : Frag}
end
end Att
namespace L2
open PySem PySem.Spec PyProof.Rows
theorem vals_ints : ∀ {vs : List Value} {ns : List Int}, IntsAre vs ns → Vals (ns.map V.int) vs
  | _, _, .nil => .nil
  | _, _, .cons n t h => .cons ⟨t, rfl⟩ (vals_ints h)
noncomputable def Only (H : Hp) : Prop := ∀ b, H b = none ∨ ∃ o xs, H b = some (.frz o (.lst xs))
theorem law_call {P : Program} {w : World} {K : PySem.W.Frag} {mg mb : Str → Option Value} {CX : CXT} {k : Nat} {fa a : Addr} {fd : FuncData} {x : Str} {sp : Sp} {s₁ : Shared} {vs : List Value} {ns : List Int}
    (KX : K.In s₁.heap) (hns : s₁.heap.Ns mainGlobals mg) (hb : s₁.heap.Ns builtinsNs mb) (hbb : ∀ x : Str, x ≠ "__name__" → mb x = bootBuiltins x) (hlim : s₁.heap.NoLimit) (hg : s₁.gens = #[])
    (ha : s₁.heap.get? a = some { cls := .type "list", data := .seq vs.toArray }) (hi : IntsAre vs ns) (hl : ns.length ≤ sizeLine) (hr : Room k callerA)
    (F : ∀ base : Heap, K.In base → base.Ns mainGlobals mg → FnOk P w K mg base CX k fa fd [x] sp) (hbind : ∀ (s : Shared) (u : Value), BindsTo s fd ⟨[u], []⟩ [(x, u)])
    (hsp : ∀ H : Hp, Only H → SqL K H a (ns.map V.int) → sp [.ref a] H (fun v _ => v = .bl true) fun _ _ _ => False)
    (hCX : ∀ H e s', CX [] H s₁ (fun _ _ _ => False) e s' → False) :
    codeAny (model P w) callerA (.call (.ref fa) ⟨[.ref a], []⟩) (fun r s' => r = .ok (.ret (.bool true)) ∧ OldK s₁.heap s'.heap ∧ s'.os = s₁.os ∧ AllBare s'.gens) s₁ := by
  have rv := vals_ints hi
  have lenV := hi.length
  have core : ∀ H : Hp, Only H → SqL K H a (ns.map V.int) → HOk P w H s₁.heap → (∀ b, H b ≠ none → b = a) → (H a ≠ none → K.lookup a = none) →
      codeAny (model P w) callerA (.call (.ref fa) ⟨[.ref a], []⟩) (fun r s' => r = .ok (.ret (.bool true)) ∧ OldK s₁.heap s'.heap ∧ s'.os = s₁.os ∧ AllBare s'.gens) s₁ := by
    intro H hO hS hok hA hK
    have base_of : ∀ {b : Addr} {o : Obj}, s₁.heap.get? b = some o → H b = none → (hidT s₁.heap H).get? b = some o := fun e n => hidT_get e n
    have noA : ∀ {b : Addr} {o : Obj} {es : Array DictEntry} {ep : Nat}, s₁.heap.get? b = some o → o.data = .dict es ep → H b = none := fun {b o es ep} e d => by
      cases q : H b with
      | none => rfl
      | some u =>
        have e' : b = a := hA b (by rw [q]; simp)
        subst e'
        rw [ha] at e; cases e
        have d' : Data.seq vs.toArray _ = Data.dict es ep := d
        cases d'
    have nsK : ∀ {b : Addr} {m : Str → Option Value}, s₁.heap.Ns b m → (hidT s₁.heap H).Ns b m := fun {b m} ⟨o, es, ep, e, d, r⟩ => ⟨o, es, ep, base_of e (noA e d), d, r⟩
    have hKb : K.In (hidT s₁.heap H) := fun b o e => base_of (KX b o e) (by
      cases q : H b with
      | none => rfl
      | some u =>
        have e' : b = a := hA b (by rw [q]; simp)
        subst e'
        rw [hK (by rw [q]; simp)] at e; cases e)
    have hM : Mod K mg (hidT s₁.heap H) := ⟨hKb, nsK hns, ⟨mb, nsK hb, hbb⟩, let ⟨mc, h1, h2⟩ := hlim; ⟨mc, nsK h1, h2⟩⟩
    have e0 : Env0 P w K mg (hidT s₁.heap H) callerA [] s₁ H := ⟨rfl, hM, fun b o e => of_hidT e, Nat.le_of_eq (hidT_size _ _), trivial, fun b hb => absurd (show b ∈ ([] : List Addr) from hb) (by simp), hok, .of_eq hg⟩
    refine codeAny_mono ((F _ hKb (nsK hns)).run callerA [] s₁ H ⟨[.ref a], []⟩ [.ref a] [.ref a] _ _ hr e0 (hbind s₁ (.ref a)) (.cons rfl .nil) (hsp H hO hS)) fun r s' h => ?_
    cases r with
    | error e => exact (hCX H e s' h).elim
    | ok fl =>
      cases fl with
      | next => exact False.elim h
      | brk => exact False.elim h
      | cont => exact False.elim h
      | ret u =>
        obtain ⟨v, H', os, bare, un, hok', r', q⟩ := h
        have q' : v = .bl true := q
        subst q'
        obtain rfl : u = Value.bool true := r'
        refine ⟨rfl, OldK.of_keep fun b o e => ?_, os, bare⟩
        cases q : H b with
        | none => exact un.keep b o e q (by intro z; exact absurd (show b ∈ ([] : List Addr) from z) (by simp)) (by simp)
        | some u =>
          rcases hO b with z | ⟨ob, xs, z⟩
          · rw [q] at z; cases z
          · have z2 := un.frzs b ob _ z
            obtain ⟨e1, _⟩ := hok b _ z
            obtain ⟨e2, _⟩ := hok' b _ z2
            rw [e] at e1; cases e1
            exact e2
  cases hk : K.lookup a with
  | some o =>
    have e := KX a o hk
    rw [ha] at e
    cases e
    refine core (fun _ => none) (fun _ => .inl rfl) (.inr ⟨_, vs.toArray, _, hk, rfl, rfl, rfl, by rw [List.size_toArray, lenV]; exact hl, by simpa using rv⟩) (fun b u z => by have z' : (none : Option HO) = some u := z; cases z') (fun b z => absurd rfl z) fun z => absurd rfl z
  | none =>
    refine core (fun b => if b = a then some (.frz { cls := .type "list", data := .seq vs.toArray } (.lst (ns.map V.int))) else none) (fun b => ?_) (.inl (.inr ⟨{ cls := .type "list", data := .seq vs.toArray }, if_pos rfl⟩)) (fun b u z => ?_) (fun b z => ?_) fun _ => hk
    · by_cases hb : b = a
      · exact .inr ⟨_, _, if_pos hb⟩
      · exact .inl (if_neg hb)
    · by_cases hb : b = a
      · have z' := (if_pos hb).symm.trans z
        cases z'
        subst hb
        exact ⟨ha, by rw [List.length_map]; exact hl, vs, _, rv, ha⟩
      · have z' := (if_neg hb).symm.trans z
        cases z'
    · by_cases hb : b = a
      · exact hb
      · exact absurd (if_neg hb) z
end L2
namespace L2
open PySem PySem.Spec PyProof.Rows
noncomputable abbrev KOf {K : PySem.W.Frag} {h : Heap} (_ : K.In h) : PySem.W.Frag := K
end L2
namespace L2
open PySem PySem.Spec PyProof.Rows
noncomputable def inClass (s : Stmt) (j : Nat) : Stmt := match s with
  | .ClassDef _ _ _ body _ _ _ _ _ _ _ => body.getD j (.Pass ⟨0, 0, 0, 0⟩)
  | _ => .Pass ⟨0, 0, 0, 0⟩
noncomputable def defArgs (s : Stmt) : Arguments := match s with
  | .FunctionDef _ a _ _ _ _ _ _ _ _ => a
  | _ => { posonlyargs := [], args := [], vararg := none, kwonlyargs := [], kw_defaults := [], kwarg := none, defaults := [] }
noncomputable def defBody (s : Stmt) : List Stmt := match s with
  | .FunctionDef _ _ b _ _ _ _ _ _ _ => b
  | _ => []
noncomputable def defScope (s : Stmt) : Scope := match s with
  | .FunctionDef _ _ _ _ _ _ sc _ _ _ => sc
  | _ => { kind := .function, names := [], isGenerator := false, isCoroutine := false }
noncomputable abbrev CX0 : CXT := fun _ _ _ _ _ _ => False
noncomputable abbrev E0 : XK := fun _ _ _ => False
theorem pass0 {X : Cx} : Passes CX0 X E0 := fun _ _ _ _ _ _ _ h => h.elim
structure Fun (K : PySem.W.Frag) (x qual : Str) (st : Stmt) (f : Addr) (fd : FuncData) : Prop where
  ex : ∃ (oc : Value) (od : Option Addr) (kV doc pm : Value) (an : Option Addr) (cdv ct : Value) (osl : Array (Option Value)),
    fd = PySem.W.fnOf x qual (defArgs st) (defBody st) (defScope st) .none kV doc pm an cdv ct ∧ K.lookup f = some ⟨oc, od, .func fd, osl⟩ ∧ PySem.W.codeIn K cdv qual = true
  kp : PySem.W.keepIn K (.ref f) = true
section
variable {P : Program} {w : World} {K : PySem.W.Frag} {mg : Str → Option Value} {base : Heap}
theorem Fun.ok {x qual : Str} {st : Stmt} {f : Addr} {fd : FuncData} {N ps : List Str} {k : Nat} {sp : Sp} (F : Fun K x qual st f fd) (S : FnScope N ps (defScope st)) (len : ∀ vs H Q E, sp vs H Q E → vs.length = ps.length)
    (hbody : ∀ (cdv : Value) (A : Around) (outer : List Env) (s : Shared) (H : Hp) (vs : List V) (Q : VK) (E : XK), Room k (A.deeper (envOfC qual (defScope st) s.heap.objs.size f cdv)) → sp vs H Q E →
      ∃ t, PSs (cxOf CX0 P w K mg base N qual (defScope st) f cdv A outer s H E).nox (defBody st) t ∧ t { nx := fun _ H' => Q .non H', rt := Q } (start N vs) H) : FnOk P w K mg base CX0 (k + 1) f fd ps sp := by
  obtain ⟨oc, od, kV, doc, pm, an, cdv, ct, osl, rfl, lk, hcd⟩ := F.ex
  refine fn_of lk hcd S len fun A outer s H vs Q E hr hsp => ?_
  obtain ⟨t, h, q⟩ := hbody cdv A outer s H vs Q E hr hsp
  exact ⟨t, h.nox, q⟩
theorem Fun.binds {x qual : Str} {st : Stmt} {f : Addr} {fd : FuncData} {ps : List Str} (F : Fun K x qual st f fd)
    (h : ∀ (kV doc pm : Value) (an : Option Addr) (cdv ct : Value) (us : List Value), us.length = ps.length → bindArgs (PySem.W.fnOf x qual (defArgs st) (defBody st) (defScope st) .none kV doc pm an cdv ct) ⟨us, []⟩ = pure (ps.zip us)) : Binds K fd ps [] := by
  obtain ⟨oc, od, kV, doc, pm, an, cdv, ct, osl, rfl, lk, hcd⟩ := F.ex
  exact .all (h kV doc pm an cdv ct)
theorem fun_mk {x qual : Str} {st : Stmt} {f : Addr} {oc : Value} {od an : Option Addr} {osl : Array (Option Value)} {kV doc pm cdv ct : Value} (l : K.lookup f = some ⟨oc, od, .func (PySem.W.fnOf x qual (defArgs st) (defBody st) (defScope st) .none kV doc pm an cdv ct), osl⟩)
    (c : PySem.W.codeIn K cdv qual = true) (k : PySem.W.keepIn K (.ref f) = true) : Fun K x qual st f (PySem.W.fnOf x qual (defArgs st) (defBody st) (defScope st) .none kV doc pm an cdv ct) := ⟨⟨oc, od, kV, doc, pm, an, cdv, ct, osl, rfl, l, c⟩, k⟩
end
theorem hu_of {A : Around} {k : Nat} (hr : Room k A) : A.units + 1 < cLine := Nat.lt_of_le_of_lt (Nat.add_le_add_left (by decide : 1 ≤ 64) _) hr.units
section
variable {X : Cx}
end
theorem iteF {A B : Prop} (h : B) : if false = true then A else B := by
  rw [if_neg Bool.false_ne_true]
  exact h
theorem iteT {A B : Prop} (h : A) : if true = true then A else B := by
  rw [if_pos rfl]
  exact h
noncomputable def Same (H H' : Hp) : Prop := ∀ b o, H b = some o → H' b = some o
theorem Same.refl (H : Hp) : Same H H := fun _ _ h => h
theorem Same.trans {H H1 H2 : Hp} (a : Same H H1) (b : Same H1 H2) : Same H H2 := fun c o h => b c o (a c o h)
theorem Same.free {H H' : Hp} (e : Same H H') {l : Addr} (h : H' l = Option.none) : H l = Option.none := by
  cases q : H l with
  | none => rfl
  | some o =>
    rw [e l o q] at h
    cases h
theorem Same.seq {K : PySem.W.Frag} {H H' : Hp} {a : Addr} {xs : List V} (e : Same H H') (h : SqL K H a xs) : SqL K H' a xs := by
  rcases h with (h | ⟨o, h⟩) | h
  · exact .inl (.inl (e _ _ h))
  · exact .inl (.inr ⟨o, e _ _ h⟩)
  · exact .inr h
section
variable {X : Cx}
end
section
variable {κ : Type} [DecidableEq κ]
end
end L2
set_option Elab.async false
set_option linter.all false
set_option maxRecDepth 100000
set_option maxHeartbeats 4000000
namespace L2
open PySem PySem.Spec PyProof.Rows
noncomputable def clOf (env : Env) : List (Str × NameKind) → List (Str × Addr) → List (Str × Addr)
  | [], acc => acc
  | (n, k) :: r, acc => if k = .free then clOf env r ((n, (env.cells.lookup n).getD 0) :: acc) else clOf env r acc
theorem forIn_cl {env : Env} (f : (Str × NameKind) → List (Str × Addr) → Sem (ForInStep (List (Str × Addr))))
    (h1 : ∀ n r c, env.cells.lookup n = some c → f (n, .free) r = pure (.yield ((n, c) :: r))) (h2 : ∀ n k r, k ≠ .free → f (n, k) r = pure (.yield r)) :
    ∀ (l : List (Str × NameKind)) (acc : List (Str × Addr)), (∀ y ∈ l, y.2 = .free → ∃ c, env.cells.lookup y.1 = some c) → forIn l acc f = pure (clOf env l acc)
  | [], acc, _ => by rw [List.forIn_nil]; rfl
  | (n, k) :: r, acc, h => by
    have hr : ∀ y ∈ r, y.2 = .free → ∃ c, env.cells.lookup y.1 = some c := fun y hy => h y (List.mem_cons_of_mem _ hy)
    rw [List.forIn_cons]
    by_cases hk : k = .free
    · subst hk
      obtain ⟨c, hc⟩ := h _ List.mem_cons_self rfl
      have hc : env.cells.lookup n = some c := hc
      rw [h1 n acc c hc]
      have ih := forIn_cl f h1 h2 r ((n, c) :: acc) hr
      show (forIn r ((n, c) :: acc) f) = _
      rw [ih]
      unfold clOf
      rw [if_pos rfl, hc]
      rw [← clOf.eq_def]
      rfl
    · rw [h2 n k acc hk]
      have ih := forIn_cl f h1 h2 r acc hr
      show (forIn r acc f) = _
      rw [ih]
      conv => rhs; unfold clOf
      rw [if_neg hk]
theorem closure_of {scope : Scope} {env : Env} (h : ∀ y ∈ scope.names, y.2 = .free → ∃ c, env.cells.lookup y.1 = some c) : closureFor scope env = pure (clOf env scope.names []) := by
  unfold closureFor
  have e := forIn_cl (env := env) (fun x r => if x.2 == NameKind.free then do let c ← cellOf env x.1; pure (ForInStep.yield ((x.1, c) :: r)) else pure (ForInStep.yield r))
    (fun n r c hc => by
      have e : cellOf env n = pure c := by unfold cellOf; rw [hc]
      show (if (NameKind.free == NameKind.free) = true then _ else _) = _
      rw [if_pos (by decide), e]
      rfl)
    (fun n k r hk => by
      show (if (k == NameKind.free) = true then _ else _) = _
      rw [if_neg (by intro z; exact hk (eq_of_beq z))]) scope.names [] h
  exact (congrArg (fun m => m >>= fun cs => (pure cs : Sem (List (Str × Addr)))) e)
theorem clOf_mem {env : Env} : ∀ (l : List (Str × NameKind)) (acc : List (Str × Addr)) (y : Str) (c : Addr), (∀ y ∈ l, y.2 = .free → ∃ c, env.cells.lookup y.1 = some c) → (∀ y c, acc.lookup y = some c → env.cells.lookup y = some c) →
    (clOf env l acc).lookup y = some c → env.cells.lookup y = some c
  | [], acc, y, c, _, ha, e => ha y c e
  | (n, k) :: r, acc, y, c, h, ha, e => by
    have hr : ∀ y ∈ r, y.2 = .free → ∃ c, env.cells.lookup y.1 = some c := fun y hy => h y (List.mem_cons_of_mem _ hy)
    unfold clOf at e
    by_cases hk : k = .free
    · rw [if_pos hk] at e
      refine clOf_mem r _ y c hr (fun z d q => ?_) e
      rw [List.lookup_cons] at q
      cases hz : z == n with
      | true =>
        rw [hz] at q
        have q' : (env.cells.lookup n).getD 0 = d := Option.some.inj q
        obtain ⟨c', hc'⟩ := h _ List.mem_cons_self hk
        have hc' : env.cells.lookup n = some c' := hc'
        rw [hc'] at q'
        have q' : c' = d := q'
        rw [eq_of_beq hz, hc', q']
      | false =>
        rw [hz] at q
        exact ha z d q
    · rw [if_neg hk] at e
      exact clOf_mem r acc y c hr ha e
theorem clOf_acc {env : Env} : ∀ (l : List (Str × NameKind)) (acc : List (Str × Addr)) (y : Str), (∃ c, acc.lookup y = some c) → ∃ c, (clOf env l acc).lookup y = some c
  | [], _, _, h => h
  | (n, k) :: r, acc, y, h => by
    unfold clOf
    by_cases hk : k = .free
    · rw [if_pos hk]
      refine clOf_acc r _ y ?_
      rw [List.lookup_cons]
      cases hz : y == n with
      | true => exact ⟨_, rfl⟩
      | false => exact h
    · rw [if_neg hk]
      exact clOf_acc r acc y h
theorem clOf_has {env : Env} : ∀ (l : List (Str × NameKind)) (acc : List (Str × Addr)) (y : Str), (y, NameKind.free) ∈ l → ∃ c, (clOf env l acc).lookup y = some c
  | [], _, _, h => by simp at h
  | (n, k) :: r, acc, y, h => by
    unfold clOf
    by_cases hk : k = .free
    · rw [if_pos hk]
      rcases List.mem_cons.mp h with e | e
      · refine clOf_acc r _ y ?_
        have e1 : y = n := congrArg Prod.fst e
        rw [List.lookup_cons, e1]
        simp
      · exact clOf_has r _ y e
    · rw [if_neg hk]
      rcases List.mem_cons.mp h with e | e
      · exact absurd (congrArg Prod.snd e).symm hk
      · exact clOf_has r acc y e
theorem relabel_lookup (scope : Scope) (env : Env) (y : Str) : (relabel scope env).names.lookup y = (scope.names.lookup y).map fun k => if (k == NameKind.free && env.scope.kind == .function && env.kindOf y == some .cell) = true then .cell else k := by
  show (scope.names.map _).lookup y = _
  induction scope.names with
  | nil => rfl
  | cons p r ih =>
    obtain ⟨n, k⟩ := p
    rw [List.map_cons, List.lookup_cons (a := y) (k := n) (b := k)]
    cases hz : y == n with
    | true =>
      have e : y = n := eq_of_beq hz
      subst e
      show List.lookup y ((if (k == NameKind.free && env.scope.kind == .function && env.kindOf y == some .cell) = true then (y, NameKind.cell) else (y, k)) :: _) = some (if _ then _ else _)
      by_cases hc : (k == NameKind.free && env.scope.kind == .function && env.kindOf y == some .cell) = true
      · rw [if_pos hc, if_pos hc]; simp
      · rw [if_neg hc, if_neg hc]; simp
    | false =>
      show List.lookup y ((if (k == NameKind.free && env.scope.kind == .function && env.kindOf n == some .cell) = true then (n, NameKind.cell) else (n, k)) :: _) = _
      by_cases hc : (k == NameKind.free && env.scope.kind == .function && env.kindOf n == some .cell) = true
      · rw [if_pos hc, List.lookup_cons, hz]; exact ih
      · rw [if_neg hc, List.lookup_cons, hz]; exact ih
noncomputable def cxComp (X : Cx) (scope : Scope) (x : Str) (N' : List Str) (C : Addr) (s : Shared) (H : Hp) (fp : List Addr) (pn : List (Addr × Obj)) : Cx where
  prog := X.prog
  w := X.w
  K := X.K
  mg := X.mg
  base := X.base
  A := X.A
  N := x :: N'
  s₀ := s
  H₀ := H
  env := compEnvC scope (clOf X.env scope.names []) C X.env
  outer := X.stack
  stack := X.stack
  ex := fp
  fn := fun _ => false
  calm := X.calm
  pn := pn
  xe := fun _ _ => False
section
variable {X : Cx} {pins : List (Addr × Obj)} {σ : St} {H : Hp} {s : Shared}
structure CompSc (X : Cx) (scope : Scope) (x : Str) (N' : List Str) : Prop where
  loc : scope.names.lookup x = some .local
  nocell : ∀ y ∈ scope.names, y.2 ≠ .cell
  kind : scope.kind = .function
  names : ∀ y ∈ scope.names, y.2 = .local → scope.names.lookup y.1 = some .local
  free : ∀ y ∈ scope.names, y.2 = .free → X.env.kindOf y.1 = some .cell ∨ X.env.kindOf y.1 = some .free
  nin : x ∉ N'
  nd : N'.Nodup
  len : N'.length = X.N.length
  sub : ∀ (i : Nat) (y : Str), N'[i]? = some y → X.N[i]? = some y ∨ scope.names.lookup y = none
  only : ∀ y ∈ scope.names, y.2 = .local → y.1 = x ∨ y.1 ∉ N'
theorem Inv.compIn {scope : Scope} {x : Str} {N' : List Str} {fp : List Addr} {h1 : Heap} {tk : Nat} {m : Str → Option Value} (S : CompSc X scope x N') (I : Inv X pins σ H s) (hf : ∀ b ∈ fp, FpOk X pins H b) (hfl : ∀ b ∈ fp, b < s.heap.objs.size)
    (hn : h1.Ns s.heap.objs.size m) (hsb : ∀ b o, s.heap.get? b = some o → h1.get? b = some o) :
    Inv (cxComp X scope x N' s.heap.objs.size s H fp (X.pn ++ pins)) [] (none :: σ) H { s with heap := h1, toks := tk } := by
  have hcells : ∀ y ∈ scope.names, y.2 = .free → ∃ c, X.env.cells.lookup y.1 = some c := fun y hy hk => I.ok.has y.1 (S.free y hy hk)
  have sub : ∀ y c, (clOf X.env scope.names []).lookup y = some c → X.env.cells.lookup y = some c := fun y c e => clOf_mem _ _ y c hcells (fun z d q => by simp at q) e
  have lk : ∀ (y : Str) (k : NameKind), (relabel scope X.env).names.lookup y = some k → k = .cell ∨ k = .free → scope.names.lookup y = some .free := fun y k e hk => by
    rw [relabel_lookup] at e
    cases q : scope.names.lookup y with
    | none => rw [q] at e; cases e
    | some k0 =>
      rw [q] at e
      have e' : (if (k0 == NameKind.free && X.env.scope.kind == .function && X.env.kindOf y == some .cell) = true then NameKind.cell else k0) = k := Option.some.inj e
      by_cases hc : (k0 == NameKind.free && X.env.scope.kind == .function && X.env.kindOf y == some .cell) = true
      · simp only [Bool.and_eq_true] at hc
        rw [eq_of_beq hc.1.1]
      · rw [if_neg hc] at e'
        subst e'
        rcases hk with hk | hk
        · exact absurd hk (S.nocell _ (PySem.mem_of_lookup q))
        · rw [hk]
  have lt : ∀ {b : Addr} {o : Obj}, s.heap.get? b = some o → b ≠ s.heap.objs.size := fun e => Nat.ne_of_lt (Heap.lt_size e)
  refine ⟨⟨I.ok.mod, by show (relabel scope X.env).kind = _; exact S.kind, I.ok.glob, I.ok.blt, Nat.le_refl _, fun y z c e1 e2 => I.ok.inj y z c (sub y c e1) (sub z c e2), fun y hy => ?_, fun y c hz => (by cases hz), I.ok.hd, I.ok.frames, .inl rfl,
    fun b hb => ⟨Nat.ne_of_lt (hfl b hb), fun y c e => (hf b hb).2.2.2.2.1 y c (sub y c e)⟩, I.bs, Nat.le_trans I.ok.bsz I.sz, fun b o e hb => ?_, fun b hb hz => ?_, I.stack, I.stkFree⟩,
    rfl, I.bare, Un.kept hsb, ⟨m, hn, fun i y v h1 h2 h3 => ?_⟩, fun y c e => ?_, I.hok.fresh (Nat.le_refl _), fun y c e => I.freeC y c (sub y c e), fun p hp => ?_, I.hok.kept hsb, ?_⟩
  · have hy : (relabel scope X.env).names.lookup y = some .cell ∨ (relabel scope X.env).names.lookup y = some .free := hy
    have q : scope.names.lookup y = some .free := hy.elim (fun z => lk y _ z (.inl rfl)) fun z => lk y _ z (.inr rfl)
    exact clOf_has _ _ y (PySem.mem_of_lookup q)
  · obtain ⟨_, _, _, f3, _, _⟩ := hf b hb
    rcases f3 with f3 | f3
    · exact I.ok.noex b o e f3
    · exact absurd (Nat.lt_of_lt_of_le (Heap.lt_size e) (Nat.le_trans I.ok.bsz f3)) (Nat.lt_irrefl _)
  · have hz : b ∈ frs X.stack := hz
    obtain ⟨_, f1, f2, _⟩ := hf b hb
    rcases List.mem_cons.mp (I.stkSub b hz) with z | z
    · exact f1 z
    · exact f2 z
  · cases i with
    | zero => simp at h2
    | succ i =>
      have h1 : N'[i]? = some y := by simpa [cxComp] using h1
      have h2 : σ[i]? = some (some v) := by simpa using h2
      have hne : N'[i]? ≠ some x := fun z => S.nin (List.mem_of_getElem? z)
      have h3 : Vis (relabel scope X.env) y := h3
      obtain ⟨m', hn', hl'⟩ := I.loc
      have q : scope.names.lookup y = some .free := by
        rcases h3 with z | z | z
        · exfalso
          rw [relabel_lookup] at z
          cases q : scope.names.lookup y with
          | none => rw [q] at z; cases z
          | some k0 =>
            rw [q] at z
            have e' : (if (k0 == NameKind.free && X.env.scope.kind == .function && X.env.kindOf y == some .cell) = true then NameKind.cell else k0) = .local := Option.some.inj z
            by_cases hc : (k0 == NameKind.free && X.env.scope.kind == .function && X.env.kindOf y == some .cell) = true
            · rw [if_pos hc] at e'; cases e'
            · rw [if_neg hc] at e'
              subst e'
              rcases S.only _ (PySem.mem_of_lookup q) rfl with w | w
              · exact hne (by rw [h1]; exact congrArg some w)
              · exact w (List.mem_of_getElem? h1)
        · exact lk y _ z (.inl rfl)
        · exact lk y _ z (.inr rfl)
      obtain ⟨c, hc⟩ := clOf_has (env := X.env) scope.names [] y (PySem.mem_of_lookup q)
      have hk : X.env.kindOf y = some .cell ∨ X.env.kindOf y = some .free := S.free _ (PySem.mem_of_lookup q) rfl
      have h1' : X.N[i]? = some y := (S.sub i y h1).resolve_right fun z => by rw [q] at z; cases z
      obtain ⟨u, r, l⟩ := hl' i y v h1' h2 (.inr hk)
      refine ⟨u, r, ?_⟩
      have kd : (compEnvC scope (clOf X.env scope.names []) s.heap.objs.size X.env).kindOf y = some .cell ∨ (compEnvC scope (clOf X.env scope.names []) s.heap.objs.size X.env).kindOf y = some .free := by
        rcases h3 with z | z | z
        · exfalso
          rw [relabel_lookup, q] at z
          have e' : (if (NameKind.free == NameKind.free && X.env.scope.kind == .function && X.env.kindOf y == some .cell) = true then NameKind.cell else NameKind.free) = .local := Option.some.inj z
          by_cases hc : (NameKind.free == NameKind.free && X.env.scope.kind == .function && X.env.kindOf y == some .cell) = true
          · rw [if_pos hc] at e'; cases e'
          · rw [if_neg hc] at e'; cases e'
        · exact .inl z
        · exact .inr z
      rcases l with ⟨a, _⟩ | ⟨_, c', hc', ic⟩
      · rcases hk with k | k <;> (rw [k] at a; cases a)
      · have e : X.env.cells.lookup y = some c := sub y c hc
        rw [e] at hc'
        cases hc'
        obtain ⟨o, ho, hd⟩ := ic
        exact .inr ⟨kd, c, hc, ⟨o, hsb _ _ ho, hd⟩⟩
  · obtain ⟨v, o, ho, hd⟩ := I.cell y c (sub y c e)
    exact ⟨v, o, hsb _ _ ho, hd⟩
  · have hp : p ∈ X.pn ++ pins := by
      have hp : p ∈ (X.pn ++ pins) ++ [] := hp
      rwa [List.append_nil] at hp
    obtain ⟨e, n, ne, nf, d⟩ := I.pin p hp
    refine ⟨hsb _ _ e, n, lt e, fun hz => ?_, d⟩
    have hz : p.1 ∈ frs X.stack := hz
    rcases List.mem_cons.mp (I.stkSub _ hz) with z | z
    · exact ne z
    · exact nf z
  · show (none :: σ).length = (x :: N').length
    rw [List.length_cons, List.length_cons, I.len, S.len]
noncomputable def PTs (X : Cx) (ifs : List Expr) (t : TT) : Prop :=
  ∀ (pins : List (Addr × Obj)) (s : Shared) (σ : St) (H : Hp) (Q : Bool → Hp → Prop) (E : Value → Shared → Prop), Inv X pins σ H s → t σ H Q →
    wpAny (model X.prog X.w) X.A (forIn ifs true fun c r => if r = true then do let ok ← isTrue c X.env (eval c X.env); pure (ForInStep.yield ok) else pure (ForInStep.yield r)) (TP X pins σ Q) E s
noncomputable def tYes : TT := fun _ H Q => Q true H
theorem pts_nil : PTs X [] tYes := fun _ _ _ H _ _ I h => wpAny_tests_nil ⟨H, I, h⟩
theorem comp_loop {prog : Program} {w : World} {A : Around} {R : Result → Shared → Prop} {s : Shared} {elt target iter : Expr} {ifs : List Expr} {scope : Scope} {pos : Pos} {it acc : Value} {env : Env} (J : Nat → Shared → Prop)
    (turn : ∀ n s, J n s → wpAny (model prog w) A (pyNext it) (fun r s1 => match r with
      | none => R (.ok .next) s1
      | some v => wpAny (model prog w) A (letOwnedTupleGo target it v) (fun _ s2 => wpAny (model prog w) A (assign target env v) (fun _ s3 =>
          wpAny (model prog w) A (forIn ifs true fun c r => if r = true then do let ok ← isTrue c env (eval c env); pure (ForInStep.yield ok) else pure (ForInStep.yield r)) (fun ok s4 =>
            if ok = true then wpAny (model prog w) A (eval elt env) (fun y s5 => wpAny (model prog w) A (call (.builtin "list.append") [acc, y]) (fun _ s6 => ∃ m, m < n ∧ J m s6) (fun _ _ => False) s5) (fun _ _ => False) s4
            else ∃ m, m < n ∧ J m s4) (fun _ _ => False) s3) (fun _ _ => False) s2) (fun _ _ => False) s1) (fun _ _ => False) s)
    (n : Nat) (h : J n s) : codeAny (model prog w) A (.compLoop (.ListComp elt [⟨target, iter, ifs, 0⟩] scope pos) 0 it acc env) R s := by
  have no : ∀ {α : Type} {t : Sem α} {Q : α → Shared → Prop} {E : Value → Shared → Prop} {s : Shared}, wpAny (model prog w) A t Q (fun _ _ => False) s → wpAny (model prog w) A t Q E s :=
    fun q => wpAny_mono q (fun _ _ z => z) fun _ _ z => z.elim
  refine codeAny_loop rfl J (fun n s hJ => ?_) n h
  refine wpAny_noted (m := compTurn (.ListComp elt [⟨target, iter, ifs, 0⟩] scope pos) 0 it acc env) ?_
  rw [compTurn_list]
  refine wpAny_bind (wpAny_standAt (wpAny_bind (no (thn (turn n s hJ) fun r s1 q1 => ?_))))
  cases r with
  | none => exact wpAny_pure q1
  | some v =>
    refine no ?_
    refine wpAny_bind (thn q1 fun _ s2 q2 => wpAny_bind (thn q2 fun _ s3 q3 => wpAny_bind (thn q3 fun ok s4 q4 => ?_)))
    cases ok with
    | false => exact wpAny_pure ⟨rfl, q4⟩
    | true => exact wpAny_bind (wpAny_bind (thn q4 fun y s5 q5 => wpAny_bind (thn q5 fun _ s6 q6 => wpAny_pure (wpAny_pure ⟨rfl, q6⟩))))
noncomputable def CompW (J : It) (tt : TT) (te : TE) (σ : St) (Q : VK) (D : Addr) (H1 : Hp) : Prop := ∃ W : Nat → Nat → List V → Hp → Prop, (∃ m, W 0 m [] (upd H1 D (.lst []))) ∧
  ∀ i m ys H', W i m ys H' → (J.stop i H' ∧ Q (.ref D) H') ∨ (J.go i H' ∧ ∀ v H2, J.yld i H' v H2 → tt (some v :: σ) H2 fun b H3 =>
    if b = true then te (some v :: σ) H3 fun y H4 => H4 D = some (.lst ys) ∧ ys.length < sizeLine ∧ ∃ m', m' < m ∧ W (i + 1) m' (ys ++ [y]) (upd H4 D (.lst (ys ++ [y])))
    else ∃ m', m' < m ∧ W (i + 1) m' ys H3)
noncomputable def tComp (wi : TI) (tt : TT) (te : TE) : TE := fun σ H Q => wi σ H fun J H1 => ∀ D, H1 D = none → CompW J tt te σ Q D H1
theorem comp_core {elt iter : Expr} {x : Str} {N' : List Str} {px : Pos} {ifs : List Expr} {scope : Scope} {pos : Pos} {tt : TT} {te : TE} (hc : X.calm = true) (S : CompSc X scope x N')
    (ht : ∀ C s H fp pn, PTs (cxComp X scope x N' C s H fp pn) ifs tt) (he : ∀ C s H fp pn, PE (cxComp X scope x N' C s H fp pn) elt te) {Q : VK} {itv : Value} {s2 : Shared} {RR : Value → Addr → Result → Shared → Prop}
    (h2 : PIE X pins σ (.Name x px) (fun J H1 => ∀ D, H1 D = none → CompW J tt te σ Q D H1) itv s2)
    (hend : ∀ (D C : Addr) (H6 : Hp) (s7 : Shared) (m7 : Str → Option Value), Inv X pins σ H6 s7 → s7.heap.Ns C m7 → FpOk X pins H6 C → Q (.ref D) H6 → RR (.ref D) C (.ok .next) s7) :
    wpAny (model X.prog X.w) X.A (newList []) (fun acc s3 => wpAny (model X.prog X.w) X.A (newFunctionEnv scope X.env.globals (clOf X.env scope.names []) [] X.env.qual none .none (some X.env)) (fun cenv s4 =>
      codeAny (model X.prog X.w) X.A (.compStart (.ListComp elt [⟨.Name x px, iter, ifs, 0⟩] scope pos) 0 itv acc { cenv with scope := relabel scope X.env }) (RR acc cenv.locals) s4) X.xe s3) X.xe s2 := by
  obtain ⟨it, fp, tn, J, H2, e, I2, T, st2, f2, hW⟩ := h2
  subst e
  have hlt : ∀ b ∈ fp, b < s2.heap.objs.size := fun b hb => by
    obtain ⟨o, ho, _⟩ := T.obj _ _ st2 b hb
    exact Heap.lt_size ho
  obtain ⟨W, ⟨m0, w0⟩, hturn⟩ := hW s2.heap.objs.size (I2.hok.fresh (Nat.le_refl _))
  refine wpAny_newObj_type ?_ (by show 0 ≤ sizeLine; exact Nat.zero_le _)
  have I3 : Inv X pins σ (upd H2 s2.heap.objs.size (.lst [])) { s2 with heap := s2.heap.push { cls := .type "list", data := .seq ([] : List Value).toArray } } := I2.lnew (t' := s2.toks) .nil (Nat.zero_le _)
  have f3 : ∀ b ∈ fp, FpOk X pins (upd H2 s2.heap.objs.size (.lst [])) b := fun b hb => by
    obtain ⟨g0, g⟩ := f2 b hb
    exact ⟨by rw [upd_ne (Nat.ne_of_lt (hlt b hb))]; exact g0, g⟩
  have st3 : tn 0 (s2.heap.push { cls := .type "list", data := .seq ([] : List Value).toArray }) := T.keep _ _ _ st2 fun b _ o e => Heap.get?_push_of_some _ e
  have hlt3 : ∀ b ∈ fp, b < (s2.heap.push { cls := .type "list", data := .seq ([] : List Value).toArray }).objs.size := fun b hb => by rw [Heap.size_push]; exact Nat.lt_succ_of_lt (hlt b hb)
  generalize hs3 : ({ s2 with heap := s2.heap.push { cls := .type "list", data := .seq ([] : List Value).toArray } } : Shared) = s3 at I3
  have eh : s3.heap = s2.heap.push { cls := .type "list", data := .seq ([] : List Value).toArray } := by rw [← hs3]
  rw [← eh] at st3 hlt3
  show wpAny _ _ (newFunctionEnv scope X.env.globals (clOf X.env scope.names []) [] X.env.qual none .none (some X.env)) _ _ _
  refine wpAny_newFunctionEnv S.nocell (by intro y hy; simp at hy) (fun h4 hns4 hsb4 => ?_) S.kind
  have hk4 : ∀ b o, s3.heap.get? b = some o → h4.get? b = some o := fun b o e => (hsb4.2 b (Nat.ne_of_lt (Heap.lt_size e))).trans (Heap.get?_push_of_some _ e)
  have I4 := Inv.compIn (tk := s3.toks + ([] : List (Str × Value)).length) S I3 f3 hlt3 hns4 hk4
  have st4 : tn 0 h4 := T.keep _ _ _ st3 fun b _ o e => hk4 b o e
  have fx : ∀ {H' : Hp}, (∀ b ∈ fp, H' b = none) → ∀ b ∈ fp, FpOk (cxComp X scope x N' s3.heap.objs.size s3 (upd H2 s2.heap.objs.size (.lst [])) fp (X.pn ++ pins)) [] H' b := fun {H'} hn b hb => by
    obtain ⟨_, g1, g2, g3, g4, g5⟩ := f3 b hb
    refine ⟨hn b hb, Nat.ne_of_lt (hlt3 b hb), I4.ok.exfs b hb, .inl hb, fun y c e => (I4.ok.exf b hb).2 y c e, fun p hp => g5 p ?_⟩
    have hp : p ∈ (X.pn ++ pins) ++ [] := hp
    rwa [List.append_nil] at hp
  have loop : ∀ s5 : Shared, (∃ (i n : Nat) (o : Option V) (ys : List V) (H5 : Hp), Inv (cxComp X scope x N' s3.heap.objs.size s3 (upd H2 s2.heap.objs.size (.lst [])) fp (X.pn ++ pins)) [] (o :: σ) H5 s5 ∧ tn i s5.heap ∧ (∀ b ∈ fp, H5 b = none) ∧ W i n ys H5) →
      codeAny (model X.prog X.w) X.A (.compLoop (.ListComp elt [⟨.Name x px, iter, ifs, 0⟩] scope pos) 0 (.ref it) (.ref s2.heap.objs.size) (compEnvC scope (clOf X.env scope.names []) s3.heap.objs.size X.env))
        (RR (.ref s2.heap.objs.size) s3.heap.objs.size) s5 := by
    rintro s5 ⟨i5, n5, o5, ys5, H5, I5, st5, fr5, w5⟩
    refine comp_loop (fun n s' => ∃ (i : Nat) (o : Option V) (ys : List V) (H5 : Hp), Inv (cxComp X scope x N' s3.heap.objs.size s3 (upd H2 s2.heap.objs.size (.lst [])) fp (X.pn ++ pins)) [] (o :: σ) H5 s' ∧ tn i s'.heap ∧ (∀ b ∈ fp, H5 b = none) ∧ W i n ys H5) ?_ n5 ⟨i5, o5, ys5, H5, I5, st5, fr5, w5⟩
    rintro n s6 ⟨i, o, ys, H6, I6, st6, fr6, w6⟩
    rcases hturn i n ys H6 w6 with ⟨stop, qn⟩ | ⟨go, step⟩
    · refine thn (T.done (cxComp X scope x N' s3.heap.objs.size s3 (upd H2 s2.heap.objs.size (.lst [])) fp (X.pn ++ pins)) rfl rfl rfl hc i [] s6 _ H6 _ I6 (fx fr6) st6 stop) fun r s7 ⟨hr, I7⟩ => ?_
      subst hr
      obtain ⟨m7, hn7, _⟩ := id I7.loc
      have I8 : Inv X pins σ H6 s7 := I3.call' I7.os I7.base I7.hok I7.bare fun b hb => by
        obtain ⟨_, g1, g2, g3, g4, g5⟩ := f3 b hb
        exact ⟨g3, g1, g4, g5⟩
      have f8 : FpOk X pins H6 s3.heap.objs.size := I3.fpOk (Nat.le_refl _) I7.free
      exact hend _ _ H6 s7 m7 I8 hn7 f8 qn
    · refine thn (T.item (cxComp X scope x N' s3.heap.objs.size s3 (upd H2 s2.heap.objs.size (.lst [])) fp (X.pn ++ pins)) rfl rfl rfl hc i [] s6 _ H6 _ I6 (fx fr6) st6 go) fun r s7 ⟨u, hr, h7⟩ => ?_
      subst hr
      refine thn h7 fun _ s8 ⟨v, H8, I8, r8, y8, st8, fr8⟩ => ?_
      have I8' := I8.pinned (fx fr8) (T.obj _ _ st8)
      refine wpAny_assign_Name (store_ok I8' (i := 0) (List.nodup_cons.mpr ⟨S.nin, S.nd⟩) rfl (.inl (lookup_relabel_local S.loc)) r8 (fun s9 I9 => ?_) (.inr (lookup_relabel_local S.loc)))
      have I9 : Inv (cxComp X scope x N' s3.heap.objs.size s3 (upd H2 s2.heap.objs.size (.lst [])) fp (X.pn ++ pins)) ([] ++ pinsAt fp s8.heap) (some v :: σ) H8 s9 := I9
      refine thn (ht _ _ _ _ _ _ s9 (some v :: σ) H8 _ _ I9 (step v H8 y8)) fun b s10 ⟨H10, I10, q10⟩ => ?_
      have back : ∀ {s' : Shared} {H' : Hp} {ys' : List V} {m' : Nat}, Inv (cxComp X scope x N' s3.heap.objs.size s3 (upd H2 s2.heap.objs.size (.lst [])) fp (X.pn ++ pins)) ([] ++ pinsAt fp s8.heap) (some v :: σ) H' s' → W (i + 1) m' ys' H' →
          ∃ (i : Nat) (o : Option V) (ys : List V) (H5 : Hp), Inv (cxComp X scope x N' s3.heap.objs.size s3 (upd H2 s2.heap.objs.size (.lst [])) fp (X.pn ++ pins)) [] (o :: σ) H5 s' ∧ tn i s'.heap ∧ (∀ b ∈ fp, H5 b = none) ∧ W i m' ys H5 := fun {s' H' ys' m'} I' w' => by
        refine ⟨i + 1, some v, ys', H', I'.unpinned, T.keep _ _ _ st8 fun b hb o e => (I'.pin (b, o) (List.mem_append_right _ (List.mem_append_right _ (mem_pinsAt hb e)))).1, fun b hb => ?_, w'⟩
        obtain ⟨o, e, d⟩ := T.obj _ _ st8 b hb
        exact (I'.pin (b, o) (List.mem_append_right _ (List.mem_append_right _ (mem_pinsAt hb e)))).2.1
      cases b with
      | false =>
        rw [if_neg Bool.false_ne_true] at q10 ⊢
        obtain ⟨m', hm, w'⟩ := q10
        exact ⟨m', hm, back I10 w'⟩
      | true =>
        rw [if_pos rfl] at q10 ⊢
        refine thn (he _ _ _ _ _ _ s10 (some v :: σ) H10 _ I10 q10) fun y s11 ⟨yv, H11, I11, r11, hD, hz, m', hm, w'⟩ => ?_
        have ap := mt_append (X := cxComp X scope x N' s3.heap.objs.size s3 (upd H2 s2.heap.objs.size (.lst [])) fp (X.pn ++ pins)) _ s11 (some v :: σ) H11 (.ref s2.heap.objs.size) [yv] (.ref s2.heap.objs.size) [y] (fun _ H' => W (i + 1) m' (ys ++ [yv]) H') I11 rfl (.cons r11 .nil) ⟨_, ys, yv, rfl, rfl, hD, hz, w'⟩
        exact thn ap fun _ s12 ⟨_, H12, I12, _, w12⟩ => ⟨m', hm, back I12 w12⟩
  have l4 := loop { s3 with heap := h4, toks := s3.toks + ([] : List (Str × Value)).length } ⟨0, m0, none, [], _, I4, st4, fun b hb => (f3 b hb).1, w0⟩
  exact codeAny_compStart_list l4 (T.self _ _ _ _ _ st4 l4)
theorem pe_comp {elt iter : Expr} {x : Str} {N' : List Str} {px : Pos} {ifs : List Expr} {scope : Scope} {pos : Pos} {wi : TI} {tt : TT} {te : TE} (hc : X.calm = true) (hi : PI X (.Name x px) iter wi) (S : CompSc X scope x N')
    (ht : ∀ C s H fp pn, PTs (cxComp X scope x N' C s H fp pn) ifs tt) (he : ∀ C s H fp pn, PE (cxComp X scope x N' C s H fp pn) elt te) (hs : ∀ x, foldedSetIterable iter X.env x = pure x := by intro _; rfl) :
    PE X (.ListComp elt [⟨.Name x px, iter, ifs, 0⟩] scope pos) (tComp wi tt te) := by
  intro pins s σ H Q I h
  have hcells : ∀ y ∈ scope.names, y.2 = .free → ∃ c, X.env.cells.lookup y.1 = some c := fun y hy hk => I.ok.has y.1 (S.free y hy hk)
  rw [eval_ListComp]
  refine wpAny_comprehension_free (use := none) rfl hs (closure_of hcells) S.kind S.names (thn (hi pins s σ H _ I h) fun xv s1 h1 => thn h1 fun itv s2 h2 => ?_)
  refine comp_core (RR := fun acc C => compPost (model X.prog X.w) X.A X.xe none (EP X pins σ Q) acc C) hc S ht he h2 fun D C H6 s7 m7 I8 hn7 f8 qn => ?_
  refine ⟨m7, hn7, fun h' hs' => ?_⟩
  obtain ⟨g0, g1, g2, g3, g4, g5⟩ := f8
  exact ⟨.ref D, H6, I8.turned (t' := s7.toks) (fun b o hb e => (hs'.2 b hb).trans e) g0 g1 g3 g4 g5, rfl, qn⟩
theorem ps_comp {elt iter : Expr} {x y : Str} {N' : List Str} {i : Nat} {px py : Pos} {ifs : List Expr} {scope : Scope} {pos spos : Pos} {wi : TI} {tt : TT} {te : TE} (hN : X.N.Nodup) (hiy : X.N[i]? = some y) (hy : Loc X.env.scope y) (hc : X.calm = true) (hi : PI X (.Name x px) iter wi) (S : CompSc X scope x N')
    (ht : ∀ C s H fp pn, PTs (cxComp X scope x N' C s H fp pn) ifs tt) (he : ∀ C s H fp pn, PE (cxComp X scope x N' C s H fp pn) elt te)
    (hsw : swapsWith (.ListComp elt [⟨.Name x px, iter, ifs, 0⟩] scope pos) (some (.Name y py)) spos.line X.env = pure true := by rfl) (hs : ∀ x, foldedSetIterable iter X.env x = pure x := by intro _; rfl)
    (hf : X.fn y = true ∨ X.env.scope.names.lookup y = some .local := by first | exact .inl rfl | exact .inr rfl | assumption) :
    PS X (.Assign [.Name y py] (.ListComp elt [⟨.Name x px, iter, ifs, 0⟩] scope pos) spos) (tAsg (tComp wi tt te) (gName i)) := by
  intro pins s σ H D I h
  have hcells : ∀ y ∈ scope.names, y.2 = .free → ∃ c, X.env.cells.lookup y.1 = some c := fun y hy hk => I.ok.has y.1 (S.free y hy hk)
  rw [exec_Assign_Name_used _ _ _ _ hsw]
  refine wpAny_bind (wpAny_standAt (wpAny_bind ?_))
  show wpAny _ X.A (do let _ ← comprehension (.ListComp elt [⟨.Name x px, iter, ifs, 0⟩] scope pos) scope X.env _ (newList []) false (eval iter X.env) (some (assign (.Name y py) X.env))) _ _ s
  refine wpAny_bind (thn (wpAny_comprehension_free (use := some (assign (.Name y py) X.env)) (Q := fun _ s' => SP X pins D .next s') rfl hs (closure_of hcells) S.kind S.names
    (thn (hi pins s σ H _ I h) fun xv s1 h1 => thn h1 fun itv s2 h2 => ?_)) fun _ s' hq => wpAny_pure (wpAny_pure hq))
  refine comp_core (RR := fun acc C => compPost (model X.prog X.w) X.A X.xe (some (assign (.Name y py) X.env)) (fun _ s' => SP X pins D .next s') acc C) hc S ht he h2 fun L C H6 s7 m7 I8 hn7 f8 qn => ?_
  obtain ⟨g0, g1, g2, g3, g4, g5⟩ := f8
  show wpAny _ X.A (assign (.Name y py) X.env (.ref L)) _ _ _
  refine wpAny_assign_Name (store_ok2 I8 hN hiy hy (v := .ref L) (u := .ref L) rfl (fun s8 I9 hch => ?_) hf)
  obtain ⟨a, hsb, ha⟩ := hch
  have hCa : C ≠ a := by
    rcases ha with z | z
    · rw [z]; exact g1
    · exact fun w => g4 _ _ z w.symm
  refine ⟨m7, hn7.sameBut hsb hCa, fun h' hs' => ?_⟩
  exact ⟨_, H6, I9.turned (t' := s8.toks) (fun b o hb e => (hs'.2 b hb).trans e) g0 g1 g3 g4 g5, qn⟩
end
end L2
set_option Elab.async false
set_option linter.all false
set_option maxRecDepth 100000
set_option maxHeartbeats 4000000
namespace L2
open PySem PySem.Spec PyProof.Rows
noncomputable def compOk (sc scope : Scope) (N N' : List Str) (x : Str) : Bool :=
  decide (scope.names.lookup x = some .local) && scope.names.all (fun y => decide (y.2 ≠ .cell)) && decide (scope.kind = .function) && scope.names.all (fun y => decide (y.2 = .local → scope.names.lookup y.1 = some .local)) &&
  scope.names.all (fun y => decide (y.2 = .free → sc.names.lookup y.1 = some .cell ∨ sc.names.lookup y.1 = some .free)) && decide (x ∉ N') && decide N'.Nodup && decide (N'.length = N.length) &&
  (List.range N'.length).all (fun i => match N'[i]? with | some y => decide (N[i]? = some y ∨ scope.names.lookup y = none) | none => true) && scope.names.all (fun y => decide (y.2 = .local → y.1 = x ∨ y.1 ∉ N'))
theorem comp_sc {X : Cx} {scope : Scope} {x : Str} (sc : Scope) (N N' : List Str) (hsc : X.env.scope = sc) (hN : X.N = N) (h : compOk sc scope N N' x = true) : CompSc X scope x N' := by
  subst hsc hN
  unfold compOk at h
  simp only [Bool.and_eq_true, List.all_eq_true, decide_eq_true_eq] at h
  obtain ⟨⟨⟨⟨⟨⟨⟨⟨⟨h1, h2⟩, h3⟩, h4⟩, h5⟩, h6⟩, h7⟩, h7'⟩, h8'⟩, h8⟩ := h
  refine ⟨h1, h2, h3, h4, h5, h6, h7, h7', fun i y e => ?_, h8⟩
  have hi : i < N'.length := (List.getElem?_eq_some_iff.mp e).1
  have z := h8' i (List.mem_range.mpr hi)
  rw [e] at z
  exact of_decide_eq_true z
noncomputable def Its (x : Str) : It := ⟨fun i _ => i < x.cps.size, fun i H v H' => H' = H ∧ ∃ c, x.cps[i]? = some c ∧ v = .str ⟨#[c]⟩, fun i _ => x.cps.size = i⟩
section
variable {X : Cx} {tg : Expr}
noncomputable def iStr (tl : TE) : TI := fun σ H R => tl σ H fun v H1 => ∃ x, v = .str x ∧ R (Its x) H1
end
structure Row (J : It) (n : Nat) (vs : Nat → V) (Ok : Hp → Prop) : Prop where
  go : ∀ i H, i < n → Ok H → J.go i H
  yld : ∀ i H v H', i < n → Ok H → J.yld i H v H' → H' = H ∧ v = vs i
  stop : ∀ H, Ok H → J.stop n H
theorem row_range (lo : Int) (n : Nat) : Row (Itr lo n) n (fun i => .int (lo + i)) (fun _ => True) := ⟨fun i H h _ => h, fun i H v H' _ _ h => h, fun H _ => Nat.le_refl n⟩
theorem row_list {K : PySem.W.Frag} {a : Addr} {xs : List V} : Row (Itl K a) xs.length (fun i => xs.getD i .non) (fun H => SqL K H a xs) := ⟨fun i H h q => ⟨xs, xs[i], q, by simp [h]⟩, fun i H v H' hi q h => by
  obtain ⟨e, y⟩ := h
  refine ⟨e, ?_⟩
  have := y xs q
  rw [List.getD_eq_getElem?_getD, this]; rfl, fun H q => ⟨xs, q, Nat.le_refl _⟩⟩
noncomputable def ForW (J : It) (g : TG) (tb : TS) (D : Ends) (σ : St) (H : Hp) : Prop := ∃ W : Nat → Nat → St → Hp → Prop, (∃ m, W 0 m σ H) ∧ ∀ i m σ H, W i m σ H →
      (J.stop i H ∧ D.nx σ H) ∨ (J.go i H ∧ ∃ N : St → Hp → Prop, (∀ σ' H', N σ' H' → ∃ m', m' < m ∧ W (i + 1) m' σ' H') ∧ ∀ x H', J.yld i H x H' → g x σ H' fun σ2 H2 => tb { D with nx := N, ct := N, bk := D.nx } σ2 H2)
theorem for_row {J : It} {n : Nat} {vs : Nat → V} {Ok : Hp → Prop} (R : Row J n vs Ok) {g : TG} {tb : TS} {D : Ends} {σ : St} {H : Hp} (Pv : Nat → St → Hp → Prop) (h0 : Pv 0 σ H) (hok : ∀ i σ H, Pv i σ H → Ok H)
    (hs : ∀ i σ H, i < n → Pv i σ H → g (vs i) σ H fun σ2 H2 => tb { D with nx := Pv (i + 1), ct := Pv (i + 1), bk := D.nx } σ2 H2) (hd : ∀ σ H, Pv n σ H → D.nx σ H) :
    ForW J g tb D σ H := by
  refine ⟨fun i m σ H => m = n - i ∧ i ≤ n ∧ Pv i σ H, ⟨n, by simp, Nat.zero_le _, h0⟩, ?_⟩
  rintro i m σ H ⟨rfl, hi, p⟩
  by_cases hlt : i < n
  · refine .inr ⟨R.go i H hlt (hok i σ H p), Pv (i + 1), fun σ' H' p' => ⟨n - (i + 1), by omega, rfl, hlt, p'⟩, fun x H' y => ?_⟩
    obtain ⟨e1, e2⟩ := R.yld i H x H' hlt (hok i σ H p) y
    subst e1 e2
    exact hs i σ _ hlt p
  · have e : i = n := by omega
    subst e
    exact .inl ⟨R.stop H (hok i σ H p), hd σ H p⟩
theorem comp_row {J : It} {n : Nat} {vs : Nat → V} {Ok : Hp → Prop} (R : Row J n vs Ok) {te : TE} {Q : VK} {σ : St} {H1 : Hp} {D : Addr} (Pv : Nat → List V → Hp → Prop) (hn : n ≤ sizeLine) (h0 : Pv 0 [] (upd H1 D (.lst []))) (hok : ∀ i ys H, Pv i ys H → Ok H)
    (hs : ∀ i ys H (Q' : VK), i < n → ys.length = i → Pv i ys H → (∀ y H4, H4 D = some (.lst ys) → Pv (i + 1) (ys ++ [y]) (upd H4 D (.lst (ys ++ [y]))) → Q' y H4) → te (some (vs i) :: σ) H Q')
    (hd : ∀ ys H, ys.length = n → Pv n ys H → Q (.ref D) H) :
    CompW J tYes te σ Q D H1 := by
  refine ⟨fun i m ys H => m = n - i ∧ i ≤ n ∧ ys.length = i ∧ Pv i ys H, ⟨n, by simp, Nat.zero_le _, rfl, h0⟩, ?_⟩
  rintro i m ys H ⟨rfl, hi, hl, p⟩
  by_cases hlt : i < n
  · refine .inr ⟨R.go i H hlt (hok i ys H p), fun v H2 y => ?_⟩
    obtain ⟨e1, e2⟩ := R.yld i H v H2 hlt (hok i ys H p) y
    subst e1 e2
    exact hs i ys _ _ hlt hl p fun v H4 q1 q2 => ⟨q1, by omega, n - (i + 1), by omega, rfl, hlt, by simp [hl], q2⟩
  · have e : i = n := by omega
    subst e
    exact .inl ⟨R.stop H (hok _ ys H p), hd ys H hl p⟩
end L2
set_option Elab.async false
set_option linter.all false
set_option maxRecDepth 100000
set_option maxHeartbeats 4000000
namespace L2
open PySem PySem.Spec PyProof.Rows
noncomputable def mVar (i : Nat) : TE := fun σ H Q => match σ[i]? with | some (some v) => Q v H | _ => False
noncomputable def mB (Q : Bool → Hp → Prop) : VK := fun z H' => match z with | .bl k => Q k H' | _ => False
theorem mB_eq (Q : Bool → Hp → Prop) : mB Q = fun z H' => ∃ k, z = .bl k ∧ Q k H' := by
  funext z H'
  cases z <;> simp [mB]
section
variable {X : Cx} {a b c e : Expr} {ta tb tc te : TE} {pos : Pos}
theorem mv (i : Nat) {x : Str} {pos : Pos} (hN : X.N[i]? = some x := by rfl) (hv : Vis X.env.scope x := by first | exact Or.inl rfl | exact Or.inr (Or.inl rfl) | exact Or.inr (Or.inr rfl)) (hd : (x == ("__debug__" : Str)) = false := by decide)
    (hcd : (x == ("__classdict__" : Str)) = false := by decide) : PE X (.Name x pos) (mVar i) := by
  intro pins s σ H Q I h
  refine pe_var hN hv hd hcd pins s σ H Q I ?_
  unfold mVar at h
  split at h
  · rename_i v q; exact ⟨v, q, h⟩
  · exact h.elim
noncomputable def m2 (C : Int → Int → Prop) (g : Int → Int → V) : R2 := fun x y H Q => match x, y with
  | .int i, .int j => C i j ∧ Q (g i j) H
  | _, _ => False
noncomputable def m20 (g : Int → Int → V) : R2 := fun x y H Q => match x, y with
  | .int i, .int j => Q (g i j) H
  | _, _ => False
theorem m2_to {C : Int → Int → Prop} {g : Int → Int → V} {x y : V} {H : Hp} {Q : VK} (h : m2 C g x y H Q) : rI C g x y H Q := by
  cases x <;> cases y <;> first | exact (show False from h).elim | exact ⟨_, _, rfl, rfl, h⟩
theorem m20_to {g : Int → Int → V} {x y : V} {H : Hp} {Q : VK} (h : m20 g x y H Q) : rI0 g x y H Q := by
  cases x <;> cases y <;> first | exact (show False from h).elim | exact ⟨_, _, rfl, rfl, h⟩
theorem OpR.imp {f : Value → Value → Sem Value} {r r' : R2} (h : OpR X f r) (k : ∀ x y H Q, r' x y H Q → r x y H Q) : OpR X f r' := fun pins s σ H x y v u Q I rx ry q => h pins s σ H x y v u Q I rx ry (k x y H Q q)
noncomputable def mAdd (K : PySem.W.Frag) : R2 := fun x y H Q => match x, y with
  | .int i, .int j => Q (.int (i + j)) H
  | .str i, .str j => i.length + j.length ≤ sizeLine ∧ Q (.str (i ++ j)) H
  | .ref p, .ref q => (∃ xs ys, H p = some (.lst xs) ∧ H q = some (.lst ys) ∧ xs.length + ys.length ≤ sizeLine ∧ ∀ d, H d = none → Q (.ref d) (upd H d (.lst (xs ++ ys)))) ∨
      ∃ xs ys, SqT K H p xs ∧ SqT K H q ys ∧ xs ≠ [] ∧ xs.length + ys.length ≤ sizeLine ∧ (ys = [] → Q (.ref p) H) ∧ (ys ≠ [] → ∀ d, H d = none → Q (.ref d) (upd H d (.tup (xs ++ ys))))
  | _, _ => False
theorem mo_add : OpR X (binaryOp .Add) (mAdd X.K) := by
  refine (op_add.or (op_add_str.or (op_cat.or op_catT))).imp fun x y H Q h => ?_
  cases x <;> cases y <;> first
    | exact (show False from h).elim
    | exact .inl ⟨_, _, rfl, rfl, h⟩
    | exact .inr (.inl ⟨_, _, rfl, rfl, h⟩)
    | (rcases h with ⟨xs, ys, h1, h2, h3, h4⟩ | ⟨xs, ys, h1, h2, h3, h4, h5⟩
       · exact .inr (.inr (.inl ⟨_, _, xs, ys, rfl, rfl, h1, h2, h3, h4⟩))
       · exact .inr (.inr (.inr ⟨_, _, xs, ys, rfl, rfl, h1, h2, h3, h4, h5⟩)))
theorem mo_sub : OpR X (binaryOp .Sub) (m20 fun i j => .int (i - j)) := op_sub.imp fun _ _ _ _ h => m20_to h
noncomputable def mMul : R2 := fun x y H Q => match x, y with
  | .int i, .int j => IntMulOk i j ∧ Q (.int (i * j)) H
  | .ref l, .int k => ∃ xs, H l = some (.lst xs) ∧ -(2 ^ 63) ≤ k ∧ k < 2 ^ 63 ∧ xs.length * k.toNat ≤ sizeLine ∧ ∀ p, H p = none → Q (.ref p) (upd H p (.lst (List.replicate k.toNat xs).flatten))
  | _, _ => False
theorem op_mulW : OpR X (binaryOp .Mult) (rI (fun i j => IntMulOk i j) fun i j => .int (i * j)) := opI fun _ _ _ _ _ _ _ hc q => mul_int q hc
theorem mo_mul : OpR X (binaryOp .Mult) mMul := by
  refine (op_mulW.or op_rep).imp fun x y H Q h => ?_
  cases x <;> cases y <;> first
    | exact (show False from h).elim
    | exact .inl ⟨_, _, rfl, rfl, h⟩
    | (obtain ⟨xs, h1, h2, h3, h4, h5⟩ := h; exact .inr ⟨_, _, xs, rfl, rfl, h1, h2, h3, h4, h5⟩)
theorem mo_fdiv : OpR X (binaryOp .FloorDiv) (m2 CDiv fun i j => .int (i / j)) := op_fdiv.imp fun _ _ _ _ h => m2_to h
theorem mo_mod : OpR X (binaryOp .Mod) (m2 (fun _ j => 0 < j) fun i j => .int (i % j)) := op_mod.imp fun _ _ _ _ h => m2_to h
theorem mo_pow : OpR X (binaryOp .Pow) (m2 CPow fun i j => .int (i ^ j.toNat)) := op_pow.imp fun _ _ _ _ h => m2_to h
theorem mo_lt : OpR X (compareOp .Lt) (m20 fun i j => .bl (decide (i < j))) := op_lt.imp fun _ _ _ _ h => m20_to h
theorem mo_gt : OpR X (compareOp .Gt) (m20 fun i j => .bl (decide (j < i))) := op_gt.imp fun _ _ _ _ h => m20_to h
noncomputable def mEq (n : Bool) : R2 := fun x y H Q => match x, y with
  | .int i, .int j => Q (.bl (n ^^ decide (i = j))) H
  | .str i, .str j => Q (.bl (n ^^ decide (i = j))) H
  | .bl i, .bl j => Q (.bl (n ^^ decide (i = j))) H
  | .non, .non => Q (.bl (n ^^ true)) H
  | .non, .int _ => Q (.bl n) H
  | .non, .str _ => Q (.bl n) H
  | .non, .bl _ => Q (.bl n) H
  | .int _, .non => Q (.bl n) H
  | .str _, .non => Q (.bl n) H
  | .bl _, .non => Q (.bl n) H
  | .int _, .str _ => Q (.bl n) H
  | .str _, .int _ => Q (.bl n) H
  | .bl _, .str _ => Q (.bl n) H
  | .str _, .bl _ => Q (.bl n) H
  | _, _ => False
theorem mo_eq : OpR X (compareOp .Eq) (mEq false) := by
  refine op_eq.imp fun x y H Q h => ?_
  cases x <;> cases y <;> first
    | exact (show False from h).elim
    | exact ⟨rfl, by simpa [mEq] using h⟩
theorem mo_ne : OpR X (compareOp .NotEq) (mEq true) := by
  refine op_ne.imp fun x y H Q h => ?_
  cases x <;> cases y <;> first
    | exact (show False from h).elim
    | exact ⟨rfl, by simpa [mEq] using h⟩
noncomputable def mTest (t : TE) : TT := fun σ H Q => t σ H (mB Q)
theorem mTest_eq (t : TE) : mTest t = tTest t := by
  funext σ H Q
  show t σ H (mB Q) = t σ H _
  rw [mB_eq]
theorem mt_cmp {op : CmpOp} {r : R2} (ho : OpR X (compareOp op) r) (ha : PE X a ta) (hb : PE X b tb) (hm : behindInMarks op b = false) : PT X (.Compare a [op] [b] pos) (mTest (tOp r ta tb)) := by
  rw [mTest_eq]; exact pt_cmpR ho ha hb hm
noncomputable def mChain (r r' : R2) (ta tb tc : TE) : TE := fun σ H Q => ta σ H fun x H1 => tb σ H1 fun y H2 => r x y H2 (mB fun k H3 => if k = true then tc σ H3 fun w' H4 => r' y w' H4 Q else Q (.bl false) H3)
noncomputable def mTru (K : PySem.W.Frag) (Q : Bool → Hp → Prop) : VK := fun x H => match x with
  | .non => Q false H
  | .bl b => Q b H
  | .int i => Q (decide (i ≠ 0)) H
  | .str y => y.length ≤ sizeLine ∧ Q (decide (y.length ≠ 0)) H
  | .ref p => (∃ xs, SqL K H p xs ∧ Q (!xs.isEmpty) H) ∨ (∃ xs, SqT K H p xs ∧ Q (!xs.isEmpty) H) ∨ ∃ kvs, H p = some (.dK kvs) ∧ Q (!kvs.isEmpty) H
  | _ => False
theorem mTru_to {K : PySem.W.Frag} {Q : Bool → Hp → Prop} {x : V} {H : Hp} (h : mTru K Q x H) : ∃ k, TruV K x H k ∧ Q k H := by
  cases x with
  | non => exact ⟨_, rfl, h⟩
  | bl b => exact ⟨_, rfl, h⟩
  | int i =>
    have h : Q (decide (i ≠ 0)) H := h
    refine ⟨i != 0, rfl, ?_⟩
    have e : (i != 0) = decide (i ≠ 0) := by
      rw [Bool.eq_iff_iff]; simp
    rw [e]; exact h
  | str y =>
    obtain ⟨h1, h⟩ : y.length ≤ sizeLine ∧ Q (decide (y.length ≠ 0)) H := h
    refine ⟨((y.length : Int) != 0), ⟨h1, rfl⟩, ?_⟩
    have e : ((y.length : Int) != 0) = decide (y.length ≠ 0) := by
      rw [Bool.eq_iff_iff]; simp
    rw [e]; exact h
  | ref p =>
    rcases h with ⟨xs, h1, h2⟩ | ⟨xs, h1, h2⟩ | ⟨xs, h1, h2⟩
    · exact ⟨_, .inl ⟨xs, h1, rfl⟩, h2⟩
    · exact ⟨_, .inr (.inl ⟨xs, h1, rfl⟩), h2⟩
    · exact ⟨_, .inr (.inr ⟨xs, h1, rfl⟩), h2⟩
  | _ => exact (show False from h).elim
noncomputable def mTrue (K : PySem.W.Frag) (ta : TE) : TT := fun σ H Q => ta σ H (mTru K Q)
theorem mt_tru (ha : PE X a ta) (he : ∀ whole, isTrue a X.env whole = (do let v ← whole; standAt a.pos; holding [v] (truthy v)) := by intro _; rfl) : PT X a (mTrue X.K ta) := by
  intro pins s σ H Q I h
  exact isTrue_plain (thn (ha pins s σ H _ I h) fun v s1 ⟨x, H1, I1, r1, q1⟩ => tru_ok pins s1 σ H1 x v Q I1 r1 (mTru_to q1)) (he _)
noncomputable def mAndV (ta tb : TE) : TE := fun σ H Q => ta σ H (mB fun c H1 => if c = true then tb σ H1 Q else Q (.bl false) H1)
noncomputable def mOrV (ta tb : TE) : TE := fun σ H Q => ta σ H (mB fun c H1 => if c = true then Q (.bl true) H1 else tb σ H1 Q)
variable {rest : List Expr}
theorem me_and (ha : PE X a ta) (hb : PE X (.BoolOp .And (b :: rest) pos) tb) : PE X (.BoolOp .And (a :: b :: rest) pos) (mAndV ta tb) := by
  have e : mAndV ta tb = tAndV ta tb := by funext σ H Q; unfold mAndV tAndV; rw [mB_eq]
  rw [e]; exact pe_and ha hb
noncomputable def mIx (K : PySem.W.Frag) : R2 := fun x y H Q => match x, y with
  | .ref p, .int i => (∃ xs v, SqL K H p xs ∧ atI xs i = some v ∧ Q v H) ∨ ∃ xs v, SqT K H p xs ∧ atI xs i = some v ∧ Q v H
  | .str z, .int i => z.length ≤ sizeLine ∧ ∃ c, atI z.cps.toList i = some c ∧ Q (.str ⟨#[c]⟩) H
  | _, _ => False
theorem mi_seq : IxR X (mIx X.K) := by
  intro value slice pins s σ H x y v u Q I rx ry h hs
  refine ix_seq value slice pins s σ H x y v u Q I rx ry ?_ hs
  cases x <;> cases y <;> first
    | exact (show False from h).elim
    | (rcases h with ⟨xs, v, h1, h2, h3⟩ | ⟨xs, v, h1, h2, h3⟩
       · exact .inl ⟨_, xs, _, v, rfl, rfl, h1, h2, h3⟩
       · exact .inr (.inl ⟨_, xs, _, v, rfl, rfl, h1, h2, h3⟩))
    | (obtain ⟨h1, c, h2, h3⟩ := h; exact .inr (.inr ⟨_, _, c, rfl, rfl, h1, h2, h3⟩))
noncomputable def inS (i j : Str) : Bool := !(Builtin.Str.occurrences j i 0 j.length 1).isEmpty
noncomputable def mInS (n : Bool) : R2 := fun x y H Q => match x, y with
  | .str i, .str j => Q (.bl (n ^^ inS i j)) H
  | _, _ => False
noncomputable def mI (R : Option Int → Hp → Prop) : VK := fun x H1 => match x with | .int i => R (some i) H1 | _ => False
noncomputable def mPart (t : TE) : TO := fun σ H Q => t σ H (mI Q)
theorem mp_some (h : PE X e te) : PO X (some e) (mPart te) := by
  have q : mPart te = tPart te := by
    funext σ H Q
    unfold mPart tPart
    congr 1
    funext x H1
    cases x <;> simp [mI]
  rw [q]; exact po_some h
noncomputable def mLen (K : PySem.W.Frag) : List V → Hp → VK → Prop := fun vs H Q => match vs with
  | [.str y] => y.length ≤ sizeLine ∧ Q (.int y.length) H
  | [.ref p] => (∃ xs, SqL K H p xs ∧ Q (.int xs.length) H) ∨ ∃ xs, SqT K H p xs ∧ Q (.int xs.length) H
  | _ => False
theorem mc_len : CallR X (.builtin "len") (mLen X.K) := by
  intro pins s σ H xs us Q I r h
  refine call_len pins s σ H xs us Q I r ?_
  unfold mLen at h
  split at h
  · exact ⟨_, _, rfl, ⟨h.1, rfl⟩, h.2⟩
  · rcases h with ⟨ys, h1, h2⟩ | ⟨ys, h1, h2⟩
    · exact ⟨_, _, rfl, .inl ⟨ys, h1, rfl⟩, h2⟩
    · exact ⟨_, _, rfl, .inr ⟨ys, h1, rfl⟩, h2⟩
  · exact h.elim
theorem kit_same (K : PySem.W.Frag) (t : Value) : PySem.W.kitOne K t t = some true := by
  unfold PySem.W.kitOne
  rw [if_pos (by simp)]
end
end L2
set_option Elab.async false
set_option linter.all false
set_option maxRecDepth 100000
set_option maxHeartbeats 4000000
namespace L2
open PySem PySem.Spec PyProof.Rows
section
variable {X : Cx} {a b c e : Expr} {ta tb tc te : TE} {pos : Pos}
noncomputable def mNotV (K : PySem.W.Frag) (ta : TE) : TE := fun σ H Q => ta σ H (mTru K fun b H' => Q (.bl (!b)) H')
noncomputable def mAppend : V → List V → Hp → VK → Prop := fun x vs H Q => match x, vs with
  | .ref l, [y] => ∃ xs, H l = some (.lst xs) ∧ xs.length < sizeLine ∧ Q .non (upd H l (.lst (xs ++ [y])))
  | _, _ => False
theorem mm_append : MtR X "list.append" mAppend := by
  intro pins s σ H x xs v us Q I rx rs h
  refine mt_append pins s σ H x xs v us Q I rx rs ?_
  unfold mAppend at h
  split at h
  · obtain ⟨ys, h1, h2, h3⟩ := h
    exact ⟨_, ys, _, rfl, rfl, h1, h2, h3⟩
  · exact h.elim
noncomputable def mPop : V → List V → Hp → VK → Prop := fun x vs H Q => match x, vs with
  | .ref l, [] => ∃ xs y, H l = some (.lst (xs ++ [y])) ∧ Q y (upd H l (.lst xs))
  | _, _ => False
theorem mm_pop : MtR X "list.pop" mPop := by
  intro pins s σ H x xs v us Q I rx rs h
  refine mt_pop pins s σ H x xs v us Q I rx rs ?_
  unfold mPop at h
  split at h
  · obtain ⟨ys, y, h1, h2⟩ := h
    exact ⟨_, _, y, rfl, rfl, h1, by simp, by rw [List.dropLast_concat]; exact h2⟩
  · exact h.elim
noncomputable def mUn (g : Int → Int) : V → Hp → VK → Prop := fun x H Q => match x with | .int i => Q (.int (g i)) H | _ => False
theorem mu_neg : UnR X (unaryOp .USub) (mUn fun i => -i) := by
  intro pins s σ H x v Q I rx h
  refine un_neg pins s σ H x v Q I rx ?_
  cases x <;> first | exact (show False from h).elim | exact ⟨_, rfl, h⟩
end
section
variable {X : Cx}
end
section
variable {X : Cx} {a b c e o : Expr} {es : List Expr} {ta tb tc te to : TE} {t : TA} {pos : Pos} {tg l : Expr} {tl : TE}
theorem pe_bty {x : Str} {n : String} {pos : Pos} (hg : Gl X x) (hm : X.mg x = none) (hv : bootBuiltins x = some (.type n)) (hn : x ≠ "__name__" := by decide) (hd : (x == ("__debug__" : Str)) = false := by decide) : PE X (.Name x pos) (tC (.ty n)) := pe_bltn hg hm hv rfl hn hd
theorem ko_add (K : PySem.W.Frag) (h : X.K = K) : OpR X (binaryOp .Add) (mAdd K) := h ▸ mo_add
theorem kt_tru (K : PySem.W.Frag) (h : X.K = K) (ha : PE X a ta) (he : ∀ whole, isTrue a X.env whole = (do let v ← whole; standAt a.pos; holding [v] (truthy v)) := by intro _; rfl) : PT X a (mTrue K ta) := h ▸ mt_tru ha he
theorem ki_seq (K : PySem.W.Frag) (h : X.K = K) : IxR X (mIx K) := h ▸ mi_seq
theorem kc_len (K : PySem.W.Frag) (h : X.K = K) : CallR X (.builtin "len") (mLen K) := h ▸ mc_len
theorem kpi_list (K : PySem.W.Frag) (h : X.K = K) (hl : PE X l tl) : PI X tg l (iList K tl) := h ▸ pi_list hl
theorem ke_bm0 (K : PySem.W.Frag) (h : X.K = K) {name : Str} {apos cpos : Pos} {T id : String} {r : V → List V → Hp → VK → Prop} (pa : PlainAttrs T) (slot : Slot T name id) (hty : typeOf (.builtin id) = pure (.type "method_descriptor")) (hm : MtR X id r) (ho : PE X o to)
    (hbase : attributeBase o name X.env (eval o X.env) = eval o X.env := by rfl) (hline : (apos.endLine == cpos.line) = true := by rfl) : PE X (.Call (.Attribute o name apos) [] [] cpos) (tBM0 K T r to) := h ▸ pe_bm0 pa slot hty hm ho hbase hline
theorem ke_bm (K : PySem.W.Frag) (h : X.K = K) {name : Str} {apos cpos : Pos} {T id : String} {r : V → List V → Hp → VK → Prop} (pa : PlainAttrs T) (slot : Slot T name id) (hty : typeOf (.builtin id) = pure (.type "method_descriptor")) (hm : MtR X id r) (ho : PE X o to) (ha : PA X (e :: es) t)
    (hbase : attributeBase o name X.env (eval o X.env) = eval o X.env := by rfl)
    (hfew : ((backTo cpos (starEach (e :: es) X.env)).all (fun x => !x.1) && (backToKw cpos (keywordEach [] X.env)).all (fun x => x.1.isSome)
      && decide ((e :: es).length + ([] : List Keyword).length + (if ([] : List Keyword).isEmpty then 0 else 1) < 30)) = true := by rfl)
    (hline : (apos.endLine == cpos.line) = true := by rfl) (hs : starEach (e :: es) X.env = (false, eval e X.env) :: starEach es X.env := by rfl) (hplain : (backTo cpos (starEach es X.env)).any (·.1) = false := by rfl) :
    PE X (.Call (.Attribute o name apos) (e :: es) [] cpos) (tBM K T r to t) := h ▸ pe_bm pa slot hty hm ho ha hbase hfew hline hs hplain
theorem xor_n {b c : Bool} (h : (false ^^ b) = c) : b = c := by cases b <;> exact h
end
theorem atI_lt {α : Type} {xs : List α} {i : Int} (h0 : 0 ≤ i) (h1 : i < (xs.length : Int)) : ∃ v, atI xs i = some v ∧ xs[i.toNat]? = some v := by
  have hk : i.toNat < xs.length := by omega
  have ek : i = ((i.toNat : Nat) : Int) := by omega
  have q : xs[i.toNat]? = some xs[i.toNat] := List.getElem?_eq_getElem hk
  refine ⟨xs[i.toNat], ?_, q⟩
  have := atI_nat q
  rw [← ek] at this
  exact this
theorem same_new {H : Hp} {p : Addr} (h : H p = none) (o : HO) : Same H (upd H p o) := fun b u q => by rw [upd_ne (ne_of_none q h)]; exact q
theorem same_upd {H H' : Hp} {p : Addr} {o : HO} (e : Same H H') (h : H p = none) : Same H (upd H' p o) := fun b u q => by rw [upd_ne (ne_of_none q h)]; exact e b u q
theorem Same.tup {K : PySem.W.Frag} {H H' : Hp} {a : Addr} {xs : List V} (e : Same H H') (h : SqT K H a xs) : SqT K H' a xs := by
  rcases h with (h | ⟨o, h⟩) | h
  · exact .inl (.inl (e _ _ h))
  · exact .inl (.inr ⟨o, e _ _ h⟩)
  · exact .inr h
theorem cdiv_i {i j : Int} (h1 : 0 < j) (h2 : j < 1073741824) : CDiv i j := ⟨h1, h2⟩
theorem mulOk_right {i j : Int} (h : -(2 ^ 64) < j ∧ j < 2 ^ 64) : IntMulOk i j := CMul.ok (.inr h)
theorem mulOk_left {i j : Int} (h : -(2 ^ 64) < i ∧ i < 2 ^ 64) : IntMulOk i j := CMul.ok (.inl h)
section
variable {K : PySem.W.Frag} {σ : St} {H : Hp} {Q : VK} {D : Ends} {ta tb tc te : TE} {t u : TS} {A B : TT} {P : Bool → Hp → Prop} {v x y : V} {i j : Int} {n : Nat} {b : Bool} {p q : Str}
theorem mVar_i (h : σ[n]? = some (some v)) (k : Q v H) : mVar n σ H Q := by unfold mVar; rw [h]; exact k
theorem tC_i (k : Q v H) : tC v σ H Q := k
theorem tOp_i {r : R2} (k : ta σ H fun x H1 => tb σ H1 fun y H2 => r x y H2 Q) : tOp r ta tb σ H Q := k
theorem tUn_i {r : V → Hp → VK → Prop} (k : ta σ H fun x H1 => r x H1 Q) : tUn r ta σ H Q := k
theorem mUn_i {g : Int → Int} (k : Q (.int (g i)) H) : mUn g (.int i) H Q := k
theorem m20_i {g : Int → Int → V} (k : Q (g i j) H) : m20 g (.int i) (.int j) H Q := k
theorem m2_i {C : Int → Int → Prop} {g : Int → Int → V} (c : C i j) (k : Q (g i j) H) : m2 C g (.int i) (.int j) H Q := ⟨c, k⟩
theorem mAdd_i (k : Q (.int (i + j)) H) : mAdd K (.int i) (.int j) H Q := k
theorem mAdd_s (c : p.length + q.length ≤ sizeLine) (k : Q (.str (p ++ q)) H) : mAdd K (.str p) (.str q) H Q := ⟨c, k⟩
theorem mMul_i (c : IntMulOk i j) (k : Q (.int (i * j)) H) : mMul (.int i) (.int j) H Q := ⟨c, k⟩
theorem mEq_i (k : Q (.bl (b ^^ decide (i = j))) H) : mEq b (.int i) (.int j) H Q := k
theorem mEq_s (k : Q (.bl (b ^^ decide (p = q))) H) : mEq b (.str p) (.str q) H Q := k
theorem mEq_b {c d : Bool} (k : Q (.bl (b ^^ decide (c = d))) H) : mEq b (.bl c) (.bl d) H Q := k
theorem mInS_i (k : Q (.bl (b ^^ inS p q)) H) : mInS b (.str p) (.str q) H Q := k
theorem mB_i (k : P b H) : mB P (.bl b) H := k
theorem mTest_i (k : ta σ H (mB P)) : mTest ta σ H P := k
theorem mTrue_i (k : ta σ H (mTru K P)) : mTrue K ta σ H P := k
theorem mTru_b (k : P b H) : mTru K P (.bl b) H := k
theorem mChain_i {r r' : R2} (k : ta σ H fun x H1 => tb σ H1 fun y H2 => r x y H2 (mB fun k H3 => if k = true then tc σ H3 fun w' H4 => r' y w' H4 Q else Q (.bl false) H3)) : mChain r r' ta tb tc σ H Q := k
theorem mAndV_i (k : ta σ H (mB fun c H1 => if c = true then tb σ H1 Q else Q (.bl false) H1)) : mAndV ta tb σ H Q := k
theorem mOrV_i (k : ta σ H (mB fun c H1 => if c = true then Q (.bl true) H1 else tb σ H1 Q)) : mOrV ta tb σ H Q := k
theorem mNotV_i (k : ta σ H (mTru K fun b H' => Q (.bl (!b)) H')) : mNotV K ta σ H Q := k
theorem tIf_i (k : A σ H fun c H1 => if c = true then ta σ H1 Q else tb σ H1 Q) : tIf A ta tb σ H Q := k
theorem tAnd_i (k : A σ H fun c H1 => if c = true then B σ H1 P else P false H1) : tAnd A B σ H P := k
theorem tOr_i (k : A σ H fun c H1 => if c = true then P true H1 else B σ H1 P) : tOr A B σ H P := k
theorem tNot_i (k : A σ H fun c H1 => P (!c) H1) : tNot A σ H P := k
theorem tSeq_i (k : t { D with nx := u D } σ H) : tSeq t u D σ H := k
theorem tNext_i (k : D.nx σ H) : tNext D σ H := k
theorem tRet_i (k : te σ H D.rt) : tRet te D σ H := k
theorem tIfS_i (k : A σ H fun b H1 => if b = true then t D σ H1 else u D σ H1) : tIfS A t u D σ H := k
theorem tAsg_i {g : TG} (k : te σ H fun x H1 => g x σ H1 D.nx) : tAsg te g D σ H := k
theorem tDrop_i (k : te σ H fun _ H1 => D.nx σ H1) : tDrop te D σ H := k
theorem gName_i {N : St → Hp → Prop} (k : N (σ.set n (some v)) H) : gName n v σ H N := k
theorem tCB_i {r : List V → Hp → VK → Prop} {a : TA} (k : a σ H fun vs H1 => r vs H1 Q) : tCB r a σ H Q := k
theorem tCons_i {a : TA} {R : List V → Hp → Prop} (k : ta σ H fun x H1 => a σ H1 fun xs H2 => R (x :: xs) H2) : tCons ta a σ H R := k
theorem tNil_i {R : List V → Hp → Prop} (k : R [] H) : tNil σ H R := k
theorem tBM_i {T : String} {r : V → List V → Hp → VK → Prop} {a : TA} (k : ta σ H fun x H1 => tyV K T x H1 ∧ a σ H1 fun xs H2 => r x xs H2 Q) : tBM K T r ta a σ H Q := k
theorem tBM0_i {T : String} {r : V → List V → Hp → VK → Prop} (k : ta σ H fun x H1 => tyV K T x H1 ∧ r x [] H1 Q) : tBM0 K T r ta σ H Q := k
theorem tTup_i {a : TA} (k : a σ H fun xs H1 => xs.length ≤ sizeLine ∧ ∀ p, H1 p = none → Q (.ref p) (upd H1 p (.tup xs))) : tTup a σ H Q := k
theorem tLst_i {a : TA} (k : a σ H fun xs H1 => xs.length ≤ sizeLine ∧ ∀ p, H1 p = none → Q (.ref p) (upd H1 p (.lst xs))) : tLst a σ H Q := k
theorem tSl_i {r : V → Option Int → Option Int → Hp → VK → Prop} {tl th : TO} (k : te σ H fun x H1 => tl σ H1 fun l H2 => th σ H2 fun u H3 => r x l u H3 Q) : tSl r te tl th σ H Q := k
theorem tNoPart_i {R : Option Int → Hp → Prop} (k : R none H) : tNoPart σ H R := k
theorem mPart_i {R : Option Int → Hp → Prop} (k : te σ H (mI R)) : mPart te σ H R := k
theorem mI_i {R : Option Int → Hp → Prop} (k : R (some i) H) : mI R (.int i) H := k
theorem mLen_l {a : Addr} {xs : List V} (c : SqL K H a xs) (k : Q (.int xs.length) H) : mLen K [.ref a] H Q := .inl ⟨xs, c, k⟩
theorem mLen_t {a : Addr} {xs : List V} (c : SqT K H a xs) (k : Q (.int xs.length) H) : mLen K [.ref a] H Q := .inr ⟨xs, c, k⟩
theorem mIx_l {a : Addr} {xs : List V} (c : SqL K H a xs) (e : atI xs i = some v) (k : Q v H) : mIx K (.ref a) (.int i) H Q := .inl ⟨xs, v, c, e, k⟩
theorem mIx_t {a : Addr} {xs : List V} (c : SqT K H a xs) (e : atI xs i = some v) (k : Q v H) : mIx K (.ref a) (.int i) H Q := .inr ⟨xs, v, c, e, k⟩
theorem mIx_s {c : Nat} (z : p.length ≤ sizeLine) (e : atI p.cps.toList i = some c) (k : Q (.str ⟨#[c]⟩) H) : mIx K (.str p) (.int i) H Q := ⟨z, c, e, k⟩
theorem mAppend_i {a : Addr} {xs : List V} (e : H a = some (.lst xs)) (c : xs.length < sizeLine) (k : Q .non (upd H a (.lst (xs ++ [v])))) : mAppend (.ref a) [v] H Q := ⟨xs, e, c, k⟩
theorem iteB {c d : Prop} (h1 : b = true → c) (h2 : b = false → d) : if b = true then c else d := by
  cases b with
  | true => exact h1 rfl
  | false => exact h2 rfl
theorem tCall0_i {sp : Sp} {E : XK} {a : TA} (k : a σ H fun vs H1 => sp vs H1 Q E) : tCall sp [] E a σ H Q := by
  unfold tCall
  have e : (fun (vs : List V) (H1 : Hp) => sp (vs ++ []) H1 Q E) = fun vs H1 => sp vs H1 Q E := by funext vs H1; rw [List.append_nil]
  rw [e]; exact k
theorem tFor_i {wi : TI} {g : TG} (k : wi σ H fun J H1 => ForW J g t D σ H1) : tFor wi g t D σ H := k
theorem iStr_i {R : It → Hp → Prop} (k : ta σ H fun v H1 => ∃ x, v = .str x ∧ R (Its x) H1) : iStr ta σ H R := k
theorem iList_i {R : It → Hp → Prop} (k : ta σ H fun x H1 => ∃ a, x = .ref a ∧ (∃ xs, SqL K H1 a xs) ∧ R (Itl K a) H1) : iList K ta σ H R := k
theorem iTup_i {R : It → Hp → Prop} (k : ta σ H fun x H1 => ∃ a, x = .ref a ∧ (∃ xs, SqT K H1 a xs) ∧ R (Itt K a) H1) : iTup K ta σ H R := k
theorem iRng1_i {a : TA} {R : It → Hp → Prop} (k : a σ H fun vs H1 => ∃ j : Int, vs = [.int j] ∧ -(2 ^ 62) ≤ j ∧ j < 2 ^ 62 ∧ R (Itr 0 j.toNat) H1) : iRng1 a σ H R := k
theorem tComp_i {wi : TI} {tt : TT} (k : wi σ H fun J H1 => ∀ D, H1 D = none → CompW J tt te σ Q D H1) : tComp wi tt te σ H Q := k
theorem seq_rest (Post : St → Hp → Prop) (h1 : ∀ σ' H', Post σ' H' → u D σ' H') (h2 : (∀ σ' H', Post σ' H' → u D σ' H') → t { D with nx := u D } σ H) : tSeq t u D σ H := h2 h1
theorem ix_str_lt {z : Str} {i : Int} (h0 : 0 ≤ i) (h1 : i < (z.length : Int)) : ∃ c, atI z.cps.toList i = some c := by
  obtain ⟨c, hc, _⟩ := atI_lt (xs := z.cps.toList) h0 (by simp only [Array.length_toList]; exact h1)
  exact ⟨c, hc⟩
end
end L2
set_option Elab.async false
set_option linter.all false
set_option maxRecDepth 100000
set_option maxHeartbeats 4000000
namespace L2
open PySem PySem.Spec PyProof.Rows
mutual
inductive Den (K : PySem.W.Frag) (H : Hp) : V → PyData → Prop
  | non : Den K H .non .none
  | bl (b : Bool) : Den K H (.bl b) (.bool b)
  | int (i : Int) : Den K H (.int i) (.int i)
  | str (x : Str) : Den K H (.str x) (.str x)
  | tup {a : Addr} {us : List V} {ds : List PyData} : SqT K H a us → DenL K H us ds → Den K H (.ref a) (.tuple ds)
inductive DenL (K : PySem.W.Frag) (H : Hp) : List V → List PyData → Prop
  | nil : DenL K H [] []
  | cons {u : V} {us : List V} {d : PyData} {ds : List PyData} : Den K H u d → DenL K H us ds → DenL K H (u :: us) (d :: ds)
end
mutual
theorem Den.monoT {K : PySem.W.Frag} {H H' : Hp} (e : ∀ a xs, SqT K H a xs → SqT K H' a xs) : ∀ {v : V} {d : PyData}, Den K H v d → Den K H' v d
  | _, _, .non => .non
  | _, _, .bl b => .bl b
  | _, _, .int i => .int i
  | _, _, .str x => .str x
  | _, _, .tup h l => .tup (e _ _ h) (DenL.monoT e l)
theorem DenL.monoT {K : PySem.W.Frag} {H H' : Hp} (e : ∀ a xs, SqT K H a xs → SqT K H' a xs) : ∀ {v : List V} {d : List PyData}, DenL K H v d → DenL K H' v d
  | _, _, .nil => .nil
  | _, _, .cons h l => .cons (Den.monoT e h) (DenL.monoT e l)
end
theorem Den.mono {K : PySem.W.Frag} {H H' : Hp} (e : Same H H') {v : V} {d : PyData} (h : Den K H v d) : Den K H' v d := h.monoT fun _ _ q => e.tup q
theorem DenL.mono {K : PySem.W.Frag} {H H' : Hp} (e : Same H H') {v : List V} {d : List PyData} (h : DenL K H v d) : DenL K H' v d := h.monoT fun _ _ q => e.tup q
theorem tup_lst {K : PySem.W.Frag} {H : Hp} {p : Addr} {ys : List V} {o : HO} (h : H p = some (.lst ys)) : ∀ a xs, SqT K H a xs → SqT K (upd H p o) a xs := fun a xs q => by
  rcases q with (q | ⟨o', q⟩) | q
  · exact .inl (.inl (by rw [upd_ne (ne_of q h (fun z => by cases z))]; exact q))
  · exact .inl (.inr ⟨o', by rw [upd_ne (ne_of q h (fun z => by cases z))]; exact q⟩)
  · exact .inr q
theorem Den.lst {K : PySem.W.Frag} {H : Hp} {p : Addr} {ys : List V} {o : HO} (h : H p = some (.lst ys)) {v : V} {d : PyData} (q : Den K H v d) : Den K (upd H p o) v d := q.monoT (tup_lst h)
theorem DenL.lst {K : PySem.W.Frag} {H : Hp} {p : Addr} {ys : List V} {o : HO} (h : H p = some (.lst ys)) {v : List V} {d : List PyData} (q : DenL K H v d) : DenL K (upd H p o) v d := q.monoT (tup_lst h)
section
variable {K : PySem.W.Frag} {H : Hp}
theorem DenL.length : ∀ {us : List V} {ds : List PyData}, DenL K H us ds → us.length = ds.length
  | _, _, .nil => rfl
  | _, _, .cons _ l => by rw [List.length_cons, List.length_cons, DenL.length l]
theorem DenL.get : ∀ {us : List V} {ds : List PyData} {i : Nat} {u : V}, DenL K H us ds → us[i]? = some u → ∃ d, ds[i]? = some d ∧ Den K H u d
  | _, _, _, _, .nil, e => by simp at e
  | _, _, 0, _, .cons h _, e => by simp at e; subst e; exact ⟨_, rfl, h⟩
  | _, _, i + 1, u, .cons _ l, e => by
    obtain ⟨d, h1, h2⟩ := DenL.get (i := i) (u := u) l (by simpa using e)
    exact ⟨d, by simpa using h1, h2⟩
theorem DenL.append : ∀ {us vs : List V} {ds es : List PyData}, DenL K H us ds → DenL K H vs es → DenL K H (us ++ vs) (ds ++ es)
  | _, _, _, _, .nil, l => l
  | _, _, _, _, .cons h t, l => .cons h (DenL.append t l)
theorem DenL.take : ∀ {us : List V} {ds : List PyData} (n : Nat), DenL K H us ds → DenL K H (us.take n) (ds.take n)
  | _, _, 0, _ => .nil
  | _, _, _ + 1, .nil => .nil
  | _, _, n + 1, .cons h t => .cons h (DenL.take n t)
theorem DenL.drop : ∀ {us : List V} {ds : List PyData} (n : Nat), DenL K H us ds → DenL K H (us.drop n) (ds.drop n)
  | _, _, 0, l => l
  | _, _, _ + 1, .nil => .nil
  | _, _, n + 1, .cons _ t => DenL.drop n t
end
section
variable {X : Cx} {pins : List (Addr × Obj)} {σ : St} {H : Hp} {s : Shared}
theorem depthAll_get : ∀ {ds : List PyData} {i : Nat} {d : PyData}, ds[i]? = some d → d.depth ≤ PyData.depthAll ds
  | [], _, _, e => by simp at e
  | x :: r, 0, d, e => by simp at e; subst e; unfold PyData.depthAll; omega
  | x :: r, i + 1, d, e => by
    have := depthAll_get (ds := r) (i := i) (d := d) (by simpa using e)
    unfold PyData.depthAll; omega
theorem eq_same (I : Inv X pins σ H s) : ∀ (n : Nat) (A : Around) (d : PyData) (v v' : V) (u u' : Value), d.depth ≤ n → A.units + n < cLine → Den X.K H v d → Den X.K H v' d → RelV v u → RelV v' u' → SeqAt.EqAt A s u u' true := by
  intro n
  induction n with
  | zero =>
    intro A d v v' u u' hd hu h h' r r'
    cases h with
    | non => cases h'; cases r; cases r'; exact SeqAt.EqAt.same _
    | bl b => cases h'; cases r; cases r'; exact SeqAt.EqAt.same _
    | int i =>
      cases h'
      obtain ⟨t, rfl⟩ := r
      obtain ⟨t', rfl⟩ := r'
      have := SeqAt.EqAt.int_int (A := A) (s := s) i t i t'
      simpa using this
    | str x =>
      cases h'
      obtain ⟨t, rfl⟩ := r
      obtain ⟨t', rfl⟩ := r'
      have := SeqAt.EqAt.str_str (A := A) (s := s) x t x t'
      simpa using this
    | tup _ _ => simp [PyData.depth] at hd
  | succ n ih =>
    intro A d v v' u u' hd hu h h' r r'
    cases h with
    | non => cases h'; cases r; cases r'; exact SeqAt.EqAt.same _
    | bl b => cases h'; cases r; cases r'; exact SeqAt.EqAt.same _
    | int i =>
      cases h'
      obtain ⟨t, rfl⟩ := r
      obtain ⟨t', rfl⟩ := r'
      have := SeqAt.EqAt.int_int (A := A) (s := s) i t i t'
      simpa using this
    | str x =>
      cases h'
      obtain ⟨t, rfl⟩ := r
      obtain ⟨t', rfl⟩ := r'
      have := SeqAt.EqAt.str_str (A := A) (s := s) x t x t'
      simpa using this
    | @tup a us ds hs hl =>
      cases h' with
      | @tup b us' _ hs' hl' =>
        cases r
        cases r'
        by_cases e : a = b
        · subst e; exact SeqAt.EqAt.same _
        · obtain ⟨its, rv, p, _⟩ := I.tuple hs
          obtain ⟨its', rv', p', _⟩ := I.tuple hs'
          have l1 := rv.length
          have l2 := rv'.length
          have l3 := hl.length
          have l4 := hl'.length
          have hd' : PyData.depthAll ds ≤ n := by simp only [PyData.depth] at hd; omega
          have key := SeqAt.RcAt.tuples (A := A) (e := fun _ => true) (show s.heap.IsTuple a its.toArray from p) (show s.heap.IsTuple b its'.toArray from p') (by omega) (fun j h1 h2 => by
            have h1 : j < its.length := by simpa using h1
            have h2 : j < its'.length := by simpa using h2
            have x1 : us[j]? = some us[j] := List.getElem?_eq_getElem (by omega)
            have x2 : us'[j]? = some us'[j] := List.getElem?_eq_getElem (by omega)
            obtain ⟨d, e1, d1⟩ := hl.get x1
            obtain ⟨d', e2, d2⟩ := hl'.get x2
            rw [e1] at e2; cases e2
            obtain ⟨w1, y1, z1⟩ := rv.get x1
            obtain ⟨w2, y2, z2⟩ := rv'.get x2
            have q1 : its.toArray[j] = w1 := by
              have := List.getElem?_eq_getElem h1
              rw [y1] at this
              simpa using (Option.some.inj this).symm
            have q2 : its'.toArray[j] = w2 := by
              have := List.getElem?_eq_getElem h2
              rw [y2] at this
              simpa using (Option.some.inj this).symm
            rw [q1, q2]
            exact ih A.in1 d _ _ _ _ (Nat.le_trans (depthAll_get e1) hd') (by show A.units + 1 + n < cLine; omega) d1 d2 z1 z2)
          have e3 : its.toArray.size = its'.toArray.size := by simp only [List.size_toArray]; omega
          rw [e3] at key
          have e4 : ((List.range (min its'.toArray.size its'.toArray.size)).all (fun _ => true) && its'.toArray.size == its'.toArray.size) = true := by simp
          rw [e4] at key
          exact SeqAt.EqAt.of_refs e key
end
section
variable {X : Cx} {a b c e : Expr} {ta tb tc te : TE} {pos : Pos} {tg l : Expr} {tl : TE}
noncomputable def dEq (K : PySem.W.Frag) (n : Bool) : R2 := fun x y H Q => ∃ (p q : Addr) (us us' : List V) (ds : List PyData), x = .ref p ∧ y = .ref q ∧ ((SqT K H p us ∧ SqT K H q us') ∨ (SqL K H p us ∧ SqL K H q us')) ∧ DenL K H us ds ∧ DenL K H us' ds ∧ PyData.depthAll ds ≤ 149 ∧ Q (.bl (!n)) H
theorem items_eq {pins : List (Addr × Obj)} {σ : St} {H : Hp} {s : Shared} (I : Inv X pins σ H s) {A : Around} {us us' : List V} {ds : List PyData} {its its' : List Value} (hl : DenL X.K H us ds) (hl' : DenL X.K H us' ds) (rv : Vals us its) (rv' : Vals us' its') (hd : PyData.depthAll ds ≤ 149) (hu : A.units + 150 < cLine) :
    ∀ j (h1 : j < its.toArray.size) (h2 : j < its'.toArray.size), SeqAt.EqAt A.in1 s its.toArray[j] its'.toArray[j] true := fun j h1 h2 => by
  have l1 := rv.length
  have l2 := rv'.length
  have l3 := hl.length
  have l4 := hl'.length
  have h1 : j < its.length := by simpa using h1
  have h2 : j < its'.length := by simpa using h2
  have x1 : us[j]? = some us[j] := List.getElem?_eq_getElem (by omega)
  have x2 : us'[j]? = some us'[j] := List.getElem?_eq_getElem (by omega)
  obtain ⟨d, e1, d1⟩ := hl.get x1
  obtain ⟨d', e2, d2⟩ := hl'.get x2
  rw [e1] at e2; cases e2
  obtain ⟨w1, y1, z1⟩ := rv.get x1
  obtain ⟨w2, y2, z2⟩ := rv'.get x2
  have q1 : its.toArray[j] = w1 := by
    have := List.getElem?_eq_getElem h1
    rw [y1] at this
    simpa using (Option.some.inj this).symm
  have q2 : its'.toArray[j] = w2 := by
    have := List.getElem?_eq_getElem h2
    rw [y2] at this
    simpa using (Option.some.inj this).symm
  rw [q1, q2]
  exact eq_same I 149 A.in1 d _ _ _ _ (Nat.le_trans (depthAll_get e1) hd) (by show A.units + 1 + 149 < cLine; omega) d1 d2 z1 z2
theorem ko_eqD (K : PySem.W.Frag) (hK : X.K = K) (hu : X.A.units + 150 < cLine) : OpR X (compareOp .Eq) (dEq K false) := by
  subst hK
  intro pins s σ H x y v u Q I rx ry h
  obtain ⟨p, q, us, us', ds, rfl, rfl, h, hl, hl', hd, k⟩ := h
  cases rx
  cases ry
  rcases h with ⟨hs, hs'⟩ | ⟨hs, hs'⟩
  · obtain ⟨its, rv, p1, _⟩ := I.tuple hs
    obtain ⟨its', rv', p2, _⟩ := I.tuple hs'
    have e3 : its.toArray.size = its'.toArray.size := by simp only [List.size_toArray]; rw [← rv.length, ← rv'.length, hl.length, hl'.length]
    refine SeqAt.eq_tupleAt (e := fun _ => true) (show s.heap.IsTuple p its.toArray from p1) (show s.heap.IsTuple q its'.toArray from p2) (by omega) (items_eq I hl hl' rv rv' hd hu) ?_
    rw [e3]
    exact ⟨.bl true, H, I, by simp [RelV], k⟩
  · obtain ⟨its, rv, p1, _⟩ := I.list hs
    obtain ⟨its', rv', p2, _⟩ := I.list hs'
    have e3 : its.toArray.size = its'.toArray.size := by simp only [List.size_toArray]; rw [← rv.length, ← rv'.length, hl.length, hl'.length]
    refine SeqAt.eq_listAt (e := fun _ => true) p1.isList p2.isList e3 (by omega) (items_eq I hl hl' rv rv' hd hu) ?_
    exact ⟨.bl true, H, I, by simp [RelV], k⟩
theorem ko_neD (K : PySem.W.Frag) (hK : X.K = K) (hu : X.A.units + 150 < cLine) : OpR X (compareOp .NotEq) (dEq K true) := by
  subst hK
  intro pins s σ H x y v u Q I rx ry h
  obtain ⟨p, q, us, us', ds, rfl, rfl, h, hl, hl', hd, k⟩ := h
  cases rx
  cases ry
  rcases h with ⟨hs, hs'⟩ | ⟨hs, hs'⟩
  · obtain ⟨its, rv, p1, _⟩ := I.tuple hs
    obtain ⟨its', rv', p2, _⟩ := I.tuple hs'
    have e3 : its.toArray.size = its'.toArray.size := by simp only [List.size_toArray]; rw [← rv.length, ← rv'.length, hl.length, hl'.length]
    refine SeqAt.RcNeAt.tuples (e := fun _ => true) (show s.heap.IsTuple p its.toArray from p1) (show s.heap.IsTuple q its'.toArray from p2) (by omega) (items_eq I hl hl' rv rv' hd hu) X.prog X.w _ _ ?_
    rw [e3]
    exact ⟨.bl false, H, I, by simp [RelV], k⟩
  · obtain ⟨its, rv, p1, _⟩ := I.list hs
    obtain ⟨its', rv', p2, _⟩ := I.list hs'
    have e3 : its.toArray.size = its'.toArray.size := by simp only [List.size_toArray]; rw [← rv.length, ← rv'.length, hl.length, hl'.length]
    refine SeqAt.RcNeAt.lists (e := fun _ => true) p1.isList p2.isList e3 (by omega) (items_eq I hl hl' rv rv' hd hu) X.prog X.w _ _ ?_
    exact ⟨.bl false, H, I, by simp [RelV], k⟩
theorem room150 {k : Nat} {A : Around} (hr : Room k A) : A.units + 150 < cLine := by have := hr.un; omega
noncomputable def mSlL (K : PySem.W.Frag) : V → Option Int → Option Int → Hp → VK → Prop := fun x lo hi H Q => ∃ a xs, x = .ref a ∧ SqL K H a xs ∧ ∀ p, H p = none → Q (.ref p) (upd H p (.lst (cutV xs lo hi)))
theorem ks_list (K : PySem.W.Frag) (h : X.K = K) : SlR X (mSlL K) := h ▸ sl_list
noncomputable def mTup (K : PySem.W.Frag) : List V → Hp → VK → Prop := fun vs H Q => ∃ p ys, vs = [.ref p] ∧ ((SqL K H p ys ∧ ∀ l, H l = none → Q (.ref l) (upd H l (.tup ys))) ∨ (SqT K H p ys ∧ Q (.ref p) H))
theorem kc_tuple (K : PySem.W.Frag) (h : X.K = K) : CallR X (.type "tuple") (mTup K) := h ▸ call_tuple_of
noncomputable def mLst (K : PySem.W.Frag) : List V → Hp → VK → Prop := fun vs H Q => ∃ p ys, vs = [.ref p] ∧ (SqL K H p ys ∨ SqT K H p ys) ∧ ∀ l, H l = none → Q (.ref l) (upd H l (.lst ys))
theorem kc_list (K : PySem.W.Frag) (h : X.K = K) : CallR X (.type "list") (mLst K) := h ▸ call_list_of
noncomputable def mMin : List V → Hp → VK → Prop := fun vs H Q => ∃ i j, vs = [.int i, .int j] ∧ Q (.int (if j < i then j else i)) H
noncomputable def mMax : List V → Hp → VK → Prop := fun vs H Q => ∃ i j, vs = [.int i, .int j] ∧ Q (.int (if j > i then j else i)) H
end
open PySem.AutoSeq1 in
open PySem.MeetsSeq PySem.MeetsSeq2 PySem.MeetsSeq3 in
theorem extend_tup (l : Addr) (items : Array Value) (n : Nat) (b : Addr) (items2 : Array Value) (n2 : Nat) (dd : Option Addr) (sl : Array (Option Value)) (hs0 : ¬(!items.isEmpty && Builtin.List.listTooLong (items.size + items2.size)) = true) (hs1 : items.size ≤ sizeLine) (hs2 : items.size + items2.size ≤ sizeLine + 1) :
    Meets (Builtin.«list.extend» ⟨[.ref l, .ref b], []⟩) (fun _ R s => s.heap.get? l = some { cls := .type "list", dict := none, data := .seq items n, slots := #[] } ∧ s.heap.get? b = some { cls := .type "tuple", dict := dd, data := .seq items2 n2, slots := sl } ∧
      R (.ok (.ret Value.none)) { s with heap := s.heap.update l (Obj.mapSeq fun x => x ++ items2), toks := s.toks }) :=
  .of_wp fun prog w A R s h => by
    obtain ⟨hp, g, d, tk, os⟩ := s
    obtain ⟨hl, hb, h⟩ := h
    have f1 := idx_int
    have f2 := PySem.AutoSeq1.sub_tuple_tuple
    have f3 := PySem.AutoSeq1.sub_list_list
    have f4 := PySem.AutoSeq1.sub_tuple_list
    have f5 := PySem.AutoSeq1.sub_list_tuple
    have hz' : (items ++ items2).size ≤ sizeLine + 1 := by rw [Array.size_append]; exact hs2
    wp_walk using (wpAny_updateSeq hl rfl (hz := hs1) (_hz' := hz')), wpAny_loadPart' hl, wpAny_loadPart' hb
    exact ⟨_, rfl, h⟩
section
variable {X : Cx}
noncomputable def mExt (K : PySem.W.Frag) : V → List V → Hp → VK → Prop := fun x vs H Q => ∃ l b xs zs, x = .ref l ∧ vs = [.ref b] ∧ H l = some (.lst xs) ∧ (H b = some (.lst zs) ∨ SqT K H b zs) ∧ xs.length + zs.length ≤ sizeLine ∧ Q .non (upd H l (.lst (xs ++ zs)))
theorem km_extend (K : PySem.W.Frag) (hK : X.K = K) : MtR X "list.extend" (mExt K) := by
  subst hK
  intro pins s σ H x vs v us Q I rx rv h
  obtain ⟨l, b, xs, zs, e1, e2, hH, hB, hz, q⟩ := h
  rcases hB with hB | hB
  · exact mt_extend pins s σ H x vs v us Q I rx rv ⟨l, b, xs, zs, e1, e2, hH, hB, hz, q⟩
  · subst e1 e2
    cases rx
    obtain ⟨u, rfl, ru⟩ := rv.one
    cases ru
    obtain ⟨z, its, n, r, hl, e⟩ := I.lstM hH
    obtain ⟨its2, r2, pl, z2⟩ := I.tuple hB
    obtain ⟨⟨cls, dd, data, sl⟩, ho, hc, n2, hd⟩ := pl
    simp only at hc hd
    subst hc hd
    have hl2 := r2.length
    have hsz : its.toArray.size + its2.toArray.size ≤ sizeLine := by rw [List.size_toArray, List.size_toArray]; omega
    have hlong : ¬ (!its.toArray.isEmpty && Builtin.List.listTooLong (its.toArray.size + its2.toArray.size)) = true := by
      rw [notLongL hsz, Bool.and_false]
      exact Bool.false_ne_true
    refine call_meets F.slot_list_extend ⟨_, e, rfl⟩ F.entry_list_extend (F.args_list_extend_2 _ _) (extend_tup l its.toArray n b its2.toArray n2 dd sl hlong (by rw [List.size_toArray]; omega) (by omega)) ⟨e, ho, ?_⟩
    refine ⟨.non, _, I.lset (its' := its ++ its2) hH e (by simp) (r.append r2) ?_, rfl, q⟩
    rw [List.length_append]
    omega
end
section
variable {prog : Program} {w : World} {A : Around} {E : Value → Shared → Prop} {s : Shared}
end
section
variable {X : Cx}
end
section
variable {σ : St} {H : Hp} {D : Ends} {t : TS} {c : TT}
noncomputable def WhileW (c : TT) (t : TS) (D : Ends) (σ : St) (H : Hp) : Prop := tWhile c t D σ H
theorem tWhile_i (k : WhileW c t D σ H) : tWhile c t D σ H := k
theorem while_row (Pv : Nat → St → Hp → Prop) (n : Nat) (h0 : Pv n σ H)
    (hs : ∀ n σ H (R : Bool → Hp → Prop), Pv n σ H → (∀ H1, (∀ (D' : Ends), D'.rt = D.rt → D'.bk = D.nx → (∀ σ' H' m, m < n → Pv m σ' H' → D'.nx σ' H') → (∀ σ' H' m, m < n → Pv m σ' H' → D'.ct σ' H') → t D' σ H1) → R true H1) → (∀ H1, D.nx σ H1 → R false H1) → c σ H R) : WhileW c t D σ H := by
  refine ⟨Pv, ⟨n, h0⟩, fun m σ H p => ?_⟩
  refine hs m σ H _ p (fun H1 k => ?_) (fun H1 k => k)
  exact ⟨fun σ' H' => ∃ m', m' < m ∧ Pv m' σ' H', fun _ _ h => h, k _ rfl rfl (fun _ _ m' hm hp => ⟨m', hm, hp⟩) (fun _ _ m' hm hp => ⟨m', hm, hp⟩)⟩
end
end L2
set_option Elab.async false
set_option linter.all false
set_option maxRecDepth 100000
set_option maxHeartbeats 4000000
namespace L2
open PySem PySem.Spec PyProof.Rows
theorem kit_ty {K : PySem.W.Frag} {T n : String} {b : Bool} (h : (if (Value.type T == Value.type n) = true then some true else if PySem.W.kitMeta n = true then (fastBuiltinMro T).map (·.contains (.type n)) else none) = some b) : PySem.W.kitOne K (.type T) (.type n) = some b := h
section
variable {X : Cx} {a : Expr} {ta : TE}
noncomputable def tyN (K : PySem.W.Frag) (H : Hp) : V → String → Prop
  | .non, T => T = "NoneType"
  | .bl _, T => T = "bool"
  | .int _, T => T = "int"
  | .str _, T => T = "str"
  | .ref p, T => (T = "list" ∧ ∃ xs, SqL K H p xs) ∨ (T = "tuple" ∧ ∃ xs, SqT K H p xs) ∨ (T = "dict" ∧ ∃ kvs, H p = some (.dK kvs))
  | _, _ => False
noncomputable def mIs (K : PySem.W.Frag) : List V → Hp → VK → Prop := fun vs H Q => ∃ x n T b, vs = [x, .ty n] ∧ tyN K H x T ∧ (∀ K' : PySem.W.Frag, PySem.W.kitOne K' (.type T) (.type n) = some b) ∧ Q (.bl b) H
theorem kc_is (K : PySem.W.Frag) (hK : X.K = K) : CallR X (.builtin "isinstance") (mIs K) := by
  subst hK
  intro pins s σ H xs us Q I r h
  obtain ⟨x, n, T, b, rfl, ht, hk, q⟩ := h
  obtain ⟨u, w', rfl, r1, r2⟩ := vals2 r
  cases r2
  have fin : ∀ tk, EP X pins σ Q (.bool b) { s with toks := tk } := fun tk => ⟨.bl b, H, I.tok _, rfl, q⟩
  cases x with
  | non => cases ht; exact isinst_ok I r1 .non (hk _) fin
  | bl y => cases ht; exact isinst_ok I r1 (.bl y) (hk _) fin
  | int i => cases ht; exact isinst_ok I r1 (.int i) (hk _) fin
  | str z => cases ht; exact isinst_ok I r1 (.str z) (hk _) fin
  | ref p =>
    cases r1
    rcases ht with ⟨rfl, xs, hs⟩ | ⟨rfl, xs, hs⟩ | ⟨rfl, kvs, hs⟩
    · obtain ⟨its, _, ⟨o, n', h1, h2, _⟩, _⟩ := I.list hs
      exact PySem.W.kia_one PySem.W.kitx_list I.kIn ⟨o, h1, h2⟩ (hk _) (fun z => nomatch z) fin
    · obtain ⟨its, _, ⟨o, h1, h2, _⟩, _⟩ := I.tuple hs
      exact PySem.W.kia_one PySem.W.kitx_tuple I.kIn ⟨o, h1, h2⟩ (hk _) (fun z => nomatch z) fin
    · exact isinst_ok (x := .ref p) I rfl (.dK hs) (hk _) fin
  | _ => exact (show False from ht).elim
end
section
variable {K : PySem.W.Frag} {H : Hp} {Q : VK} {i : Int} {p : Str} {b : Bool} {a : Addr} {xs : List V}
theorem is_str (k : Q (.bl true) H) : mIs K [.str p, .ty "str"] H Q := ⟨_, _, _, true, rfl, rfl, fun _ => kit_same _ _, k⟩
theorem is_int (k : Q (.bl true) H) : mIs K [.int i, .ty "int"] H Q := ⟨_, _, _, true, rfl, rfl, fun _ => kit_same _ _, k⟩
theorem is_bool (k : Q (.bl true) H) : mIs K [.bl b, .ty "bool"] H Q := ⟨_, _, _, true, rfl, rfl, fun _ => kit_same _ _, k⟩
theorem is_int_bool (k : Q (.bl false) H) : mIs K [.int i, .ty "bool"] H Q := ⟨_, _, _, false, rfl, rfl, fun _ => kit_ty (by decide +kernel), k⟩
theorem is_tup (c : SqT K H a xs) (k : Q (.bl true) H) : mIs K [.ref a, .ty "tuple"] H Q := ⟨_, _, _, true, rfl, .inr (.inl ⟨rfl, xs, c⟩), fun _ => kit_same _ _, k⟩
theorem atI_mem {α : Type} {xs : List α} {i : Int} {v : α} (h : atI xs i = some v) : v ∈ xs := by
  obtain ⟨j, _, e, _⟩ := atI_get h
  exact List.mem_of_getElem? e
theorem str_app (l m : List Nat) : (⟨l.toArray⟩ : Str) ++ ⟨m.toArray⟩ = ⟨(l ++ m).toArray⟩ := by
  apply Str.ext'
  show l.toArray ++ m.toArray = (l ++ m).toArray
  simp
theorem str_len (l : List Nat) : (⟨l.toArray⟩ : Str).length = l.length := by simp [Str.length]
theorem ints_at {ns : List Int} {i : Int} {v : V} (h : atI (ns.map V.int) i = some v) : ∃ n, v = .int n := by
  have := atI_mem h
  obtain ⟨n, _, e⟩ := List.mem_map.mp this
  exact ⟨n, e.symm⟩
theorem ints_get {ns : List Int} {i : Nat} (h : i < (ns.map V.int).length) : ∃ n, (ns.map V.int).getD i .non = .int n := by
  rw [List.length_map] at h
  rw [List.getD_eq_getElem?_getD, List.getElem?_map, List.getElem?_eq_getElem h]
  exact ⟨_, rfl⟩
theorem mMin_i {j : Int} (k : Q (.int (if j < i then j else i)) H) : mMin [.int i, .int j] H Q := ⟨i, j, rfl, k⟩
theorem mExt_t {zs : List V} {l : Addr} (e : H l = some (.lst xs)) (c : SqT K H a zs) (z : xs.length + zs.length ≤ sizeLine) (k : Q .non (upd H l (.lst (xs ++ zs)))) : mExt K (.ref l) [.ref a] H Q := ⟨l, a, xs, zs, rfl, rfl, e, .inr c, z, k⟩
theorem mPop_i {l : Addr} {v : V} (e : H l = some (.lst (xs ++ [v]))) (k : Q v (upd H l (.lst xs))) : mPop (.ref l) [] H Q := ⟨xs, v, e, k⟩
theorem iRng2_i {σ : St} {ta : TA} {R : It → Hp → Prop} (k : ta σ H fun vs H1 => ∃ i j : Int, vs = [.int i, .int j] ∧ (-(2 ^ 62) ≤ i ∧ i < 2 ^ 62 ∧ -(2 ^ 62) ≤ j ∧ j < 2 ^ 62) ∧ R (Itr i (j - i).toNat) H1) : iRng2 ta σ H R := k
end
end L2
set_option Elab.async false
set_option linter.all false
set_option maxRecDepth 100000
set_option maxHeartbeats 4000000
namespace L2
open PySem PySem.Spec PyProof.Rows
section
variable {X : Cx}
end
noncomputable abbrev tailS : Str := Str.ofString "abcdefghijklmnopqrstuvwxyzABCDEFGHIJKLMNOPQRSTUVWXYZ0123456789"
noncomputable abbrev one (c : Nat) : Str := ⟨#[c]⟩
noncomputable abbrev sp_l_number : Sp := fun vs H Q _ => match vs with | [.int c] => ∀ (n : Int) (H' : Hp), -(10 ^ 30) < n → n < 10 ^ 30 → Same H H' → Q (.int n) H' | _ => False
theorem ln {n : Nat} (h : n ≤ 100000) : n ≤ sizeLine := by rw [sizeLine_eq]; omega
theorem ln1 {n : Nat} (h : n < 100000) : n < sizeLine := by rw [sizeLine_eq]; omega
theorem tl62 : tailS.length = 62 := by decide +kernel
end L2
set_option Elab.async false
set_option linter.all false
set_option maxRecDepth 100000
set_option maxHeartbeats 4000000
namespace L2
open PySem PySem.Spec PyProof.Rows
section
variable {X : Cx} {e : Expr} {te : TE} {pos : Pos}
noncomputable def mAug (i : Nat) (te : TE) (ti : TIp) : TS := fun D σ H => ∃ x, σ[i]? = some (some x) ∧ te σ H fun y H1 => ti x y H1 fun z H2 => D.nx (σ.set i (some z)) H2
noncomputable def mIAdd : TIp := fun x y H Q => match x, y with
  | .int i, .int j => Q (.int (i + j)) H
  | .str i, .str j => i.length + j.length ≤ sizeLine ∧ Q (.str (i ++ j)) H
  | _, _ => False
theorem mi_add : PIp X .Add mIAdd := by
  intro pins s σ H x y v u Q I rx ry h
  refine (OpR.or iop_add iop_add_str) pins s σ H x y v u Q I rx ry ?_
  cases x <;> cases y <;> first
    | exact (show False from h).elim
    | exact .inl ⟨_, _, rfl, rfl, h⟩
    | exact .inr ⟨_, _, rfl, rfl, h.1, h.2⟩
end
section
variable {σ : St} {H : Hp} {Q : VK} {D : Ends} {te : TE} {n : Nat} {v : V} {i j : Int}
theorem mAug_i {ti : TIp} (h : σ[n]? = some (some v)) (k : te σ H fun y H1 => ti v y H1 fun z H2 => D.nx (σ.set n (some z)) H2) : mAug n te ti D σ H := ⟨v, h, k⟩
theorem mIAdd_i (k : Q (.int (i + j)) H) : mIAdd (.int i) (.int j) H Q := k
end
inductive Trm where
  | num (n : Int)
  | any (x : Str)
  | app (sg : Str) (ks : List Trm)
noncomputable abbrev numS : Str := Str.ofString "num"
noncomputable abbrev anyS : Str := Str.ofString "any"
noncomputable abbrev appS : Str := Str.ofString "app"
mutual
noncomputable def Trm.data : Trm → PyData
  | .num n => .tuple [.str numS, .int n]
  | .any x => .tuple [.str anyS, .str x]
  | .app sg ks => .tuple [.str appS, .str sg, .tuple (Trm.dataL ks)]
noncomputable def Trm.dataL : List Trm → List PyData
  | [] => []
  | t :: r => t.data :: Trm.dataL r
end
mutual
noncomputable def Trm.size : Trm → Nat
  | .num _ => 1
  | .any _ => 1
  | .app _ ks => 1 + Trm.sizeL ks
noncomputable def Trm.sizeL : List Trm → Nat
  | [] => 0
  | t :: r => t.size + Trm.sizeL r
end
theorem Trm.size_pos : ∀ t : Trm, 1 ≤ t.size
  | .num _ => Nat.le_refl 1
  | .any _ => Nat.le_refl 1
  | .app _ ks => by unfold Trm.size; omega
mutual
theorem Trm.depth_le : ∀ t : Trm, t.data.depth ≤ 2 * t.size
  | .num _ => by simp [Trm.data, Trm.size, PyData.depth, PyData.depthAll]
  | .any _ => by simp [Trm.data, Trm.size, PyData.depth, PyData.depthAll]
  | .app _ ks => by
    have := Trm.depthL_le ks
    simp only [Trm.data, Trm.size, PyData.depth, PyData.depthAll]
    omega
theorem Trm.depthL_le : ∀ ts : List Trm, PyData.depthAll (Trm.dataL ts) ≤ 2 * Trm.sizeL ts
  | [] => by simp [Trm.dataL, Trm.sizeL, PyData.depthAll]
  | t :: r => by
    have h1 := Trm.depth_le t
    have h2 := Trm.depthL_le r
    simp only [Trm.dataL, Trm.sizeL, PyData.depthAll]
    omega
end
theorem Trm.dataL_map : ∀ ts : List Trm, Trm.dataL ts = ts.map Trm.data
  | [] => rfl
  | t :: r => by rw [Trm.dataL, Trm.dataL_map r, List.map_cons]
theorem Trm.sizeL_map : ∀ ts : List Trm, Trm.sizeL ts = (ts.map Trm.size).sum
  | [] => rfl
  | t :: r => by rw [Trm.sizeL, Trm.sizeL_map r, List.map_cons, List.sum_cons]
theorem Trm.sizeL_app (a b : List Trm) : Trm.sizeL (a ++ b) = Trm.sizeL a + Trm.sizeL b := by
  rw [Trm.sizeL_map, Trm.sizeL_map, Trm.sizeL_map, List.map_append, List.sum_append]
theorem Trm.len_le (ts : List Trm) : ts.length ≤ Trm.sizeL ts := by
  induction ts with
  | nil => simp
  | cons t r ih =>
    have := t.size_pos
    rw [Trm.sizeL, List.length_cons]; omega
section
variable {K : PySem.W.Frag} {H : Hp} {v : V}
theorem den_num {n : Int} (h : Den K H v (Trm.num n).data) : ∃ a, v = .ref a ∧ SqT K H a [.str numS, .int n] := by
  unfold Trm.data at h
  cases h with
  | tup hs hl =>
    cases hl with
    | cons h1 hl =>
      cases hl with
      | cons h2 hl =>
        cases hl
        cases h1
        cases h2
        exact ⟨_, rfl, hs⟩
theorem den_any {x : Str} (h : Den K H v (Trm.any x).data) : ∃ a, v = .ref a ∧ SqT K H a [.str anyS, .str x] := by
  unfold Trm.data at h
  cases h with
  | tup hs hl =>
    cases hl with
    | cons h1 hl =>
      cases hl with
      | cons h2 hl =>
        cases hl
        cases h1
        cases h2
        exact ⟨_, rfl, hs⟩
theorem den_app {sg : Str} {ks : List Trm} (h : Den K H v (Trm.app sg ks).data) : ∃ a b us, v = .ref a ∧ SqT K H a [.str appS, .str sg, .ref b] ∧ SqT K H b us ∧ DenL K H us (Trm.dataL ks) := by
  unfold Trm.data at h
  cases h with
  | tup hs hl =>
    cases hl with
    | cons h1 hl =>
      cases hl with
      | cons h2 hl =>
        cases hl with
        | cons h3 hl =>
          cases hl
          cases h1
          cases h2
          cases h3 with
          | tup hb hk => exact ⟨_, _, _, rfl, hs, hb, hk⟩
theorem num_den {a : Addr} {n : Int} (h : SqT K H a [.str numS, .int n]) : Den K H (.ref a) (Trm.num n).data := by
  unfold Trm.data
  exact .tup h (.cons (.str _) (.cons (.int _) .nil))
theorem any_den {a : Addr} {x : Str} (h : SqT K H a [.str anyS, .str x]) : Den K H (.ref a) (Trm.any x).data := by
  unfold Trm.data
  exact .tup h (.cons (.str _) (.cons (.str _) .nil))
theorem app_den {a b : Addr} {sg : Str} {ks : List Trm} {us : List V} (h : SqT K H a [.str appS, .str sg, .ref b]) (hb : SqT K H b us) (hk : DenL K H us (Trm.dataL ks)) : Den K H (.ref a) (Trm.app sg ks).data := by
  unfold Trm.data
  exact .tup h (.cons (.str _) (.cons (.str _) (.cons (.tup hb hk) .nil)))
theorem den_head {t : Trm} (h : Den K H v t.data) : ∃ a us ds, v = .ref a ∧ SqT K H a us ∧ DenL K H us ds ∧ t.data = .tuple ds := by
  cases t with
  | num n => unfold Trm.data at h ⊢; cases h with | tup hs hl => exact ⟨_, _, _, rfl, hs, hl, rfl⟩
  | any x => unfold Trm.data at h ⊢; cases h with | tup hs hl => exact ⟨_, _, _, rfl, hs, hl, rfl⟩
  | app sg ks => unfold Trm.data at h ⊢; cases h with | tup hs hl => exact ⟨_, _, _, rfl, hs, hl, rfl⟩
theorem DenL.snoc {us : List V} {ds : List PyData} {d : PyData} (h : DenL K H us (ds ++ [d])) : ∃ us' u, us = us' ++ [u] ∧ DenL K H us' ds ∧ Den K H u d := by
  induction ds generalizing us with
  | nil =>
    cases h with
    | cons h1 h2 =>
      cases h2
      exact ⟨[], _, rfl, .nil, h1⟩
  | cons x r ih =>
    cases h with
    | cons h1 h2 =>
      obtain ⟨us', u, rfl, a, b⟩ := ih h2
      exact ⟨_ :: us', u, rfl, .cons h1 a, b⟩
theorem DenL.nil_inv {us : List V} (h : DenL K H us []) : us = [] := by cases h; rfl
theorem DenL.at {us : List V} {ds : List PyData} {i : Int} {d : PyData} (h : DenL K H us ds) (e : atI ds i = some d) : ∃ u, atI us i = some u ∧ Den K H u d := by
  obtain ⟨j, h1, h2, h3, h4, h5⟩ := atI_get e
  have hl := h.length
  have hj : j < us.length := by omega
  obtain ⟨d', e1, e2⟩ := h.get (List.getElem?_eq_getElem hj)
  rw [h2] at e1
  cases e1
  refine ⟨us[j], ?_, e2⟩
  unfold atI at e ⊢
  rw [hl]
  cases q : ixN ds.length i with
  | none => rw [q] at e; cases e
  | some k =>
    rw [q] at e
    have := (ixN_seq q).1
    rw [h1] at this
    cases this
    exact List.getElem?_eq_getElem hj
end
end L2
set_option Elab.async false
set_option linter.all false
set_option maxRecDepth 100000
set_option maxHeartbeats 4000000
namespace L2
open PySem PySem.Spec PyProof.Rows
noncomputable def Itv (K : PySem.W.Frag) (a : Addr) (n : Nat) : It := ⟨fun i H => ∃ xs, SqL K H a xs ∧ xs.length = n ∧ i < n, fun i H x H' => H' = H ∧ ∀ xs, SqL K H a xs → xs[n - 1 - i]? = some x, fun i _ => i = n⟩
section
variable {X : Cx} {tg : Expr}
noncomputable def iRev (K : PySem.W.Frag) (ta : TA) : TI := fun σ H R => ta σ H fun vs H1 => ∃ a xs, vs = [.ref a] ∧ SqL K H1 a xs ∧ R (Itv K a xs.length) H1
end
theorem iRev_i {K : PySem.W.Frag} {σ : St} {H : Hp} {ta : TA} {R : It → Hp → Prop} (k : ta σ H fun vs H1 => ∃ a xs, vs = [.ref a] ∧ SqL K H1 a xs ∧ R (Itv K a xs.length) H1) : iRev K ta σ H R := k
end L2
set_option Elab.async false
set_option linter.all false
set_option maxRecDepth 100000
set_option maxHeartbeats 4000000
namespace L2
open PySem PySem.Spec PyProof.Rows
theorem dig_val (k : Nat) (h : k < 10) : (Nat.digitChar k).toNat = 48 + k := by
  have : k = 0 ∨ k = 1 ∨ k = 2 ∨ k = 3 ∨ k = 4 ∨ k = 5 ∨ k = 6 ∨ k = 7 ∨ k = 8 ∨ k = 9 := by omega
  rcases this with rfl | rfl | rfl | rfl | rfl | rfl | rfl | rfl | rfl | rfl <;> rfl
noncomputable def figsOf (n : Nat) : List Nat := (Nat.toDigits 10 n).map Char.toNat
theorem figs_lt {n : Nat} (h : n < 10) : figsOf n = [48 + n] := by
  unfold figsOf
  rw [Nat.toDigits_of_lt_base h, List.map_cons, List.map_nil, dig_val n h]
theorem figs_str (n : Nat) : ((toString (n : Int) : String) : Str) = ⟨(figsOf n).toArray⟩ := text_ofNat n
section
variable {X : Cx}
noncomputable def mStr : List V → Hp → VK → Prop := fun vs H Q => match vs with
  | [.int i] => i.natAbs.log2 < 1920 ∧ Q (.str (toString i)) H
  | _ => False
theorem mc_str : CallR X (.type "str") mStr := by
  intro pins s σ H xs us Q I r h
  refine call_str_int pins s σ H xs us Q I r ?_
  unfold mStr at h
  split at h
  · exact ⟨_, rfl, h.1, h.2⟩
  · exact h.elim
theorem log_small {i : Int} (h0 : 0 ≤ i) (h1 : i < 10 ^ 30) : i.natAbs.log2 < 1920 := by
  by_cases h : i.natAbs = 0
  · rw [h]; decide
  · refine (Nat.log2_lt h).mpr ?_
    refine Nat.lt_of_lt_of_le (m := 10 ^ 30) (by omega) ?_
    refine Nat.le_trans (m := 2 ^ 100) (by decide +kernel) (Nat.pow_le_pow_right (by decide) (by decide))
theorem mStr_i {i : Int} {H : Hp} {Q : VK} (h0 : 0 ≤ i) (h1 : i < 10 ^ 30) (k : Q (.str ⟨(figsOf i.toNat).toArray⟩) H) : mStr [.int i] H Q := by
  refine ⟨log_small h0 h1, ?_⟩
  obtain ⟨n, rfl⟩ := Int.eq_ofNat_of_zero_le h0
  have e := figs_str n
  rw [Int.toNat_natCast] at k
  rw [← e] at k
  exact k
noncomputable def mRepS : R2 := fun x y H Q => ∃ (c : Nat) (k : Int), x = .str ⟨#[c]⟩ ∧ y = .int k ∧ 0 ≤ k ∧ k ≤ 1000 ∧ Q (.str ⟨(List.replicate k.toNat c).toArray⟩) H
theorem fold_one (c : Nat) : ∀ (n : Nat) (a : List Nat), (List.replicate n (#[c] : Array Nat)).foldl (· ++ ·) a.toArray = (a ++ List.replicate n c).toArray
  | 0, a => by simp
  | n + 1, a => by
    rw [List.replicate_succ, List.foldl_cons, show a.toArray ++ #[c] = (a ++ [c]).toArray by simp, fold_one c n (a ++ [c]), List.append_assoc, List.replicate_succ]
    rfl
theorem txt_mul_one {c : Nat} {k : Int} (h0 : 0 ≤ k) : Txt.mul ⟨#[c]⟩ k = ⟨(List.replicate k.toNat c).toArray⟩ := by
  unfold Txt.mul
  split
  · have : k = 0 := by omega
    subst this; rfl
  · split
    · rename_i h1 h2
      have : k = 1 := by
        rw [Bool.or_eq_true] at h2
        rcases h2 with h2 | h2
        · simpa using h2
        · simp [Str.length] at h2
      subst this; rfl
    · have := fold_one c k.toNat []
      rw [List.nil_append] at this
      exact congrArg Str.mk this
theorem ko_repS : OpR X (binaryOp .Mult) mRepS := by
  intro pins s σ H x y v u Q I rx ry h
  obtain ⟨c, k, rfl, rfl, h0, h1, q⟩ := h
  obtain ⟨t, rfl⟩ := rx
  obtain ⟨t', rfl⟩ := ry
  have e1 : (⟨#[c]⟩ : Str).length = 1 := rfl
  refine SB.mul ⟨?_, fun _ _ => ?_, fun _ _ => ?_⟩ fun t' k' => ⟨.str _, H, I.tok _, ⟨_, rfl⟩, ?_⟩
  · rw [decide_eq_false (by omega), decide_eq_false (by omega)]; rfl
  · rw [e1]
    have h2 : (0 : Int) < k := by omega
    have : (1 : Int) ≤ (2 ^ 63 - 1) / k := Int.le_ediv_of_mul_le h2 (by omega)
    omega
  · rw [e1, Nat.one_mul]
    exact decide_eq_false (show ¬ (k.toNat > sizeLine) by rw [sizeLine_eq]; omega)
  · rw [txt_mul_one h0]; exact q
theorem ko_inV (K : PySem.W.Frag) (h : X.K = K) : OpR X (compareOp .In) (rIn K false) := h ▸ op_in_seq
theorem mMax_i {i j : Int} {H : Hp} {Q : VK} (k : Q (.int (if j > i then j else i)) H) : mMax [.int i, .int j] H Q := ⟨i, j, rfl, k⟩
theorem mRepS_i {c : Nat} {k : Int} {H : Hp} {Q : VK} (h0 : 0 ≤ k) (h1 : k ≤ 1000) (q : Q (.str ⟨(List.replicate k.toNat c).toArray⟩) H) : mRepS (.str ⟨#[c]⟩) (.int k) H Q := ⟨c, k, rfl, rfl, h0, h1, q⟩
end
end L2
set_option Elab.async false
set_option linter.all false
set_option maxRecDepth 100000
set_option maxHeartbeats 4000000
namespace L2
open PySem PySem.Spec PyProof.Rows
section
variable {X : Cx}
end
end L2
namespace L2
open PySem PySem.Spec PyProof.Rows
section
variable {X : Cx}
noncomputable def rDIn (n : Bool) : R2 := fun x y H Q => ∃ a o, y = .ref a ∧ DGet H a x o ∧ Q (.bl (n ^^ o.isSome)) H
theorem ko_inD (hu : X.A.units + 1 < cLine) : OpR X (compareOp .In) (rDIn false) := by
  intro pins s σ H x y v u Q I rx ry h
  obtain ⟨a, o, rfl, g, q⟩ := h
  cases ry
  exact d_in hu I g rx fun s3 I3 => ⟨.bl _, H, I3, rfl, by simpa using q⟩
theorem ko_ninD (hu : X.A.units + 1 < cLine) : OpR X (compareOp .NotIn) (rDIn true) := by
  intro pins s σ H x y v u Q I rx ry h
  obtain ⟨a, o, rfl, g, q⟩ := h
  cases ry
  exact d_notIn hu I g rx fun s3 I3 => ⟨.bl _, H, I3, rfl, by simpa using q⟩
end
section
variable {σ : St} {H : Hp} {Q : VK} {D : Ends} {td ty tx tv : TE}
theorem tDGet_i (k : td σ H fun x H1 => ty σ H1 fun y H2 => ∃ a v, x = .ref a ∧ DGet H2 a y (some v) ∧ Q v H2) : tDGet td ty σ H Q := k
theorem tDGet2_i (k : td σ H fun x H1 => ∃ a, x = .ref a ∧ IsD H1 a ∧ ty σ H1 fun y H2 => tx σ H2 fun z H3 => ∃ o, DGet H3 a y o ∧ Q (o.getD z) H3) : tDGet2 td ty tx σ H Q := k
theorem sDPut_i (k : tv σ H fun v H1 => td σ H1 fun x H2 => ty σ H2 fun y H3 => ∃ a H4, x = .ref a ∧ DPut H3 a y v H4 ∧ D.nx σ H4) : sDPut td ty tv D σ H := k
theorem tDisp_i {trs : List (TE × TE)} (k : ∀ p, H p = none → tPairs trs σ (upd H p (.dK [])) fun ps H2 => H2 p = some (.dK []) ∧ ∃ kvs : List (Key × V), ps = kvs.map (fun kv => (kV kv.1, kv.2)) ∧ kvs.length ≤ 15 ∧ Q (.ref p) (upd H2 p (.dK (mergeK [] kvs)))) : tDisp trs σ H Q := k
theorem tPairs_c {tk tv : TE} {r : List (TE × TE)} {R : List (V × V) → Hp → Prop} (k : tk σ H fun x H1 => tv σ H1 fun y H2 => tPairs r σ H2 fun ps H3 => R ((x, y) :: ps) H3) : tPairs ((tk, tv) :: r) σ H R := k
theorem tPairs_n {R : List (V × V) → Hp → Prop} (k : R [] H) : tPairs [] σ H R := k
end
end L2
set_option Elab.async false
set_option linter.all false
set_option maxRecDepth 100000
set_option maxHeartbeats 4000000
namespace L2
open PySem PySem.Spec PyProof.Rows
section
variable {X : Cx}
noncomputable def mIsN (n : Bool) : R2 := fun x y H Q => y = .non ∧ Q (.bl (n ^^ decide (x = .non))) H
theorem mo_isN : OpR X (compareOp .Is) (mIsN false) := op_isN.imp fun _ _ _ _ h => ⟨h.1, by have := h.2; rwa [Bool.false_xor] at this⟩
theorem isN_non {n : Bool} {H : Hp} {Q : VK} (k : Q (.bl (!n)) H) : mIsN n .non .non H Q := ⟨rfl, by rw [decide_eq_true rfl, Bool.xor_true]; exact k⟩
theorem isN_ref {n : Bool} {a : Addr} {H : Hp} {Q : VK} (k : Q (.bl n) H) : mIsN n (.ref a) .non H Q := ⟨rfl, by rw [decide_eq_false (fun z => by cases z), Bool.xor_false]; exact k⟩
noncomputable def mInt : List V → Hp → VK → Prop := fun vs H Q => match vs with
  | [.int i] => Q (.int i) H
  | [.bl b] => Q (.int (if b then 1 else 0)) H
  | _ => False
theorem mc_int : CallR X (.type "int") mInt := by
  intro pins s σ H xs us Q I r h
  refine call_int1 pins s σ H xs us Q I r ?_
  unfold mInt at h
  split at h
  · exact .inl ⟨_, rfl, h⟩
  · exact .inr ⟨_, rfl, h⟩
  · exact h.elim
theorem mInt_b {b : Bool} {H : Hp} {Q : VK} (k : Q (.int (if b then 1 else 0)) H) : mInt [.bl b] H Q := k
end
noncomputable def But (p : Addr) (H H' : Hp) : Prop := ∀ b o, b ≠ p → H b = some o → H' b = some o
theorem But.refl (p : Addr) (H : Hp) : But p H H := fun _ _ _ h => h
theorem But.trans {p : Addr} {H H1 H2 : Hp} (a : But p H H1) (b : But p H1 H2) : But p H H2 := fun c o n h => b c o n (a c o n h)
theorem But.tup {K : PySem.W.Frag} {p : Addr} {H H' : Hp} {ys : List V} (e : But p H H') (hp : H p = some (.lst ys)) {a : Addr} {xs : List V} (h : SqT K H a xs) : SqT K H' a xs := by
  rcases h with (h | ⟨o, h⟩) | h
  · exact .inl (.inl (e _ _ (fun z => by subst z; rw [hp] at h; cases h) h))
  · exact .inl (.inr ⟨o, e _ _ (fun z => by subst z; rw [hp] at h; cases h) h⟩)
  · exact .inr h
theorem But.den {K : PySem.W.Frag} {p : Addr} {H H' : Hp} {ys : List V} (e : But p H H') (hp : H p = some (.lst ys)) {v : V} {d : PyData} (h : Den K H v d) : Den K H' v d := h.monoT fun _ _ q => e.tup hp q
theorem sIx_to (n : Nat) (m : Int) (h : 0 ≤ m) : HT.sIx n n (some m) = min m.toNat n := by
  unfold HT.sIx
  have e : ¬ (m < 0) := by omega
  simp only [e, if_false]
theorem sIx_none (n k : Nat) : HT.sIx n k none = k := rfl
end L2
set_option Elab.async false
set_option linter.all false
set_option maxRecDepth 100000
set_option maxHeartbeats 4000000
namespace L2
open PySem PySem.Spec PyProof.Rows
section
variable {X : Cx} {pins : List (Addr × Obj)} {σ : St} {H : Hp} {s : Shared} {h' : Heap}
end
noncomputable def Ite (K : PySem.W.Frag) (a : Addr) (n : Nat) : It := ⟨fun i H => i < n ∧ ∃ xs, SqL K H a xs ∧ xs.length = n, fun i H v H' => ∃ T x, H T = none ∧ v = .ref T ∧ H' = upd H T (.tup [.int i, x]) ∧ ∀ xs, SqL K H a xs → xs[i]? = some x, fun i H => i = n ∧ ∃ xs, SqL K H a xs ∧ xs.length = n⟩
section
variable {X : Cx}
noncomputable def iEnum (K : PySem.W.Frag) (ta : TA) : TI := fun σ H R => ta σ H fun vs H1 => ∃ a xs, vs = [.ref a] ∧ SqL K H1 a xs ∧ R (Ite K a xs.length) H1
end
theorem iEnum_i {K : PySem.W.Frag} {σ : St} {H : Hp} {ta : TA} {R : It → Hp → Prop} (k : ta σ H fun vs H1 => ∃ a xs, vs = [.ref a] ∧ SqL K H1 a xs ∧ R (Ite K a xs.length) H1) : iEnum K ta σ H R := k
end L2
set_option Elab.async false
set_option linter.all false
set_option maxRecDepth 100000
set_option maxHeartbeats 4000000
namespace L2
open PySem PySem.Spec PyProof.Rows PySem.W
noncomputable def RawD (h : Heap) (a : Addr) (es : Array DictEntry) (ep : Nat) : Prop := ∃ o, h.get? a = some o ∧ o.ExactDict ∧ o.data = .dict es ep
theorem RawD.lt {h : Heap} {a : Addr} {es : Array DictEntry} {ep : Nat} (x : RawD h a es ep) : a < h.objs.size := let ⟨_, p, _⟩ := x; Heap.lt_size p
theorem RawD.ty {s : Shared} {a : Addr} {es : Array DictEntry} {ep : Nat} (x : RawD s.heap a es ep) : s.TypeIs (.ref a) "dict" := let ⟨o, p, c, _⟩ := x; ⟨o, p, c.1⟩
section
variable {prog : Program} {w : World} {A : Around} {E : Value → Shared → Prop} {s : Shared} {d : Addr} {es : Array DictEntry} {ep : Nat}
theorem raw_iter {Q : Value → Shared → Prop} (hd : (d == sysModules) = false) (hm : RawD s.heap d es ep)
    (hQ : Q (.ref s.heap.objs.size) { s with heap := s.heap.push { cls := .type "dict_keyiterator", data := .fields #[.ref d, .int 0 0, .int es.size 0, .int ep 0] } }) : wpAny (model prog w) A (pyIter (.ref d)) Q E s := by
  obtain ⟨o, ho, hc, hdat⟩ := id hm
  refine wpAny_pyIter_slot hm.ty PySem.F.slot_dict_iter (wpAny_call_entry PySem.F.slot_dict_iter hm.ty PySem.F.entry_dict_iter ?_ (PySem.F.args_dict_iter_1 _))
  (unfold Builtin.«dict.__iter__»; refine wpAny_bind ?_; unfold Builtin.Dict.dictSlotNone; refine wpAny_bind (wpAny_notOrdered_dict hm.ty ?_); show wpAny _ _ (pure (Value.ref d)) _ _ s; refine wpAny_pure ?_)
  (show wpAny _ _ (Builtin.Dict.showsAll d >>= _) _ _ s; unfold Builtin.Dict.showsAll; rw [if_neg (by rw [hd]; exact Bool.false_ne_true)]; refine wpAny_bind (wpAny_pure (wpAny_bind (wpAny_dictEntries ho hdat (wpAny_bind (wpAny_dictEpoch ho hdat ?_))))))
  refine wpAny_bind (wpAny_newObj_type (wpAny_pure ⟨_, rfl, "dict_keyiterator", _, ⟨_, Heap.get?_push_size _ rfl, rfl⟩, PySem.F.slot_dict_keyiterator_next.lookup, by simpa [rawInt] using hQ⟩))
theorem raw_key_item {it : Addr} {i : Nat} {Q : Option Value → Shared → Prop} (hit : s.heap.IsKeyIter it d i es.size ep) (hm : RawD s.heap d es ep) (hlt : i < es.size)
    (hQ : ∀ h', h'.IsKeyIter it d (i + 1) es.size ep → Heap.SameBut it s.heap h' → Q (some es[i].key) { s with heap := h' }) : wpAny (model prog w) A (pyNext (.ref it)) Q E s := by
  obtain ⟨o, ho, hc, hd⟩ := id hit
  obtain ⟨od, hod, hcd, hdd⟩ := id hm
  (unfold pyNext; refine wpAny_bind (wpAny_attempt (wpAny_callSpecial?_slot (name := Str.ofString "__next__") hit.typeIs PySem.F.slot_dict_keyiterator_next (wpAny_call_entry PySem.F.slot_dict_keyiterator_next hit.typeIs PySem.F.entry_dict_keyiterator_next ?_ (PySem.F.args_dict_keyiterator_next_1 _)))))
  (refine wpAny_bind (wpAny_pure (wpAny_bind (wpAny_bind ?_))); first | refine wpAny_bind (wpAny_typeNameOfWhole_keyiter hit.typeIs (wpAny_pure ?_)) | refine wpAny_bind (wpAny_typeNameOf_keyiter hit.typeIs (wpAny_pure ?_)))
  refine wpAny_bind (wpAny_fieldsOf ho hd ?_)
  simp only [show Builtin.Dict_items.ownsTuple "dict_keyiterator" = false by decide, Bool.false_eq_true, if_false]
  (show wpAny _ _ (if (Value.ref d == Value.none) = true then _ else _) _ _ s; rw [if_neg (show ¬ ((Value.ref d == Value.none) = true) from Bool.false_ne_true)]; refine wpAny_bind (wpAny_pure (wpAny_bind (wpAny_dictEntries hod hdd ?_))))
  (rw [if_neg (by simp)]; refine wpAny_bind (wpAny_pure (wpAny_bind (wpAny_dictEpoch hod hdd ?_))); rw [if_neg (by simp)]; refine wpAny_pure ?_)
  simp only [show ¬ ((i : Int) < 0) from by omega, if_false, Int.toNat_natCast, Array.getElem?_eq_getElem hlt]
  (refine wpAny_bind ?_; first | refine wpAny_bind (wpAny_typeNameOfWhole_keyiter hit.typeIs (wpAny_pure ?_)) | refine wpAny_bind (wpAny_typeNameOf_keyiter hit.typeIs (wpAny_pure ?_)))
  (refine wpAny_bind (wpAny_isOneOf_keyiter hit.typeIs ?_); show wpAny _ _ (setField (.ref it) 1 (rawInt ((i : Int) + 1)) >>= _) _ _ s; refine wpAny_bind (wpAny_setField ho hd (by simp) ?_))
  have new : (s.heap.update it (Obj.mapFields (·.setIfInBounds 1 (rawInt ((i : Int) + 1))))).IsKeyIter it d (i + 1) es.size ep := ⟨_, Heap.get?_update_self _ ho (Obj.isFreed_of_fields (Obj.data_mapFields hd _)), (Obj.cls_mapFields ..).trans hc, by rw [Obj.data_mapFields hd]; simp [rawInt]⟩
  refine wpAny_bind (wpAny_holding ?_)
  (refine wpAny_bind (wpAny_isOneOf_keyiter (s := { s with heap := s.heap.update it (Obj.mapFields (·.setIfInBounds 1 (rawInt ((i : Int) + 1)))) }) new.typeIs ?_))
  (show wpAny _ _ (pure es[i].key) _ _ _; exact wpAny_pure (wpAny_pure ⟨_, rfl, wpAny_pure (hQ _ new (Heap.SameBut.update ..))⟩))
theorem raw_key_end {it : Addr} {Q : Option Value → Shared → Prop} (hh : A.handled = none) (hit : s.heap.IsKeyIter it d es.size es.size ep) (hm : RawD s.heap d es ep)
    (hQ : ∀ h', Heap.ExtBut it s.heap h' → Q none { s with heap := h' }) : wpAny (model prog w) A (pyNext (.ref it)) Q E s := by
  obtain ⟨o, ho, hc, hd⟩ := id hit
  obtain ⟨od, hod, hcd, hdd⟩ := id hm
  (unfold pyNext; refine wpAny_bind (wpAny_attempt (wpAny_callSpecial?_slot (name := Str.ofString "__next__") hit.typeIs PySem.F.slot_dict_keyiterator_next (wpAny_call_entry PySem.F.slot_dict_keyiterator_next hit.typeIs PySem.F.entry_dict_keyiterator_next ?_ (PySem.F.args_dict_keyiterator_next_1 _)))))
  (refine wpAny_bind (wpAny_pure (wpAny_bind (wpAny_bind ?_))); first | refine wpAny_bind (wpAny_typeNameOfWhole_keyiter hit.typeIs (wpAny_pure ?_)) | refine wpAny_bind (wpAny_typeNameOf_keyiter hit.typeIs (wpAny_pure ?_)))
  refine wpAny_bind (wpAny_fieldsOf ho hd ?_)
  simp only [show Builtin.Dict_items.ownsTuple "dict_keyiterator" = false by decide, Bool.false_eq_true, if_false]
  (show wpAny _ _ (if (Value.ref d == Value.none) = true then _ else _) _ _ s; rw [if_neg (show ¬ ((Value.ref d == Value.none) = true) from Bool.false_ne_true)]; refine wpAny_bind (wpAny_pure (wpAny_bind (wpAny_dictEntries hod hdd ?_))))
  (rw [if_neg (by simp)]; refine wpAny_bind (wpAny_pure (wpAny_bind (wpAny_dictEpoch hod hdd ?_))); rw [if_neg (by simp)]; refine wpAny_pure ?_)
  simp only [show ¬ ((es.size : Int) < 0) from by omega, if_false, Int.toNat_natCast, Array.getElem?_eq_none (Nat.le_refl es.size)]
  (refine wpAny_bind ?_; first | refine wpAny_bind (wpAny_typeNameOfWhole_keyiter hit.typeIs (wpAny_pure ?_)) | refine wpAny_bind (wpAny_typeNameOf_keyiter hit.typeIs (wpAny_pure ?_)))
  (show wpAny _ _ (setField (.ref it) 0 .none >>= _) _ _ s; refine wpAny_bind (wpAny_setField ho hd (by simp) ?_); show wpAny _ _ (newExc (.type "StopIteration") [] >>= _) _ _ _; refine wpAny_bind ?_; simp only [newExc, newTuple])
  (refine wpAny_bind (wpAny_newObj_type (wpAny_bind (m := firstArgMember _ _) (wpAny_of_eq (a := Value.none) (by first | rfl | (simp only [firstArgMember]; rfl)) (wpAny_newObj_type ?_ (by size_fits)))) (by size_fits)))
  (simp only [raiseNew]; refine wpAny_bind (wpAny_handled ?_); rw [show A.in1.handled = none from hh]; refine wpAny_bind (wpAny_pure (wpAny_throw ?_)); refine wpAny_bind (wpAny_isInstance (T := "StopIteration") (b := true) ⟨_, Heap.get?_push_size _ rfl, rfl⟩ isSubtype_stop ?_))
  exact wpAny_pure (hQ _ (((Heap.SameBut.update ..).extBut.push _).push _))
end
end L2
set_option Elab.async false
set_option linter.all false
set_option maxRecDepth 100000
set_option maxHeartbeats 4000000
namespace L2
open PySem PySem.Spec PyProof.Rows PySem.W
section
variable {X : Cx}
theorem paired_back {α β : Type} {R : α → β → Prop} : ∀ {xs : List α} {ys : List β}, Paired R xs ys → ∀ (i : Nat) (y : β), ys[i]? = some y → ∃ x, xs[i]? = some x ∧ R x y
  | _, _, .nil, i, x, h => by simp at h
  | _, _, .cons r t, 0, x, h => by simp at h; subst h; exact ⟨_, rfl, r⟩
  | _, _, .cons r t, i + 1, x, h => by simpa using paired_back t i x (by simpa using h)
theorem kV_rel {P : Program} {w : World} {k : Key} {u : Value} (h : (mixKind P w).is k u = true) : RelV (kV k) u := by
  cases u with
  | int i t =>
    cases k with
    | inl j =>
      have e : (Sum.inl i : Key) = Sum.inl j := (mixKind P w).inj _ _ _ (mixKind_int P w i t) h
      cases e
      exact ⟨t, rfl⟩
    | inr x => exact nomatch (show (Sum.inl i : Key) = Sum.inr x from (mixKind P w).inj _ _ _ (mixKind_int P w i t) h)
  | str x t =>
    cases k with
    | inr j =>
      have e : (Sum.inr x : Key) = Sum.inr j := (mixKind P w).inj _ _ _ (mixKind_str P w x t) h
      cases e
      exact ⟨t, rfl⟩
    | inl i => exact nomatch (show (Sum.inr x : Key) = Sum.inl i from (mixKind P w).inj _ _ _ (mixKind_str P w x t) h)
  | _ => cases k <;> exact absurd (show false = true from h) Bool.false_ne_true
end
end L2
set_option Elab.async false
set_option linter.all false
set_option maxRecDepth 100000
set_option maxHeartbeats 4000000
namespace L2
open PySem PySem.Spec PyProof.Rows PySem.W
open PySem.AutoSeq1 (wpAny_loadPart')
noncomputable def EqIn (prog : Program) (w : World) (A : Around) (s : Shared) (y x : Value) : Prop := ∀ (E : Value → Shared → Prop) (Q : Bool → Shared → Prop), Q true s → wpAny (model prog w) A (eqBool y x) Q E s
section
variable {prog : Program} {w : World} {A : Around} {E : Value → Shared → Prop} {s : Shared}
theorem EqIn.at {y x : Value} (h : SeqAt.EqAt A s y x true) : EqIn prog w A s y x := fun E Q q => h prog w E Q q
variable {K : Type} [DecidableEq K] {knd : HeapKind prog w K}
end
section
variable {X : Cx}
end
end L2
set_option Elab.async false
set_option linter.all false
set_option maxRecDepth 100000
set_option maxHeartbeats 4000000
namespace L2
open PySem PySem.Spec PyProof.Rows PySem.W
section
variable {X : Cx}
noncomputable abbrev VView (r a : Addr) : HO := .ext fun h => h.IsValuesView r a
end
section
variable {K : PySem.W.Frag} {σ : St} {H : Hp} {Q : VK} {D : Ends} {a : Addr} {xs : List V} {n : Nat}
theorem gCons_i {t : TG} {u : TGs} {v : V} {r : List V} {N : St → Hp → Prop} (k : t v σ H fun σ' H' => u r σ' H' N) : gCons t u (v :: r) σ H N := ⟨v, r, rfl, k⟩
theorem gNil_i {N : St → Hp → Prop} (k : N σ H) : gNil [] σ H N := ⟨rfl, k⟩
end
end L2
set_option Elab.async false
set_option linter.all false
set_option maxRecDepth 100000
set_option maxHeartbeats 4000000
namespace L2
open PySem PySem.Spec PyProof.Rows PySem.W
section
variable {X : Cx}
theorem eqAt_kV {A : Around} {s : Shared} {a b : Key} {u v : Value} (ra : RelV (kV a) u) (rb : RelV (kV b) v) : SeqAt.EqAt A s u v (decide (a = b)) := by
  cases a with
  | inl i =>
    obtain ⟨t, rfl⟩ := ra
    cases b with
    | inl j =>
      obtain ⟨t', rfl⟩ := rb
      rw [key_ll]
      have := SeqAt.EqAt.int_int (A := A) (s := s) i t j t'
      simpa [PyData.eqv] using this
    | inr y =>
      obtain ⟨t', rfl⟩ := rb
      rw [key_lr]
      exact SeqAt.EqAt.int_str i t y t'
  | inr x =>
    obtain ⟨t, rfl⟩ := ra
    cases b with
    | inl j =>
      obtain ⟨t', rfl⟩ := rb
      rw [key_rl]
      exact SeqAt.EqAt.str_int x t j t'
    | inr y =>
      obtain ⟨t', rfl⟩ := rb
      rw [key_rr]
      have := SeqAt.EqAt.str_str (A := A) (s := s) x t y t'
      have e : (x == y) = decide (x = y) := by
        by_cases h : x = y
        · subst h; simp
        · rw [decide_eq_false h]; exact beq_eq_false_iff_ne.mpr h
      rw [← e]
      simpa [PyData.eqv] using this
theorem all_eq (k1 k2 : List Key) : ((List.range (min k1.length k2.length)).all (fun j => decide (k1[j]? = k2[j]?)) && (k1.length == k2.length)) = decide (k1 = k2) := by
  by_cases h : k1 = k2
  · subst h
    simp
  · rw [decide_eq_false h]
    cases hl : (k1.length == k2.length) with
    | false => rw [Bool.and_false]
    | true =>
      have hl : k1.length = k2.length := eq_of_beq hl
      rw [Bool.and_true]
      refine Bool.eq_false_iff.mpr fun z => h ?_
      apply List.ext_getElem?
      intro j
      by_cases hj : j < k1.length
      · exact of_decide_eq_true (List.all_eq_true.mp z j (List.mem_range.mpr (by omega)))
      · rw [List.getElem?_eq_none (by omega), List.getElem?_eq_none (by omega)]
end
end L2
set_option Elab.async false
set_option linter.all false
set_option maxRecDepth 100000
set_option maxHeartbeats 4000000
namespace Att
open PySem PySem.W PySem.Calls PyProof.Rows
theorem bits_of {ns : List Int} (h : WData.layableAll [WData.list (ns.map WData.int)] = true) : ∀ i ∈ ns, Builtin.Int.intBits i ≤ 1048576 := by
  have h1 : (WData.list (ns.map WData.int)).layable = true := by
    unfold WData.layableAll at h
    simpa using h
  obtain ⟨g1, g2, h2⟩ := layableW_iff.mp h1
  have h3 : WData.weightAll (ns.map WData.int) ≤ 2 ^ 20 := h2
  clear h h1 h2 g1 g2
  induction ns with
  | nil => intro i hi; exact absurd hi (by simp)
  | cons n r ih =>
    rw [List.map_cons] at h3
    have h4 : (WData.int n).weight + 1 + WData.weightAll (r.map WData.int) ≤ 2 ^ 20 := h3
    intro i hi
    rcases List.mem_cons.mp hi with e | e
    · subst e
      have : (WData.int i).weight = Builtin.Int.intBits i := rfl
      omega
    · exact ih (by omega) i e
theorem attach_callB {l : OpenLaw} {n : Nat} {q : Program} {loose : List Str} {XP : (Str → Option Value) → Heap → Prop} {YP : World → Heap → Prop} {d : DefRec}
    (hn : l.most = some n) (hdf : d.params.defaults = [])
    (call : ∀ (w : World) (s₀ s₁ : Shared) (mg mb : Str → Option Value) (fa : Addr) (o : Obj) (pm cd doc : Value) (a : Addr) (vs : List Value) (ns : List Int),
      Ground q loose [] XP w s₀ mg mb s₁.heap → YP w s₁.heap →
      s₁.heap.get? fa = some o → o.data = .func (docDef d.name d.params d.body d.scope pm cd doc) → s₁.heap.CodeRec cd d.name → mg d.name = some (.ref fa) →
      s₁.heap.get? a = some { cls := .type "list", data := .seq vs.toArray } → IntsAre vs ns → ns.length ≤ n → (∀ i ∈ ns, Builtin.Int.intBits i ≤ 1048576) → s₁.gens = #[] →
      codeAny (model l.prog w) callerA (.call (.ref fa) ⟨[.ref a], []⟩) (fun r s' => r = .ok (.ret (.bool true)) ∧ OldK s₁.heap s'.heap ∧ s'.os = s₁.os ∧ AllBare s'.gens) s₁) :
    WalkO q loose XP YP l.row.toRowW d [] (fun f vs => PySem.call f vs) := by
  intro w s₀ s₁ mg mb G Y fa o pm cd doc dV kV ho hd hcd hD hmg hg args vals as hpre hlay hrd hwl hlo
  obtain rfl : dV = .none := Dflts.none hD hdf
  obtain rfl : kV = .none := Dflts.noKw hD
  obtain ⟨a, vs, ns, rfl, rfl, hobj, hints, hlen⟩ := script_of hn hpre hwl
  refine enter_call (codeAny_mono (call w s₀ s₁ mg mb fa o pm cd doc a vs ns G Y ho (fd_plain hd) hcd hmg hobj hints hlen (bits_of hlay) hg) fun r s' hq => ?_)
  obtain ⟨rfl, h2, h3, h4⟩ := hq
  exact ⟨.inl ⟨.bool true, .bool true, [], rfl, fun _ => rfl, .bool true, post_true l _, fun _ => ⟨List.Pairwise.nil, fun _ hm => (nomatch hm)⟩⟩, h2, h3, h4⟩
end Att
namespace L2
open PySem PySem.Spec PyProof.Rows
theorem walk_ofB {l : PySem.W.OpenLaw} {n k : Nat} {q : Program} {loose : List Str} {XP : (Str → Option Value) → Heap → Prop} {YP : World → Heap → Prop} {d : DefRec} {K : Params → PySem.W.Frag} {CX : World → CXT} {sp : World → Sp} {x : Str}
    (hn : l.most = some n) (hn2 : n ≤ sizeLine) (hdf : d.params.defaults = []) (hr : Room k callerA)
    (hY : ∀ (w : World) (h : Heap), YP w h → (K w.params).In h)
    (F : ∀ (w : World) (mg : Str → Option Value) (fa : Addr) (h : Heap), (K w.params).In h → h.Ns mainGlobals mg → mg d.name = some (.ref fa) →
      ∃ fd : FuncData, (∀ (s : Shared) (u : Value), BindsTo s fd ⟨[u], []⟩ [(x, u)]) ∧
        ∀ base : Heap, (K w.params).In base → base.Ns mainGlobals mg → FnOk l.prog w (K w.params) mg base (CX w) k fa fd [x] (sp w))
    (hsp : ∀ (w : World) (H : Hp) (a : Addr) (ns : List Int), ns.length ≤ n → (∀ i ∈ ns, Builtin.Int.intBits i ≤ 1048576) → Only H → SqL (K w.params) H a (ns.map V.int) → sp w [.ref a] H (fun v _ => v = .bl true) fun _ _ _ => False)
    (hCX : ∀ (w : World) (H : Hp) (s : Shared) (e : Value) (s' : Shared), CX w [] H s (fun _ _ _ => False) e s' → False) :
    PySem.W.WalkO q loose XP YP l.row.toRowW d [] (fun f vs => PySem.call f vs) := by
  refine Att.attach_callB hn hdf fun w s₀ s₁ mg mb fa o pm cd doc a vs ns G Y ho hd hcd hmg hobj hints hlen hbits hg => ?_
  have KX := hY w _ Y
  obtain ⟨fd, hb, hF⟩ := F w mg fa _ KX G.T.g hmg
  exact law_call KX G.T.g G.T.b G.T.builtins G.T.nolimit hg hobj hints (Nat.le_trans hlen hn2) hr hF hb (fun H hO hS => hsp w H a ns hlen hbits hO hS) fun H e s' => hCX w H s₁ e s'
theorem mulOk_bits {a b : Int} (h : Builtin.Int.intBits a + Builtin.Int.intBits b ≤ 8388608) : IntMulOk a b := by
  unfold IntMulOk Builtin.Int.intTooBig
  intro z
  simp only [Bool.and_eq_true, decide_eq_true_eq] at z
  have h2 := z.2
  have hb : ((bitsLine : Nat) : Int) = 134217728 := by decide
  omega
theorem bits_lt (x : Int) (k : Nat) (h : x.natAbs < 2 ^ k) : Builtin.Int.intBits x ≤ k := by
  unfold Builtin.Int.intBits
  by_cases h0 : x = 0
  · subst h0; simp
  · have hz : (x == 0) = false := beq_eq_false_iff_ne.mpr h0
    rw [hz]
    simp only [Bool.false_eq_true, if_false]
    have h1 : x.natAbs ≠ 0 := by omega
    have := (Nat.log2_lt h1).mpr h
    omega
theorem lt_bits (x : Int) (k : Nat) (h : Builtin.Int.intBits x ≤ k) : x.natAbs < 2 ^ k := by
  unfold Builtin.Int.intBits at h
  by_cases h0 : x = 0
  · subst h0; simp; exact Nat.two_pow_pos k
  · have hz : (x == 0) = false := beq_eq_false_iff_ne.mpr h0
    rw [hz] at h
    simp only [Bool.false_eq_true, if_false] at h
    have h1 : x.natAbs ≠ 0 := by omega
    exact (Nat.log2_lt h1).mp (by omega)
end L2
set_option Elab.async false
set_option linter.all false
set_option maxRecDepth 100000
set_option maxHeartbeats 4000000
namespace L2
open PySem PySem.Spec PyProof.Rows PySem.W
structure QE (X : Cx) (e : Expr) (t : TE) : Prop where
  pe : PE X e t
structure QP (X : Cx) (pos : Pos) (keys : List (Option Expr)) (values : List Expr) (trs : List (TE × TE)) : Prop where
  pp : PPs X pos keys values trs
structure QS (X : Cx) (st : Stmt) (t : TS) : Prop where
  ps : PS X st t
structure QSs (X : Cx) (l : List Stmt) (t : TS) : Prop where
  pss : PSs X l t
section
variable {X : Cx} {pos pos' : Pos} {e k v : Expr} {te tk tv : TE} {st : Stmt} {rest : List Stmt} {t u : TS}
theorem qp_nil : QP X pos [] [] [] := ⟨pps_nil⟩
theorem qp_cons {ks : List (Option Expr)} {vs : List Expr} {trs : List (TE × TE)} (hk : PE X k tk) (hv : PE X v tv) (hr : QP X pos ks vs trs) : QP X pos (some k :: ks) (v :: vs) ((tk, tv) :: trs) := ⟨pps_cons hk hv hr.pp⟩
theorem qe_disp {keys : List (Option Expr)} {values : List Expr} {trs : List (TE × TE)} (h : QP X pos keys values trs) (hall : keys.all (·.isSome) = true) (hl : keys.length = values.length) (h0 : keys ≠ []) (h15 : keys.length ≤ 15) : QE X (.Dict keys values pos) (tDisp trs) := ⟨pe_disp h.pp hall hl h0 h15⟩
theorem qs_set {i : Nat} {x : Str} (hN : X.N.Nodup) (hi : X.N[i]? = some x) (hx : Loc X.env.scope x) (he : QE X e te) (hs : swapsWith e (some (.Name x pos')) pos.line X.env = pure false) (hf : X.fn x = true ∨ X.env.scope.names.lookup x = some .local) : QS X (.Assign [.Name x pos'] e pos) (tAsg te (gName i)) := ⟨ps_set hN hi hx he.pe hs hf⟩
theorem qss_cons (h1 : QS X st t) (h2 : QSs X rest u) : QSs X (st :: rest) (tSeq t u) := ⟨pss_cons h1.ps h2.pss⟩
theorem qss_one (h1 : QS X st t) : QSs X [st] t := ⟨pss_one h1.ps⟩
end
section
variable {X : Cx} {pos : Pos} {e : Expr} {te : TE}
end
section
variable {X : Cx} {tg : Expr}
noncomputable def iSeq (K : PySem.W.Frag) (tl : TE) : TI := fun σ H R => tl σ H fun x H1 => ∃ a, x = .ref a ∧ ((∃ xs, SqL K H1 a xs ∧ R (Itl K a) H1) ∨ ∃ xs, SqT K H1 a xs ∧ R (Itt K a) H1)
theorem iSeq_i {K : PySem.W.Frag} {σ : St} {H : Hp} {ta : TE} {R : It → Hp → Prop} (k : ta σ H fun x H1 => ∃ a, x = .ref a ∧ ((∃ xs, SqL K H1 a xs ∧ R (Itl K a) H1) ∨ ∃ xs, SqT K H1 a xs ∧ R (Itt K a) H1)) : iSeq K ta σ H R := k
noncomputable def mAbs : List V → Hp → VK → Prop := fun vs H Q => ∃ i, vs = [.int i] ∧ Q (.int (if i < 0 then -i else i)) H
theorem mAbs_i {i : Int} {H : Hp} {Q : VK} (k : Q (.int (if i < 0 then -i else i)) H) : mAbs [.int i] H Q := ⟨i, rfl, k⟩
end
end L2
set_option Elab.async false
set_option linter.all false
set_option maxRecDepth 100000
set_option maxHeartbeats 4000000
namespace L2
open PySem PySem.Spec PyProof.Rows PySem.W
section
variable {M : Model} {A : Around} {E : Value → Shared → Prop}
end
end L2
set_option Elab.async false
set_option linter.all false
set_option maxRecDepth 100000
set_option maxHeartbeats 4000000
namespace L2
open PySem PySem.W
noncomputable abbrev newS : String := "ValueError.__new__"
structure XCls (K : Frag) (C : Addr) (bm : List Value) : Prop where
  obj : ∃ nm q N bs sn sub ab col dd k0 k1 k2 k3 k5, K.lookup C = some (excClassObj nm q C N bs bm true sn sub ab col dd k0 k1 k2 k3 k5 newS)
  hasV : bm.contains (.type "ValueError") = true
  hasB : bm.contains (.type "BaseException") = true
  noA : bm.contains (.type "AttributeError") = false
  noN : bm.contains (.type "NameError") = false
section
variable {prog : Program} {w : World} {A : Around} {E : Value → Shared → Prop} {R : Result → Shared → Prop} {h : Heap} {g : Array GenState} {d : Drawn} {t : Nat} {os : OsState}
variable {nm q : Str} {C N : Addr} {bs bm : List Value} {sn : List Str} {sub : List Value} {ab : Bool} {col : Option Bool} {dd : Option Addr} {k0 k1 k2 k3 k5 : Option Value}
end
end L2
set_option Elab.async false
set_option linter.all false
set_option maxRecDepth 100000
set_option maxHeartbeats 4000000
namespace L2
open PySem PySem.W
section
variable {prog : Program} {w : World} {A : Around} {E : Value → Shared → Prop} {R : Result → Shared → Prop} {h : Heap} {g : Array GenState} {d : Drawn} {t : Nat} {os : OsState} {K : Frag} {C e : Addr} {bm : List Value} {o : Obj} {vs : Array Value}
noncomputable def XUp (bm : List Value) : Prop := ∃ l : List Value, (∀ v ∈ l, ∃ a, v = Value.ref a) ∧ bm = l ++ [.type "ValueError", .type "Exception", .type "BaseException", .type "object"]
end
end L2
set_option Elab.async false
set_option linter.all false
set_option maxRecDepth 100000
set_option maxHeartbeats 4000000
namespace L2
open PySem PySem.Spec PyProof.Rows PySem.W
noncomputable def XFp (e C : Addr) (dx : Option Addr) (fr : Bool) (h : Heap) : Prop := ∃ o vs t0 x, h.get? e = some o ∧ o.cls = .ref C ∧ o.dict = dx ∧ o.data = .fields vs ∧ vs[0]? = some (Value.ref t0) ∧ vs[1]? = some x ∧ (fr = true → x = .none)
noncomputable def XF (e C : Addr) (dx : Option Addr) (fr : Bool) : HO := .ext (XFp e C dx fr)
section
variable {X : Cx} {pins : List (Addr × Obj)} {σ : St} {H : Hp} {s : Shared}
end
section
variable {P : Program} {w : World} {K : Frag} {mg : Str → Option Value} {base : Heap} {N : List Str} {qual : Str} {scope : Scope} {f : Addr} {cd : Value} {A : Around} {outer : List Env} {s : Shared} {H : Hp} {E : XK}
end
end L2
set_option Elab.async false
set_option linter.all false
set_option maxRecDepth 100000
set_option maxHeartbeats 4000000
namespace L2
open PySem PySem.Spec PyProof.Rows PySem.W
section
variable {X : Cx} {pins : List (Addr × Obj)} {σ : St} {H : Hp} {s : Shared} {pos apos np : Pos} {a b o e value : Expr} {es : List Expr} {t : TA} {te ta tv : TE} {f x : Str}
noncomputable def tBInit (K : Frag) (t : TA) : TE := fun σ H Q => t σ H fun vs H2 => ∃ e C dx fr bm y, vs = [.ref e, y] ∧ H2 e = some (XF e C dx fr) ∧ XCls K C bm ∧ Q .non H2
structure XAttr (K : Frag) (C : Addr) : Prop where
  ga : findIn K (.ref C) "__getattribute__" = some (some (.builtin "BaseException.__getattribute__"))
  gx : findIn K (.ref C) "__getattr__" = some none
  sa : findIn K (.ref C) "__setattr__" = some (some (.builtin "object.__setattr__"))
noncomputable def tXSet (K : Frag) (ta tv : TE) (f : Str) : TS := fun D σ H => tv σ H fun y H1 => ta σ H1 fun x H2 => ∃ e C bm fr, x = .ref e ∧ XCls K C bm ∧ XUp bm ∧ XAttr K C ∧ NoAttr K C f ∧
  ((H2 e = some (XF e C none fr) ∧ ∀ dx, H2 dx = none → dx ≠ e → D.nx σ (upd (upd H2 dx (.xd [(f, y)])) e (XF e C (some dx) fr))) ∨ (∃ dx fs, H2 e = some (XF e C (some dx) fr) ∧ H2 dx = some (.xd fs) ∧ fs.length ≤ 900 ∧ D.nx σ (upd H2 dx (.xd (putF f y fs)))))
noncomputable def tXGet (K : Frag) (ta : TE) (f : Str) : TE := fun σ H Q => ta σ H fun x H1 => ∃ e C bm dx fs fr v, x = .ref e ∧ H1 e = some (XF e C (some dx) fr) ∧ XCls K C bm ∧ XAttr K C ∧ NoAttr K C f ∧ H1 dx = some (.xd fs) ∧ fs.lookup f = some v ∧ Q v H1
end
end L2
set_option Elab.async false
set_option linter.all false
set_option maxRecDepth 100000
set_option maxHeartbeats 4000000
namespace L2
open PySem PySem.Spec PyProof.Rows PySem.W
section
variable {X : Cx} {CX : CXT} {k : Nat} {f C : Addr} {fd : FuncData} {ps : List Str} {sp : Sp} {dvs : List V} {ds : List Value} {E : XK} {x m : Str} {p pos apos np : Pos} {e o : Expr} {es : List Expr} {ta te : TE} {t : TA} {bm : List Value}
noncomputable def tXMake (C : Addr) (sp : Sp) (dvs : List V) (E : XK) (t : TA) : TE := fun σ H Q => t σ H fun vs H1 => vs.length ≤ 1000 ∧ ∀ e, H1 e = none → sp (.ref e :: (vs ++ dvs)) (upd H1 e (XF e C none true)) (fun v H2 => v = .non ∧ Q (.ref e) H2) E
noncomputable def tRaise (EX : XK) (K : Frag) (te : TE) : TS := fun _ σ H => te σ H fun v H1 => ∃ e C dx bm, v = .ref e ∧ XCls K C bm ∧ H1 e = some (XF e C dx true) ∧ EX (.ref C) (some e) (upd H1 e (XF e C dx false))
end
end L2
set_option Elab.async false
set_option linter.all false
set_option maxRecDepth 100000
set_option maxHeartbeats 4000000
namespace L2
open PySem PySem.Spec PyProof.Rows PySem.W
section
variable {X : Cx} {pins : List (Addr × Obj)} {σ : St} {H : Hp} {s : Shared} {ea : Addr}
end
section
variable {X : Cx} {k : Nat} {f C' : Addr} {fd : FuncData} {ps : List Str} {sp : Sp} {dvs : List V} {ds : List Value} {x y nm cx : Str} {p pos apos cp hpos py tpos : Pos} {e : Expr} {es : List Expr} {t : TA} {bm' : List Value} {b0 : Stmt} {suite : List Stmt} {ts : TS} {i n : Nat}
noncomputable def tTry (K : Frag) (C' : Addr) (sp : Sp) (dvs : List V) (t : TA) (ok : Ends → St → V → Hp → Prop) (hd : Ends → St → Addr → Hp → Prop) : TS := fun D σ H => t σ H fun vs H1 => sp (vs ++ dvs) H1 (fun v H2 => ok D σ v H2) (fun c eo H2 => ∀ ea, eo = some ea → ∃ C dx bm, c = .ref C ∧ H2 ea = some (XF ea C dx false) ∧ XCls K C bm ∧ (Value.ref C :: bm).contains (.ref C') = true ∧ hd D σ ea H2)
end
end L2
set_option Elab.async false
set_option linter.all false
set_option maxRecDepth 100000
set_option maxHeartbeats 4000000
namespace L2
open PySem PySem.Spec PyProof.Rows PySem.W
structure FunD (K : Frag) (x qual : Str) (st : Stmt) (f : Addr) (fd : FuncData) (dV : Value) : Prop where
  ex : ∃ (oc : Value) (od : Option Addr) (kV doc pm : Value) (an : Option Addr) (cdv ct : Value) (osl : Array (Option Value)),
    fd = fnOf x qual (defArgs st) (defBody st) (defScope st) dV kV doc pm an cdv ct ∧ K.lookup f = some ⟨oc, od, .func fd, osl⟩ ∧ codeIn K cdv qual = true
  kp : keepIn K (.ref f) = true
section
variable {P : Program} {w : World} {K : Frag} {mg : Str → Option Value} {base : Heap}
theorem FunD.ok {dV : Value} {x qual : Str} {st : Stmt} {f : Addr} {fd : FuncData} {N ps : List Str} {k : Nat} {sp : Sp} (F : FunD K x qual st f fd dV) (S : FnScope N ps (defScope st)) (len : ∀ vs H Q E, sp vs H Q E → vs.length = ps.length)
    (hbody : ∀ (cdv : Value) (A : Around) (outer : List Env) (s : Shared) (H : Hp) (vs : List V) (Q : VK) (E : XK), Room k (A.deeper (envOfC qual (defScope st) s.heap.objs.size f cdv)) → sp vs H Q E →
      ∃ t, PSs (cxOf CX0 P w K mg base N qual (defScope st) f cdv A outer s H E).nox (defBody st) t ∧ t { nx := fun _ H' => Q .non H', rt := Q } (start N vs) H) : FnOk P w K mg base CX0 (k + 1) f fd ps sp := by
  obtain ⟨oc, od, kV, doc, pm, an, cdv, ct, osl, rfl, lk, hcd⟩ := F.ex
  refine fn_of lk hcd S len fun A outer s H vs Q E hr hsp => ?_
  obtain ⟨t, h, q⟩ := hbody cdv A outer s H vs Q E hr hsp
  exact ⟨t, h.nox, q⟩
end
end L2
set_option Elab.async false
set_option linter.all false
set_option maxRecDepth 100000
set_option maxHeartbeats 4000000
namespace L2
open PySem PySem.Spec PyProof.Rows PySem.W
section
variable {X : Cx}
end
theorem inV_strs (x : Str) : ∀ xs : List Str, inV (.str x) (xs.map V.str) = decide (x ∈ xs)
  | [] => by simp [inV]
  | y :: r => by
    have ih := inV_strs x r
    unfold inV at ih ⊢
    rw [List.map_cons, List.any_cons, ih]
    by_cases h : y = x
    · subst h; simp [eqV]
    · have h2 : x ≠ y := fun z => h z.symm
      simp [eqV, h, h2]
theorem all_flat (xs : List Str) : (xs.map V.str).all flatV = true := by
  rw [List.all_eq_true]
  intro v hv
  obtain ⟨x, _, rfl⟩ := List.mem_map.mp hv
  rfl
theorem in_strs {K : Frag} {H : Hp} {Q : VK} {p : Addr} {x : Str} (xs : List Str) (h : SqL K H p (xs.map V.str) ∨ SqT K H p (xs.map V.str)) (k : Q (.bl (decide (x ∈ xs))) H) : rIn K false (.str x) (.ref p) H Q := ⟨p, _, rfl, h, rfl, all_flat xs, by rw [inV_strs]; exact k⟩
section
variable {K : Frag} {σ : St} {H : Hp} {Q : VK} {D : Ends} {t : TA} {te ta tv : TE} {f : Str} {sp : Sp} {dvs : List V} {E EX : XK} {C C' : Addr}
theorem tRaise_i (k : te σ H fun v H1 => ∃ e C dx bm, v = .ref e ∧ XCls K C bm ∧ H1 e = some (XF e C dx true) ∧ EX (.ref C) (some e) (upd H1 e (XF e C dx false))) : tRaise EX K te D σ H := k
theorem tXMake_i (k : t σ H fun vs H1 => vs.length ≤ 1000 ∧ ∀ e, H1 e = none → sp (.ref e :: (vs ++ dvs)) (upd H1 e (XF e C none true)) (fun v H2 => v = .non ∧ Q (.ref e) H2) E) : tXMake C sp dvs E t σ H Q := k
theorem tTry_i {ok : Ends → St → V → Hp → Prop} {hd : Ends → St → Addr → Hp → Prop} (k : t σ H fun vs H1 => sp (vs ++ dvs) H1 (fun v H2 => ok D σ v H2) (fun c eo H2 => ∀ ea, eo = some ea → ∃ C dx bm, c = .ref C ∧ H2 ea = some (XF ea C dx false) ∧ XCls K C bm ∧ (Value.ref C :: bm).contains (.ref C') = true ∧ hd D σ ea H2)) : tTry K C' sp dvs t ok hd D σ H := k
theorem tXGet_i (k : ta σ H fun x H1 => ∃ e C bm dx fs fr v, x = .ref e ∧ H1 e = some (XF e C (some dx) fr) ∧ XCls K C bm ∧ XAttr K C ∧ NoAttr K C f ∧ H1 dx = some (.xd fs) ∧ fs.lookup f = some v ∧ Q v H1) : tXGet K ta f σ H Q := k
theorem tBInit_i (k : t σ H fun vs H2 => ∃ e C dx fr bm y, vs = [.ref e, y] ∧ H2 e = some (XF e C dx fr) ∧ XCls K C bm ∧ Q .non H2) : tBInit K t σ H Q := k
theorem tXSet_i (k : tv σ H fun y H1 => ta σ H1 fun x H2 => ∃ e C bm fr, x = .ref e ∧ XCls K C bm ∧ XUp bm ∧ XAttr K C ∧ NoAttr K C f ∧
  ((H2 e = some (XF e C none fr) ∧ ∀ dx, H2 dx = none → dx ≠ e → D.nx σ (upd (upd H2 dx (.xd [(f, y)])) e (XF e C (some dx) fr))) ∨ (∃ dx fs, H2 e = some (XF e C (some dx) fr) ∧ H2 dx = some (.xd fs) ∧ fs.length ≤ 900 ∧ D.nx σ (upd H2 dx (.xd (putF f y fs)))))) : tXSet K ta tv f D σ H := k
end
noncomputable def rowS : Str := Str.ofString "row"
noncomputable def IsX (H : Hp) (ea C : Addr) (fs : List (Str × V)) : Prop := ∃ dx, H ea = some (XF ea C (some dx) false) ∧ H dx = some (.xd fs)
theorem IsX.mono {H H' : Hp} {ea C : Addr} {fs : List (Str × V)} (h : IsX H ea C fs) (s : Same H H') : IsX H' ea C fs := by
  obtain ⟨dx, a, b⟩ := h
  exact ⟨dx, s _ _ a, s _ _ b⟩
end L2
set_option Elab.async false
set_option linter.all false
set_option maxRecDepth 100000
set_option maxHeartbeats 4000000
namespace L2
open PySem PySem.Spec PyProof.Rows PySem.W
structure RoomN (k : Nat) (A : Around) : Prop where
  dp : A.depth + 3 * k + 5 < recursionLimit
  un : A.units + 16 * k + 200 < cLine
theorem RoomN.mono {j k : Nat} {A : Around} (r : RoomN k A) (h : j ≤ k) : RoomN j A := ⟨by have := r.dp; omega, by have := r.un; omega⟩
theorem RoomN.deeper {k : Nat} {A : Around} (r : RoomN (k + 1) A) (env : Env) : RoomN k (A.deeper env) :=
  ⟨by have := r.dp; show A.depth + 1 + 3 * k + 5 < _; omega, by have := r.un; show A.units + 3 + 16 * k + 200 < _; omega⟩
theorem RoomN.depth {k : Nat} {A : Around} (r : RoomN k A) : A.depth < recursionLimit := by have := r.dp; omega
theorem RoomN.of {k : Nat} {A : Around} (r : Room k A) : RoomN k A := ⟨r.dp, r.un⟩
structure FnOkN (P : Program) (w : World) (K : Frag) (mg : Str → Option Value) (base : Heap) (k : Nat) (f : Addr) (fd : FuncData) (ps : List Str) (sp : Sp) : Prop where
  len : ∀ vs H Q E, sp vs H Q E → vs.length = ps.length
  run : ∀ (A : Around) (outer : List Env) (s : Shared) (H : Hp) (args : Args) (us : List Value) (vs : List V) (Q : VK) (E : XK), RoomN k A → Env0 P w K mg base A outer s H → BindsTo s fd args (ps.zip us) → Vals vs us → sp vs H Q E →
    codeAny (model P w) A (.call (.ref f) args) (CR CX0 outer P w H s Q E) s
theorem FnOkN.fn {P : Program} {w : World} {K : Frag} {mg : Str → Option Value} {base : Heap} {k : Nat} {f : Addr} {fd : FuncData} {ps : List Str} {sp : Sp} (F : FnOkN P w K mg base k f fd ps sp) : FnOk P w K mg base CX0 k f fd ps sp :=
  ⟨F.len, fun A outer s H args us vs Q E hr => F.run A outer s H args us vs Q E (.of hr)⟩
section
variable {P : Program} {w : World} {K : Frag} {mg : Str → Option Value} {base : Heap} {N ps : List Str} {qual : Str} {scope : Scope} {f : Addr} {cd : Value} {A : Around} {outer : List Env} {s s1 : Shared} {H : Hp} {E : XK} {us : List Value} {vs : List V}
end
section
variable {X : Cx} {k : Nat} {f : Addr} {fd : FuncData} {ps : List Str} {sp : Sp} {dvs : List V} {ds : List Value} {x : Str} {p pos : Pos} {e : Expr} {es : List Expr} {t : TA}
end
section
variable {prog : Program} {w : World} {A : Around} {E : Value → Shared → Prop} {s : Shared} {K : Frag} {C e : Addr} {bm : List Value} {ox od : Obj}
end
section
variable {X : Cx}
theorem tPar_i {i j : Nat} {ta : TA} {D : Ends} {σ : St} {H : Hp} (k : ta σ H fun vs H1 => ∃ v w, vs = [v, w] ∧ D.nx ((σ.set i (some v)).set j (some w)) H1) : tPar i j ta D σ H := k
end
end L2
set_option Elab.async false
set_option linter.all false
set_option maxRecDepth 100000
set_option maxHeartbeats 4000000
namespace L2
open PySem PySem.Spec PyProof.Rows
section
variable {X : Cx} {pins : List (Addr × Obj)} {σ : St} {H : Hp} {s : Shared} {h' : Heap}
end
noncomputable def Izp (K : PySem.W.Frag) (a b : Addr) (n m : Nat) : It := ⟨fun i H => i < min n m ∧ ∃ xs ys, SqL K H a xs ∧ SqL K H b ys ∧ xs.length = n ∧ ys.length = m, fun i H v H' => ∃ T x y, H T = none ∧ v = .ref T ∧ H' = upd H T (.tup [x, y]) ∧ (∀ xs, SqL K H a xs → xs[i]? = some x) ∧ (∀ ys, SqL K H b ys → ys[i]? = some y), fun i H => i = min n m ∧ ∃ xs ys, SqL K H a xs ∧ SqL K H b ys ∧ xs.length = n ∧ ys.length = m⟩
section
variable {X : Cx}
noncomputable def iZip (K : PySem.W.Frag) (ta : TA) : TI := fun σ H R => ta σ H fun vs H1 => ∃ a b xs ys, vs = [.ref a, .ref b] ∧ SqL K H1 a xs ∧ SqL K H1 b ys ∧ R (Izp K a b xs.length ys.length) H1
end
theorem iZip_i {K : PySem.W.Frag} {σ : St} {H : Hp} {ta : TA} {R : It → Hp → Prop} (k : ta σ H fun vs H1 => ∃ a b xs ys, vs = [.ref a, .ref b] ∧ SqL K H1 a xs ∧ SqL K H1 b ys ∧ R (Izp K a b xs.length ys.length) H1) : iZip K ta σ H R := k
end L2
set_option Elab.async false
set_option linter.all false
set_option maxRecDepth 100000
set_option maxHeartbeats 4000000
namespace L2
open PySem PySem.Spec PyProof.Rows
section
variable {X : Cx} {pos : Pos} {e : Expr} {te : TE}
noncomputable def tF3i (te : TE) : TE := fun σ H Q => te σ H fun x H1 => ∃ i : Int, x = .int i ∧ i.natAbs.log2 < 1920 ∧ (Str.ofString (toString i)).length ≤ 100 ∧ ∀ z : Str, Q (.str z) H1
theorem tF3i_i {σ : St} {H : Hp} {Q : VK} (k : te σ H fun x H1 => ∃ i : Int, x = .int i ∧ i.natAbs.log2 < 1920 ∧ (Str.ofString (toString i)).length ≤ 100 ∧ ∀ z : Str, Q (.str z) H1) : tF3i te σ H Q := k
end
noncomputable def onX (H : Hp) (C : Addr) (E : XK) : Prop := ∀ ea H', Same H H' → IsX H' ea C [(rowS, .int 0)] → E (.ref C) (some ea) H'
theorem onX.mono {H H1 : Hp} {C : Addr} {E : XK} (h : onX H C E) (s : Same H H1) : onX H1 C E := fun ea H' s' i => h ea H' (s.trans s') i
end L2
set_option Elab.async false
set_option linter.all false
set_option maxRecDepth 100000
set_option maxHeartbeats 4000000
namespace L2
open PySem PySem.Spec PyProof.Rows
section
variable {X : Cx} {es rest : List Expr} {k : Nat} {pos : Pos} {env : Env} {te : TE} {t : TA}
noncomputable def notStar : Expr → Bool
  | .Starred _ _ => false
  | _ => true
theorem star_any {e : Expr} (h : notStar e = true) : starEach (e :: rest) env = (false, eval e env) :: starEach rest env := by
  rw [starEach]
  intro a p z
  rw [z] at h
  cases h
theorem pa_con {e : Expr} (ha : PE X e te) (hr : PA X rest t) (h : notStar e = true := by rfl) : PA X (e :: rest) (tCons te t) := pa_cons ha hr (star_any h)
theorem sw_lst {n : Option Expr} {l : Nat} : swapsWith (.List es pos) n l env = pure false := rfl
theorem sw_bin {a b : Expr} {op : Operator} {n : Option Expr} {l : Nat} : swapsWith (.BinOp a op b pos) n l env = pure false := rfl
theorem sw_sub {a b : Expr} {n : Option Expr} {l : Nat} : swapsWith (.Subscript a b pos) n l env = pure false := rfl
theorem sw_call {a : Expr} {kw : List Keyword} {n : Option Expr} {l : Nat} : swapsWith (.Call a es kw pos) n l env = pure false := rfl
end
section
variable {X : Cx} {a b e : Expr} {es rest : List Expr} {k : Nat} {pos pos' : Pos} {te ta tb : TE} {t : TA} {u v : TS} {st : Stmt} {x : Str}
theorem qs_of (h : PS X st u) : QS X st u := ⟨h⟩
theorem qs_if {c : Expr} {l m : List Stmt} {tc : TT} (hc : PT X c tc) (ha : QSs X l u) (hb : QSs X m v) : QS X (.If c l m pos) (tIfS tc u v) := ⟨ps_if hc ha.pss hb.pss⟩
theorem qss_nil : QSs X [] tNext := ⟨pss_nil⟩
end
end L2
set_option Elab.async false
set_option linter.all false
set_option maxRecDepth 100000
set_option maxHeartbeats 4000000
namespace L2
open PySem PySem.Spec PyProof.Rows PySem.W
section
variable {X : Cx}
end
section
variable {X : Cx} {pos : Pos} {e : Expr} {te : TE}
noncomputable def tFr (te : TE) : TE := fun σ H Q => te σ H fun x H1 => ∃ y, x = .str y ∧ (∀ c ∈ y.cps.toList, c < 16 ^ 8) ∧ y.length ≤ 5000 ∧ ∀ z : Str, Q (.str z) H1
theorem tFr_i {σ : St} {H : Hp} {Q : VK} (k : te σ H fun x H1 => ∃ y, x = .str y ∧ (∀ c ∈ y.cps.toList, c < 16 ^ 8) ∧ y.length ≤ 5000 ∧ ∀ z : Str, Q (.str z) H1) : tFr te σ H Q := k
noncomputable def tF2 (te : TE) : TE := fun σ H Q => te σ H fun x H1 => ∃ y, x = .str y ∧ y.length ≤ 5000 ∧ ∀ z : Str, Q (.str z) H1
theorem tF2_i {σ : St} {H : Hp} {Q : VK} (k : te σ H fun x H1 => ∃ y, x = .str y ∧ y.length ≤ 5000 ∧ ∀ z : Str, Q (.str z) H1) : tF2 te σ H Q := k
end
end L2
set_option Elab.async false
set_option linter.all false
set_option maxRecDepth 100000
set_option maxHeartbeats 4000000
namespace L2
open PySem PySem.Spec PyProof.Rows PySem.W
namespace FD
end FD
section
variable {prog : Program} {w : World} {A : Around} {R : Result → Shared → Prop}
noncomputable def TupsAt {K : Type} [DecidableEq K] (knd : PySem.KeyKind prog w K) (ts : List Addr) (kvs : List (K × Value)) (h : Heap) : Prop := ∀ (i : Nat) (T : Addr), ts[i]? = some T → ∃ (kk : K) (key val : Value), kvs[i]? = some (kk, val) ∧ knd.is kk key = true ∧ IsTup h T #[key, val]
theorem TupsAt.keep {K : Type} [DecidableEq K] {knd : PySem.KeyKind prog w K} {ts : List Addr} {kvs : List (K × Value)} {h h' : Heap} (x : TupsAt knd ts kvs h) (k : ∀ T ∈ ts, ∀ o, h.get? T = some o → h'.get? T = some o) : TupsAt knd ts kvs h' := fun i T e => by
  obtain ⟨kk, key, val, e1, e2, o, ho, r⟩ := x i T e
  exact ⟨kk, key, val, e1, e2, o, k T (List.mem_of_getElem? e) o ho, r⟩
end
section
variable {X : Cx}
end
end L2
set_option Elab.async false
set_option linter.all false
set_option maxRecDepth 100000
set_option maxHeartbeats 4000000
namespace L2
open PySem PySem.Spec PyProof.Rows PySem.W
section
variable {X : Cx}
noncomputable def dEqK (K : Frag) (n : Bool) : R2 := fun x y H Q => ∃ (a b : Addr) (ka kb : List (Key × V)), x = .ref a ∧ y = .ref b ∧ H a = some (.dK ka) ∧ H b = some (.dK kb) ∧ ka.length = kb.length ∧ (∀ k v, (k, v) ∈ ka → ∃ v' d, valV kb k = some v' ∧ Den K H v d ∧ Den K H v' d ∧ d.depth ≤ 140) ∧ Q (.bl (!n)) H
theorem keq_hits {pins : List (Addr × Obj)} {σ : St} {H : Hp} {s : Shared} (I : Inv X pins σ H s) {A : Around} (hu : A.units + 150 < cLine) {kb : List (Key × V)} {vb : List (Key × Value)} (rb : KV kb vb) :
    ∀ {ka : List (Key × V)} {va : List (Key × Value)}, KV ka va → (∀ k v, (k, v) ∈ ka → ∃ v' d, valV kb k = some v' ∧ Den X.K H v d ∧ Den X.K H v' d ∧ d.depth ≤ 140) → KeqHits A.in1 s vb va true
  | [], [], _, _ => .nil
  | (k, v) :: r, (k', u) :: m, .cons h t, hx => by
    obtain ⟨e1, e2⟩ := h
    have e1 : k = k' := e1
    subst e1
    obtain ⟨v', d, f1, f2, f3, f4⟩ := hx k v List.mem_cons_self
    have hv := rb.val k
    rw [f1] at hv
    obtain ⟨u', g1, g2⟩ := RelO.some_of (v := v') (o := valueAt vb k) hv
    have he : SeqAt.EqAt A.in1 s u u' true := eq_same I 140 A.in1 d v v' u u' f4 (by show A.units + 1 + 140 < cLine; omega) f2 f3 e2 g2
    have := KeqHits.hit (k := k) (v := u) g1 he (keq_hits I hu rb t fun k2 v2 h2 => hx k2 v2 (List.mem_cons_of_mem _ h2))
    simpa using this
theorem ko_eqK (K : Frag) (hK : X.K = K) (hu : X.A.units + 150 < cLine) : OpR X (compareOp .Eq) (dEqK K false) := by
  subst hK
  intro pins s σ H x y v u Q I rx ry h
  obtain ⟨a, b, ka, kb, rfl, rfl, ha, hb, hl, hx, k⟩ := h
  cases rx
  cases ry
  obtain ⟨z1, hd1, va, ra, da⟩ := dk_of I.hok ha
  obtain ⟨z2, hd2, vb, rb, db⟩ := dk_of I.hok hb
  refine keq_eq hd1 hd2 da db (by omega) (fun _ => keq_hits I hu rb ra hx) ?_
  have e : (va.length == vb.length && true) = true := by
    rw [← Paired.length ra, ← Paired.length rb, hl]; simp
  rw [e]
  exact ⟨.bl true, H, I, rfl, k⟩
theorem ko_neK (K : Frag) (hK : X.K = K) (hu : X.A.units + 150 < cLine) : OpR X (compareOp .NotEq) (dEqK K true) := by
  subst hK
  intro pins s σ H x y v u Q I rx ry h
  obtain ⟨a, b, ka, kb, rfl, rfl, ha, hb, hl, hx, k⟩ := h
  cases rx
  cases ry
  obtain ⟨z1, hd1, va, ra, da⟩ := dk_of I.hok ha
  obtain ⟨z2, hd2, vb, rb, db⟩ := dk_of I.hok hb
  refine keq_ne hd1 hd2 da db (by omega) (fun _ => keq_hits I hu rb ra hx) ?_
  have e : (va.length == vb.length && true) = true := by
    rw [← Paired.length ra, ← Paired.length rb, hl]; simp
  rw [e]
  exact ⟨.bl false, H, I, rfl, k⟩
noncomputable def mDictK : List V → Hp → VK → Prop := fun vs H Q => ∃ (a : Addr) (kvs : List (Key × V)), vs = [.ref a] ∧ H a = some (.dK kvs) ∧ ∀ p, H p = none → Q (.ref p) (upd H p (.dK kvs))
theorem mc_dictK : CallR X (.type "dict") mDictK := by
  intro pins s σ H xs us Q I r h
  obtain ⟨a, kvs, rfl, ha, q⟩ := h
  obtain ⟨u, rfl, r1⟩ := vals1 r
  obtain rfl : u = Value.ref a := r1
  exact d_copyOf I (.inl ha) fun p s' hp I' => ⟨.ref p, _, I', rfl, q p hp⟩
end
noncomputable abbrev Rws := List (Str × Trm)
noncomputable def PutsOk (K : Frag) (H : Hp) (kvs : List (Key × V)) (rows : Rws) : Prop := Paired (fun (p : Key × V) (q : Str × Trm) => p.1 = Sum.inr q.1 ∧ Den K H p.2 q.2.data) kvs rows
noncomputable def lookR (rows : Rws) (x : Str) : Option Trm := (rows.find? fun r => decide (r.1 = x)).map (·.2)
noncomputable def putR (rows : Rws) (x : Str) (t : Trm) : Rws := if (rows.any fun r => decide (r.1 = x)) = true then rows.map (fun r => if r.1 = x then (r.1, t) else r) else rows ++ [(x, t)]
section
variable {K : Frag} {H H' : Hp} {kvs : List (Key × V)} {rows : Rws}
theorem PutsOk.mono (h : PutsOk K H kvs rows) (s : Same H H') : PutsOk K H' kvs rows := Paired.mapP h fun _ _ z => ⟨z.1, z.2.mono s⟩
theorem PutsOk.monoT (h : PutsOk K H kvs rows) (e : ∀ a xs, SqT K H a xs → SqT K H' a xs) : PutsOk K H' kvs rows := Paired.mapP h fun _ _ z => ⟨z.1, z.2.monoT e⟩
theorem PutsOk.len (h : PutsOk K H kvs rows) : kvs.length = rows.length := Paired.length h
theorem key_inr (a b : Str) : ((Sum.inr a : Key) = Sum.inr b) ↔ a = b := ⟨fun h => Sum.inr.inj h, fun h => by rw [h]⟩
theorem PutsOk.get : ∀ {kvs : List (Key × V)} {rows : Rws}, PutsOk K H kvs rows → ∀ x : Str, (lookR rows x = none ∧ valV kvs (Sum.inr x) = none) ∨ ∃ t v, lookR rows x = some t ∧ valV kvs (Sum.inr x) = some v ∧ Den K H v t.data
  | [], [], _, x => .inl ⟨rfl, rfl⟩
  | (k, v) :: kr, (y, t) :: rr, .cons h r, x => by
    obtain ⟨e1, e2⟩ := h
    have e1 : k = Sum.inr y := e1
    subst e1
    by_cases hx : y = x
    · subst hx
      refine .inr ⟨t, v, ?_, ?_, e2⟩
      · simp [lookR]
      · simp [valV]
    · have ih := PutsOk.get r x
      have n1 : lookR ((y, t) :: rr) x = lookR rr x := by simp [lookR, hx]
      have n2 : valV ((Sum.inr y, v) :: kr) (Sum.inr x) = valV kr (Sum.inr x) := by simp [valV, hx]
      rw [n1, n2]
      exact ih
theorem PutsOk.any : ∀ {kvs : List (Key × V)} {rows : Rws}, PutsOk K H kvs rows → ∀ x : Str, (kvs.any fun kv => decide (kv.1 = Sum.inr x)) = rows.any fun r => decide (r.1 = x)
  | [], [], _, x => rfl
  | (k, v) :: kr, (y, t) :: rr, .cons h r, x => by
    have e1 : k = Sum.inr y := h.1
    subst e1
    rw [List.any_cons, List.any_cons, PutsOk.any r x]
    congr 1
    exact decide_eq_decide.mpr (key_inr y x)
theorem PutsOk.put (h : PutsOk K H kvs rows) {x : Str} {v : V} {t : Trm} (d : Den K H v t.data) : PutsOk K H (putK kvs (Sum.inr x) v) (putR rows x t) := by
  unfold putK putR
  rw [h.any x]
  split
  · rename_i hz0
    clear hz0
    induction kvs generalizing rows with
    | nil => cases rows with | nil => exact .nil | cons _ _ => cases h
    | cons p r ih =>
      cases rows with
      | nil => cases h
      | cons q m =>
        cases h with
        | cons e f =>
          refine .cons ?_ (ih f)
          dsimp only
          obtain ⟨e1, e2⟩ := e
          by_cases hx : q.1 = x
          · rw [if_pos hx, if_pos (by rw [e1, hx])]
            exact ⟨e1, d⟩
          · rw [if_neg hx, if_neg (by rw [e1]; exact fun z => hx (Sum.inr.inj z))]
            exact ⟨e1, e2⟩
  · rename_i hz0
    clear hz0
    induction kvs generalizing rows with
    | nil => cases rows with | nil => exact .cons ⟨rfl, d⟩ .nil | cons _ _ => cases h
    | cons p r ih =>
      cases rows with
      | nil => cases h
      | cons q m =>
        cases h with
        | cons e f => exact .cons e (ih f)
theorem PutsOk.mem : ∀ {kvs : List (Key × V)} {rows : Rws}, PutsOk K H kvs rows → ∀ {k : Key} {v : V}, (k, v) ∈ kvs → ∃ x t, (x, t) ∈ rows ∧ k = Sum.inr x ∧ Den K H v t.data
  | [], [], _, k, v, hm => by simp at hm
  | p :: kr, q :: rr, .cons h r, k, v, hm => by
    rcases List.mem_cons.mp hm with e | e
    · subst e
      exact ⟨q.1, q.2, by simp, h.1, h.2⟩
    · obtain ⟨x, t, h1, h2, h3⟩ := PutsOk.mem r e
      exact ⟨x, t, List.mem_cons_of_mem _ h1, h2, h3⟩
theorem look_mem : ∀ {rows : Rws} {x : Str} {t : Trm}, lookR rows x = some t → (x, t) ∈ rows
  | [], x, t, h => by simp [lookR] at h
  | (y, u) :: r, x, t, h => by
    by_cases hx : y = x
    · have : u = t := by simpa [lookR, hx] using h
      subst this hx
      exact List.mem_cons_self
    · exact List.mem_cons_of_mem _ (look_mem (by simpa [lookR, hx] using h))
theorem any_iff {rows : Rws} {x : Str} : (rows.any fun r => decide (r.1 = x)) = true ↔ x ∈ rows.map (·.1) := by
  simp [List.any_eq_true]
theorem putR_new {rows : Rws} {x : Str} {t : Trm} (h : x ∉ rows.map (·.1)) : putR rows x t = rows ++ [(x, t)] := by
  unfold putR
  rw [if_neg (fun z => h (any_iff.mp z))]
theorem putR_keys {rows : Rws} {x : Str} {t : Trm} (h : x ∈ rows.map (·.1)) : (putR rows x t).map (·.1) = rows.map (·.1) := by
  unfold putR
  rw [if_pos (any_iff.mpr h), List.map_map]
  refine List.map_congr_left fun r _ => ?_
  show (if r.1 = x then (r.1, t) else r).1 = r.1
  split <;> rfl
theorem putR_nodup {rows : Rws} {x : Str} {t : Trm} (h : (rows.map (·.1)).Nodup) : ((putR rows x t).map (·.1)).Nodup := by
  by_cases hx : x ∈ rows.map (·.1)
  · rw [putR_keys hx]; exact h
  · rw [putR_new hx, List.map_append]
    refine List.nodup_append.mpr ⟨h, by simp, fun a ha b hb e => hx ?_⟩
    have : b = x := by simpa using hb
    rw [← this, ← e]
    exact ha
theorem look_put {rows : Rws} {x y : Str} {t : Trm} : lookR (putR rows x t) y = if y = x then some t else lookR rows y := by
  unfold putR
  split
  · rename_i h
    have hm := any_iff.mp h
    clear h
    induction rows with
    | nil => simp at hm
    | cons r m ih =>
      obtain ⟨k, u⟩ := r
      by_cases hk : k = x
      · subst hk
        by_cases hy : y = k
        · subst hy; simp [lookR]
        · rw [if_neg hy]
          have hy' : ¬ k = y := fun z => hy z.symm
          have e : lookR (((k, u) :: m).map fun r => if r.1 = k then (r.1, t) else r) y = lookR (m.map fun r => if r.1 = k then (r.1, t) else r) y := by simp [lookR, hy']
          have e2 : lookR ((k, u) :: m) y = lookR m y := by simp [lookR, hy']
          rw [e, e2]
          by_cases hm2 : k ∈ m.map (·.1)
          · rw [ih hm2, if_neg hy]
          · congr 1
            conv => rhs; rw [← List.map_id m]
            refine List.map_congr_left fun r hr => ?_
            rw [if_neg (fun z => hm2 (List.mem_map.mpr ⟨r, hr, z⟩))]
            rfl
      · have hm2 : x ∈ m.map (·.1) := by
          rcases List.mem_cons.mp hm with z | z
          · exact absurd z.symm hk
          · exact z
        by_cases hy : k = y
        · subst hy
          simp [lookR, hk]
        · have e : lookR (((k, u) :: m).map fun r => if r.1 = x then (r.1, t) else r) y = lookR (m.map fun r => if r.1 = x then (r.1, t) else r) y := by simp [lookR, hk, hy]
          have e2 : lookR ((k, u) :: m) y = lookR m y := by simp [lookR, hy]
          rw [e, e2]
          exact ih hm2
  · rename_i h
    have hm : x ∉ rows.map (·.1) := fun z => h (any_iff.mpr z)
    clear h
    induction rows with
    | nil =>
      by_cases hy : y = x
      · subst hy; simp [lookR]
      · have : ¬ x = y := fun z => hy z.symm
        simp [lookR, hy, this]
    | cons r m ih =>
      obtain ⟨k, u⟩ := r
      have hm2 : x ∉ m.map (·.1) := fun z => hm (List.mem_cons_of_mem _ z)
      by_cases hy : k = y
      · subst hy
        have : ¬ k = x := fun z => hm (by rw [← z]; simp)
        simp [lookR, this]
      · have e : lookR ((k, u) :: m ++ [(x, t)]) y = lookR (m ++ [(x, t)]) y := by simp [lookR, hy]
        have e2 : lookR ((k, u) :: m) y = lookR m y := by simp [lookR, hy]
        rw [e, e2]
        exact ih hm2
end
end L2
set_option Elab.async false
set_option linter.all false
set_option maxRecDepth 100000
set_option maxHeartbeats 4000000
namespace L2
open PySem PySem.Spec PyProof.Rows PySem.W
mutual
noncomputable def eqb : Trm → Trm → Bool
  | .num a, .num b => decide (a = b)
  | .any x, .any y => decide (x = y)
  | .app s ks, .app r ls => decide (s = r) && eqbL ks ls
  | _, _ => false
noncomputable def eqbL : List Trm → List Trm → Bool
  | [], [] => true
  | a :: r, b :: m => eqb a b && eqbL r m
  | _, _ => false
end
mutual
theorem eqb_iff : ∀ t u : Trm, eqb t u = true ↔ t = u
  | .num a, .num b => by simp [eqb]
  | .num a, .any y => by simp [eqb]
  | .num a, .app _ _ => by simp [eqb]
  | .any x, .num b => by simp [eqb]
  | .any x, .any y => by simp [eqb]
  | .any x, .app _ _ => by simp [eqb]
  | .app _ _, .num b => by simp [eqb]
  | .app _ _, .any y => by simp [eqb]
  | .app s ks, .app r ls => by
    simp only [eqb, Bool.and_eq_true, decide_eq_true_eq, Trm.app.injEq, eqbL_iff ks ls]
theorem eqbL_iff : ∀ t u : List Trm, eqbL t u = true ↔ t = u
  | [], [] => by simp [eqbL]
  | [], _ :: _ => by simp [eqbL]
  | _ :: _, [] => by simp [eqbL]
  | a :: r, b :: m => by simp only [eqbL, Bool.and_eq_true, List.cons.injEq, eqb_iff a b, eqbL_iff r m]
end
theorem eqb_self (t : Trm) : eqb t t = true := (eqb_iff t t).mpr rfl
theorem eqbL_all : ∀ ks ls : List Trm, ((List.range (min ks.length ls.length)).all (fun j => match ks[j]?, ls[j]? with | some a, some b => eqb a b | _, _ => true) && (ks.length == ls.length)) = eqbL ks ls
  | [], [] => by simp [eqbL]
  | [], _ :: _ => by simp [eqbL]
  | _ :: _, [] => by simp [eqbL]
  | a :: r, b :: m => by
    have ih := eqbL_all r m
    simp only [eqbL]
    rw [← ih, List.length_cons, List.length_cons, Nat.succ_min_succ, List.range_succ_eq_map, List.all_cons, List.all_map, Bool.and_assoc]
    congr 1
    congr 1
    · simp
mutual
theorem Trm.data_inj : ∀ {t u : Trm}, t.data = u.data → t = u
  | .num a, .num b, h => by simp [Trm.data] at h; rw [h]
  | .num a, .any y, h => by simp [Trm.data] at h
  | .num a, .app _ _, h => by simp [Trm.data] at h
  | .any x, .num b, h => by simp [Trm.data] at h
  | .any x, .any y, h => by simp [Trm.data] at h; rw [h]
  | .any x, .app _ _, h => by simp [Trm.data] at h
  | .app _ _, .num b, h => by simp [Trm.data] at h
  | .app _ _, .any y, h => by simp [Trm.data] at h
  | .app s ks, .app r ls, h => by
    simp only [Trm.data, PyData.tuple.injEq, List.cons.injEq, PyData.str.injEq, and_true, true_and] at h
    rw [h.1, Trm.dataL_inj h.2]
theorem Trm.dataL_inj : ∀ {t u : List Trm}, Trm.dataL t = Trm.dataL u → t = u
  | [], [], _ => rfl
  | [], _ :: _, h => by simp [Trm.dataL] at h
  | _ :: _, [], h => by simp [Trm.dataL] at h
  | a :: r, b :: m, h => by
    simp only [Trm.dataL, List.cons.injEq] at h
    rw [Trm.data_inj h.1, Trm.dataL_inj h.2]
end
section
variable {X : Cx} {pins : List (Addr × Obj)} {σ : St} {H : Hp} {s : Shared}
mutual
theorem den_inj (I : Inv X pins σ H s) : ∀ {v : V} {d d' : PyData}, Den X.K H v d → Den X.K H v d' → d = d'
  | _, _, _, .non, h => by cases h; rfl
  | _, _, _, .bl b, h => by cases h; rfl
  | _, _, _, .int i, h => by cases h; rfl
  | _, _, _, .str x, h => by cases h; rfl
  | _, _, _, .tup hs hl, h => by
    cases h with
    | tup hs' hl' =>
      have e := I.tuple_inj hs hs'
      subst e
      rw [denL_inj I hl hl']
theorem denL_inj (I : Inv X pins σ H s) : ∀ {v : List V} {d d' : List PyData}, DenL X.K H v d → DenL X.K H v d' → d = d'
  | _, _, _, .nil, h => by cases h; rfl
  | _, _, _, .cons h l, h' => by
    cases h' with
    | cons g m => rw [den_inj I h g, denL_inj I l m]
end
theorem eqAt_tups (I : Inv X pins σ H s) {A : Around} {a b : Addr} {us us' : List V} (hs : SqT X.K H a us) (hs' : SqT X.K H b us') (hab : a ≠ b) (e : Nat → Bool) (hu : A.units + 1 < cLine)
    (items : ∀ j x x' w w', us[j]? = some x → us'[j]? = some x' → RelV x w → RelV x' w' → SeqAt.EqAt A.in1 s w w' (e j)) : SeqAt.EqAt A s (.ref a) (.ref b) ((List.range (min us.length us'.length)).all e && (us.length == us'.length)) := by
  obtain ⟨its, rv, p, _⟩ := I.tuple hs
  obtain ⟨its', rv', p', _⟩ := I.tuple hs'
  have l1 := rv.length
  have l2 := rv'.length
  have key := SeqAt.RcAt.tuples (A := A) (e := e) (show s.heap.IsTuple a its.toArray from p) (show s.heap.IsTuple b its'.toArray from p') (by omega) (fun j h1 h2 => by
    have h1 : j < its.length := by simpa using h1
    have h2 : j < its'.length := by simpa using h2
    have x1 : us[j]? = some us[j] := List.getElem?_eq_getElem (by omega)
    have x2 : us'[j]? = some us'[j] := List.getElem?_eq_getElem (by omega)
    obtain ⟨w1, y1, z1⟩ := rv.get x1
    obtain ⟨w2, y2, z2⟩ := rv'.get x2
    have q1 : its.toArray[j] = w1 := by
      have := List.getElem?_eq_getElem h1
      rw [y1] at this
      simpa using (Option.some.inj this).symm
    have q2 : its'.toArray[j] = w2 := by
      have := List.getElem?_eq_getElem h2
      rw [y2] at this
      simpa using (Option.some.inj this).symm
    rw [q1, q2]
    exact items j _ _ _ _ x1 x2 z1 z2)
  rw [List.size_toArray, List.size_toArray, ← l1, ← l2] at key
  exact SeqAt.EqAt.of_refs hab key
noncomputable def eT (t t' : Trm) : Nat → Bool
  | 0 => match t, t' with | .num _, .num _ => true | .any _, .any _ => true | .app _ _, .app _ _ => true | _, _ => false
  | 1 => match t, t' with | .num a, .num b => decide (a = b) | .any x, .any y => decide (x = y) | .app r _, .app q _ => decide (r = q) | .any x, .app q _ => decide (x = q) | .app r _, .any y => decide (r = y) | _, _ => false
  | 2 => match t, t' with | .app _ ks, .app _ ls => eqbL ks ls | _, _ => true
  | _ => true
noncomputable def lenT : Trm → Nat
  | .app _ _ => 3
  | _ => 2
theorem eT_all (t t' : Trm) : ((List.range (min (lenT t) (lenT t'))).all (eT t t') && (lenT t == lenT t')) = eqb t t' := by
  cases t <;> cases t' <;> simp [lenT, eT, eqb, List.range, List.range.loop]
theorem mem_size {ks : List Trm} {t : Trm} (h : t ∈ ks) : t.size ≤ Trm.sizeL ks := by
  obtain ⟨a, b, rfl⟩ := List.append_of_mem h
  rw [Trm.sizeL_app, Trm.sizeL]
  omega
theorem items_of (I : Inv X pins σ H s) (n : Nat) (ih : ∀ (A : Around) (t t' : Trm) (v v' : V) (u u' : Value), t.size ≤ n → A.units + 2 * n + 4 < cLine → Den X.K H v t.data → Den X.K H v' t'.data → RelV v u → RelV v' u' → SeqAt.EqAt A s u u' (eqb t t'))
    (A : Around) (t t' : Trm) {a a' : Addr} (h : Den X.K H (.ref a) t.data) (h' : Den X.K H (.ref a') t'.data) (hz : t.size ≤ n + 1) (hu : A.units + 2 * (n + 1) + 4 < cLine) :
    ∃ us us', SqT X.K H a us ∧ SqT X.K H a' us' ∧ us.length = lenT t ∧ us'.length = lenT t' ∧ ∀ j x x' w w', us[j]? = some x → us'[j]? = some x' → RelV x w → RelV x' w' → SeqAt.EqAt A.in1 s w w' (eT t t' j) := by
  cases t with
  | num m =>
    obtain ⟨a0, e0, hs⟩ := den_num h
    cases e0
    cases t' with
    | num m' =>
      obtain ⟨a0', e0', hs'⟩ := den_num h'
      cases e0'
      refine ⟨_, _, hs, hs', rfl, rfl, fun j y y' w w' h1 h2 r1 r2 => ?_⟩
      match j, h1, h2 with
        | 0, h1, h2 =>
          simp only [List.getElem?_cons_zero, Option.some.injEq] at h1 h2
          subst h1 h2
          have := eqAt_kV (A := A.in1) (s := s) (a := Sum.inr numS) (b := Sum.inr numS) r1 r2
          rw [show decide ((Sum.inr numS : Key) = Sum.inr numS) = true by decide +kernel] at this
          exact this
        | 1, h1, h2 =>
          simp only [List.getElem?_cons_succ, List.getElem?_cons_zero, Option.some.injEq] at h1 h2
          subst h1 h2
          have := eqAt_kV (A := A.in1) (s := s) (a := Sum.inl m) (b := Sum.inl m') r1 r2
          have e9 : decide ((Sum.inl m : Key) = Sum.inl m') = decide (m = m') := by
            refine decide_eq_decide.mpr ⟨fun h => ?_, fun h => by rw [h]⟩
            injection h
          rw [e9] at this
          exact this
        | j + 2, h1, h2 => simp at h1
    | any x' =>
      obtain ⟨a0', e0', hs'⟩ := den_any h'
      cases e0'
      refine ⟨_, _, hs, hs', rfl, rfl, fun j y y' w w' h1 h2 r1 r2 => ?_⟩
      match j, h1, h2 with
        | 0, h1, h2 =>
          simp only [List.getElem?_cons_zero, Option.some.injEq] at h1 h2
          subst h1 h2
          have := eqAt_kV (A := A.in1) (s := s) (a := Sum.inr numS) (b := Sum.inr anyS) r1 r2
          rw [show decide ((Sum.inr numS : Key) = Sum.inr anyS) = false by decide +kernel] at this
          exact this
        | 1, h1, h2 =>
          simp only [List.getElem?_cons_succ, List.getElem?_cons_zero, Option.some.injEq] at h1 h2
          subst h1 h2
          have := eqAt_kV (A := A.in1) (s := s) (a := Sum.inl m) (b := Sum.inr x') r1 r2
          have e9 : decide ((Sum.inl m : Key) = Sum.inr x') = false := decide_eq_false (fun h => by cases h)
          rw [e9] at this
          exact this
        | j + 2, h1, h2 => simp at h1
    | app sg' ks' =>
      obtain ⟨a0', b', ku', e0', hs', hb', hk'⟩ := den_app h'
      cases e0'
      refine ⟨_, _, hs, hs', rfl, rfl, fun j y y' w w' h1 h2 r1 r2 => ?_⟩
      match j, h1, h2 with
        | 0, h1, h2 =>
          simp only [List.getElem?_cons_zero, Option.some.injEq] at h1 h2
          subst h1 h2
          have := eqAt_kV (A := A.in1) (s := s) (a := Sum.inr numS) (b := Sum.inr appS) r1 r2
          rw [show decide ((Sum.inr numS : Key) = Sum.inr appS) = false by decide +kernel] at this
          exact this
        | 1, h1, h2 =>
          simp only [List.getElem?_cons_succ, List.getElem?_cons_zero, Option.some.injEq] at h1 h2
          subst h1 h2
          have := eqAt_kV (A := A.in1) (s := s) (a := Sum.inl m) (b := Sum.inr sg') r1 r2
          have e9 : decide ((Sum.inl m : Key) = Sum.inr sg') = false := decide_eq_false (fun h => by cases h)
          rw [e9] at this
          exact this
        | j + 2, h1, h2 => simp at h1
  | any x =>
    obtain ⟨a0, e0, hs⟩ := den_any h
    cases e0
    cases t' with
    | num m' =>
      obtain ⟨a0', e0', hs'⟩ := den_num h'
      cases e0'
      refine ⟨_, _, hs, hs', rfl, rfl, fun j y y' w w' h1 h2 r1 r2 => ?_⟩
      match j, h1, h2 with
        | 0, h1, h2 =>
          simp only [List.getElem?_cons_zero, Option.some.injEq] at h1 h2
          subst h1 h2
          have := eqAt_kV (A := A.in1) (s := s) (a := Sum.inr anyS) (b := Sum.inr numS) r1 r2
          rw [show decide ((Sum.inr anyS : Key) = Sum.inr numS) = false by decide +kernel] at this
          exact this
        | 1, h1, h2 =>
          simp only [List.getElem?_cons_succ, List.getElem?_cons_zero, Option.some.injEq] at h1 h2
          subst h1 h2
          have := eqAt_kV (A := A.in1) (s := s) (a := Sum.inr x) (b := Sum.inl m') r1 r2
          have e9 : decide ((Sum.inr x : Key) = Sum.inl m') = false := decide_eq_false (fun h => by cases h)
          rw [e9] at this
          exact this
        | j + 2, h1, h2 => simp at h1
    | any x' =>
      obtain ⟨a0', e0', hs'⟩ := den_any h'
      cases e0'
      refine ⟨_, _, hs, hs', rfl, rfl, fun j y y' w w' h1 h2 r1 r2 => ?_⟩
      match j, h1, h2 with
        | 0, h1, h2 =>
          simp only [List.getElem?_cons_zero, Option.some.injEq] at h1 h2
          subst h1 h2
          have := eqAt_kV (A := A.in1) (s := s) (a := Sum.inr anyS) (b := Sum.inr anyS) r1 r2
          rw [show decide ((Sum.inr anyS : Key) = Sum.inr anyS) = true by decide +kernel] at this
          exact this
        | 1, h1, h2 =>
          simp only [List.getElem?_cons_succ, List.getElem?_cons_zero, Option.some.injEq] at h1 h2
          subst h1 h2
          have := eqAt_kV (A := A.in1) (s := s) (a := Sum.inr x) (b := Sum.inr x') r1 r2
          have e9 : decide ((Sum.inr x : Key) = Sum.inr x') = decide (x = x') := by
            refine decide_eq_decide.mpr ⟨fun h => ?_, fun h => by rw [h]⟩
            injection h
          rw [e9] at this
          exact this
        | j + 2, h1, h2 => simp at h1
    | app sg' ks' =>
      obtain ⟨a0', b', ku', e0', hs', hb', hk'⟩ := den_app h'
      cases e0'
      refine ⟨_, _, hs, hs', rfl, rfl, fun j y y' w w' h1 h2 r1 r2 => ?_⟩
      match j, h1, h2 with
        | 0, h1, h2 =>
          simp only [List.getElem?_cons_zero, Option.some.injEq] at h1 h2
          subst h1 h2
          have := eqAt_kV (A := A.in1) (s := s) (a := Sum.inr anyS) (b := Sum.inr appS) r1 r2
          rw [show decide ((Sum.inr anyS : Key) = Sum.inr appS) = false by decide +kernel] at this
          exact this
        | 1, h1, h2 =>
          simp only [List.getElem?_cons_succ, List.getElem?_cons_zero, Option.some.injEq] at h1 h2
          subst h1 h2
          have := eqAt_kV (A := A.in1) (s := s) (a := Sum.inr x) (b := Sum.inr sg') r1 r2
          have e9 : decide ((Sum.inr x : Key) = Sum.inr sg') = decide (x = sg') := by
            refine decide_eq_decide.mpr ⟨fun h => ?_, fun h => by rw [h]⟩
            injection h
          rw [e9] at this
          exact this
        | j + 2, h1, h2 => simp at h1
  | app sg ks =>
    obtain ⟨a0, b, ku, e0, hs, hb, hk⟩ := den_app h
    cases e0
    cases t' with
    | num m' =>
      obtain ⟨a0', e0', hs'⟩ := den_num h'
      cases e0'
      refine ⟨_, _, hs, hs', rfl, rfl, fun j y y' w w' h1 h2 r1 r2 => ?_⟩
      match j, h1, h2 with
        | 0, h1, h2 =>
          simp only [List.getElem?_cons_zero, Option.some.injEq] at h1 h2
          subst h1 h2
          have := eqAt_kV (A := A.in1) (s := s) (a := Sum.inr appS) (b := Sum.inr numS) r1 r2
          rw [show decide ((Sum.inr appS : Key) = Sum.inr numS) = false by decide +kernel] at this
          exact this
        | 1, h1, h2 =>
          simp only [List.getElem?_cons_succ, List.getElem?_cons_zero, Option.some.injEq] at h1 h2
          subst h1 h2
          have := eqAt_kV (A := A.in1) (s := s) (a := Sum.inr sg) (b := Sum.inl m') r1 r2
          have e9 : decide ((Sum.inr sg : Key) = Sum.inl m') = false := decide_eq_false (fun h => by cases h)
          rw [e9] at this
          exact this
        | j + 2, h1, h2 => simp at h2
    | any x' =>
      obtain ⟨a0', e0', hs'⟩ := den_any h'
      cases e0'
      refine ⟨_, _, hs, hs', rfl, rfl, fun j y y' w w' h1 h2 r1 r2 => ?_⟩
      match j, h1, h2 with
        | 0, h1, h2 =>
          simp only [List.getElem?_cons_zero, Option.some.injEq] at h1 h2
          subst h1 h2
          have := eqAt_kV (A := A.in1) (s := s) (a := Sum.inr appS) (b := Sum.inr anyS) r1 r2
          rw [show decide ((Sum.inr appS : Key) = Sum.inr anyS) = false by decide +kernel] at this
          exact this
        | 1, h1, h2 =>
          simp only [List.getElem?_cons_succ, List.getElem?_cons_zero, Option.some.injEq] at h1 h2
          subst h1 h2
          have := eqAt_kV (A := A.in1) (s := s) (a := Sum.inr sg) (b := Sum.inr x') r1 r2
          have e9 : decide ((Sum.inr sg : Key) = Sum.inr x') = decide (sg = x') := by
            refine decide_eq_decide.mpr ⟨fun h => ?_, fun h => by rw [h]⟩
            injection h
          rw [e9] at this
          exact this
        | j + 2, h1, h2 => simp at h2
    | app sg' ks' =>
      obtain ⟨a0', b', ku', e0', hs', hb', hk'⟩ := den_app h'
      cases e0'
      refine ⟨_, _, hs, hs', rfl, rfl, fun j y y' w w' h1 h2 r1 r2 => ?_⟩
      match j, h1, h2 with
        | 0, h1, h2 =>
          simp only [List.getElem?_cons_zero, Option.some.injEq] at h1 h2
          subst h1 h2
          have := eqAt_kV (A := A.in1) (s := s) (a := Sum.inr appS) (b := Sum.inr appS) r1 r2
          rw [show decide ((Sum.inr appS : Key) = Sum.inr appS) = true by decide +kernel] at this
          exact this
        | 1, h1, h2 =>
          simp only [List.getElem?_cons_succ, List.getElem?_cons_zero, Option.some.injEq] at h1 h2
          subst h1 h2
          have := eqAt_kV (A := A.in1) (s := s) (a := Sum.inr sg) (b := Sum.inr sg') r1 r2
          have e9 : decide ((Sum.inr sg : Key) = Sum.inr sg') = decide (sg = sg') := by
            refine decide_eq_decide.mpr ⟨fun h => ?_, fun h => by rw [h]⟩
            injection h
          rw [e9] at this
          exact this
        | 2, h1, h2 =>
          simp only [List.getElem?_cons_succ, List.getElem?_cons_zero, Option.some.injEq] at h1 h2
          subst h1 h2
          obtain rfl : w = Value.ref b := r1
          obtain rfl : w' = Value.ref b' := r2
          show SeqAt.EqAt A.in1 s (.ref b) (.ref b') (eqbL ks ks')
          by_cases hbb : b = b'
          · subst hbb
            have e1 := I.tuple_inj hb hb'
            subst e1
            have e2 := Trm.dataL_inj (denL_inj I hk hk')
            subst e2
            rw [(eqbL_iff ks ks).mpr rfl]
            exact SeqAt.EqAt.same _
          · have l1 := hk.length
            have l2 := hk'.length
            rw [Trm.dataL_map, List.length_map] at l1 l2
            have := eqAt_tups I (A := A.in1) hb hb' hbb (fun j => match ks[j]?, ks'[j]? with | some a, some b => eqb a b | _, _ => true) (by show A.units + 1 + 1 < cLine; omega) (fun j y y' z z' g1 g2 q1 q2 => by
              obtain ⟨d, e1, d1⟩ := hk.get g1
              obtain ⟨d', e2, d2⟩ := hk'.get g2
              rw [Trm.dataL_map, List.getElem?_map] at e1 e2
              cases f1 : ks[j]? with
              | none => rw [f1] at e1; cases e1
              | some k1 =>
                cases f2 : ks'[j]? with
                | none => rw [f2] at e2; cases e2
                | some k2 =>
                  rw [f1] at e1
                  rw [f2] at e2
                  cases e1
                  cases e2
                  have hs1 := mem_size (List.mem_of_getElem? f1)
                  simp only [Trm.size] at hz
                  exact ih A.in1.in1 k1 k2 y y' z z' (by omega) (by show A.units + 1 + 1 + 2 * n + 4 < cLine; omega) d1 d2 q1 q2)
            rw [l1, l2, eqbL_all] at this
            exact this
        | j + 3, h1, h2 => simp at h1
theorem eqAt_trm (I : Inv X pins σ H s) : ∀ (n : Nat) (A : Around) (t t' : Trm) (v v' : V) (u u' : Value), t.size ≤ n → A.units + 2 * n + 4 < cLine → Den X.K H v t.data → Den X.K H v' t'.data → RelV v u → RelV v' u' → SeqAt.EqAt A s u u' (eqb t t') := by
  intro n
  induction n with
  | zero =>
    intro A t t' v v' u u' hz
    have := t.size_pos
    omega
  | succ n ih =>
    intro A t t' v v' u u' hz hu h h' r r'
    obtain ⟨a, _, _, rfl, _⟩ := den_head h
    obtain ⟨a', _, _, rfl, _⟩ := den_head h'
    obtain rfl : u = Value.ref a := r
    obtain rfl : u' = Value.ref a' := r'
    by_cases hab : a = a'
    · subst hab
      have e1 := Trm.data_inj (den_inj I h h')
      rw [e1, eqb_self]
      exact SeqAt.EqAt.same _
    obtain ⟨us, us', hs, hs', l1, l2, it⟩ := items_of I n ih A t t' h h' hz hu
    have key := eqAt_tups I (A := A) hs hs' hab (eT t t') (by omega) it
    rw [l1, l2, eT_all] at key
    exact key
end
section
variable {X : Cx}
noncomputable def mEqT (K : Frag) (n : Bool) : R2 := fun x y H Q => ∃ (t t' : Trm), Den K H x t.data ∧ Den K H y t'.data ∧ t.size ≤ 70 ∧ Q (.bl (n ^^ eqb t t')) H
theorem ko_eqT (K : Frag) (hK : X.K = K) (hu : X.A.units + 150 < cLine) : OpR X (compareOp .Eq) (mEqT K false) := by
  subst hK
  intro pins s σ H x y v u Q I rx ry h
  obtain ⟨t, t', h, h', hz, k⟩ := h
  obtain ⟨a, _, _, rfl, _⟩ := den_head h
  obtain ⟨a', _, _, rfl, _⟩ := den_head h'
  cases rx
  cases ry
  obtain ⟨us, us', hs, hs', l1, l2, it⟩ := items_of I 69 (eqAt_trm I 69) X.A t t' h h' (by omega) (by omega)
  obtain ⟨its, rv, p1, _⟩ := I.tuple hs
  obtain ⟨its', rv', p2, _⟩ := I.tuple hs'
  have m1 := rv.length
  have m2 := rv'.length
  refine SeqAt.eq_tupleAt (e := eT t t') (show s.heap.IsTuple a its.toArray from p1) (show s.heap.IsTuple a' its'.toArray from p2) (by omega) (fun j h1 h2 => ?_) ?_
  · have h1 : j < its.length := by simpa using h1
    have h2 : j < its'.length := by simpa using h2
    have x1 : us[j]? = some us[j] := List.getElem?_eq_getElem (by omega)
    have x2 : us'[j]? = some us'[j] := List.getElem?_eq_getElem (by omega)
    obtain ⟨w1, y1, z1⟩ := rv.get x1
    obtain ⟨w2, y2, z2⟩ := rv'.get x2
    have q1 : its.toArray[j] = w1 := by
      have := List.getElem?_eq_getElem h1
      rw [y1] at this
      simpa using (Option.some.inj this).symm
    have q2 : its'.toArray[j] = w2 := by
      have := List.getElem?_eq_getElem h2
      rw [y2] at this
      simpa using (Option.some.inj this).symm
    rw [q1, q2]
    exact it j _ _ _ _ x1 x2 z1 z2
  · rw [List.size_toArray, List.size_toArray, ← m1, ← m2, l1, l2, eT_all]
    rw [Bool.false_xor] at k
    exact ⟨.bl _, H, I, rfl, k⟩
theorem ko_neT (K : Frag) (hK : X.K = K) (hu : X.A.units + 150 < cLine) : OpR X (compareOp .NotEq) (mEqT K true) := by
  subst hK
  intro pins s σ H x y v u Q I rx ry h
  obtain ⟨t, t', h, h', hz, k⟩ := h
  obtain ⟨a, _, _, rfl, _⟩ := den_head h
  obtain ⟨a', _, _, rfl, _⟩ := den_head h'
  cases rx
  cases ry
  obtain ⟨us, us', hs, hs', l1, l2, it⟩ := items_of I 69 (eqAt_trm I 69) X.A t t' h h' (by omega) (by omega)
  obtain ⟨its, rv, p1, _⟩ := I.tuple hs
  obtain ⟨its', rv', p2, _⟩ := I.tuple hs'
  have m1 := rv.length
  have m2 := rv'.length
  refine SeqAt.RcNeAt.tuples (e := eT t t') (show s.heap.IsTuple a its.toArray from p1) (show s.heap.IsTuple a' its'.toArray from p2) (by omega) (fun j h1 h2 => ?_) X.prog X.w _ _ ?_
  · have h1 : j < its.length := by simpa using h1
    have h2 : j < its'.length := by simpa using h2
    have x1 : us[j]? = some us[j] := List.getElem?_eq_getElem (by omega)
    have x2 : us'[j]? = some us'[j] := List.getElem?_eq_getElem (by omega)
    obtain ⟨w1, y1, z1⟩ := rv.get x1
    obtain ⟨w2, y2, z2⟩ := rv'.get x2
    have q1 : its.toArray[j] = w1 := by
      have := List.getElem?_eq_getElem h1
      rw [y1] at this
      simpa using (Option.some.inj this).symm
    have q2 : its'.toArray[j] = w2 := by
      have := List.getElem?_eq_getElem h2
      rw [y2] at this
      simpa using (Option.some.inj this).symm
    rw [q1, q2]
    exact it j _ _ _ _ x1 x2 z1 z2
  · rw [List.size_toArray, List.size_toArray, ← m1, ← m2, l1, l2, eT_all]
    rw [Bool.true_xor] at k
    exact ⟨.bl _, H, I, rfl, k⟩
theorem mEqT_i {K : Frag} {H : Hp} {Q : VK} {x y : V} {n : Bool} {t t' : Trm} (h : Den K H x t.data) (h' : Den K H y t'.data) (hz : t.size ≤ 70) (k : Q (.bl (n ^^ eqb t t')) H) : mEqT K n x y H Q := ⟨t, t', h, h', hz, k⟩
end
end L2
set_option Elab.async false
set_option linter.all false
set_option maxRecDepth 100000
set_option maxHeartbeats 4000000
namespace L2
open PySem PySem.Spec PyProof.Rows PySem.W
section
variable {prog : Program} {w : World} {A : Around} {E : Value → Shared → Prop} {s : Shared}
noncomputable abbrev IsZipF (h : Heap) (z TI TO : Addr) (f0 : Value) (f1 : Bool) : Prop :=
  h.get? z = some { cls := .type "zip", dict := none, data := .fields #[f0, .bool f1, .bool false, .ref TI, .ref TO], slots := #[] }
end
end L2
set_option Elab.async false
set_option linter.all false
set_option maxRecDepth 100000
set_option maxHeartbeats 4000000
namespace L2
open PySem PySem.Spec PyProof.Rows PySem.W
section
variable {prog : Program} {w : World} {A : Around} {E : Value → Shared → Prop} {s : Shared}
noncomputable def ZS (h : Heap) (z TI TO i1 i2 t1 t2 S : Addr) (i : Nat) : Prop :=
  ((IsZip h z TI TO .none ∧ ∃ a b, IsPair h TO a b) ∨ ∃ (T : Addr) (f1 : Bool) (o : Obj), IsZipF h z TI TO (rawInt T) f1 ∧ h.get? T = some o ∧ T ≠ z ∧ T ≠ TO ∧ T ≠ i1 ∧ T ≠ i2 ∧ T ≠ S) ∧ IsPair h TI (.ref i1) (.ref i2) ∧ h.IsTupleIter i1 t1 i ∧ h.IsTupleIter i2 t2 i
theorem ZS.keep {h h' : Heap} {z TI TO i1 i2 t1 t2 S : Addr} {i : Nat} (st : ZS h z TI TO i1 i2 t1 t2 S i) (k : ∀ c o, c ≠ S → h.get? c = some o → h'.get? c = some o) (n : S ≠ z ∧ S ≠ TI ∧ S ≠ TO ∧ S ≠ i1 ∧ S ≠ i2) : ZS h' z TI TO i1 i2 t1 t2 S i := by
  obtain ⟨q, hTI, h1, h2⟩ := st
  refine ⟨?_, k _ _ n.2.1.symm hTI, h1.at fun o e => k _ o n.2.2.2.1.symm e, h2.at fun o e => k _ o n.2.2.2.2.symm e⟩
  rcases q with ⟨hz, a, b, hTO⟩ | ⟨T, f1, o, hz, hT, d⟩
  · exact .inl ⟨k _ _ n.1.symm hz, a, b, k _ _ n.2.2.1.symm hTO⟩
  · exact .inr ⟨T, f1, o, k _ _ n.1.symm hz, k _ _ d.2.2.2.2 hT, d⟩
end
section
variable {X : Cx} {pins : List (Addr × Obj)} {σ : St}
end
end L2
set_option Elab.async false
set_option linter.all false
set_option maxRecDepth 100000
set_option maxHeartbeats 4000000
namespace L2
open PySem PySem.Spec PyProof.Rows PySem.W
section
variable {X : Cx}
noncomputable def mDClr : V → List V → Hp → VK → Prop := fun x vs H Q => ∃ (a : Addr) (kvs : List (Key × V)), x = .ref a ∧ vs = [] ∧ H a = some (.dK kvs) ∧ Q .non (upd H a (.dK []))
theorem mm_dclr : MtR X "dict.clear" mDClr := by
  intro pins s σ H x vs v us Q I rx rv h
  obtain ⟨a, kvs, rfl, rfl, ha, q⟩ := h
  cases rx
  cases rv
  exact d_clear I ha fun s' I' => ⟨.non, _, I', rfl, q⟩
noncomputable def mNeKs (K : PySem.W.Frag) : R2 := fun x y H Q => ∃ (p : Addr) (k1 : List Key), x = .ref p ∧ SqT K H p (k1.map kV) ∧ ((y = .non ∧ Q (.bl true) H) ∨ ∃ (q : Addr) (k2 : List Key), y = .ref q ∧ SqT K H q (k2.map kV) ∧ Q (.bl (!decide (k1 = k2))) H)
theorem ko_neKs (K : PySem.W.Frag) (hK : X.K = K) (hu : X.A.units + 150 < cLine) : OpR X (compareOp .NotEq) (mNeKs K) := by
  subst hK
  intro pins s σ H x y v u Q I rx ry h
  obtain ⟨p, k1, rfl, hp, h⟩ := h
  cases rx
  obtain ⟨its, rv, p1, _⟩ := I.tuple hp
  rcases h with ⟨rfl, k⟩ | ⟨q, k2, rfl, hq, k⟩
  · cases ry
    exact SeqAt.RcNeAt.tuple_none (show s.heap.IsTuple p its.toArray from p1) (by omega) X.prog X.w _ _ ⟨.bl true, H, I, rfl, k⟩
  cases ry
  obtain ⟨its', rv', p2, _⟩ := I.tuple hq
  have l1 := rv.length
  have l2 := rv'.length
  rw [List.length_map] at l1 l2
  refine SeqAt.RcNeAt.tuples (e := fun j => decide (k1[j]? = k2[j]?)) (show s.heap.IsTuple p its.toArray from p1) (show s.heap.IsTuple q its'.toArray from p2) (by omega) (fun j h1 h2 => ?_) X.prog X.w _ _ ?_
  · have g1 : j < its.length := by simpa using h1
    have g2 : j < its'.length := by simpa using h2
    have j1 : j < k1.length := by omega
    have j2 : j < k2.length := by omega
    obtain ⟨w1, y1, z1⟩ := rv.get (show (k1.map kV)[j]? = some (kV k1[j]) by rw [List.getElem?_map, List.getElem?_eq_getElem j1]; rfl)
    obtain ⟨w2, y2, z2⟩ := rv'.get (show (k2.map kV)[j]? = some (kV k2[j]) by rw [List.getElem?_map, List.getElem?_eq_getElem j2]; rfl)
    have q1 : its.toArray[j] = w1 := by
      have := List.getElem?_eq_getElem g1
      rw [y1] at this
      simpa using (Option.some.inj this).symm
    have q2 : its'.toArray[j] = w2 := by
      have := List.getElem?_eq_getElem g2
      rw [y2] at this
      simpa using (Option.some.inj this).symm
    rw [q1, q2]
    have e0 : decide (k1[j]? = k2[j]?) = decide (k1[j] = k2[j]) := by rw [List.getElem?_eq_getElem j1, List.getElem?_eq_getElem j2]; exact decide_eq_decide.mpr ⟨fun h => Option.some.inj h, fun h => by rw [h]⟩
    rw [e0]
    exact eqAt_kV z1 z2
  · rw [List.size_toArray, List.size_toArray, ← l1, ← l2, all_eq]
    exact ⟨.bl _, H, I, rfl, k⟩
end
end L2
set_option Elab.async false
set_option linter.all false
set_option maxRecDepth 100000
set_option maxHeartbeats 4000000
namespace L2
open PySem PySem.Spec PyProof.Rows PySem.W
noncomputable def Itd (a : Addr) (o : Obj) (kvs : List (Key × V)) : It := ⟨fun i H => i < kvs.length ∧ H a = some (.frz o (.dK kvs)), fun i H x H' => H' = H ∧ ∃ k v, kvs[i]? = some (k, v) ∧ x = kV k, fun i H => i = kvs.length ∧ H a = some (.frz o (.dK kvs))⟩
theorem raw_frz {P : Program} {w : World} {H : Hp} {h : Heap} {a : Addr} {o : Obj} {kvs : List (Key × V)} {es : Array DictEntry} {ep : Nat} (hd : o.data = .dict es ep) (hok : ObjOk P w H h a (.frz o (.dK kvs))) :
    RawD h a es ep ∧ es.size = kvs.length ∧ ∀ (i : Nat) (hi : i < es.size), ∃ k v, kvs[i]? = some (k, v) ∧ RelV (kV k) es[i].key := by
  obtain ⟨ho, z, lo, vs, rel, dd⟩ := hok
  obtain ⟨ep', o', es', ho', hx, hd', hk, hpr, hn⟩ := dd.dictAt
  rw [ho] at ho'
  cases ho'
  rw [hd] at hd'
  cases hd'
  have hsz : es.size = vs.length := by rw [← hpr.length]; simp
  have hlx := rel.length
  refine ⟨⟨o, ho, hx, hd⟩, by omega, fun i hi => ?_⟩
  obtain ⟨p, hp⟩ : ∃ p, vs[i]? = some p := ⟨vs[i]'(by omega), List.getElem?_eq_getElem (by omega)⟩
  obtain ⟨h1, h2⟩ := hpr.get? (e := es[i]) (by simp [hi]) hp
  obtain ⟨kv, h3, h4, h5⟩ := paired_back rel i p hp
  refine ⟨kv.1, kv.2, h3, ?_⟩
  rw [h4]
  exact kV_rel h1
theorem turn_dict {P : Program} {w : World} {K : PySem.W.Frag} {tg : Expr} (a it : Addr) (o : Obj) (kvs : List (Key × V)) (es : Array DictEntry) (ep : Nat) (hd : o.data = .dict es ep) : Turn P w K tg (Itd a o kvs) [it] it (fun i h => h.IsKeyIter it a i es.size ep) where
  mem := by simp
  obj := fun i h st b hb => by
    have e : b = it := by simpa using hb
    subst e
    obtain ⟨o, e, c, d⟩ := st
    exact ⟨o, e, fun v z => by rw [d] at z; cases z⟩
  keep := fun i h h' st k => by
    obtain ⟨o, e, c⟩ := st
    exact ⟨o, k it (by simp) o e, c⟩
  item := by
    intro X hP hw hK hc i pins s σ H E I hf st hg
    subst hP hw hK
    obtain ⟨hi, hH⟩ := hg
    obtain ⟨raw, hsz, hget⟩ := raw_frz hd (I.hok a _ hH)
    obtain ⟨f0, f1, f2, f3, f4, f5⟩ := hf it (by simp)
    obtain ⟨k, v, h1, h2⟩ := hget i (by omega)
    refine raw_key_item st raw (by omega) fun h' st' sb => ?_
    have I1 : Inv X pins σ H { s with heap := h' } := I.turned (t' := s.toks) (fun b o hb e => (sb.2 b hb).trans e) f0 f1 f3 f4 f5
    obtain ⟨o2, e, c, d⟩ := id st'
    exact ⟨_, rfl, go_of (s := { s with heap := h' }) e c d (by decide) ⟨kV k, H, I1, h2, ⟨rfl, k, v, h1, rfl⟩, st', fun b hb => (hf b hb).1⟩⟩
  done := by
    intro X hP hw hK hc i pins s σ H E I hf st hg
    subst hP hw hK
    obtain ⟨f0, f1, f2, f3, f4, f5⟩ := hf it (by simp)
    obtain ⟨hi, hH⟩ := hg
    obtain ⟨raw, hsz, hget⟩ := raw_frz hd (I.hok a _ hH)
    rw [hi, ← hsz] at st
    exact raw_key_end (I.ok.hd hc) st raw fun h' eb => ⟨rfl, I.turned (t' := s.toks) (fun b o hb e => eb b o hb e) f0 f1 f3 f4 f5⟩
  self := fun _ _ _ _ _ st h => wpAny_pyIter_keyiter st h
theorem row_dict {a : Addr} {o : Obj} {kvs : List (Key × V)} : Row (Itd a o kvs) kvs.length (fun i => ((kvs[i]?).map fun p => kV p.1).getD .non) (fun H => H a = some (.frz o (.dK kvs))) := ⟨fun i H h q => ⟨h, q⟩, fun i H v H' hi q h => by
  obtain ⟨e, k, x, h1, h2⟩ := h
  refine ⟨e, ?_⟩
  rw [h1, h2]
  rfl, fun H q => ⟨rfl, q⟩⟩
section
variable {X : Cx} {tg : Expr}
noncomputable def NFz (X : Cx) (a : Addr) : Prop := ∀ o u, X.H₀ a ≠ some (.frz o u)
noncomputable def iDict (NF : Addr → Prop) (tl : TE) : TI := fun σ H R => tl σ H fun x H1 => ∃ a kvs, x = .ref a ∧ H1 a = some (.dK kvs) ∧ ∀ o, NF a → R (Itd a o kvs) (upd H1 a (.frz o (.dK kvs)))
theorem pi_dict {l : Expr} {tl : TE} (hl : PE X l tl) : PI X tg l (iDict (NFz X) tl) := by
  intro pins s σ H R I h
  refine thn (hl pins s σ H _ I h) fun u s1 ⟨x, H1, I1, r1, a, kvs, ex, ha, q⟩ => ?_
  subst ex
  cases r1
  obtain ⟨z, lo, vs, rel, dd⟩ := dk_of I1.hok ha
  obtain ⟨ep, o, es, ho, hx, hd, hk, hpr, hn⟩ := dd.dictAt
  have nf : NFz X a := fun o' u' e => by
    have := I1.base.frzs a o' u' e
    rw [ha] at this
    cases this
  have I2 : Inv X pins σ (upd H1 a (.frz o (.dK kvs))) s1 := I1.write (t' := s1.toks) (h' := s1.heap) (x := a) (e := a) (by rw [ha]; exact True.intro) (.inl rfl) (fun b q hb e => e) ⟨o, ho⟩ ⟨ho, z, lo, vs, rel, dd⟩
  refine raw_iter lo ⟨o, ho, hx, hd⟩ ?_
  refine ⟨s1.heap.objs.size, [s1.heap.objs.size], _, _, _, rfl, I2.kept (t' := s1.toks) fun b q e => Heap.get?_push_of_some _ e, turn_dict a _ o kvs es ep hd, ⟨_, Heap.get?_push_size _ rfl, rfl, rfl⟩, fun b hb => ?_, q o nf⟩
  have e : b = s1.heap.objs.size := by simpa using hb
  subst e
  exact I2.fpOk (Nat.le_refl _) (I2.hok.fresh (Nat.le_refl _))
theorem Inv.thaw {pins : List (Addr × Obj)} {σ : St} {H : Hp} {s : Shared} {a : Addr} {o : Obj} {kvs : List (Key × V)} (I : Inv X pins σ H s) (nf : NFz X a) (hH : H a = some (.frz o (.dK kvs))) : Inv X pins σ (upd H a (.dK kvs)) s := by
  have ne0 : ∀ b, H b = none → b ≠ a := fun b h z => by rw [z, hH] at h; cases h
  have ne1 : ∀ b u, H b = some u → (∀ o' u', u ≠ .frz o' u') → b ≠ a := fun b u h n z => by
    rw [z, hH] at h
    exact n _ _ (Option.some.inj h).symm
  have hok := I.hok
  refine { I with base := ⟨I.base.keep, I.base.slot, fun b o' g h e => ?_, I.base.there, fun b xs e => ?_, fun b o' u e => ?_, fun b ps e => ?_⟩, free := ?_, freeC := fun x c e => ?_, pin := fun p hp => ?_, hok := fun b u e => ?_ }
  · have := I.base.free b o' g h e
    rw [upd_ne (ne0 b this)]
    exact this
  · have := I.base.tups b xs e
    rw [upd_ne (ne1 b _ this (fun _ _ z => by cases z))]
    exact this
  · have := I.base.frzs b o' u e
    have nb : b ≠ a := fun z => by subst z; exact nf o' u e
    rw [upd_ne nb]
    exact this
  · obtain ⟨more, this⟩ := I.base.tbls b ps e
    refine ⟨more, ?_⟩
    rw [upd_ne (ne1 b _ this (fun _ _ z => by cases z))]
    exact this
  · rw [upd_ne (ne0 _ I.free)]
    exact I.free
  · have := I.freeC x c e
    rw [upd_ne (ne0 _ this)]
    exact this
  · obtain ⟨h1, h2, h3⟩ := I.pin p hp
    refine ⟨h1, ?_, h3⟩
    rw [upd_ne (ne0 _ h2)]
    exact h2
  · by_cases hb : b = a
    · subst hb
      rw [upd_same] at e
      cases e
      exact (hok b _ hH).2
    · rw [upd_ne hb] at e
      refine (hok b u e).stay (fun c v _ q => q) (fun c q => ?_) fun c xs q => ?_
      · rw [upd_ne (ne1 c _ q (fun _ _ z => by cases z))]; exact q
      · rw [upd_ne (ne1 c _ q (fun _ _ z => by cases z))]; exact q
noncomputable def mIsDK : List V → Hp → VK → Prop := fun vs H Q => ∃ p kvs, vs = [.ref p, .ty "dict"] ∧ H p = some (.dK kvs) ∧ Q (.bl true) H
theorem mc_isDK : CallR X (.builtin "isinstance") mIsDK := by
  intro pins s σ H xs us Q I r h
  obtain ⟨p, kvs, rfl, hp, q⟩ := h
  obtain ⟨u, w', rfl, r1, r2⟩ := vals2 r
  cases r2
  exact isinst_ok (x := .ref p) I r1 (.dK hp) (kit_same _ _) fun tk => ⟨.bl true, H, I.tok _, rfl, q⟩
end
end L2
set_option Elab.async false
set_option linter.all false
set_option maxRecDepth 100000
set_option maxHeartbeats 4000000
namespace L2
open PySem PySem.Spec PyProof.Rows PySem.W
section
variable {X : Cx}
end
end L2
set_option Elab.async false
set_option linter.all false
set_option maxRecDepth 100000
set_option maxHeartbeats 4000000
namespace L2
open PySem PySem.Spec PyProof.Rows PySem.W
noncomputable def IsRv (h : Heap) (a t : Addr) (i : Int) : Prop := ∃ o, h.get? a = some o ∧ o.cls = .type "reversed" ∧ o.data = .fields #[.ref t, rawInt i]
theorem IsRv.typeIs {s : Shared} {a t : Addr} {i : Int} (x : IsRv s.heap a t i) : s.TypeIs (.ref a) "reversed" := let ⟨o, ho, hc, _⟩ := x; ⟨o, ho, hc⟩
theorem IsRv.at {h h' : Heap} {a l : Addr} {i : Int} (x : IsRv h a l i) (e : ∀ o, h.get? a = some o → h'.get? a = some o) : IsRv h' a l i := let ⟨o, ho, r⟩ := x; ⟨o, e _ ho, r⟩
section
variable {prog : Program} {w : World} {A : Around} {E : Value → Shared → Prop} {s : Shared}
end
end L2
set_option Elab.async false
set_option linter.all false
set_option maxRecDepth 100000
set_option maxHeartbeats 4000000
namespace L2
open PySem PySem.Spec PyProof.Rows PySem.W
section
variable {X : Cx}
end
end L2
set_option Elab.async false
set_option linter.all false
set_option maxRecDepth 100000
set_option maxHeartbeats 4000000
namespace L2
open PySem PySem.Spec PyProof.Rows PySem.W
section
variable {X : Cx} {pos : Pos} {e e2 : Expr} {te te2 : TE}
end
section
variable {X : Cx}
end
end L2
set_option Elab.async false
set_option linter.all false
set_option maxRecDepth 100000
set_option maxHeartbeats 4000000
namespace L2
open PySem PySem.Spec PyProof.Rows
section
variable {X : Cx}
end
section
variable {X : Cx}
end
section
variable {K : PySem.W.Frag} {σ : St} {H : Hp} {Q : VK} {D : Ends} {ta tv : TE} {t : TA} {f m : Str} {C : Addr} {sp : Sp} {dvs : List V} {E : XK}
theorem tFld_i (k : ta σ H fun x H1 => ∃ a C dx fs v, x = .ref a ∧ H1 a = some (.ins C dx fs) ∧ Cls K C ∧ NoAttr K C f ∧ fs.lookup f = some v ∧ Q v H1) : tFld K ta f σ H Q := k
theorem sFld_i (k : tv σ H fun y H1 => ta σ H1 fun x H2 => ∃ a C dx fs, x = .ref a ∧ H2 a = some (.ins C dx fs) ∧ Cls K C ∧ NoAttr K C f ∧ fs.length < 1000 ∧ D.nx σ (upd H2 a (.ins C dx (putF f y fs)))) : sFld K ta tv f D σ H := k
theorem tMeth_i (k : ta σ H fun x H1 => ∃ a dx fs, x = .ref a ∧ H1 a = some (.ins C dx fs) ∧ fs.lookup m = none ∧ t σ H1 fun vs H2 => sp (x :: (vs ++ dvs)) H2 Q E) : tMeth C m sp dvs E ta t σ H Q := k
theorem tMake_i (k : t σ H fun vs H1 => ∀ x dx, H1 x = none → H1 dx = none → dx ≠ x → sp (.ref x :: (vs ++ dvs)) (upd (upd H1 dx (.own x)) x (.ins C dx [])) (fun v H2 => v = .non ∧ Q (.ref x) H2) E) : tMake C sp dvs E t σ H Q := k
theorem sFldAug_i {rd : V → V → Hp → VK → Prop} (k : ta σ H fun x H1 => ∃ a C dx fs v, x = .ref a ∧ H1 a = some (.ins C dx fs) ∧ Cls K C ∧ NoAttr K C f ∧ fs.lookup f = some v ∧
  tv σ H1 fun y H2 => rd v y H2 fun z H3 => ∃ dx' fs', H3 a = some (.ins C dx' fs') ∧ fs'.length < 1000 ∧ D.nx σ (upd H3 a (.ins C dx' (putF f z fs')))) : sFldAug K ta tv rd f D σ H := k
end
end L2
set_option Elab.async false
set_option linter.all false
set_option maxRecDepth 100000
set_option maxHeartbeats 4000000
namespace L2
open PySem PySem.Spec PyProof.Rows PySem.W
section
variable {X : Cx}
end
end L2
set_option Elab.async false
set_option linter.all false
set_option maxRecDepth 100000
set_option maxHeartbeats 4000000
namespace L2
open PySem PySem.Spec PyProof.Rows PySem.W
section
variable {X : Cx}
end
noncomputable def Itvl (a : Addr) (o : Obj) (kvs : List (Key × V)) : It := ⟨fun i H => i < kvs.length ∧ H a = some (.frz o (.dK kvs)), fun i H x H' => H' = H ∧ ∃ k, kvs[i]? = some (k, x), fun i H => i = kvs.length ∧ H a = some (.frz o (.dK kvs))⟩
section
variable {X : Cx} {tg : Expr}
noncomputable def iVals (NF : Addr → Prop) (tl : TE) : TI := fun σ H R => tl σ H fun x H1 => ∃ r a kvs, x = .ref r ∧ H1 r = some (VView r a) ∧ H1 a = some (.dK kvs) ∧ ∀ o, NF a → R (Itvl a o kvs) (upd H1 a (.frz o (.dK kvs)))
theorem iVals_i {NF : Addr → Prop} {tl : TE} {σ : St} {H : Hp} {R : It → Hp → Prop} (k : tl σ H fun x H1 => ∃ r a kvs, x = .ref r ∧ H1 r = some (VView r a) ∧ H1 a = some (.dK kvs) ∧ ∀ o, NF a → R (Itvl a o kvs) (upd H1 a (.frz o (.dK kvs)))) : iVals NF tl σ H R := k
noncomputable def tThawE (NF : Addr → Prop) (t : TE) : TE := fun σ H Q => t σ H fun v H' => ∃ a o kvs, NF a ∧ H' a = some (.frz o (.dK kvs)) ∧ Q v (upd H' a (.dK kvs))
theorem tThawE_i {NF : Addr → Prop} {t : TE} {σ : St} {H : Hp} {Q : VK} (k : t σ H fun v H' => ∃ a o kvs, NF a ∧ H' a = some (.frz o (.dK kvs)) ∧ Q v (upd H' a (.dK kvs))) : tThawE NF t σ H Q := k
noncomputable def tThawR (NF : Addr → Prop) (t : TS) : TS := fun D σ H => t { nx := fun σ' H' => ∃ a o kvs, NF a ∧ H' a = some (.frz o (.dK kvs)) ∧ D.nx σ' (upd H' a (.dK kvs)), rt := fun v H' => ∃ a o kvs, NF a ∧ H' a = some (.frz o (.dK kvs)) ∧ D.rt v (upd H' a (.dK kvs)), bk := D.bk, ct := D.ct } σ H
theorem ps_thawR {st : Stmt} {t : TS} (h : PS X st t) : PS X st (tThawR (NFz X) t) := by
  intro pins s σ H D I q
  refine thn (h pins s σ H _ I q) fun f s1 r => ?_
  cases f with
  | next =>
    obtain ⟨σ', H', I', a, o, kvs, nf, hH, q'⟩ := r
    exact ⟨σ', _, I'.thaw nf hH, q'⟩
  | brk => exact r
  | cont => exact r
  | ret u =>
    obtain ⟨v, σ', H', I', rv, a, o, kvs, nf, hH, q'⟩ := r
    exact ⟨v, σ', _, I'.thaw nf hH, rv, q'⟩
theorem tThawR_i {NF : Addr → Prop} {t : TS} {D : Ends} {σ : St} {H : Hp} (k : t { nx := fun σ' H' => ∃ a o kvs, NF a ∧ H' a = some (.frz o (.dK kvs)) ∧ D.nx σ' (upd H' a (.dK kvs)), rt := fun v H' => ∃ a o kvs, NF a ∧ H' a = some (.frz o (.dK kvs)) ∧ D.rt v (upd H' a (.dK kvs)), bk := D.bk, ct := D.ct } σ H) : tThawR NF t D σ H := k
end
section
variable {X : Cx} {pos : Pos} {e e2 : Expr} {te te2 : TE}
end
end L2
set_option Elab.async false
set_option linter.all false
set_option maxRecDepth 100000
set_option maxHeartbeats 4000000
namespace L2
open PySem PySem.Spec PyProof.Rows PySem.W
theorem hash_tup {P : Program} {w : World} {A : Around} {E : Value → Shared → Prop} {s : Shared} {a : Addr} {its : Array Value} {Q : Int → Shared → Prop} (hu : A.units < cLine) (ht : IsTup s.heap a its)
    (each : ∀ x ∈ its.toList, ∀ (tk : Nat) (B : Int → Shared → Prop) (E' : Value → Shared → Prop), (∀ i tk', B i { s with toks := tk' }) → wpAny (model P w) A.in1 (pyHash x) B E' { s with toks := tk }) (k : ∀ i tk, Q i { s with toks := tk }) : wpAny (model P w) A (pyHash (.ref a)) Q E s := by
  obtain ⟨⟨oc, od, odt, osl⟩, ho, hc, n, hd⟩ := ht
  dsimp only at hc hd
  subst hc hd
  have ty : s.TypeIs (.ref a) "tuple" := ⟨_, ho, rfl⟩
  have sl := F.slot_tuple_hash
  unfold pyHash pyHashByItsType
  refine wpAny_bind (wpAny_cRoomFor_or (.inr hu) (wpAny_bind (wpAny_specialOf ty sl.lookup ?_)))
  rw [if_neg (show ¬ (some (Value.builtin "tuple.__hash__") == some Value.none) = true by rw [beq_builtin_none]; exact Bool.false_ne_true)]
  refine wpAny_bind (wpAny_specialOf ty sl.lookup (wpAny_bind (wpAny_callSpecialIfBoundUnlessNone?_slot ty sl (wpAny_call_entry sl ty F.entry_tuple_hash ?_ (F.args_tuple_hash_1 _)))))
  (show wpAny _ _ (Builtin.Tuple.tupleItemsOf (.ref a) >>= _) _ _ s; refine wpAny_bind (wpAny_tupleItemsOf ho rfl (wpAny_bind ?_)))
  rw [← Array.forIn_toList]
  refine wpAny_forIn_list _ (fun rest (_ : Array Int) s1 => (∀ x ∈ rest, x ∈ its.toList) ∧ ∃ tk, s1 = { s with toks := tk }) _ (fun x rest b s1 hx => ?_) (fun b s1 hx => ?_) _ _ ⟨fun x h => h, s.toks, rfl⟩
  · obtain ⟨hr, tk, rfl⟩ := hx
    refine wpAny_bind (each x (hr x List.mem_cons_self) tk _ _ fun i tk1 => ?_)
    first
      | exact wpAny_pure ⟨fun y hy => hr y (List.mem_cons_of_mem _ hy), _, rfl⟩
      | exact wpAny_bind (wpAny_pure (wpAny_pure ⟨fun y hy => hr y (List.mem_cons_of_mem _ hy), _, rfl⟩))
  · obtain ⟨_, tk, rfl⟩ := hx
    show wpAny _ _ (retInt _) _ _ _
    refine wpAny_ret_mkInt ?_
    show wpAny _ _ (pyHashByItsType.reduced _) Q E _
    unfold pyHashByItsType.reduced
    split
    · exact wpAny_pure (k _ _)
    · exact wpAny_bind (wpAny_rule (wpAny_pure (k _ _)))
section
variable {X : Cx} {pins : List (Addr × Obj)} {σ : St} {H : Hp} {s : Shared}
noncomputable def hashy : PyData → Bool
  | .int _ => true
  | .str _ => true
  | .tuple ds => hashyL ds
  | _ => false
where hashyL : List PyData → Bool
  | [] => true
  | d :: r => hashy d && hashyL r
theorem hash_den (I : Inv X pins σ H s) : ∀ (n : Nat) (A : Around) (E : Value → Shared → Prop) (tk0 : Nat) (d : PyData) (v : V) (u : Value) (Q : Int → Shared → Prop), d.depth ≤ n → hashy d = true → A.units + n < cLine → Den X.K H v d → RelV v u → (∀ i tk, Q i { s with toks := tk }) → wpAny (model X.prog X.w) A (pyHash u) Q E { s with toks := tk0 } := by
  intro n
  induction n with
  | zero =>
    intro A E tk0 d v u Q hd hh hu h r k
    cases h with
    | non => cases hh
    | bl b => cases hh
    | int i =>
      obtain ⟨t, rfl⟩ := r
      exact wpAny_pyHash_int (k _ _)
    | str x =>
      obtain ⟨t, rfl⟩ := r
      exact wpAny_pyHash_str (k _ _)
    | tup _ _ => simp [PyData.depth] at hd
  | succ n ih =>
    intro A E tk0 d v u Q hd hh hu h r k
    cases h with
    | non => cases hh
    | bl b => cases hh
    | int i =>
      obtain ⟨t, rfl⟩ := r
      exact wpAny_pyHash_int (k _ _)
    | str x =>
      obtain ⟨t, rfl⟩ := r
      exact wpAny_pyHash_str (k _ _)
    | @tup a us ds hs hl =>
      cases r
      obtain ⟨its, rv, p, _⟩ := I.tuple hs
      have hd' : PyData.depthAll ds ≤ n := by simp only [PyData.depth] at hd; omega
      have hall : ∀ ds : List PyData, hashy.hashyL ds = true → ∀ (j : Nat) (e : PyData), ds[j]? = some e → hashy e = true := fun ds => by
        induction ds with
        | nil => intro _ j e z; simp at z
        | cons x r ih2 =>
          intro hz j e z
          have hz : (hashy x && hashy.hashyL r) = true := hz
          rw [Bool.and_eq_true] at hz
          cases j with
          | zero => simp at z; subst z; exact hz.1
          | succ j => exact ih2 hz.2 j e (by simpa using z)
      refine hash_tup (s := { s with toks := tk0 }) (its := its.toArray) (by omega) p (fun x hx tk B E' kB => ?_) (fun i tk => k i tk)
      obtain ⟨j, hj⟩ := List.mem_iff_getElem?.mp (show x ∈ its by simpa using hx)
      have l1 := rv.length
      have l2 := hl.length
      have hjl := (List.getElem?_eq_some_iff.mp hj).1
      have x1 : us[j]? = some us[j] := List.getElem?_eq_getElem (by omega)
      obtain ⟨e, e1, d1⟩ := hl.get x1
      obtain ⟨w1, y1, z1⟩ := rv.get x1
      rw [hj] at y1
      cases y1
      exact ih A.in1 E' tk e _ x B (Nat.le_trans (depthAll_get e1) hd') (hall ds hh j e e1) (by show A.units + 1 + n < cLine; omega) d1 z1 kB
end
section
variable {P : Program} {w : World} {A : Around} {E : Value → Shared → Prop} {s : Shared} {d a : Addr} {o : Obj} {ep : Nat}
theorem find_empty {i : Int} {Q : Option Nat → Shared → Prop} (ho : s.heap.get? d = some o) (hd : o.data = .dict #[] ep) (k : Q none s) : wpAny (model P w) A (dictFind d (.ref a) i) Q E s := by
  unfold dictFind
  (with_reducible refine wpAny_holding (wpAny_bind (wpAny_dictEntries ho hd ?_)))
  dsimp only
  have e1 : placesWithHash (#[] : Array DictEntry).size (fun j => (#[] : Array DictEntry)[j]?.map (·.hash)) i = [] := rfl
  rw [e1]
  rw [if_neg (show ¬ ((Value.ref a :: ([] : List Nat).filterMap (fun j => (#[] : Array DictEntry)[j]?.map (·.key))).all carriedByValue) = true by simp [carriedByValue])]
  rw [if_neg (by simp), if_neg (by simp)]
  refine wpAny_bind ?_
  unfold tableMayTell
  rw [if_pos (by simp)]
  refine wpAny_pure ?_
  rw [if_neg (by simp)]
  exact wpAny_bind (wpAny_pure (wpAny_pure k))
theorem get_empty {Q : Option Value → Shared → Prop} (ho : s.heap.get? d = some o) (hd : o.data = .dict #[] ep)
    (hash : ∀ (B : Int → Shared → Prop), (∀ i tk, B i { s with toks := tk }) → wpAny (model P w) A (pyHash (.ref a)) B E s) (k : ∀ tk, Q none { s with toks := tk }) : wpAny (model P w) A (dictGet d (.ref a)) Q E s := by
  unfold dictGet
  (with_reducible refine wpAny_holding (wpAny_bind (hash _ fun i tk => ?_)))
  exact wpAny_bind (find_empty (s := { s with toks := tk }) ho hd (wpAny_pure (k tk)))
theorem notIn_empty {Q : Value → Shared → Prop} (hx : o.ExactDict) (hlo : (d == sysModules) = false) (ho : s.heap.get? d = some o) (hd : o.data = .dict #[] ep)
    (hash : ∀ (B : Int → Shared → Prop) (E' : Value → Shared → Prop), (∀ i tk, B i { s with toks := tk }) → wpAny (model P w) A.in1 (pyHash (.ref a)) B E' s) (k : ∀ tk, Q (.bool true) { s with toks := tk }) : wpAny (model P w) A (compareOp .NotIn (.ref a) (.ref d)) Q E s := by
  have ty : s.TypeIs (.ref d) "dict" := ⟨o, ho, hx.1⟩
  show wpAny _ _ (do return .bool (!(← contains (.ref d) (.ref a)))) Q E s
  refine wpAny_bind ?_
  unfold contains
  (with_reducible refine wpAny_holding (wpAny_bind (wpAny_specialOf ty slot_dict_contains.lookup ?_)))
  rw [if_neg (show ¬ (some (Value.builtin "dict.__contains__") == some Value.none) = true by rw [beq_builtin_none]; exact Bool.false_ne_true)]
  refine wpAny_bind (wpAny_callSpecialUnlessNone?_slot (name := Str.ofString "__contains__") ty slot_dict_contains (wpAny_call_entry slot_dict_contains ty entry_dict_contains ?_ (args_dict_contains _ _)))
  show wpAny _ _ (dictGet d (.ref a) >>= _) _ _ s
  refine wpAny_bind (get_empty ho hd (fun B kB => hash B _ kB) fun tk => ?_)
  show wpAny _ _ (Builtin.Dict.pendingKey? d (.ref a) >>= _) _ _ _
  exact wpAny_bind (wpAny_pendingKey_other hlo (wpAny_pure ⟨_, rfl, wpAny_truthy_bool (wpAny_pure (k tk))⟩))
theorem put_empty {v : Value} {Q : Unit → Shared → Prop} (hx : o.ExactDict) (ho : s.heap.get? d = some o) (hd : o.data = .dict #[] ep)
    (hash : ∀ (B : Int → Shared → Prop) (E' : Value → Shared → Prop), (∀ i tk, B i { s with toks := tk }) → wpAny (model P w) A.in1 (pyHash (.ref a)) B E' s)
    (k : ∀ h' tk, (∃ o', h'.get? d = some o' ∧ o'.ExactDict ∧ ∃ es ep', o'.data = .dict es ep') → Heap.SameBut d s.heap h' → Q () { s with heap := h', toks := tk }) : wpAny (model P w) A (setItem (.ref d) (.ref a) v) Q E s := by
  have ty : s.TypeIs (.ref d) "dict" := ⟨o, ho, hx.1⟩
  unfold setItem
  (with_reducible refine wpAny_holding (wpAny_bind (wpAny_sequenceKey ty (by decide) ?_)))
  refine wpAny_bind (wpAny_callSpecial?_slot (name := Str.ofString "__setitem__") ty slot_dict_setitem (wpAny_call_entry slot_dict_setitem ty entry_dict_setitem ?_ (args_dict_setitem _ _ _)))
  show wpAny _ _ (Builtin.Dict.notOrdered "__setitem__" _ >>= _) _ _ s
  refine wpAny_bind (wpAny_notOrdered_dict ty ?_)
  show wpAny _ _ (dictSet d (.ref a) v >>= _) _ _ s
  refine wpAny_bind ?_
  unfold dictSet
  (with_reducible refine wpAny_holding (wpAny_bind (hash _ _ fun i tk => ?_)))
  unfold dictSetHashed
  (with_reducible refine wpAny_holding (wpAny_bind (find_empty (s := { s with toks := tk }) ho hd ?_)))
  refine wpAny_bind (wpAny_rule (wpAny_updateDictKeys (hz := by simp) (s := { s with toks := tk }) ho hd (wpAny_pure ⟨.none, rfl, wpAny_pure (k _ tk ⟨_, Heap.get?_update_self _ ho (Obj.isFreed_of_dict (Obj.data_mapDictKeys hd _)), hx.mapDictKeys _, _, _, Obj.data_mapDictKeys hd _⟩ (Heap.SameBut.update ..))⟩)))
end
section
variable {X : Cx}
theorem dk_nil {pins : List (Addr × Obj)} {σ : St} {H : Hp} {s : Shared} {q : Addr} (I : Inv X pins σ H s) (h : H q = some (.dK [])) : ∃ ep o, (q == sysModules) = false ∧ s.heap.get? q = some o ∧ o.ExactDict ∧ o.data = .dict #[] ep := by
  obtain ⟨_, lo, vs, rel, dd⟩ := dk_of I.hok h
  cases rel
  obtain ⟨ep, o, es, ho, hx, hd, hk, hpr, hn⟩ := dd.dictAt
  have e : es = #[] := by
    have := hpr.length
    exact Array.eq_empty_of_size_eq_zero (by simpa using this)
  rw [e] at hd
  exact ⟨ep, o, lo, ho, hx, hd⟩
noncomputable def mNinE (K : Frag) : R2 := fun x y H Q => ∃ (p q : Addr) (d : PyData), x = .ref p ∧ y = .ref q ∧ H q = some (.dK []) ∧ Den K H (.ref p) d ∧ hashy d = true ∧ d.depth ≤ 140 ∧ Q (.bl true) H
theorem ko_ninE (K : Frag) (hK : X.K = K) (hu : X.A.units + 150 < cLine) : OpR X (compareOp .NotIn) (mNinE K) := by
  subst hK
  intro pins s σ H x y v u Q I rx ry h
  obtain ⟨p, q, d, rfl, rfl, hq, hd, hh, hz, k⟩ := h
  obtain rfl : v = Value.ref p := rx
  obtain rfl : u = Value.ref q := ry
  obtain ⟨ep, o, lo, ho, hx, hdat⟩ := dk_nil I hq
  refine notIn_empty hx lo ho hdat (fun B E' kB => ?_) fun tk => ⟨.bl true, H, I.tok _, rfl, k⟩
  exact hash_den I 140 X.A.in1 E' s.toks d _ _ B hz hh (by show X.A.units + 1 + 140 < cLine; omega) hd rfl kB
noncomputable abbrev OpD (a : Addr) : HO := .ext fun h => ∃ o, h.get? a = some o ∧ o.ExactDict
noncomputable def rSetE (K : Frag) : V → V → V → Hp → (Hp → Prop) → Prop := fun o i v H Q => ∃ (q p : Addr) (d : PyData), o = .ref q ∧ i = .ref p ∧ H q = some (.dK []) ∧ Den K H (.ref p) d ∧ hashy d = true ∧ d.depth ≤ 140 ∧ Q (upd H q (OpD q))
theorem set_hash (K : Frag) (hK : X.K = K) (hu : X.A.units + 150 < cLine) : PSet X (rSetE K) := by
  subst hK
  intro pins s σ H o i v ov iv u Q I ro ri rv h
  obtain ⟨q, p, d, rfl, rfl, hq, hd, hh, hz, k⟩ := h
  obtain rfl : ov = Value.ref q := ro
  obtain rfl : iv = Value.ref p := ri
  obtain ⟨ep, o, lo, ho, hx, hdat⟩ := dk_nil I hq
  refine put_empty hx ho hdat (fun B E' kB => hash_den I 140 X.A.in1 E' s.toks d _ _ B hz hh (by show X.A.units + 1 + 140 < cLine; omega) hd rfl kB) fun h' tk new sb => ?_
  obtain ⟨o', ho', hx', _⟩ := new
  refine ⟨_, I.write (o := OpD q) (t' := tk) (h' := h') (x := q) (e := q) (by rw [hq]; exact True.intro) (.inl rfl) (fun b u hb e => (sb.2 b hb).trans e) ⟨o', ho'⟩ ⟨⟨o', ho', hx'⟩, ⟨o', ho'⟩, fun h1 h2 ⟨o2, e1, e2⟩ k2 => ⟨o2, k2 _ e1, e2⟩⟩, k⟩
end
end L2
set_option Elab.async false
set_option linter.all false
set_option maxRecDepth 100000
set_option maxHeartbeats 4000000
namespace L2
open PySem PySem.Spec PyProof.Rows PySem.W
theorem collect_dict {P : Program} {w : World} {A : Around} {E : Value → Shared → Prop} {s : Shared} {d : Addr} {kvs : List (Key × Value)} {ep : Nat} {Q : List Value → Shared → Prop} (lo : (d == sysModules) = false) (hh : A.handled = none) (hm : s.heap.DictAt (mixKind P w) d kvs ep) (hn : kvs.length ≤ sizeLine)
    (h : ∀ h' tk acc, (∀ b o, s.heap.get? b = some o → h'.get? b = some o) → s.heap.objs.size < h'.objs.size → ItemsOf (fun i v => ∃ k x, kvs[i]? = some (k, x) ∧ (mixKind P w).is k v = true) acc kvs.length → Q acc.toList { s with heap := h', toks := tk }) :
    wpAny (model P w) A (collect (.ref d)) Q E s := by
  unfold collect
  refine wpAny_bind (wpAny_runValue (codeAny_builtin PySem.F.entry_proto_collect ?_))
  rw [Around.under_plainId PySem.F.plain_proto_collect _]
  show wpAny _ A.in1 (newList [] >>= fun l => again (.builtin "list.__iadd__" ⟨[l, .ref d], []⟩)) _ _ s
  refine wpAny_bind (wpAny_newObj_type (wpAny_pure ⟨plainId_quiet PySem.F.plain_list_iadd _, codeAny_builtin PySem.F.entry_list_iadd ?_⟩))
  rw [Around.under_plainId PySem.F.plain_list_iadd _]
  have hlt := hm.lt_size
  have nw : (s.heap.push { cls := .type "list", data := .seq ([] : List Value).toArray }).get? s.heap.objs.size = some { cls := .type "list", data := .seq #[] } := Heap.get?_push_size _ rfl
  have hm1 : (s.heap.push { cls := .type "list", data := .seq ([] : List Value).toArray }).DictAt (mixKind P w) d kvs ep := hm.at' fun o e => Heap.get?_push_of_some _ e
  show wpAny _ A.in1 (Builtin.List.listExtendWith (.ref s.heap.objs.size) (.ref d) (.ref s.heap.objs.size)) _ _ _
  refine kdl_extend (R := fun r s1 => match r with
      | Except.ok (Flow.ret v) => wpAny (model P w) A (match v with
        | Value.ref a => do
          let o ← load a
          match o.data with
          | Data.seq xs _ => pure xs.toList
          | _ => unsupported "internal:collect"
        | _ => unsupported "internal:collect") Q E s1
      | Except.ok _ => False
      | Except.error e => E e s1) (A := A) (s := { s with heap := s.heap.push { cls := .type "list", data := .seq ([] : List Value).toArray } }) (kdl_dict lo) hh hm1 s.heap.objs.size (Nat.ne_of_gt hlt) (Nat.ne_of_gt hlt) (.ref s.heap.objs.size) 0 nw (fun h' tk acc c hk hS hacc => ?_) hn
  show wpAny _ A (load s.heap.objs.size >>= _) _ _ _
  refine wpAny_bind (wpAny_load (s := { s with heap := h', toks := tk }) hS (wpAny_pure (h h' tk acc (fun b o e => hk b o (Nat.ne_of_lt (Heap.lt_size e)) (Heap.get?_push_of_some _ e)) (Heap.lt_size hS) hacc)))
theorem sorted_dict {P : Program} {w : World} {A : Around} {E : Value → Shared → Prop} {s : Shared} {d : Addr} {kvs : List (Key × Value)} {ep : Nat} {ss : List Str} {Q : Value → Shared → Prop} (lo : (d == sysModules) = false) (hh : A.handled = none) (hm : s.heap.DictAt (mixKind P w) d kvs ep) (hk : kvs.map (·.1) = ss.map Sum.inr) (h64 : kvs.length < 64)
    (h : ∀ (D : Addr) h' tk (out : Array Value) (ss' : List Str) e, s.heap.objs.size ≤ D → (∀ b o, s.heap.get? b = some o → h'.get? b = some o) → h'.get? D = some (seqObj "list" out e) → StrsAre out.toList ss' → ss'.Perm ss → sortedS ss' = true → Q (.ref D) { s with heap := h', toks := tk }) :
    wpAny (model P w) A (call (.builtin "sorted") [.ref d]) Q E s := by
  refine Calls.call_function_entry kind_sorted plain_sorted entry_sorted (args_sorted1 _) ?_
  unfold Builtin.«sorted»
  refine wpAny_bind (m := checkCount "sorted" 1 1 _) (wpAny_pure ?_)
  refine wpAny_bind (collect_dict (A := A.in1) lo hh hm (ln (by omega)) fun h1 tk acc keep big items => ?_)
  have l0 : acc.toList.length = kvs.length := by rw [Array.length_toList]; exact items.1
  refine wpAny_bind (wpAny_newList (hsz := ln (by omega)) ?_)
  have at_ : ∀ (j : Nat) (v : Value), acc.toList[j]? = some v → ∃ x t, ss[j]? = some x ∧ v = .str x t := fun j v e => by
    rw [Array.getElem?_toList] at e
    obtain ⟨k, y, e1, e2⟩ := items.2 j v e
    have e3 : (kvs.map (·.1))[j]? = some k := by rw [List.getElem?_map, e1]; rfl
    rw [hk, List.getElem?_map] at e3
    obtain ⟨x, e4, e5⟩ := Option.map_eq_some_iff.mp e3
    subst e5
    obtain ⟨t, rfl⟩ := (kV_rel e2 : RelV (kV (Sum.inr x)) v)
    exact ⟨x, t, e4, rfl⟩
  have hit : StrsAre acc.toList ss := by
    have e : acc.toList.map strOf = ss := by
      apply List.ext_getElem?
      intro j
      rw [List.getElem?_map]
      cases e : acc.toList[j]? with
      | none =>
        have := List.getElem?_eq_none_iff.mp e
        have hl := congrArg List.length hk
        rw [List.length_map, List.length_map] at hl
        rw [List.getElem?_eq_none (by omega)]
        rfl
      | some v =>
        obtain ⟨x, t, e1, rfl⟩ := at_ j v e
        rw [e1]
        rfl
    rw [← e]
    refine strsAre_map _ fun v hv => ?_
    obtain ⟨j, hj⟩ := List.mem_iff_getElem?.mp hv
    obtain ⟨x, t, _, rfl⟩ := at_ j v hj
    exact ⟨x, t, rfl⟩
  have nw : (h1.push (seqObj "list" acc.toList.toArray 0)).get? h1.objs.size = some (seqObj "list" acc.toList.toArray 0) := Heap.get?_push_size _ rfl
  show wpAny _ _ _ _ _ { s with heap := h1.push (seqObj "list" acc.toList.toArray 0), toks := tk }
  refine wpAny_bind (wpAny_holding (wpAny_call_entry slot_list_sort ⟨_, nw, rfl⟩ entry_list_sort (list_sort_treeK (s := { s with heap := h1.push (seqObj "list" acc.toList.toArray 0), toks := tk }) strKind_oneLt nw hit.keysOf (fun v1 v2 rest e => keyKind_strs (by rw [← e]; exact hit)) (by have := items.1; rw [Array.length_toList]; omega) fun st a1 a2 => ⟨_, rfl, ?_⟩) (args_list_sort _)))
  obtain ⟨ss', b1, b2, b3⟩ := sorted_out_str hit a1 a2
  obtain ⟨e, he⟩ := sortedHeap_at (vs := acc.toList) (out := (arrOf st).map (·.2)) nw
  refine wpAny_pure ⟨_, rfl, h h1.objs.size _ tk _ ss' e (Nat.le_of_lt big) (fun b o eb => ?_) he b1 b2 b3⟩
  have hb := Heap.lt_size (keep b o eb)
  rw [sortedHeap_old (Nat.ne_of_lt hb) (by rw [size_push']; exact Nat.lt_succ_of_lt hb)]
  exact Heap.get?_push_of_some _ (keep b o eb)
theorem rising_all : ∀ (p : Str) (l : List Str), risingS p l = true → (∀ x ∈ l, ¬ x.cps.toList < p.cps.toList) ∧ sortedS l = true
  | p, [], _ => ⟨fun x h => by simp at h, rfl⟩
  | p, y :: r, h => by
    have h : (!ltCps y.cps.toList p.cps.toList && risingS y r) = true := h
    rw [Bool.and_eq_true] at h
    have h1 : ¬ y.cps.toList < p.cps.toList := by
      have := h.1
      rw [ltCps_eq] at this
      simpa using this
    obtain ⟨h2, h3⟩ := rising_all y r h.2
    refine ⟨fun x hx => ?_, h.2⟩
    rcases List.mem_cons.mp hx with rfl | hx
    · exact h1
    · exact List.le_trans (show p.cps.toList ≤ y.cps.toList from h1) (show y.cps.toList ≤ x.cps.toList from h2 x hx)
theorem sorted_uniq : ∀ {l m : List Str}, sortedS l = true → sortedS m = true → l.Perm m → l = m
  | [], m, _, _, h => by rw [List.nil_perm.mp h]
  | x :: r, [], _, _, h => by simpa using h.length_eq
  | x :: r, y :: q, h1, h2, h => by
    obtain ⟨a1, a2⟩ := rising_all x r h1
    obtain ⟨b1, b2⟩ := rising_all y q h2
    have e : x = y := by
      rcases List.mem_cons.mp (h.mem_iff.mp (List.mem_cons_self ..)) with z | z
      · exact z
      rcases List.mem_cons.mp (h.mem_iff.mpr (List.mem_cons_self ..)) with z2 | z2
      · exact z2.symm
      have h3 := a1 y z2
      have h4 := b1 x z
      have h5 : x.cps.toList = y.cps.toList := List.le_antisymm (show x.cps.toList ≤ y.cps.toList from h3) (show y.cps.toList ≤ x.cps.toList from h4)
      cases x
      cases y
      exact congrArg Str.mk (Array.toList_inj.mp h5)
    subst e
    rw [sorted_uniq a2 b2 ((List.perm_cons _).mp h)]
section
variable {X : Cx}
noncomputable def mSortD : List V → Hp → VK → Prop := fun vs H Q => ∃ (a : Addr) (kvs : List (Key × V)) (ss : List Str), vs = [.ref a] ∧ H a = some (.dK kvs) ∧ kvs.map (·.1) = ss.map Sum.inr ∧ kvs.length < 64 ∧ ∀ (p : Addr) (ss' : List Str), H p = none → ss'.Perm ss → sortedS ss' = true → Q (.ref p) (upd H p (.lst (ss'.map V.str)))
theorem vals_strs : ∀ {vs : List Value} {ss : List Str}, StrsAre vs ss → Vals (ss.map V.str) vs
  | _, _, .nil => .nil
  | _, _, .cons x t h => .cons ⟨t, rfl⟩ (vals_strs h)
theorem kc_sortD (hc : X.calm = true) : CallR X (.builtin "sorted") mSortD := by
  intro pins s σ H xs us Q I r h
  obtain ⟨a, kvs, ss, rfl, ha, hk, h64, q⟩ := h
  obtain ⟨u, rfl, r1⟩ := vals1 r
  cases r1
  obtain ⟨z, lo, vs, rel, dd⟩ := dk_of I.hok ha
  obtain ⟨ep, hm⟩ := dd.dictAt
  have hl := rel.length
  refine sorted_dict lo (I.ok.hd hc) hm (ss := ss) (by rw [← rel.keys]; exact hk) (by omega) fun D h' tk out ss' e big keep hD b1 b2 b3 => ?_
  have hz : (ss'.map V.str).length ≤ sizeLine := by
    have l1 := congrArg List.length hk
    rw [List.length_map, List.length_map] at l1
    rw [List.length_map, b2.length_eq]
    exact ln (by omega)
  exact ⟨.ref D, upd H D (.lst (ss'.map V.str)), I.laid (t' := tk) keep big ⟨hz, out.toList, e, vals_strs b1, by simpa using hD⟩, rfl, q D ss' (I.hok.fresh big) b2 b3⟩
end
section
variable {X : Cx} {e : Expr} {ta : TE} {f : Str} {pos : Pos}
theorem ke_fld (K : Frag) (hK : X.K = K) (he : PE X e ta) (hb : attributeBase e f X.env (eval e X.env) = eval e X.env) : PE X (.Attribute e f pos) (tFld K ta f) := hK ▸ pe_fld he hb
end
theorem gSub_i {to ti : TE} {t : TSet} {v : V} {σ : St} {H : Hp} {N : St → Hp → Prop} (k : to σ H fun o H1 => ti σ H1 fun i H2 => t o i v H2 fun H3 => N σ H3) : gSub to ti t v σ H N := k
end L2
set_option Elab.async false
set_option linter.all false
set_option maxRecDepth 100000
set_option maxHeartbeats 4000000
namespace L2
open PySem PySem.Spec PyProof.Rows PySem.W
section
variable {X : Cx}
noncomputable def mNeLs (K : Frag) : R2 := fun x y H Q => ∃ (a b : Addr) (us us' : List V) (ks ls : List Trm), x = .ref a ∧ y = .ref b ∧ SqL K H a us ∧ SqL K H b us' ∧ DenL K H us (Trm.dataL ks) ∧ DenL K H us' (Trm.dataL ls) ∧ (∀ t ∈ ks, t.size ≤ 70) ∧ ∀ c : Bool, Q (.bl c) H
theorem ko_neLs (K : Frag) (hK : X.K = K) (hu : X.A.units + 150 < cLine) : OpR X (compareOp .NotEq) (mNeLs K) := by
  subst hK
  intro pins s σ H x y v u Q I rx ry h
  obtain ⟨a, b, us, us', ks, ls, rfl, rfl, ha, hb, dk, dl, hz, k⟩ := h
  cases rx
  cases ry
  obtain ⟨its, rv, p1, _⟩ := I.list ha
  obtain ⟨its', rv', p2, _⟩ := I.list hb
  have l1 := rv.length
  have l2 := rv'.length
  have fin : ∀ c : Bool, EP X pins σ Q (.bool c) s := fun c => ⟨.bl c, H, I, rfl, k c⟩
  by_cases hs : its.toArray.size = its'.toArray.size
  · refine SeqAt.RcNeAt.lists (e := fun j => match ks[j]?, ls[j]? with | some t, some t' => eqb t t' | _, _ => true) p1.isList p2.isList hs (by omega) (fun j h1 h2 => ?_) X.prog X.w _ _ (fin _)
    have h1 : j < its.length := by simpa using h1
    have h2 : j < its'.length := by simpa using h2
    have x1 : us[j]? = some us[j] := List.getElem?_eq_getElem (by omega)
    have x2 : us'[j]? = some us'[j] := List.getElem?_eq_getElem (by omega)
    obtain ⟨d1, e1, g1⟩ := dk.get x1
    obtain ⟨d2, e2, g2⟩ := dl.get x2
    rw [Trm.dataL_map, List.getElem?_map] at e1 e2
    obtain ⟨t, f1, rfl⟩ := Option.map_eq_some_iff.mp e1
    obtain ⟨t', f2, rfl⟩ := Option.map_eq_some_iff.mp e2
    obtain ⟨w1, y1, z1⟩ := rv.get x1
    obtain ⟨w2, y2, z2⟩ := rv'.get x2
    have q1 : its.toArray[j] = w1 := by
      have := List.getElem?_eq_getElem h1
      rw [y1] at this
      simpa using (Option.some.inj this).symm
    have q2 : its'.toArray[j] = w2 := by
      have := List.getElem?_eq_getElem h2
      rw [y2] at this
      simpa using (Option.some.inj this).symm
    rw [q1, q2, f1, f2]
    exact eqAt_trm I 70 X.A.in1 t t' _ _ w1 w2 (hz t (List.mem_of_getElem? f1)) (by show X.A.units + 1 + 2 * 70 + 4 < cLine; omega) g1 g2 z1 z2
  · exact SeqAt.RcNeAt.lists_lengths p1.isList p2.isList (by simpa using hs) (by omega) X.prog X.w _ _ (fin _)
theorem mNeLs_i {K : Frag} {H : Hp} {Q : VK} {a b : Addr} {us us' : List V} {ks ls : List Trm} (h1 : SqL K H a us) (h2 : SqL K H b us') (h3 : DenL K H us (Trm.dataL ks)) (h4 : DenL K H us' (Trm.dataL ls)) (hz : ∀ t ∈ ks, t.size ≤ 70) (k : ∀ c : Bool, Q (.bl c) H) : mNeLs K (.ref a) (.ref b) H Q := ⟨a, b, us, us', ks, ls, rfl, rfl, h1, h2, h3, h4, hz, k⟩
end
section
variable {X : Cx}
noncomputable def mIns : V → List V → Hp → VK → Prop := fun x vs H Q => ∃ l i y xs, x = .ref l ∧ vs = [.int i, y] ∧ H l = some (.lst xs) ∧ 0 ≤ i ∧ i.toNat ≤ xs.length ∧ xs.length < 100000 ∧ Q .non (upd H l (.lst (xs.take i.toNat ++ y :: xs.drop i.toNat)))
theorem mm_insert : MtR X "list.insert" mIns := by
  intro pins s σ H x vs v us Q I rx rv h
  obtain ⟨l, i, y, xs, rfl, rfl, hH, h0, h1, hz, q⟩ := h
  cases rx
  obtain ⟨u, w, rfl, r1, r2⟩ := vals2 rv
  obtain ⟨t, rfl⟩ := r1
  obtain ⟨z, its, n, r, hl, e⟩ := I.lstM hH
  have hlen := r.length
  refine call_meets F.slot_list_insert ⟨_, e, rfl⟩ F.entry_list_insert (F.args_list_insert_3 _ _ _) (PySem.AutoSeq1.list_insert_list_int_val_1 l its.toArray n i t w ?_ (by rw [List.size_toArray]; exact ln (by omega))) ⟨e, ?_⟩
  · have : Builtin.List.listFitsIndex i = true := by
      unfold Builtin.List.listFitsIndex
      rw [Bool.and_eq_true]
      exact ⟨decide_eq_true (by omega), decide_eq_true (by omega)⟩
    rw [this]
    simp
  refine ⟨.non, _, I.lset (its' := its.take i.toNat ++ w :: its.drop i.toNat) hH e ?_ ((Vals.take _ r).append (.cons r2 (Vals.drop _ r))) ?_, rfl, q⟩
  · show (its.toArray.extract 0 (if i < 0 then (i + (its.toArray.size : Int)).toNat else min i.toNat its.toArray.size)).push w ++ its.toArray.extract (if i < 0 then (i + (its.toArray.size : Int)).toNat else min i.toNat its.toArray.size) = _
    rw [if_neg (by omega), Nat.min_eq_left (by rw [List.size_toArray]; omega)]
    apply Array.toList_inj.mp
    simp
    rw [List.take_of_length_le (by rw [List.length_drop]; omega)]
  · rw [List.length_append, List.length_cons, List.length_take, List.length_drop]
    exact ln (by omega)
theorem mIns_i {H : Hp} {Q : VK} {l : Addr} {i : Int} {y : V} {xs : List V} (h : H l = some (.lst xs)) (h0 : 0 ≤ i) (h1 : i.toNat ≤ xs.length) (hz : xs.length < 100000) (k : Q .non (upd H l (.lst (xs.take i.toNat ++ y :: xs.drop i.toNat)))) : mIns (.ref l) [.int i, y] H Q := ⟨l, i, y, xs, rfl, rfl, h, h0, h1, hz, k⟩
end
theorem iDict_i {NF : Addr → Prop} {tl : TE} {σ : St} {H : Hp} {R : It → Hp → Prop} (k : tl σ H fun x H1 => ∃ a kvs, x = .ref a ∧ H1 a = some (.dK kvs) ∧ ∀ o, NF a → R (Itd a o kvs) (upd H1 a (.frz o (.dK kvs)))) : iDict NF tl σ H R := k
end L2
set_option Elab.async false
set_option linter.all false
set_option maxRecDepth 100000
set_option maxHeartbeats 4000000
namespace My
open PySem PySem.Spec PyProof.Rows L2
local macro_rules | `(tactic| walk_at "stq") => `(tactic| first | refine tAsg_i ?_ | refine gName_i ?_ | refine tRet_i ?_ | refine tIfS_i ?_ | refine tNext_i ?_ | refine tDrop_i ?_ | refine mTest_i ?_ | refine mTrue_i ?_ | refine mTru_b ?_ | refine mB_i ?_ | refine tOp_i ?_ | refine tUn_i ?_ | refine mUn_i ?_ | refine m20_i ?_ | refine mAdd_i ?_ | refine mEq_i ?_ | refine mEq_s ?_ | refine mEq_b ?_ | refine mInS_i ?_ | (refine' mVar_i ?hv ?_; (case hv => with_unfolding_all rfl)) | refine tC_i ?_ | refine mChain_i ?_ | refine mAndV_i ?_ | refine mOrV_i ?_ | refine mNotV_i ?_ | refine tIf_i ?_ | refine tAnd_i ?_ | refine tOr_i ?_ | refine tNot_i ?_ | refine tCB_i ?_ | refine tCall0_i ?_ | refine tCons_i ?_ | refine tNil_i ?_ | refine tBM_i ?_ | refine tBM0_i ?_ | refine tTup_i ?_ | refine tLst_i ?_ | refine tSl_i ?_ | refine tNoPart_i ?_ | refine mPart_i ?_ | refine mI_i ?_ | refine is_str ?_ | refine is_bool ?_ | refine is_int ?_ | refine is_int_bool ?_ | refine mMin_i ?_ | refine isN_non ?_ | refine isN_ref ?_ | refine mInt_b ?_ | refine mMax_i ?_ | refine tDGet_i ?_ | refine tDGet2_i ?_ | refine sDPut_i ?_ | refine tDisp_i ?_ | refine tPairs_c ?_ | refine tPairs_n ?_ | refine iRng2_i ?_ | refine iRev_i ?_ | refine iEnum_i ?_ | refine iSeq_i ?_ | refine mAbs_i ?_ | refine gCons_i ?_ | refine gNil_i ?_ | refine tWhile_i ?_ | (refine' mAug_i ?hw ?_; (case hw => with_unfolding_all rfl)) | refine mIAdd_i ?_ | refine tFor_i ?_ | refine tThawR_i ?_ | refine tThawE_i ?_ | refine iVals_i ?_ | refine tFld_i ?_ | refine sFld_i ?_ | refine sFldAug_i ?_ | refine tMeth_i ?_ | refine tMake_i ?_ | refine gSub_i ?_ | refine tRaise_i ?_ | refine tXMake_i ?_ | refine tTry_i ?_ | refine tXGet_i ?_ | refine tBInit_i ?_ | refine tXSet_i ?_ | refine tPar_i ?_ | refine tF3i_i ?_ | refine iZip_i ?_ | refine tFr_i ?_ | refine tF2_i ?_ | refine iSeq_i ?_ | refine iStr_i ?_ | refine iList_i ?_ | refine iTup_i ?_ | refine iRng1_i ?_ | refine tComp_i ?_ | (refine m2_i ?hc ?_; (case hc => first | (show (0 : Int) < _; decide) | exact cdiv_i (by decide) (by decide))))
local macro_rules | `(tactic| walk_at "stp") => `(tactic| repeat (with_reducible first | refine tSeq_i ?_ | walk_at "stq"))
local macro_rules | `(tactic| walk_at "stm") => `(tactic| repeat (with_reducible walk_at "stq"))
noncomputable def top (i : Nat) : Stmt := PySem.Challenge.pw_goaltrail_k23_made_one_flat.main.body.getD i (.Pass ⟨0, 0, 0, 0⟩)
noncomputable abbrev s_Row_init : Stmt := inClass (top 5) 0
noncomputable abbrev s_Joining_init : Stmt := inClass (top 6) 0
noncomputable abbrev s_Joining_join_terms : Stmt := inClass (top 6) 1
noncomputable abbrev s_Joining_join_place : Stmt := inClass (top 6) 2
noncomputable abbrev s_Joining_put_for : Stmt := inClass (top 6) 3
noncomputable abbrev s_Joining_begin_kids : Stmt := inClass (top 6) 4
noncomputable abbrev s_Joining_path : Stmt := inClass (top 6) 5
noncomputable abbrev s_walked : Stmt := top 1
noncomputable abbrev s_key_of : Stmt := top 3
noncomputable abbrev s_stands_within : Stmt := top 7
noncomputable abbrev s_made_one : Stmt := top 8
noncomputable abbrev s_l_cell : Stmt := top 10
noncomputable abbrev s_l_names : Stmt := top 11
noncomputable abbrev s_l_number : Stmt := top 12
noncomputable abbrev s_l_is_term : Stmt := top 13
noncomputable abbrev s_l_leaf : Stmt := top 14
noncomputable abbrev s_l_flat : Stmt := top 15
noncomputable abbrev s_l_off : Stmt := top 16
noncomputable abbrev s_l_head : Stmt := top 17
noncomputable abbrev s_l_place : Stmt := top 18
noncomputable abbrev s_l_due : Stmt := top 19
noncomputable abbrev s_l_seen : Stmt := top 20
noncomputable abbrev s_law : Stmt := top 21
theorem sc_Row_init : FnScope ["self", "lefts", "rights"] ["self", "lefts", "rights"] (defScope s_Row_init) := ⟨rfl, rfl, rfl, by decide +kernel, rfl, by decide +kernel, by decide +kernel⟩
theorem sc_Joining_init : FnScope ["self", "puts", "noted"] ["self", "puts", "noted"] (defScope s_Joining_init) := ⟨rfl, rfl, rfl, by decide +kernel, rfl, by decide +kernel, by decide +kernel⟩
theorem sc_Joining_join_terms : FnScope ["self", "one", "other", "told", "row"] ["self", "one", "other"] (defScope s_Joining_join_terms) := ⟨rfl, rfl, rfl, by decide +kernel, rfl, by decide +kernel, by decide +kernel⟩
theorem sc_Joining_join_place : FnScope ["self", "one", "other", "left", "right"] ["self", "one", "other"] (defScope s_Joining_join_place) := ⟨rfl, rfl, rfl, by decide +kernel, rfl, by decide +kernel, by decide +kernel⟩
theorem sc_Joining_put_for : FnScope ["self", "name", "term"] ["self", "name", "term"] (defScope s_Joining_put_for) := ⟨rfl, rfl, rfl, by decide +kernel, rfl, by decide +kernel, by decide +kernel⟩
theorem sc_Joining_begin_kids : FnScope ["self", "left", "right"] ["self", "left", "right"] (defScope s_Joining_begin_kids) := ⟨rfl, rfl, rfl, by decide +kernel, rfl, by decide +kernel, by decide +kernel⟩
theorem sc_Joining_path : FnScope ["self"] ["self"] (defScope s_Joining_path) := ⟨rfl, rfl, rfl, by decide +kernel, rfl, by decide +kernel, by decide +kernel⟩
theorem sc_walked : FnScope ["term", "puts", "at"] ["term", "puts"] (defScope s_walked) := ⟨rfl, rfl, rfl, by decide +kernel, rfl, by decide +kernel, by decide +kernel⟩
theorem sc_key_of : FnScope ["term"] ["term"] (defScope s_key_of) := ⟨rfl, rfl, rfl, by decide +kernel, rfl, by decide +kernel, by decide +kernel⟩
theorem sc_stands_within : FnScope ["name", "term", "puts", "seen", "todo", "part"] ["name", "term", "puts"] (defScope s_stands_within) := ⟨rfl, rfl, rfl, by decide +kernel, rfl, by decide +kernel, by decide +kernel⟩
theorem sc_made_one : FnScope ["one", "other", "puts", "new", "told"] ["one", "other", "puts"] (defScope s_made_one) := ⟨rfl, rfl, rfl, by decide +kernel, rfl, by decide +kernel, by decide +kernel⟩
theorem sc_l_cell : FnScope ["_law_script", "_law_k", "_law_number_here"] ["_law_script", "_law_k"] (defScope s_l_cell) := ⟨rfl, rfl, rfl, by decide +kernel, rfl, by decide +kernel, by decide +kernel⟩
theorem sc_l_names : FnScope ["_law_cell_here", "_law_many", "_law_first", "_law_signs", "_law_size", "_law_at", "_law_names_here", "_law_j", "_law_name", "_law_k", "_law_place_here"] ["_law_cell_here", "_law_many", "_law_first"] (defScope s_l_names) := ⟨rfl, rfl, rfl, by decide +kernel, rfl, by decide +kernel, by decide +kernel⟩
theorem sc_l_number : FnScope ["_law_cell_here"] ["_law_cell_here"] (defScope s_l_number) := ⟨rfl, rfl, rfl, by decide +kernel, rfl, by decide +kernel, by decide +kernel⟩
theorem sc_l_is_term : FnScope ["_law_thing", "_law_left", "_law_one"] ["_law_thing"] (defScope s_l_is_term) := ⟨rfl, rfl, rfl, by decide +kernel, rfl, by decide +kernel, by decide +kernel⟩
theorem sc_l_leaf : FnScope ["_law_cell_here", "_law_words"] ["_law_cell_here", "_law_words"] (defScope s_l_leaf) := ⟨rfl, rfl, rfl, by decide +kernel, rfl, by decide +kernel, by decide +kernel⟩
theorem sc_l_flat : FnScope ["_law_cell_here", "_law_cells", "_law_words", "_law_kids"] ["_law_cell_here", "_law_cells", "_law_words"] (defScope s_l_flat) := ⟨rfl, rfl, rfl, by decide +kernel, rfl, by decide +kernel, by decide +kernel⟩
theorem sc_l_off : FnScope ["_law_term", "_law_cell_here", "_law_words", "_law_kids", "_law_way", "_law_at", "_law_other"] ["_law_term", "_law_cell_here", "_law_words"] (defScope s_l_off) := ⟨rfl, rfl, rfl, by decide +kernel, rfl, by decide +kernel, by decide +kernel⟩
theorem sc_l_head : FnScope ["_law_term"] ["_law_term"] (defScope s_l_head) := ⟨rfl, rfl, rfl, by decide +kernel, rfl, by decide +kernel, by decide +kernel⟩
theorem sc_l_place : FnScope ["_law_one", "_law_other", "_law_k"] ["_law_one", "_law_other"] (defScope s_l_place) := ⟨rfl, rfl, rfl, by decide +kernel, rfl, by decide +kernel, by decide +kernel⟩
theorem sc_l_due : FnScope ["_law_one", "_law_other", "_law_puts", "_law_left", "_law_right", "_law_due_here", "_law_place_here"] ["_law_one", "_law_other", "_law_puts"] (defScope s_l_due) := ⟨rfl, rfl, rfl, by decide +kernel, rfl, by decide +kernel, by decide +kernel⟩
theorem sc_l_seen : FnScope ["_law_found", "_law_due_here", "_law_puts", "_law_told", "_law_name", "_law_one", "_law_end", "_law_kids", "_law_kid"] ["_law_found", "_law_due_here", "_law_puts"] (defScope s_l_seen) := ⟨rfl, rfl, rfl, by decide +kernel, rfl, by decide +kernel, by decide +kernel⟩
theorem sc_law : FnScope ["_law_script", "_law_names_here", "_law_words", "_law_one", "_law_other", "_law_way", "_law_puts", "_law_terms", "_law_sides", "_law_k", "_law_due_here", "_law_handed", "_law_found"] ["_law_script"] (defScope s_law) := ⟨rfl, rfl, rfl, by decide +kernel, rfl, by decide +kernel, by decide +kernel⟩
set_option genInjectivity false in
structure Ad where
  k_Row : Addr
  k_Joining : Addr
  a_Row_init : Addr
  d_Row_init : FuncData
  a_Joining_init : Addr
  d_Joining_init : FuncData
  a_Joining_join_terms : Addr
  d_Joining_join_terms : FuncData
  a_Joining_join_place : Addr
  d_Joining_join_place : FuncData
  a_Joining_put_for : Addr
  d_Joining_put_for : FuncData
  a_Joining_begin_kids : Addr
  d_Joining_begin_kids : FuncData
  a_Joining_path : Addr
  d_Joining_path : FuncData
  a_walked : Addr
  d_walked : FuncData
  a_key_of : Addr
  d_key_of : FuncData
  a_stands_within : Addr
  d_stands_within : FuncData
  a_made_one : Addr
  d_made_one : FuncData
  a_l_cell : Addr
  d_l_cell : FuncData
  a_l_names : Addr
  d_l_names : FuncData
  a_l_number : Addr
  d_l_number : FuncData
  a_l_is_term : Addr
  d_l_is_term : FuncData
  a_l_leaf : Addr
  d_l_leaf : FuncData
  a_l_flat : Addr
  d_l_flat : FuncData
  a_l_off : Addr
  d_l_off : FuncData
  a_l_head : Addr
  d_l_head : FuncData
  a_l_place : Addr
  d_l_place : FuncData
  a_l_due : Addr
  d_l_due : FuncData
  a_l_seen : Addr
  d_l_seen : FuncData
  a_law : Addr
  d_law : FuncData
structure Txt (K : PySem.W.Frag) (mg : Str → Option Value) (t : Ad) : Prop where
  m_Row : mg "Row" = some (.ref t.k_Row)
  cl_Row : Cls K t.k_Row
  no_Row_lefts : NoAttr K t.k_Row "lefts"
  no_Row_rights : NoAttr K t.k_Row "rights"
  no_Row_taken : NoAttr K t.k_Row "taken"
  mk_Row : Mk K t.k_Row t.a_Row_init
  m_Joining : mg "Joining" = some (.ref t.k_Joining)
  cl_Joining : Cls K t.k_Joining
  no_Joining_puts : NoAttr K t.k_Joining "puts"
  no_Joining_noted : NoAttr K t.k_Joining "noted"
  no_Joining_rows : NoAttr K t.k_Joining "rows"
  no_Joining_met : NoAttr K t.k_Joining "met"
  mk_Joining : Mk K t.k_Joining t.a_Joining_init
  me_Joining_join_terms : Meth K t.k_Joining "join_terms" t.a_Joining_join_terms
  me_Joining_join_place : Meth K t.k_Joining "join_place" t.a_Joining_join_place
  me_Joining_put_for : Meth K t.k_Joining "put_for" t.a_Joining_put_for
  me_Joining_begin_kids : Meth K t.k_Joining "begin_kids" t.a_Joining_begin_kids
  me_Joining_path : Meth K t.k_Joining "path" t.a_Joining_path
  F_Row_init : Fun K "__init__" "Row.__init__" s_Row_init t.a_Row_init t.d_Row_init
  b_Row_init : Binds K t.d_Row_init ["self", "lefts", "rights"] []
  F_Joining_init : Fun K "__init__" "Joining.__init__" s_Joining_init t.a_Joining_init t.d_Joining_init
  b_Joining_init : Binds K t.d_Joining_init ["self", "puts", "noted"] []
  F_Joining_join_terms : Fun K "join_terms" "Joining.join_terms" s_Joining_join_terms t.a_Joining_join_terms t.d_Joining_join_terms
  b_Joining_join_terms : Binds K t.d_Joining_join_terms ["self", "one", "other"] []
  F_Joining_join_place : Fun K "join_place" "Joining.join_place" s_Joining_join_place t.a_Joining_join_place t.d_Joining_join_place
  b_Joining_join_place : Binds K t.d_Joining_join_place ["self", "one", "other"] []
  F_Joining_put_for : Fun K "put_for" "Joining.put_for" s_Joining_put_for t.a_Joining_put_for t.d_Joining_put_for
  b_Joining_put_for : Binds K t.d_Joining_put_for ["self", "name", "term"] []
  F_Joining_begin_kids : Fun K "begin_kids" "Joining.begin_kids" s_Joining_begin_kids t.a_Joining_begin_kids t.d_Joining_begin_kids
  b_Joining_begin_kids : Binds K t.d_Joining_begin_kids ["self", "left", "right"] []
  F_Joining_path : Fun K "path" "Joining.path" s_Joining_path t.a_Joining_path t.d_Joining_path
  b_Joining_path : Binds K t.d_Joining_path ["self"] []
  F_walked : Fun K "walked" "walked" s_walked t.a_walked t.d_walked
  b_walked : Binds K t.d_walked ["term", "puts"] []
  m_walked : mg "walked" = some (.ref t.a_walked)
  F_key_of : Fun K "key_of" "key_of" s_key_of t.a_key_of t.d_key_of
  b_key_of : Binds K t.d_key_of ["term"] []
  m_key_of : mg "key_of" = some (.ref t.a_key_of)
  F_stands_within : Fun K "stands_within" "stands_within" s_stands_within t.a_stands_within t.d_stands_within
  b_stands_within : Binds K t.d_stands_within ["name", "term", "puts"] []
  m_stands_within : mg "stands_within" = some (.ref t.a_stands_within)
  F_made_one : Fun K "made_one" "made_one" s_made_one t.a_made_one t.d_made_one
  b_made_one : Binds K t.d_made_one ["one", "other", "puts"] []
  m_made_one : mg "made_one" = some (.ref t.a_made_one)
  F_l_cell : Fun K "_law_cell" "_law_cell" s_l_cell t.a_l_cell t.d_l_cell
  b_l_cell : Binds K t.d_l_cell ["_law_script", "_law_k"] []
  m_l_cell : mg "_law_cell" = some (.ref t.a_l_cell)
  F_l_names : Fun K "_law_names" "_law_names" s_l_names t.a_l_names t.d_l_names
  b_l_names : Binds K t.d_l_names ["_law_cell_here", "_law_many", "_law_first"] []
  m_l_names : mg "_law_names" = some (.ref t.a_l_names)
  F_l_number : Fun K "_law_number" "_law_number" s_l_number t.a_l_number t.d_l_number
  b_l_number : Binds K t.d_l_number ["_law_cell_here"] []
  m_l_number : mg "_law_number" = some (.ref t.a_l_number)
  F_l_is_term : Fun K "_law_is_term" "_law_is_term" s_l_is_term t.a_l_is_term t.d_l_is_term
  b_l_is_term : Binds K t.d_l_is_term ["_law_thing"] []
  m_l_is_term : mg "_law_is_term" = some (.ref t.a_l_is_term)
  F_l_leaf : Fun K "_law_leaf" "_law_leaf" s_l_leaf t.a_l_leaf t.d_l_leaf
  b_l_leaf : Binds K t.d_l_leaf ["_law_cell_here", "_law_words"] []
  m_l_leaf : mg "_law_leaf" = some (.ref t.a_l_leaf)
  F_l_flat : Fun K "_law_flat" "_law_flat" s_l_flat t.a_l_flat t.d_l_flat
  b_l_flat : Binds K t.d_l_flat ["_law_cell_here", "_law_cells", "_law_words"] []
  m_l_flat : mg "_law_flat" = some (.ref t.a_l_flat)
  F_l_off : Fun K "_law_off" "_law_off" s_l_off t.a_l_off t.d_l_off
  b_l_off : Binds K t.d_l_off ["_law_term", "_law_cell_here", "_law_words"] []
  m_l_off : mg "_law_off" = some (.ref t.a_l_off)
  F_l_head : Fun K "_law_head" "_law_head" s_l_head t.a_l_head t.d_l_head
  b_l_head : Binds K t.d_l_head ["_law_term"] []
  m_l_head : mg "_law_head" = some (.ref t.a_l_head)
  F_l_place : Fun K "_law_place" "_law_place" s_l_place t.a_l_place t.d_l_place
  b_l_place : Binds K t.d_l_place ["_law_one", "_law_other"] []
  m_l_place : mg "_law_place" = some (.ref t.a_l_place)
  F_l_due : Fun K "_law_due" "_law_due" s_l_due t.a_l_due t.d_l_due
  b_l_due : Binds K t.d_l_due ["_law_one", "_law_other", "_law_puts"] []
  m_l_due : mg "_law_due" = some (.ref t.a_l_due)
  F_l_seen : Fun K "_law_seen" "_law_seen" s_l_seen t.a_l_seen t.d_l_seen
  b_l_seen : Binds K t.d_l_seen ["_law_found", "_law_due_here", "_law_puts"] []
  m_l_seen : mg "_law_seen" = some (.ref t.a_l_seen)
  F_law : Fun K "law" "law" s_law t.a_law t.d_law
  b_law : Binds K t.d_law ["_law_script"] []
  m_law : mg "law" = some (.ref t.a_law)
  n_bool : mg "bool" = none
  n_dict : mg "dict" = none
  n_int : mg "int" = none
  n_isinstance : mg "isinstance" = none
  n_len : mg "len" = none
  n_list : mg "list" = none
  n_range : mg "range" = none
  n_sorted : mg "sorted" = none
  n_str : mg "str" = none
  n_tuple : mg "tuple" = none
theorem em_eq : Str.ofString "" = ⟨([] : List Nat).toArray⟩ := by decide +kernel
theorem great_nodup : (Str.ofString "ABCDEFGHIJKLMNOPQRSTUVWXYZ").cps.toList.Nodup := by decide +kernel
theorem small_nodup : (Str.ofString "abcdefghijklmnopqrstuvwxyz").cps.toList.Nodup := by decide +kernel
theorem cell_bits {B : Nat} {x c : Int} (h : x.natAbs < 2 ^ B) (g : c.natAbs < 8388608) : (c + 31337 * x).natAbs < 2 ^ (B + 24) := by
  have h1 := Int.natAbs_add_le c (31337 * x)
  have h2 : (31337 * x).natAbs = 31337 * x.natAbs := Int.natAbs_mul 31337 x
  rw [Nat.pow_add]
  have h3 := Nat.two_pow_pos B
  generalize 2 ^ B = M at *
  rw [h2] at h1
  have h4 : M * 2 ^ 24 = 16777216 * M := by rw [Nat.mul_comm]
  omega
noncomputable abbrev sp_l_cell (K : PySem.W.Frag) : Sp := fun vs H Q _ => match vs with | [.ref a, .int k] => ∃ ns : List Int, SqL K H a (ns.map V.int) ∧ (∀ n ∈ ns, Builtin.Int.intBits n ≤ 1048576) ∧ 0 ≤ k ∧ k ≤ 1000 ∧ ∀ v, Q (.int v) H | _ => False
noncomputable abbrev sp_l_number : Sp := fun vs H Q _ => match vs with | [.int c] => ∀ v, Q (.int v) H | _ => False
noncomputable abbrev sp_l_names (K : PySem.W.Frag) : Sp := fun vs H Q _ => match vs with | [.int c, .int m, .str first] => 1 ≤ m ∧ m ≤ 9 ∧ first.length = 26 ∧ first.cps.toList.Nodup ∧ ∀ (p : Addr) (xs : List Str) (H' : Hp), xs.length = m.toNat → xs.Nodup → (∀ x ∈ xs, x.length ≤ 30) → Same H H' → H' p = some (.lst (xs.map V.str)) → Q (.ref p) H' | _ => False
mutual
noncomputable def vin (xs : List Str) : Trm → Prop
  | .num _ => True
  | .any x => x ∈ xs
  | .app _ ks => vinL xs ks
noncomputable def vinL (xs : List Str) : List Trm → Prop
  | [] => True
  | t :: r => vin xs t ∧ vinL xs r
end
theorem nodup_range_map {f : Nat → Str} : ∀ (m : Nat), (∀ i j, i < m → j < m → f i = f j → i = j) → ((List.range m).map f).Nodup
  | 0, _ => by simp
  | m + 1, h => by
    rw [List.range_succ, List.map_append]
    refine List.nodup_append.mpr ⟨nodup_range_map m fun i j hi hj e => h i j (by omega) (by omega) e, by simp, fun a ha b hb e => ?_⟩
    obtain ⟨i, hi, rfl⟩ := List.mem_map.mp ha
    have hb : b = f m := by simpa using hb
    have := h i m (by have := List.mem_range.mp hi; omega) (by omega) (e.trans hb)
    have := List.mem_range.mp hi
    omega
theorem tail_nodup : tailS.cps.toList.Nodup := by decide +kernel
theorem getD_inj {l : List Nat} (h : l.Nodup) {i j : Nat} (hi : i < l.length) (hj : j < l.length) (e : l.getD i 0 = l.getD j 0) : i = j := by
  rw [List.getD_eq_getElem?_getD, List.getD_eq_getElem?_getD, List.getElem?_eq_getElem hi, List.getElem?_eq_getElem hj] at e
  have e : l[i] = l[j] := e
  have hp := List.pairwise_iff_getElem.mp h
  rcases Nat.lt_trichotomy i j with z | z | z
  · exact absurd e (hp i j hi hj z)
  · exact z
  · exact absurd e.symm (hp j i hj hi z)
noncomputable def plc (c : Int) (at_ k j : Nat) : Int := c / (7 * (k : Int) + 11) + k + (j : Int) * (if k = at_ then 1 else 0)
noncomputable def chN (c : Int) (first : List Nat) (at_ : Nat) (j k : Nat) : Nat := if k = 0 then first.getD (plc c at_ k j % 26).toNat 0 else tailS.cps.toList.getD (plc c at_ k j % 62).toNat 0
noncomputable def nm3 (c : Int) (first : List Nat) (at_ size : Nat) (j : Nat) : Str := ⟨((List.range size).map (chN c first at_ j)).toArray⟩
theorem st_inj' {x y : List Nat} (h : (⟨x.toArray⟩ : Str) = ⟨y.toArray⟩) : x = y := by
  have h := congrArg (fun s : Str => s.cps.toList) h
  simpa using h
theorem nm3_inj {c : Int} {first : List Nat} {at_ size i j : Nat} (hf : first.Nodup) (hl : first.length = 26) (ha : at_ < size) (hi : i < 9) (hj : j < 9) (e : nm3 c first at_ size i = nm3 c first at_ size j) : i = j := by
  have e := congrArg (fun l => l[at_]?) (st_inj' e)
  simp only [List.getElem?_map, List.getElem?_range ha, Option.map_some, Option.some.injEq] at e
  have l62 : tailS.cps.toList.length = 62 := by decide +kernel
  unfold chN plc at e
  rw [if_pos rfl] at e
  by_cases h0 : at_ = 0
  · rw [if_pos h0, if_pos h0] at e
    have := getD_inj hf (by omega) (by omega) e
    omega
  · rw [if_neg h0, if_neg h0] at e
    have := getD_inj tail_nodup (by omega) (by omega) e
    omega
theorem atI_getD {l : List Nat} {i : Int} (h0 : 0 ≤ i) (h1 : i < (l.length : Int)) : atI l i = some (l.getD i.toNat 0) := by
  obtain ⟨v, e1, e2⟩ := atI_lt h0 h1
  rw [e1, List.getD_eq_getElem?_getD, e2]
  rfl
theorem strs_at {xs : List Str} {i : Int} {v : V} (h : atI (xs.map V.str) i = some v) : ∃ x, v = .str x ∧ x ∈ xs := by
  have := atI_mem h
  obtain ⟨x, hx, rfl⟩ := List.mem_map.mp this
  exact ⟨x, rfl, hx⟩
theorem sIx_lo (n : Nat) (m : Int) (h : 0 ≤ m) : HT.sIx n 0 (some m) = min m.toNat n := by rw [← sIx_to n m h]; rfl
theorem cut_to (us : List V) (m : Int) (h : 0 ≤ m) : cutV us none (some m) = us.take m.toNat := by
  unfold cutV
  rw [sIx_none, sIx_to _ _ h, List.drop_zero, Nat.sub_zero]
  by_cases hm : m.toNat ≤ us.length
  · rw [Nat.min_eq_left hm]
  · rw [Nat.min_eq_right (by omega), List.take_length, List.take_of_length_le (by omega)]
theorem cut_from (us : List V) (m : Int) (h : 0 ≤ m) : cutV us (some m) none = us.drop m.toNat := by
  unfold cutV
  rw [sIx_none, sIx_lo _ _ h]
  by_cases hm : m.toNat ≤ us.length
  · rw [Nat.min_eq_left hm, List.take_of_length_le (by rw [List.length_drop]; omega)]
  · rw [Nat.min_eq_right (by omega), List.drop_length, List.drop_of_length_le (by omega)]
    simp
theorem dataL_take (ts : List Trm) (n : Nat) : (Trm.dataL ts).take n = Trm.dataL (ts.take n) := by rw [Trm.dataL_map, Trm.dataL_map, List.map_take]
theorem dataL_drop (ts : List Trm) (n : Nat) : (Trm.dataL ts).drop n = Trm.dataL (ts.drop n) := by rw [Trm.dataL_map, Trm.dataL_map, List.map_drop]
theorem dataL_app (a b : List Trm) : Trm.dataL (a ++ b) = Trm.dataL a ++ Trm.dataL b := by rw [Trm.dataL_map, Trm.dataL_map, Trm.dataL_map, List.map_append]
theorem sizeL_cut (ts : List Trm) (n : Nat) : Trm.sizeL (ts.take n) + Trm.sizeL (ts.drop n) = Trm.sizeL ts := by rw [← Trm.sizeL_app, List.take_append_drop]
structure LeftOk (K : PySem.W.Frag) (H : Hp) (us : List V) (xs : List Str) (ts : List Trm) : Prop where
  den : DenL K H us (Trm.dataL ts)
  vs : ∀ t ∈ ts, vin xs t
theorem LeftOk.len {K : PySem.W.Frag} {H : Hp} {us : List V} {xs : List Str} {ts : List Trm} (h : LeftOk K H us xs ts) : us.length = ts.length := by
  have := h.den.length
  rw [Trm.dataL_map, List.length_map] at this
  exact this
theorem LeftOk.mono {K : PySem.W.Frag} {H H' : Hp} {us : List V} {xs : List Str} {ts : List Trm} (h : LeftOk K H us xs ts) (s : Same H H') : LeftOk K H' us xs ts := ⟨h.den.mono s, h.vs⟩
theorem LeftOk.snoc {K : PySem.W.Frag} {H : Hp} {us : List V} {xs : List Str} {ts : List Trm} {u : V} {t : Trm} (h : LeftOk K H us xs ts) (d : Den K H u t.data) (v : vin xs t) : LeftOk K H (us ++ [u]) xs (ts ++ [t]) := by
  refine ⟨?_, fun y hy => ?_⟩
  · rw [dataL_app]
    exact h.den.append (.cons d .nil)
  · rcases List.mem_append.mp hy with z | z
    · exact h.vs y z
    · rw [List.mem_singleton.mp z]; exact v
theorem LeftOk.take {K : PySem.W.Frag} {H : Hp} {us : List V} {xs : List Str} {ts : List Trm} (h : LeftOk K H us xs ts) (n : Nat) : LeftOk K H (us.take n) xs (ts.take n) := ⟨by rw [← dataL_take]; exact h.den.take n, fun t ht => h.vs t (List.mem_of_mem_take ht)⟩
theorem LeftOk.drop {K : PySem.W.Frag} {H : Hp} {us : List V} {xs : List Str} {ts : List Trm} (h : LeftOk K H us xs ts) (n : Nat) : LeftOk K H (us.drop n) xs (ts.drop n) := ⟨by rw [← dataL_drop]; exact h.den.drop n, fun t ht => h.vs t (List.mem_of_mem_drop ht)⟩
inductive Wlk (rows : Rws) : Nat → Trm → Trm → Prop
  | stop {t : Trm} : (∀ x, t = .any x → lookR rows x = none) → Wlk rows 0 t t
  | step {n : Nat} {x : Str} {u t : Trm} : lookR rows x = some u → Wlk rows n u t → Wlk rows (n + 1) (.any x) t
noncomputable def hnf (rows : Rws) (u : Trm) : Prop := ∀ x, u = .any x → lookR rows x = none
theorem nil_or_snoc' {α : Type} (l : List α) : l = [] ∨ ∃ r x, l = r ++ [x] := by
  cases l.eq_nil_or_concat with
  | inl h => exact .inl h
  | inr h => obtain ⟨r, x, h⟩ := h; exact .inr ⟨r, x, by simpa using h⟩
theorem q1 : decide (numS = anyS) = false := by decide +kernel
theorem q2 : decide (appS = anyS) = false := by decide +kernel
theorem q3 : decide (anyS = anyS) = true := by decide +kernel
theorem q4 : decide (numS = appS) = false := by decide +kernel
theorem q5 : decide (anyS = appS) = false := by decide +kernel
theorem q6 : decide (appS = appS) = true := by decide +kernel
theorem q7 : decide (numS = numS) = true := by decide +kernel
theorem q8 : decide (appS = numS) = false := by decide +kernel
structure PutAt (K : PySem.W.Frag) (H : Hp) (a : Addr) (rows : Rws) : Prop where
  ex : ∃ kvs, H a = some (.dK kvs) ∧ PutsOk K H kvs rows
theorem PutAt.mono {K : PySem.W.Frag} {H H' : Hp} {a : Addr} {rows : Rws} (h : PutAt K H a rows) (s : Same H H') : PutAt K H' a rows := by
  obtain ⟨kvs, h1, h2⟩ := h.ex
  exact ⟨kvs, s _ _ h1, h2.mono s⟩
theorem PutAt.lst {K : PySem.W.Frag} {H : Hp} {a p : Addr} {rows : Rws} {ys : List V} {o : HO} (h : PutAt K H a rows) (hp : H p = some (.lst ys)) : PutAt K (upd H p o) a rows := by
  obtain ⟨kvs, h1, h2⟩ := h.ex
  refine ⟨kvs, ?_, h2.monoT (tup_lst hp)⟩
  rw [upd_ne (fun z => by rw [z, hp] at h1; cases h1)]
  exact h1
theorem PutAt.get {K : PySem.W.Frag} {H : Hp} {a : Addr} {rows : Rws} (h : PutAt K H a rows) (x : Str) : (lookR rows x = none ∧ DGet H a (.str x) none) ∨ ∃ t v, lookR rows x = some t ∧ DGet H a (.str x) (some v) ∧ Den K H v t.data := by
  obtain ⟨kvs, h1, h2⟩ := h.ex
  rcases h2.get x with ⟨c1, c2⟩ | ⟨t, v, c1, c2, c3⟩
  · refine .inl ⟨c1, ?_⟩
    have := DGet.k (k := Sum.inr x) h1
    rw [c2] at this
    exact this
  · refine .inr ⟨t, v, c1, ?_, c3⟩
    have := DGet.k (k := Sum.inr x) h1
    rw [c2] at this
    exact this
noncomputable abbrev sp_walked (K : PySem.W.Frag) : Sp := fun vs H Q _ => match vs with | [v, .ref pd] => ∃ (rows : Rws) (t : Trm) (n : Nat) (u : Trm), PutAt K H pd rows ∧ Den K H v t.data ∧ Wlk rows n t u ∧ ∀ v', Den K H v' u.data → Q v' H | _ => False
noncomputable def keyK : Trm → Option (List Key)
  | .num m => some [Sum.inr numS, Sum.inl m]
  | .any _ => none
  | .app s ks => some [Sum.inr appS, Sum.inr s, Sum.inl (ks.length : Int)]
noncomputable def onK (H : Hp) (Q : VK) : Option (List Key) → Prop
  | none => Q .non H
  | some ks => ∀ p H', Same H H' → H' p = some (.tup (ks.map kV)) → Q (.ref p) H'
noncomputable abbrev sp_key_of (K : PySem.W.Frag) : Sp := fun vs H Q _ => match vs with | [v] => ∃ t : Trm, Den K H v t.data ∧ onK H Q (keyK t) | _ => False
noncomputable abbrev sp_l_is_term (K : PySem.W.Frag) : Sp := fun vs H Q _ => match vs with | [v] => ∃ t : Trm, Den K H v t.data ∧ t.size ≤ 1000 ∧ ∀ H', Same H H' → Q (.bl true) H' | _ => False
noncomputable def leaf : Trm → Bool
  | .num _ => true
  | .app _ [] => true
  | _ => false
mutual
noncomputable def gr : Trm → Bool
  | .num _ => true
  | .any _ => false
  | .app _ ks => grL ks
noncomputable def grL : List Trm → Bool
  | [] => true
  | t :: r => gr t && grL r
end
theorem grL_all : ∀ {ks : List Trm}, grL ks = true → ∀ k ∈ ks, gr k = true
  | [], _, k, h => by simp at h
  | x :: r, h, k, hk => by
    have h : (gr x && grL r) = true := h
    rw [Bool.and_eq_true] at h
    rcases List.mem_cons.mp hk with rfl | hk
    · exact h.1
    · exact grL_all h.2 k hk
theorem grL_of : ∀ {ks : List Trm}, (∀ k ∈ ks, gr k = true) → grL ks = true
  | [], _ => rfl
  | x :: r, h => by
    show (gr x && grL r) = true
    rw [h x List.mem_cons_self, grL_of fun k hk => h k (List.mem_cons_of_mem _ hk)]
    rfl
noncomputable def flatT (t : Trm) : Bool := gr t && decide (t.size ≤ 50)
noncomputable def afT : Trm → Bool
  | .any _ => true
  | t => flatT t
theorem flat_of {t : Trm} (h : gr t = true) (z : t.size ≤ 50) : flatT t = true := by rw [flatT, h, decide_eq_true z]; rfl
theorem flat_gr {t : Trm} (h : flatT t = true) : gr t = true ∧ t.size ≤ 50 := by
  rw [flatT, Bool.and_eq_true] at h
  exact ⟨h.1, of_decide_eq_true h.2⟩
theorem leaf_size {t : Trm} (h : leaf t = true) : t.size = 1 := by
  cases t with
  | num n => rfl
  | any x => cases h
  | app s ks =>
    cases ks with
    | nil => rfl
    | cons k r => cases h
theorem leaf_gr {t : Trm} (h : leaf t = true) : gr t = true := by
  cases t with
  | num n => rfl
  | any x => cases h
  | app s ks =>
    cases ks with
    | nil => rfl
    | cons k r => cases h
theorem mem_size : ∀ {ks : List Trm} {k : Trm}, k ∈ ks → k.size ≤ Trm.sizeL ks
  | [], k, h => by simp at h
  | x :: r, k, h => by
    rw [Trm.sizeL]
    rcases List.mem_cons.mp h with rfl | h
    · omega
    · have := mem_size h; omega
theorem flat_app {s : Str} {ks : List Trm} (h : flatT (.app s ks) = true) : (∀ k ∈ ks, flatT k = true) ∧ Trm.sizeL ks ≤ 49 := by
  obtain ⟨h1, h2⟩ := flat_gr h
  have h2 : 1 + Trm.sizeL ks ≤ 50 := h2
  exact ⟨fun k hk => flat_of (grL_all h1 k hk) (by have := mem_size hk; omega), by omega⟩
theorem flat_size {t : Trm} (h : flatT t = true) : t.size ≤ 50 := (flat_gr h).2
theorem af_size {t : Trm} (h : afT t = true) : t.size ≤ 50 := by
  cases t with
  | num n =>
    show 1 ≤ 50
    decide
  | any x =>
    show 1 ≤ 50
    decide
  | app s ks => exact flat_size h
theorem af_flat {t : Trm} (h : afT t = true) (n : ∀ x, t ≠ .any x) : flatT t = true := by
  cases t with
  | num n => rfl
  | any x => exact absurd rfl (n x)
  | app s ks => exact h
theorem flat_af {t : Trm} (h : flatT t = true) : afT t = true := by
  cases t with
  | num n => rfl
  | any x => cases h
  | app s ks => exact h
noncomputable def okK (k l : Trm) : Prop := leaf k = true ∨ leaf l = true ∨ k = l
noncomputable def okP (l r : Trm) : Prop := ∀ s ks ls, l = .app s ks → r = .app s ls → ks.length = ls.length → ∀ (i : Nat) (h1 : i < ks.length) (h2 : i < ls.length), okK ks[i] ls[i]
structure FR (rows : Rws) : Prop where
  len : rows.length ≤ 20
  fl : ∀ r ∈ rows, flatT r.2 = true
noncomputable def wk (rows : Rws) : Trm → Trm
  | .any x => (lookR rows x).getD (.any x)
  | t => t
theorem wk_none {rows : Rws} {x : Str} (h : lookR rows x = none) : wk rows (.any x) = .any x := by rw [wk, h]; rfl
theorem wk_some {rows : Rws} {x : Str} {t : Trm} (h : lookR rows x = some t) : wk rows (.any x) = t := by rw [wk, h]; rfl
theorem wk_flat {rows : Rws} {t : Trm} (h : flatT t = true) : wk rows t = t := by
  cases t with
  | num n => rfl
  | any x => cases h
  | app s ks => rfl
theorem FR.wk_af {rows : Rws} (f : FR rows) {t : Trm} (h : afT t = true) : afT (wk rows t) = true := by
  cases t with
  | num n => rfl
  | any x =>
    cases e : lookR rows x with
    | none => rw [wk_none e]; rfl
    | some u => rw [wk_some e]; exact flat_af (f.fl _ (look_mem e))
  | app s ks => exact h
theorem FR.wk_any {rows : Rws} (f : FR rows) {t : Trm} {y : Str} (e : wk rows t = .any y) : lookR rows y = none := by
  cases t with
  | num n => cases e
  | any x =>
    cases h : lookR rows x with
    | none => rw [wk_none h] at e; cases e; exact h
    | some u =>
      rw [wk_some h] at e
      have := f.fl _ (look_mem h)
      rw [e] at this
      cases this
  | app s ks => cases e
theorem FR.walk {rows : Rws} (f : FR rows) {t : Trm} : ∃ n, Wlk rows n t (wk rows t) := by
  cases t with
  | num n => exact ⟨0, .stop (fun x h => by cases h)⟩
  | any x =>
    cases e : lookR rows x with
    | none => rw [wk_none e]; exact ⟨0, .stop (fun y h => by cases h; exact e)⟩
    | some u =>
      rw [wk_some e]
      refine ⟨1, .step e (.stop (fun y h => ?_))⟩
      have := f.fl _ (look_mem e)
      rw [h] at this
      cases this
  | app s ks => exact ⟨0, .stop (fun x h => by cases h)⟩
inductive Rs where
  | one (rows : Rws)
  | part (path : List Int) (a b : List Key)
noncomputable def keyL (t : Trm) : List Key := (keyK t).getD []
noncomputable def fd : List Trm → List Trm → Nat → Option (Nat × Trm × Trm)
  | k :: ks, l :: ls, i => if eqb k l = true then fd ks ls (i + 1) else some (i, k, l)
  | _, _, _ => none
noncomputable def kidsR (rows : Rws) : Option (Nat × Trm × Trm) → Rs
  | some (i, a, b) => .part [(i : Int)] (keyL a) (keyL b)
  | none => .one rows
noncomputable def mo4 (rows : Rws) : Trm → Trm → Rs
  | .app s ks, .app s' ls => if s = s' ∧ ks.length = ls.length then kidsR rows (fd ks ls 0) else .part [] (keyL (.app s ks)) (keyL (.app s' ls))
  | l, r => .part [] (keyL l) (keyL r)
noncomputable def mo3 (rows : Rws) (l : Trm) : Trm → Rs
  | .any y => .one (putR rows y l)
  | r => mo4 rows l r
noncomputable def mo2a (rows : Rws) (r : Trm) : Trm → Rs
  | .any x => .one (putR rows x r)
  | l => mo3 rows l r
noncomputable def mo2 (rows : Rws) (l r : Trm) : Rs := if eqb l r = true then .one rows else mo2a rows r l
noncomputable def mo (rows : Rws) (t t' : Trm) : Rs := mo2 rows (wk rows t) (wk rows t')
noncomputable abbrev oneS : Str := Str.ofString "one"
noncomputable abbrev partS : Str := Str.ofString "part"
noncomputable def kD : Key → PyData
  | .inl i => .int i
  | .inr x => .str x
noncomputable def partD (path : List Int) (a b : List Key) : PyData := .tuple [.str partS, .tuple (path.map PyData.int), .tuple (a.map kD), .tuple (b.map kD)]
noncomputable def ResAt (K : PySem.W.Frag) (H : Hp) (v : V) (p : Addr) : Rs → Prop
  | .one rows => ∃ r, v = .ref r ∧ SqT K H r [.str oneS, .ref p] ∧ PutAt K H p rows
  | .part path a b => Den K H v (partD path a b)
noncomputable abbrev putsN : Str := Str.ofString "puts"
noncomputable abbrev notedN : Str := Str.ofString "noted"
noncomputable abbrev rowsN : Str := Str.ofString "rows"
noncomputable abbrev metN : Str := Str.ofString "met"
noncomputable abbrev leftsN : Str := Str.ofString "lefts"
noncomputable abbrev rightsN : Str := Str.ofString "rights"
noncomputable abbrev takenN : Str := Str.ofString "taken"
theorem putF_lt {f : Str} {v : V} : ∀ {fs : List (Str × V)} {n : Nat}, fs.length < n → (putF f v fs).length < n + 1
  | [], n, h => by show 1 < n + 1; exact Nat.succ_lt_succ h
  | (g, x) :: r, n, h => by
    rw [putF]
    split
    · exact Nat.lt_succ_of_lt h
    · cases n with
      | zero => cases h
      | succ n => exact Nat.succ_lt_succ (putF_lt (Nat.lt_of_succ_lt_succ h))
theorem nil_lt {n : Nat} : ([] : List (Str × V)).length < n + 1 := Nat.succ_pos n
structure RwO where
  r : Addr
  dr : Addr
  a : V
  b : V
  k : Int
noncomputable def RwO.ob (CR : Addr) (q : RwO) : HO := .ins CR q.dr [(leftsN, q.a), (rightsN, q.b), (takenN, .int q.k)]
noncomputable def jF (pd nl rl md : Addr) : List (Str × V) := [(putsN, .ref pd), (notedN, .ref nl), (rowsN, .ref rl), (metN, .ref md)]
structure JS (K : PySem.W.Frag) (CJ CR : Addr) (H0 H : Hp) (j dx pd nl rl md : Addr) (me : Bool) (rows : Rws) (rs : List RwO) : Prop where
  sm : Same H0 H
  o : H j = some (.ins CJ dx (jF pd nl rl md))
  put : PutAt K H pd rows
  note : ∃ ns, H nl = some (.lst ns) ∧ ns.length ≤ rows.length
  rws : H rl = some (.lst (rs.map fun q => V.ref q.r))
  md0 : ∃ om, H md = some om ∧ (∀ xs, om ≠ .lst xs) ∧ (∀ xs, om ≠ .tup xs) ∧ (∀ o' xs, om ≠ .frz o' (.tup xs)) ∧ (∀ C dx fs, om ≠ .ins C dx fs) ∧ (me = true → om = .dK [])
  ro : ∀ q ∈ rs, H q.r = some (q.ob CR) ∧ H0 q.r = none ∧ q.r ≠ j
  nd : (rs.map (·.r)).Nodup
  hj : H0 j = none
  hpd : H0 pd = none
  hnl : H0 nl = none
  hrl : H0 rl = none
  hmd : H0 md = none
  n1 : nl ≠ rl
  n2 : md ≠ pd
noncomputable def KT (K : PySem.W.Frag) (H H' : Hp) : Prop := ∀ a xs, SqT K H a xs → SqT K H' a xs
theorem KT.refl {K : PySem.W.Frag} (H : Hp) : KT K H H := fun _ _ h => h
theorem KT.trans {K : PySem.W.Frag} {H H1 H2 : Hp} (a : KT K H H1) (b : KT K H1 H2) : KT K H H2 := fun c xs h => b _ _ (a _ _ h)
theorem KT.same {K : PySem.W.Frag} {H H' : Hp} (s : Same H H') : KT K H H' := fun _ _ h => s.tup h
theorem KT.upd {K : PySem.W.Frag} {H : Hp} {p : Addr} {o o0 : HO} (h : H p = some o0) (h1 : ∀ xs, o0 ≠ .tup xs) (h2 : ∀ o' xs, o0 ≠ .frz o' (.tup xs)) : KT K H (upd H p o) := fun a xs q => by
  rcases q with (q | ⟨o', q⟩) | q
  · exact .inl (.inl (by rw [upd_ne (ne_of q h (fun z => h1 _ z.symm))]; exact q))
  · exact .inl (.inr ⟨o', by rw [upd_ne (ne_of q h (fun z => h2 _ _ z.symm))]; exact q⟩)
  · exact .inr q
noncomputable abbrev sp_Row_init (K : PySem.W.Frag) (CR : Addr) : Sp := fun vs H Q _ => match vs with | [.ref r, a, b] => ∃ dr, H r = some (.ins CR dr []) ∧ ∀ H', But r H H' → H' r = some (RwO.ob CR ⟨r, dr, a, b, 0⟩) → Q .non H' | _ => False
noncomputable abbrev sp_Joining_init (K : PySem.W.Frag) (CJ : Addr) : Sp := fun vs H Q _ => match vs with | [.ref j, .ref pd, .ref nl] => ∃ dx, H j = some (.ins CJ dx []) ∧ ∀ rl md H', H rl = none → H md = none → rl ≠ md → But j H H' → H' j = some (.ins CJ dx (jF pd nl rl md)) → H' rl = some (.lst []) → H' md = some (.dK []) → Q .non H' | _ => False
noncomputable abbrev sp_Joining_path (K : PySem.W.Frag) (CJ CR : Addr) : Sp := fun vs H Q _ => match vs with | [.ref j] => ∃ H0 dx pd nl rl md me rows rs, JS K CJ CR H0 H j dx pd nl rl md me rows rs ∧ rs.length ≤ 50 ∧ ∀ p H', Same H H' → SqT K H' p ((rs.tail.map fun q => q.k - 1).map V.int) → Q (.ref p) H' | _ => False
noncomputable def clean (x : Str) (rows : Rws) (t : Trm) : Prop := flatT t = true ∨ ∃ y, t = .any y ∧ y ≠ x ∧ lookR rows y = none
noncomputable abbrev sp_stands_within (K : PySem.W.Frag) : Sp := fun vs H Q _ => match vs with | [.str x, v, .ref pd] => ∃ t rows, Den K H v t.data ∧ PutAt K H pd rows ∧ clean x rows t ∧ ∀ H', Same H H' → Q (.bl false) H' | _ => False
noncomputable abbrev sp_Joining_put_for (K : PySem.W.Frag) (CJ CR : Addr) : Sp := fun vs H Q _ => match vs with | [.ref j, .str x, v] => ∃ H0 dx pd nl rl md me rows rs t, JS K CJ CR H0 H j dx pd nl rl md me rows rs ∧ Den K H v t.data ∧ clean x rows t ∧ lookR rows x = none ∧ rows.length ≤ 20 ∧ ∀ H', KT K H H' → JS K CJ CR H0 H' j dx pd nl rl md me (putR rows x t) rs → Q .non H' | _ => False
noncomputable abbrev sp_Joining_begin_kids (K : PySem.W.Frag) (CJ CR : Addr) : Sp := fun vs H Q _ => match vs with | [.ref j, v, v'] => ∃ H0 dx pd nl rl md rows rs s ks s' ls, JS K CJ CR H0 H j dx pd nl rl md true rows rs ∧ Den K H v (Trm.app s ks).data ∧ Den K H v' (Trm.app s' ls).data ∧ (Trm.app s ks).size ≤ 60 ∧ (Trm.app s' ls).size ≤ 60 ∧ rs.length ≤ 50 ∧ ∀ H' r dr a b us us', KT K H H' → JS K CJ CR H0 H' j dx pd nl rl md false rows (rs ++ [⟨r, dr, .ref a, .ref b, 0⟩]) → SqT K H' a us → DenL K H' us (Trm.dataL ks) → SqT K H' b us' → DenL K H' us' (Trm.dataL ls) → Q .non H' | _ => False
inductive Pl where
  | go (rows : Rws)
  | part (a b : List Key)
  | kids (s : Str) (ks ls : List Trm)
noncomputable def pl4 (l r : Trm) : Pl := match l, r with
  | .app s ks, .app s' ls => if s = s' ∧ ks.length = ls.length then .kids s ks ls else .part (keyL (.app s ks)) (keyL (.app s' ls))
  | l, r => .part (keyL l) (keyL r)
noncomputable def pl3 (rows : Rws) (l : Trm) : Trm → Pl
  | .any y => .go (putR rows y l)
  | r => pl4 l r
noncomputable def pl2a (rows : Rws) (r : Trm) : Trm → Pl
  | .any x => .go (putR rows x r)
  | l => pl3 rows l r
noncomputable def pl2 (rows : Rws) (l r : Trm) : Pl := if eqb l r = true then .go rows else pl2a rows r l
noncomputable def onPl (K : PySem.W.Frag) (CJ CR : Addr) (H0 H : Hp) (j dx pd nl rl md : Addr) (me : Bool) (rows : Rws) (rs : List RwO) (Q : VK) : Pl → Prop
  | .go rows' => ∀ H', KT K H H' → JS K CJ CR H0 H' j dx pd nl rl md me rows' rs → Q .non H'
  | .part a b => ∀ w H', KT K H H' → JS K CJ CR H0 H' j dx pd nl rl md me rows rs → Den K H' w (partD (rs.tail.map fun q => q.k - 1) a b) → Q w H'
  | .kids s ks ls => me = true ∧ ∀ H' r dr a b us us', KT K H H' → JS K CJ CR H0 H' j dx pd nl rl md false rows (rs ++ [⟨r, dr, .ref a, .ref b, 0⟩]) → SqT K H' a us → DenL K H' us (Trm.dataL ks) → SqT K H' b us' → DenL K H' us' (Trm.dataL ls) → Q .non H'
noncomputable abbrev sp_Joining_join_place (K : PySem.W.Frag) (CJ CR : Addr) : Sp := fun vs H Q _ => match vs with | [.ref j, v, v'] => ∃ H0 dx pd nl rl md me rows rs t t', JS K CJ CR H0 H j dx pd nl rl md me rows rs ∧ FR rows ∧ Den K H v t.data ∧ Den K H v' t'.data ∧ afT t = true ∧ afT t' = true ∧ rs.length ≤ 50 ∧ onPl K CJ CR H0 H j dx pd nl rl md me rows rs Q (pl2 rows (wk rows t) (wk rows t')) | _ => False
noncomputable def onTold (K : PySem.W.Frag) (H0 : Hp) (pd : Addr) (Q : VK) : Rs → Prop
  | .one rows => ∀ H', Same H0 H' → PutAt K H' pd rows → Q .non H'
  | .part path a b => ∀ w H', Same H0 H' → Den K H' w (partD path a b) → (∃ r, w = .ref r) → Q w H'
noncomputable abbrev sp_Joining_join_terms (K : PySem.W.Frag) (CJ CR : Addr) : Sp := fun vs H Q _ => match vs with | [.ref j, v, v'] => ∃ H0 dx pd nl rl md rows t t', JS K CJ CR H0 H j dx pd nl rl md true rows [] ∧ FR rows ∧ Den K H v t.data ∧ Den K H v' t'.data ∧ afT t = true ∧ afT t' = true ∧ okP (wk rows t) (wk rows t') ∧ onTold K H0 pd Q (mo rows t t') | _ => False
noncomputable abbrev sp_made_one (K : PySem.W.Frag) : Sp := fun vs H Q _ => match vs with | [v, v', .ref pd] => ∃ t t' rows, Den K H v t.data ∧ Den K H v' t'.data ∧ PutAt K H pd rows ∧ FR rows ∧ afT t = true ∧ afT t' = true ∧ okP (wk rows t) (wk rows t') ∧ ∀ w p H', Same H H' → H p = none → ResAt K H' w p (mo rows t t') → Q w H' | _ => False
section
variable {K : PySem.W.Frag} {CJ CR : Addr} {H0 H H' : Hp} {j dx pd nl rl md : Addr} {me : Bool} {rows rows' : Rws} {rs : List RwO}
theorem PutAt.keep {a p : Addr} {o : HO} (h : PutAt K H a rows) (hne : a ≠ p) (kt : KT K H (upd H p o)) : PutAt K (upd H p o) a rows := by
  obtain ⟨kvs, h1, h2⟩ := h.ex
  exact ⟨kvs, by rw [upd_ne hne]; exact h1, h2.monoT kt⟩
theorem JS.same (h : JS K CJ CR H0 H j dx pd nl rl md me rows rs) (s : Same H H') : JS K CJ CR H0 H' j dx pd nl rl md me rows rs := by
  obtain ⟨ns, h1, h2⟩ := h.note
  obtain ⟨om, h3, h4⟩ := h.md0
  exact ⟨h.sm.trans s, s _ _ h.o, h.put.mono s, ⟨ns, s _ _ h1, h2⟩, s _ _ h.rws, ⟨om, s _ _ h3, h4⟩, fun q hq => ⟨s _ _ (h.ro q hq).1, (h.ro q hq).2⟩, h.nd, h.hj, h.hpd, h.hnl, h.hrl, h.hmd, h.n1, h.n2⟩
theorem JS.upd_pd {kv : List (Key × V)} (h : JS K CJ CR H0 H j dx pd nl rl md me rows rs) (ok : PutsOk K H kv rows') (hl : rows.length ≤ rows'.length) : JS K CJ CR H0 (upd H pd (.dK kv)) j dx pd nl rl md me rows' rs ∧ KT K H (upd H pd (.dK kv)) := by
  obtain ⟨k0, e0, _⟩ := h.put.ex
  obtain ⟨ns, h1, h2⟩ := h.note
  obtain ⟨om, h3, h4⟩ := h.md0
  have kt : KT K H (upd H pd (.dK kv)) := .upd e0 (fun _ z => by cases z) (fun _ _ z => by cases z)
  refine ⟨⟨same_upd h.sm h.hpd, ?_, ⟨kv, upd_same, ok.monoT kt⟩, ⟨ns, ?_, by omega⟩, ?_, ⟨om, ?_, h4⟩, fun q hq => ⟨?_, (h.ro q hq).2⟩, h.nd, h.hj, h.hpd, h.hnl, h.hrl, h.hmd, h.n1, h.n2⟩, kt⟩
  · rw [upd_ne (ne_of h.o e0 (fun z => by cases z))]; exact h.o
  · rw [upd_ne (ne_of h1 e0 (fun z => by cases z))]; exact h1
  · rw [upd_ne (ne_of h.rws e0 (fun z => by cases z))]; exact h.rws
  · rw [upd_ne h.n2]; exact h3
  · rw [upd_ne (ne_of (h.ro q hq).1 e0 (fun z => by cases z))]; exact (h.ro q hq).1
theorem JS.upd_nl {ns : List V} (h : JS K CJ CR H0 H j dx pd nl rl md me rows rs) (hl : ns.length ≤ rows.length) : JS K CJ CR H0 (upd H nl (.lst ns)) j dx pd nl rl md me rows rs ∧ KT K H (upd H nl (.lst ns)) := by
  obtain ⟨k0, e0, _⟩ := h.put.ex
  obtain ⟨n0, h1, h2⟩ := h.note
  obtain ⟨om, h3, h4⟩ := h.md0
  have kt : KT K H (upd H nl (.lst ns)) := .upd h1 (fun _ z => by cases z) (fun _ _ z => by cases z)
  refine ⟨⟨same_upd h.sm h.hnl, ?_, h.put.keep (ne_of e0 h1 (fun z => by cases z)) kt, ⟨ns, upd_same, hl⟩, ?_, ⟨om, ?_, h4⟩, fun q hq => ⟨?_, (h.ro q hq).2⟩, h.nd, h.hj, h.hpd, h.hnl, h.hrl, h.hmd, h.n1, h.n2⟩, kt⟩
  · rw [upd_ne (ne_of h.o h1 (fun z => by cases z))]; exact h.o
  · rw [upd_ne (Ne.symm h.n1)]; exact h.rws
  · rw [upd_ne (ne_of h3 h1 (h4.1 _))]; exact h3
  · rw [upd_ne (ne_of (h.ro q hq).1 h1 (fun z => by cases z))]; exact (h.ro q hq).1
theorem JS.upd_md {om : HO} (h : JS K CJ CR H0 H j dx pd nl rl md me rows rs) (c1 : ∀ xs, om ≠ .lst xs) (c2 : ∀ xs, om ≠ .tup xs) (c3 : ∀ o' xs, om ≠ .frz o' (.tup xs)) (c4 : ∀ C dx fs, om ≠ .ins C dx fs) : JS K CJ CR H0 (upd H md om) j dx pd nl rl md false rows rs ∧ KT K H (upd H md om) := by
  obtain ⟨n0, h1, h2⟩ := h.note
  obtain ⟨o0, h3, h4⟩ := h.md0
  have kt : KT K H (upd H md om) := .upd h3 h4.2.1 h4.2.2.1
  refine ⟨⟨same_upd h.sm h.hmd, ?_, h.put.keep (Ne.symm h.n2) kt, ⟨n0, ?_, h2⟩, ?_, ⟨om, upd_same, c1, c2, c3, c4, fun z => by cases z⟩, fun q hq => ⟨?_, (h.ro q hq).2⟩, h.nd, h.hj, h.hpd, h.hnl, h.hrl, h.hmd, h.n1, h.n2⟩, kt⟩
  · rw [upd_ne (ne_of h.o h3 (fun z => h4.2.2.2.1 _ _ _ z.symm))]; exact h.o
  · rw [upd_ne (ne_of h1 h3 (fun z => h4.1 _ z.symm))]; exact h1
  · rw [upd_ne (ne_of h.rws h3 (fun z => h4.1 _ z.symm))]; exact h.rws
  · rw [upd_ne (ne_of (h.ro q hq).1 h3 (fun z => h4.2.2.2.1 _ _ _ z.symm))]; exact (h.ro q hq).1
theorem JS.upd_rl {rs' : List RwO} (h : JS K CJ CR H0 H j dx pd nl rl md me rows rs) (ok : ∀ q ∈ rs', H q.r = some (q.ob CR) ∧ H0 q.r = none ∧ q.r ≠ j) (nd : (rs'.map (·.r)).Nodup) : JS K CJ CR H0 (upd H rl (.lst (rs'.map fun q => V.ref q.r))) j dx pd nl rl md me rows rs' ∧ KT K H (upd H rl (.lst (rs'.map fun q => V.ref q.r))) := by
  obtain ⟨k0, e0, _⟩ := h.put.ex
  obtain ⟨n0, h1, h2⟩ := h.note
  obtain ⟨om, h3, h4⟩ := h.md0
  have kt : KT K H (upd H rl (.lst (rs'.map fun q => V.ref q.r))) := .upd h.rws (fun _ z => by cases z) (fun _ _ z => by cases z)
  refine ⟨⟨same_upd h.sm h.hrl, ?_, h.put.keep (ne_of e0 h.rws (fun z => by cases z)) kt, ⟨n0, ?_, h2⟩, upd_same, ⟨om, ?_, h4⟩, fun q hq => ⟨?_, (ok q hq).2⟩, nd, h.hj, h.hpd, h.hnl, h.hrl, h.hmd, h.n1, h.n2⟩, kt⟩
  · rw [upd_ne (ne_of h.o h.rws (fun z => by cases z))]; exact h.o
  · rw [upd_ne h.n1]; exact h1
  · rw [upd_ne (ne_of h3 h.rws (h4.1 _))]; exact h3
  · rw [upd_ne (ne_of (ok q hq).1 h.rws (fun z => by cases z))]; exact (ok q hq).1
theorem JS.upd_last {rs0 : List RwO} {q0 q1 : RwO} (h : JS K CJ CR H0 H j dx pd nl rl md me rows (rs0 ++ [q0])) (e : q1.r = q0.r) : JS K CJ CR H0 (upd H q0.r (q1.ob CR)) j dx pd nl rl md me rows (rs0 ++ [q1]) ∧ KT K H (upd H q0.r (q1.ob CR)) := by
  obtain ⟨k0, e0, _⟩ := h.put.ex
  obtain ⟨n0, h1, h2⟩ := h.note
  obtain ⟨om, h3, h4⟩ := h.md0
  have hq0 := h.ro q0 (by simp)
  have nd := h.nd
  rw [List.map_append, List.nodup_append] at nd
  have kt : KT K H (upd H q0.r (q1.ob CR)) := .upd hq0.1 (fun _ z => by cases z) (fun _ _ z => by cases z)
  have er : (rs0 ++ [q1]).map (·.r) = (rs0 ++ [q0]).map (·.r) := by simp [e]
  have er2 : ((rs0 ++ [q1]).map fun q => V.ref q.r) = (rs0 ++ [q0]).map fun q => V.ref q.r := by simp [e]
  refine ⟨⟨same_upd h.sm hq0.2.1, ?_, h.put.keep (ne_of e0 hq0.1 (fun z => by cases z)) kt, ⟨n0, ?_, h2⟩, ?_, ⟨om, ?_, h4⟩, fun q hq => ?_, by rw [er]; exact h.nd, h.hj, h.hpd, h.hnl, h.hrl, h.hmd, h.n1, h.n2⟩, kt⟩
  · rw [upd_ne (Ne.symm hq0.2.2)]; exact h.o
  · rw [upd_ne (ne_of h1 hq0.1 (fun z => by cases z))]; exact h1
  · rw [er2, upd_ne (ne_of h.rws hq0.1 (fun z => by cases z))]; exact h.rws
  · rw [upd_ne (ne_of h3 hq0.1 (fun z => h4.2.2.2.1 _ _ _ z))]; exact h3
  · rcases List.mem_append.mp hq with z | z
    · have hq' := h.ro q (List.mem_append_left _ z)
      have hn : q.r ≠ q0.r := fun z2 => nd.2.2 q.r (List.mem_map.mpr ⟨q, z, rfl⟩) q0.r (by simp) z2
      exact ⟨by rw [upd_ne hn]; exact hq'.1, hq'.2⟩
    · rw [List.mem_singleton.mp z, e]
      exact ⟨upd_same, hq0.2⟩
end
mutual
theorem hashy_t : ∀ t : Trm, hashy t.data = true
  | .num n => rfl
  | .any x => rfl
  | .app s ks => by
    show (true && (true && (hashy.hashyL (Trm.dataL ks) && true))) = true
    rw [hashy_L ks]
    rfl
theorem hashy_L : ∀ ts : List Trm, hashy.hashyL (Trm.dataL ts) = true
  | [] => rfl
  | t :: r => by
    show (hashy t.data && hashy.hashyL (Trm.dataL r)) = true
    rw [hashy_t t, hashy_L r]
    rfl
end
theorem clean_eqb {x : Str} {rows : Rws} {t : Trm} (h : clean x rows t) : eqb t (.any x) = false := by
  rcases h with h | ⟨y, rfl, h, _⟩
  · cases t with
    | num n => rfl
    | any y => cases h
    | app s ks => rfl
  · show decide (y = x) = false
    exact decide_eq_false h
section
variable {pd nl rl md : Addr}
theorem lk_puts : (jF pd nl rl md).lookup (Str.ofString "puts") = some (.ref pd) := by
  have e : (Str.ofString "puts" == putsN) = true := by decide +kernel
  simp only [jF, List.lookup, e]
theorem lk_noted : (jF pd nl rl md).lookup (Str.ofString "noted") = some (.ref nl) := by
  have e : (Str.ofString "noted" == putsN) = false := by decide +kernel
  have e1 : (Str.ofString "noted" == notedN) = true := by decide +kernel
  simp only [jF, List.lookup, e, e1]
theorem lk_rows : (jF pd nl rl md).lookup (Str.ofString "rows") = some (.ref rl) := by
  have e : (Str.ofString "rows" == putsN) = false := by decide +kernel
  have e1 : (Str.ofString "rows" == notedN) = false := by decide +kernel
  have e2 : (Str.ofString "rows" == rowsN) = true := by decide +kernel
  simp only [jF, List.lookup, e, e1, e2]
theorem lk_met : (jF pd nl rl md).lookup (Str.ofString "met") = some (.ref md) := by
  have e : (Str.ofString "met" == putsN) = false := by decide +kernel
  have e1 : (Str.ofString "met" == notedN) = false := by decide +kernel
  have e2 : (Str.ofString "met" == rowsN) = false := by decide +kernel
  have e3 : (Str.ofString "met" == metN) = true := by decide +kernel
  simp only [jF, List.lookup, e, e1, e2, e3]
theorem lk_no {f : Str} (h : (f == putsN || f == notedN || f == rowsN || f == metN) = false) : (jF pd nl rl md).lookup f = none := by
  simp only [Bool.or_eq_false_iff] at h
  simp only [jF, List.lookup, h.1.1.1, h.1.1.2, h.1.2, h.2]
end
section
variable {a b : V} {k : V}
theorem lkr_lefts : [(leftsN, a), (rightsN, b), (takenN, k)].lookup (Str.ofString "lefts") = some a := by
  have e : (Str.ofString "lefts" == leftsN) = true := by decide +kernel
  simp only [List.lookup, e]
theorem lkr_rights : [(leftsN, a), (rightsN, b), (takenN, k)].lookup (Str.ofString "rights") = some b := by
  have e : (Str.ofString "rights" == leftsN) = false := by decide +kernel
  have e1 : (Str.ofString "rights" == rightsN) = true := by decide +kernel
  simp only [List.lookup, e, e1]
theorem lkr_taken : [(leftsN, a), (rightsN, b), (takenN, k)].lookup (Str.ofString "taken") = some k := by
  have e : (Str.ofString "taken" == leftsN) = false := by decide +kernel
  have e1 : (Str.ofString "taken" == rightsN) = false := by decide +kernel
  have e2 : (Str.ofString "taken" == takenN) = true := by decide +kernel
  simp only [List.lookup, e, e1, e2]
theorem putr_taken {k' : V} : putF (Str.ofString "taken") k' [(leftsN, a), (rightsN, b), (takenN, k)] = [(leftsN, a), (rightsN, b), (takenN, k')] := by
  have e : leftsN ≠ Str.ofString "taken" := by decide +kernel
  have e1 : rightsN ≠ Str.ofString "taken" := by decide +kernel
  have e2 : takenN = Str.ofString "taken" := by decide +kernel
  rw [putF, if_neg e, putF, if_neg e1, putF, if_pos e2]
end
theorem look_out {rows : Rws} {x : Str} (h : lookR rows x = none) : x ∉ rows.map (·.1) := fun z => by
  obtain ⟨r, hr, e⟩ := List.mem_map.mp z
  have h : (rows.find? fun r => decide (r.1 = x)).map (·.2) = none := h
  have h2 := List.find?_eq_none.mp (Option.map_eq_none_iff.mp h) r hr
  exact h2 (decide_eq_true e)
theorem pair_depth {a b : Trm} (ha : a.size ≤ 60) (hb : b.size ≤ 60) : (PyData.tuple [a.data, b.data]).depth ≤ 140 := by
  have h1 := Trm.depth_le a
  have h2 := Trm.depth_le b
  simp only [PyData.depth, PyData.depthAll]
  omega
theorem pair_hashy (a b : Trm) : hashy (.tuple [a.data, b.data]) = true := by
  show (hashy a.data && (hashy b.data && true)) = true
  rw [hashy_t, hashy_t]
  rfl
theorem same_made {H H' : Hp} {r dr C : Addr} (h1 : H r = none) (h2 : H dr = none) (b : But r (upd (upd H dr (.own r)) r (.ins C dr [])) H') : Same H H' := fun c o ho => by
  refine b c o (ne_of_none ho h1) ?_
  rw [upd_ne (ne_of_none ho h1), upd_ne (ne_of_none ho h2)]
  exact ho
theorem keyK_some {t : Trm} (h : flatT t = true) : keyK t = some (keyL t) := by
  cases t with
  | num n => rfl
  | any x => cases h
  | app s ks => rfl
theorem key_den {K : PySem.W.Frag} {H : Hp} {p : Addr} {k : List Key} (h : SqT K H p (k.map kV)) : Den K H (.ref p) (.tuple (k.map kD)) := by
  refine .tup h ?_
  clear h
  induction k with
  | nil => exact .nil
  | cons a r ih =>
    refine .cons ?_ ih
    cases a with
    | inl i => exact .int i
    | inr x => exact .str x
theorem ints_den {K : PySem.W.Frag} {H : Hp} : ∀ (l : List Int), DenL K H (l.map V.int) (l.map PyData.int)
  | [] => .nil
  | a :: r => .cons (.int a) (ints_den r)
noncomputable def plR (rows : Rws) : Pl → Rs
  | .go r => .one r
  | .part a b => .part [] a b
  | .kids _ ks ls => kidsR rows (fd ks ls 0)
theorem pm (rows : Rws) (l r : Trm) : mo2 rows l r = plR rows (pl2 rows l r) := by
  rw [mo2, pl2]
  by_cases e : eqb l r = true
  · rw [if_pos e, if_pos e]; rfl
  rw [if_neg e, if_neg e]
  cases l <;> cases r <;> first | rfl | skip
  rename_i s ks s' ls
  show (if s = s' ∧ ks.length = ls.length then kidsR rows (fd ks ls 0) else Rs.part [] (keyL (.app s ks)) (keyL (.app s' ls))) = plR rows (if s = s' ∧ ks.length = ls.length then .kids s ks ls else .part (keyL (.app s ks)) (keyL (.app s' ls)))
  split <;> rfl
theorem pk {rows : Rws} {l r : Trm} {s : Str} {ks ls : List Trm} (h : pl2 rows l r = .kids s ks ls) : l = .app s ks ∧ r = .app s ls ∧ ks.length = ls.length := by
  rw [pl2] at h
  by_cases e : eqb l r = true
  · rw [if_pos e] at h; cases h
  rw [if_neg e] at h
  cases l <;> cases r <;> first | (exact absurd h (fun z => by cases z)) | skip
  rename_i s1 k1 s2 l1
  have h : (if s1 = s2 ∧ k1.length = l1.length then Pl.kids s1 k1 l1 else .part (keyL (.app s1 k1)) (keyL (.app s2 l1))) = .kids s ks ls := h
  split at h
  · rename_i c
    cases h
    exact ⟨rfl, by rw [c.1], c.2⟩
  · cases h
theorem pl_leaf {rows : Rws} {l r : Trm} (hl : flatT l = true) (hr : flatT r = true) (hk : okK l r) : (eqb l r = true ∧ pl2 rows l r = .go rows) ∨ (eqb l r = false ∧ pl2 rows l r = .part (keyL l) (keyL r)) := by
  cases e : eqb l r with
  | true => exact .inl ⟨rfl, by rw [pl2, if_pos e]⟩
  | false =>
    refine .inr ⟨rfl, ?_⟩
    rw [pl2, if_neg (by rw [e]; exact Bool.false_ne_true)]
    cases l <;> cases r <;> first | rfl | (cases hl; done) | (cases hr; done) | skip
    rename_i s ks s' ls
    show (if s = s' ∧ ks.length = ls.length then Pl.kids s ks ls else _) = _
    refine if_neg fun z => ?_
    rcases hk with hk | hk | hk
    · cases ks with
      | cons _ _ => cases hk
      | nil =>
        have hz : ls = [] := List.length_eq_zero_iff.mp z.2.symm
        rw [hz, z.1] at e
        have e : (decide (s' = s') && true) = false := e
        rw [decide_eq_true rfl] at e
        cases e
    · cases ls with
      | cons _ _ => cases hk
      | nil =>
        have hz : ks = [] := List.length_eq_zero_iff.mp z.2
        rw [hz, z.1] at e
        have e : (decide (s' = s') && true) = false := e
        rw [decide_eq_true rfl] at e
        cases e
    · rw [hk, eqb_self] at e
      cases e
structure LPk (K : PySem.W.Frag) (CJ CR : Addr) (H0 H : Hp) (j dx pd nl rl md : Addr) (R : Rs) (i : Nat) (rows : Rws) (q0 : RwO) (r dr a b a0 : Addr) (u0 : V) (us us' : List V) (ks ls : List Trm) : Prop where
  js : JS K CJ CR H0 H j dx pd nl rl md false rows [q0, ⟨r, dr, .ref a, .ref b, (i : Int)⟩]
  k0 : q0.k = 1
  ha0 : q0.a = .ref a0
  sa0 : SqT K H a0 [u0]
  sa : SqT K H a us
  da : DenL K H us (Trm.dataL ks)
  sb : SqT K H b us'
  db : DenL K H us' (Trm.dataL ls)
  len : ks.length = ls.length
  fk : ∀ k ∈ ks, flatT k = true
  fl : ∀ k ∈ ls, flatT k = true
  sz : ks.length ≤ 50
  okk : ∀ (i : Nat) (h1 : i < ks.length) (h2 : i < ls.length), okK ks[i] ls[i]
  le : i ≤ ks.length
  fr : FR rows
  res : R = kidsR rows (fd (ks.drop i) (ls.drop i) i)
noncomputable def LPa (K : PySem.W.Frag) (CJ CR : Addr) (H0 H : Hp) (j dx pd nl rl md : Addr) (v v' : V) (rows : Rws) : Prop := ∃ r dr a b, JS K CJ CR H0 H j dx pd nl rl md true rows [⟨r, dr, .ref a, .ref b, 0⟩] ∧ SqT K H a [v] ∧ SqT K H b [v']
noncomputable def LPc (K : PySem.W.Frag) (CJ CR : Addr) (H0 H : Hp) (j dx pd nl rl md : Addr) (R : Rs) : Prop := ∃ me rows q a u, JS K CJ CR H0 H j dx pd nl rl md me rows [q] ∧ q.k = 1 ∧ q.a = .ref a ∧ SqT K H a [u] ∧ R = .one rows
noncomputable def LPd (K : PySem.W.Frag) (CJ CR : Addr) (H0 H : Hp) (j dx pd nl rl md : Addr) (R : Rs) : Prop := ∃ me rows, JS K CJ CR H0 H j dx pd nl rl md me rows [] ∧ R = .one rows
noncomputable def LPe (K : PySem.W.Frag) (CJ CR : Addr) (H0 H : Hp) (j dx pd nl rl md : Addr) (R : Rs) (told : V) : Prop := ∃ me rows rs q path a b r, JS K CJ CR H0 H j dx pd nl rl md me rows (rs ++ [q]) ∧ told = .ref r ∧ Den K H told (partD path a b) ∧ R = .part path a b
theorem putj_rows {pd nl rl md rl' : Addr} : putF (Str.ofString "rows") (.ref rl') (jF pd nl rl md) = jF pd nl rl' md := by
  have e : putsN ≠ Str.ofString "rows" := by decide +kernel
  have e1 : notedN ≠ Str.ofString "rows" := by decide +kernel
  have e2 : rowsN = Str.ofString "rows" := by decide +kernel
  unfold jF
  rw [putF, if_neg e, putF, if_neg e1, putF, if_pos e2]
theorem JS.set_rl {K : PySem.W.Frag} {CJ CR : Addr} {H0 H : Hp} {j dx pd nl rl md rl' : Addr} {me : Bool} {rows : Rws} {rs rs' : List RwO} (h : JS K CJ CR H0 H j dx pd nl rl md me rows rs) (k : H rl' = some (.lst (rs'.map fun q => V.ref q.r))) (k0 : H0 rl' = none) (n1 : nl ≠ rl') (ok : ∀ q ∈ rs', H q.r = some (q.ob CR) ∧ H0 q.r = none ∧ q.r ≠ j) (nd : (rs'.map (·.r)).Nodup) : JS K CJ CR H0 (upd H j (.ins CJ dx (jF pd nl rl' md))) j dx pd nl rl' md me rows rs' ∧ KT K H (upd H j (.ins CJ dx (jF pd nl rl' md))) := by
  obtain ⟨e0, e1, _⟩ := h.put.ex
  obtain ⟨n0, h1, h2⟩ := h.note
  obtain ⟨om, h3, h4⟩ := h.md0
  have kt : KT K H (upd H j (.ins CJ dx (jF pd nl rl' md))) := .upd h.o (fun _ z => by cases z) (fun _ _ z => by cases z)
  refine ⟨⟨same_upd h.sm h.hj, upd_same, h.put.keep (ne_of e1 h.o (fun z => by cases z)) kt, ⟨n0, ?_, h2⟩, ?_, ⟨om, ?_, h4⟩, fun q hq => ⟨?_, (ok q hq).2⟩, nd, h.hj, h.hpd, h.hnl, k0, h.hmd, n1, h.n2⟩, kt⟩
  · rw [upd_ne (ne_of h1 h.o (fun z => by cases z))]; exact h1
  · rw [upd_ne (ne_of k h.o (fun z => by cases z))]; exact k
  · rw [upd_ne (ne_of h3 h.o (h4.2.2.2.1 _ _ _))]; exact h3
  · rw [upd_ne (ok q hq).2.2]; exact (ok q hq).1
theorem fd_go {k l : Trm} {ks ls : List Trm} {i : Nat} (h : eqb k l = true) : fd (k :: ks) (l :: ls) i = fd ks ls (i + 1) := if_pos h
theorem fd_at {k l : Trm} {ks ls : List Trm} {i : Nat} (h : eqb k l = false) : fd (k :: ks) (l :: ls) i = some (i, k, l) := if_neg (by rw [h]; exact Bool.false_ne_true)
noncomputable def lfy : Trm → Bool
  | .num _ => true
  | .any _ => false
  | .app _ ks => ks.all leaf && decide (ks.length ≤ 4)
theorem leafs_size : ∀ {ks : List Trm}, ks.all leaf = true → Trm.sizeL ks = ks.length
  | [], _ => rfl
  | k :: r, h => by
    rw [List.all_cons, Bool.and_eq_true] at h
    rw [Trm.sizeL, leaf_size h.1, leafs_size h.2, List.length_cons]
    omega
theorem lfy_app {s : Str} {ks : List Trm} (h : lfy (.app s ks) = true) : ks.all leaf = true ∧ ks.length ≤ 4 := by
  have h : (ks.all leaf && decide (ks.length ≤ 4)) = true := h
  rw [Bool.and_eq_true] at h
  exact ⟨h.1, of_decide_eq_true h.2⟩
theorem lfy_mk {s : Str} {ks : List Trm} (h : ks.all leaf = true) (h2 : ks.length ≤ 4) : lfy (.app s ks) = true := by
  show (ks.all leaf && decide (ks.length ≤ 4)) = true
  rw [h, decide_eq_true h2]
  rfl
theorem leaf_lfy {t : Trm} (h : leaf t = true) : lfy t = true := by
  cases t with
  | num n => rfl
  | any x => cases h
  | app s ks =>
    cases ks with
    | nil => rfl
    | cons k r => cases h
theorem lfy_flat {t : Trm} (h : lfy t = true) : flatT t = true := by
  cases t with
  | num n => rfl
  | any x => cases h
  | app s ks =>
    obtain ⟨h1, h2⟩ := lfy_app h
    refine flat_of (grL_of fun k hk => leaf_gr (List.all_eq_true.mp h1 k hk)) ?_
    rw [Trm.size, leafs_size h1]
    omega
theorem ok_left {l r : Trm} (h : lfy l = true) : okP l r := fun s ks ls e1 _ _ i h1 _ => by
  subst e1
  exact .inl (List.all_eq_true.mp (lfy_app h).1 _ (List.getElem_mem h1))
theorem ok_right {l r : Trm} (h : lfy r = true) : okP l r := fun s ks ls _ e2 _ i _ h2 => by
  subst e2
  exact .inr (.inl (List.all_eq_true.mp (lfy_app h).1 _ (List.getElem_mem h2)))
theorem ok_same (l : Trm) : okP l l := fun s ks ls e1 e2 _ i h1 h2 => by
  rw [e1] at e2
  cases e2
  exact .inr (.inr rfl)
theorem ok_any {x : Str} {r : Trm} : okP (.any x) r := fun s ks ls e1 => by cases e1
theorem ok_any' {x : Str} {l : Trm} : okP l (.any x) := fun s ks ls _ e2 => by cases e2
noncomputable def placeR (l r : Trm) : Option (List Int × List Key × List Key) := if keyL l ≠ keyL r then some ([], keyL l, keyL r) else match l, r with
  | .app _ ks, .app _ ls => (fd ks ls 0).map fun z => ([(z.1 : Int)], keyL z.2.1, keyL z.2.2)
  | _, _ => none
noncomputable def placeS (rows : Rws) : Option (List Int × List Key × List Key) → Rs
  | some z => .part z.1 z.2.1 z.2.2
  | none => .one rows
theorem fd_self : ∀ (ks : List Trm) (i : Nat), fd ks ks i = none
  | [], _ => rfl
  | k :: r, i => by rw [fd_go (eqb_self k)]; exact fd_self r (i + 1)
theorem placeR_self (l : Trm) : placeR l l = none := by
  unfold placeR
  rw [if_neg (fun z => z rfl)]
  cases l with
  | num n => rfl
  | any x => rfl
  | app s ks =>
    show (fd ks ks 0).map _ = none
    rw [fd_self]
    rfl
theorem mo_place (rows : Rws) {l r : Trm} (hl : flatT l = true) (hr : flatT r = true) : mo2 rows l r = placeS rows (placeR l r) := by
  by_cases e : eqb l r = true
  · have e2 : l = r := (eqb_iff l r).mp e
    subst e2
    rw [placeR_self, mo2, if_pos e]
    rfl
  rw [mo2, if_neg e]
  have ef : eqb l r = false := Bool.eq_false_iff.mpr e
  unfold placeR
  cases l with
  | any x => cases hl
  | num n =>
    cases r with
    | any x => cases hr
    | num m =>
      have hne : keyL (.num n) ≠ keyL (.num m) := fun z => by
        have z : ([Sum.inr numS, Sum.inl n] : List Key) = [Sum.inr numS, Sum.inl m] := z
        have ef : decide (n = m) = false := ef
        simp at z
        exact of_decide_eq_false ef z
      rw [if_pos hne]
      rfl
    | app s ks =>
      have hne : keyL (.num n) ≠ keyL (.app s ks) := fun z => by
        have z : ([Sum.inr numS, Sum.inl n] : List Key) = [Sum.inr appS, Sum.inr s, Sum.inl (ks.length : Int)] := z
        simp at z
      rw [if_pos hne]
      rfl
  | app s ks =>
    cases r with
    | any x => cases hr
    | num m =>
      have hne : keyL (.app s ks) ≠ keyL (.num m) := fun z => by
        have z : ([Sum.inr appS, Sum.inr s, Sum.inl (ks.length : Int)] : List Key) = [Sum.inr numS, Sum.inl m] := z
        simp at z
      rw [if_pos hne]
      rfl
    | app s' ls =>
      show (if s = s' ∧ ks.length = ls.length then kidsR rows (fd ks ls 0) else Rs.part [] (keyL (.app s ks)) (keyL (.app s' ls))) = _
      by_cases hc : s = s' ∧ ks.length = ls.length
      · have he : keyL (.app s ks) = keyL (.app s' ls) := by
          show ([Sum.inr appS, Sum.inr s, Sum.inl (ks.length : Int)] : List Key) = [Sum.inr appS, Sum.inr s', Sum.inl (ls.length : Int)]
          rw [hc.1, hc.2]
        rw [if_pos hc, if_neg (fun z => z he)]
        show kidsR rows (fd ks ls 0) = placeS rows ((fd ks ls 0).map _)
        cases fd ks ls 0 with
        | none => rfl
        | some z => rfl
      · have hne : keyL (.app s ks) ≠ keyL (.app s' ls) := fun z => by
          have z : ([Sum.inr appS, Sum.inr s, Sum.inl (ks.length : Int)] : List Key) = [Sum.inr appS, Sum.inr s', Sum.inl (ls.length : Int)] := z
          simp only [List.cons.injEq, Sum.inr.injEq, Sum.inl.injEq, and_true, true_and] at z
          exact hc ⟨z.1, by have := z.2; omega⟩
        rw [if_neg hc, if_pos hne]
        rfl
theorem key_back {K : PySem.W.Frag} {H : Hp} {v : V} {k : List Key} (h : Den K H v (.tuple (k.map kD))) : ∃ p, v = .ref p ∧ SqT K H p (k.map kV) := by
  cases h with
  | @tup p us ds hs hl =>
    refine ⟨p, rfl, ?_⟩
    have e : us = k.map kV := by
      clear hs
      induction k generalizing us with
      | nil => cases hl; rfl
      | cons a r ih =>
        cases hl with
        | cons h1 h2 =>
          rw [ih h2]
          cases a with
          | inl i => cases h1; rfl
          | inr x => cases h1; rfl
    rw [← e]
    exact hs
noncomputable abbrev keyD (t : Trm) : PyData := .tuple ((keyL t).map kD)
noncomputable abbrev sp_l_leaf (K : PySem.W.Frag) : Sp := fun vs H Q _ => match vs with | [.int c, .ref wp] => ∃ ws : List Str, SqL K H wp (ws.map V.str) ∧ ws.length = 4 ∧ ∀ (v : V) (t : Trm) (H' : Hp), Same H H' → Den K H' v t.data → leaf t = true → Q v H' | _ => False
noncomputable abbrev sp_l_flat (K : PySem.W.Frag) : Sp := fun vs H Q _ => match vs with | [.int c, .ref cp, .ref wp] => ∃ (cs : List Int) (ws : List Str), SqL K H cp (cs.map V.int) ∧ cs.length ≤ 4 ∧ SqL K H wp (ws.map V.str) ∧ ws.length = 4 ∧ ∀ (v : V) (t : Trm) (H' : Hp), Same H H' → Den K H' v t.data → lfy t = true → Q v H' | _ => False
noncomputable def dep (t : Trm) : Nat := if leaf t = true then 0 else 1
noncomputable abbrev sp_l_off (K : PySem.W.Frag) (n : Nat) : Sp := fun vs H Q _ => match vs with | [v, .int c, .ref wp] => ∃ (t : Trm) (ws : List Str), Den K H v t.data ∧ lfy t = true ∧ dep t < n ∧ SqL K H wp (ws.map V.str) ∧ ws.length = 4 ∧ ∀ (v' : V) (t' : Trm) (H' : Hp), Same H H' → Den K H' v' t'.data → gr t' = true → t'.size ≤ (if leaf t = true then 2 else 12) → Q v' H' | _ => False
theorem no_l_off {K : PySem.W.Frag} {H : Hp} {Q : VK} {v : V} {wp : Addr} (h : ∃ (t : Trm) (ws : List Str), Den K H v t.data ∧ lfy t = true ∧ dep t < 0 ∧ SqL K H wp (ws.map V.str) ∧ ws.length = 4 ∧ ∀ (v' : V) (t' : Trm) (H' : Hp), Same H H' → Den K H' v' t'.data → gr t' = true → t'.size ≤ (if leaf t = true then 2 else 12) → Q v' H') : False := by
  obtain ⟨_, _, _, _, h, _⟩ := h
  exact absurd h (Nat.not_lt_zero _)
noncomputable abbrev sp_l_head (K : PySem.W.Frag) : Sp := fun vs H Q _ => match vs with | [v] => ∃ t : Trm, Den K H v t.data ∧ flatT t = true ∧ ∀ (v' : V) (H' : Hp), Same H H' → Den K H' v' (keyD t) → Q v' H' | _ => False
noncomputable def onPlace (K : PySem.W.Frag) (H : Hp) (Q : VK) : Option (List Int × List Key × List Key) → Prop
  | some z => ∀ (r : Addr) (H' : Hp), Same H H' → Den K H' (.ref r) (partD z.1 z.2.1 z.2.2) → Q (.ref r) H'
  | none => ∀ H', Same H H' → Q .non H'
noncomputable abbrev sp_l_place (K : PySem.W.Frag) : Sp := fun vs H Q _ => match vs with | [v, v'] => ∃ t t' : Trm, Den K H v t.data ∧ Den K H v' t'.data ∧ flatT t = true ∧ flatT t' = true ∧ onPlace K H Q (placeR t t') | _ => False
noncomputable abbrev sp_l_due (K : PySem.W.Frag) : Sp := fun vs H Q _ => match vs with | [v, v', .ref pd] => ∃ t t' rows, Den K H v t.data ∧ Den K H v' t'.data ∧ PutAt K H pd rows ∧ FR rows ∧ afT t = true ∧ afT t' = true ∧ ∀ w p H', Same H H' → H p = none → ResAt K H' w p (mo rows t t') → Q w H' | _ => False
structure Ext (rows0 rows : Rws) : Prop where
  old : ∀ x u, lookR rows0 x = some u → lookR rows x = some u
  af : ∀ r ∈ rows, afT r.2 = true
  len : rows.length ≤ 30
noncomputable abbrev sp_l_seen (K : PySem.W.Frag) : Sp := fun vs H Q _ => match vs with | [f, d, .ref pd] => ∃ res p1 p2 rows0, ResAt K H f p1 res ∧ ResAt K H d p2 res ∧ p1 ≠ p2 ∧ p1 ≠ pd ∧ PutAt K H pd rows0 ∧ (∀ rows, res = .one rows → Ext rows0 rows) ∧ (∀ path a b, res = .part path a b → (∃ ka i, a = ka ++ [Sum.inl i]) ∧ ∃ kb i, b = kb ++ [Sum.inl i]) ∧ ∀ H', Same H H' → Q (.bl true) H' | _ => False
noncomputable abbrev sp_law (K : PySem.W.Frag) : Sp := fun vs H Q _ => match vs with | [.ref a] => ∃ ns : List Int, SqL K H a (ns.map V.int) ∧ ns.length ≤ 63 ∧ (∀ n ∈ ns, Builtin.Int.intBits n ≤ 1048576) ∧ ∀ H', Q (.bl true) H' | _ => False
section
variable {P : Program} {w : World} {K : PySem.W.Frag} {mg : Str → Option Value} {base : Heap} {t : Ad}
theorem ok_walked (T : Txt K mg t)  : FnOk P w K mg base CX0 1 t.a_walked t.d_walked ["term", "puts"] (sp_walked K) := by
  refine T.F_walked.ok sc_walked (fun vs H Q E h => ?_) (fun cdv A outer s H vs Q E hr h => ?_)
  · unfold sp_walked at h
    split at h
    · rfl
    · exact h.elim
  unfold sp_walked at h
  split at h
  rotate_left
  · exact h.elim
  refine ⟨_, (pss_cons (ps_set (i := 2) sc_walked.nd rfl (by first | exact Or.inl rfl | exact Or.inr rfl) (mv 0)) (pss_cons (ps_while PassesOwn.never (PW.pt (pw_and (mt_cmp mo_eq (pe_ix (ki_seq K rfl) (mv 2) pe_int (fun _ _ => rfl)) pe_str (nomark _)) (pw_and1 (mt_cmp (ko_inD (hu_of hr)) (pe_ix (ki_seq K rfl) (mv 2) pe_int (fun _ _ => rfl)) (mv 1) (by with_unfolding_all rfl))))) (pss_one (ps_set (i := 2) (hs := sw_sub) sc_walked.nd rfl (by first | exact Or.inl rfl | exact Or.inr rfl) (pe_dget (hu_of hr) (mv 1) (pe_ix (ki_seq K rfl) (mv 2) pe_int (fun _ _ => rfl)) (fun _ _ => rfl))))) (pss_one (ps_ret (mv 2))))), ?_⟩
  rename_i v pd
  obtain ⟨rows, t0, n, u, hP, hd, hw, q⟩ := h
  walk_at "stp"
  refine while_row (fun n σ' H' => ∃ (v' : V) (t' : Trm), σ' = [some v, some (.ref pd), some v'] ∧ Den K H v' t'.data ∧ Wlk rows n t' u ∧ H' = H) n ⟨v, t0, rfl, hd, hw, rfl⟩ (fun n σ' H' R hP2 kT kF => ?_)
  obtain ⟨v', t', rfl, hd', hw', rfl⟩ := hP2
  have fin : hnf rows u → Den K H' v' u.data → R false H' := fun hh hdu => by
    refine kF _ ?_
    walk_at "stp"
    exact q _ hdu
  cases hw' with
  | stop hs =>
    cases u with
    | num m =>
      obtain ⟨a, rfl, hs1⟩ := den_num hd'
      walk_at "stp"
      refine mIx_t hs1 (v := .str numS) rfl ?_
      walk_at "stp"
      rw [Bool.false_xor, q1]
      refine iteF ?_
      exact fin hs hd'
    | app sg ks =>
      obtain ⟨a, b, us, rfl, hs1, hb, hk⟩ := den_app hd'
      walk_at "stp"
      refine mIx_t hs1 (v := .str appS) rfl ?_
      walk_at "stp"
      rw [Bool.false_xor, q2]
      refine iteF ?_
      exact fin hs hd'
    | any x =>
      obtain ⟨a, rfl, hs1⟩ := den_any hd'
      walk_at "stp"
      refine mIx_t hs1 (v := .str anyS) rfl ?_
      walk_at "stp"
      rw [Bool.false_xor, q3]
      refine iteT ?_
      walk_at "stp"
      refine mIx_t hs1 (v := .str x) rfl ?_
      walk_at "stp"
      rcases hP.get x with ⟨c1, c2⟩ | ⟨t, w', c1, c2, c3⟩
      · refine ⟨pd, _, rfl, c2, ?_⟩
        walk_at "stp"
        exact fin hs hd'
      · have := hs x rfl
        rw [c1] at this
        cases this
  | step hl hw2 =>
    rename_i m x ux
    obtain ⟨a, rfl, hs1⟩ := den_any hd'
    walk_at "stp"
    refine mIx_t hs1 (v := .str anyS) rfl ?_
    walk_at "stp"
    rw [Bool.false_xor, q3]
    refine iteT ?_
    walk_at "stp"
    refine mIx_t hs1 (v := .str x) rfl ?_
    walk_at "stp"
    rcases hP.get x with ⟨c1, c2⟩ | ⟨t, w', c1, c2, c3⟩
    · rw [hl] at c1
      cases c1
    · rw [hl] at c1
      cases c1
      refine ⟨pd, _, rfl, c2, ?_⟩
      walk_at "stp"
      refine kT _ (fun D' e1 e2 hnx hct => ?_)
      walk_at "stp"
      refine mIx_t hs1 (v := .str x) rfl ?_
      walk_at "stp"
      refine ⟨pd, _, rfl, c2, ?_⟩
      walk_at "stp"
      exact hnx _ _ m (by omega) ⟨_, _, rfl, c3, hw2, rfl⟩
theorem ok_key_of (T : Txt K mg t)  : FnOk P w K mg base CX0 1 t.a_key_of t.d_key_of ["term"] (sp_key_of K) := by
  refine T.F_key_of.ok sc_key_of (fun vs H Q E h => ?_) (fun cdv A outer s H vs Q E hr h => ?_)
  · unfold sp_key_of at h
    split at h
    · rfl
    · exact h.elim
  unfold sp_key_of at h
  split at h
  rotate_left
  · exact h.elim
  refine ⟨_, (pss_cons (ps_if (mt_cmp mo_eq (pe_ix (ki_seq K rfl) (mv 0) pe_int (fun _ _ => rfl)) pe_str (nomark _)) (pss_one (ps_ret (pe_tup (pa_con pe_str (pa_con (pe_ix (ki_seq K rfl) (mv 0) pe_int (fun _ _ => rfl)) pa_nil))))) pss_nil) (pss_cons (ps_if (mt_cmp mo_eq (pe_ix (ki_seq K rfl) (mv 0) pe_int (fun _ _ => rfl)) pe_str (nomark _)) (pss_one (ps_ret (pe_tup (pa_con pe_str (pa_con (pe_ix (ki_seq K rfl) (mv 0) pe_int (fun _ _ => rfl)) (pa_con (pe_callB (kc_len K rfl) rfl T.n_len PySem.boot_len (pa_con (pe_ix (ki_seq K rfl) (mv 0) pe_int (fun _ _ => rfl)) pa_nil)) pa_nil)))))) pss_nil) (pss_one (ps_ret pe_non)))), ?_⟩
  rename_i v
  obtain ⟨t0, hd, q⟩ := h
  cases t0 with
  | num m =>
    obtain ⟨a, rfl, hs⟩ := den_num hd
    walk_at "stp"
    refine mIx_t hs (v := .str numS) rfl ?_
    walk_at "stp"
    rw [Bool.false_xor, q7]
    refine iteT ?_
    walk_at "stp"
    refine mIx_t hs (v := .int m) rfl ?_
    walk_at "stp"
    exact ⟨ln (by show 2 ≤ 100000; decide), fun p hp => q p _ (same_new hp _) upd_same⟩
  | any y =>
    obtain ⟨a, rfl, hs⟩ := den_any hd
    walk_at "stp"
    refine mIx_t hs (v := .str anyS) rfl ?_
    walk_at "stp"
    refine iteB (fun e => absurd e (by decide +kernel)) (fun e => ?_)
    walk_at "stp"
    refine mIx_t hs (v := .str anyS) rfl ?_
    walk_at "stp"
    refine iteB (fun e => absurd e (by decide +kernel)) (fun e => ?_)
    walk_at "stp"
    exact q
  | app sg ks =>
    obtain ⟨a, b, us, rfl, hs, hb, hk⟩ := den_app hd
    have hl := hk.length
    rw [Trm.dataL_map, List.length_map] at hl
    walk_at "stp"
    refine mIx_t hs (v := .str appS) rfl ?_
    walk_at "stp"
    refine iteB (fun e => absurd e (by decide +kernel)) (fun e => ?_)
    walk_at "stp"
    refine mIx_t hs (v := .str appS) rfl ?_
    walk_at "stp"
    refine iteB (fun e => ?_) (fun e => absurd e (by decide +kernel))
    walk_at "stp"
    refine mIx_t hs (v := .str sg) rfl ?_
    walk_at "stp"
    refine mIx_t hs (v := .ref b) rfl ?_
    walk_at "stp"
    refine mLen_t hb ?_
    walk_at "stp"
    refine ⟨ln (by show 3 ≤ 100000; decide), fun p hp => q p _ (same_new hp _) ?_⟩
    rw [hl]
    exact upd_same
theorem ok_Row_init (T : Txt K mg t)  : FnOk P w K mg base CX0 1 t.a_Row_init t.d_Row_init ["self", "lefts", "rights"] (sp_Row_init K t.k_Row) := by
  refine T.F_Row_init.ok sc_Row_init (fun vs H Q E h => ?_) (fun cdv A outer s H vs Q E hr h => ?_)
  · unfold sp_Row_init at h
    split at h
    · rfl
    · exact h.elim
  unfold sp_Row_init at h
  split at h
  rotate_left
  · exact h.elim
  refine ⟨_, (pss_cons (ps_fld (mv 0) (mv 1) rfl) (pss_cons (ps_fld (mv 0) (mv 2) rfl) (pss_one (ps_fld (mv 0) pe_int rfl)))), ?_⟩
  rename_i r a b
  obtain ⟨dr, hx, q⟩ := h
  walk_at "stp"
  refine ⟨r, _, dr, _, rfl, hx, T.cl_Row, T.no_Row_lefts, by simp, ?_⟩
  walk_at "stp"
  refine ⟨r, _, dr, _, rfl, upd_same, T.cl_Row, T.no_Row_rights, putF_lt nil_lt, ?_⟩
  walk_at "stp"
  refine ⟨r, _, dr, _, rfl, upd_same, T.cl_Row, T.no_Row_taken, putF_lt (putF_lt nil_lt), ?_⟩
  refine q _ (fun c o hc ho => ?_) upd_same
  rw [upd_ne hc, upd_ne hc, upd_ne hc]
  exact ho
theorem ok_Joining_init (T : Txt K mg t)  : FnOk P w K mg base CX0 1 t.a_Joining_init t.d_Joining_init ["self", "puts", "noted"] (sp_Joining_init K t.k_Joining) := by
  refine T.F_Joining_init.ok sc_Joining_init (fun vs H Q E h => ?_) (fun cdv A outer s H vs Q E hr h => ?_)
  · unfold sp_Joining_init at h
    split at h
    · rfl
    · exact h.elim
  unfold sp_Joining_init at h
  split at h
  rotate_left
  · exact h.elim
  refine ⟨_, (pss_cons (ps_fld (mv 0) (mv 1) rfl) (pss_cons (ps_fld (mv 0) (mv 2) rfl) (pss_cons (ps_fld (mv 0) (pe_lst pa_nil) rfl) (pss_one (ps_fld (mv 0) pe_dnewK rfl))))), ?_⟩
  rename_i j pd nl
  obtain ⟨dx, hx, q⟩ := h
  walk_at "stp"
  refine ⟨j, _, dx, _, rfl, hx, T.cl_Joining, T.no_Joining_puts, by simp, ?_⟩
  walk_at "stp"
  refine ⟨j, _, dx, _, rfl, upd_same, T.cl_Joining, T.no_Joining_noted, putF_lt nil_lt, ?_⟩
  walk_at "stp"
  refine ⟨Nat.zero_le _, fun rl hrl => ?_⟩
  have njr : j ≠ rl := fun z => by rw [← z, upd_same] at hrl; cases hrl
  have hrl0 : H rl = none := by rw [upd_ne (Ne.symm njr), upd_ne (Ne.symm njr)] at hrl; exact hrl
  walk_at "stp"
  refine ⟨j, _, dx, _, rfl, by rw [upd_ne njr]; exact upd_same, T.cl_Joining, T.no_Joining_rows, putF_lt (putF_lt nil_lt), ?_⟩
  walk_at "stp"
  intro md hmd
  have njm : j ≠ md := fun z => by rw [← z, upd_same] at hmd; cases hmd
  rw [upd_ne (Ne.symm njm)] at hmd
  have nrm : rl ≠ md := fun z => by rw [← z, upd_same] at hmd; cases hmd
  have hmd0 : H md = none := by rw [upd_ne (Ne.symm nrm), upd_ne (Ne.symm njm), upd_ne (Ne.symm njm)] at hmd; exact hmd
  walk_at "stp"
  refine ⟨j, _, dx, _, rfl, by rw [upd_ne njm]; exact upd_same, T.cl_Joining, T.no_Joining_met, putF_lt (putF_lt (putF_lt nil_lt)), ?_⟩
  refine q rl md _ hrl0 hmd0 nrm (fun c o hc ho => ?_) upd_same ?_ ?_
  · have c1 : c ≠ rl := ne_of_none ho hrl0
    have c2 : c ≠ md := ne_of_none ho hmd0
    rw [upd_ne hc, upd_ne c2, upd_ne hc, upd_ne c1, upd_ne hc, upd_ne hc]
    exact ho
  · rw [upd_ne (Ne.symm njr), upd_ne nrm, upd_ne (Ne.symm njr)]
    exact upd_same
  · rw [upd_ne (Ne.symm njm)]
    exact upd_same
end
section
variable {P : Program} {w : World} {K : PySem.W.Frag} {mg : Str → Option Value} {base : Heap} {t : Ad}
theorem ok_Joining_path (T : Txt K mg t)  : FnOk P w K mg base CX0 1 t.a_Joining_path t.d_Joining_path ["self"] (sp_Joining_path K t.k_Joining t.k_Row) := by
  refine T.F_Joining_path.ok sc_Joining_path (fun vs H Q E h => ?_) (fun cdv A outer s H vs Q E hr h => ?_)
  · unfold sp_Joining_path at h
    split at h
    · rfl
    · exact h.elim
  unfold sp_Joining_path at h
  split at h
  rotate_left
  · exact h.elim
  refine ⟨_, (pss_one (ps_ret (pe_callTy (kc_tuple K rfl) rfl T.n_tuple boot_tuple (pa_con (pe_comp rfl (kpi_list K rfl (pe_slice (ks_list K rfl) (pe_fld (mv 0) rfl) (mp_some pe_int) po_none)) (comp_sc (defScope s_Joining_path) ["self"] ["self"] rfl rfl (by decide +kernel)) (fun _ _ _ _ _ => pts_nil) (fun _ _ _ _ _ => (pe_op mo_sub (ke_fld K rfl (mv 0) rfl) pe_int))) pa_nil)))), ?_⟩
  rename_i j
  obtain ⟨H0, dx, pd, nl, rl, md, me, rows, rs, js, hl, q⟩ := h
  walk_at "stp"
  refine ⟨j, _, dx, _, _, rfl, js.o, T.cl_Joining, T.no_Joining_rows, lk_rows, ?_⟩
  walk_at "stp"
  refine ⟨rl, _, rfl, SqL.of js.rws, fun p hp => ?_⟩
  rw [cut_from _ 1 (by decide), show (rs.map fun q => V.ref q.r).drop (1 : Int).toNat = rs.tail.map fun q => V.ref q.r by rw [← List.map_drop]; simp]
  have sp : Same H (upd H p (.lst (rs.tail.map fun q => V.ref q.r))) := same_new hp _
  have kp : (upd H p (.lst (rs.tail.map fun q => V.ref q.r))) p = some (.lst (rs.tail.map fun q => V.ref q.r)) := upd_same
  generalize upd H p (.lst (rs.tail.map fun q => V.ref q.r)) = H1 at sp kp ⊢
  walk_at "stp"
  refine ⟨p, rfl, ⟨_, SqL.of kp⟩, fun D hD => ?_⟩
  have hlt : rs.tail.length ≤ 50 := by rw [List.length_tail]; omega
  refine comp_row (row_list (xs := rs.tail.map fun q => V.ref q.r)) (fun i ys H' => Same H1 H' ∧ ys = ((rs.tail.take i).map fun q => q.k - 1).map V.int ∧ H' D = some (.lst ys)) (ln (by rw [List.length_map]; omega)) ⟨same_new hD _, rfl, upd_same⟩ (fun i ys H' hP => SqL.of (hP.1 _ _ kp)) (fun i ys H' Q' hi hl' hP k => ?_) (fun ys H' hl' hP => ?_)
  · obtain ⟨g1, g2, g3⟩ := hP
    rw [List.length_map] at hi
    have hx : (rs.tail.map fun q => V.ref q.r).getD i .non = .ref (rs.tail[i]).r := by
      rw [List.getD_eq_getElem?_getD, List.getElem?_map, List.getElem?_eq_getElem hi]
      rfl
    rw [hx]
    have hm : rs.tail[i] ∈ rs := List.mem_of_mem_tail (List.getElem_mem hi)
    have ho := (sp.trans g1) _ _ (js.ro _ hm).1
    walk_at "stp"
    refine ⟨_, _, _, _, _, rfl, ho, T.cl_Row, T.no_Row_taken, lkr_taken, ?_⟩
    walk_at "stp"
    refine k _ _ g3 ⟨same_upd g1 hD, ?_, upd_same⟩
    rw [g2, List.take_add_one, List.getElem?_eq_getElem hi, List.map_append, List.map_append]
    rfl
  · obtain ⟨g1, g2, g3⟩ := hP
    rw [List.length_map, List.take_of_length_le (Nat.le_refl _)] at g2
    walk_at "stp"
    rw [g2] at g3
    refine ⟨D, _, rfl, .inl ⟨SqL.of g3, fun l hl2 => ?_⟩⟩
    exact q l _ ((sp.trans g1).trans (same_new hl2 _)) (SqT.of upd_same)
theorem ok_stands_within (T : Txt K mg t)  : FnOk P w K mg base CX0 1 t.a_stands_within t.d_stands_within ["name", "term", "puts"] (sp_stands_within K) := by
  refine T.F_stands_within.ok sc_stands_within (fun vs H Q E h => ?_) (fun cdv A outer s H vs Q E hr h => ?_)
  · unfold sp_stands_within at h
    split at h
    · rfl
    · exact h.elim
  unfold sp_stands_within at h
  split at h
  rotate_left
  · exact h.elim
  refine ⟨_, (pss_cons (ps_set (i := 3) sc_stands_within.nd rfl (by first | exact Or.inl rfl | exact Or.inr rfl) pe_dnewK) (pss_cons (ps_set (i := 4) (hs := sw_lst) sc_stands_within.nd rfl (by first | exact Or.inl rfl | exact Or.inr rfl) (pe_lst (pa_con (mv 1) pa_nil))) (pss_cons (ps_while PassesOwn.never (kt_tru K rfl (mv 4)) (pss_cons (ps_set (i := 5) (hs := sw_call) sc_stands_within.nd rfl (by first | exact Or.inl rfl | exact Or.inr rfl) (ke_bm0 K rfl PySem.F.plainAttrs_list PySem.F.slot_list_pop PySem.F.type_list_pop mm_pop (mv 4))) (pss_cons (ps_if (mt_cmp (ko_eqT K rfl (room150 hr)) (mv 5) (pe_tup (pa_con pe_str (pa_con (mv 0) pa_nil))) (nomark _)) (pss_one (ps_ret pe_bl)) pss_nil) (pss_one (ps_if (mt_cmp mo_eq (pe_ix (ki_seq K rfl) (mv 5) pe_int (fun _ _ => rfl)) pe_str (nomark _)) (pss_one (ps_expr (ke_bm K rfl PySem.F.plainAttrs_list PySem.F.slot_list_extend PySem.F.type_list_extend (km_extend K rfl) (mv 4) (pa_con (pe_ix (ki_seq K rfl) (mv 5) pe_int (fun _ _ => rfl)) pa_nil)))) (pss_one (ps_if (PW.pt (pw_and (mt_cmp mo_eq (pe_ix (ki_seq K rfl) (mv 5) pe_int (fun _ _ => rfl)) pe_str (nomark _)) (pw_and (mt_cmp (ko_inD (hu_of hr)) (pe_ix (ki_seq K rfl) (mv 5) pe_int (fun _ _ => rfl)) (mv 2) (by with_unfolding_all rfl)) (pw_and1 (mt_cmp (ko_ninD (hu_of hr)) (pe_ix (ki_seq K rfl) (mv 5) pe_int (fun _ _ => rfl)) (mv 3) (by with_unfolding_all rfl)))))) (pss_cons (ps_dput (hu_of hr) (mv 3) (pe_ix (ki_seq K rfl) (mv 5) pe_int (fun _ _ => rfl)) pe_bl rfl) (pss_one (ps_expr (ke_bm K rfl PySem.F.plainAttrs_list PySem.F.slot_list_append PySem.F.type_list_append mm_append (mv 4) (pa_con (pe_dget (hu_of hr) (mv 2) (pe_ix (ki_seq K rfl) (mv 5) pe_int (fun _ _ => rfl)) (fun _ _ => rfl)) pa_nil))))) pss_nil))))))) (pss_one (ps_ret pe_bl))))), ?_⟩
  rename_i x v pd
  obtain ⟨t0, rows, hd, hP, hc, q⟩ := h
  walk_at "stp"
  intro se hse
  have ss : Same H (upd H se (.dK [])) := same_new hse _
  generalize upd H se (.dK []) = Hs at ss ⊢
  walk_at "stp"
  refine ⟨ln (by show 1 ≤ 100000; decide), fun p hp => ?_⟩
  have sp : Same Hs (upd Hs p (.lst [v])) := same_new hp _
  have kp : (upd Hs p (.lst [v])) p = some (.lst [v]) := upd_same
  generalize upd Hs p (.lst [v]) = H1 at sp kp ⊢
  walk_at "stp"
  have s1 := ss.trans sp
  have hpH : H p = none := ss.free hp
  refine while_row (fun n σ' H' => ∃ (us : List V) (ts : List Trm) (o : Option V), σ' = [some (.str x), some v, some (.ref pd), some (.ref se), some (.ref p), o] ∧ H' p = some (.lst us) ∧ DenL K H' us (Trm.dataL ts) ∧ (∀ t ∈ ts, clean x rows t) ∧ Trm.sizeL ts ≤ 60 ∧ n = Trm.sizeL ts ∧ Same H H') t0.size ⟨[v], [t0], none, rfl, kp, .cons (hd.mono s1) .nil, fun t ht => by rw [List.mem_singleton.mp ht]; exact hc, ?_, by simp [Trm.sizeL], s1⟩ (fun n σ' H' R hP2 kT kF => ?_)
  · rcases hc with hc | ⟨y, rfl, _⟩
    · have := flat_size hc
      simp only [Trm.sizeL]
      omega
    · simp [Trm.sizeL, Trm.size]
  obtain ⟨us, ts, o, rfl, h1, h2, h3, h4, h5, h6⟩ := hP2
  walk_at "stp"
  refine .inl ⟨us, SqL.of h1, ?_⟩
  rcases nil_or_snoc' ts with rfl | ⟨ts0, t1, rfl⟩
  · have e := h2.nil_inv
    subst e
    refine kF H' ?_
    walk_at "stp"
    exact q H' h6
  rw [Trm.dataL_map, List.map_append, ← Trm.dataL_map] at h2
  obtain ⟨us', u, rfl, g1, g2⟩ := DenL.snoc h2
  rw [Trm.sizeL_app] at h4 h5
  have z1 : Trm.sizeL [t1] = t1.size := by simp [Trm.sizeL]
  rw [z1] at h4 h5
  have typ := t1.size_pos
  have hc1 := h3 t1 (by simp)
  rw [show (!(us' ++ [u]).isEmpty) = true by simp]
  refine kT H' (fun D' e1 e2 hnx hct => ?_)
  walk_at "stp"
  refine ⟨.inl ⟨rfl, _, SqL.of h1⟩, ?_⟩
  refine mPop_i h1 ?_
  have f3 : DenL K (upd H' p (.lst us')) us' (Trm.dataL ts0) := g1.lst h1
  have f4 : Den K (upd H' p (.lst us')) u t1.data := g2.lst h1
  have f5 : Same H (upd H' p (.lst us')) := same_upd h6 hpH
  have k6 : (upd H' p (.lst us')) p = some (.lst us') := upd_same
  generalize upd H' p (.lst us') = J at f3 f4 f5 k6 ⊢
  walk_at "stp"
  refine ⟨ln (by show 2 ≤ 100000; decide), fun pa hpa => ?_⟩
  have spa : Same J (upd J pa (.tup [.str (Str.ofString "any"), .str x])) := same_new hpa _
  have kpa : (upd J pa (.tup [.str (Str.ofString "any"), .str x])) pa = some (.tup [.str (Str.ofString "any"), .str x]) := upd_same
  generalize upd J pa (.tup [.str (Str.ofString "any"), .str x]) = J1 at spa kpa ⊢
  walk_at "stp"
  have hda : Den K J1 (.ref pa) (Trm.any x).data := .tup (SqT.of kpa) (.cons (.str _) (.cons (.str _) .nil))
  refine mEqT_i (f4.mono spa) hda (by omega) ?_
  rw [clean_eqb hc1, Bool.false_xor]
  walk_at "stp"
  refine iteF ?_
  have f3 := f3.mono spa
  have f4 := f4.mono spa
  have f5 := f5.trans spa
  have k6 := spa _ _ k6
  walk_at "stp"
  have hlen := f3.length
  rw [Trm.dataL_map, List.length_map] at hlen
  have hl2 := Trm.len_le ts0
  cases t1 with
  | num m =>
    obtain ⟨a, rfl, hs⟩ := den_num f4
    refine mIx_t hs (v := .str numS) rfl ?_
    walk_at "stp"
    rw [Bool.false_xor, q4]
    refine iteF ?_
    walk_at "stp"
    refine mIx_t hs (v := .str numS) rfl ?_
    walk_at "stp"
    rw [Bool.false_xor, q1]
    refine iteF ?_
    walk_at "stp"
    refine iteF ?_
    (with_reducible refine tNext_i ?_)
    exact hnx _ _ _ (by omega) ⟨us', ts0, _, rfl, k6, f3, fun t ht => h3 t (by simp [ht]), by omega, rfl, f5⟩
  | any y =>
    obtain ⟨a, rfl, hs⟩ := den_any f4
    have hy : lookR rows y = none := by
      rcases hc1 with z | ⟨y', e, _, z⟩
      · cases z
      · cases e; exact z
    refine mIx_t hs (v := .str anyS) rfl ?_
    walk_at "stp"
    rw [Bool.false_xor, q5]
    refine iteF ?_
    walk_at "stp"
    refine mIx_t hs (v := .str anyS) rfl ?_
    walk_at "stp"
    rw [Bool.false_xor, q3]
    refine iteT ?_
    walk_at "stp"
    refine mIx_t hs (v := .str y) rfl ?_
    walk_at "stp"
    rcases (hP.mono f5).get y with ⟨_, c2⟩ | ⟨_, _, c1, _⟩
    · refine ⟨pd, _, rfl, c2, ?_⟩
      walk_at "stp"
      refine iteF ?_
      walk_at "stp"
      refine iteF ?_
      (with_reducible refine tNext_i ?_)
      exact hnx _ _ _ (by omega) ⟨us', ts0, _, rfl, k6, f3, fun t ht => h3 t (by simp [ht]), by omega, rfl, f5⟩
    · rw [hy] at c1; cases c1
  | app sg ks =>
    obtain ⟨a, b, uk, rfl, hs, hb, hk⟩ := den_app f4
    have hfl : flatT (.app sg ks) = true := by
      rcases hc1 with z | ⟨y', e, _⟩
      · exact z
      · cases e
    obtain ⟨hlf, hln⟩ := flat_app hfl
    have hkk := Trm.len_le ks
    have hkl := hk.length
    rw [Trm.dataL_map, List.length_map] at hkl
    rw [Trm.size] at h4 h5
    refine mIx_t hs (v := .str appS) rfl ?_
    walk_at "stp"
    rw [Bool.false_xor, q6]
    refine iteT ?_
    walk_at "stp"
    refine ⟨.inl ⟨rfl, _, SqL.of k6⟩, ?_⟩
    walk_at "stp"
    refine mIx_t hs (v := .ref b) rfl ?_
    walk_at "stp"
    refine ⟨p, b, us', uk, rfl, rfl, k6, .inr hb, ln (by omega), ?_⟩
    refine hnx _ _ (Trm.sizeL (ts0 ++ ks)) (by rw [Trm.sizeL_app]; omega) ⟨us' ++ uk, ts0 ++ ks, _, rfl, upd_same, ?_, fun t ht => ?_, by rw [Trm.sizeL_app]; omega, rfl, same_upd f5 hpH⟩
    · rw [dataL_app]
      exact (f3.lst k6).append (hk.lst k6)
    · rcases List.mem_append.mp ht with z | z
      · exact h3 t (by simp [z])
      · exact .inl (hlf t z)
end
section
variable {P : Program} {w : World} {K : PySem.W.Frag} {mg : Str → Option Value} {base : Heap} {t : Ad}
theorem ok_Joining_put_for (T : Txt K mg t) (G_stands_within : FnOk P w K mg base CX0 1 t.a_stands_within t.d_stands_within ["name", "term", "puts"] (sp_stands_within K)) (G_Joining_path : FnOk P w K mg base CX0 1 t.a_Joining_path t.d_Joining_path ["self"] (sp_Joining_path K t.k_Joining t.k_Row)) : FnOk P w K mg base CX0 2 t.a_Joining_put_for t.d_Joining_put_for ["self", "name", "term"] (sp_Joining_put_for K t.k_Joining t.k_Row) := by
  refine T.F_Joining_put_for.ok sc_Joining_put_for (fun vs H Q E h => ?_) (fun cdv A outer s H vs Q E hr h => ?_)
  · unfold sp_Joining_put_for at h
    split at h
    · rfl
    · exact h.elim
  unfold sp_Joining_put_for at h
  split at h
  rotate_left
  · exact h.elim
  refine ⟨_, (pss_cons (ps_if (kt_tru K rfl (pe_call G_stands_within (hr.mono (by first | decide | omega)) rfl T.m_stands_within T.F_stands_within.kp T.b_stands_within .nil pass0 (pa_con (mv 1) (pa_con (mv 2) (pa_con (pe_fld (mv 0) rfl) pa_nil))))) (pss_one (ps_ret (pe_tup (pa_con pe_str (pa_con (pe_meth0 (mv 0) T.cl_Joining T.me_Joining_path G_Joining_path (hr.mono (by first | decide | omega)) T.b_Joining_path .nil pass0) (pa_con (mv 1) pa_nil)))))) pss_nil) (pss_cons (ps_dput (hu_of hr) (pe_fld (mv 0) rfl) (mv 1) (mv 2) rfl) (pss_cons (ps_expr (ke_bm K rfl PySem.F.plainAttrs_list PySem.F.slot_list_append PySem.F.type_list_append mm_append (pe_fld (mv 0) rfl) (pa_con (mv 1) pa_nil))) (pss_one (ps_ret pe_non))))), ?_⟩
  rename_i j x v
  obtain ⟨H0, dx, pd, nl, rl, md, me, rows, rs, t0, js, hd, hc, hn, hl, q⟩ := h
  walk_at "stp"
  refine ⟨j, _, dx, _, _, rfl, js.o, T.cl_Joining, T.no_Joining_puts, lk_puts, ?_⟩
  walk_at "stp"
  refine ⟨t0, rows, hd, js.put, hc, fun H1 s1 => ?_⟩
  have js1 := js.same s1
  walk_at "stp"
  refine iteF ?_
  walk_at "stp"
  refine ⟨j, _, dx, _, _, rfl, js1.o, T.cl_Joining, T.no_Joining_puts, lk_puts, ?_⟩
  walk_at "stp"
  obtain ⟨kvs, e0, ok⟩ := js1.put.ex
  have hkl := ok.len
  refine ⟨pd, _, rfl, .inl ⟨kvs, .inr x, e0, rfl, ln1 (by omega), rfl⟩, ?_⟩
  have hpl : (putR rows x t0).length = rows.length + 1 := by rw [putR_new (look_out hn)]; simp
  obtain ⟨js2, kt2⟩ := js1.upd_pd (ok.put (x := x) (v := v) (t := t0) (hd.mono s1)) (by omega)
  obtain ⟨ns, e1, e2⟩ := js1.note
  have e3 : (upd H1 pd (.dK (putK kvs (Sum.inr x) v))) nl = some (.lst ns) := by rw [upd_ne (ne_of e1 e0 (fun z => by cases z))]; exact e1
  generalize upd H1 pd (.dK (putK kvs (Sum.inr x) v)) = H2 at js2 kt2 e3 ⊢
  walk_at "stp"
  refine ⟨j, _, dx, _, _, rfl, js2.o, T.cl_Joining, T.no_Joining_noted, lk_noted, ?_⟩
  walk_at "stp"
  refine ⟨.inl ⟨rfl, _, SqL.of e3⟩, ?_⟩
  walk_at "stp"
  refine mAppend_i e3 (ln1 (by omega)) ?_
  obtain ⟨js3, kt3⟩ := js2.upd_nl (ns := ns ++ [.str x]) (by rw [List.length_append, List.length_singleton]; omega)
  walk_at "stp"
  exact q _ ((KT.same s1).trans (kt2.trans kt3)) js3
theorem ok_Joining_begin_kids (T : Txt K mg t) (G_Row_init : FnOk P w K mg base CX0 1 t.a_Row_init t.d_Row_init ["self", "lefts", "rights"] (sp_Row_init K t.k_Row)) : FnOk P w K mg base CX0 3 t.a_Joining_begin_kids t.d_Joining_begin_kids ["self", "left", "right"] (sp_Joining_begin_kids K t.k_Joining t.k_Row) := by
  refine T.F_Joining_begin_kids.ok sc_Joining_begin_kids (fun vs H Q E h => ?_) (fun cdv A outer s H vs Q E hr h => ?_)
  · unfold sp_Joining_begin_kids at h
    split at h
    · rfl
    · exact h.elim
  unfold sp_Joining_begin_kids at h
  split at h
  rotate_left
  · exact h.elim
  refine ⟨_, (pss_one (ps_if (mt_cmp (ko_ninE K rfl (room150 hr)) (pe_tup (pa_con (mv 1) (pa_con (mv 2) pa_nil))) (pe_fld (mv 0) rfl) (by with_unfolding_all rfl)) (pss_cons (ps_asg pe_bl (pg_sub (pe_fld (mv 0) rfl) (pe_tup (pa_con (mv 1) (pa_con (mv 2) pa_nil))) (set_hash K rfl (room150 hr)))) (pss_one (ps_expr (ke_bm K rfl PySem.F.plainAttrs_list PySem.F.slot_list_append PySem.F.type_list_append mm_append (pe_fld (mv 0) rfl) (pa_con (pe_make T.mk_Row G_Row_init (hr.mono (by first | decide | omega)) rfl T.m_Row T.b_Row_init .nil pass0 (pa_con (pe_ix (ki_seq K rfl) (mv 1) pe_int (fun _ _ => rfl)) (pa_con (pe_ix (ki_seq K rfl) (mv 2) pe_int (fun _ _ => rfl)) pa_nil))) pa_nil))))) pss_nil)), ?_⟩
  rename_i j v v'
  obtain ⟨H0, dx, pd, nl, rl, md, rows, rs, s1, ks, s2, ls, js, hd, hd', hz, hz', hl, q⟩ := h
  walk_at "stp"
  refine ⟨ln (by show 2 ≤ 100000; decide), fun p1 hp1 => ?_⟩
  have sp1 : Same H (upd H p1 (.tup [v, v'])) := same_new hp1 _
  have kp1 : (upd H p1 (.tup [v, v'])) p1 = some (.tup [v, v']) := upd_same
  generalize upd H p1 (.tup [v, v']) = H1 at sp1 kp1 ⊢
  walk_at "stp"
  have js1 := js.same sp1
  refine ⟨j, _, dx, _, _, rfl, js1.o, T.cl_Joining, T.no_Joining_met, lk_met, ?_⟩
  walk_at "stp"
  obtain ⟨om, m1, _, _, _, _, m2⟩ := js1.md0
  have m2 := m2 rfl
  subst m2
  have hp : Den K H1 (.ref p1) (.tuple [(Trm.app s1 ks).data, (Trm.app s2 ls).data]) := .tup (SqT.of kp1) (.cons (hd.mono sp1) (.cons (hd'.mono sp1) .nil))
  refine ⟨p1, md, _, rfl, rfl, m1, hp, pair_hashy _ _, pair_depth hz hz', ?_⟩
  walk_at "stp"
  refine iteT ?_
  walk_at "stp"
  refine ⟨j, _, dx, _, _, rfl, js1.o, T.cl_Joining, T.no_Joining_met, lk_met, ?_⟩
  walk_at "stp"
  refine ⟨ln (by show 2 ≤ 100000; decide), fun p2 hp2 => ?_⟩
  have sp2 : Same H1 (upd H1 p2 (.tup [v, v'])) := same_new hp2 _
  have kp2 : (upd H1 p2 (.tup [v, v'])) p2 = some (.tup [v, v']) := upd_same
  generalize upd H1 p2 (.tup [v, v']) = H2 at sp2 kp2 ⊢
  walk_at "stp"
  have js2 := js1.same sp2
  have hp2 : Den K H2 (.ref p2) (.tuple [(Trm.app s1 ks).data, (Trm.app s2 ls).data]) := .tup (SqT.of kp2) (.cons (hd.mono (sp1.trans sp2)) (.cons (hd'.mono (sp1.trans sp2)) .nil))
  refine ⟨md, p2, _, rfl, rfl, sp2 _ _ m1, hp2, pair_hashy _ _, pair_depth hz hz', ?_⟩
  obtain ⟨js3, kt3⟩ := js2.upd_md (om := OpD md) (fun _ z => by cases z) (fun _ z => by cases z) (fun _ _ z => by cases z) (fun _ _ _ z => by cases z)
  generalize upd H2 md (OpD md) = H3 at js3 kt3 ⊢
  have kt03 : KT K H H3 := (KT.same (sp1.trans sp2)).trans kt3
  obtain ⟨a1, b1, us1, rfl, a2, a3, a4⟩ := den_app (hd.monoT kt03)
  obtain ⟨c1, d1, us2, rfl, c2, c3, c4⟩ := den_app (hd'.monoT kt03)
  walk_at "stp"
  refine ⟨j, _, dx, _, _, rfl, js3.o, T.cl_Joining, T.no_Joining_rows, lk_rows, ?_⟩
  walk_at "stp"
  refine ⟨.inl ⟨rfl, _, SqL.of js3.rws⟩, ?_⟩
  walk_at "stp"
  refine mIx_t a2 (v := .ref b1) rfl ?_
  walk_at "stp"
  refine mIx_t c2 (v := .ref d1) rfl ?_
  walk_at "stp"
  refine fun r dr hr1 hr2 hne => ?_
  refine ⟨dr, upd_same, fun H4 bt ho => ⟨rfl, ?_⟩⟩
  have s4 : Same H3 H4 := same_made hr1 hr2 bt
  have js4 := js3.same s4
  have hr0 : H0 r = none := js3.sm.free hr1
  have hrj : r ≠ j := Ne.symm (ne_of_none js3.o hr1)
  walk_at "stp"
  refine mAppend_i js4.rws (ln1 (by rw [List.length_map]; omega)) ?_
  have er : ((rs.map fun q => V.ref q.r) ++ [V.ref r]) = (rs ++ [(⟨r, dr, .ref b1, .ref d1, 0⟩ : RwO)]).map fun q => V.ref q.r := by simp
  rw [er]
  obtain ⟨js5, kt5⟩ := js4.upd_rl (rs' := rs ++ [⟨r, dr, .ref b1, .ref d1, 0⟩]) (fun q hq => by
    rcases List.mem_append.mp hq with z | z
    · exact js4.ro q z
    · rw [List.mem_singleton.mp z]
      exact ⟨ho, hr0, hrj⟩) (by
    rw [List.map_append, List.nodup_append]
    refine ⟨js4.nd, by simp, fun x hx y hy e => ?_⟩
    obtain ⟨q, hq, rfl⟩ := List.mem_map.mp hx
    have hy : y = r := by simpa using hy
    rw [hy] at e
    have := (js3.ro q hq).1
    rw [e, hr1] at this
    cases this)
  have kt35 : KT K H3 _ := (KT.same s4).trans kt5
  exact q _ r dr b1 d1 us1 us2 (kt03.trans kt35) js5 (kt35 _ _ a3) (a4.monoT kt35) (kt35 _ _ c3) (c4.monoT kt35)
end
section
variable {P : Program} {w : World} {K : PySem.W.Frag} {mg : Str → Option Value} {base : Heap} {t : Ad}
theorem pl_num {rows : Rws} {n : Int} {r : Trm} (h : flatT r = true) (e : eqb (.num n) r = false) : pl2 rows (.num n) r = .part (keyL (.num n)) (keyL r) ∧ keyL (.num n) ≠ keyL r := by
  cases r with
  | any x => cases h
  | num m =>
    refine ⟨by rw [pl2, if_neg (by rw [e]; exact Bool.false_ne_true)]; rfl, fun z => ?_⟩
    have e : decide (n = m) = false := e
    have z : ([Sum.inr numS, Sum.inl n] : List Key) = [Sum.inr numS, Sum.inl m] := z
    simp at z
    exact of_decide_eq_false e z
  | app s ks =>
    refine ⟨by rw [pl2, if_neg (by rw [e]; exact Bool.false_ne_true)]; rfl, fun z => ?_⟩
    have z : ([Sum.inr numS, Sum.inl n] : List Key) = [Sum.inr appS, Sum.inr s, Sum.inl (ks.length : Int)] := z
    simp at z
theorem pl_app {rows : Rws} {s : Str} {ks : List Trm} {r : Trm} (h : flatT r = true) (e : eqb (.app s ks) r = false) : (pl2 rows (.app s ks) r = .part (keyL (.app s ks)) (keyL r) ∧ keyL (.app s ks) ≠ keyL r) ∨ ∃ ls, r = .app s ls ∧ ks.length = ls.length ∧ pl2 rows (.app s ks) r = .kids s ks ls := by
  cases r with
  | any x => cases h
  | num m =>
    refine .inl ⟨by rw [pl2, if_neg (by rw [e]; exact Bool.false_ne_true)]; rfl, fun z => ?_⟩
    have z : ([Sum.inr appS, Sum.inr s, Sum.inl (ks.length : Int)] : List Key) = [Sum.inr numS, Sum.inl m] := z
    simp at z
  | app s' ls =>
    have e1 : pl2 rows (.app s ks) (.app s' ls) = if s = s' ∧ ks.length = ls.length then .kids s ks ls else .part (keyL (.app s ks)) (keyL (.app s' ls)) := by rw [pl2, if_neg (by rw [e]; exact Bool.false_ne_true)]; rfl
    by_cases hc : s = s' ∧ ks.length = ls.length
    · obtain ⟨rfl, hc2⟩ := hc
      exact .inr ⟨ls, rfl, hc2, by rw [e1, if_pos ⟨rfl, hc2⟩]⟩
    · refine .inl ⟨by rw [e1, if_neg hc], fun z => hc ?_⟩
      have z : ([Sum.inr appS, Sum.inr s, Sum.inl (ks.length : Int)] : List Key) = [Sum.inr appS, Sum.inr s', Sum.inl (ls.length : Int)] := z
      simp only [List.cons.injEq, Sum.inr.injEq, Sum.inl.injEq, and_true, true_and] at z
      exact ⟨z.1, by have := z.2; omega⟩
theorem key_app {s : Str} {ks ls : List Trm} (h : ks.length = ls.length) : keyL (.app s ks) = keyL (.app s ls) := by
  show ([Sum.inr appS, Sum.inr s, Sum.inl (ks.length : Int)] : List Key) = [Sum.inr appS, Sum.inr s, Sum.inl (ls.length : Int)]
  rw [h]
theorem neq_t {a b : List Key} (h : a ≠ b) : (!decide (a = b)) = true := by rw [decide_eq_false h]; rfl
theorem ok_Joining_join_place (T : Txt K mg t) (G_walked : FnOk P w K mg base CX0 1 t.a_walked t.d_walked ["term", "puts"] (sp_walked K)) (G_Joining_begin_kids : FnOk P w K mg base CX0 3 t.a_Joining_begin_kids t.d_Joining_begin_kids ["self", "left", "right"] (sp_Joining_begin_kids K t.k_Joining t.k_Row)) (G_Joining_put_for : FnOk P w K mg base CX0 2 t.a_Joining_put_for t.d_Joining_put_for ["self", "name", "term"] (sp_Joining_put_for K t.k_Joining t.k_Row)) (G_key_of : FnOk P w K mg base CX0 1 t.a_key_of t.d_key_of ["term"] (sp_key_of K)) (G_Joining_path : FnOk P w K mg base CX0 1 t.a_Joining_path t.d_Joining_path ["self"] (sp_Joining_path K t.k_Joining t.k_Row)) : FnOk P w K mg base CX0 4 t.a_Joining_join_place t.d_Joining_join_place ["self", "one", "other"] (sp_Joining_join_place K t.k_Joining t.k_Row) := by
  refine T.F_Joining_join_place.ok sc_Joining_join_place (fun vs H Q E h => ?_) (fun cdv A outer s H vs Q E hr h => ?_)
  · unfold sp_Joining_join_place at h
    split at h
    · rfl
    · exact h.elim
  unfold sp_Joining_join_place at h
  split at h
  rotate_left
  · exact h.elim
  refine ⟨_, (pss_cons (ps_set (i := 3) (hs := sw_call) sc_Joining_join_place.nd rfl (by first | exact Or.inl rfl | exact Or.inr rfl) (pe_call G_walked (hr.mono (by first | decide | omega)) rfl T.m_walked T.F_walked.kp T.b_walked .nil pass0 (pa_con (mv 1) (pa_con (pe_fld (mv 0) rfl) pa_nil)))) (pss_cons (ps_set (i := 4) (hs := sw_call) sc_Joining_join_place.nd rfl (by first | exact Or.inl rfl | exact Or.inr rfl) (pe_call G_walked (hr.mono (by first | decide | omega)) rfl T.m_walked T.F_walked.kp T.b_walked .nil pass0 (pa_con (mv 2) (pa_con (pe_fld (mv 0) rfl) pa_nil)))) (pss_cons (ps_if (mt_cmp (ko_eqT K rfl (room150 hr)) (mv 3) (mv 4) (nomark _)) (pss_one (ps_ret pe_non)) pss_nil) (pss_cons (ps_if (mt_cmp mo_eq (pe_ix (ki_seq K rfl) (mv 3) pe_int (fun _ _ => rfl)) pe_str (nomark _)) (pss_one (ps_ret (pe_meth (mv 0) T.cl_Joining T.me_Joining_put_for G_Joining_put_for (hr.mono (by first | decide | omega)) T.b_Joining_put_for .nil pass0 (pa_con (pe_ix (ki_seq K rfl) (mv 3) pe_int (fun _ _ => rfl)) (pa_con (mv 4) pa_nil))))) pss_nil) (pss_cons (ps_if (mt_cmp mo_eq (pe_ix (ki_seq K rfl) (mv 4) pe_int (fun _ _ => rfl)) pe_str (nomark _)) (pss_one (ps_ret (pe_meth (mv 0) T.cl_Joining T.me_Joining_put_for G_Joining_put_for (hr.mono (by first | decide | omega)) T.b_Joining_put_for .nil pass0 (pa_con (pe_ix (ki_seq K rfl) (mv 4) pe_int (fun _ _ => rfl)) (pa_con (mv 3) pa_nil))))) pss_nil) (pss_cons (ps_if (mt_cmp (ko_neKs K rfl (room150 hr)) (pe_call G_key_of (hr.mono (by first | decide | omega)) rfl T.m_key_of T.F_key_of.kp T.b_key_of .nil pass0 (pa_con (mv 3) pa_nil)) (pe_call G_key_of (hr.mono (by first | decide | omega)) rfl T.m_key_of T.F_key_of.kp T.b_key_of .nil pass0 (pa_con (mv 4) pa_nil)) (nomark _)) (pss_one (ps_ret (pe_tup (pa_con pe_str (pa_con (pe_meth0 (mv 0) T.cl_Joining T.me_Joining_path G_Joining_path (hr.mono (by first | decide | omega)) T.b_Joining_path .nil pass0) (pa_con (pe_call G_key_of (hr.mono (by first | decide | omega)) rfl T.m_key_of T.F_key_of.kp T.b_key_of .nil pass0 (pa_con (mv 3) pa_nil)) (pa_con (pe_call G_key_of (hr.mono (by first | decide | omega)) rfl T.m_key_of T.F_key_of.kp T.b_key_of .nil pass0 (pa_con (mv 4) pa_nil)) pa_nil))))))) pss_nil) (pss_cons (ps_expr (pe_meth (mv 0) T.cl_Joining T.me_Joining_begin_kids G_Joining_begin_kids (hr.mono (by first | decide | omega)) T.b_Joining_begin_kids .nil pass0 (pa_con (mv 3) (pa_con (mv 4) pa_nil)))) (pss_one (ps_ret pe_non))))))))), ?_⟩
  rename_i j v v'
  obtain ⟨H0, dx, pd, nl, rl, md, me, rows, rs, t0, t1, js, hF, hd, hd', ha, ha', hln, q⟩ := h
  have hrl := hF.len
  walk_at "stp"
  refine ⟨j, _, dx, _, _, rfl, js.o, T.cl_Joining, T.no_Joining_puts, lk_puts, ?_⟩
  walk_at "stp"
  obtain ⟨n0, w0⟩ := hF.walk (t := t0)
  refine ⟨rows, t0, n0, _, js.put, hd, w0, fun vl dl => ?_⟩
  walk_at "stp"
  refine ⟨j, _, dx, _, _, rfl, js.o, T.cl_Joining, T.no_Joining_puts, lk_puts, ?_⟩
  walk_at "stp"
  obtain ⟨n1, w1⟩ := hF.walk (t := t1)
  refine ⟨rows, t1, n1, _, js.put, hd', w1, fun vr dR => ?_⟩
  have al := hF.wk_af ha
  have ar := hF.wk_af ha'
  have nl0 : ∀ y, wk rows t0 = .any y → lookR rows y = none := fun y e => hF.wk_any e
  have nr0 : ∀ y, wk rows t1 = .any y → lookR rows y = none := fun y e => hF.wk_any e
  generalize wk rows t0 = L at *
  generalize wk rows t1 = R at *
  have dL := dl
  have zl := af_size al
  have zr := af_size ar
  walk_at "stp"
  refine mEqT_i dL dR (by omega) ?_
  rw [Bool.false_xor]
  walk_at "stp"
  refine iteB (fun e => ?_) (fun e => ?_)
  · walk_at "stp"
    rw [pl2, if_pos e] at q
    exact q H (KT.refl H) js
  have e' : ¬ eqb L R = true := by rw [e]; exact Bool.false_ne_true
  walk_at "stp"
  cases L with
  | any x =>
    obtain ⟨a, rfl, hs⟩ := den_any dL
    refine mIx_t hs (v := .str anyS) rfl ?_
    walk_at "stp"
    rw [Bool.false_xor, q3]
    refine iteT ?_
    walk_at "stp"
    refine ⟨j, dx, _, rfl, js.o, lk_no (by decide +kernel), ?_⟩
    walk_at "stp"
    refine mIx_t hs (v := .str x) rfl ?_
    walk_at "stp"
    have hq : pl2 rows (.any x) R = .go (putR rows x R) := by rw [pl2, if_neg e']; rfl
    rw [hq] at q
    refine ⟨H0, dx, pd, nl, rl, md, me, rows, rs, R, js, dR, ?_, nl0 x rfl, hrl, fun H1 k1 js1 => ?_⟩
    · cases R with
      | any y => exact .inr ⟨y, rfl, fun z => e' (by rw [z]; exact decide_eq_true rfl), nr0 y rfl⟩
      | num n => exact .inl rfl
      | app s ks => exact .inl ar
    · walk_at "stp"
      exact q H1 k1 js1
  | num n =>
    obtain ⟨a, rfl, hs⟩ := den_num dL
    refine mIx_t hs (v := .str numS) rfl ?_
    walk_at "stp"
    rw [Bool.false_xor, q1]
    refine iteF ?_
    walk_at "stp"
    cases R with
    | any y =>
      obtain ⟨a2, rfl, hs2⟩ := den_any dR
      refine mIx_t hs2 (v := .str anyS) rfl ?_
      walk_at "stp"
      rw [Bool.false_xor, q3]
      refine iteT ?_
      walk_at "stp"
      refine ⟨j, dx, _, rfl, js.o, lk_no (by decide +kernel), ?_⟩
      walk_at "stp"
      refine mIx_t hs2 (v := .str y) rfl ?_
      walk_at "stp"
      have hq : pl2 rows (.num n) (.any y) = .go (putR rows y (.num n)) := by rw [pl2, if_neg e']; rfl
      rw [hq] at q
      exact ⟨H0, dx, pd, nl, rl, md, me, rows, rs, _, js, dL, .inl rfl, nr0 y rfl, hrl, fun H1 k1 js1 => q H1 k1 js1⟩
    | num m =>
      obtain ⟨hpl, hne⟩ := pl_num (rows := rows) (r := .num m) rfl e
      have fL : flatT (.num n) = true := rfl
      have fR : flatT (.num m) = true := rfl
      obtain ⟨a2, rfl, hs2⟩ := den_num dR
      refine mIx_t hs2 (v := .str numS) rfl ?_
      walk_at "stp"
      rw [Bool.false_xor, q1]
      refine iteF ?_
      walk_at "stp"
      refine ⟨.num n, dL, ?_⟩
      rw [keyK_some fL]
      refine fun k1 J1 t1 e1 => ?_
      walk_at "stp"
      refine ⟨.num m, dR.mono t1, ?_⟩
      rw [keyK_some fR]
      refine fun k2 J2 t2 e2 => ?_
      have js2 := js.same (t1.trans t2)
      refine ⟨k1, keyL (.num n), rfl, SqT.of (t2 _ _ e1), .inr ⟨k2, keyL (.num m), rfl, SqT.of e2, ?_⟩⟩
      walk_at "stp"
      refine iteB (fun e => ?_) (fun e => absurd e (by rw [neq_t hne]; exact fun z => by cases z))
      walk_at "stp"
      refine ⟨j, dx, _, rfl, js2.o, lk_no (by decide +kernel), ?_⟩
      walk_at "stp"
      refine ⟨H0, dx, pd, nl, rl, md, me, rows, rs, js2, hln, fun p3 J3 t3 e3 => ?_⟩
      walk_at "stp"
      have t03 := t1.trans (t2.trans t3)
      refine ⟨.num n, dL.mono t03, ?_⟩
      rw [keyK_some fL]
      refine fun k4 J4 t4 e4 => ?_
      walk_at "stp"
      refine ⟨.num m, dR.mono (t03.trans t4), ?_⟩
      rw [keyK_some fR]
      refine fun k5 J5 t5 e5 => ?_
      walk_at "stp"
      refine ⟨ln (by show 4 ≤ 100000; decide), fun p6 hp6 => ?_⟩
      have t05 := t03.trans (t4.trans t5)
      have t6 := same_new hp6 (.tup [.str (Str.ofString "part"), .ref p3, .ref k4, .ref k5])
      rw [hpl] at q
      refine q _ _ (KT.same (t05.trans t6)) (js.same (t05.trans t6)) (.tup (SqT.of upd_same) (.cons (.str _) (.cons (.tup ((t4.trans (t5.trans t6)).tup e3) (ints_den _)) (.cons (key_den (SqT.of ((t5.trans t6) _ _ e4))) (.cons (key_den (SqT.of (t6 _ _ e5))) .nil)))))
    | app s2 ls =>
      obtain ⟨hpl, hne⟩ := pl_num (rows := rows) (r := .app s2 ls) ar e
      have fL : flatT (.num n) = true := rfl
      have fR : flatT (.app s2 ls) = true := ar
      obtain ⟨a2, b2, us2, rfl, hs2, hb2, hk2⟩ := den_app dR
      refine mIx_t hs2 (v := .str appS) rfl ?_
      walk_at "stp"
      rw [Bool.false_xor, q2]
      refine iteF ?_
      walk_at "stp"
      refine ⟨.num n, dL, ?_⟩
      rw [keyK_some fL]
      refine fun k1 J1 t1 e1 => ?_
      walk_at "stp"
      refine ⟨.app s2 ls, dR.mono t1, ?_⟩
      rw [keyK_some fR]
      refine fun k2 J2 t2 e2 => ?_
      have js2 := js.same (t1.trans t2)
      refine ⟨k1, keyL (.num n), rfl, SqT.of (t2 _ _ e1), .inr ⟨k2, keyL (.app s2 ls), rfl, SqT.of e2, ?_⟩⟩
      walk_at "stp"
      refine iteB (fun e => ?_) (fun e => absurd e (by rw [neq_t hne]; exact fun z => by cases z))
      walk_at "stp"
      refine ⟨j, dx, _, rfl, js2.o, lk_no (by decide +kernel), ?_⟩
      walk_at "stp"
      refine ⟨H0, dx, pd, nl, rl, md, me, rows, rs, js2, hln, fun p3 J3 t3 e3 => ?_⟩
      walk_at "stp"
      have t03 := t1.trans (t2.trans t3)
      refine ⟨.num n, dL.mono t03, ?_⟩
      rw [keyK_some fL]
      refine fun k4 J4 t4 e4 => ?_
      walk_at "stp"
      refine ⟨.app s2 ls, dR.mono (t03.trans t4), ?_⟩
      rw [keyK_some fR]
      refine fun k5 J5 t5 e5 => ?_
      walk_at "stp"
      refine ⟨ln (by show 4 ≤ 100000; decide), fun p6 hp6 => ?_⟩
      have t05 := t03.trans (t4.trans t5)
      have t6 := same_new hp6 (.tup [.str (Str.ofString "part"), .ref p3, .ref k4, .ref k5])
      rw [hpl] at q
      refine q _ _ (KT.same (t05.trans t6)) (js.same (t05.trans t6)) (.tup (SqT.of upd_same) (.cons (.str _) (.cons (.tup ((t4.trans (t5.trans t6)).tup e3) (ints_den _)) (.cons (key_den (SqT.of ((t5.trans t6) _ _ e4))) (.cons (key_den (SqT.of (t6 _ _ e5))) .nil)))))
  | app s1 ks =>
    obtain ⟨a, b1, us1, rfl, hs, hb1, hk1⟩ := den_app dL
    refine mIx_t hs (v := .str appS) rfl ?_
    walk_at "stp"
    rw [Bool.false_xor, q2]
    refine iteF ?_
    walk_at "stp"
    have fL : flatT (.app s1 ks) = true := al
    cases R with
    | any y =>
      obtain ⟨a2, rfl, hs2⟩ := den_any dR
      refine mIx_t hs2 (v := .str anyS) rfl ?_
      walk_at "stp"
      rw [Bool.false_xor, q3]
      refine iteT ?_
      walk_at "stp"
      refine ⟨j, dx, _, rfl, js.o, lk_no (by decide +kernel), ?_⟩
      walk_at "stp"
      refine mIx_t hs2 (v := .str y) rfl ?_
      walk_at "stp"
      have hq : pl2 rows (.app s1 ks) (.any y) = .go (putR rows y (.app s1 ks)) := by rw [pl2, if_neg e']; rfl
      rw [hq] at q
      exact ⟨H0, dx, pd, nl, rl, md, me, rows, rs, _, js, dL, .inl al, nr0 y rfl, hrl, fun H1 k1 js1 => q H1 k1 js1⟩
    | num m =>
      have fR : flatT (.num m) = true := rfl
      rcases pl_app (rows := rows) fR e with ⟨hpl, hne⟩ | ⟨ls, z, _⟩
      rotate_left
      · cases z
      obtain ⟨a2, rfl, hs2⟩ := den_num dR
      refine mIx_t hs2 (v := .str numS) rfl ?_
      walk_at "stp"
      rw [Bool.false_xor, q1]
      refine iteF ?_
      walk_at "stp"
      refine ⟨.app s1 ks, dL, ?_⟩
      rw [keyK_some fL]
      refine fun k1 J1 t1 e1 => ?_
      walk_at "stp"
      refine ⟨.num m, dR.mono t1, ?_⟩
      rw [keyK_some fR]
      refine fun k2 J2 t2 e2 => ?_
      have js2 := js.same (t1.trans t2)
      refine ⟨k1, keyL (.app s1 ks), rfl, SqT.of (t2 _ _ e1), .inr ⟨k2, keyL (.num m), rfl, SqT.of e2, ?_⟩⟩
      walk_at "stp"
      refine iteB (fun e => ?_) (fun e => absurd e (by rw [neq_t hne]; exact fun z => by cases z))
      walk_at "stp"
      refine ⟨j, dx, _, rfl, js2.o, lk_no (by decide +kernel), ?_⟩
      walk_at "stp"
      refine ⟨H0, dx, pd, nl, rl, md, me, rows, rs, js2, hln, fun p3 J3 t3 e3 => ?_⟩
      walk_at "stp"
      have t03 := t1.trans (t2.trans t3)
      refine ⟨.app s1 ks, dL.mono t03, ?_⟩
      rw [keyK_some fL]
      refine fun k4 J4 t4 e4 => ?_
      walk_at "stp"
      refine ⟨.num m, dR.mono (t03.trans t4), ?_⟩
      rw [keyK_some fR]
      refine fun k5 J5 t5 e5 => ?_
      walk_at "stp"
      refine ⟨ln (by show 4 ≤ 100000; decide), fun p6 hp6 => ?_⟩
      have t05 := t03.trans (t4.trans t5)
      have t6 := same_new hp6 (.tup [.str (Str.ofString "part"), .ref p3, .ref k4, .ref k5])
      rw [hpl] at q
      refine q _ _ (KT.same (t05.trans t6)) (js.same (t05.trans t6)) (.tup (SqT.of upd_same) (.cons (.str _) (.cons (.tup ((t4.trans (t5.trans t6)).tup e3) (ints_den _)) (.cons (key_den (SqT.of ((t5.trans t6) _ _ e4))) (.cons (key_den (SqT.of (t6 _ _ e5))) .nil)))))
    | app s2 ls =>
      have fR : flatT (.app s2 ls) = true := ar
      obtain ⟨a2, b2, us2, rfl, hs2, hb2, hk2⟩ := den_app dR
      refine mIx_t hs2 (v := .str appS) rfl ?_
      walk_at "stp"
      rw [Bool.false_xor, q2]
      refine iteF ?_
      walk_at "stp"
      refine ⟨.app s1 ks, dL, ?_⟩
      rw [keyK_some fL]
      refine fun k1 J1 t1 e1 => ?_
      walk_at "stp"
      refine ⟨.app s2 ls, dR.mono t1, ?_⟩
      rw [keyK_some fR]
      refine fun k2 J2 t2 e2 => ?_
      have js2 := js.same (t1.trans t2)
      refine ⟨k1, keyL (.app s1 ks), rfl, SqT.of (t2 _ _ e1), .inr ⟨k2, keyL (.app s2 ls), rfl, SqT.of e2, ?_⟩⟩
      walk_at "stp"
      rcases pl_app (rows := rows) fR e with ⟨hpl, hne⟩ | ⟨ls', z, hlen, hpl⟩
      · refine iteB (fun e => ?_) (fun e => absurd e (by rw [neq_t hne]; exact fun z => by cases z))
        walk_at "stp"
        refine ⟨j, dx, _, rfl, js2.o, lk_no (by decide +kernel), ?_⟩
        walk_at "stp"
        refine ⟨H0, dx, pd, nl, rl, md, me, rows, rs, js2, hln, fun p3 J3 t3 e3 => ?_⟩
        walk_at "stp"
        have t03 := t1.trans (t2.trans t3)
        refine ⟨.app s1 ks, dL.mono t03, ?_⟩
        rw [keyK_some fL]
        refine fun k4 J4 t4 e4 => ?_
        walk_at "stp"
        refine ⟨.app s2 ls, dR.mono (t03.trans t4), ?_⟩
        rw [keyK_some fR]
        refine fun k5 J5 t5 e5 => ?_
        walk_at "stp"
        refine ⟨ln (by show 4 ≤ 100000; decide), fun p6 hp6 => ?_⟩
        have t05 := t03.trans (t4.trans t5)
        have t6 := same_new hp6 (.tup [.str (Str.ofString "part"), .ref p3, .ref k4, .ref k5])
        rw [hpl] at q
        refine q _ _ (KT.same (t05.trans t6)) (js.same (t05.trans t6)) (.tup (SqT.of upd_same) (.cons (.str _) (.cons (.tup ((t4.trans (t5.trans t6)).tup e3) (ints_den _)) (.cons (key_den (SqT.of ((t5.trans t6) _ _ e4))) (.cons (key_den (SqT.of (t6 _ _ e5))) .nil)))))
      · cases z
        rw [hpl] at q
        obtain ⟨rfl, q⟩ := q
        refine iteB (fun e => absurd e (by rw [decide_eq_true (key_app hlen)]; exact fun z => by cases z)) (fun e => ?_)
        walk_at "stp"
        refine ⟨j, dx, _, rfl, js2.o, lk_no (by decide +kernel), ?_⟩
        walk_at "stp"
        have t02 := t1.trans t2
        refine ⟨H0, dx, pd, nl, rl, md, rows, rs, s1, ks, s1, ls, js2, dL.mono t02, dR.mono t02, by omega, by omega, hln, fun H3 r dr a3 b3 us3 us3' k3 js3 c1 c2 c3 c4 => ?_⟩
        walk_at "stp"
        exact q H3 r dr a3 b3 us3 us3' ((KT.same t02).trans k3) js3 c1 c2 c3 c4
end
section
variable {P : Program} {w : World} {K : PySem.W.Frag} {mg : Str → Option Value} {base : Heap} {t : Ad}
theorem ok_Joining_join_terms (T : Txt K mg t) (G_Row_init : FnOk P w K mg base CX0 1 t.a_Row_init t.d_Row_init ["self", "lefts", "rights"] (sp_Row_init K t.k_Row)) (G_Joining_join_place : FnOk P w K mg base CX0 4 t.a_Joining_join_place t.d_Joining_join_place ["self", "one", "other"] (sp_Joining_join_place K t.k_Joining t.k_Row)) : FnOk P w K mg base CX0 5 t.a_Joining_join_terms t.d_Joining_join_terms ["self", "one", "other"] (sp_Joining_join_terms K t.k_Joining t.k_Row) := by
  refine T.F_Joining_join_terms.ok sc_Joining_join_terms (fun vs H Q E h => ?_) (fun cdv A outer s H vs Q E hr h => ?_)
  · unfold sp_Joining_join_terms at h
    split at h
    · rfl
    · exact h.elim
  unfold sp_Joining_join_terms at h
  split at h
  rotate_left
  · exact h.elim
  refine ⟨_, (pss_cons (ps_fld (mv 0) (pe_lst (pa_con (pe_make T.mk_Row G_Row_init (hr.mono (by first | decide | omega)) rfl T.m_Row T.b_Row_init .nil pass0 (pa_con (pe_tup (pa_con (mv 1) pa_nil)) (pa_con (pe_tup (pa_con (mv 2) pa_nil)) pa_nil))) pa_nil)) rfl) (pss_cons (ps_set (i := 3) sc_Joining_join_terms.nd rfl (by first | exact Or.inl rfl | exact Or.inr rfl) pe_non) (pss_cons (ps_while PassesOwn.never (PW.pt (pw_and (kt_tru K rfl (pe_fld (mv 0) rfl)) (pw_and1 (mt_cmp mo_isN (mv 3) pe_non (nomark _))))) (pss_cons (ps_set (i := 4) (hs := sw_sub) sc_Joining_join_terms.nd rfl (by first | exact Or.inl rfl | exact Or.inr rfl) (pe_ix (ki_seq K rfl) (pe_fld (mv 0) rfl) (pe_un mu_neg pe_int) (fun _ _ => rfl))) (pss_one (ps_if (mt_cmp mo_eq (pe_fld (mv 4) rfl) (pe_callB (kc_len K rfl) rfl T.n_len PySem.boot_len (pa_con (pe_fld (mv 4) rfl) pa_nil)) (nomark _)) (pss_one (ps_expr (ke_bm0 K rfl PySem.F.plainAttrs_list PySem.F.slot_list_pop PySem.F.type_list_pop mm_pop (pe_fld (mv 0) rfl)))) (pss_cons (ps_fldaug (mv 4) pe_int mi_add) (pss_one (ps_set (i := 3) (hs := sw_call) sc_Joining_join_terms.nd rfl (by first | exact Or.inl rfl | exact Or.inr rfl) (pe_meth (mv 0) T.cl_Joining T.me_Joining_join_place G_Joining_join_place (hr.mono (by first | decide | omega)) T.b_Joining_join_place .nil pass0 (pa_con (pe_ix (ki_seq K rfl) (pe_fld (mv 4) rfl) (pe_op mo_sub (pe_fld (mv 4) rfl) pe_int) (fun _ _ => rfl)) (pa_con (pe_ix (ki_seq K rfl) (pe_fld (mv 4) rfl) (pe_op mo_sub (pe_fld (mv 4) rfl) pe_int) (fun _ _ => rfl)) pa_nil)))))))))) (pss_one (ps_ret (mv 3)))))), ?_⟩
  rename_i j v v'
  obtain ⟨H0, dx, pd, nl, rl0, md, rows, t0, t1, js, hF, hd, hd', ha, ha', hok, q⟩ := h
  walk_at "stp"
  refine ⟨ln (by show 1 ≤ 100000; decide), fun p1 hp1 => ?_⟩
  have sp1 : Same H (upd H p1 (.tup [v])) := same_new hp1 _
  have kp1 : (upd H p1 (.tup [v])) p1 = some (.tup [v]) := upd_same
  generalize upd H p1 (.tup [v]) = H1 at sp1 kp1 ⊢
  walk_at "stp"
  refine ⟨ln (by show 1 ≤ 100000; decide), fun p2 hp2 => ?_⟩
  have sp2 : Same H1 (upd H1 p2 (.tup [v'])) := same_new hp2 _
  have kp2 : (upd H1 p2 (.tup [v'])) p2 = some (.tup [v']) := upd_same
  generalize upd H1 p2 (.tup [v']) = H2 at sp2 kp2 ⊢
  walk_at "stp"
  refine fun r dr hr1 hr2 hne => ?_
  refine ⟨dr, upd_same, fun H3 bt ho => ⟨rfl, ?_⟩⟩
  have s3 : Same H2 H3 := same_made hr1 hr2 bt
  walk_at "stp"
  refine ⟨ln (by show 1 ≤ 100000; decide), fun rl hrl => ?_⟩
  have s4 : Same H3 (upd H3 rl (.lst [.ref r])) := same_new hrl _
  have k4 : (upd H3 rl (.lst [.ref r])) rl = some (.lst [.ref r]) := upd_same
  generalize upd H3 rl (.lst [.ref r]) = H4 at s4 k4 ⊢
  have s04 := sp1.trans (sp2.trans (s3.trans s4))
  have js4 := js.same s04
  have js3 := js.same (sp1.trans (sp2.trans s3))
  walk_at "stp"
  refine ⟨j, _, dx, _, rfl, js4.o, T.cl_Joining, T.no_Joining_rows, by show 4 < 1000; decide, ?_⟩
  rw [putj_rows]
  obtain ⟨n0, nt1, _⟩ := js3.note
  have js2 := js.same (sp1.trans sp2)
  obtain ⟨js5, kt5⟩ := js4.set_rl (rs' := [⟨r, dr, .ref p1, .ref p2, 0⟩]) k4 (js3.sm.free hrl) (ne_of_none nt1 hrl) (fun q hq => by
    rw [List.mem_singleton.mp hq]
    exact ⟨s4 _ _ ho, js2.sm.free hr1, Ne.symm (ne_of_none js2.o hr1)⟩) (by simp)
  have kt05 : KT K H _ := (KT.same s04).trans kt5
  have c1 : SqT K _ p1 [v] := kt5 _ _ (SqT.of ((sp2.trans (s3.trans s4)) _ _ kp1))
  have c2 : SqT K _ p2 [v'] := kt5 _ _ (SqT.of ((s3.trans s4) _ _ kp2))
  have hd5 := hd.monoT kt05
  have hd5' := hd'.monoT kt05
  generalize upd H4 j (.ins t.k_Joining dx (jF pd nl rl md)) = H5 at js5 kt5 kt05 c1 c2 hd5 hd5' ⊢
  clear js4 js3 js2 js
  walk_at "stp"
  refine while_row (fun n σ' J => ∃ (told : V) (o : Option V), σ' = [some (.ref j), some v, some v', some told, o] ∧ ((told = .non ∧ n = 100 ∧ LPa K t.k_Joining t.k_Row H0 J j dx pd nl rl md v v' rows ∧ Den K J v t0.data ∧ Den K J v' t1.data) ∨ (told = .non ∧ ∃ i rw2 q0 r dr a b a0 u0 us us' ks ls, n + i = 80 ∧ LPk K t.k_Joining t.k_Row H0 J j dx pd nl rl md (mo rows t0 t1) i rw2 q0 r dr a b a0 u0 us us' ks ls) ∨ (told = .non ∧ n = 2 ∧ LPc K t.k_Joining t.k_Row H0 J j dx pd nl rl md (mo rows t0 t1)) ∨ (told = .non ∧ n = 1 ∧ LPd K t.k_Joining t.k_Row H0 J j dx pd nl rl md (mo rows t0 t1)) ∨ (n = 0 ∧ LPe K t.k_Joining t.k_Row H0 J j dx pd nl rl md (mo rows t0 t1) told))) 100 ⟨.non, none, rfl, .inl ⟨rfl, rfl, ⟨r, dr, p1, p2, js5, c1, c2⟩, hd5, hd5'⟩⟩ (fun n σ' J R hP kT kF => ?_)
  obtain ⟨told, o, rfl, hP⟩ := hP
  rcases hP with ⟨rfl, rfl, ⟨r1, dr1, a1, b1, js1, ca, cb⟩, da, db⟩ | ⟨rfl, i, rws, q0, r1, dr1, a1, b1, a0, u0, us, us', ks, ls, hn, lp⟩ | ⟨rfl, rfl, me, rws, q1, a1, u1, js1, k1, ea, ca, er⟩ | ⟨rfl, rfl, me, rws, js1, er⟩ | ⟨rfl, me, rws, rs, q1, path, ka, kb, rt, js1, rfl, dt, er⟩
  · have ho1 := (js1.ro _ (List.mem_singleton.mpr rfl)).1
    walk_at "stp"
    refine ⟨j, _, dx, _, _, rfl, js1.o, T.cl_Joining, T.no_Joining_rows, lk_rows, ?_⟩
    walk_at "stp"
    refine .inl ⟨_, SqL.of js1.rws, ?_⟩
    refine iteT ?_
    walk_at "stp"
    refine kT J (fun D' e1 e2 hnx hct => ?_)
    walk_at "stp"
    refine ⟨j, _, dx, _, _, rfl, js1.o, T.cl_Joining, T.no_Joining_rows, lk_rows, ?_⟩
    walk_at "stp"
    refine mIx_l (SqL.of js1.rws) (v := .ref r1) (by exact atI_last [] _) ?_
    walk_at "stp"
    refine ⟨_, _, _, _, _, rfl, ho1, T.cl_Row, T.no_Row_taken, lkr_taken, ?_⟩
    walk_at "stp"
    refine ⟨_, _, _, _, _, rfl, ho1, T.cl_Row, T.no_Row_lefts, lkr_lefts, ?_⟩
    walk_at "stp"
    refine mLen_t ca ?_
    walk_at "stp"
    refine iteB (fun e => by have e : ((0 : Int) = 1) := of_decide_eq_true (xor_n e); cases e) (fun e => ?_)
    walk_at "stp"
    refine ⟨r1, _, dr1, _, _, rfl, ho1, T.cl_Row, T.no_Row_taken, lkr_taken, ?_⟩
    walk_at "stp"
    refine ⟨dr1, _, ho1, by show 3 < 1000; decide, ?_⟩
    rw [putr_taken]
    obtain ⟨js2, kt2⟩ := JS.upd_last (rs0 := []) (q1 := ⟨r1, dr1, .ref a1, .ref b1, 0 + 1⟩) js1 rfl
    have ho2 : (upd J r1 (.ins t.k_Row dr1 [(leftsN, .ref a1), (rightsN, .ref b1), (takenN, .int (0 + 1))])) r1 = some (RwO.ob t.k_Row ⟨r1, dr1, .ref a1, .ref b1, 0 + 1⟩) := upd_same
    have kt2 : KT K J (upd J r1 (.ins t.k_Row dr1 [(leftsN, .ref a1), (rightsN, .ref b1), (takenN, .int (0 + 1))])) := kt2
    have js2 : JS K t.k_Joining t.k_Row H0 (upd J r1 (.ins t.k_Row dr1 [(leftsN, .ref a1), (rightsN, .ref b1), (takenN, .int (0 + 1))])) j dx pd nl rl md true rows [⟨r1, dr1, .ref a1, .ref b1, 0 + 1⟩] := js2
    have ca2 := kt2 _ _ ca
    have cb2 := kt2 _ _ cb
    have da2 := da.monoT kt2
    have db2 := db.monoT kt2
    generalize upd J r1 (.ins t.k_Row dr1 [(leftsN, .ref a1), (rightsN, .ref b1), (takenN, .int (0 + 1))]) = J2 at js2 ho2 ca2 cb2 da2 db2 ⊢
    walk_at "stp"
    refine ⟨j, dx, _, rfl, js2.o, lk_no (by decide +kernel), ?_⟩
    walk_at "stp"
    refine ⟨_, _, _, _, _, rfl, ho2, T.cl_Row, T.no_Row_lefts, lkr_lefts, ?_⟩
    walk_at "stp"
    refine ⟨_, _, _, _, _, rfl, ho2, T.cl_Row, T.no_Row_taken, lkr_taken, ?_⟩
    walk_at "stp"
    refine mIx_t ca2 (v := v) rfl ?_
    walk_at "stp"
    refine ⟨_, _, _, _, _, rfl, ho2, T.cl_Row, T.no_Row_rights, lkr_rights, ?_⟩
    walk_at "stp"
    refine ⟨_, _, _, _, _, rfl, ho2, T.cl_Row, T.no_Row_taken, lkr_taken, ?_⟩
    walk_at "stp"
    refine mIx_t cb2 (v := v') rfl ?_
    walk_at "stp"
    refine ⟨H0, dx, pd, nl, rl, md, true, rows, _, t0, t1, js2, hF, da2, db2, ha, ha', by show 1 ≤ 50; decide, ?_⟩
    have hmo : mo rows t0 t1 = plR rows (pl2 rows (wk rows t0) (wk rows t1)) := pm rows _ _
    cases hp : pl2 rows (wk rows t0) (wk rows t1) with
    | go rws =>
      rw [hp] at hmo
      refine fun J3 k3 js3 => ?_
      walk_at "stp"
      exact hnx _ _ 2 (by decide) ⟨.non, _, rfl, .inr (.inr (.inl ⟨rfl, rfl, true, rws, _, a1, v, js3, rfl, rfl, k3 _ _ ca2, hmo⟩))⟩
    | part ka kb =>
      rw [hp] at hmo
      refine fun w J3 k3 js3 dw => ?_
      walk_at "stp"
      have dw : Den K J3 w (partD [] ka kb) := dw
      obtain ⟨rw_, ew⟩ : ∃ r, w = .ref r := by cases dw; exact ⟨_, rfl⟩
      exact hnx _ _ 0 (by decide) ⟨w, _, rfl, .inr (.inr (.inr (.inr ⟨rfl, true, rows, [], _, [], ka, kb, rw_, js3, ew, dw, hmo⟩)))⟩
    | kids s ks ls =>
      rw [hp] at hmo
      obtain ⟨eL, eR, hlen⟩ := pk hp
      have al := hF.wk_af ha
      have ar := hF.wk_af ha'
      rw [eL] at al
      rw [eR] at ar
      obtain ⟨f1, f2⟩ := flat_app (show flatT (.app s ks) = true from al)
      obtain ⟨f3, f4⟩ := flat_app (show flatT (.app s ls) = true from ar)
      have f5 := Trm.len_le ks
      have f6 := hok s ks ls eL eR hlen
      refine ⟨rfl, fun J3 r3 dr3 a3 b3 us us' k3 js3 g1 g2 g3 g4 => ?_⟩
      walk_at "stp"
      exact hnx _ _ 80 (by decide) ⟨.non, _, rfl, .inr (.inl ⟨rfl, 0, rows, _, r3, dr3, a3, b3, a1, v, us, us', ks, ls, rfl, ⟨js3, rfl, rfl, k3 _ _ ca2, g1, g2, g3, g4, hlen, f1, f3, by omega, f6, Nat.zero_le _, hF, hmo⟩⟩)⟩
  · have ho1 := (lp.js.ro _ (by simp : (⟨r1, dr1, .ref a1, .ref b1, (i : Int)⟩ : RwO) ∈ [q0, ⟨r1, dr1, .ref a1, .ref b1, (i : Int)⟩])).1
    have hul := lp.da.length
    rw [Trm.dataL_map, List.length_map] at hul
    have hul' := lp.db.length
    rw [Trm.dataL_map, List.length_map] at hul'
    have hle := lp.le
    have hsz := lp.sz
    have hlen := lp.len
    walk_at "stp"
    refine ⟨j, _, dx, _, _, rfl, lp.js.o, T.cl_Joining, T.no_Joining_rows, lk_rows, ?_⟩
    walk_at "stp"
    refine .inl ⟨_, SqL.of lp.js.rws, ?_⟩
    refine iteT ?_
    walk_at "stp"
    refine kT J (fun D' e1 e2 hnx hct => ?_)
    walk_at "stp"
    refine ⟨j, _, dx, _, _, rfl, lp.js.o, T.cl_Joining, T.no_Joining_rows, lk_rows, ?_⟩
    walk_at "stp"
    refine mIx_l (SqL.of lp.js.rws) (v := .ref r1) (by exact atI_last [.ref q0.r] _) ?_
    walk_at "stp"
    refine ⟨_, _, _, _, _, rfl, ho1, T.cl_Row, T.no_Row_taken, lkr_taken, ?_⟩
    walk_at "stp"
    refine ⟨_, _, _, _, _, rfl, ho1, T.cl_Row, T.no_Row_lefts, lkr_lefts, ?_⟩
    walk_at "stp"
    refine mLen_t lp.sa ?_
    walk_at "stp"
    refine iteB (fun e => ?_) (fun e => ?_)
    · have e : (i : Int) = us.length := of_decide_eq_true (xor_n e)
      have ei : i = ks.length := by omega
      have er := lp.res
      rw [ei, List.drop_length, hlen, List.drop_length] at er
      walk_at "stp"
      refine ⟨j, _, dx, _, _, rfl, lp.js.o, T.cl_Joining, T.no_Joining_rows, lk_rows, ?_⟩
      walk_at "stp"
      refine ⟨.inl ⟨rfl, _, SqL.of lp.js.rws⟩, ?_⟩
      refine mPop_i (xs := [.ref q0.r]) (v := .ref r1) lp.js.rws ?_
      obtain ⟨js2, kt2⟩ := lp.js.upd_rl (rs' := [q0]) (fun q hq => lp.js.ro q (by rw [List.mem_singleton.mp hq]; simp)) (by simp)
      exact hnx _ _ 2 (by omega) ⟨.non, _, rfl, .inr (.inr (.inl ⟨rfl, rfl, false, rws, q0, a0, u0, js2, lp.k0, lp.ha0, kt2 _ _ lp.sa0, er⟩))⟩
    have hi : i < ks.length := by
      have e : ¬ (i : Int) = us.length := of_decide_eq_false (xor_n e)
      omega
    walk_at "stp"
    refine ⟨r1, _, dr1, _, _, rfl, ho1, T.cl_Row, T.no_Row_taken, lkr_taken, ?_⟩
    walk_at "stp"
    refine ⟨dr1, _, ho1, by show 3 < 1000; decide, ?_⟩
    rw [putr_taken]
    obtain ⟨js2, kt2⟩ := JS.upd_last (rs0 := [q0]) (q1 := ⟨r1, dr1, .ref a1, .ref b1, (i : Int) + 1⟩) lp.js rfl
    have ho2 : (upd J r1 (.ins t.k_Row dr1 [(leftsN, .ref a1), (rightsN, .ref b1), (takenN, .int ((i : Int) + 1))])) r1 = some (RwO.ob t.k_Row ⟨r1, dr1, .ref a1, .ref b1, (i : Int) + 1⟩) := upd_same
    have kt2 : KT K J (upd J r1 (.ins t.k_Row dr1 [(leftsN, .ref a1), (rightsN, .ref b1), (takenN, .int ((i : Int) + 1))])) := kt2
    have js2 : JS K t.k_Joining t.k_Row H0 (upd J r1 (.ins t.k_Row dr1 [(leftsN, .ref a1), (rightsN, .ref b1), (takenN, .int ((i : Int) + 1))])) j dx pd nl rl md false rws [q0, ⟨r1, dr1, .ref a1, .ref b1, (i : Int) + 1⟩] := js2
    have ca2 := kt2 _ _ lp.sa
    have cb2 := kt2 _ _ lp.sb
    have da2 := lp.da.monoT kt2
    have db2 := lp.db.monoT kt2
    have c02 := kt2 _ _ lp.sa0
    generalize upd J r1 (.ins t.k_Row dr1 [(leftsN, .ref a1), (rightsN, .ref b1), (takenN, .int ((i : Int) + 1))]) = J2 at js2 ho2 ca2 cb2 da2 db2 c02 ⊢
    have x1 : us[i]? = some us[i] := List.getElem?_eq_getElem (by omega)
    have x2 : us'[i]? = some us'[i] := List.getElem?_eq_getElem (by omega)
    obtain ⟨d1, y1, z1⟩ := da2.get x1
    obtain ⟨d2, y2, z2⟩ := db2.get x2
    rw [Trm.dataL_map, List.getElem?_map, List.getElem?_eq_getElem hi] at y1
    have hi' : i < ls.length := by omega
    rw [Trm.dataL_map, List.getElem?_map, List.getElem?_eq_getElem hi'] at y2
    have y1 : ks[i].data = d1 := Option.some.inj y1
    have y2 : ls[i].data = d2 := Option.some.inj y2
    subst y1 y2
    have lk := lp.fk _ (List.getElem_mem hi)
    have ll := lp.fl _ (List.getElem_mem hi')
    have er := lp.res
    rw [List.drop_eq_getElem_cons hi, List.drop_eq_getElem_cons hi'] at er
    have at1 : atI us ((i : Int) + 1 - 1) = some us[i] := by
      rw [show (i : Int) + 1 - 1 = (i : Int) by omega]
      obtain ⟨w1, w2, w3⟩ := atI_lt (xs := us) (i := (i : Int)) (by omega) (by omega)
      rw [w2, ← w3]
      exact x1
    have at2 : atI us' ((i : Int) + 1 - 1) = some us'[i] := by
      rw [show (i : Int) + 1 - 1 = (i : Int) by omega]
      obtain ⟨w1, w2, w3⟩ := atI_lt (xs := us') (i := (i : Int)) (by omega) (by omega)
      rw [w2, ← w3]
      exact x2
    walk_at "stp"
    refine ⟨j, dx, _, rfl, js2.o, lk_no (by decide +kernel), ?_⟩
    walk_at "stp"
    refine ⟨_, _, _, _, _, rfl, ho2, T.cl_Row, T.no_Row_lefts, lkr_lefts, ?_⟩
    walk_at "stp"
    refine ⟨_, _, _, _, _, rfl, ho2, T.cl_Row, T.no_Row_taken, lkr_taken, ?_⟩
    walk_at "stp"
    refine mIx_t ca2 at1 ?_
    walk_at "stp"
    refine ⟨_, _, _, _, _, rfl, ho2, T.cl_Row, T.no_Row_rights, lkr_rights, ?_⟩
    walk_at "stp"
    refine ⟨_, _, _, _, _, rfl, ho2, T.cl_Row, T.no_Row_taken, lkr_taken, ?_⟩
    walk_at "stp"
    refine mIx_t cb2 at2 ?_
    walk_at "stp"
    refine ⟨H0, dx, pd, nl, rl, md, false, rws, _, ks[i], ls[i], js2, lp.fr, z1, z2, flat_af lk, flat_af ll, by show 2 ≤ 50; decide, ?_⟩
    rw [wk_flat lk, wk_flat ll]
    rcases pl_leaf (rows := rws) lk ll (lp.okk i hi hi') with ⟨ee, hp⟩ | ⟨ee, hp⟩
    · rw [hp]
      rw [fd_go ee] at er
      refine fun J3 k3 js3 => ?_
      walk_at "stp"
      have js3 : JS K t.k_Joining t.k_Row H0 J3 j dx pd nl rl md false rws [q0, ⟨r1, dr1, .ref a1, .ref b1, ((i + 1 : Nat) : Int)⟩] := js3
      exact hnx _ _ (n - 1) (by omega) ⟨.non, _, rfl, .inr (.inl ⟨rfl, i + 1, rws, q0, r1, dr1, a1, b1, a0, u0, us, us', ks, ls, by omega, ⟨js3, lp.k0, lp.ha0, k3 _ _ c02, k3 _ _ ca2, da2.monoT k3, k3 _ _ cb2, db2.monoT k3, lp.len, lp.fk, lp.fl, lp.sz, lp.okk, hi, lp.fr, er⟩⟩)⟩
    · rw [hp]
      rw [fd_at ee] at er
      refine fun w J3 k3 js3 dw => ?_
      walk_at "stp"
      have dw : Den K J3 w (partD [(i : Int) + 1 - 1] (keyL ks[i]) (keyL ls[i])) := dw
      rw [show (i : Int) + 1 - 1 = (i : Int) by omega] at dw
      obtain ⟨rw_, ew⟩ : ∃ r, w = .ref r := by cases dw; exact ⟨_, rfl⟩
      exact hnx _ _ 0 (by omega) ⟨w, _, rfl, .inr (.inr (.inr (.inr ⟨rfl, false, rws, [q0], _, [(i : Int)], keyL ks[i], keyL ls[i], rw_, js3, ew, dw, er⟩)))⟩
  · have ho1 := (js1.ro _ (List.mem_singleton.mpr rfl)).1
    obtain ⟨qr, qdr, qa, qb, qk⟩ := q1
    cases k1
    cases ea
    walk_at "stp"
    refine ⟨j, _, dx, _, _, rfl, js1.o, T.cl_Joining, T.no_Joining_rows, lk_rows, ?_⟩
    walk_at "stp"
    refine .inl ⟨_, SqL.of js1.rws, ?_⟩
    refine iteT ?_
    walk_at "stp"
    refine kT J (fun D' e1 e2 hnx hct => ?_)
    walk_at "stp"
    refine ⟨j, _, dx, _, _, rfl, js1.o, T.cl_Joining, T.no_Joining_rows, lk_rows, ?_⟩
    walk_at "stp"
    refine mIx_l (SqL.of js1.rws) (v := .ref qr) (by exact atI_last [] _) ?_
    walk_at "stp"
    refine ⟨_, _, _, _, _, rfl, ho1, T.cl_Row, T.no_Row_taken, lkr_taken, ?_⟩
    walk_at "stp"
    refine ⟨_, _, _, _, _, rfl, ho1, T.cl_Row, T.no_Row_lefts, lkr_lefts, ?_⟩
    walk_at "stp"
    refine mLen_t ca ?_
    walk_at "stp"
    refine iteB (fun e => ?_) (fun e => absurd rfl (show ¬ ((1 : Int) = 1) from of_decide_eq_false (xor_n e)))
    walk_at "stp"
    refine ⟨j, _, dx, _, _, rfl, js1.o, T.cl_Joining, T.no_Joining_rows, lk_rows, ?_⟩
    walk_at "stp"
    refine ⟨.inl ⟨rfl, _, SqL.of js1.rws⟩, ?_⟩
    refine mPop_i (xs := []) (v := .ref qr) js1.rws ?_
    obtain ⟨js2, kt2⟩ := js1.upd_rl (rs' := []) (fun q hq => by simp at hq) (by simp)
    exact hnx _ _ 1 (by decide) ⟨.non, _, rfl, .inr (.inr (.inr (.inl ⟨rfl, rfl, me, rws, js2, er⟩)))⟩
  · walk_at "stp"
    refine ⟨j, _, dx, _, _, rfl, js1.o, T.cl_Joining, T.no_Joining_rows, lk_rows, ?_⟩
    walk_at "stp"
    refine .inl ⟨_, SqL.of js1.rws, ?_⟩
    refine iteF ?_
    refine kF J ?_
    walk_at "stp"
    rw [er] at q
    exact q J js1.sm js1.put
  · walk_at "stp"
    refine ⟨j, _, dx, _, _, rfl, js1.o, T.cl_Joining, T.no_Joining_rows, lk_rows, ?_⟩
    walk_at "stp"
    refine .inl ⟨_, SqL.of js1.rws, ?_⟩
    rw [show (!((rs ++ [q1]).map fun q => V.ref q.r).isEmpty) = true by simp]
    refine iteT ?_
    walk_at "stp"
    refine kF J ?_
    walk_at "stp"
    rw [er] at q
    exact q (.ref rt) J js1.sm dt ⟨rt, rfl⟩
theorem ok_made_one (T : Txt K mg t) (G_Joining_join_terms : FnOk P w K mg base CX0 5 t.a_Joining_join_terms t.d_Joining_join_terms ["self", "one", "other"] (sp_Joining_join_terms K t.k_Joining t.k_Row)) (G_Joining_init : FnOk P w K mg base CX0 1 t.a_Joining_init t.d_Joining_init ["self", "puts", "noted"] (sp_Joining_init K t.k_Joining)) : FnOk P w K mg base CX0 6 t.a_made_one t.d_made_one ["one", "other", "puts"] (sp_made_one K) := by
  refine T.F_made_one.ok sc_made_one (fun vs H Q E h => ?_) (fun cdv A outer s H vs Q E hr h => ?_)
  · unfold sp_made_one at h
    split at h
    · rfl
    · exact h.elim
  unfold sp_made_one at h
  split at h
  rotate_left
  · exact h.elim
  refine ⟨_, (pss_cons (ps_set (i := 3) (hs := sw_call) sc_made_one.nd rfl (by first | exact Or.inl rfl | exact Or.inr rfl) (pe_callTy mc_dictK rfl T.n_dict boot_dict (pa_con (mv 2) pa_nil))) (pss_cons (ps_set (i := 4) (hs := sw_call) sc_made_one.nd rfl (by first | exact Or.inl rfl | exact Or.inr rfl) (pe_meth (pe_make T.mk_Joining G_Joining_init (hr.mono (by first | decide | omega)) rfl T.m_Joining T.b_Joining_init .nil pass0 (pa_con (mv 3) (pa_con (pe_lst pa_nil) pa_nil))) T.cl_Joining T.me_Joining_join_terms G_Joining_join_terms (hr.mono (by first | decide | omega)) T.b_Joining_join_terms .nil pass0 (pa_con (mv 0) (pa_con (mv 1) pa_nil)))) (pss_one (ps_ret (pe_ifExp (mt_cmp mo_isN (mv 4) pe_non (nomark _)) (pe_tup (pa_con pe_str (pa_con (mv 3) pa_nil))) (mv 4)))))), ?_⟩
  rename_i v v' pd0
  obtain ⟨t0, t1, rows, hd, hd', hP, hF, ha, ha', hok, q⟩ := h
  obtain ⟨kvs, e0, ok⟩ := hP.ex
  walk_at "stp"
  refine ⟨pd0, kvs, rfl, e0, fun pd hpd => ?_⟩
  have s1 : Same H (upd H pd (.dK kvs)) := same_new hpd _
  have k1 : (upd H pd (.dK kvs)) pd = some (.dK kvs) := upd_same
  generalize upd H pd (.dK kvs) = H1 at s1 k1 ⊢
  walk_at "stp"
  refine ⟨ln (by show 0 ≤ 100000; decide), fun nl hnl => ?_⟩
  have snl : Same H1 (upd H1 nl (.lst [])) := same_new hnl _
  have knl : (upd H1 nl (.lst [])) nl = some (.lst []) := upd_same
  generalize upd H1 nl (.lst []) = H2 at snl knl ⊢
  walk_at "stp"
  refine fun j dx hj hdx hne => ?_
  have hjH : H j = none := (s1.trans snl).free hj
  refine ⟨dx, upd_same, fun rl md H3 hrl hmd hrm bt ho kr km => ⟨rfl, ?_⟩⟩
  have s3 : Same H2 H3 := same_made hj hdx bt
  have s02 := s1.trans snl
  have hrl2 : H2 rl = none := by
    cases e : H2 rl with
    | none => rfl
    | some o =>
      have z1 : rl ≠ j := fun z => by rw [z, upd_same] at hrl; cases hrl
      have z2 : rl ≠ dx := fun z => by rw [z, upd_ne hne, upd_same] at hrl; cases hrl
      rw [upd_ne z1, upd_ne z2, e] at hrl
      cases hrl
  have hmd2 : H2 md = none := by
    cases e : H2 md with
    | none => rfl
    | some o =>
      have z1 : md ≠ j := fun z => by rw [z, upd_same] at hmd; cases hmd
      have z2 : md ≠ dx := fun z => by rw [z, upd_ne hne, upd_same] at hmd; cases hmd
      rw [upd_ne z1, upd_ne z2, e] at hmd
      cases hmd
  have k12 := snl _ _ k1
  have k3 : H3 pd = some (.dK kvs) := s3 _ _ k12
  have js3 : JS K t.k_Joining t.k_Row H H3 j dx pd nl rl md true rows [] := ⟨s02.trans s3, ho, ⟨kvs, k3, ok.mono (s02.trans s3)⟩, ⟨[], s3 _ _ knl, Nat.zero_le _⟩, kr, ⟨_, km, (fun _ z => by cases z), (fun _ z => by cases z), (fun _ _ z => by cases z), (fun _ _ _ z => by cases z), fun _ => rfl⟩, (fun q hq => by simp at hq), (by simp), s02.free hj, hpd, s1.free hnl, s02.free hrl2, s02.free hmd2, ne_of_none knl hrl2, Ne.symm (ne_of_none k12 hmd2)⟩
  walk_at "stp"
  refine ⟨j, dx, _, rfl, js3.o, lk_no (by decide +kernel), ?_⟩
  walk_at "stp"
  refine ⟨H, dx, pd, nl, rl, md, rows, t0, t1, js3, hF, hd.mono js3.sm, hd'.mono js3.sm, ha, ha', hok, ?_⟩
  cases hm : mo rows t0 t1 with
  | one rws =>
    rw [hm] at q
    refine fun H4 s4 p4 => ?_
    walk_at "stp"
    refine iteT ?_
    walk_at "stp"
    refine ⟨ln (by show 2 ≤ 100000; decide), fun p5 hp5 => ?_⟩
    have s5 := same_new hp5 (.tup [.str (Str.ofString "one"), .ref pd])
    exact q (.ref p5) pd _ (s4.trans s5) hpd ⟨p5, rfl, SqT.of upd_same, p4.mono s5⟩
  | part path a b =>
    rw [hm] at q
    refine fun w H4 s4 dw hw => ?_
    obtain ⟨rt, rfl⟩ := hw
    walk_at "stp"
    refine iteF ?_
    walk_at "stp"
    exact q (.ref rt) pd H4 s4 hpd dw
end
section
variable {P : Program} {w : World} {K : PySem.W.Frag} {mg : Str → Option Value} {base : Heap} {t : Ad}
theorem ok_l_cell (T : Txt K mg t)  : FnOk P w K mg base CX0 1 t.a_l_cell t.d_l_cell ["_law_script", "_law_k"] (sp_l_cell K) := by
  refine T.F_l_cell.ok sc_l_cell (fun vs H Q E h => ?_) (fun cdv A outer s H vs Q E hr h => ?_)
  · unfold sp_l_cell at h
    split at h
    · rfl
    · exact h.elim
  unfold sp_l_cell at h
  split at h
  rotate_left
  · exact h.elim
  refine ⟨_, (pss_cons (ps_if (mt_cmp mo_lt (mv 1) (pe_callB (kc_len K rfl) rfl T.n_len PySem.boot_len (pa_con (mv 0) pa_nil)) (nomark _)) (pss_one (ps_ret (pe_ix (ki_seq K rfl) (mv 0) (mv 1) (fun _ _ => rfl)))) pss_nil) (pss_cons (ps_set (i := 2) (hs := sw_bin) sc_l_cell.nd rfl (by first | exact Or.inl rfl | exact Or.inr rfl) (pe_op (ko_add K rfl) (pe_op mo_mul pe_int (mv 1)) pe_int)) (pss_cons (ps_if (mt_cmp mo_gt (pe_callB (kc_len K rfl) rfl T.n_len PySem.boot_len (pa_con (mv 0) pa_nil)) pe_int (nomark _)) (pss_one (ps_set (i := 2) (hs := sw_bin) sc_l_cell.nd rfl (by first | exact Or.inl rfl | exact Or.inr rfl) (pe_op (ko_add K rfl) (mv 2) (pe_op mo_mul pe_int (pe_ix (ki_seq K rfl) (mv 0) (pe_op mo_mod (pe_op mo_mul pe_int (mv 1)) (pe_callB (kc_len K rfl) rfl T.n_len PySem.boot_len (pa_con (mv 0) pa_nil))) (fun _ _ => rfl)))))) pss_nil) (pss_one (ps_ret (pe_op mo_mod (pe_op mo_mul (mv 2) (mv 2)) pe_int)))))), ?_⟩
  rename_i a k
  obtain ⟨ns, hS, hb, h0, h1, q⟩ := h
  walk_at "stp"
  refine mLen_l hS ?_
  walk_at "stp"
  rw [List.length_map]
  refine iteB (fun e => ?_) (fun e => ?_)
  · have hk := of_decide_eq_true e
    walk_at "stp"
    obtain ⟨v, hv, hv2⟩ := atI_lt (xs := ns.map V.int) h0 (by rw [List.length_map]; exact hk)
    obtain ⟨x, rfl⟩ := ints_at hv
    refine mIx_l hS hv ?_
    exact q _
  walk_at "stp"
  refine mMul_i (mulOk_left (by decide)) ?_
  walk_at "stp"
  refine mLen_l hS ?_
  walk_at "stp"
  rw [List.length_map]
  refine iteB (fun e => ?_) (fun e => ?_)
  · have hl := of_decide_eq_true e
    walk_at "stp"
    refine mMul_i (mulOk_left (by decide)) ?_
    walk_at "stp"
    refine mLen_l hS ?_
    walk_at "stp"
    rw [List.length_map]
    refine m2_i (show (0 : Int) < (ns.length : Int) from hl) ?_
    walk_at "stp"
    have b1 := Int.emod_nonneg (5 * k) (show (ns.length : Int) ≠ 0 by omega)
    have b2 := Int.emod_lt_of_pos (5 * k) hl
    obtain ⟨v, hv, hv2⟩ := atI_lt (xs := ns.map V.int) b1 (by rw [List.length_map]; exact b2)
    obtain ⟨x, hx, rfl⟩ := List.mem_map.mp (atI_mem hv)
    refine mIx_l hS hv ?_
    walk_at "stp"
    refine mMul_i (mulOk_left (by decide)) ?_
    walk_at "stp"
    have hbx := bits_lt _ _ (cell_bits (c := 7919 * k + 17) (lt_bits x _ (hb x hx)) (by omega))
    refine mMul_i (mulOk_bits (by omega)) ?_
    walk_at "stp"
    exact q _
  · walk_at "stp"
    refine mMul_i (mulOk_left (by omega)) ?_
    walk_at "stp"
    exact q _
theorem ok_l_number (T : Txt K mg t)  : FnOk P w K mg base CX0 1 t.a_l_number t.d_l_number ["_law_cell_here"] (sp_l_number) := by
  refine T.F_l_number.ok sc_l_number (fun vs H Q E h => ?_) (fun cdv A outer s H vs Q E hr h => ?_)
  · unfold sp_l_number at h
    split at h
    · rfl
    · exact h.elim
  unfold sp_l_number at h
  split at h
  rotate_left
  · exact h.elim
  refine ⟨_, (pss_cons (ps_if (mt_cmp mo_eq (pe_op mo_mod (mv 0) pe_int) pe_int (nomark _)) (pss_one (ps_ret (pe_op (ko_add K rfl) (pe_op mo_sub (pe_op mo_mod (pe_op mo_mul (pe_op mo_fdiv (mv 0) pe_int) pe_int) (pe_op mo_sub (pe_op mo_mul pe_int (pe_op mo_pow pe_int pe_int)) pe_int)) (pe_op mo_pow pe_int pe_int)) pe_int))) pss_nil) (pss_one (ps_ret (pe_op mo_sub (pe_op mo_mod (pe_op mo_fdiv (mv 0) pe_int) pe_int) pe_int)))), ?_⟩
  rename_i c
  have q := h
  walk_at "stp"
  refine iteB (fun e => ?_) (fun e => ?_)
  · walk_at "stp"
    refine mMul_i (mulOk_right (by decide)) ?_
    walk_at "stp"
    refine m2_i (C := CPow) ⟨by decide, by decide, by decide⟩ ?_
    walk_at "stp"
    refine mMul_i (mulOk_left (by decide)) ?_
    walk_at "stp"
    refine m2_i (C := CPow) ⟨by decide, by decide, by decide⟩ ?_
    walk_at "stp"
    exact q _
  · walk_at "stp"
    exact q _
theorem ok_l_names (T : Txt K mg t)  : FnOk P w K mg base CX0 1 t.a_l_names t.d_l_names ["_law_cell_here", "_law_many", "_law_first"] (sp_l_names K) := by
  refine T.F_l_names.ok sc_l_names (fun vs H Q E h => ?_) (fun cdv A outer s H vs Q E hr h => ?_)
  · unfold sp_l_names at h
    split at h
    · rfl
    · exact h.elim
  unfold sp_l_names at h
  split at h
  rotate_left
  · exact h.elim
  refine ⟨_, (pss_cons (ps_set (i := 3) sc_l_names.nd rfl (by first | exact Or.inl rfl | exact Or.inr rfl) pe_str) (pss_cons (ps_if (mt_cmp mo_eq (pe_op mo_mod (mv 0) pe_int) pe_int (nomark _)) (pss_one (ps_ret (pe_comp rfl (pi_range1 rfl T.n_range (pa_con (mv 1) pa_nil)) (comp_sc (defScope s_l_names) ["_law_cell_here", "_law_many", "_law_first", "_law_signs", "_law_size", "_law_at", "_law_names_here", "_law_j", "_law_name", "_law_k", "_law_place_here"] ["_law_cell_here", "_law_many", "_law_first", "_law_signs", "_law_size", "_law_at", "_law_names_here", "_law_j", "_law_name", "%_law_k", "_law_place_here"] rfl rfl (by decide +kernel)) (fun _ _ _ _ _ => pts_nil) (fun _ _ _ _ _ => (pe_op (ko_add K rfl) (pe_ix (ki_seq K rfl) (mv 3) pe_int (fun _ _ => rfl)) (pe_callTy mc_str rfl T.n_str boot_str (pa_con (pe_op (ko_add K rfl) pe_int (pe_op mo_mod (pe_op (ko_add K rfl) (mv 0) (pe_op mo_fdiv (mv 1) pe_int)) (mv 2))) pa_nil))))))) pss_nil) (pss_cons (ps_if (mt_cmp mo_eq (pe_op mo_mod (mv 0) pe_int) pe_int (nomark _)) (pss_one (ps_ret (pe_comp rfl (pi_range1 rfl T.n_range (pa_con (mv 1) pa_nil)) (comp_sc (defScope s_l_names) ["_law_cell_here", "_law_many", "_law_first", "_law_signs", "_law_size", "_law_at", "_law_names_here", "_law_j", "_law_name", "_law_k", "_law_place_here"] ["_law_cell_here", "_law_many", "_law_first", "_law_signs", "_law_size", "_law_at", "_law_names_here", "_law_j", "_law_name", "%_law_k", "_law_place_here"] rfl rfl (by decide +kernel)) (fun _ _ _ _ _ => pts_nil) (fun _ _ _ _ _ => (pe_op (ko_add K rfl) (pe_ix (ki_seq K rfl) (mv 3) (pe_op mo_mod (pe_op mo_fdiv (mv 1) pe_int) pe_int) (fun _ _ => rfl)) (pe_op ko_repS (pe_ix (ki_seq K rfl) (mv 4) (pe_op mo_mod (pe_op mo_fdiv (mv 1) pe_int) pe_int) (fun _ _ => rfl)) (mv 0))))))) pss_nil) (pss_cons (ps_set (i := 4) (hs := sw_bin) sc_l_names.nd rfl (by first | exact Or.inl rfl | exact Or.inr rfl) (pe_op (ko_add K rfl) pe_int (pe_op mo_mod (pe_op mo_fdiv (mv 0) pe_int) pe_int))) (pss_cons (ps_set (i := 5) (hs := sw_bin) sc_l_names.nd rfl (by first | exact Or.inl rfl | exact Or.inr rfl) (pe_op mo_mod (pe_op mo_fdiv (mv 0) pe_int) (mv 4))) (pss_cons (ps_set (i := 6) (hs := sw_lst) sc_l_names.nd rfl (by first | exact Or.inl rfl | exact Or.inr rfl) (pe_lst pa_nil)) (pss_cons (ps_for PassesOwn.never rfl (pi_range1 rfl T.n_range (pa_con (mv 1) pa_nil)) (pg_name (i := 7) sc_l_names.nd rfl (by first | exact Or.inl rfl | exact Or.inr rfl)) (pss_cons (ps_set (i := 8) sc_l_names.nd rfl (by first | exact Or.inl rfl | exact Or.inr rfl) pe_str) (pss_cons (ps_for PassesOwn.never rfl (pi_range1 rfl T.n_range (pa_con (mv 4) pa_nil)) (pg_name (i := 9) sc_l_names.nd rfl (by first | exact Or.inl rfl | exact Or.inr rfl)) (pss_cons (ps_set (i := 10) (hs := sw_bin) sc_l_names.nd rfl (by first | exact Or.inl rfl | exact Or.inr rfl) (pe_op (ko_add K rfl) (pe_op (ko_add K rfl) (pe_op mo_fdiv (mv 0) (pe_op (ko_add K rfl) (pe_op mo_mul pe_int (mv 9)) pe_int)) (mv 9)) (pe_op mo_mul (mv 7) (pe_callTy mc_int rfl T.n_int boot_int (pa_con (pe_cmpR mo_eq (mv 9) (mv 5) (nomark _)) pa_nil))))) (pss_one (ps_set (i := 8) (hs := sw_bin) sc_l_names.nd rfl (by first | exact Or.inl rfl | exact Or.inr rfl) (pe_op (ko_add K rfl) (mv 8) (pe_ifExp (mt_cmp mo_eq (mv 9) pe_int (nomark _)) (pe_ix (ki_seq K rfl) (mv 2) (pe_op mo_mod (mv 10) pe_int) (fun _ _ => rfl)) (pe_ix (ki_seq K rfl) (mv 3) (pe_op mo_mod (mv 10) pe_int) (fun _ _ => rfl)))))))) (pss_one (ps_expr (ke_bm K rfl PySem.F.plainAttrs_list PySem.F.slot_list_append PySem.F.type_list_append mm_append (mv 6) (pa_con (mv 8) pa_nil))))))) (pss_one (ps_ret (mv 6)))))))))), ?_⟩
  rename_i c m first
  obtain ⟨h1, h2, hf, hn, q⟩ := h
  have fl : first.length ≤ sizeLine := ln (by omega)
  have fl' : first.cps.toList.length = 26 := by rw [← hf]; simp [Str.length]
  have l62 : tailS.cps.toList.length = 62 := by decide +kernel
  have tl : tailS.length ≤ sizeLine := ln (by rw [tl62]; decide)
  walk_at "stp"
  refine iteB (fun e => ?_) (fun e => ?_)
  · obtain ⟨a0, ha0⟩ := ix_str_lt (z := first) (i := 20) (by decide) (by omega)
    walk_at "stp"
    refine ⟨m, rfl, by omega, by omega, fun D hD => ?_⟩
    refine comp_row (row_range 0 m.toNat) (fun i ys H' => Same H H' ∧ ys = (List.range i).map (fun k => V.str ((fun k : Nat => (⟨(a0 :: figsOf (1 + (0 + (k : Int) + c / 4) % m).toNat).toArray⟩ : Str)) k)) ∧ H' D = some (.lst ys)) (ln (by omega)) ⟨same_new hD _, rfl, upd_same⟩ (fun _ _ _ _ => trivial) (fun i ys H' Q' hi hl' hP k => ?_) (fun ys H' hl' hP => ?_)
    · obtain ⟨g1, g2, g3⟩ := hP
      walk_at "stp"
      refine mIx_s fl ha0 ?_
      walk_at "stp"
      refine m2_i (show (0 : Int) < m by omega) ?_
      walk_at "stp"
      have b1 := Int.emod_nonneg (0 + (i : Int) + c / 4) (show m ≠ 0 by omega)
      have b2 := Int.emod_lt_of_pos (0 + (i : Int) + c / 4) (show 0 < m by omega)
      refine mStr_i (by omega) (by omega) ?_
      have fg := figs_lt (n := (1 + (0 + (i : Int) + c / 4) % m).toNat) (by omega)
      refine mAdd_s (ln (by rw [fg]; show 1 + 1 ≤ 100000; decide)) ?_
      rw [show (⟨#[a0]⟩ : Str) ++ ⟨(figsOf (1 + (0 + (i : Int) + c / 4) % m).toNat).toArray⟩ = ⟨(a0 :: figsOf (1 + (0 + (i : Int) + c / 4) % m).toNat).toArray⟩ from str_app [a0] _]
      refine k _ _ g3 ⟨same_upd g1 hD, ?_, upd_same⟩
      rw [g2, List.range_succ, List.map_append]
      rfl
    · obtain ⟨g1, g2, g3⟩ := hP
      refine q D ((List.range m.toNat).map (fun k : Nat => (⟨(a0 :: figsOf (1 + (0 + (k : Int) + c / 4) % m).toNat).toArray⟩ : Str))) H' (by simp) (nodup_range_map _ fun i j hi hj e => ?_) (fun x hx => ?_) g1 (by rw [List.map_map]; exact g2 ▸ g3)
      · have e := (List.cons.inj (st_inj' e)).2
        have c1 := Int.emod_nonneg (0 + (i : Int) + c / 4) (show m ≠ 0 by omega)
        have c2 := Int.emod_lt_of_pos (0 + (i : Int) + c / 4) (show 0 < m by omega)
        have c3 := Int.emod_nonneg (0 + (j : Int) + c / 4) (show m ≠ 0 by omega)
        have c4 := Int.emod_lt_of_pos (0 + (j : Int) + c / 4) (show 0 < m by omega)
        rw [figs_lt (by omega), figs_lt (by omega)] at e
        have e : (0 + (i : Int) + c / 4) % m = (0 + (j : Int) + c / 4) % m := by
          have := (List.cons.inj e).1
          omega
        have d := Int.emod_eq_emod_iff_emod_sub_eq_zero.mp e
        obtain ⟨w1, hw⟩ := Int.dvd_of_emod_eq_zero d
        have hw : (i : Int) - j = m * w1 := by omega
        rcases Int.lt_trichotomy w1 0 with z | z | z
        · have : m * w1 ≤ m * (-1) := Int.mul_le_mul_of_nonneg_left (by omega) (by omega)
          omega
        · subst z
          omega
        · have : m * 1 ≤ m * w1 := Int.mul_le_mul_of_nonneg_left (by omega) (by omega)
          omega
      · obtain ⟨i, hi, rfl⟩ := List.mem_map.mp hx
        have hi := List.mem_range.mp hi
        have c1 := Int.emod_nonneg (0 + (i : Int) + c / 4) (show m ≠ 0 by omega)
        have c2 := Int.emod_lt_of_pos (0 + (i : Int) + c / 4) (show 0 < m by omega)
        rw [str_len, figs_lt (by omega)]
        show 2 ≤ 30
        decide
  walk_at "stp"
  refine iteB (fun e => ?_) (fun e => ?_)
  · obtain ⟨a0, ha0⟩ := ix_str_lt (z := first) (i := c / 4 % 26) (by omega) (by omega)
    obtain ⟨b0, hb0⟩ := ix_str_lt (z := tailS) (i := c / 104 % 62) (by omega) (by rw [tl62]; omega)
    walk_at "stp"
    refine ⟨m, rfl, by omega, by omega, fun D hD => ?_⟩
    refine comp_row (row_range 0 m.toNat) (fun i ys H' => Same H H' ∧ ys = (List.range i).map (fun k => V.str ((fun k : Nat => (⟨(a0 :: List.replicate k b0).toArray⟩ : Str)) k)) ∧ H' D = some (.lst ys)) (ln (by omega)) ⟨same_new hD _, rfl, upd_same⟩ (fun _ _ _ _ => trivial) (fun i ys H' Q' hi hl' hP k => ?_) (fun ys H' hl' hP => ?_)
    · obtain ⟨g1, g2, g3⟩ := hP
      walk_at "stp"
      refine mIx_s fl ha0 ?_
      walk_at "stp"
      refine mIx_s tl hb0 ?_
      walk_at "stp"
      refine mRepS_i (by omega) (by omega) ?_
      rw [show (0 + (i : Int)).toNat = i by omega]
      refine mAdd_s (ln (by have e9 := str_len (List.replicate i b0); rw [List.length_replicate] at e9; rw [e9]; show 1 + i ≤ 100000; omega)) ?_
      rw [show (⟨#[a0]⟩ : Str) ++ ⟨(List.replicate i b0).toArray⟩ = ⟨(a0 :: List.replicate i b0).toArray⟩ from str_app [a0] _]
      refine k _ _ g3 ⟨same_upd g1 hD, ?_, upd_same⟩
      rw [g2, List.range_succ, List.map_append]
      rfl
    · obtain ⟨g1, g2, g3⟩ := hP
      refine q D ((List.range m.toNat).map (fun k : Nat => (⟨(a0 :: List.replicate k b0).toArray⟩ : Str))) H' (by simp) (nodup_range_map _ fun i j hi hj e => ?_) (fun x hx => ?_) g1 (by rw [List.map_map]; exact g2 ▸ g3)
      · have e := congrArg List.length (st_inj' e)
        simpa using e
      · obtain ⟨i, hi, rfl⟩ := List.mem_map.mp hx
        have hi := List.mem_range.mp hi
        rw [str_len, List.length_cons, List.length_replicate]
        omega
  walk_at "stp"
  have z0 : 0 ≤ c / 4 % 12 ∧ c / 4 % 12 < 12 := by omega
  generalize c / 4 % 12 = sz at z0 ⊢
  refine m2_i (show (0 : Int) < 1 + sz by omega) ?_
  walk_at "stp"
  have a1 := Int.emod_nonneg (c / 48) (show 1 + sz ≠ 0 by omega)
  have a2 := Int.emod_lt_of_pos (c / 48) (show 0 < 1 + sz by omega)
  generalize c / 48 % (1 + sz) = ac at a1 a2 ⊢
  obtain ⟨at_, rfl⟩ : ∃ n : Nat, ac = (n : Int) := ⟨ac.toNat, by omega⟩
  obtain ⟨size, hsz⟩ : ∃ n : Nat, 1 + sz = (n : Int) := ⟨(1 + sz).toNat, by omega⟩
  rw [hsz] at a2 ⊢
  have hs12 : 1 ≤ size ∧ size ≤ 12 := by omega
  refine ⟨ln (by show 0 ≤ 100000; decide), fun p1 hp1 => ?_⟩
  have sp1 : Same H (upd H p1 (.lst [])) := same_new hp1 _
  have kp1 : (upd H p1 (.lst [])) p1 = some (.lst []) := upd_same
  generalize upd H p1 (.lst []) = H1 at sp1 kp1 ⊢
  walk_at "stp"
  refine ⟨m, rfl, by omega, by omega, ?_⟩
  refine for_row (row_range 0 m.toNat) (fun i σ' H' => ∃ (o7 o8 o9 o10 : Option V), σ' = [some (.int c), some (.int m), some (.str first), some (.str tailS), some (.int size), some (.int at_), some (.ref p1), o7, o8, o9, o10] ∧ Same H H' ∧ H' p1 = some (.lst (((List.range i).map (nm3 c first.cps.toList at_ size)).map V.str))) ⟨none, none, none, none, rfl, sp1, kp1⟩ (fun _ _ _ _ => trivial) (fun i σ' H' hi hP => ?_) (fun σ' H' hP => ?_)
  · obtain ⟨o7, o8, o9, o10, rfl, s1, k1⟩ := hP
    have hi9 : i < 9 := by omega
    walk_at "stp"
    refine ⟨size, rfl, by omega, by omega, ?_⟩
    refine for_row (row_range 0 (size : Int).toNat) (fun n σ2 H2 => ∃ (o9 o10 : Option V), σ2 = [some (.int c), some (.int m), some (.str first), some (.str tailS), some (.int size), some (.int at_), some (.ref p1), some (.int (0 + (i : Int))), some (.str ⟨((List.range n).map (chN c first.cps.toList at_ i)).toArray⟩), o9, o10] ∧ H2 = H') ⟨_, _, by rw [show (⟨((List.range 0).map (chN c first.cps.toList at_ i)).toArray⟩ : Str) = Str.ofString "" by rw [em_eq]; rfl]; rfl, rfl⟩ (fun _ _ _ _ => trivial) (fun n σ2 H2 hn2 hP => ?_) (fun σ2 H2 hP => ?_)
    · obtain ⟨o9, o10, rfl, rfl⟩ := hP
      have hn12 : n < 12 := by omega
      walk_at "stp"
      refine mMul_i (mulOk_left (by decide)) ?_
      walk_at "stp"
      refine m2_i (C := CDiv) (cdiv_i (by omega) (by omega)) ?_
      walk_at "stp"
      have eb : (if (false ^^ decide ((0 + (n : Int)) = (at_ : Int))) = true then (1 : Int) else 0) = if n = at_ then 1 else 0 := by
        by_cases h : n = at_
        · rw [if_pos h, if_pos (by rw [Bool.false_xor]; exact decide_eq_true (by omega))]
        · rw [if_neg h, if_neg (by rw [Bool.false_xor, decide_eq_false (by omega)]; exact Bool.false_ne_true)]
      rw [eb]
      refine mMul_i (mulOk_left (by omega)) ?_
      walk_at "stp"
      have ep : c / (7 * (0 + (n : Int)) + 11) + (0 + (n : Int)) + (0 + (i : Int)) * (if n = at_ then 1 else 0) = plc c at_ n i := by
        unfold plc
        simp only [Int.zero_add]
      rw [ep]
      have hadd : ∀ d : Nat, (⟨((List.range n).map (chN c first.cps.toList at_ i)).toArray⟩ : Str).length + (⟨#[d]⟩ : Str).length ≤ sizeLine := fun d => ln (by rw [str_len, List.length_map, List.length_range]; show n + 1 ≤ 100000; omega)
      refine iteB (fun e => ?_) (fun e => ?_)
      · have hn0 : n = 0 := by have := of_decide_eq_true (xor_n e); omega
        walk_at "stp"
        refine mIx_s fl (atI_getD (l := first.cps.toList) (by omega) (by rw [fl']; omega)) ?_
        refine mAdd_s (hadd _) ?_
        rw [show (⟨((List.range n).map (chN c first.cps.toList at_ i)).toArray⟩ : Str) ++ ⟨#[first.cps.toList.getD (plc c at_ n i % 26).toNat 0]⟩ = ⟨((List.range (n + 1)).map (chN c first.cps.toList at_ i)).toArray⟩ by
          rw [List.range_succ, List.map_append, ← str_app]
          congr 1
          simp only [List.map_cons, List.map_nil, chN, if_pos hn0]]
        walk_at "stp"
        exact ⟨_, _, rfl, rfl⟩
      · have hn0 : n ≠ 0 := by have := of_decide_eq_false (xor_n e); omega
        walk_at "stp"
        refine mIx_s tl (atI_getD (l := tailS.cps.toList) (by omega) (by rw [l62]; omega)) ?_
        refine mAdd_s (hadd _) ?_
        rw [show (⟨((List.range n).map (chN c first.cps.toList at_ i)).toArray⟩ : Str) ++ ⟨#[tailS.cps.toList.getD (plc c at_ n i % 62).toNat 0]⟩ = ⟨((List.range (n + 1)).map (chN c first.cps.toList at_ i)).toArray⟩ by
          rw [List.range_succ, List.map_append, ← str_app]
          congr 1
          simp only [List.map_cons, List.map_nil, chN, if_neg hn0]]
        walk_at "stp"
        exact ⟨_, _, rfl, rfl⟩
    · obtain ⟨o9, o10, rfl, rfl⟩ := hP
      walk_at "stp"
      refine ⟨.inl ⟨rfl, _, SqL.of k1⟩, ?_⟩
      walk_at "stp"
      refine mAppend_i k1 (ln1 (by rw [List.length_map, List.length_map, List.length_range]; omega)) ?_
      refine ⟨_, _, _, _, rfl, same_upd s1 hp1, ?_⟩
      rw [upd_same, List.range_succ, List.map_append, List.map_append]
      rfl
  · obtain ⟨o7, o8, o9, o10, rfl, s1, k1⟩ := hP
    walk_at "stp"
    refine q p1 _ H' (by simp) (nodup_range_map _ fun i j hi hj e => nm3_inj hn fl' (by omega) (by omega) (by omega) e) (fun x hx => ?_) s1 k1
    obtain ⟨i, hi, rfl⟩ := List.mem_map.mp hx
    show (⟨((List.range size).map _).toArray⟩ : Str).length ≤ 30
    rw [str_len, List.length_map, List.length_range]
    omega
end
section
variable {P : Program} {w : World} {K : PySem.W.Frag} {mg : Str → Option Value} {base : Heap} {t : Ad}
theorem ok_l_is_term (T : Txt K mg t)  : FnOk P w K mg base CX0 1 t.a_l_is_term t.d_l_is_term ["_law_thing"] (sp_l_is_term K) := by
  refine T.F_l_is_term.ok sc_l_is_term (fun vs H Q E h => ?_) (fun cdv A outer s H vs Q E hr h => ?_)
  · unfold sp_l_is_term at h
    split at h
    · rfl
    · exact h.elim
  unfold sp_l_is_term at h
  split at h
  rotate_left
  · exact h.elim
  refine ⟨_, (pss_cons (ps_set (i := 1) (hs := sw_lst) sc_l_is_term.nd rfl (by first | exact Or.inl rfl | exact Or.inr rfl) (pe_lst (pa_con (mv 0) pa_nil))) (pss_cons (ps_while PassesOwn.never (mt_cmp mo_gt (pe_callB (kc_len K rfl) rfl T.n_len PySem.boot_len (pa_con (mv 1) pa_nil)) pe_int (nomark _)) (pss_cons (ps_set (i := 2) (hs := sw_call) sc_l_is_term.nd rfl (by first | exact Or.inl rfl | exact Or.inr rfl) (ke_bm0 K rfl PySem.F.plainAttrs_list PySem.F.slot_list_pop PySem.F.type_list_pop mm_pop (mv 1))) (pss_cons (ps_if (PW.pt (pw_or (pt_not (kt_tru K rfl (pe_callB (kc_is K rfl) rfl T.n_isinstance boot_isinstance (pa_con (mv 2) (pa_con (pe_bty rfl T.n_tuple boot_tuple) pa_nil))))) (pw_or (mt_cmp mo_lt (pe_callB (kc_len K rfl) rfl T.n_len PySem.boot_len (pa_con (mv 2) pa_nil)) pe_int (nomark _)) (pw_or1 (pt_not (kt_tru K rfl (pe_callB (kc_is K rfl) rfl T.n_isinstance boot_isinstance (pa_con (pe_ix (ki_seq K rfl) (mv 2) pe_int (fun _ _ => rfl)) (pa_con (pe_bty rfl T.n_str boot_str) pa_nil))))))))) (pss_one (ps_ret pe_bl)) pss_nil) (pss_one (ps_if (mt_cmp mo_eq (pe_ix (ki_seq K rfl) (mv 2) pe_int (fun _ _ => rfl)) pe_str (nomark _)) (pss_one (ps_if (PW.pt (pw_or (mt_cmp mo_ne (pe_callB (kc_len K rfl) rfl T.n_len PySem.boot_len (pa_con (mv 2) pa_nil)) pe_int (nomark _)) (pw_or (pt_not (kt_tru K rfl (pe_callB (kc_is K rfl) rfl T.n_isinstance boot_isinstance (pa_con (pe_ix (ki_seq K rfl) (mv 2) pe_int (fun _ _ => rfl)) (pa_con (pe_bty rfl T.n_int boot_int) pa_nil))))) (pw_or1 (kt_tru K rfl (pe_callB (kc_is K rfl) rfl T.n_isinstance boot_isinstance (pa_con (pe_ix (ki_seq K rfl) (mv 2) pe_int (fun _ _ => rfl)) (pa_con (pe_bty rfl T.n_bool boot_bool) pa_nil)))))))) (pss_one (ps_ret pe_bl)) pss_nil)) (pss_one (ps_if (mt_cmp mo_eq (pe_ix (ki_seq K rfl) (mv 2) pe_int (fun _ _ => rfl)) pe_str (nomark _)) (pss_cons (ps_if (PW.pt (pw_or (mt_cmp mo_ne (pe_callB (kc_len K rfl) rfl T.n_len PySem.boot_len (pa_con (mv 2) pa_nil)) pe_int (nomark _)) (pw_or (pt_not (kt_tru K rfl (pe_callB (kc_is K rfl) rfl T.n_isinstance boot_isinstance (pa_con (pe_ix (ki_seq K rfl) (mv 2) pe_int (fun _ _ => rfl)) (pa_con (pe_bty rfl T.n_str boot_str) pa_nil))))) (pw_or1 (pt_not (kt_tru K rfl (pe_callB (kc_is K rfl) rfl T.n_isinstance boot_isinstance (pa_con (pe_ix (ki_seq K rfl) (mv 2) pe_int (fun _ _ => rfl)) (pa_con (pe_bty rfl T.n_tuple boot_tuple) pa_nil))))))))) (pss_one (ps_ret pe_bl)) pss_nil) (pss_one (ps_expr (ke_bm K rfl PySem.F.plainAttrs_list PySem.F.slot_list_extend PySem.F.type_list_extend (km_extend K rfl) (mv 1) (pa_con (pe_ix (ki_seq K rfl) (mv 2) pe_int (fun _ _ => rfl)) pa_nil))))) (pss_one (ps_if (PW.pt (pw_or (mt_cmp mo_ne (pe_ix (ki_seq K rfl) (mv 2) pe_int (fun _ _ => rfl)) pe_str (nomark _)) (pw_or (mt_cmp mo_ne (pe_callB (kc_len K rfl) rfl T.n_len PySem.boot_len (pa_con (mv 2) pa_nil)) pe_int (nomark _)) (pw_or1 (pt_not (kt_tru K rfl (pe_callB (kc_is K rfl) rfl T.n_isinstance boot_isinstance (pa_con (pe_ix (ki_seq K rfl) (mv 2) pe_int (fun _ _ => rfl)) (pa_con (pe_bty rfl T.n_str boot_str) pa_nil))))))))) (pss_one (ps_ret pe_bl)) pss_nil))))))))) (pss_one (ps_ret pe_bl)))), ?_⟩
  rename_i v
  obtain ⟨t0, hd, hz, q⟩ := h
  walk_at "stp"
  refine ⟨ln (by show 1 ≤ 100000; decide), fun p hp => ?_⟩
  have sp : Same H (upd H p (.lst [v])) := same_new hp _
  have kp : (upd H p (.lst [v])) p = some (.lst [v]) := upd_same
  generalize upd H p (.lst [v]) = H1 at sp kp ⊢
  walk_at "stp"
  refine while_row (fun n σ' H' => ∃ (us : List V) (ts : List Trm) (o : Option V), σ' = [some v, some (.ref p), o] ∧ H' p = some (.lst us) ∧ DenL K H' us (Trm.dataL ts) ∧ Trm.sizeL ts ≤ 1000 ∧ n = Trm.sizeL ts ∧ Same H H') t0.size ⟨[v], [t0], none, rfl, kp, .cons (hd.mono sp) .nil, by simp [Trm.sizeL]; omega, by simp [Trm.sizeL], sp⟩ (fun n σ' H' R hP kT kF => ?_)
  obtain ⟨us, ts, o, rfl, h1, h2, h3, h4, h5⟩ := hP
  walk_at "stp"
  refine mLen_l (SqL.of h1) ?_
  walk_at "stp"
  rcases nil_or_snoc' ts with rfl | ⟨ts', t1, rfl⟩
  · have e := h2.nil_inv
    subst e
    refine kF H' ?_
    walk_at "stp"
    exact q H' h5
  · rw [Trm.dataL_map, List.map_append, ← Trm.dataL_map] at h2
    obtain ⟨us', u, rfl, g1, g2⟩ := DenL.snoc h2
    rw [Trm.sizeL_app] at h3 h4
    have s1 : Trm.sizeL [t1] = t1.size := by simp [Trm.sizeL]
    rw [s1] at h3 h4
    have hul := g1.length
    rw [Trm.dataL_map, List.length_map] at hul
    have htl := Trm.len_le ts'
    rw [decide_eq_true (show (0 : Int) < ((us' ++ [u]).length : Int) by rw [List.length_append, List.length_singleton]; omega)]
    refine kT H' (fun D' e1 e2 hnx hct => ?_)
    walk_at "stp"
    refine ⟨.inl ⟨rfl, _, SqL.of h1⟩, ?_⟩
    refine mPop_i h1 ?_
    walk_at "stp"
    have f1 : DenL K (upd H' p (.lst us')) us' (Trm.dataL ts') := g1.lst h1
    have f2 : Den K (upd H' p (.lst us')) u t1.data := g2.lst h1
    have f3 : Same H (upd H' p (.lst us')) := same_upd h5 hp
    have f4 : (upd H' p (.lst us')) p = some (.lst us') := upd_same
    generalize upd H' p (.lst us') = J at f1 f2 f3 f4 ⊢
    have tp := t1.size_pos
    cases t1 with
    | num m =>
      obtain ⟨a, rfl, hs⟩ := den_num f2
      refine is_tup hs ?_
      walk_at "stp"
      refine iteF ?_
      walk_at "stp"
      refine mLen_t hs ?_
      walk_at "stp"
      refine iteB (fun e => absurd e (by simp)) (fun e => ?_)
      walk_at "stp"
      refine mIx_t hs (v := .str numS) rfl ?_
      walk_at "stp"
      refine iteF ?_
      walk_at "stp"
      refine mIx_t hs (v := .str numS) rfl ?_
      walk_at "stp"
      rw [Bool.false_xor, q7]
      refine iteT ?_
      walk_at "stp"
      refine mLen_t hs ?_
      walk_at "stp"
      refine iteB (fun e => absurd e (by simp)) (fun e => ?_)
      walk_at "stp"
      refine mIx_t hs (v := .int m) rfl ?_
      walk_at "stp"
      refine iteF ?_
      walk_at "stp"
      refine mIx_t hs (v := .int m) rfl ?_
      walk_at "stp"
      refine iteF ?_
      walk_at "stp"
      exact hnx _ _ (Trm.sizeL ts') (by omega) ⟨us', ts', _, rfl, f4, f1, by omega, rfl, f3⟩
    | any m =>
      obtain ⟨a, rfl, hs⟩ := den_any f2
      refine is_tup hs ?_
      walk_at "stp"
      refine iteF ?_
      walk_at "stp"
      refine mLen_t hs ?_
      walk_at "stp"
      refine iteB (fun e => absurd e (by simp)) (fun e => ?_)
      walk_at "stp"
      refine mIx_t hs (v := .str anyS) rfl ?_
      walk_at "stp"
      refine iteF ?_
      walk_at "stp"
      refine mIx_t hs (v := .str anyS) rfl ?_
      walk_at "stp"
      refine iteB (fun e => absurd e (by decide +kernel)) (fun e => ?_)
      walk_at "stp"
      refine mIx_t hs (v := .str anyS) rfl ?_
      walk_at "stp"
      rw [Bool.false_xor, q5]
      refine iteF ?_
      walk_at "stp"
      refine mIx_t hs (v := .str anyS) rfl ?_
      walk_at "stp"
      refine iteB (fun e => absurd e (by decide +kernel)) (fun e => ?_)
      walk_at "stp"
      refine mLen_t hs ?_
      walk_at "stp"
      refine iteB (fun e => absurd e (by simp)) (fun e => ?_)
      walk_at "stp"
      refine mIx_t hs (v := .str m) rfl ?_
      walk_at "stp"
      refine iteF ?_
      walk_at "stp"
      exact hnx _ _ (Trm.sizeL ts') (by omega) ⟨us', ts', _, rfl, f4, f1, by omega, rfl, f3⟩
    | app sg ks =>
      obtain ⟨a, b, ku, rfl, hs, hb, hk⟩ := den_app f2
      have hkl := hk.length
      rw [Trm.dataL_map, List.length_map] at hkl
      have hk2 := Trm.len_le ks
      refine is_tup hs ?_
      walk_at "stp"
      refine iteF ?_
      walk_at "stp"
      refine mLen_t hs ?_
      walk_at "stp"
      refine iteB (fun e => absurd e (by simp)) (fun e => ?_)
      walk_at "stp"
      refine mIx_t hs (v := .str appS) rfl ?_
      walk_at "stp"
      refine iteF ?_
      walk_at "stp"
      refine mIx_t hs (v := .str appS) rfl ?_
      walk_at "stp"
      refine iteB (fun e => absurd e (by decide +kernel)) (fun e => ?_)
      walk_at "stp"
      refine mIx_t hs (v := .str appS) rfl ?_
      walk_at "stp"
      rw [Bool.false_xor, q6]
      refine iteT ?_
      walk_at "stp"
      refine mLen_t hs ?_
      walk_at "stp"
      refine iteB (fun e => absurd e (by simp)) (fun e => ?_)
      walk_at "stp"
      refine mIx_t hs (v := .str sg) rfl ?_
      walk_at "stp"
      refine iteF ?_
      walk_at "stp"
      refine mIx_t hs (v := .ref b) rfl ?_
      walk_at "stp"
      refine is_tup hb ?_
      walk_at "stp"
      refine iteF ?_
      walk_at "stp"
      refine ⟨.inl ⟨rfl, _, SqL.of f4⟩, ?_⟩
      walk_at "stp"
      refine mIx_t hs (v := .ref b) rfl ?_
      walk_at "stp"
      simp only [Trm.size] at h3 h4
      refine mExt_t f4 hb (ln (by omega)) ?_
      refine hnx _ _ (Trm.sizeL (ts' ++ ks)) (by rw [Trm.sizeL_app]; omega) ⟨us' ++ ku, ts' ++ ks, _, rfl, upd_same, ?_, by rw [Trm.sizeL_app]; omega, rfl, same_upd f3 hp⟩
      rw [Trm.dataL_map, List.map_append, ← Trm.dataL_map, ← Trm.dataL_map]
      exact (f1.append hk).lst f4
theorem app_den {K : PySem.W.Frag} {H : Hp} {p q : Addr} {sg : Str} {us : List V} {ks : List Trm} (h : SqT K H p [.str (Str.ofString "app"), .str sg, .ref q]) (hq : SqT K H q us) (hd : DenL K H us (Trm.dataL ks)) : Den K H (.ref p) (Trm.app sg ks).data := .tup h (.cons (.str _) (.cons (.str _) (.cons (.tup hq hd) .nil)))
theorem num_den {K : PySem.W.Frag} {H : Hp} {p : Addr} {n : Int} (h : SqT K H p [.str (Str.ofString "num"), .int n]) : Den K H (.ref p) (Trm.num n).data := .tup h (.cons (.str _) (.cons (.int _) .nil))
theorem any_den {K : PySem.W.Frag} {H : Hp} {p : Addr} {x : Str} (h : SqT K H p [.str (Str.ofString "any"), .str x]) : Den K H (.ref p) (Trm.any x).data := .tup h (.cons (.str _) (.cons (.str _) .nil))
theorem four_at {ws : List Str} (h : ws.length = 4) {i : Int} (h0 : 0 ≤ i) (h1 : i < 4) : ∃ x, atI (ws.map V.str) i = some (.str x) ∧ x ∈ ws := by
  obtain ⟨v, hv, _⟩ := atI_lt (xs := ws.map V.str) h0 (by rw [List.length_map, h]; exact h1)
  obtain ⟨x, rfl, hx⟩ := strs_at hv
  exact ⟨x, hv, hx⟩
theorem ok_l_leaf (T : Txt K mg t) (G_l_number : FnOk P w K mg base CX0 1 t.a_l_number t.d_l_number ["_law_cell_here"] (sp_l_number)) : FnOk P w K mg base CX0 2 t.a_l_leaf t.d_l_leaf ["_law_cell_here", "_law_words"] (sp_l_leaf K) := by
  refine T.F_l_leaf.ok sc_l_leaf (fun vs H Q E h => ?_) (fun cdv A outer s H vs Q E hr h => ?_)
  · unfold sp_l_leaf at h
    split at h
    · rfl
    · exact h.elim
  unfold sp_l_leaf at h
  split at h
  rotate_left
  · exact h.elim
  refine ⟨_, (pss_cons (ps_if (mt_cmp mo_eq (pe_op mo_mod (mv 0) pe_int) pe_int (nomark _)) (pss_one (ps_ret (pe_tup (pa_con pe_str (pa_con (pe_call G_l_number (hr.mono (by first | decide | omega)) rfl T.m_l_number T.F_l_number.kp T.b_l_number .nil pass0 (pa_con (pe_op mo_fdiv (mv 0) pe_int) pa_nil)) pa_nil))))) pss_nil) (pss_one (ps_ret (pe_tup (pa_con pe_str (pa_con (pe_ix (ki_seq K rfl) (mv 1) (pe_op mo_mod (pe_op mo_fdiv (mv 0) pe_int) pe_int) (fun _ _ => rfl)) (pa_con (pe_tup pa_nil) pa_nil))))))), ?_⟩
  rename_i c wp
  obtain ⟨ws, hW, hl, q⟩ := h
  walk_at "stp"
  refine iteB (fun e => ?_) (fun e => ?_)
  · walk_at "stp"
    intro n
    walk_at "stp"
    refine ⟨ln (by show 2 ≤ 100000; decide), fun p hp => ?_⟩
    exact q _ (.num n) _ (same_new hp _) (num_den (SqT.of upd_same)) rfl
  · walk_at "stp"
    obtain ⟨x, hx, _⟩ := four_at hl (i := c / 2 % 4) (by omega) (by omega)
    refine mIx_l hW hx ?_
    walk_at "stp"
    refine ⟨ln (by show 0 ≤ 100000; decide), fun p1 hp1 => ?_⟩
    have sp1 : Same H (upd H p1 (.tup [])) := same_new hp1 _
    have kp1 : (upd H p1 (.tup [])) p1 = some (.tup []) := upd_same
    generalize upd H p1 (.tup []) = H1 at sp1 kp1 ⊢
    walk_at "stp"
    refine ⟨ln (by show 3 ≤ 100000; decide), fun p hp => ?_⟩
    have s2 := same_new hp (.tup [.str (Str.ofString "app"), .str x, .ref p1])
    exact q _ (.app x []) _ (sp1.trans s2) (app_den (SqT.of upd_same) (SqT.of (s2 _ _ kp1)) .nil) rfl
theorem ok_l_flat (T : Txt K mg t) (G_l_leaf : FnOk P w K mg base CX0 2 t.a_l_leaf t.d_l_leaf ["_law_cell_here", "_law_words"] (sp_l_leaf K)) : FnOk P w K mg base CX0 3 t.a_l_flat t.d_l_flat ["_law_cell_here", "_law_cells", "_law_words"] (sp_l_flat K) := by
  refine T.F_l_flat.ok sc_l_flat (fun vs H Q E h => ?_) (fun cdv A outer s H vs Q E hr h => ?_)
  · unfold sp_l_flat at h
    split at h
    · rfl
    · exact h.elim
  unfold sp_l_flat at h
  split at h
  rotate_left
  · exact h.elim
  refine ⟨_, (pss_cons (ps_if (mt_cmp mo_lt (pe_op mo_mod (mv 0) pe_int) pe_int (nomark _)) (pss_one (ps_ret (pe_call G_l_leaf (hr.mono (by first | decide | omega)) rfl T.m_l_leaf T.F_l_leaf.kp T.b_l_leaf .nil pass0 (pa_con (pe_op mo_fdiv (mv 0) pe_int) (pa_con (mv 2) pa_nil))))) pss_nil) (pss_cons (ps_comp (i := 3) sc_l_flat.nd rfl (by first | exact Or.inl rfl | exact Or.inr rfl) rfl (kpi_list K rfl (pe_slice (ks_list K rfl) (mv 1) po_none (mp_some (pe_op mo_mod (pe_op mo_fdiv (mv 0) pe_int) pe_int)))) (comp_sc (defScope s_l_flat) ["_law_cell_here", "_law_cells", "_law_words", "_law_kids"] ["_law_cell_here", "_law_cells", "_law_words", "_law_kids"] rfl rfl (by decide +kernel)) (fun _ _ _ _ _ => pts_nil) (fun _ _ _ _ _ => (pe_call G_l_leaf (hr.mono (by first | decide | omega)) rfl T.m_l_leaf T.F_l_leaf.kp T.b_l_leaf .nil pass0 (pa_con (mv 0) (pa_con (mv 3) pa_nil))))) (pss_cons (ps_if (PW.pt (pw_and (mt_cmp mo_eq (pe_callB (kc_len K rfl) rfl T.n_len PySem.boot_len (pa_con (mv 3) pa_nil)) pe_int (nomark _)) (pw_and1 (mt_cmp mo_eq (pe_op mo_mod (mv 0) pe_int) pe_int (nomark _))))) (pss_one (ps_ret (pe_tup (pa_con pe_str (pa_con (pe_ix (ki_seq K rfl) (pe_lst (pa_con pe_str (pa_con pe_str (pa_con pe_str (pa_con pe_str pa_nil))))) (pe_op mo_mod (pe_op mo_fdiv (mv 0) pe_int) pe_int) (fun _ _ => rfl)) (pa_con (pe_callTy (kc_tuple K rfl) rfl T.n_tuple boot_tuple (pa_con (mv 3) pa_nil)) pa_nil)))))) pss_nil) (pss_one (ps_ret (pe_tup (pa_con pe_str (pa_con (pe_ix (ki_seq K rfl) (mv 2) (pe_op mo_mod (pe_op mo_fdiv (mv 0) pe_int) pe_int) (fun _ _ => rfl)) (pa_con (pe_callTy (kc_tuple K rfl) rfl T.n_tuple boot_tuple (pa_con (mv 3) pa_nil)) pa_nil))))))))), ?_⟩
  rename_i c cp wp
  obtain ⟨cs, ws, hC, hl4, hW, hl, q⟩ := h
  walk_at "stp"
  refine iteB (fun e => ?_) (fun e => ?_)
  · walk_at "stp"
    exact ⟨ws, hW, hl, fun v t H1 s1 d1 l1 => q v t H1 s1 d1 (leaf_lfy l1)⟩
  walk_at "stp"
  refine ⟨cp, _, rfl, hC, fun p1 hp1 => ?_⟩
  rw [cut_to _ _ (by omega), ← List.map_take]
  have s1 : Same H (upd H p1 (.lst ((cs.take (c / 5 % 5).toNat).map V.int))) := same_new hp1 _
  have k1 : (upd H p1 (.lst ((cs.take (c / 5 % 5).toNat).map V.int))) p1 = some (.lst ((cs.take (c / 5 % 5).toNat).map V.int)) := upd_same
  generalize upd H p1 (.lst ((cs.take (c / 5 % 5).toNat).map V.int)) = H1 at s1 k1 ⊢
  have hcl : (cs.take (c / 5 % 5).toNat).length ≤ 4 := by rw [List.length_take]; omega
  generalize cs.take (c / 5 % 5).toNat = cs' at k1 hcl
  walk_at "stp"
  refine ⟨p1, rfl, ⟨_, SqL.of k1⟩, fun D hD => ?_⟩
  refine comp_row (row_list (xs := cs'.map V.int)) (fun i ys H' => Same H1 H' ∧ H' D = some (.lst ys) ∧ ∃ ts : List Trm, DenL K H' ys (Trm.dataL ts) ∧ ts.all leaf = true) (ln (by rw [List.length_map]; omega)) ⟨same_new hD _, upd_same, [], .nil, rfl⟩ (fun i ys H' hP => SqL.of (hP.1 _ _ k1)) (fun i ys H' Q' hi hl' hP k => ?_) (fun ys H2 hl' hP => ?_)
  · obtain ⟨g1, g2, ts, g4, g5⟩ := hP
    obtain ⟨n, hn⟩ := ints_get hi
    rw [hn]
    walk_at "stp"
    refine ⟨ws, (s1.trans g1).seq hW, hl, fun v t J sJ dJ lJ => ?_⟩
    refine k v J (sJ _ _ g2) ⟨same_upd (g1.trans sJ) hD, upd_same, ts ++ [t], ?_, by rw [List.all_append, g5]; simp [lJ]⟩
    rw [dataL_app]
    exact ((g4.mono sJ).append (.cons dJ .nil)).lst (sJ _ _ g2)
  obtain ⟨g1, g2, ts, g4, g5⟩ := hP
  have hty := g4.length
  rw [Trm.dataL_map, List.length_map] at hty
  have hyl : ys.length ≤ 4 := by rw [hl', List.length_map]; exact hcl
  have s02 := s1.trans g1
  walk_at "stp"
  refine mLen_l (SqL.of g2) ?_
  walk_at "stp"
  have last : ∀ J, J = H2 → True := fun _ _ => trivial
  refine iteB (fun e1 => ?_) (fun e1 => ?_)
  rotate_left
  · walk_at "stp"
    refine iteF ?_
    walk_at "stp"
    obtain ⟨x, hx, _⟩ := four_at hl (i := c / 25 % 4) (by omega) (by omega)
    refine mIx_l (s02.seq hW) hx ?_
    walk_at "stp"
    refine ⟨D, _, rfl, .inl ⟨SqL.of g2, fun l hl2 => ?_⟩⟩
    have s5 := same_new hl2 (.tup ys)
    walk_at "stp"
    refine ⟨ln (by show 3 ≤ 100000; decide), fun p hp => ?_⟩
    have s6 := same_new hp (.tup [.str (Str.ofString "app"), .str x, .ref l])
    exact q _ (.app x ts) _ (s02.trans (s5.trans s6)) (app_den (SqT.of upd_same) (SqT.of (s6 _ _ upd_same)) (g4.mono (s5.trans s6))) (lfy_mk g5 (by omega))
  walk_at "stp"
  refine iteB (fun e2 => ?_) (fun e2 => ?_)
  rotate_left
  · walk_at "stp"
    obtain ⟨x, hx, _⟩ := four_at hl (i := c / 25 % 4) (by omega) (by omega)
    refine mIx_l (s02.seq hW) hx ?_
    walk_at "stp"
    refine ⟨D, _, rfl, .inl ⟨SqL.of g2, fun l hl2 => ?_⟩⟩
    have s5 := same_new hl2 (.tup ys)
    walk_at "stp"
    refine ⟨ln (by show 3 ≤ 100000; decide), fun p hp => ?_⟩
    have s6 := same_new hp (.tup [.str (Str.ofString "app"), .str x, .ref l])
    exact q _ (.app x ts) _ (s02.trans (s5.trans s6)) (app_den (SqT.of upd_same) (SqT.of (s6 _ _ upd_same)) (g4.mono (s5.trans s6))) (lfy_mk g5 (by omega))
  walk_at "stp"
  refine ⟨ln (by show 4 ≤ 100000; decide), fun p3 hp3 => ?_⟩
  have sp3 : Same H2 (upd H2 p3 (.lst [.str (Str.ofString "[|]"), .str (Str.ofString "<"), .str (Str.ofString "="), .str (Str.ofString "-")])) := same_new hp3 _
  have kp3 : (upd H2 p3 (.lst [.str (Str.ofString "[|]"), .str (Str.ofString "<"), .str (Str.ofString "="), .str (Str.ofString "-")])) p3 = some (.lst [.str (Str.ofString "[|]"), .str (Str.ofString "<"), .str (Str.ofString "="), .str (Str.ofString "-")]) := upd_same
  generalize upd H2 p3 (.lst [.str (Str.ofString "[|]"), .str (Str.ofString "<"), .str (Str.ofString "="), .str (Str.ofString "-")]) = H3 at sp3 kp3 ⊢
  walk_at "stp"
  obtain ⟨x, hx, _⟩ := four_at (ws := [Str.ofString "[|]", Str.ofString "<", Str.ofString "=", Str.ofString "-"]) rfl (i := c / 25 % 4) (by omega) (by omega)
  refine mIx_l (SqL.of kp3) hx ?_
  walk_at "stp"
  refine ⟨D, _, rfl, .inl ⟨SqL.of (sp3 _ _ g2), fun l hl2 => ?_⟩⟩
  have s5 := same_new hl2 (.tup ys)
  walk_at "stp"
  refine ⟨ln (by show 3 ≤ 100000; decide), fun p hp => ?_⟩
  have s6 := same_new hp (.tup [.str (Str.ofString "app"), .str x, .ref l])
  exact q _ (.app x ts) _ ((s02.trans sp3).trans (s5.trans s6)) (app_den (SqT.of upd_same) (SqT.of (s6 _ _ upd_same)) ((g4.mono sp3).mono (s5.trans s6))) (lfy_mk g5 (by omega))
theorem ok_l_head (T : Txt K mg t)  : FnOk P w K mg base CX0 1 t.a_l_head t.d_l_head ["_law_term"] (sp_l_head K) := by
  refine T.F_l_head.ok sc_l_head (fun vs H Q E h => ?_) (fun cdv A outer s H vs Q E hr h => ?_)
  · unfold sp_l_head at h
    split at h
    · rfl
    · exact h.elim
  unfold sp_l_head at h
  split at h
  rotate_left
  · exact h.elim
  refine ⟨_, (pss_cons (ps_if (mt_cmp mo_eq (pe_ix (ki_seq K rfl) (mv 0) pe_int (fun _ _ => rfl)) pe_str (nomark _)) (pss_one (ps_ret (mv 0))) pss_nil) (pss_one (ps_ret (pe_tup (pa_con pe_str (pa_con (pe_ix (ki_seq K rfl) (mv 0) pe_int (fun _ _ => rfl)) (pa_con (pe_callB (kc_len K rfl) rfl T.n_len PySem.boot_len (pa_con (pe_ix (ki_seq K rfl) (mv 0) pe_int (fun _ _ => rfl)) pa_nil)) pa_nil))))))), ?_⟩
  rename_i v
  obtain ⟨t0, hd, hf, q⟩ := h
  cases t0 with
  | num m =>
    obtain ⟨a, rfl, hs⟩ := den_num hd
    walk_at "stp"
    refine mIx_t hs (v := .str numS) rfl ?_
    walk_at "stp"
    rw [Bool.false_xor, q7]
    refine iteT ?_
    walk_at "stp"
    exact q _ H (Same.refl H) hd
  | any y => cases hf
  | app sg ks =>
    obtain ⟨a, b, us, rfl, hs, hb, hk⟩ := den_app hd
    have hl := hk.length
    rw [Trm.dataL_map, List.length_map] at hl
    walk_at "stp"
    refine mIx_t hs (v := .str appS) rfl ?_
    walk_at "stp"
    rw [Bool.false_xor, q8]
    refine iteF ?_
    walk_at "stp"
    refine mIx_t hs (v := .str sg) rfl ?_
    walk_at "stp"
    refine mIx_t hs (v := .ref b) rfl ?_
    walk_at "stp"
    refine mLen_t hb ?_
    walk_at "stp"
    refine ⟨ln (by show 3 ≤ 100000; decide), fun p hp => q _ _ (same_new hp _) ?_⟩
    rw [hl]
    exact .tup (SqT.of upd_same) (.cons (.str _) (.cons (.str _) (.cons (.int _) .nil)))
end
section
variable {P : Program} {w : World} {K : PySem.W.Frag} {mg : Str → Option Value} {base : Heap} {t : Ad}
theorem set_sizeL : ∀ {ks : List Trm} {i : Nat} {t : Trm}, i < ks.length → Trm.sizeL (ks.set i t) ≤ Trm.sizeL ks + t.size
  | [], i, t, h => by simp at h
  | k :: r, 0, t, h => by simp only [List.set_cons_zero, Trm.sizeL]; omega
  | k :: r, i + 1, t, h => by
    have := set_sizeL (ks := r) (i := i) (t := t) (by simpa using h)
    simp only [List.set_cons_succ, Trm.sizeL]
    omega
theorem set_den {K : PySem.W.Frag} {H : Hp} : ∀ {us : List V} {ks : List Trm} {i : Nat} {u : V} {t : Trm}, DenL K H us (Trm.dataL ks) → Den K H u t.data → DenL K H (us.set i u) (Trm.dataL (ks.set i t))
  | [], [], i, u, t, .nil, d => by simp only [List.set_nil]; exact .nil
  | [], _ :: _, _, _, _, h, _ => by cases h
  | _ :: _, [], _, _, _, h, _ => by cases h
  | _ :: us, k :: ks, 0, u, t, .cons h r, d => .cons d r
  | _ :: us, k :: ks, i + 1, u, t, .cons h r, d => .cons h (set_den r d)
theorem mem_set {ks : List Trm} {i : Nat} {t k : Trm} (h : k ∈ ks.set i t) : k ∈ ks ∨ k = t := by
  rcases List.mem_or_eq_of_mem_set h with z | z
  · exact .inl z
  · exact .inr z
theorem init_size {ks : List Trm} : Trm.sizeL ks.dropLast ≤ Trm.sizeL ks := by
  have e := Trm.sizeL_app (ks.take (ks.length - 1)) (ks.drop (ks.length - 1))
  rw [List.take_append_drop] at e
  rw [List.dropLast_eq_take]
  omega
noncomputable def OffP (K : PySem.W.Frag) (H : Hp) (a wp l : Addr) (c : Int) (ks : List Trm) (σ' : L2.St) (J : Hp) : Prop := ∃ (o5 : Option V) (us' : List V) (ks' : List Trm), σ' = [some (.ref a), some (.int c), some (.ref wp), some (.ref l), some (.int (c % 4)), o5, none] ∧ Same H J ∧ J l = some (.lst us') ∧ DenL K J us' (Trm.dataL ks') ∧ (∀ k ∈ ks', gr k = true) ∧ Trm.sizeL ks' ≤ 8 ∧ (ks = [] → Trm.sizeL ks' ≤ 1)
theorem st_l_off (T : Txt K mg t)  (n : Nat) (G_l_off : FnOk P w K mg base CX0 (n + 1) t.a_l_off t.d_l_off ["_law_term", "_law_cell_here", "_law_words"] (sp_l_off K n)) : FnOk P w K mg base CX0 (n + 1 + 1) t.a_l_off t.d_l_off ["_law_term", "_law_cell_here", "_law_words"] (sp_l_off K (n + 1)) := by
  refine T.F_l_off.ok (k := n + 1) sc_l_off (fun vs H Q E h => ?_) (fun cdv A outer s H vs Q E hr h => ?_)
  · unfold sp_l_off at h
    split at h
    · rfl
    · exact h.elim
  unfold sp_l_off at h
  split at h
  rotate_left
  · exact h.elim
  refine ⟨_, (pss_cons (ps_if (mt_cmp mo_eq (pe_ix (ki_seq K rfl) (mv 0) pe_int (fun _ _ => rfl)) pe_str (nomark _)) (pss_one (ps_ret (pe_tup (pa_con pe_str (pa_con (pe_op (ko_add K rfl) (pe_ix (ki_seq K rfl) (mv 0) pe_int (fun _ _ => rfl)) (pe_ix (ki_seq K rfl) (pe_lst (pa_con pe_int (pa_con (pe_un mu_neg pe_int) pa_nil))) (pe_callTy mc_int rfl T.n_int boot_int (pa_con (pe_cmpR mo_gt (pe_ix (ki_seq K rfl) (mv 0) pe_int (fun _ _ => rfl)) pe_int (nomark _)) pa_nil)) (fun _ _ => rfl))) pa_nil))))) pss_nil) (pss_cons (ps_set (i := 3) (hs := sw_call) sc_l_off.nd rfl (by first | exact Or.inl rfl | exact Or.inr rfl) (pe_callTy (kc_list K rfl) rfl T.n_list boot_list (pa_con (pe_ix (ki_seq K rfl) (mv 0) pe_int (fun _ _ => rfl)) pa_nil))) (pss_cons (ps_set (i := 4) (hs := sw_bin) sc_l_off.nd rfl (by first | exact Or.inl rfl | exact Or.inr rfl) (pe_op mo_mod (mv 1) pe_int)) (pss_cons (ps_if (PW.pt (pw_and (mt_cmp mo_eq (mv 4) pe_int (nomark _)) (pw_and1 (mt_cmp mo_gt (pe_callB (kc_len K rfl) rfl T.n_len PySem.boot_len (pa_con (mv 3) pa_nil)) pe_int (nomark _))))) (pss_cons (ps_set (i := 5) (hs := sw_bin) sc_l_off.nd rfl (by first | exact Or.inl rfl | exact Or.inr rfl) (pe_op mo_mod (pe_op mo_fdiv (mv 1) pe_int) (pe_callB (kc_len K rfl) rfl T.n_len PySem.boot_len (pa_con (mv 3) pa_nil)))) (pss_one (ps_asg (pe_call G_l_off (hr.mono (by first | decide | omega)) rfl T.m_l_off T.F_l_off.kp T.b_l_off .nil pass0 (pa_con (pe_ix (ki_seq K rfl) (mv 3) (mv 5) (fun _ _ => rfl)) (pa_con (pe_op (ko_add K rfl) pe_int (pe_op mo_fdiv (mv 1) pe_int)) (pa_con (mv 2) pa_nil)))) (pg_sub (mv 3) (mv 5) set_list)))) (pss_one (ps_if (PW.pt (pw_and (mt_cmp mo_eq (mv 4) pe_int (nomark _)) (pw_and1 (mt_cmp mo_gt (pe_callB (kc_len K rfl) rfl T.n_len PySem.boot_len (pa_con (mv 3) pa_nil)) pe_int (nomark _))))) (pss_one (ps_expr (ke_bm0 K rfl PySem.F.plainAttrs_list PySem.F.slot_list_pop PySem.F.type_list_pop mm_pop (mv 3)))) (pss_one (ps_if (PW.pt (pw_and (mt_cmp mo_eq (mv 4) pe_int (nomark _)) (pw_and1 (mt_cmp mo_lt (pe_callB (kc_len K rfl) rfl T.n_len PySem.boot_len (pa_con (mv 3) pa_nil)) pe_int (nomark _))))) (pss_one (ps_expr (ke_bm K rfl PySem.F.plainAttrs_list PySem.F.slot_list_insert PySem.F.type_list_insert mm_insert (mv 3) (pa_con (pe_op mo_mod (pe_op mo_fdiv (mv 1) pe_int) (pe_op (ko_add K rfl) (pe_callB (kc_len K rfl) rfl T.n_len PySem.boot_len (pa_con (mv 3) pa_nil)) pe_int)) (pa_con (pe_tup (pa_con pe_str (pa_con (pe_op mo_mod (pe_op mo_fdiv (mv 1) pe_int) pe_int) pa_nil))) pa_nil))))) pss_nil))))) (pss_cons (ps_if (PW.pt (pw_and (mt_cmp (ko_neLs K rfl (room150 hr)) (mv 3) (pe_callTy (kc_list K rfl) rfl T.n_list boot_list (pa_con (pe_ix (ki_seq K rfl) (mv 0) pe_int (fun _ _ => rfl)) pa_nil)) (nomark _)) (pw_and1 (PW.pt (pw_or (mt_cmp (ko_inV K rfl) (pe_ix (ki_seq K rfl) (mv 0) pe_int (fun _ _ => rfl)) (mv 2) (by with_unfolding_all rfl)) (pw_or1 (mt_cmp mo_eq (pe_callB (kc_len K rfl) rfl T.n_len PySem.boot_len (pa_con (mv 3) pa_nil)) pe_int (nomark _)))))))) (pss_one (ps_ret (pe_tup (pa_con pe_str (pa_con (pe_ix (ki_seq K rfl) (mv 0) pe_int (fun _ _ => rfl)) (pa_con (pe_callTy (kc_tuple K rfl) rfl T.n_tuple boot_tuple (pa_con (mv 3) pa_nil)) pa_nil)))))) pss_nil) (pss_cons (ps_set (i := 6) (hs := sw_sub) sc_l_off.nd rfl (by first | exact Or.inl rfl | exact Or.inr rfl) (pe_ix (ki_seq K rfl) (mv 2) (pe_op mo_mod (pe_op mo_fdiv (mv 1) pe_int) pe_int) (fun _ _ => rfl))) (pss_cons (ps_if (mt_cmp mo_eq (mv 6) (pe_ix (ki_seq K rfl) (mv 0) pe_int (fun _ _ => rfl)) (nomark _)) (pss_one (ps_set (i := 6) (hs := sw_sub) sc_l_off.nd rfl (by first | exact Or.inl rfl | exact Or.inr rfl) (pe_ix (ki_seq K rfl) (mv 2) (pe_op mo_mod (pe_op (ko_add K rfl) (pe_op mo_fdiv (mv 1) pe_int) pe_int) pe_int) (fun _ _ => rfl)))) pss_nil) (pss_one (ps_ret (pe_tup (pa_con pe_str (pa_con (mv 6) (pa_con (pe_ix (ki_seq K rfl) (mv 0) pe_int (fun _ _ => rfl)) pa_nil))))))))))))), ?_⟩
  rename_i v c wp
  obtain ⟨t0, ws, hd, hf, hdp, hW, hl, q⟩ := h
  cases t0 with
  | any x => cases hf
  | num m =>
    obtain ⟨a, rfl, hs⟩ := den_num hd
    walk_at "stp"
    refine mIx_t hs (v := .str numS) rfl ?_
    walk_at "stp"
    rw [Bool.false_xor, q7]
    refine iteT ?_
    walk_at "stp"
    refine mIx_t hs (v := .int m) rfl ?_
    walk_at "stp"
    refine ⟨ln (by show 2 ≤ 100000; decide), fun p1 hp1 => ?_⟩
    have sp1 : Same H (upd H p1 (.lst [.int 1, .int (-1)])) := same_new hp1 _
    have kp1 : (upd H p1 (.lst [.int 1, .int (-1)])) p1 = some (.lst [.int 1, .int (-1)]) := upd_same
    generalize upd H p1 (.lst [.int 1, .int (-1)]) = H1 at sp1 kp1 ⊢
    walk_at "stp"
    refine mIx_t (sp1.tup hs) (v := .int m) rfl ?_
    walk_at "stp"
    obtain ⟨d, hd1⟩ : ∃ d : Int, atI [V.int 1, V.int (-1)] (if decide (0 < m) = true then 1 else 0) = some (.int d) := by
      split
      · exact ⟨-1, rfl⟩
      · exact ⟨1, rfl⟩
    refine mIx_l (SqL.of kp1) hd1 ?_
    walk_at "stp"
    refine ⟨ln (by show 2 ≤ 100000; decide), fun p hp => ?_⟩
    exact q _ (.num (m + d)) _ (sp1.trans (same_new hp _)) (num_den (SqT.of upd_same)) rfl (by show 1 ≤ 2; decide)
  | app sg ks =>
    obtain ⟨a, b, us, rfl, hs, hb, hk⟩ := den_app hd
    obtain ⟨hlf, hk4⟩ := lfy_app hf
    have hsz := leafs_size hlf
    have hul := hk.length
    rw [Trm.dataL_map, List.length_map] at hul
    have hlk : leaf (.app sg ks) = true → ks = [] := fun z => by
      cases ks with
      | nil => rfl
      | cons x r => cases z
    have hkl : ks = [] → leaf (.app sg ks) = true := fun z => by rw [z]; rfl
    have fin : ∀ (p q' : Addr) (s2 : Str) (us2 : List V) (ks2 : List Trm) (J : Hp), Same H J → SqT K J p [.str (Str.ofString "app"), .str s2, .ref q'] → SqT K J q' us2 → DenL K J us2 (Trm.dataL ks2) → (∀ k ∈ ks2, gr k = true) → Trm.sizeL ks2 ≤ 8 → (ks = [] → Trm.sizeL ks2 ≤ 1) → Q (.ref p) J := fun p q' s2 us2 ks2 J h1 h2 h3 h4 h5 h6 h7 => by
      refine q _ (.app s2 ks2) J h1 (app_den h2 h3 h4) (grL_of h5) ?_
      rw [Trm.size]
      split
      · rename_i e
        have := h7 (hlk e)
        omega
      · omega
    (with_reducible refine tSeq_i ?_)
    walk_at "stm"
    refine mIx_t hs (v := .str appS) rfl ?_
    walk_at "stm"
    rw [Bool.false_xor, q8]
    refine iteF ?_
    (with_reducible refine tNext_i ?_)
    (with_reducible refine tSeq_i ?_)
    walk_at "stm"
    refine mIx_t hs (v := .ref b) rfl ?_
    walk_at "stm"
    refine ⟨b, us, rfl, .inr hb, fun l hlf0 => ?_⟩
    have sl : Same H (upd H l (.lst us)) := same_new hlf0 _
    have kl : (upd H l (.lst us)) l = some (.lst us) := upd_same
    generalize upd H l (.lst us) = H1 at sl kl ⊢
    walk_at "stm"
    (with_reducible refine tSeq_i ?_)
    walk_at "stm"
    have hk1 := hk.mono sl
    (with_reducible refine seq_rest (OffP K H a wp l c ks) (fun σ' J hP => ?_) (fun kz => ?_))
    rotate_left
    · have same : Trm.sizeL ks ≤ 8 ∧ (ks = [] → Trm.sizeL ks ≤ 1) := ⟨by omega, fun z => by rw [z]; decide⟩
      have gks : ∀ k ∈ ks, gr k = true := fun k hk => leaf_gr (List.all_eq_true.mp hlf k hk)
      have SKIP : OffP K H a wp l c ks [some (.ref a), some (.int c), some (.ref wp), some (.ref l), some (.int (c % 4)), none, none] H1 := ⟨none, us, ks, rfl, sl, kl, hk1, gks, same.1, same.2⟩
      have INS : ∀ (J : Hp) (p : Addr) (x i : Int), Same H1 J → J p = some (.tup [.str (Str.ofString "num"), .int x]) → us.length < 4 → 0 ≤ i → i.toNat ≤ us.length → OffP K H a wp l c ks [some (.ref a), some (.int c), some (.ref wp), some (.ref l), some (.int (c % 4)), none, none] (upd J l (.lst (us.take i.toNat ++ .ref p :: us.drop i.toNat))) := fun J p x i h1 h2 h3 h4 h5 => by
        have kJ := h1 _ _ kl
        refine ⟨none, _, ks.take i.toNat ++ .num x :: ks.drop i.toNat, rfl, same_upd (sl.trans h1) hlf0, upd_same, ?_, fun k hk => ?_, ?_, fun z => ?_⟩
        · have hkJ := hk1.mono h1
          rw [dataL_app]
          refine DenL.lst kJ ?_
          have e1 : Trm.dataL (.num x :: ks.drop i.toNat) = (Trm.num x).data :: Trm.dataL (ks.drop i.toNat) := rfl
          rw [e1, ← dataL_take, ← dataL_drop]
          exact (hkJ.take _).append (.cons (num_den (SqT.of h2)) (hkJ.drop _))
        · rcases List.mem_append.mp hk with z | z
          · exact gks k (List.mem_of_mem_take z)
          · rcases List.mem_cons.mp z with rfl | z
            · rfl
            · exact gks k (List.mem_of_mem_drop z)
        · have := sizeL_cut ks i.toNat
          rw [Trm.sizeL_app, Trm.sizeL, show (Trm.num x).size = 1 from rfl]
          omega
        · rw [z]
          simp [Trm.sizeL, Trm.size]
      have POP : ks ≠ [] → ∃ us0 u0, us = us0 ++ [u0] ∧ OffP K H a wp l c ks [some (.ref a), some (.int c), some (.ref wp), some (.ref l), some (.int (c % 4)), none, none] (upd H1 l (.lst us0)) := fun z => by
        rcases nil_or_snoc' us with e | ⟨us0, u0, e⟩
        · rw [e] at hul
          exact absurd (List.length_eq_zero_iff.mp hul.symm) z
        refine ⟨us0, u0, e, none, us0, ks.dropLast, rfl, same_upd sl hlf0, upd_same, ?_, fun k hk => gks k ((List.dropLast_sublist ks).subset hk), ?_, fun z2 => absurd z2 z⟩
        · have := (hk1.take us0.length).lst (o := .lst us0) kl
          rw [e, List.take_left', dataL_take] at this
          · rw [List.dropLast_eq_take, show ks.length - 1 = us0.length by rw [← hul, e]; simp]
            exact this
          · rfl
        · have := init_size (ks := ks)
          omega
      walk_at "stm"
      refine iteB (fun e0 => ?_) (fun e0 => ?_)
      rotate_left
      · walk_at "stm"
        refine iteF ?_
        walk_at "stm"
        refine iteB (fun g1 => ?_) (fun g1 => ?_)
        rotate_left
        · walk_at "stm"
          refine iteF ?_
          walk_at "stm"
          refine iteB (fun f1 => ?_) (fun f1 => ?_)
          rotate_left
          · walk_at "stm"
            refine iteF ?_
            (with_reducible refine tNext_i ?_)
            exact kz _ _ SKIP
          walk_at "stm"
          refine mLen_l (SqL.of kl) ?_
          walk_at "stm"
          refine iteB (fun f2 => ?_) (fun f2 => ?_)
          rotate_left
          · (with_reducible refine tNext_i ?_)
            exact kz _ _ SKIP
          have f2 : (us.length : Int) < 4 := of_decide_eq_true f2
          walk_at "stm"
          refine ⟨.inl ⟨rfl, _, SqL.of kl⟩, ?_⟩
          walk_at "stm"
          refine mLen_l (SqL.of kl) ?_
          walk_at "stm"
          refine m2_i (show (0 : Int) < (us.length : Int) + 1 by omega) ?_
          have b1 := Int.emod_nonneg (c / 4) (show (us.length : Int) + 1 ≠ 0 by omega)
          have b2 := Int.emod_lt_of_pos (c / 4) (show 0 < (us.length : Int) + 1 by omega)
          walk_at "stm"
          refine ⟨ln (by show 2 ≤ 100000; decide), fun p2 hp2 => ?_⟩
          have s2 := same_new hp2 (.tup [.str (Str.ofString "num"), .int (c / 20 % 9)])
          walk_at "stm"
          refine mIns_i (s2 _ _ kl) b1 (by omega) (by omega) ?_
          exact kz _ _ (INS _ p2 _ _ s2 upd_same (by omega) b1 (by omega))
        walk_at "stm"
        refine mLen_l (SqL.of kl) ?_
        walk_at "stm"
        refine iteB (fun g2 => ?_) (fun g2 => ?_)
        rotate_left
        · walk_at "stm"
          refine iteB (fun f1 => ?_) (fun f1 => ?_)
          rotate_left
          · walk_at "stm"
            refine iteF ?_
            (with_reducible refine tNext_i ?_)
            exact kz _ _ SKIP
          walk_at "stm"
          refine mLen_l (SqL.of kl) ?_
          walk_at "stm"
          refine iteB (fun f2 => ?_) (fun f2 => ?_)
          rotate_left
          · (with_reducible refine tNext_i ?_)
            exact kz _ _ SKIP
          have f2 : (us.length : Int) < 4 := of_decide_eq_true f2
          walk_at "stm"
          refine ⟨.inl ⟨rfl, _, SqL.of kl⟩, ?_⟩
          walk_at "stm"
          refine mLen_l (SqL.of kl) ?_
          walk_at "stm"
          refine m2_i (show (0 : Int) < (us.length : Int) + 1 by omega) ?_
          have b1 := Int.emod_nonneg (c / 4) (show (us.length : Int) + 1 ≠ 0 by omega)
          have b2 := Int.emod_lt_of_pos (c / 4) (show 0 < (us.length : Int) + 1 by omega)
          walk_at "stm"
          refine ⟨ln (by show 2 ≤ 100000; decide), fun p2 hp2 => ?_⟩
          have s2 := same_new hp2 (.tup [.str (Str.ofString "num"), .int (c / 20 % 9)])
          walk_at "stm"
          refine mIns_i (s2 _ _ kl) b1 (by omega) (by omega) ?_
          exact kz _ _ (INS _ p2 _ _ s2 upd_same (by omega) b1 (by omega))
        have g2 : (0 : Int) < us.length := of_decide_eq_true g2
        obtain ⟨us0, u0, e0, pp⟩ := POP (fun z => by rw [z] at hul; simp at hul; rw [hul] at g2; exact absurd g2 (by decide))
        walk_at "stm"
        refine ⟨.inl ⟨rfl, _, SqL.of kl⟩, ?_⟩
        refine mPop_i (e0 ▸ kl) ?_
        exact kz _ _ pp
      walk_at "stm"
      refine mLen_l (SqL.of kl) ?_
      walk_at "stm"
      refine iteB (fun e1 => ?_) (fun e1 => ?_)
      rotate_left
      · walk_at "stm"
        refine iteB (fun g1 => ?_) (fun g1 => ?_)
        rotate_left
        · walk_at "stm"
          refine iteF ?_
          walk_at "stm"
          refine iteB (fun f1 => ?_) (fun f1 => ?_)
          rotate_left
          · walk_at "stm"
            refine iteF ?_
            (with_reducible refine tNext_i ?_)
            exact kz _ _ SKIP
          walk_at "stm"
          refine mLen_l (SqL.of kl) ?_
          walk_at "stm"
          refine iteB (fun f2 => ?_) (fun f2 => ?_)
          rotate_left
          · (with_reducible refine tNext_i ?_)
            exact kz _ _ SKIP
          have f2 : (us.length : Int) < 4 := of_decide_eq_true f2
          walk_at "stm"
          refine ⟨.inl ⟨rfl, _, SqL.of kl⟩, ?_⟩
          walk_at "stm"
          refine mLen_l (SqL.of kl) ?_
          walk_at "stm"
          refine m2_i (show (0 : Int) < (us.length : Int) + 1 by omega) ?_
          have b1 := Int.emod_nonneg (c / 4) (show (us.length : Int) + 1 ≠ 0 by omega)
          have b2 := Int.emod_lt_of_pos (c / 4) (show 0 < (us.length : Int) + 1 by omega)
          walk_at "stm"
          refine ⟨ln (by show 2 ≤ 100000; decide), fun p2 hp2 => ?_⟩
          have s2 := same_new hp2 (.tup [.str (Str.ofString "num"), .int (c / 20 % 9)])
          walk_at "stm"
          refine mIns_i (s2 _ _ kl) b1 (by omega) (by omega) ?_
          exact kz _ _ (INS _ p2 _ _ s2 upd_same (by omega) b1 (by omega))
        walk_at "stm"
        refine mLen_l (SqL.of kl) ?_
        walk_at "stm"
        refine iteB (fun g2 => ?_) (fun g2 => ?_)
        rotate_left
        · walk_at "stm"
          refine iteB (fun f1 => ?_) (fun f1 => ?_)
          rotate_left
          · walk_at "stm"
            refine iteF ?_
            (with_reducible refine tNext_i ?_)
            exact kz _ _ SKIP
          walk_at "stm"
          refine mLen_l (SqL.of kl) ?_
          walk_at "stm"
          refine iteB (fun f2 => ?_) (fun f2 => ?_)
          rotate_left
          · (with_reducible refine tNext_i ?_)
            exact kz _ _ SKIP
          have f2 : (us.length : Int) < 4 := of_decide_eq_true f2
          walk_at "stm"
          refine ⟨.inl ⟨rfl, _, SqL.of kl⟩, ?_⟩
          walk_at "stm"
          refine mLen_l (SqL.of kl) ?_
          walk_at "stm"
          refine m2_i (show (0 : Int) < (us.length : Int) + 1 by omega) ?_
          have b1 := Int.emod_nonneg (c / 4) (show (us.length : Int) + 1 ≠ 0 by omega)
          have b2 := Int.emod_lt_of_pos (c / 4) (show 0 < (us.length : Int) + 1 by omega)
          walk_at "stm"
          refine ⟨ln (by show 2 ≤ 100000; decide), fun p2 hp2 => ?_⟩
          have s2 := same_new hp2 (.tup [.str (Str.ofString "num"), .int (c / 20 % 9)])
          walk_at "stm"
          refine mIns_i (s2 _ _ kl) b1 (by omega) (by omega) ?_
          exact kz _ _ (INS _ p2 _ _ s2 upd_same (by omega) b1 (by omega))
        have g2 : (0 : Int) < us.length := of_decide_eq_true g2
        obtain ⟨us0, u0, e0, pp⟩ := POP (fun z => by rw [z] at hul; simp at hul; rw [hul] at g2; exact absurd g2 (by decide))
        walk_at "stm"
        refine ⟨.inl ⟨rfl, _, SqL.of kl⟩, ?_⟩
        refine mPop_i (e0 ▸ kl) ?_
        exact kz _ _ pp
      have e1 : (0 : Int) < us.length := of_decide_eq_true e1
      have hn1 : 0 < n := by
        have : dep (.app sg ks) = 1 := by
          unfold dep
          rw [if_neg]
          intro z
          have := hlk z
          rw [this] at hul
          simp at hul
          rw [hul] at e1
          exact absurd e1 (by decide)
        omega
      walk_at "stp"
      refine mLen_l (SqL.of kl) ?_
      walk_at "stp"
      refine m2_i (show (0 : Int) < (us.length : Int) from e1) ?_
      have b1 := Int.emod_nonneg (c / 4) (show (us.length : Int) ≠ 0 by omega)
      have b2 := Int.emod_lt_of_pos (c / 4) (show 0 < (us.length : Int) by omega)
      generalize c / 4 % (us.length : Int) = at_ at b1 b2 ⊢
      obtain ⟨j, rfl⟩ : ∃ j : Nat, at_ = (j : Int) := ⟨at_.toNat, by omega⟩
      have hj : j < us.length := by omega
      have hjk : j < ks.length := by omega
      walk_at "stp"
      obtain ⟨w1, w2, w3⟩ := atI_lt (xs := us) (i := (j : Int)) b1 b2
      refine mIx_l (SqL.of kl) w2 ?_
      have w3 : us[j]? = some w1 := w3
      obtain ⟨d1, y1, z1⟩ := hk1.get w3
      rw [Trm.dataL_map, List.getElem?_map, List.getElem?_eq_getElem hjk] at y1
      have y1 : ks[j].data = d1 := Option.some.inj y1
      subst y1
      have lk := List.all_eq_true.mp hlf _ (List.getElem_mem hjk)
      walk_at "stp"
      refine ⟨ks[j], ws, z1, leaf_lfy lk, by unfold dep; rw [if_pos lk]; exact hn1, sl.seq hW, hl, fun v2 t2 J sJ dJ gJ zJ => ?_⟩
      rw [if_pos lk] at zJ
      have kJ := sJ _ _ kl
      walk_at "stm"
      refine ⟨l, us, (j : Int), j, rfl, rfl, kJ, by unfold ixN; rw [if_pos (by omega), if_pos (by omega)]; rfl, ?_⟩
      refine kz _ _ ⟨_, us.set j v2, ks.set j t2, rfl, same_upd (sl.trans sJ) hlf0, upd_same, (set_den (hk1.mono sJ) dJ).lst kJ, fun k hk => ?_, ?_, fun z => ?_⟩
      · rcases mem_set hk with z | z
        · exact gks k z
        · rw [z]; exact gJ
      · have := set_sizeL (t := t2) hjk
        omega
      · rw [z] at hjk
        exact absurd hjk (Nat.not_lt_zero _)
    obtain ⟨o5, us', ks', rfl, sJ, kJ, dJ, gJ, zJ, zJ1⟩ := hP
    have hl8 := Trm.len_le ks'
    have hs' := sJ.tup hs
    have hb' := sJ.tup hb
    have hk' := hk.mono sJ
    have hW' := sJ.seq hW
    have tl : ∀ (J2 : Hp) (o6 : Str), Same J J2 → ∀ p, J2 p = some (.tup [.str (Str.ofString "app"), .str o6, .ref b]) → Q (.ref p) J2 := fun J2 o6 s2 p hp => fin p b o6 us ks J2 (sJ.trans s2) (SqT.of hp) (s2.tup hb') (hk'.mono s2) (fun k hk => leaf_gr (List.all_eq_true.mp hlf k hk)) (by omega) (fun z => by rw [z]; decide)
    have good : ∀ (J2 : Hp) (p : Addr), Same J J2 → J2 p = none → True := fun _ _ _ _ => trivial
    walk_at "stp"
    refine mIx_t hs' (v := .ref b) rfl ?_
    walk_at "stp"
    refine ⟨b, us, rfl, .inr hb', fun l2 hl2 => ?_⟩
    have s3 : Same J (upd J l2 (.lst us)) := same_new hl2 _
    have k3 : (upd J l2 (.lst us)) l2 = some (.lst us) := upd_same
    generalize upd J l2 (.lst us) = J3 at s3 k3 ⊢
    refine mNeLs_i (SqL.of (s3 _ _ kJ)) (SqL.of k3) (dJ.mono s3) (hk'.mono s3) (fun t ht => by have := mem_size ht; omega) fun cc => ?_
    have hs3 := s3.tup hs'
    have kJ3 := s3 _ _ kJ
    have ret : ∀ (l3 : Addr) (hl3 : J3 l3 = none) (p : Addr) (hp : (upd J3 l3 (.tup us')) p = none), Q (.ref p) (upd (upd J3 l3 (.tup us')) p (.tup [.str (Str.ofString "app"), .str sg, .ref l3])) := fun l3 hl3 p hp => by
      have s4 := same_new hl3 (.tup us')
      have s5 := same_new hp (.tup [.str (Str.ofString "app"), .str sg, .ref l3])
      exact fin p l3 sg us' ks' _ (sJ.trans (s3.trans (s4.trans s5))) (SqT.of upd_same) (SqT.of (s5 _ _ upd_same)) (dJ.mono (s3.trans (s4.trans s5))) gJ zJ zJ1
    walk_at "stp"
    refine iteB (fun d1 => ?_) (fun d1 => ?_)
    rotate_left
    · walk_at "stp"
      refine iteF ?_
      walk_at "stp"
      obtain ⟨x1, hx1, _⟩ := four_at hl (i := c / 4 % 4) (by omega) (by omega)
      refine mIx_l (s3.seq hW') hx1 ?_
      walk_at "stp"
      refine mIx_t hs3 (v := .str sg) rfl ?_
      walk_at "stp"
      refine iteB (fun h1 => ?_) (fun h1 => ?_)
      · walk_at "stp"
        obtain ⟨x2, hx2, _⟩ := four_at hl (i := (c / 4 + 1) % 4) (by omega) (by omega)
        refine mIx_l (s3.seq hW') hx2 ?_
        walk_at "stp"
        refine mIx_t hs3 (v := .ref b) rfl ?_
        walk_at "stp"
        exact ⟨ln (by show 3 ≤ 100000; decide), fun p hp => tl _ x2 (s3.trans (same_new hp _)) p upd_same⟩
      · walk_at "stp"
        refine mIx_t hs3 (v := .ref b) rfl ?_
        walk_at "stp"
        exact ⟨ln (by show 3 ≤ 100000; decide), fun p hp => tl _ x1 (s3.trans (same_new hp _)) p upd_same⟩
    walk_at "stp"
    refine mIx_t hs3 (v := .str sg) rfl ?_
    refine in_strs ws (.inl (s3.seq hW')) ?_
    walk_at "stp"
    refine iteB (fun d2 => ?_) (fun d2 => ?_)
    · walk_at "stp"
      refine iteT ?_
      walk_at "stp"
      refine mIx_t hs3 (v := .str sg) rfl ?_
      walk_at "stp"
      refine ⟨l, us', rfl, .inl ⟨SqL.of kJ3, fun l3 hl3 => ?_⟩⟩
      walk_at "stp"
      exact ⟨ln (by show 3 ≤ 100000; decide), fun p hp => ret l3 hl3 p hp⟩
    walk_at "stp"
    refine mLen_l (SqL.of kJ3) ?_
    walk_at "stp"
    refine iteB (fun d3 => ?_) (fun d3 => ?_)
    · walk_at "stp"
      refine mIx_t hs3 (v := .str sg) rfl ?_
      walk_at "stp"
      refine ⟨l, us', rfl, .inl ⟨SqL.of kJ3, fun l3 hl3 => ?_⟩⟩
      walk_at "stp"
      exact ⟨ln (by show 3 ≤ 100000; decide), fun p hp => ret l3 hl3 p hp⟩
    · walk_at "stp"
      obtain ⟨x1, hx1, _⟩ := four_at hl (i := c / 4 % 4) (by omega) (by omega)
      refine mIx_l (s3.seq hW') hx1 ?_
      walk_at "stp"
      refine mIx_t hs3 (v := .str sg) rfl ?_
      walk_at "stp"
      refine iteB (fun h1 => ?_) (fun h1 => ?_)
      · walk_at "stp"
        obtain ⟨x2, hx2, _⟩ := four_at hl (i := (c / 4 + 1) % 4) (by omega) (by omega)
        refine mIx_l (s3.seq hW') hx2 ?_
        walk_at "stp"
        refine mIx_t hs3 (v := .ref b) rfl ?_
        walk_at "stp"
        exact ⟨ln (by show 3 ≤ 100000; decide), fun p hp => tl _ x2 (s3.trans (same_new hp _)) p upd_same⟩
      · walk_at "stp"
        refine mIx_t hs3 (v := .ref b) rfl ?_
        walk_at "stp"
        exact ⟨ln (by show 3 ≤ 100000; decide), fun p hp => tl _ x1 (s3.trans (same_new hp _)) p upd_same⟩
theorem ok_l_off (T : Txt K mg t)  (n : Nat) : FnOk P w K mg base CX0 (n + 1) t.a_l_off t.d_l_off ["_law_term", "_law_cell_here", "_law_words"] (sp_l_off K n) := by
  induction n with
  | zero =>
    have no : ∀ vs H Q E, (sp_l_off K 0) vs H Q E → False := fun vs H Q E h => by
      unfold sp_l_off at h
      split at h
      · exact no_l_off h
      · exact h
    exact ⟨fun vs H Q E h => (no vs H Q E h).elim, fun A outer s H args us vs Q E _ _ _ _ h => (no vs H Q E h).elim⟩
  | succ n ih =>
    have e : n + 1 + 1 = n + 1 + 1 := by omega
    rw [e]
    exact st_l_off T  n ih
end
section
variable {P : Program} {w : World} {K : PySem.W.Frag} {mg : Str → Option Value} {base : Heap} {t : Ad}
theorem place_ne {l r : Trm} (h : keyL l ≠ keyL r) : placeR l r = some ([], keyL l, keyL r) := if_pos h
theorem place_num {n m : Int} (h : keyL (.num n) = keyL (.num m)) : placeR (.num n) (.num m) = none := by
  unfold placeR
  rw [if_neg (fun z => z h)]
theorem place_app {s s' : Str} {ks ls : List Trm} (h : keyL (.app s ks) = keyL (.app s' ls)) : placeR (.app s ks) (.app s' ls) = (fd ks ls 0).map fun z => ([(z.1 : Int)], keyL z.2.1, keyL z.2.2) := by
  unfold placeR
  rw [if_neg (fun z => z h)]
theorem key_num {n : Int} {t : Trm} (hf : flatT t = true) (h : keyL (.num n) = keyL t) : ∃ m, t = .num m := by
  cases t with
  | num m => exact ⟨m, rfl⟩
  | any x => cases hf
  | app s ks =>
    have z : ([Sum.inr numS, Sum.inl n] : List Key) = [Sum.inr appS, Sum.inr s, Sum.inl (ks.length : Int)] := h
    simp at z
theorem key_app' {s : Str} {ks : List Trm} {t : Trm} (hf : flatT t = true) (h : keyL (.app s ks) = keyL t) : ∃ ls, t = .app s ls ∧ ks.length = ls.length := by
  cases t with
  | num m =>
    have z : ([Sum.inr appS, Sum.inr s, Sum.inl (ks.length : Int)] : List Key) = [Sum.inr numS, Sum.inl m] := h
    simp at z
  | any x => cases hf
  | app s' ls =>
    have z : ([Sum.inr appS, Sum.inr s, Sum.inl (ks.length : Int)] : List Key) = [Sum.inr appS, Sum.inr s', Sum.inl (ls.length : Int)] := h
    simp only [List.cons.injEq, Sum.inr.injEq, Sum.inl.injEq, and_true, true_and] at z
    exact ⟨ls, by rw [z.1], by have := z.2; omega⟩
theorem ok_l_place (T : Txt K mg t) (G_l_head : FnOk P w K mg base CX0 1 t.a_l_head t.d_l_head ["_law_term"] (sp_l_head K)) : FnOk P w K mg base CX0 2 t.a_l_place t.d_l_place ["_law_one", "_law_other"] (sp_l_place K) := by
  refine T.F_l_place.ok sc_l_place (fun vs H Q E h => ?_) (fun cdv A outer s H vs Q E hr h => ?_)
  · unfold sp_l_place at h
    split at h
    · rfl
    · exact h.elim
  unfold sp_l_place at h
  split at h
  rotate_left
  · exact h.elim
  refine ⟨_, (pss_cons (ps_if (mt_cmp (ko_neKs K rfl (room150 hr)) (pe_call G_l_head (hr.mono (by first | decide | omega)) rfl T.m_l_head T.F_l_head.kp T.b_l_head .nil pass0 (pa_con (mv 0) pa_nil)) (pe_call G_l_head (hr.mono (by first | decide | omega)) rfl T.m_l_head T.F_l_head.kp T.b_l_head .nil pass0 (pa_con (mv 1) pa_nil)) (nomark _)) (pss_one (ps_ret (pe_tup (pa_con pe_str (pa_con (pe_tup pa_nil) (pa_con (pe_call G_l_head (hr.mono (by first | decide | omega)) rfl T.m_l_head T.F_l_head.kp T.b_l_head .nil pass0 (pa_con (mv 0) pa_nil)) (pa_con (pe_call G_l_head (hr.mono (by first | decide | omega)) rfl T.m_l_head T.F_l_head.kp T.b_l_head .nil pass0 (pa_con (mv 1) pa_nil)) pa_nil))))))) pss_nil) (pss_cons (ps_if (mt_cmp mo_eq (pe_ix (ki_seq K rfl) (mv 0) pe_int (fun _ _ => rfl)) pe_str (nomark _)) (pss_one (ps_for PassesOwn.never rfl (pi_range1 rfl T.n_range (pa_con (pe_callB (kc_len K rfl) rfl T.n_len PySem.boot_len (pa_con (pe_ix (ki_seq K rfl) (mv 0) pe_int (fun _ _ => rfl)) pa_nil)) pa_nil)) (pg_name (i := 2) sc_l_place.nd rfl (by first | exact Or.inl rfl | exact Or.inr rfl)) (pss_one (ps_if (mt_cmp (ko_neT K rfl (room150 hr)) (pe_ix (ki_seq K rfl) (pe_ix (ki_seq K rfl) (mv 0) pe_int (fun _ _ => rfl)) (mv 2) (fun _ _ => rfl)) (pe_ix (ki_seq K rfl) (pe_ix (ki_seq K rfl) (mv 1) pe_int (fun _ _ => rfl)) (mv 2) (fun _ _ => rfl)) (nomark _)) (pss_one (ps_ret (pe_tup (pa_con pe_str (pa_con (pe_tup (pa_con (mv 2) pa_nil)) (pa_con (pe_call G_l_head (hr.mono (by first | decide | omega)) rfl T.m_l_head T.F_l_head.kp T.b_l_head .nil pass0 (pa_con (pe_ix (ki_seq K rfl) (pe_ix (ki_seq K rfl) (mv 0) pe_int (fun _ _ => rfl)) (mv 2) (fun _ _ => rfl)) pa_nil)) (pa_con (pe_call G_l_head (hr.mono (by first | decide | omega)) rfl T.m_l_head T.F_l_head.kp T.b_l_head .nil pass0 (pa_con (pe_ix (ki_seq K rfl) (pe_ix (ki_seq K rfl) (mv 1) pe_int (fun _ _ => rfl)) (mv 2) (fun _ _ => rfl)) pa_nil)) pa_nil))))))) pss_nil)))) pss_nil) (pss_one (ps_ret pe_non)))), ?_⟩
  rename_i v v'
  obtain ⟨t0, t1, hd, hd', hf, hf', q⟩ := h
  walk_at "stp"
  refine ⟨t0, hd, hf, fun v1 H1 s1 d1 => ?_⟩
  walk_at "stp"
  refine ⟨t1, hd'.mono s1, hf', fun v2 H2 s2 d2 => ?_⟩
  obtain ⟨p1, rfl, q1'⟩ := key_back (d1.mono s2)
  obtain ⟨p2, rfl, q2'⟩ := key_back d2
  refine ⟨p1, keyL t0, rfl, q1', .inr ⟨p2, keyL t1, rfl, q2', ?_⟩⟩
  have s12 := s1.trans s2
  walk_at "stp"
  refine iteB (fun e => ?_) (fun e => ?_)
  · have hne : keyL t0 ≠ keyL t1 := by simpa using e
    rw [place_ne hne] at q
    walk_at "stp"
    refine ⟨ln (by show 0 ≤ 100000; decide), fun p3 hp3 => ?_⟩
    have sp3 : Same H2 (upd H2 p3 (.tup [])) := same_new hp3 _
    have kp3 : (upd H2 p3 (.tup [])) p3 = some (.tup []) := upd_same
    generalize upd H2 p3 (.tup []) = H3 at sp3 kp3 ⊢
    walk_at "stp"
    refine ⟨t0, hd.mono (s12.trans sp3), hf, fun v4 H4 s4 d4 => ?_⟩
    walk_at "stp"
    refine ⟨t1, hd'.mono (s12.trans (sp3.trans s4)), hf', fun v5 H5 s5 d5 => ?_⟩
    walk_at "stp"
    refine ⟨ln (by show 4 ≤ 100000; decide), fun p6 hp6 => ?_⟩
    have s6 := same_new hp6 (.tup [.str (Str.ofString "part"), .ref p3, v4, v5])
    exact q p6 _ (s12.trans (sp3.trans (s4.trans (s5.trans s6)))) (.tup (SqT.of upd_same) (.cons (.str _) (.cons (.tup (SqT.of ((s4.trans (s5.trans s6)) _ _ kp3)) .nil) (.cons (d4.mono (s5.trans s6)) (.cons (d5.mono s6) .nil)))))
  have he : keyL t0 = keyL t1 := by simpa using e
  walk_at "stp"
  cases t0 with
  | any x => cases hf
  | num n =>
    obtain ⟨m, rfl⟩ := key_num hf' he
    rw [place_num he] at q
    obtain ⟨a, rfl, hs⟩ := den_num (hd.mono s12)
    refine mIx_t hs (v := .str numS) rfl ?_
    walk_at "stp"
    rw [Bool.false_xor, q4]
    refine iteF ?_
    walk_at "stp"
    exact q H2 s12
  | app sg ks =>
    obtain ⟨ls, rfl, hlen⟩ := key_app' hf' he
    rw [place_app he] at q
    obtain ⟨a, b, us, rfl, hs, hb, hk⟩ := den_app (hd.mono s12)
    obtain ⟨a', b', us', rfl, hs', hb', hk'⟩ := den_app (hd'.mono s12)
    obtain ⟨f1, f2⟩ := flat_app hf
    obtain ⟨f1', f2'⟩ := flat_app hf'
    have hkl := Trm.len_le ks
    have hul := hk.length
    rw [Trm.dataL_map, List.length_map] at hul
    have hul' := hk'.length
    rw [Trm.dataL_map, List.length_map] at hul'
    refine mIx_t hs (v := .str appS) rfl ?_
    walk_at "stp"
    rw [Bool.false_xor, q6]
    refine iteT ?_
    walk_at "stp"
    refine mIx_t hs (v := .ref b) rfl ?_
    walk_at "stp"
    refine mLen_t hb ?_
    refine ⟨(us.length : Int), rfl, by omega, by omega, ?_⟩
    rw [Int.toNat_natCast]
    refine for_row (row_range 0 us.length) (fun i σ' J => ∃ o : Option V, σ' = [some (.ref a), some (.ref a'), o] ∧ J = H2 ∧ fd ks ls 0 = fd (ks.drop i) (ls.drop i) i) ⟨none, rfl, rfl, rfl⟩ (fun _ _ _ _ => trivial) (fun i σ' J hi hP => ?_) (fun σ' J hP => ?_)
    · obtain ⟨o, rfl, rfl, hfd⟩ := hP
      have hik : i < ks.length := by omega
      have hil : i < ls.length := by omega
      rw [List.drop_eq_getElem_cons hik, List.drop_eq_getElem_cons hil] at hfd
      have x1 : us[i]? = some us[i] := List.getElem?_eq_getElem hi
      have x2 : us'[i]? = some us'[i] := List.getElem?_eq_getElem (by omega)
      obtain ⟨d3, y1, z1⟩ := hk.get x1
      obtain ⟨d4, y2, z2⟩ := hk'.get x2
      rw [Trm.dataL_map, List.getElem?_map, List.getElem?_eq_getElem hik] at y1
      rw [Trm.dataL_map, List.getElem?_map, List.getElem?_eq_getElem hil] at y2
      have y1 : ks[i].data = d3 := Option.some.inj y1
      have y2 : ls[i].data = d4 := Option.some.inj y2
      subst y1 y2
      have at1 : atI us (0 + (i : Int)) = some us[i] := by
        obtain ⟨w1, w2, w3⟩ := atI_lt (xs := us) (i := 0 + (i : Int)) (by omega) (by omega)
        rw [w2, ← w3, show (0 + (i : Int)).toNat = i by omega]
        exact x1
      have at2 : atI us' (0 + (i : Int)) = some us'[i] := by
        obtain ⟨w1, w2, w3⟩ := atI_lt (xs := us') (i := 0 + (i : Int)) (by omega) (by omega)
        rw [w2, ← w3, show (0 + (i : Int)).toNat = i by omega]
        exact x2
      have g1 := f1 _ (List.getElem_mem hik)
      have g2 := f1' _ (List.getElem_mem hil)
      walk_at "stp"
      refine mIx_t hs (v := .ref b) rfl ?_
      walk_at "stp"
      refine mIx_t hb at1 ?_
      walk_at "stp"
      refine mIx_t hs' (v := .ref b') rfl ?_
      walk_at "stp"
      refine mIx_t hb' at2 ?_
      refine mEqT_i z1 z2 (by have := flat_size g1; omega) ?_
      walk_at "stp"
      rw [Bool.true_xor]
      refine iteB (fun e3 => ?_) (fun e3 => ?_)
      rotate_left
      · have ee : eqb ks[i] ls[i] = true := by simpa using e3
        rw [fd_go ee] at hfd
        (with_reducible refine tNext_i ?_)
        exact ⟨_, rfl, rfl, hfd⟩
      have ee : eqb ks[i] ls[i] = false := by simpa using e3
      rw [fd_at ee] at hfd
      rw [hfd] at q
      have q : ∀ (r : Addr) (H' : Hp), Same H H' → Den K H' (.ref r) (partD [(i : Int)] (keyL ks[i]) (keyL ls[i])) → Q (.ref r) H' := q
      walk_at "stp"
      refine ⟨ln (by show 1 ≤ 100000; decide), fun p3 hp3 => ?_⟩
      have sp3 : Same J (upd J p3 (.tup [.int (0 + (i : Int))])) := same_new hp3 _
      have kp3 : (upd J p3 (.tup [.int (0 + (i : Int))])) p3 = some (.tup [.int (0 + (i : Int))]) := upd_same
      generalize upd J p3 (.tup [.int (0 + (i : Int))]) = H3 at sp3 kp3 ⊢
      walk_at "stp"
      refine mIx_t (sp3.tup hs) (v := .ref b) rfl ?_
      walk_at "stp"
      refine mIx_t (sp3.tup hb) at1 ?_
      walk_at "stp"
      refine ⟨ks[i], z1.mono sp3, g1, fun v4 H4 s4 d4 => ?_⟩
      walk_at "stp"
      refine mIx_t ((sp3.trans s4).tup hs') (v := .ref b') rfl ?_
      walk_at "stp"
      refine mIx_t ((sp3.trans s4).tup hb') at2 ?_
      walk_at "stp"
      refine ⟨ls[i], z2.mono (sp3.trans s4), g2, fun v5 H5 s5 d5 => ?_⟩
      walk_at "stp"
      refine ⟨ln (by show 4 ≤ 100000; decide), fun p6 hp6 => ?_⟩
      have s6 := same_new hp6 (.tup [.str (Str.ofString "part"), .ref p3, v4, v5])
      refine q p6 _ (s12.trans (sp3.trans (s4.trans (s5.trans s6)))) (.tup (SqT.of upd_same) (.cons (.str _) (.cons (.tup (SqT.of ((s4.trans (s5.trans s6)) _ _ kp3)) (.cons ?_ .nil)) (.cons (d4.mono (s5.trans s6)) (.cons (d5.mono s6) .nil)))))
      rw [show (0 + (i : Int)) = (i : Int) by omega]
      exact .int _
    · obtain ⟨o, rfl, rfl, hfd⟩ := hP
      rw [hul, List.drop_length, hlen, List.drop_length] at hfd
      rw [hfd] at q
      walk_at "stp"
      exact q J s12
end
section
variable {P : Program} {w : World} {K : PySem.W.Frag} {mg : Str → Option Value} {base : Heap} {t : Ad}
theorem ok_l_due (T : Txt K mg t) (G_l_place : FnOk P w K mg base CX0 2 t.a_l_place t.d_l_place ["_law_one", "_law_other"] (sp_l_place K)) : FnOk P w K mg base CX0 3 t.a_l_due t.d_l_due ["_law_one", "_law_other", "_law_puts"] (sp_l_due K) := by
  refine T.F_l_due.ok sc_l_due (fun vs H Q E h => ?_) (fun cdv A outer s H vs Q E hr h => ?_)
  · unfold sp_l_due at h
    split at h
    · rfl
    · exact h.elim
  unfold sp_l_due at h
  split at h
  rotate_left
  · exact h.elim
  refine ⟨_, (pss_cons (ps_set (i := 3) sc_l_due.nd rfl (by first | exact Or.inl rfl | exact Or.inr rfl) (pe_ifExp (mt_cmp mo_eq (pe_ix (ki_seq K rfl) (mv 0) pe_int (fun _ _ => rfl)) pe_str (nomark _)) (pe_dget2 (hu_of hr) (mv 2) (pe_ix (ki_seq K rfl) (mv 0) pe_int (fun _ _ => rfl)) (mv 0) ⟨rfl, rfl, rfl, rfl⟩) (mv 0))) (pss_cons (ps_set (i := 4) sc_l_due.nd rfl (by first | exact Or.inl rfl | exact Or.inr rfl) (pe_ifExp (mt_cmp mo_eq (pe_ix (ki_seq K rfl) (mv 1) pe_int (fun _ _ => rfl)) pe_str (nomark _)) (pe_dget2 (hu_of hr) (mv 2) (pe_ix (ki_seq K rfl) (mv 1) pe_int (fun _ _ => rfl)) (mv 1) ⟨rfl, rfl, rfl, rfl⟩) (mv 1))) (pss_cons (ps_set (i := 5) (hs := sw_call) sc_l_due.nd rfl (by first | exact Or.inl rfl | exact Or.inr rfl) (pe_callTy mc_dictK rfl T.n_dict boot_dict (pa_con (mv 2) pa_nil))) (pss_cons (ps_if (PW.pt (pw_and (mt_cmp mo_ne (pe_ix (ki_seq K rfl) (mv 3) pe_int (fun _ _ => rfl)) pe_str (nomark _)) (pw_and1 (mt_cmp mo_ne (pe_ix (ki_seq K rfl) (mv 4) pe_int (fun _ _ => rfl)) pe_str (nomark _))))) (pss_cons (ps_set (i := 6) (hs := sw_call) sc_l_due.nd rfl (by first | exact Or.inl rfl | exact Or.inr rfl) (pe_call G_l_place (hr.mono (by first | decide | omega)) rfl T.m_l_place T.F_l_place.kp T.b_l_place .nil pass0 (pa_con (mv 3) (pa_con (mv 4) pa_nil)))) (pss_one (ps_ret (pe_ifExp (mt_cmp mo_isN (mv 6) pe_non (nomark _)) (pe_tup (pa_con pe_str (pa_con (mv 5) pa_nil))) (mv 6))))) pss_nil) (pss_cons (ps_if (PW.pt (pw_and (mt_cmp mo_eq (pe_ix (ki_seq K rfl) (mv 3) pe_int (fun _ _ => rfl)) pe_str (nomark _)) (pw_and1 (mt_cmp (ko_neT K rfl (room150 hr)) (mv 3) (mv 4) (nomark _))))) (pss_one (ps_dput (hu_of hr) (mv 5) (pe_ix (ki_seq K rfl) (mv 3) pe_int (fun _ _ => rfl)) (mv 4) rfl)) (pss_one (ps_if (mt_cmp (ko_neT K rfl (room150 hr)) (mv 3) (mv 4) (nomark _)) (pss_one (ps_dput (hu_of hr) (mv 5) (pe_ix (ki_seq K rfl) (mv 4) pe_int (fun _ _ => rfl)) (mv 3) rfl)) pss_nil))) (pss_one (ps_ret (pe_tup (pa_con pe_str (pa_con (mv 5) pa_nil)))))))))), ?_⟩
  rename_i v v' pd
  obtain ⟨t0, t1, rows, hd, hd', hP, hF, ha, ha', q⟩ := h
  obtain ⟨kvs, e0, ok⟩ := hP.ex
  have hkl := ok.len
  have hrl := hF.len
  (with_reducible refine seq_rest (fun σ' J => ∃ vl : V, σ' = [some v, some v', some (.ref pd), some vl, none, none, none] ∧ J = H ∧ Den K H vl (wk rows t0).data) (fun σ' J hP1 => ?_) (fun kz => ?_))
  rotate_left
  · cases t0 with
    | any x =>
      obtain ⟨a, rfl, hs⟩ := den_any hd
      walk_at "stm"
      refine mIx_t hs (v := .str anyS) rfl ?_
      walk_at "stm"
      rw [Bool.false_xor, q3]
      refine iteT ?_
      walk_at "stm"
      refine ⟨pd, rfl, .inl ⟨kvs, .inl e0⟩, ?_⟩
      walk_at "stm"
      refine mIx_t hs (v := .str x) rfl ?_
      walk_at "stm"
      rcases hP.get x with ⟨c1, c2⟩ | ⟨u, w', c1, c2, c3⟩
      · refine ⟨none, c2, ?_⟩
        exact kz _ _ ⟨_, rfl, rfl, by rw [wk_none c1]; exact hd⟩
      · refine ⟨some w', c2, ?_⟩
        exact kz _ _ ⟨_, rfl, rfl, by rw [wk_some c1]; exact c3⟩
    | num n =>
      obtain ⟨a, rfl, hs⟩ := den_num hd
      walk_at "stm"
      refine mIx_t hs (v := .str numS) rfl ?_
      walk_at "stm"
      rw [Bool.false_xor, q1]
      refine iteF ?_
      walk_at "stm"
      exact kz _ _ ⟨_, rfl, rfl, hd⟩
    | app sg ks =>
      obtain ⟨a, b, us, rfl, hs, hb, hk⟩ := den_app hd
      walk_at "stm"
      refine mIx_t hs (v := .str appS) rfl ?_
      walk_at "stm"
      rw [Bool.false_xor, q2]
      refine iteF ?_
      walk_at "stm"
      exact kz _ _ ⟨_, rfl, rfl, hd⟩
  obtain ⟨vl, rfl, rfl, dl⟩ := hP1
  (with_reducible refine seq_rest (fun σ' J2 => ∃ vr : V, σ' = [some v, some v', some (.ref pd), some vl, some vr, none, none] ∧ J2 = J ∧ Den K J vr (wk rows t1).data) (fun σ' J2 hP1 => ?_) (fun kz => ?_))
  rotate_left
  · cases t1 with
    | any x =>
      obtain ⟨a, rfl, hs⟩ := den_any hd'
      walk_at "stm"
      refine mIx_t hs (v := .str anyS) rfl ?_
      walk_at "stm"
      rw [Bool.false_xor, q3]
      refine iteT ?_
      walk_at "stm"
      refine ⟨pd, rfl, .inl ⟨kvs, .inl e0⟩, ?_⟩
      walk_at "stm"
      refine mIx_t hs (v := .str x) rfl ?_
      walk_at "stm"
      rcases hP.get x with ⟨c1, c2⟩ | ⟨u, w', c1, c2, c3⟩
      · refine ⟨none, c2, ?_⟩
        exact kz _ _ ⟨_, rfl, rfl, by rw [wk_none c1]; exact hd'⟩
      · refine ⟨some w', c2, ?_⟩
        exact kz _ _ ⟨_, rfl, rfl, by rw [wk_some c1]; exact c3⟩
    | num n =>
      obtain ⟨a, rfl, hs⟩ := den_num hd'
      walk_at "stm"
      refine mIx_t hs (v := .str numS) rfl ?_
      walk_at "stm"
      rw [Bool.false_xor, q1]
      refine iteF ?_
      walk_at "stm"
      exact kz _ _ ⟨_, rfl, rfl, hd'⟩
    | app sg ks =>
      obtain ⟨a, b, us, rfl, hs, hb, hk⟩ := den_app hd'
      walk_at "stm"
      refine mIx_t hs (v := .str appS) rfl ?_
      walk_at "stm"
      rw [Bool.false_xor, q2]
      refine iteF ?_
      walk_at "stm"
      exact kz _ _ ⟨_, rfl, rfl, hd'⟩
  obtain ⟨vr, rfl, rfl, dr⟩ := hP1
  have al := hF.wk_af ha
  have ar := hF.wk_af ha'
  have hmo : mo rows t0 t1 = mo2 rows (wk rows t0) (wk rows t1) := rfl
  rw [hmo] at q
  generalize wk rows t0 = L at *
  generalize wk rows t1 = R at *
  have zl := af_size al
  have zr := af_size ar
  have dl0 := dl
  have dr0 := dr
  walk_at "stp"
  refine ⟨pd, kvs, rfl, e0, fun p2 hp2 => ?_⟩
  have s1 : Same J2 (upd J2 p2 (.dK kvs)) := same_new hp2 _
  have k2 : (upd J2 p2 (.dK kvs)) p2 = some (.dK kvs) := upd_same
  generalize upd J2 p2 (.dK kvs) = H1 at s1 k2 ⊢
  have dl := dl.mono s1
  have dr := dr.mono s1
  walk_at "stp"
  cases L with
  | any x =>
    obtain ⟨a1, rfl, hs1⟩ := den_any dl
    refine mIx_t hs1 (v := .str anyS) rfl ?_
    walk_at "stp"
    rw [Bool.true_xor, q3]
    refine iteF ?_
    walk_at "stp"
    refine iteF ?_
    walk_at "stp"
    refine mIx_t hs1 (v := .str anyS) rfl ?_
    walk_at "stp"
    rw [Bool.false_xor, q3]
    refine iteT ?_
    walk_at "stp"
    refine mEqT_i dl dr (by omega) ?_
    walk_at "stp"
    rw [Bool.true_xor]
    refine iteB (fun e => ?_) (fun e => ?_)
    · have ee : eqb (.any x) R = false := by simpa using e
      have hm2 : mo2 rows (.any x) R = .one (putR rows x R) := by rw [mo2, if_neg (by rw [ee]; exact Bool.false_ne_true)]; rfl
      rw [hm2] at q
      walk_at "stp"
      refine mIx_t hs1 (v := .str x) rfl ?_
      refine ⟨p2, _, rfl, .inl ⟨kvs, .inr x, k2, rfl, ln1 (by omega), rfl⟩, ?_⟩
      have kt6 : KT K H1 (upd H1 p2 (.dK (putK kvs (Sum.inr x) vr))) := .upd k2 (fun _ z => by cases z) (fun _ _ z => by cases z)
      have p6 : PutAt K (upd H1 p2 (.dK (putK kvs (Sum.inr x) vr))) p2 (putR rows x R) := ⟨_, upd_same, ((ok.mono s1).put (x := x) (v := vr) (t := R) dr).monoT kt6⟩
      have SX : Same J2 (upd H1 p2 (.dK (putK kvs (Sum.inr x) vr))) := same_upd s1 hp2
      generalize upd H1 p2 (.dK (putK kvs (Sum.inr x) vr)) = H6 at kt6 p6 SX ⊢
      walk_at "stp"
      refine ⟨ln (by show 2 ≤ 100000; decide), fun p5 hp5 => ?_⟩
      have s5 := same_new hp5 (.tup [.str (Str.ofString "one"), .ref p2])
      exact q (.ref p5) p2 _ (SX.trans s5) hp2 ⟨p5, rfl, SqT.of upd_same, p6.mono s5⟩
    · have ee : eqb (.any x) R = true := by simpa using e
      have hm2 : mo2 rows (.any x) R = .one rows := by rw [mo2, if_pos ee]
      rw [hm2] at q
      walk_at "stp"
      refine mEqT_i dl dr (by omega) ?_
      rw [ee]
      walk_at "stp"
      refine iteF ?_
      walk_at "stp"
      have SX := s1
      have p6 : PutAt K H1 p2 rows := ⟨kvs, k2, ok.mono s1⟩
      refine ⟨ln (by show 2 ≤ 100000; decide), fun p5 hp5 => ?_⟩
      have s5 := same_new hp5 (.tup [.str (Str.ofString "one"), .ref p2])
      exact q (.ref p5) p2 _ (SX.trans s5) hp2 ⟨p5, rfl, SqT.of upd_same, p6.mono s5⟩
  | num n =>
    obtain ⟨a1, rfl, hs1⟩ := den_num dl
    refine mIx_t hs1 (v := .str numS) rfl ?_
    walk_at "stp"
    rw [Bool.true_xor, q1]
    refine iteT ?_
    walk_at "stp"
    have fl0 : flatT (Trm.num n) = true := al
    cases R with
    | any y =>
      obtain ⟨a2, rfl, hs2⟩ := den_any dr
      have hm2 : mo2 rows (Trm.num n) (.any y) = .one (putR rows y (Trm.num n)) := by rw [mo2, if_neg (by rw [show eqb (Trm.num n) (.any y) = false from rfl]; exact Bool.false_ne_true)]; rfl
      rw [hm2] at q
      refine mIx_t hs2 (v := .str anyS) rfl ?_
      walk_at "stp"
      rw [Bool.true_xor, q3]
      refine iteF ?_
      walk_at "stp"
      refine mIx_t hs1 (v := .str numS) rfl ?_
      walk_at "stp"
      rw [Bool.false_xor, q1]
      refine iteF ?_
      walk_at "stp"
      refine iteF ?_
      walk_at "stp"
      refine mEqT_i dl dr (by omega) ?_
      rw [show eqb (Trm.num n) (.any y) = false from rfl]
      walk_at "stp"
      refine iteT ?_
      walk_at "stp"
      refine mIx_t hs2 (v := .str y) rfl ?_
      refine ⟨p2, _, rfl, .inl ⟨kvs, .inr y, k2, rfl, ln1 (by omega), rfl⟩, ?_⟩
      have kt6 : KT K H1 (upd H1 p2 (.dK (putK kvs (Sum.inr y) (.ref a1)))) := .upd k2 (fun _ z => by cases z) (fun _ _ z => by cases z)
      have p6 : PutAt K (upd H1 p2 (.dK (putK kvs (Sum.inr y) (.ref a1)))) p2 (putR rows y (Trm.num n)) := ⟨_, upd_same, ((ok.mono s1).put (x := y) (v := (.ref a1)) (t := (Trm.num n)) dl).monoT kt6⟩
      have SX : Same J2 (upd H1 p2 (.dK (putK kvs (Sum.inr y) (.ref a1)))) := same_upd s1 hp2
      generalize upd H1 p2 (.dK (putK kvs (Sum.inr y) (.ref a1))) = H6 at kt6 p6 SX ⊢
      walk_at "stp"
      refine ⟨ln (by show 2 ≤ 100000; decide), fun p5 hp5 => ?_⟩
      have s5 := same_new hp5 (.tup [.str (Str.ofString "one"), .ref p2])
      exact q (.ref p5) p2 _ (SX.trans s5) hp2 ⟨p5, rfl, SqT.of upd_same, p6.mono s5⟩
    | num n2 =>
      have fr0 : flatT (Trm.num n2) = true := rfl
      obtain ⟨a2, rfl, hs2⟩ := den_num dr
      refine mIx_t hs2 (v := .str numS) rfl ?_
      walk_at "stp"
      rw [Bool.true_xor, q1]
      refine iteT ?_
      walk_at "stp"
      rw [mo_place rows fl0 fr0] at q
      refine ⟨(Trm.num n), (Trm.num n2), dl, dr, fl0, fr0, ?_⟩
      cases hpl : placeR (Trm.num n) (Trm.num n2) with
      | some z =>
        rw [hpl] at q
        refine fun r H2 s2 dw => ?_
        walk_at "stp"
        refine iteF ?_
        walk_at "stp"
        exact q (.ref r) p2 H2 (s1.trans s2) hp2 dw
      | none =>
        rw [hpl] at q
        refine fun H2 s2 => ?_
        walk_at "stp"
        refine iteT ?_
        walk_at "stp"
        have SX := s1.trans s2
        have p6 : PutAt K H2 p2 rows := ⟨kvs, s2 _ _ k2, ok.mono SX⟩
        refine ⟨ln (by show 2 ≤ 100000; decide), fun p5 hp5 => ?_⟩
        have s5 := same_new hp5 (.tup [.str (Str.ofString "one"), .ref p2])
        exact q (.ref p5) p2 _ (SX.trans s5) hp2 ⟨p5, rfl, SqT.of upd_same, p6.mono s5⟩
    | app sg2 ls =>
      have fr0 : flatT (Trm.app sg2 ls) = true := ar
      obtain ⟨a2, b2, us2, rfl, hs2, hb2, hk2⟩ := den_app dr
      refine mIx_t hs2 (v := .str appS) rfl ?_
      walk_at "stp"
      rw [Bool.true_xor, q2]
      refine iteT ?_
      walk_at "stp"
      rw [mo_place rows fl0 fr0] at q
      refine ⟨(Trm.num n), (Trm.app sg2 ls), dl, dr, fl0, fr0, ?_⟩
      cases hpl : placeR (Trm.num n) (Trm.app sg2 ls) with
      | some z =>
        rw [hpl] at q
        refine fun r H2 s2 dw => ?_
        walk_at "stp"
        refine iteF ?_
        walk_at "stp"
        exact q (.ref r) p2 H2 (s1.trans s2) hp2 dw
      | none =>
        rw [hpl] at q
        refine fun H2 s2 => ?_
        walk_at "stp"
        refine iteT ?_
        walk_at "stp"
        have SX := s1.trans s2
        have p6 : PutAt K H2 p2 rows := ⟨kvs, s2 _ _ k2, ok.mono SX⟩
        refine ⟨ln (by show 2 ≤ 100000; decide), fun p5 hp5 => ?_⟩
        have s5 := same_new hp5 (.tup [.str (Str.ofString "one"), .ref p2])
        exact q (.ref p5) p2 _ (SX.trans s5) hp2 ⟨p5, rfl, SqT.of upd_same, p6.mono s5⟩
  | app sg ks =>
    obtain ⟨a1, b1, us1, rfl, hs1, hb1, hK⟩ := den_app dl
    refine mIx_t hs1 (v := .str appS) rfl ?_
    walk_at "stp"
    rw [Bool.true_xor, q2]
    refine iteT ?_
    walk_at "stp"
    have fl0 : flatT (Trm.app sg ks) = true := al
    cases R with
    | any y =>
      obtain ⟨a2, rfl, hs2⟩ := den_any dr
      have hm2 : mo2 rows (Trm.app sg ks) (.any y) = .one (putR rows y (Trm.app sg ks)) := by rw [mo2, if_neg (by rw [show eqb (Trm.app sg ks) (.any y) = false from rfl]; exact Bool.false_ne_true)]; rfl
      rw [hm2] at q
      refine mIx_t hs2 (v := .str anyS) rfl ?_
      walk_at "stp"
      rw [Bool.true_xor, q3]
      refine iteF ?_
      walk_at "stp"
      refine mIx_t hs1 (v := .str appS) rfl ?_
      walk_at "stp"
      rw [Bool.false_xor, q2]
      refine iteF ?_
      walk_at "stp"
      refine iteF ?_
      walk_at "stp"
      refine mEqT_i dl dr (by omega) ?_
      rw [show eqb (Trm.app sg ks) (.any y) = false from rfl]
      walk_at "stp"
      refine iteT ?_
      walk_at "stp"
      refine mIx_t hs2 (v := .str y) rfl ?_
      refine ⟨p2, _, rfl, .inl ⟨kvs, .inr y, k2, rfl, ln1 (by omega), rfl⟩, ?_⟩
      have kt6 : KT K H1 (upd H1 p2 (.dK (putK kvs (Sum.inr y) (.ref a1)))) := .upd k2 (fun _ z => by cases z) (fun _ _ z => by cases z)
      have p6 : PutAt K (upd H1 p2 (.dK (putK kvs (Sum.inr y) (.ref a1)))) p2 (putR rows y (Trm.app sg ks)) := ⟨_, upd_same, ((ok.mono s1).put (x := y) (v := (.ref a1)) (t := (Trm.app sg ks)) dl).monoT kt6⟩
      have SX : Same J2 (upd H1 p2 (.dK (putK kvs (Sum.inr y) (.ref a1)))) := same_upd s1 hp2
      generalize upd H1 p2 (.dK (putK kvs (Sum.inr y) (.ref a1))) = H6 at kt6 p6 SX ⊢
      walk_at "stp"
      refine ⟨ln (by show 2 ≤ 100000; decide), fun p5 hp5 => ?_⟩
      have s5 := same_new hp5 (.tup [.str (Str.ofString "one"), .ref p2])
      exact q (.ref p5) p2 _ (SX.trans s5) hp2 ⟨p5, rfl, SqT.of upd_same, p6.mono s5⟩
    | num n2 =>
      have fr0 : flatT (Trm.num n2) = true := rfl
      obtain ⟨a2, rfl, hs2⟩ := den_num dr
      refine mIx_t hs2 (v := .str numS) rfl ?_
      walk_at "stp"
      rw [Bool.true_xor, q1]
      refine iteT ?_
      walk_at "stp"
      rw [mo_place rows fl0 fr0] at q
      refine ⟨(Trm.app sg ks), (Trm.num n2), dl, dr, fl0, fr0, ?_⟩
      cases hpl : placeR (Trm.app sg ks) (Trm.num n2) with
      | some z =>
        rw [hpl] at q
        refine fun r H2 s2 dw => ?_
        walk_at "stp"
        refine iteF ?_
        walk_at "stp"
        exact q (.ref r) p2 H2 (s1.trans s2) hp2 dw
      | none =>
        rw [hpl] at q
        refine fun H2 s2 => ?_
        walk_at "stp"
        refine iteT ?_
        walk_at "stp"
        have SX := s1.trans s2
        have p6 : PutAt K H2 p2 rows := ⟨kvs, s2 _ _ k2, ok.mono SX⟩
        refine ⟨ln (by show 2 ≤ 100000; decide), fun p5 hp5 => ?_⟩
        have s5 := same_new hp5 (.tup [.str (Str.ofString "one"), .ref p2])
        exact q (.ref p5) p2 _ (SX.trans s5) hp2 ⟨p5, rfl, SqT.of upd_same, p6.mono s5⟩
    | app sg2 ls =>
      have fr0 : flatT (Trm.app sg2 ls) = true := ar
      obtain ⟨a2, b2, us2, rfl, hs2, hb2, hk2⟩ := den_app dr
      refine mIx_t hs2 (v := .str appS) rfl ?_
      walk_at "stp"
      rw [Bool.true_xor, q2]
      refine iteT ?_
      walk_at "stp"
      rw [mo_place rows fl0 fr0] at q
      refine ⟨(Trm.app sg ks), (Trm.app sg2 ls), dl, dr, fl0, fr0, ?_⟩
      cases hpl : placeR (Trm.app sg ks) (Trm.app sg2 ls) with
      | some z =>
        rw [hpl] at q
        refine fun r H2 s2 dw => ?_
        walk_at "stp"
        refine iteF ?_
        walk_at "stp"
        exact q (.ref r) p2 H2 (s1.trans s2) hp2 dw
      | none =>
        rw [hpl] at q
        refine fun H2 s2 => ?_
        walk_at "stp"
        refine iteT ?_
        walk_at "stp"
        have SX := s1.trans s2
        have p6 : PutAt K H2 p2 rows := ⟨kvs, s2 _ _ k2, ok.mono SX⟩
        refine ⟨ln (by show 2 ≤ 100000; decide), fun p5 hp5 => ?_⟩
        have s5 := same_new hp5 (.tup [.str (Str.ofString "one"), .ref p2])
        exact q (.ref p5) p2 _ (SX.trans s5) hp2 ⟨p5, rfl, SqT.of upd_same, p6.mono s5⟩
end
section
variable {P : Program} {w : World} {K : PySem.W.Frag} {mg : Str → Option Value} {base : Heap} {t : Ad}
theorem puts_keys {K : PySem.W.Frag} {H : Hp} : ∀ {kvs : List (Key × V)} {rows : Rws}, PutsOk K H kvs rows → kvs.map (·.1) = (rows.map (·.1)).map Sum.inr
  | [], [], _ => rfl
  | (k, v) :: kr, (y, t) :: rr, .cons h r => by
    have e : k = Sum.inr y := h.1
    rw [List.map_cons, List.map_cons, List.map_cons, puts_keys r, e]
theorem look_in {rows : Rws} {x : Str} (h : x ∈ rows.map (·.1)) : ∃ t, lookR rows x = some t := by
  cases e : lookR rows x with
  | some t => exact ⟨t, rfl⟩
  | none => exact absurd h (look_out e)
theorem strs_den' {K : PySem.W.Frag} {H : Hp} : ∀ (l : List Str), DenL K H (l.map V.str) (l.map PyData.str)
  | [] => .nil
  | a :: r => .cons (.str a) (strs_den' r)
theorem strs_dep : ∀ (l : List Str), PyData.depthAll (l.map PyData.str) ≤ 1
  | [] => by simp [PyData.depthAll]
  | a :: r => by
    have := strs_dep r
    simp only [List.map_cons, PyData.depthAll, PyData.depth]
    omega
theorem ints_dep : ∀ (l : List Int), PyData.depthAll (l.map PyData.int) = 0
  | [] => by simp [PyData.depthAll]
  | a :: r => by
    have := ints_dep r
    simp only [List.map_cons, PyData.depthAll, PyData.depth]
    omega
theorem keys_dep : ∀ (l : List Key), PyData.depthAll (l.map kD) = 0
  | [] => by simp [PyData.depthAll]
  | a :: r => by
    have := keys_dep r
    cases a <;> simp only [List.map_cons, PyData.depthAll, kD, PyData.depth] <;> omega
theorem frz_get {K : PySem.W.Frag} {H : Hp} {a : Addr} {o : Obj} {kvs : List (Key × V)} {rows : Rws} (h : H a = some (.frz o (.dK kvs))) (ok : PutsOk K H kvs rows) (x : Str) : (lookR rows x = none ∧ DGet H a (.str x) none) ∨ ∃ t v, lookR rows x = some t ∧ DGet H a (.str x) (some v) ∧ Den K H v t.data := by
  rcases ok.get x with ⟨c1, c2⟩ | ⟨t, v, c1, c2, c3⟩
  · exact .inl ⟨c1, .inl ⟨kvs, Sum.inr x, .inr ⟨o, h⟩, rfl, c2.symm⟩⟩
  · exact .inr ⟨t, v, c1, .inl ⟨kvs, Sum.inr x, .inr ⟨o, h⟩, rfl, c2.symm⟩, c3⟩
theorem Ext.wk_size {rows0 rows : Rws} (e : Ext rows0 rows) {x : Str} {t : Trm} (h : lookR rows x = some t) : t.size ≤ 50 ∧ (wk rows t).size ≤ 50 := by
  have h1 := af_size (e.af _ (look_mem h))
  refine ⟨h1, ?_⟩
  cases t with
  | num n => exact h1
  | app s ks => exact h1
  | any y =>
    cases e2 : lookR rows y with
    | none => rw [wk_none e2]; exact h1
    | some u => rw [wk_some e2]; exact af_size (e.af _ (look_mem e2))
theorem partd_inv {K : PySem.W.Frag} {H : Hp} {v : V} {path : List Int} {a b : List Key} (h : Den K H v (partD path a b)) : ∃ r p1 p2 p3 us, v = .ref r ∧ SqT K H r [.str partS, .ref p1, .ref p2, .ref p3] ∧ SqT K H p1 us ∧ SqT K H p2 (a.map kV) ∧ SqT K H p3 (b.map kV) ∧ DenL K H [.str partS, .ref p1, .ref p2, .ref p3] [.str partS, .tuple (path.map PyData.int), .tuple (a.map kD), .tuple (b.map kD)] := by
  unfold partD at h
  cases h with
  | @tup r us ds hs hl =>
    have hl0 := hl
    cases hl with
    | cons h1 hl =>
      cases hl with
      | cons h2 hl =>
        cases hl with
        | cons h3 hl =>
          cases hl with
          | cons h4 hl =>
            cases hl
            cases h1
            obtain ⟨p2, rfl, q2⟩ := key_back h3
            obtain ⟨p3, rfl, q3⟩ := key_back h4
            cases h2 with
            | @tup p1 us1 _ g1 g2 => exact ⟨r, p1, p2, p3, us1, rfl, hs, g1, q2, q3, hl0⟩
theorem ok_l_seen (T : Txt K mg t) (G_l_is_term : FnOk P w K mg base CX0 1 t.a_l_is_term t.d_l_is_term ["_law_thing"] (sp_l_is_term K)) : FnOk P w K mg base CX0 2 t.a_l_seen t.d_l_seen ["_law_found", "_law_due_here", "_law_puts"] (sp_l_seen K) := by
  refine T.F_l_seen.ok sc_l_seen (fun vs H Q E h => ?_) (fun cdv A outer s H vs Q E hr h => ?_)
  · unfold sp_l_seen at h
    split at h
    · rfl
    · exact h.elim
  unfold sp_l_seen at h
  split at h
  rotate_left
  · exact h.elim
  refine ⟨_, (pss_cons (ps_if (PW.pt (pw_or (pt_not (kt_tru K rfl (pe_callB (kc_is K rfl) rfl T.n_isinstance boot_isinstance (pa_con (mv 0) (pa_con (pe_bty rfl T.n_tuple boot_tuple) pa_nil))))) (pw_or (mt_cmp mo_ne (pe_callB (kc_len K rfl) rfl T.n_len PySem.boot_len (pa_con (mv 0) pa_nil)) (pe_callB (kc_len K rfl) rfl T.n_len PySem.boot_len (pa_con (mv 1) pa_nil)) (nomark _)) (pw_or1 (mt_cmp mo_ne (pe_ix (ki_seq K rfl) (mv 0) pe_int (fun _ _ => rfl)) (pe_ix (ki_seq K rfl) (mv 1) pe_int (fun _ _ => rfl)) (nomark _)))))) (pss_one (ps_ret pe_bl)) pss_nil) (pss_cons (ps_if (mt_cmp mo_eq (pe_ix (ki_seq K rfl) (mv 1) pe_int (fun _ _ => rfl)) pe_str (nomark _)) (pss_cons (ps_set (i := 3) (hs := sw_sub) sc_l_seen.nd rfl (by first | exact Or.inl rfl | exact Or.inr rfl) (pe_ix (ki_seq K rfl) (mv 0) pe_int (fun _ _ => rfl))) (pss_cons (ps_if (PW.pt (pw_or (pt_not (kt_tru K rfl (pe_callB mc_isDK rfl T.n_isinstance boot_isinstance (pa_con (mv 3) (pa_con (pe_bty rfl T.n_dict boot_dict) pa_nil))))) (pw_or1 (mt_cmp (ko_neD K rfl (room150 hr)) (pe_callB (kc_sortD rfl) rfl T.n_sorted boot_sorted (pa_con (mv 3) pa_nil)) (pe_callB (kc_sortD rfl) rfl T.n_sorted boot_sorted (pa_con (pe_ix (ki_seq K rfl) (mv 1) pe_int (fun _ _ => rfl)) pa_nil)) (nomark _))))) (pss_one (ps_ret pe_bl)) pss_nil) (pss_cons (ps_thawR (ps_for PassesOwn.never rfl (pi_dict (mv 3)) (pg_name (i := 4) sc_l_seen.nd rfl (by first | exact Or.inl rfl | exact Or.inr rfl)) (pss_cons (ps_set (i := 5) (hs := sw_sub) sc_l_seen.nd rfl (by first | exact Or.inl rfl | exact Or.inr rfl) (pe_dget (hu_of hr) (mv 3) (mv 4) (fun _ _ => rfl))) (pss_cons (ps_if (PW.pt (pw_or (pt_not (kt_tru K rfl (pe_call G_l_is_term (hr.mono (by first | decide | omega)) rfl T.m_l_is_term T.F_l_is_term.kp T.b_l_is_term .nil pass0 (pa_con (mv 5) pa_nil)))) (pw_or1 (PW.pt (pw_and (mt_cmp (ko_inD (hu_of hr)) (mv 4) (mv 2) (by with_unfolding_all rfl)) (pw_and1 (mt_cmp (ko_neT K rfl (room150 hr)) (mv 5) (pe_dget (hu_of hr) (mv 2) (mv 4) (fun _ _ => rfl)) (nomark _)))))))) (pss_one (ps_ret pe_bl)) pss_nil) (pss_cons (ps_if (mt_cmp mo_eq (pe_ix (ki_seq K rfl) (mv 5) pe_int (fun _ _ => rfl)) pe_str (nomark _)) (pss_one (ps_set (i := 5) (hs := sw_call) sc_l_seen.nd rfl (by first | exact Or.inl rfl | exact Or.inr rfl) (pe_dget2 (hu_of hr) (mv 3) (pe_ix (ki_seq K rfl) (mv 5) pe_int (fun _ _ => rfl)) (mv 5) ⟨rfl, rfl, rfl, rfl⟩))) pss_nil) (pss_cons (ps_set (i := 6) (hs := sw_sub) sc_l_seen.nd rfl (by first | exact Or.inl rfl | exact Or.inr rfl) (pe_dget (hu_of hr) (pe_ix (ki_seq K rfl) (mv 1) pe_int (fun _ _ => rfl)) (mv 4) (fun _ _ => rfl))) (pss_one (ps_if (mt_cmp (ko_neT K rfl (room150 hr)) (mv 5) (pe_ifExp (mt_cmp mo_eq (pe_ix (ki_seq K rfl) (mv 6) pe_int (fun _ _ => rfl)) pe_str (nomark _)) (pe_dget2 (hu_of hr) (pe_ix (ki_seq K rfl) (mv 1) pe_int (fun _ _ => rfl)) (pe_ix (ki_seq K rfl) (mv 6) pe_int (fun _ _ => rfl)) (mv 6) ⟨rfl, rfl, rfl, rfl⟩) (mv 6)) (nomark _)) (pss_one (ps_ret pe_bl)) pss_nil)))))))) (pss_one (ps_ret pe_bl))))) pss_nil) (pss_cons (ps_set (i := 7) (hs := sw_lst) sc_l_seen.nd rfl (by first | exact Or.inl rfl | exact Or.inr rfl) (pe_lst (pa_con (pe_ix (ki_seq K rfl) (mv 0) pe_int (fun _ _ => rfl)) (pa_con (pe_ix (ki_seq K rfl) (mv 0) pe_int (fun _ _ => rfl)) pa_nil)))) (pss_cons (ps_for PassesOwn.never rfl (kpi_list K rfl (mv 7)) (pg_name (i := 8) sc_l_seen.nd rfl (by first | exact Or.inl rfl | exact Or.inr rfl)) (pss_one (ps_if (PW.pt (pw_or (pt_not (kt_tru K rfl (pe_callB (kc_is K rfl) rfl T.n_isinstance boot_isinstance (pa_con (mv 8) (pa_con (pe_bty rfl T.n_tuple boot_tuple) pa_nil))))) (pw_or1 (kt_tru K rfl (pe_callB (kc_is K rfl) rfl T.n_isinstance boot_isinstance (pa_con (pe_ix (ki_seq K rfl) (mv 8) (pe_un mu_neg pe_int) (fun _ _ => rfl)) (pa_con (pe_bty rfl T.n_bool boot_bool) pa_nil))))))) (pss_one (ps_ret pe_bl)) pss_nil))) (pss_one (ps_ret (me_and (pe_callB (kc_is K rfl) rfl T.n_isinstance boot_isinstance (pa_con (pe_ix (ki_seq K rfl) (mv 0) pe_int (fun _ _ => rfl)) (pa_con (pe_bty rfl T.n_tuple boot_tuple) pa_nil))) (pe_one (pe_cmpR (ko_eqD K rfl (room150 hr)) (mv 0) (mv 1) (nomark _)))))))))), ?_⟩
  rename_i f d pd
  obtain ⟨res, p1, p2, rows0, h1, h2, hn1, hn2, hP0, hE, hB, q⟩ := h
  cases res with
  | one rows =>
    have ex := hE rows rfl
    have hrl := ex.len
    obtain ⟨r1, rfl, sq1, pt1⟩ := h1
    obtain ⟨r2, rfl, sq2, pt2⟩ := h2
    obtain ⟨kv1, e1, ok1⟩ := pt1.ex
    obtain ⟨kv2, e2, ok2⟩ := pt2.ex
    have hl1 := ok1.len
    have hl2 := ok2.len
    walk_at "stp"
    refine is_tup sq1 ?_
    walk_at "stp"
    refine iteF ?_
    walk_at "stp"
    refine mLen_t sq1 ?_
    walk_at "stp"
    refine mLen_t sq2 ?_
    walk_at "stp"
    refine iteB (fun e => absurd e (by simp)) (fun _ => ?_)
    walk_at "stp"
    refine mIx_t sq1 (v := .str oneS) rfl ?_
    walk_at "stp"
    refine mIx_t sq2 (v := .str oneS) rfl ?_
    walk_at "stp"
    refine iteB (fun e => absurd e (by decide +kernel)) (fun _ => ?_)
    walk_at "stp"
    refine mIx_t sq2 (v := .str oneS) rfl ?_
    walk_at "stp"
    refine iteB (fun _ => ?_) (fun e => absurd e (by decide +kernel))
    walk_at "stp"
    refine mIx_t sq1 (v := .ref p1) rfl ?_
    walk_at "stp"
    refine ⟨p1, kv1, rfl, e1, ?_⟩
    walk_at "stp"
    refine iteF ?_
    walk_at "stp"
    refine ⟨p1, kv1, _, rfl, e1, puts_keys ok1, by omega, fun l1 ss1 hq1 pm1 so1 => ?_⟩
    have t1 := same_new hq1 (.lst (ss1.map V.str))
    have kq1 : (upd H l1 (.lst (ss1.map V.str))) l1 = some (.lst (ss1.map V.str)) := upd_same
    generalize upd H l1 (.lst (ss1.map V.str)) = H1 at t1 kq1 ⊢
    walk_at "stp"
    refine mIx_t (t1.tup sq2) (v := .ref p2) rfl ?_
    walk_at "stp"
    refine ⟨p2, kv2, _, rfl, t1 _ _ e2, puts_keys ok2, by omega, fun l2 ss2 hq2 pm2 so2 => ?_⟩
    have t2 := same_new hq2 (.lst (ss2.map V.str))
    have kq2 : (upd H1 l2 (.lst (ss2.map V.str))) l2 = some (.lst (ss2.map V.str)) := upd_same
    generalize upd H1 l2 (.lst (ss2.map V.str)) = H2 at t2 kq2 ⊢
    have es : ss1 = ss2 := sorted_uniq so1 so2 (pm1.trans pm2.symm)
    subst es
    refine ⟨l1, l2, _, _, ss1.map PyData.str, rfl, rfl, .inr ⟨SqL.of (t2 _ _ kq1), SqL.of kq2⟩, strs_den' _, strs_den' _, by have := strs_dep ss1; omega, ?_⟩
    walk_at "stp"
    refine iteF ?_
    have t02 := t1.trans t2
    have e1' := t02 _ _ e1
    have ok1' := ok1.mono t02
    have pt2' := pt2.mono t02
    have hP0' := hP0.mono t02
    have sq2' := t02.tup sq2
    walk_at "stp"
    refine ⟨p1, kv1, rfl, e1', fun ob nf => ?_⟩
    have ktw : KT K H2 (upd H2 p1 (.frz ob (.dK kv1))) := .upd e1' (fun _ z => by cases z) (fun _ _ z => by cases z)
    have fr0 : (upd H2 p1 (.frz ob (.dK kv1))) p1 = some (.frz ob (.dK kv1)) := upd_same
    have okw := ok1'.monoT ktw
    have ptw := pt2'.keep (Ne.symm hn1) ktw
    have p0w := hP0'.keep (Ne.symm hn2) ktw
    have sqw := ktw _ _ sq2'
    have sO0 : ∀ b u, b ≠ p1 → H2 b = some u → (upd H2 p1 (.frz ob (.dK kv1))) b = some u := fun b u n z => by rw [upd_ne n]; exact z
    generalize upd H2 p1 (.frz ob (.dK kv1)) = HW at fr0 okw ptw p0w sqw sO0 ⊢
    refine for_row row_dict (fun i σ' J => ∃ (o4 o5 o6 : Option V), σ' = [some (.ref r1), some (.ref r2), some (.ref pd), some (.ref p1), o4, o5, o6, none, none] ∧ Same HW J) ⟨none, none, none, rfl, Same.refl _⟩ (fun i σ' J hP => by obtain ⟨_, _, _, _, z⟩ := hP; exact z _ _ fr0) (fun i σ' J hi hP => ?_) (fun σ' J hP => ?_)
    · obtain ⟨o4, o5, o6, rfl, sJ⟩ := hP
      have hx : kv1[i]? = some kv1[i] := List.getElem?_eq_getElem hi
      have hkey : ∃ x, kv1[i].1 = Sum.inr x ∧ x ∈ rows.map (·.1) := by
        have hk := puts_keys okw
        have hm : kv1[i].1 ∈ kv1.map (·.1) := List.mem_map.mpr ⟨_, List.getElem_mem hi, rfl⟩
        rw [hk] at hm
        obtain ⟨x, h1, h2⟩ := List.mem_map.mp hm
        exact ⟨x, h2.symm, h1⟩
      obtain ⟨x, ek, hxm⟩ := hkey
      rw [hx]
      simp only [Option.map_some, Option.getD_some]
      rw [ek, show kV (Sum.inr x) = V.str x from rfl]
      obtain ⟨t0, hlk⟩ := look_in hxm
      have frJ := sJ _ _ fr0
      have okJ := okw.mono sJ
      obtain ⟨zs1, zs2⟩ := ex.wk_size hlk
      rcases frz_get frJ okJ x with ⟨c1, _⟩ | ⟨t', v0, c1, c2, c3⟩
      · rw [hlk] at c1; cases c1
      rw [hlk] at c1
      cases c1
      walk_at "stm"
      (with_reducible refine tSeq_i ?_)
      walk_at "stm"
      refine ⟨p1, _, rfl, c2, ?_⟩
      walk_at "stm"
      (with_reducible refine seq_rest (fun σ' J2 => σ' = [some (.ref r1), some (.ref r2), some (.ref pd), some (.ref p1), some (.str x), some v0, o6, none, none] ∧ Same HW J2 ∧ Den K J2 v0 t0.data) (fun σ' J2 hP => ?_) (fun kz => ?_))
      rotate_left
      · walk_at "stm"
        refine ⟨t0, c3, by omega, fun J2 s2 => ?_⟩
        have sJ2 := sJ.trans s2
        walk_at "stm"
        refine iteF ?_
        walk_at "stm"
        rcases (p0w.mono sJ2).get x with ⟨d1, d2⟩ | ⟨t', v1, d1, d2, d3⟩
        · refine ⟨pd, _, rfl, d2, ?_⟩
          walk_at "stm"
          refine iteF ?_
          walk_at "stm"
          refine iteF ?_
          (with_reducible refine tNext_i ?_)
          exact kz _ _ ⟨rfl, sJ2, c3.mono s2⟩
        · have hold := ex.old x t' d1
          rw [hlk] at hold
          cases hold
          refine ⟨pd, _, rfl, d2, ?_⟩
          walk_at "stm"
          refine iteT ?_
          walk_at "stm"
          refine ⟨pd, _, rfl, d2, ?_⟩
          refine mEqT_i (c3.mono s2) d3 (by omega) ?_
          rw [eqb_self]
          walk_at "stm"
          refine iteF ?_
          (with_reducible refine tNext_i ?_)
          exact kz _ _ ⟨rfl, sJ2, c3.mono s2⟩
      obtain ⟨rfl, sJ2, c4⟩ := hP
      have frJ2 := sJ2 _ _ fr0
      have okJ2 := okw.mono sJ2
      (with_reducible refine seq_rest (fun σ' J3 => ∃ v3, σ' = [some (.ref r1), some (.ref r2), some (.ref pd), some (.ref p1), some (.str x), some v3, o6, none, none] ∧ J3 = J2 ∧ Den K J2 v3 (wk rows t0).data) (fun σ' J3 hP => ?_) (fun kz => ?_))
      rotate_left
      · cases t0 with
        | any y =>
          obtain ⟨a, rfl, hs⟩ := den_any c4
          walk_at "stm"
          refine mIx_t hs (v := .str anyS) rfl ?_
          walk_at "stm"
          rw [Bool.false_xor, q3]
          refine iteT ?_
          walk_at "stm"
          refine ⟨p1, rfl, .inl ⟨kv1, .inr ⟨ob, frJ2⟩⟩, ?_⟩
          walk_at "stm"
          refine mIx_t hs (v := .str y) rfl ?_
          walk_at "stm"
          rcases frz_get frJ2 okJ2 y with ⟨g1, g2⟩ | ⟨u, w', g1, g2, g3⟩
          · refine ⟨none, g2, ?_⟩
            exact kz _ _ ⟨_, rfl, rfl, by rw [wk_none g1]; exact c4⟩
          · refine ⟨some w', g2, ?_⟩
            exact kz _ _ ⟨_, rfl, rfl, by rw [wk_some g1]; exact g3⟩
        | num n =>
          obtain ⟨a, rfl, hs⟩ := den_num c4
          walk_at "stm"
          refine mIx_t hs (v := .str numS) rfl ?_
          walk_at "stm"
          rw [Bool.false_xor, q1]
          refine iteF ?_
          (with_reducible refine tNext_i ?_)
          exact kz _ _ ⟨_, rfl, rfl, c4⟩
        | app sg ks =>
          obtain ⟨a, b, us, rfl, hs, hb, hk⟩ := den_app c4
          walk_at "stm"
          refine mIx_t hs (v := .str appS) rfl ?_
          walk_at "stm"
          rw [Bool.false_xor, q2]
          refine iteF ?_
          (with_reducible refine tNext_i ?_)
          exact kz _ _ ⟨_, rfl, rfl, c4⟩
      obtain ⟨v3, rfl, rfl, c5⟩ := hP
      have sq3 := sJ2.tup sqw
      have pt3 := ptw.mono sJ2
      obtain ⟨kv3, e3, ok3⟩ := pt3.ex
      walk_at "stp"
      refine mIx_t sq3 (v := .ref p2) rfl ?_
      walk_at "stp"
      rcases pt3.get x with ⟨d1, _⟩ | ⟨t', v4, d1, d2, d3⟩
      · rw [hlk] at d1; cases d1
      rw [hlk] at d1
      cases d1
      refine ⟨p2, _, rfl, d2, ?_⟩
      walk_at "stp"
      have done : ∀ v5, Den K J3 v5 (wk rows t0).data → Same HW J3 → True := fun _ _ _ => trivial
      cases t0 with
      | any y =>
        obtain ⟨a, rfl, hs⟩ := den_any d3
        refine mIx_t hs (v := .str anyS) rfl ?_
        walk_at "stp"
        rw [Bool.false_xor, q3]
        refine iteT ?_
        walk_at "stp"
        refine mIx_t sq3 (v := .ref p2) rfl ?_
        refine ⟨p2, rfl, .inl ⟨kv3, .inl e3⟩, ?_⟩
        walk_at "stp"
        refine mIx_t hs (v := .str y) rfl ?_
        walk_at "stp"
        rcases pt3.get y with ⟨g1, g2⟩ | ⟨u, w', g1, g2, g3⟩
        · refine ⟨none, g2, ?_⟩
          rw [wk_none g1] at c5
          refine mEqT_i c5 d3 (by omega) ?_
          rw [eqb_self]
          walk_at "stp"
          refine iteF ?_
          (with_reducible refine tNext_i ?_)
          exact ⟨_, _, _, rfl, sJ2⟩
        · refine ⟨some w', g2, ?_⟩
          rw [wk_some g1] at c5 zs2
          refine mEqT_i c5 g3 (by omega) ?_
          rw [eqb_self]
          walk_at "stp"
          refine iteF ?_
          (with_reducible refine tNext_i ?_)
          exact ⟨_, _, _, rfl, sJ2⟩
      | num n =>
        obtain ⟨a, rfl, hs⟩ := den_num d3
        refine mIx_t hs (v := .str numS) rfl ?_
        walk_at "stp"
        rw [Bool.false_xor, q1]
        refine iteF ?_
        walk_at "stp"
        refine mEqT_i (t := .num n) c5 d3 (by omega) ?_
        rw [eqb_self]
        walk_at "stp"
        refine iteF ?_
        (with_reducible refine tNext_i ?_)
        exact ⟨_, _, _, rfl, sJ2⟩
      | app sg ks =>
        obtain ⟨a, b, us, rfl, hs, hb, hk⟩ := den_app d3
        refine mIx_t hs (v := .str appS) rfl ?_
        walk_at "stp"
        rw [Bool.false_xor, q2]
        refine iteF ?_
        walk_at "stp"
        refine mEqT_i (t := .app sg ks) c5 d3 (by omega) ?_
        rw [eqb_self]
        walk_at "stp"
        refine iteF ?_
        (with_reducible refine tNext_i ?_)
        exact ⟨_, _, _, rfl, sJ2⟩
    · obtain ⟨o4, o5, o6, rfl, sJ⟩ := hP
      refine ⟨p1, ob, kv1, nf, sJ _ _ fr0, ?_⟩
      walk_at "stp"
      refine q _ (t02.trans fun b u z => ?_)
      by_cases n : b = p1
      · subst n
        rw [e1'] at z
        rw [← z]
        exact upd_same
      · rw [upd_ne n]
        exact sJ _ _ (sO0 b u n z)
  | part path ka kb =>
    obtain ⟨⟨ka0, ia, hka⟩, kb0, ib, hkb⟩ := hB path ka kb rfl
    obtain ⟨r1, a1, a2, a3, us1, rfl, sq1, sa1, sa2, sa3, dl1⟩ := partd_inv h1
    obtain ⟨r2, b1, b2, b3, us2, rfl, sq2, sb1, sb2, sb3, dl2⟩ := partd_inv h2
    walk_at "stp"
    refine is_tup sq1 ?_
    walk_at "stp"
    refine iteF ?_
    walk_at "stp"
    refine mLen_t sq1 ?_
    walk_at "stp"
    refine mLen_t sq2 ?_
    walk_at "stp"
    refine iteB (fun e => absurd e (by simp)) (fun _ => ?_)
    walk_at "stp"
    refine mIx_t sq1 (v := .str partS) rfl ?_
    walk_at "stp"
    refine mIx_t sq2 (v := .str partS) rfl ?_
    walk_at "stp"
    refine iteB (fun e => absurd e (by decide +kernel)) (fun _ => ?_)
    walk_at "stp"
    refine mIx_t sq2 (v := .str partS) rfl ?_
    walk_at "stp"
    refine iteB (fun e => absurd e (by decide +kernel)) (fun _ => ?_)
    walk_at "stp"
    refine mIx_t sq1 (v := .ref a2) rfl ?_
    walk_at "stp"
    refine mIx_t sq1 (v := .ref a3) rfl ?_
    walk_at "stp"
    refine ⟨ln (by show 2 ≤ 100000; decide), fun pk hpk => ?_⟩
    have spk : Same H (upd H pk (.lst [.ref a2, .ref a3])) := same_new hpk _
    have kpk : (upd H pk (.lst [.ref a2, .ref a3])) pk = some (.lst [.ref a2, .ref a3]) := upd_same
    generalize upd H pk (.lst [.ref a2, .ref a3]) = H1 at spk kpk ⊢
    walk_at "stp"
    refine ⟨pk, rfl, ⟨_, SqL.of kpk⟩, ?_⟩
    refine for_row (row_list (xs := [V.ref a2, V.ref a3])) (fun i σ' J => ∃ o8 : Option V, σ' = [some (.ref r1), some (.ref r2), some (.ref pd), none, none, none, none, some (.ref pk), o8] ∧ J = H1) ⟨none, rfl, rfl⟩ (fun i σ' J hP => by obtain ⟨_, _, rfl⟩ := hP; exact SqL.of kpk) (fun i σ' J hi hP => ?_) (fun σ' J hP => ?_)
    · obtain ⟨o8, rfl, rfl⟩ := hP
      have hc : ∃ (p : Addr) (k0 : List Key) (z : Int), [V.ref a2, V.ref a3].getD i .non = .ref p ∧ SqT K J p (k0.map kV ++ [.int z]) := by
        have hi2 : i = 0 ∨ i = 1 := by have : i < 2 := hi; omega
        rcases hi2 with rfl | rfl
        · exact ⟨a2, ka0, ia, rfl, by have := spk.tup sa2; rw [hka, List.map_append] at this; exact this⟩
        · exact ⟨a3, kb0, ib, rfl, by have := spk.tup sa3; rw [hkb, List.map_append] at this; exact this⟩
      obtain ⟨p, k0, z, ep, sp⟩ := hc
      rw [ep]
      walk_at "stp"
      refine is_tup sp ?_
      walk_at "stp"
      refine iteF ?_
      walk_at "stp"
      refine mIx_t sp (atI_last _ _) ?_
      walk_at "stp"
      refine iteF ?_
      (with_reducible refine tNext_i ?_)
      exact ⟨_, rfl, rfl⟩
    · obtain ⟨o8, rfl, rfl⟩ := hP
      walk_at "stp"
      refine mIx_t (spk.tup sq1) (v := .ref a1) rfl ?_
      walk_at "stp"
      refine is_tup (spk.tup sa1) ?_
      walk_at "stp"
      refine iteT ?_
      walk_at "stp"
      refine ⟨r1, r2, _, _, _, rfl, rfl, .inl ⟨spk.tup sq1, spk.tup sq2⟩, dl1.mono spk, dl2.mono spk, ?_, ?_⟩
      · have i1 := ints_dep path
        have i2 := keys_dep ka
        have i3 := keys_dep kb
        simp only [PyData.depthAll, PyData.depth, i1, i2, i3]
        decide
      · exact q J spk
end
theorem okp_all {l r t1 t2 : Trm} (h : lfy t1 = true) (hl : (∃ x, l = .any x) ∨ l = .num 5 ∨ l = t1 ∨ l = t2) (hr : (∃ x, r = .any x) ∨ r = .num 5 ∨ r = t1 ∨ r = t2) : okP l r := by
  rcases hl with ⟨x, rfl⟩ | rfl | rfl | rfl
  · exact ok_any
  · exact ok_left rfl
  · exact ok_left h
  · rcases hr with ⟨x, rfl⟩ | rfl | rfl | rfl
    · exact ok_any'
    · exact ok_right rfl
    · exact ok_right h
    · exact ok_same _
theorem wk_in {rows : Rws} {t t1 t2 : Trm} (hr : ∀ r ∈ rows, r.2 = .num 5 ∨ r.2 = t1 ∨ r.2 = t2) (ht : (∃ x, t = .any x) ∨ t = t1 ∨ t = t2) (h1 : flatT t1 = true) (h2 : flatT t2 = true) : (∃ x, wk rows t = .any x) ∨ wk rows t = .num 5 ∨ wk rows t = t1 ∨ wk rows t = t2 := by
  rcases ht with ⟨x, rfl⟩ | rfl | rfl
  · cases e : lookR rows x with
    | none => exact .inl ⟨x, wk_none e⟩
    | some u => rw [wk_some e]; exact .inr (hr _ (look_mem e))
  · rw [wk_flat h1]; exact .inr (.inr (.inl rfl))
  · rw [wk_flat h2]; exact .inr (.inr (.inr rfl))
theorem put_ext {rows : Rws} {x : Str} {t : Trm} (f : FR rows) (h : lookR rows x = none) (ht : afT t = true) : Ext rows (putR rows x t) := by
  have e := putR_new (t := t) (look_out h)
  refine ⟨fun y u hy => ?_, fun r hr => ?_, ?_⟩
  · rw [look_put, if_neg (fun z => by rw [z, h] at hy; cases hy)]
    exact hy
  · rw [e] at hr
    rcases List.mem_append.mp hr with z | z
    · exact flat_af (f.fl r z)
    · rw [List.mem_singleton.mp z]; exact ht
  · rw [e, List.length_append, List.length_singleton]
    have := f.len
    omega
theorem fd_mem : ∀ {ks ls : List Trm} {i : Nat} {z : Nat × Trm × Trm}, fd ks ls i = some z → z.2.1 ∈ ks ∧ z.2.2 ∈ ls
  | [], [], _, _, h => by cases h
  | [], _ :: _, _, _, h => by cases h
  | _ :: _, [], _, _, h => by cases h
  | k :: ks, l :: ls, i, z, h => by
    by_cases e : eqb k l = true
    · rw [fd_go e] at h
      obtain ⟨a, b⟩ := fd_mem h
      exact ⟨List.mem_cons_of_mem _ a, List.mem_cons_of_mem _ b⟩
    · rw [fd_at (Bool.eq_false_iff.mpr e)] at h
      cases h
      exact ⟨List.mem_cons_self, List.mem_cons_self⟩
theorem key_end {t : Trm} (h : flatT t = true) : ∃ k i, keyL t = k ++ [Sum.inl i] := by
  cases t with
  | num n => exact ⟨[Sum.inr numS], n, rfl⟩
  | any x => cases h
  | app s ks => exact ⟨[Sum.inr appS, Sum.inr s], _, rfl⟩
theorem place_end {l r : Trm} (hl : flatT l = true) (hr : flatT r = true) {z : List Int × List Key × List Key} (h : placeR l r = some z) : (∃ k i, z.2.1 = k ++ [Sum.inl i]) ∧ ∃ k i, z.2.2 = k ++ [Sum.inl i] := by
  by_cases e : keyL l ≠ keyL r
  · rw [place_ne e] at h
    cases h
    exact ⟨key_end hl, key_end hr⟩
  have e : keyL l = keyL r := Classical.not_not.mp e
  cases l with
  | any x => cases hl
  | num n =>
    obtain ⟨m, rfl⟩ := key_num hr e
    rw [place_num e] at h
    cases h
  | app s ks =>
    obtain ⟨ls, rfl, _⟩ := key_app' hr e
    rw [place_app e] at h
    obtain ⟨w, hw, rfl⟩ := Option.map_eq_some_iff.mp h
    obtain ⟨a, b⟩ := fd_mem hw
    exact ⟨key_end ((flat_app hl).1 _ a), key_end ((flat_app hr).1 _ b)⟩
theorem mo_facts {rows : Rws} {t t' : Trm} (f : FR rows) (ha : afT t = true) (ha' : afT t' = true) : (∀ rows', mo rows t t' = .one rows' → Ext rows rows') ∧ ∀ path a b, mo rows t t' = .part path a b → (∃ k i, a = k ++ [Sum.inl i]) ∧ ∃ k i, b = k ++ [Sum.inl i] := by
  have al := f.wk_af ha
  have ar := f.wk_af ha'
  have nl : ∀ y, wk rows t = .any y → lookR rows y = none := fun y e => f.wk_any e
  have nr : ∀ y, wk rows t' = .any y → lookR rows y = none := fun y e => f.wk_any e
  have hm : mo rows t t' = mo2 rows (wk rows t) (wk rows t') := rfl
  rw [hm]
  generalize wk rows t = l at *
  generalize wk rows t' = r at *
  have self : Ext rows rows := ⟨fun _ _ h => h, fun r hr => flat_af (f.fl r hr), by have := f.len; omega⟩
  by_cases e : eqb l r = true
  · rw [mo2, if_pos e]
    exact ⟨fun _ h => by cases h; exact self, fun _ _ _ h => by cases h⟩
  by_cases hl : ∃ x, l = .any x
  · obtain ⟨x, rfl⟩ := hl
    rw [mo2, if_neg e]
    exact ⟨fun _ h => by cases h; exact put_ext f (nl x rfl) ar, fun _ _ _ h => by cases h⟩
  have fl := af_flat al (fun x z => hl ⟨x, z⟩)
  by_cases hr : ∃ y, r = .any y
  · obtain ⟨y, rfl⟩ := hr
    have e2 : mo2 rows l (.any y) = .one (putR rows y l) := by
      rw [mo2, if_neg e]
      cases l with
      | any x => exact absurd ⟨x, rfl⟩ hl
      | num n => rfl
      | app s ks => rfl
    rw [e2]
    exact ⟨fun _ h => by cases h; exact put_ext f (nr y rfl) al, fun _ _ _ h => by cases h⟩
  have fr := af_flat ar (fun x z => hr ⟨x, z⟩)
  rw [mo_place rows fl fr]
  cases hp : placeR l r with
  | none => exact ⟨fun _ h => by cases h; exact self, fun _ _ _ h => by cases h⟩
  | some z => exact ⟨(fun _ h => by cases h), fun _ _ _ h => by cases h; exact place_end fl fr hp⟩
theorem ResAt.mono {K : PySem.W.Frag} {H H' : Hp} {v : V} {p : Addr} {res : Rs} (h : ResAt K H v p res) (s : Same H H') : ResAt K H' v p res := by
  cases res with
  | one rows =>
    obtain ⟨r, e, h1, h2⟩ := h
    exact ⟨r, e, s.tup h1, h2.mono s⟩
  | part path a b => exact Den.mono s h
theorem res_ne {K : PySem.W.Frag} {H : Hp} {f d : V} {p1 p2 pd : Addr} {res : Rs} (h1 : ResAt K H f p1 res) (h2 : ResAt K H d p2 res) (h : (∃ rows, res = .one rows) → p1 ≠ p2 ∧ p1 ≠ pd) : ∃ q1 q2, ResAt K H f q1 res ∧ ResAt K H d q2 res ∧ q1 ≠ q2 ∧ q1 ≠ pd := by
  cases res with
  | one rows => exact ⟨p1, p2, h1, h2, h ⟨rows, rfl⟩⟩
  | part path a b => exact ⟨pd + 1, pd + 2, h1, h2, (fun z => by have e : (1 : Nat) = 2 := Nat.add_left_cancel z; cases e), Nat.succ_ne_self pd⟩
theorem puts_eq {K : PySem.W.Frag} {H : Hp} {a b : Addr} {rows : Rws} {n : Bool} {Q : VK} (h1 : PutAt K H a rows) (h2 : PutAt K H b rows) (hn : (rows.map (·.1)).Nodup) (hz : ∀ r ∈ rows, r.2.size ≤ 50) (k : Q (.bl (!n)) H) : dEqK K n (.ref a) (.ref b) H Q := by
  obtain ⟨ka, e1, o1⟩ := h1.ex
  obtain ⟨kb, e2, o2⟩ := h2.ex
  refine ⟨a, b, ka, kb, rfl, rfl, e1, e2, by rw [o1.len, o2.len], fun k v hk => ?_, k⟩
  obtain ⟨x, t, hm, rfl, d1⟩ := o1.mem hk
  rcases o2.get x with ⟨c1, _⟩ | ⟨t', v', c1, c2, c3⟩
  · exact absurd (List.mem_map.mpr ⟨(x, t), hm, rfl⟩) (look_out c1)
  · have et : t' = t := by
      have hm' := look_mem c1
      obtain ⟨i, hi⟩ := List.mem_iff_getElem?.mp hm
      obtain ⟨j, hj⟩ := List.mem_iff_getElem?.mp hm'
      have f1 : (rows.map (·.1))[i]? = some x := by rw [List.getElem?_map, hi]; rfl
      have f2 : (rows.map (·.1))[j]? = some x := by rw [List.getElem?_map, hj]; rfl
      have e : i = j := (List.getElem?_inj (List.getElem?_eq_some_iff.mp f1).1 hn).mp (f1.trans f2.symm)
      subst e
      rw [hi] at hj
      cases hj
      rfl
    subst et
    have h8 := Trm.depth_le t'
    have h9 : t'.size ≤ 50 := hz _ hm
    exact ⟨v', t'.data, c2, d1, c3, by omega⟩
theorem n_at {xs : List Str} {i : Int} (h0 : 0 ≤ i) (h1 : i < (xs.length : Int)) : ∃ x, atI (xs.map V.str) i = some (.str x) := by
  obtain ⟨v, hv, _⟩ := atI_lt (xs := xs.map V.str) h0 (by rw [List.length_map]; exact h1)
  obtain ⟨x, rfl, _⟩ := strs_at hv
  exact ⟨x, hv⟩
theorem putR_mem {rows : Rws} {x : Str} {t : Trm} {r : Str × Trm} (h : r ∈ putR rows x t) : r ∈ rows ∨ r.2 = t := by
  unfold putR at h
  split at h
  · obtain ⟨q, hq, e⟩ := List.mem_map.mp h
    split at e
    · exact .inr (by rw [← e])
    · exact .inl (e ▸ hq)
  · rcases List.mem_append.mp h with z | z
    · exact .inl z
    · exact .inr (by rw [List.mem_singleton.mp z])
theorem putR_len {rows : Rws} {x : Str} {t : Trm} : (putR rows x t).length ≤ rows.length + 1 := by
  unfold putR
  split
  · rw [List.length_map]; omega
  · simp
structure PR (t1 t2 : Trm) (n : Nat) (rows : Rws) : Prop where
  nd : (rows.map (·.1)).Nodup
  len : rows.length ≤ n
  val : ∀ r ∈ rows, r.2 = .num 5 ∨ r.2 = t1 ∨ r.2 = t2
theorem PR.put {t1 t2 : Trm} {n : Nat} {rows : Rws} {x : Str} {t : Trm} (h : PR t1 t2 n rows) (ht : t = t1 ∨ t = t2) : PR t1 t2 (n + 1) (putR rows x t) := by
  refine ⟨putR_nodup h.nd, Nat.le_trans putR_len (Nat.succ_le_succ h.len), fun r hr => ?_⟩
  rcases putR_mem hr with z | z
  · exact h.val r z
  · rw [z]; exact .inr ht
theorem PR.fr {t1 t2 : Trm} {n : Nat} {rows : Rws} (h : PR t1 t2 n rows) (hn : n ≤ 20) (h1 : flatT t1 = true) (h2 : flatT t2 = true) : FR rows := by
  refine ⟨Nat.le_trans h.len hn, fun r hr => ?_⟩
  rcases h.val r hr with z | z | z
  · rw [z]; rfl
  · rw [z]; exact h1
  · rw [z]; exact h2
theorem PutAt.set {K : PySem.W.Frag} {H : Hp} {p : Addr} {rows : Rws} {kvs : List (Key × V)} {x : Str} {v : V} {t : Trm} (e : H p = some (.dK kvs)) (ok : PutsOk K H kvs rows) (d : Den K H v t.data) : PutAt K (upd H p (.dK (putK kvs (Sum.inr x) v))) p (putR rows x t) := ⟨_, upd_same, (ok.put (x := x) (v := v) (t := t) d).monoT (KT.upd e (fun _ z => by cases z) (fun _ _ z => by cases z))⟩
section
variable {P : Program} {w : World} {K : PySem.W.Frag} {mg : Str → Option Value} {base : Heap} {t : Ad}
theorem ok_law (T : Txt K mg t) (G_l_names : FnOk P w K mg base CX0 1 t.a_l_names t.d_l_names ["_law_cell_here", "_law_many", "_law_first"] (sp_l_names K)) (G_l_flat : FnOk P w K mg base CX0 3 t.a_l_flat t.d_l_flat ["_law_cell_here", "_law_cells", "_law_words"] (sp_l_flat K)) (G_l_cell : FnOk P w K mg base CX0 1 t.a_l_cell t.d_l_cell ["_law_script", "_law_k"] (sp_l_cell K)) (G_l_due : FnOk P w K mg base CX0 3 t.a_l_due t.d_l_due ["_law_one", "_law_other", "_law_puts"] (sp_l_due K)) (G_made_one : FnOk P w K mg base CX0 6 t.a_made_one t.d_made_one ["one", "other", "puts"] (sp_made_one K)) (G_l_seen : FnOk P w K mg base CX0 2 t.a_l_seen t.d_l_seen ["_law_found", "_law_due_here", "_law_puts"] (sp_l_seen K)) (G_l_off : FnOk P w K mg base CX0 6 t.a_l_off t.d_l_off ["_law_term", "_law_cell_here", "_law_words"] (sp_l_off K 5)) : FnOk P w K mg base CX0 7 t.a_law t.d_law ["_law_script"] (sp_law K) := by
  refine T.F_law.ok sc_law (fun vs H Q E h => ?_) (fun cdv A outer s H vs Q E hr h => ?_)
  · unfold sp_law at h
    split at h
    · rfl
    · exact h.elim
  unfold sp_law at h
  split at h
  rotate_left
  · exact h.elim
  refine ⟨_, (@QSs.pss _ _ _ (qss_cons (qs_of (ps_set (i := 1) (hs := sw_call) sc_law.nd rfl (by first | exact Or.inl rfl | exact Or.inr rfl) (pe_call G_l_names (hr.mono (by first | decide | omega)) rfl T.m_l_names T.F_l_names.kp T.b_l_names .nil pass0 (pa_con (pe_call G_l_cell (hr.mono (by first | decide | omega)) rfl T.m_l_cell T.F_l_cell.kp T.b_l_cell .nil pass0 (pa_con (mv 0) (pa_con pe_int pa_nil))) (pa_con pe_int (pa_con pe_str pa_nil)))))) (qss_cons (qs_of (ps_set (i := 2) (hs := sw_call) sc_law.nd rfl (by first | exact Or.inl rfl | exact Or.inr rfl) (pe_call G_l_names (hr.mono (by first | decide | omega)) rfl T.m_l_names T.F_l_names.kp T.b_l_names .nil pass0 (pa_con (pe_call G_l_cell (hr.mono (by first | decide | omega)) rfl T.m_l_cell T.F_l_cell.kp T.b_l_cell .nil pass0 (pa_con (mv 0) (pa_con pe_int pa_nil))) (pa_con pe_int (pa_con pe_str pa_nil)))))) (qss_cons (qs_of (ps_set (i := 3) (hs := sw_call) sc_law.nd rfl (by first | exact Or.inl rfl | exact Or.inr rfl) (pe_call G_l_flat (hr.mono (by first | decide | omega)) rfl T.m_l_flat T.F_l_flat.kp T.b_l_flat .nil pass0 (pa_con (pe_call G_l_cell (hr.mono (by first | decide | omega)) rfl T.m_l_cell T.F_l_cell.kp T.b_l_cell .nil pass0 (pa_con (mv 0) (pa_con pe_int pa_nil))) (pa_con (pe_comp rfl (pi_range1 rfl T.n_range (pa_con pe_int pa_nil)) (comp_sc (defScope s_law) ["_law_script", "_law_names_here", "_law_words", "_law_one", "_law_other", "_law_way", "_law_puts", "_law_terms", "_law_sides", "_law_k", "_law_due_here", "_law_handed", "_law_found"] ["_law_script", "_law_names_here", "_law_words", "_law_one", "_law_other", "_law_way", "_law_puts", "_law_terms", "_law_sides", "%_law_k", "_law_due_here", "_law_handed", "_law_found"] rfl rfl (by decide +kernel)) (fun _ _ _ _ _ => pts_nil) (fun _ _ _ _ _ => (pe_call G_l_cell (hr.mono (by first | decide | omega)) rfl T.m_l_cell T.F_l_cell.kp T.b_l_cell .nil pass0 (pa_con (mv 1) (pa_con (pe_op (ko_add K rfl) pe_int (mv 0)) pa_nil))))) (pa_con (mv 2) pa_nil)))))) (qss_cons (qs_of (ps_set (i := 4) (hs := sw_call) sc_law.nd rfl (by first | exact Or.inl rfl | exact Or.inr rfl) (pe_call G_l_flat (hr.mono (by first | decide | omega)) rfl T.m_l_flat T.F_l_flat.kp T.b_l_flat .nil pass0 (pa_con (pe_call G_l_cell (hr.mono (by first | decide | omega)) rfl T.m_l_cell T.F_l_cell.kp T.b_l_cell .nil pass0 (pa_con (mv 0) (pa_con pe_int pa_nil))) (pa_con (pe_comp rfl (pi_range1 rfl T.n_range (pa_con pe_int pa_nil)) (comp_sc (defScope s_law) ["_law_script", "_law_names_here", "_law_words", "_law_one", "_law_other", "_law_way", "_law_puts", "_law_terms", "_law_sides", "_law_k", "_law_due_here", "_law_handed", "_law_found"] ["_law_script", "_law_names_here", "_law_words", "_law_one", "_law_other", "_law_way", "_law_puts", "_law_terms", "_law_sides", "%_law_k", "_law_due_here", "_law_handed", "_law_found"] rfl rfl (by decide +kernel)) (fun _ _ _ _ _ => pts_nil) (fun _ _ _ _ _ => (pe_call G_l_cell (hr.mono (by first | decide | omega)) rfl T.m_l_cell T.F_l_cell.kp T.b_l_cell .nil pass0 (pa_con (mv 1) (pa_con (pe_op (ko_add K rfl) pe_int (mv 0)) pa_nil))))) (pa_con (mv 2) pa_nil)))))) (qss_cons (qs_of (ps_set (i := 5) (hs := sw_bin) sc_law.nd rfl (by first | exact Or.inl rfl | exact Or.inr rfl) (pe_op mo_mod (pe_call G_l_cell (hr.mono (by first | decide | omega)) rfl T.m_l_cell T.F_l_cell.kp T.b_l_cell .nil pass0 (pa_con (mv 0) (pa_con pe_int pa_nil))) pe_int))) (qss_cons (qs_if (mt_cmp mo_eq (pe_op mo_mod (mv 5) pe_int) pe_int (nomark _)) (qss_one (qs_of (ps_set (i := 4) sc_law.nd rfl (by first | exact Or.inl rfl | exact Or.inr rfl) (pe_ifExp (mt_cmp mo_lt (mv 5) pe_int (nomark _)) (pe_call G_l_off (hr.mono (by first | decide | omega)) rfl T.m_l_off T.F_l_off.kp T.b_l_off .nil pass0 (pa_con (mv 3) (pa_con (pe_op mo_mod (pe_call G_l_cell (hr.mono (by first | decide | omega)) rfl T.m_l_cell T.F_l_cell.kp T.b_l_cell .nil pass0 (pa_con (mv 0) (pa_con pe_int pa_nil))) (pe_op mo_pow pe_int pe_int)) (pa_con (mv 2) pa_nil)))) (mv 3))))) qss_nil) (qss_cons (qs_set (i := 6) sc_law.nd rfl (by first | exact Or.inl rfl | exact Or.inr rfl) (qe_disp (qp_cons (pe_ix (ki_seq K rfl) (mv 1) pe_int (fun _ _ => rfl)) (pe_tup (pa_con pe_str (pa_con pe_int pa_nil))) qp_nil) rfl rfl (by simp) (by decide)) rfl (by first | exact Or.inl rfl | exact Or.inr rfl)) (qss_cons (qs_if (mt_cmp mo_eq (pe_op mo_mod (pe_call G_l_cell (hr.mono (by first | decide | omega)) rfl T.m_l_cell T.F_l_cell.kp T.b_l_cell .nil pass0 (pa_con (mv 0) (pa_con pe_int pa_nil))) pe_int) pe_int (nomark _)) (qss_cons (qs_of (ps_dput (hu_of hr) (mv 6) (pe_ix (ki_seq K rfl) (mv 1) (pe_op mo_mod (pe_op mo_fdiv (pe_call G_l_cell (hr.mono (by first | decide | omega)) rfl T.m_l_cell T.F_l_cell.kp T.b_l_cell .nil pass0 (pa_con (mv 0) (pa_con pe_int pa_nil))) pe_int) pe_int) (fun _ _ => rfl)) (mv 3) rfl)) (qss_one (qs_of (ps_dput (hu_of hr) (mv 6) (pe_ix (ki_seq K rfl) (mv 1) (pe_op (ko_add K rfl) pe_int (pe_op mo_mod (pe_op mo_fdiv (pe_call G_l_cell (hr.mono (by first | decide | omega)) rfl T.m_l_cell T.F_l_cell.kp T.b_l_cell .nil pass0 (pa_con (mv 0) (pa_con pe_int pa_nil))) pe_int) pe_int)) (fun _ _ => rfl)) (mv 4) rfl)))) qss_nil) (qss_cons (qs_of (ps_set (i := 7) (hs := sw_lst) sc_law.nd rfl (by first | exact Or.inl rfl | exact Or.inr rfl) (pe_lst (pa_con (mv 3) (pa_con (mv 4) pa_nil))))) (qss_cons (qs_of (ps_set (i := 8) (hs := sw_call) sc_law.nd rfl (by first | exact Or.inl rfl | exact Or.inr rfl) (pe_call G_l_cell (hr.mono (by first | decide | omega)) rfl T.m_l_cell T.F_l_cell.kp T.b_l_cell .nil pass0 (pa_con (mv 0) (pa_con pe_int pa_nil))))) (qss_cons (qs_of (ps_for PassesOwn.never rfl (pi_range1 rfl T.n_range (pa_con pe_int pa_nil)) (pg_name (i := 9) sc_law.nd rfl (by first | exact Or.inl rfl | exact Or.inr rfl)) (pss_one (ps_if (mt_cmp mo_eq (pe_op mo_mod (pe_op mo_fdiv (mv 8) (pe_op (ko_add K rfl) pe_int (pe_op mo_mul pe_int (mv 9)))) pe_int) pe_int (nomark _)) (pss_one (ps_asg (pe_tup (pa_con pe_str (pa_con (pe_ix (ki_seq K rfl) (mv 1) (pe_op mo_mod (pe_op mo_fdiv (mv 8) (pe_op (ko_add K rfl) pe_int (pe_op mo_mul pe_int (mv 9)))) pe_int) (fun _ _ => rfl)) pa_nil))) (pg_sub (mv 7) (mv 9) set_list))) pss_nil)))) (qss_cons (qs_of (ps_set (i := 10) (hs := sw_call) sc_law.nd rfl (by first | exact Or.inl rfl | exact Or.inr rfl) (pe_call G_l_due (hr.mono (by first | decide | omega)) rfl T.m_l_due T.F_l_due.kp T.b_l_due .nil pass0 (pa_con (pe_ix (ki_seq K rfl) (mv 7) pe_int (fun _ _ => rfl)) (pa_con (pe_ix (ki_seq K rfl) (mv 7) pe_int (fun _ _ => rfl)) (pa_con (mv 6) pa_nil)))))) (qss_cons (qs_of (ps_set (i := 11) (hs := sw_call) sc_law.nd rfl (by first | exact Or.inl rfl | exact Or.inr rfl) (pe_callTy mc_dictK rfl T.n_dict boot_dict (pa_con (mv 6) pa_nil)))) (qss_cons (qs_of (ps_set (i := 12) (hs := sw_call) sc_law.nd rfl (by first | exact Or.inl rfl | exact Or.inr rfl) (pe_call G_made_one (hr.mono (by first | decide | omega)) rfl T.m_made_one T.F_made_one.kp T.b_made_one .nil pass0 (pa_con (pe_ix (ki_seq K rfl) (mv 7) pe_int (fun _ _ => rfl)) (pa_con (pe_ix (ki_seq K rfl) (mv 7) pe_int (fun _ _ => rfl)) (pa_con (mv 11) pa_nil)))))) (qss_cons (qs_if (PW.pt (pw_or (pt_not (kt_tru K rfl (pe_call G_l_seen (hr.mono (by first | decide | omega)) rfl T.m_l_seen T.F_l_seen.kp T.b_l_seen .nil pass0 (pa_con (mv 12) (pa_con (mv 10) (pa_con (mv 6) pa_nil)))))) (pw_or1 (mt_cmp (ko_neK K rfl (room150 hr)) (mv 11) (mv 6) (nomark _))))) (qss_one (qs_of (ps_ret pe_bl))) qss_nil) (qss_cons (qs_if (mt_cmp mo_eq (pe_ix (ki_seq K rfl) (mv 10) pe_int (fun _ _ => rfl)) pe_str (nomark _)) (qss_one (qs_of (ps_expr (ke_bm0 K rfl PySem.F.plainAttrs_dict PySem.F.slot_dict_clear PySem.F.type_dict_clear mm_dclr (pe_ix (ki_seq K rfl) (mv 12) pe_int (fun _ _ => rfl)))))) qss_nil) (qss_one (qs_of (ps_ret (me_and (pe_cmpR (ko_eqK K rfl (room150 hr)) (mv 11) (mv 6) (nomark _)) (pe_one (pe_call G_l_seen (hr.mono (by first | decide | omega)) rfl T.m_l_seen T.F_l_seen.kp T.b_l_seen .nil pass0 (pa_con (pe_call G_made_one (hr.mono (by first | decide | omega)) rfl T.m_made_one T.F_made_one.kp T.b_made_one .nil pass0 (pa_con (pe_ix (ki_seq K rfl) (mv 7) pe_int (fun _ _ => rfl)) (pa_con (pe_ix (ki_seq K rfl) (mv 7) pe_int (fun _ _ => rfl)) (pa_con (mv 11) pa_nil)))) (pa_con (mv 10) (pa_con (mv 6) pa_nil)))))))))))))))))))))))))), ?_⟩
  rename_i a
  obtain ⟨ns, hS, hn0, hb, q⟩ := h
  walk_at "stp"
  refine ⟨ns, hS, hb, by omega, by omega, fun c0 => ?_⟩
  walk_at "stp"
  refine ⟨by decide, by decide, by decide +kernel, great_nodup, fun np xs H1 hx1 hx2 hx3 s1 k1 => ?_⟩
  have hx5 : xs.length = 5 := hx1
  walk_at "stp"
  refine ⟨ns, (s1.seq hS), hb, by omega, by omega, fun c1 => ?_⟩
  walk_at "stp"
  refine ⟨by decide, by decide, by decide +kernel, small_nodup, fun wp ws H2 hw1 hw2 hw3 s2 k2 => ?_⟩
  have hw4 : ws.length = 4 := hw1
  have s02 := s1.trans s2
  walk_at "stp"
  refine ⟨ns, (s02.seq hS), hb, by omega, by omega, fun c2 => ?_⟩
  walk_at "stp"
  refine ⟨4, rfl, by decide, by decide, fun D1 hD1 => ?_⟩
  refine comp_row (row_range 0 (4 : Int).toNat) (fun i ys H' => Same H2 H' ∧ (∃ cs : List Int, ys = cs.map V.int) ∧ H' D1 = some (.lst ys)) (ln (by decide)) ⟨same_new hD1 _, ⟨[], rfl⟩, upd_same⟩ (fun _ _ _ _ => trivial) (fun i ys H' Q' hi' hl' hP k => ?_) (fun ys H3 hl' hP => ?_)
  · obtain ⟨g1, ⟨cs, g2⟩, g3⟩ := hP
    have hi4 : i < 4 := hi'
    walk_at "stp"
    refine ⟨ns, (s02.trans g1).seq hS, hb, by omega, by omega, fun v => ?_⟩
    exact k _ _ g3 ⟨same_upd g1 hD1, ⟨cs ++ [v], by rw [g2, List.map_append]; rfl⟩, upd_same⟩
  obtain ⟨s3, ⟨cs1, g2⟩, k3⟩ := hP
  have hcl : cs1.length = 4 := by
    have := congrArg List.length g2
    rw [List.length_map, hl'] at this
    exact this.symm
  rw [g2] at k3
  have s03 := s02.trans s3
  walk_at "stp"
  refine ⟨cs1, ws, SqL.of k3, by omega, s3.seq (SqL.of k2), hw4, fun v1 t1 H4 s4 d1 l1 => ?_⟩
  have s04 := s03.trans s4
  walk_at "stp"
  refine ⟨ns, (s04.seq hS), hb, by omega, by omega, fun c3 => ?_⟩
  walk_at "stp"
  refine ⟨4, rfl, by decide, by decide, fun D2 hD2 => ?_⟩
  refine comp_row (row_range 0 (4 : Int).toNat) (fun i ys H' => Same H4 H' ∧ (∃ cs : List Int, ys = cs.map V.int) ∧ H' D2 = some (.lst ys)) (ln (by decide)) ⟨same_new hD2 _, ⟨[], rfl⟩, upd_same⟩ (fun _ _ _ _ => trivial) (fun i ys H' Q' hi' hl' hP k => ?_) (fun ys H5 hl' hP => ?_)
  · obtain ⟨g1, ⟨cs, g2⟩, g3⟩ := hP
    have hi4 : i < 4 := hi'
    walk_at "stp"
    refine ⟨ns, (s04.trans g1).seq hS, hb, by omega, by omega, fun v => ?_⟩
    exact k _ _ g3 ⟨same_upd g1 hD2, ⟨cs ++ [v], by rw [g2, List.map_append]; rfl⟩, upd_same⟩
  obtain ⟨s5, ⟨cs2, g2'⟩, k5⟩ := hP
  have hcl2 : cs2.length = 4 := by
    have := congrArg List.length g2'
    rw [List.length_map, hl'] at this
    exact this.symm
  rw [g2'] at k5
  have s05 := s04.trans s5
  have s25 := s3.trans (s4.trans s5)
  walk_at "stp"
  refine ⟨cs2, ws, SqL.of k5, by omega, s25.seq (SqL.of k2), hw4, fun v2 t2 H6 s6 d2 l2 => ?_⟩
  have s06 := s05.trans s6
  have s26 := s25.trans s6
  have kn6 := (s2.trans s26) _ _ k1
  have kw6 := s26 _ _ k2
  have d16 := d1.mono (s5.trans s6)
  have f1 := lfy_flat l1
  walk_at "stm"
  (with_reducible refine tSeq_i ?_)
  walk_at "stm"
  refine ⟨ns, (s06.seq hS), hb, by omega, by omega, fun c4 => ?_⟩
  walk_at "stm"
  generalize c4 % 6 = way
  (with_reducible refine seq_rest (fun σ' J => ∃ (vo : V) (to : Trm), σ' = [some (.ref a), some (.ref np), some (.ref wp), some v1, some vo, some (.int way), none, none, none, none, none, none, none] ∧ Same H6 J ∧ Den K J vo to.data ∧ flatT to = true) (fun σ' J hP => ?_) (fun kz => ?_))
  rotate_left
  · walk_at "stm"
    refine iteB (fun e => ?_) (fun e => ?_)
    rotate_left
    · (with_reducible refine tNext_i ?_)
      exact kz _ _ ⟨v2, t2, rfl, Same.refl _, d2, lfy_flat l2⟩
    walk_at "stm"
    refine iteB (fun e1 => ?_) (fun e1 => ?_)
    rotate_left
    · walk_at "stm"
      exact kz _ _ ⟨v1, t1, rfl, Same.refl _, d16, f1⟩
    walk_at "stm"
    refine ⟨ns, (s06.seq hS), hb, by omega, by omega, fun c5 => ?_⟩
    walk_at "stm"
    refine m2_i (C := CPow) ⟨by decide, by decide, by decide⟩ ?_
    walk_at "stm"
    refine ⟨t1, ws, d16, l1, by unfold dep; split <;> decide, SqL.of kw6, hw4, fun v3 t3 J3 s3' d3 g3 z3 => ?_⟩
    walk_at "stm"
    refine kz _ _ ⟨v3, t3, rfl, s3', d3, flat_of g3 ?_⟩
    split at z3 <;> omega
  obtain ⟨vo, to, rfl, s7, d7, f7⟩ := hP
  have s07 := s06.trans s7
  have kn7 := s7 _ _ kn6
  have d17 := d16.mono s7
  clear d2 l2
  (with_reducible refine tSeq_i ?_)
  walk_at "stm"
  intro pp hpp
  have sp0 : Same J (upd J pp (.dK [])) := same_new hpp _
  have kp0 : (upd J pp (.dK [])) pp = some (.dK []) := upd_same
  generalize upd J pp (.dK []) = J0 at sp0 kp0 ⊢
  walk_at "stm"
  obtain ⟨x4, hx4⟩ := n_at (xs := xs) (i := 4) (by decide) (by rw [hx5]; decide)
  refine mIx_l (SqL.of (sp0 _ _ kn7)) hx4 ?_
  walk_at "stm"
  refine ⟨ln (by show 2 ≤ 100000; decide), fun pt hpt => ?_⟩
  have spt : Same J0 (upd J0 pt (.tup [.str (Str.ofString "num"), .int 5])) := same_new hpt _
  have kpt : (upd J0 pt (.tup [.str (Str.ofString "num"), .int 5])) pt = some (.tup [.str (Str.ofString "num"), .int 5]) := upd_same
  generalize upd J0 pt (.tup [.str (Str.ofString "num"), .int 5]) = J1 at spt kpt ⊢
  walk_at "stm"
  have kp1 := spt _ _ kp0
  refine ⟨kp1, [(Sum.inr x4, .ref pt)], rfl, by simp, ?_⟩
  rw [show mergeK [] [((Sum.inr x4 : Key), V.ref pt)] = putK [] (Sum.inr x4) (.ref pt) from rfl]
  have pA : PutAt K (upd J1 pp (.dK (putK [] (Sum.inr x4) (.ref pt)))) pp (putR [] x4 (.num 5)) := PutAt.set kp1 .nil (num_den (SqT.of kpt))
  have sA : Same J (upd J1 pp (.dK (putK [] (Sum.inr x4) (.ref pt)))) := same_upd (sp0.trans spt) hpp
  generalize upd J1 pp (.dK (putK [] (Sum.inr x4) (.ref pt))) = JA at pA sA ⊢
  have prA : PR t1 to 1 (putR [] x4 (.num 5)) := ⟨by show [x4].Nodup; simp, by show 1 ≤ 1; decide, fun r hr => by
    rcases putR_mem hr with z | z
    · simp at z
    · exact .inl z⟩
  generalize putR [] x4 (.num 5) = rwA at pA prA
  walk_at "stm"
  (with_reducible refine seq_rest (fun σ' JB => ∃ rows, σ' = [some (.ref a), some (.ref np), some (.ref wp), some v1, some vo, some (.int way), some (.ref pp), none, none, none, none, none, none] ∧ Same J JB ∧ PutAt K JB pp rows ∧ PR t1 to 3 rows) (fun σ' JB hP => ?_) (fun kz => ?_))
  rotate_left
  · have s0A := s07.trans sA
    walk_at "stm"
    refine ⟨ns, (s0A.seq hS), hb, by omega, by omega, fun c6 => ?_⟩
    walk_at "stm"
    refine iteB (fun e => ?_) (fun e => ?_)
    rotate_left
    · (with_reducible refine tNext_i ?_)
      exact kz _ _ ⟨rwA, rfl, sA, pA, prA.nd, Nat.le_trans prA.len (by decide), prA.val⟩
    obtain ⟨kvA, eA, okA⟩ := pA.ex
    have hkA := okA.len
    have hlA := prA.len
    walk_at "stp"
    refine ⟨ns, (s0A.seq hS), hb, by omega, by omega, fun c7 => ?_⟩
    walk_at "stp"
    obtain ⟨y1, hy1⟩ := n_at (xs := xs) (i := c7 / 2 % 2) (by omega) (by rw [hx5]; omega)
    refine mIx_l (SqL.of (sA _ _ kn7)) hy1 ?_
    refine ⟨pp, _, rfl, .inl ⟨kvA, .inr y1, eA, rfl, ln1 (by omega), rfl⟩, ?_⟩
    have pB : PutAt K (upd JA pp (.dK (putK kvA (Sum.inr y1) v1))) pp (putR rwA y1 t1) := PutAt.set eA okA (d17.mono sA)
    have sB : Same J (upd JA pp (.dK (putK kvA (Sum.inr y1) v1))) := same_upd sA hpp
    generalize upd JA pp (.dK (putK kvA (Sum.inr y1) v1)) = JB at pB sB ⊢
    have prB := prA.put (x := y1) (.inl rfl : t1 = t1 ∨ t1 = to)
    have s0B := s07.trans sB
    obtain ⟨kvB, eB, okB⟩ := pB.ex
    have hkB := okB.len
    have hlB := prB.len
    walk_at "stm"
    refine ⟨ns, (s0B.seq hS), hb, by omega, by omega, fun c8 => ?_⟩
    walk_at "stm"
    obtain ⟨y2, hy2⟩ := n_at (xs := xs) (i := 2 + c8 / 4 % 2) (by omega) (by rw [hx5]; omega)
    refine mIx_l (SqL.of (sB _ _ kn7)) hy2 ?_
    refine ⟨pp, _, rfl, .inl ⟨kvB, .inr y2, eB, rfl, ln1 (by omega), rfl⟩, ?_⟩
    have pC : PutAt K (upd JB pp (.dK (putK kvB (Sum.inr y2) vo))) pp (putR (putR rwA y1 t1) y2 to) := PutAt.set eB okB (d7.mono sB)
    exact kz _ _ ⟨_, rfl, same_upd sB hpp, pC, prB.put (.inr rfl)⟩
  obtain ⟨rows, rfl, sB, pB, prB⟩ := hP
  have s0B := s07.trans sB
  have fr := prB.fr (by decide) f1 f7
  (with_reducible refine tSeq_i ?_)
  walk_at "stm"
  refine ⟨ln (by show 2 ≤ 100000; decide), fun tl htl => ?_⟩
  have sT : Same JB (upd JB tl (.lst [v1, vo])) := same_new htl _
  have kT : (upd JB tl (.lst [v1, vo])) tl = some (.lst [v1, vo]) := upd_same
  generalize upd JB tl (.lst [v1, vo]) = JT at sT kT ⊢
  walk_at "stm"
  (with_reducible refine tSeq_i ?_)
  walk_at "stm"
  refine ⟨ns, ((s0B.trans sT).seq hS), hb, by omega, by omega, fun sd => ?_⟩
  walk_at "stm"
  (with_reducible refine seq_rest (fun σ' JF => ∃ (o9 : Option V) (w1 w2 : V) (T1 T2 : Trm), σ' = [some (.ref a), some (.ref np), some (.ref wp), some v1, some vo, some (.int way), some (.ref pp), some (.ref tl), some (.int sd), o9, none, none, none] ∧ Same JB JF ∧ JF tl = some (.lst [w1, w2]) ∧ Den K JF w1 T1.data ∧ Den K JF w2 T2.data ∧ ((∃ x, T1 = .any x) ∨ T1 = t1 ∨ T1 = to) ∧ ((∃ x, T2 = .any x) ∨ T2 = t1 ∨ T2 = to)) (fun σ' JF hP => ?_) (fun kz => ?_))
  rotate_left
  · walk_at "stm"
    refine ⟨2, rfl, by decide, by decide, ?_⟩
    refine for_row (row_range 0 (2 : Int).toNat) (fun i σ' JF => ∃ (o9 : Option V) (w1 w2 : V) (T1 T2 : Trm), σ' = [some (.ref a), some (.ref np), some (.ref wp), some v1, some vo, some (.int way), some (.ref pp), some (.ref tl), some (.int sd), o9, none, none, none] ∧ Same JB JF ∧ JF tl = some (.lst [w1, w2]) ∧ Den K JF w1 T1.data ∧ Den K JF w2 T2.data ∧ ((∃ x, T1 = .any x) ∨ T1 = t1 ∨ T1 = to) ∧ ((∃ x, T2 = .any x) ∨ T2 = t1 ∨ T2 = to)) ⟨none, v1, vo, t1, to, rfl, sT, kT, d17.mono (sB.trans sT), d7.mono (sB.trans sT), .inr (.inl rfl), .inr (.inr rfl)⟩ (fun _ _ _ _ => trivial) (fun i σ' JF hi hP => ?_) (fun σ' JF hP => kz _ _ hP)
    obtain ⟨o9, w1, w2, T1, T2, rfl, sF, kF, e1, e2, m1, m2⟩ := hP
    have hi2 : i < 2 := hi
    walk_at "stp"
    refine mMul_i (mulOk_left (by decide)) ?_
    walk_at "stp"
    refine m2_i (C := CDiv) (cdiv_i (by omega) (by omega)) ?_
    walk_at "stp"
    refine iteB (fun e => ?_) (fun e => ?_)
    rotate_left
    · (with_reducible refine tNext_i ?_)
      exact ⟨_, w1, w2, T1, T2, rfl, sF, kF, e1, e2, m1, m2⟩
    walk_at "stp"
    refine mMul_i (mulOk_left (by decide)) ?_
    walk_at "stp"
    refine m2_i (C := CDiv) (cdiv_i (by omega) (by omega)) ?_
    walk_at "stp"
    obtain ⟨y, hy⟩ := n_at (xs := xs) (i := sd / (2 + 14 * (0 + (i : Int))) % 4) (by omega) (by rw [hx5]; omega)
    refine mIx_l (SqL.of ((sB.trans sF) _ _ kn7)) hy ?_
    walk_at "stp"
    refine ⟨ln (by show 2 ≤ 100000; decide), fun pa hpa => ?_⟩
    have spa : Same JF (upd JF pa (.tup [.str (Str.ofString "any"), .str y])) := same_new hpa _
    have kpa : (upd JF pa (.tup [.str (Str.ofString "any"), .str y])) pa = some (.tup [.str (Str.ofString "any"), .str y]) := upd_same
    generalize upd JF pa (.tup [.str (Str.ofString "any"), .str y]) = JG at spa kpa ⊢
    walk_at "stp"
    have dA : Den K JG (.ref pa) (Trm.any y).data := any_den (SqT.of kpa)
    have kG := spa _ _ kF
    refine ⟨tl, [w1, w2], 0 + (i : Int), i, rfl, rfl, kG, by unfold ixN; rw [if_pos (by omega), if_pos (by show 0 + (i : Int) < 2; omega)]; rw [show (0 + (i : Int)).toNat = i by omega], ?_⟩
    have sG : Same JB (upd JG tl (.lst (([w1, w2] : List V).set i (.ref pa)))) := same_upd (sF.trans spa) htl
    have i2 : i = 0 ∨ i = 1 := by omega
    rcases i2 with rfl | rfl
    · exact ⟨_, .ref pa, w2, .any y, T2, rfl, sG, upd_same, dA.lst kG, (e2.mono spa).lst kG, .inl ⟨y, rfl⟩, m2⟩
    · exact ⟨_, w1, .ref pa, T1, .any y, rfl, sG, upd_same, (e1.mono spa).lst kG, dA.lst kG, m1, .inl ⟨y, rfl⟩⟩
  obtain ⟨o9, w1, w2, T1, T2, rfl, sF, kF, e1, e2, m1, m2⟩ := hP
  have pF := pB.mono sF
  have af : ∀ T : Trm, ((∃ x, T = .any x) ∨ T = t1 ∨ T = to) → afT T = true := fun T h => by
    rcases h with ⟨x, rfl⟩ | rfl | rfl
    · rfl
    · exact flat_af f1
    · exact flat_af f7
  have hok : okP (wk rows T1) (wk rows T2) := okp_all l1 (wk_in prB.val m1 f1 f7) (wk_in prB.val m2 f1 f7)
  obtain ⟨mf1, mf2⟩ := mo_facts fr (af T1 m1) (af T2 m2)
  have hz : ∀ r ∈ rows, r.2.size ≤ 50 := fun r hr => flat_size (fr.fl r hr)
  walk_at "stp"
  refine mIx_l (SqL.of kF) (v := w1) rfl ?_
  walk_at "stp"
  refine mIx_l (SqL.of kF) (v := w2) rfl ?_
  walk_at "stp"
  refine ⟨T1, T2, rows, e1, e2, pF, fr, af T1 m1, af T2 m2, fun wd p2 H10 s10 hp2 rs2 => ?_⟩
  obtain ⟨kvF, eF, okF⟩ := (pF.mono s10).ex
  walk_at "stp"
  refine ⟨pp, kvF, rfl, eF, fun hd hhd => ?_⟩
  have s11 : Same H10 (upd H10 hd (.dK kvF)) := same_new hhd _
  have k11 : (upd H10 hd (.dK kvF)) hd = some (.dK kvF) := upd_same
  generalize upd H10 hd (.dK kvF) = H11 at s11 k11 ⊢
  have p11 : PutAt K H11 hd rows := ⟨kvF, k11, okF.mono s11⟩
  have sF11 := s10.trans s11
  have kF11 := sF11 _ _ kF
  have e111 := e1.mono sF11
  have e211 := e2.mono sF11
  have pp11 := pF.mono sF11
  have rs11 := rs2.mono s11
  walk_at "stp"
  refine mIx_l (SqL.of kF11) (v := w1) rfl ?_
  walk_at "stp"
  refine mIx_l (SqL.of kF11) (v := w2) rfl ?_
  walk_at "stp"
  refine ⟨T1, T2, rows, e111, e211, p11, fr, af T1 m1, af T2 m2, hok, fun wf p1 H12 s12 hp1 rs1 => ?_⟩
  generalize hres : mo rows T1 T2 = res at mf1 mf2 rs1 rs11 rs2
  have ne1 : (∃ r, res = .one r) → p1 ≠ p2 ∧ p1 ≠ pp := fun ⟨r, er⟩ => by
    subst er
    obtain ⟨_, _, _, pt2⟩ := rs11
    obtain ⟨_, z2, _⟩ := pt2.ex
    obtain ⟨_, z3, _⟩ := pp11.ex
    exact ⟨(fun z => by rw [← z, hp1] at z2; cases z2), (fun z => by rw [← z, hp1] at z3; cases z3)⟩
  obtain ⟨q1, q2, r1, r2, n1, n2⟩ := res_ne rs1 (rs11.mono s12) ne1
  walk_at "stp"
  refine ⟨res, q1, q2, rows, r1, r2, n1, n2, pp11.mono s12, mf1, mf2, fun H13 s13 => ?_⟩
  have s1113 := s12.trans s13
  walk_at "stp"
  refine iteF ?_
  walk_at "stp"
  refine puts_eq (p11.mono s1113) (pp11.mono s1113) prB.nd hz ?_
  walk_at "stp"
  refine iteF ?_
  (with_reducible refine tNext_i ?_)
  (with_reducible refine seq_rest (fun σ' JZ => σ' = [some (.ref a), some (.ref np), some (.ref wp), some v1, some vo, some (.int way), some (.ref pp), some (.ref tl), some (.int sd), o9, some wd, some (.ref hd), some wf] ∧ Same H11 JZ) (fun σ' JZ hP => ?_) (fun kz => ?_))
  rotate_left
  · have ra := rs11.mono s1113
    have rb := rs1.mono s13
    cases res with
    | one rws =>
      obtain ⟨rd, rfl, sqd, _⟩ := ra
      obtain ⟨rf, rfl, sqf, ptf⟩ := rb
      obtain ⟨kvf, ef, _⟩ := ptf.ex
      walk_at "stm"
      refine mIx_t sqd (v := .str oneS) rfl ?_
      walk_at "stm"
      refine iteB (fun _ => ?_) (fun e => absurd e (by decide +kernel))
      walk_at "stm"
      refine mIx_t sqf (v := .ref p1) rfl ?_
      refine ⟨.inr (.inr (.inl ⟨rfl, .inl ⟨_, ef⟩⟩)), ?_⟩
      refine ⟨p1, kvf, rfl, rfl, ef, ?_⟩
      exact kz _ _ ⟨rfl, same_upd s1113 hp1⟩
    | part path ka kb =>
      obtain ⟨rd, a1, a2, a3, us1, rfl, sqd, _⟩ := partd_inv ra
      walk_at "stm"
      refine mIx_t sqd (v := .str partS) rfl ?_
      walk_at "stm"
      refine iteB (fun e => absurd e (by decide +kernel)) (fun _ => ?_)
      (with_reducible refine tNext_i ?_)
      exact kz _ _ ⟨rfl, s1113⟩
  obtain ⟨rfl, sZ⟩ := hP
  have kFZ := sZ _ _ kF11
  walk_at "stp"
  refine puts_eq (p11.mono sZ) (pp11.mono sZ) prB.nd hz ?_
  walk_at "stp"
  refine iteT ?_
  walk_at "stp"
  refine mIx_l (SqL.of kFZ) (v := w1) rfl ?_
  walk_at "stp"
  refine mIx_l (SqL.of kFZ) (v := w2) rfl ?_
  walk_at "stp"
  refine ⟨T1, T2, rows, e111.mono sZ, e211.mono sZ, p11.mono sZ, fr, af T1 m1, af T2 m2, hok, fun wg p3 H14 s14 hp3 rs3 => ?_⟩
  rw [hres] at rs3
  have ne3 : (∃ r, res = .one r) → p3 ≠ p2 ∧ p3 ≠ pp := fun ⟨r, er⟩ => by
    subst er
    obtain ⟨_, _, _, pt2⟩ := rs11.mono sZ
    obtain ⟨_, z2, _⟩ := pt2.ex
    obtain ⟨_, z3, _⟩ := (pp11.mono sZ).ex
    exact ⟨(fun z => by rw [← z, hp3] at z2; cases z2), (fun z => by rw [← z, hp3] at z3; cases z3)⟩
  obtain ⟨q3, q4, r3, r4, n3, n4⟩ := res_ne rs3 (rs11.mono (sZ.trans s14)) ne3
  walk_at "stp"
  exact ⟨res, q3, q4, rows, r3, r4, n3, n4, pp11.mono (sZ.trans s14), mf1, mf2, fun H15 _ => q H15⟩
end
section
variable {P : Program} {w : World} {K : PySem.W.Frag} {mg : Str → Option Value} {base : Heap} {t : Ad}
theorem ok_all (T : Txt K mg t) : FnOk P w K mg base CX0 7 t.a_law t.d_law ["_law_script"] (sp_law K) := by
  have h_Row_init := ok_Row_init (P := P) (w := w) (base := base) T
  have h_Joining_init := ok_Joining_init (P := P) (w := w) (base := base) T
  have h_Joining_path := ok_Joining_path (P := P) (w := w) (base := base) T
  have h_walked := ok_walked (P := P) (w := w) (base := base) T
  have h_key_of := ok_key_of (P := P) (w := w) (base := base) T
  have h_stands_within := ok_stands_within (P := P) (w := w) (base := base) T
  have h_l_cell := ok_l_cell (P := P) (w := w) (base := base) T
  have h_l_names := ok_l_names (P := P) (w := w) (base := base) T
  have h_l_number := ok_l_number (P := P) (w := w) (base := base) T
  have h_l_is_term := ok_l_is_term (P := P) (w := w) (base := base) T
  have h_l_head := ok_l_head (P := P) (w := w) (base := base) T
  have h_Joining_put_for := ok_Joining_put_for T h_stands_within h_Joining_path
  have h_l_leaf := ok_l_leaf T h_l_number
  have h_l_place := ok_l_place T h_l_head
  have h_l_seen := ok_l_seen T h_l_is_term
  have h_Joining_begin_kids := ok_Joining_begin_kids T h_Row_init
  have h_l_flat := ok_l_flat T h_l_leaf
  have h_l_due := ok_l_due T h_l_place
  have h_Joining_join_place := ok_Joining_join_place T h_walked h_Joining_begin_kids h_Joining_put_for h_key_of h_Joining_path
  have h_Joining_join_terms := ok_Joining_join_terms T h_Row_init h_Joining_join_place
  have h_made_one := ok_made_one T h_Joining_join_terms h_Joining_init
  have h_l_off := ok_l_off (P := P) (w := w) (base := base) T  5
  exact ok_law T h_l_names h_l_flat h_l_cell h_l_due h_made_one h_l_seen h_l_off
end
theorem txt_mk {K : PySem.W.Frag} {h : Heap} {mg : Str → Option Value} (X : K.In h) (G : h.Ns mainGlobals mg)
    {k_Row : Addr}
    {k_Joining : Addr}
    {f0 : Addr} {od0 an0 : Option Addr} {sl0 : Array (Option Value)} {oc0 kV0 dc0 pm0 cd0 ct0 : Value}
    {f1 : Addr} {od1 an1 : Option Addr} {sl1 : Array (Option Value)} {oc1 kV1 dc1 pm1 cd1 ct1 : Value}
    {f2 : Addr} {od2 an2 : Option Addr} {sl2 : Array (Option Value)} {oc2 kV2 dc2 pm2 cd2 ct2 : Value}
    {f3 : Addr} {od3 an3 : Option Addr} {sl3 : Array (Option Value)} {oc3 kV3 dc3 pm3 cd3 ct3 : Value}
    {f4 : Addr} {od4 an4 : Option Addr} {sl4 : Array (Option Value)} {oc4 kV4 dc4 pm4 cd4 ct4 : Value}
    {f5 : Addr} {od5 an5 : Option Addr} {sl5 : Array (Option Value)} {oc5 kV5 dc5 pm5 cd5 ct5 : Value}
    {f6 : Addr} {od6 an6 : Option Addr} {sl6 : Array (Option Value)} {oc6 kV6 dc6 pm6 cd6 ct6 : Value}
    {f7 : Addr} {od7 an7 : Option Addr} {sl7 : Array (Option Value)} {oc7 kV7 dc7 pm7 cd7 ct7 : Value}
    {f8 : Addr} {od8 an8 : Option Addr} {sl8 : Array (Option Value)} {oc8 kV8 dc8 pm8 cd8 ct8 : Value}
    {f9 : Addr} {od9 an9 : Option Addr} {sl9 : Array (Option Value)} {oc9 kV9 dc9 pm9 cd9 ct9 : Value}
    {f10 : Addr} {od10 an10 : Option Addr} {sl10 : Array (Option Value)} {oc10 kV10 dc10 pm10 cd10 ct10 : Value}
    {f11 : Addr} {od11 an11 : Option Addr} {sl11 : Array (Option Value)} {oc11 kV11 dc11 pm11 cd11 ct11 : Value}
    {f12 : Addr} {od12 an12 : Option Addr} {sl12 : Array (Option Value)} {oc12 kV12 dc12 pm12 cd12 ct12 : Value}
    {f13 : Addr} {od13 an13 : Option Addr} {sl13 : Array (Option Value)} {oc13 kV13 dc13 pm13 cd13 ct13 : Value}
    {f14 : Addr} {od14 an14 : Option Addr} {sl14 : Array (Option Value)} {oc14 kV14 dc14 pm14 cd14 ct14 : Value}
    {f15 : Addr} {od15 an15 : Option Addr} {sl15 : Array (Option Value)} {oc15 kV15 dc15 pm15 cd15 ct15 : Value}
    {f16 : Addr} {od16 an16 : Option Addr} {sl16 : Array (Option Value)} {oc16 kV16 dc16 pm16 cd16 ct16 : Value}
    {f17 : Addr} {od17 an17 : Option Addr} {sl17 : Array (Option Value)} {oc17 kV17 dc17 pm17 cd17 ct17 : Value}
    {f18 : Addr} {od18 an18 : Option Addr} {sl18 : Array (Option Value)} {oc18 kV18 dc18 pm18 cd18 ct18 : Value}
    {f19 : Addr} {od19 an19 : Option Addr} {sl19 : Array (Option Value)} {oc19 kV19 dc19 pm19 cd19 ct19 : Value}
    {f20 : Addr} {od20 an20 : Option Addr} {sl20 : Array (Option Value)} {oc20 kV20 dc20 pm20 cd20 ct20 : Value}
    {f21 : Addr} {od21 an21 : Option Addr} {sl21 : Array (Option Value)} {oc21 kV21 dc21 pm21 cd21 ct21 : Value}
    {f22 : Addr} {od22 an22 : Option Addr} {sl22 : Array (Option Value)} {oc22 kV22 dc22 pm22 cd22 ct22 : Value}
    (ac_Row : PySem.W.nsIn K mainGlobals "Row" = some (some (.ref k_Row)))
    (pg_Row : PySem.W.plainGet K k_Row Str.empty = true)
    (hd_Row : PySem.W.hasDictIn K k_Row = true)
    (po_Row : PySem.W.plainOver K k_Row = true)
    (sa_Row : PySem.W.findIn K (.ref k_Row) "__setattr__" = some (some (.builtin "object.__setattr__")))
    (na_Row_lefts : PySem.W.findIn K (.ref k_Row) "lefts" = some none)
    (na_Row_rights : PySem.W.findIn K (.ref k_Row) "rights" = some none)
    (na_Row_taken : PySem.W.findIn K (.ref k_Row) "taken" = some none)
    (mk_Row : PySem.W.makesIn K k_Row = true)
    (in_Row : PySem.W.findIn K (.ref k_Row) "__init__" = some (some (.ref f0)))
    (kc_Row : PySem.W.keepIn K (.ref k_Row) = true)
    (ac_Joining : PySem.W.nsIn K mainGlobals "Joining" = some (some (.ref k_Joining)))
    (pg_Joining : PySem.W.plainGet K k_Joining Str.empty = true)
    (hd_Joining : PySem.W.hasDictIn K k_Joining = true)
    (po_Joining : PySem.W.plainOver K k_Joining = true)
    (sa_Joining : PySem.W.findIn K (.ref k_Joining) "__setattr__" = some (some (.builtin "object.__setattr__")))
    (na_Joining_puts : PySem.W.findIn K (.ref k_Joining) "puts" = some none)
    (na_Joining_noted : PySem.W.findIn K (.ref k_Joining) "noted" = some none)
    (na_Joining_rows : PySem.W.findIn K (.ref k_Joining) "rows" = some none)
    (na_Joining_met : PySem.W.findIn K (.ref k_Joining) "met" = some none)
    (mk_Joining : PySem.W.makesIn K k_Joining = true)
    (in_Joining : PySem.W.findIn K (.ref k_Joining) "__init__" = some (some (.ref f1)))
    (kc_Joining : PySem.W.keepIn K (.ref k_Joining) = true)
    (am_Joining_join_terms : PySem.W.findIn K (.ref k_Joining) "join_terms" = some (some (.ref f2)))
    (am_Joining_join_place : PySem.W.findIn K (.ref k_Joining) "join_place" = some (some (.ref f3)))
    (am_Joining_put_for : PySem.W.findIn K (.ref k_Joining) "put_for" = some (some (.ref f4)))
    (am_Joining_begin_kids : PySem.W.findIn K (.ref k_Joining) "begin_kids" = some (some (.ref f5)))
    (am_Joining_path : PySem.W.findIn K (.ref k_Joining) "path" = some (some (.ref f6)))
    (l0 : K.lookup f0 = some ⟨oc0, od0, .func (PySem.W.fnOf "__init__" "Row.__init__" (defArgs s_Row_init) (defBody s_Row_init) (defScope s_Row_init) .none kV0 dc0 pm0 an0 cd0 ct0), sl0⟩)
    (c0 : PySem.W.codeIn K cd0 "Row.__init__" = true)
    (k0 : PySem.W.keepIn K (.ref f0) = true)
    (fn0 : PySem.W.typeIn K (.ref f0) = some (.type "function"))
    (l1 : K.lookup f1 = some ⟨oc1, od1, .func (PySem.W.fnOf "__init__" "Joining.__init__" (defArgs s_Joining_init) (defBody s_Joining_init) (defScope s_Joining_init) .none kV1 dc1 pm1 an1 cd1 ct1), sl1⟩)
    (c1 : PySem.W.codeIn K cd1 "Joining.__init__" = true)
    (k1 : PySem.W.keepIn K (.ref f1) = true)
    (fn1 : PySem.W.typeIn K (.ref f1) = some (.type "function"))
    (l2 : K.lookup f2 = some ⟨oc2, od2, .func (PySem.W.fnOf "join_terms" "Joining.join_terms" (defArgs s_Joining_join_terms) (defBody s_Joining_join_terms) (defScope s_Joining_join_terms) .none kV2 dc2 pm2 an2 cd2 ct2), sl2⟩)
    (c2 : PySem.W.codeIn K cd2 "Joining.join_terms" = true)
    (k2 : PySem.W.keepIn K (.ref f2) = true)
    (fn2 : PySem.W.typeIn K (.ref f2) = some (.type "function"))
    (l3 : K.lookup f3 = some ⟨oc3, od3, .func (PySem.W.fnOf "join_place" "Joining.join_place" (defArgs s_Joining_join_place) (defBody s_Joining_join_place) (defScope s_Joining_join_place) .none kV3 dc3 pm3 an3 cd3 ct3), sl3⟩)
    (c3 : PySem.W.codeIn K cd3 "Joining.join_place" = true)
    (k3 : PySem.W.keepIn K (.ref f3) = true)
    (fn3 : PySem.W.typeIn K (.ref f3) = some (.type "function"))
    (l4 : K.lookup f4 = some ⟨oc4, od4, .func (PySem.W.fnOf "put_for" "Joining.put_for" (defArgs s_Joining_put_for) (defBody s_Joining_put_for) (defScope s_Joining_put_for) .none kV4 dc4 pm4 an4 cd4 ct4), sl4⟩)
    (c4 : PySem.W.codeIn K cd4 "Joining.put_for" = true)
    (k4 : PySem.W.keepIn K (.ref f4) = true)
    (fn4 : PySem.W.typeIn K (.ref f4) = some (.type "function"))
    (l5 : K.lookup f5 = some ⟨oc5, od5, .func (PySem.W.fnOf "begin_kids" "Joining.begin_kids" (defArgs s_Joining_begin_kids) (defBody s_Joining_begin_kids) (defScope s_Joining_begin_kids) .none kV5 dc5 pm5 an5 cd5 ct5), sl5⟩)
    (c5 : PySem.W.codeIn K cd5 "Joining.begin_kids" = true)
    (k5 : PySem.W.keepIn K (.ref f5) = true)
    (fn5 : PySem.W.typeIn K (.ref f5) = some (.type "function"))
    (l6 : K.lookup f6 = some ⟨oc6, od6, .func (PySem.W.fnOf "path" "Joining.path" (defArgs s_Joining_path) (defBody s_Joining_path) (defScope s_Joining_path) .none kV6 dc6 pm6 an6 cd6 ct6), sl6⟩)
    (c6 : PySem.W.codeIn K cd6 "Joining.path" = true)
    (k6 : PySem.W.keepIn K (.ref f6) = true)
    (fn6 : PySem.W.typeIn K (.ref f6) = some (.type "function"))
    (a7 : PySem.W.nsIn K mainGlobals "walked" = some (some (.ref f7)))
    (l7 : K.lookup f7 = some ⟨oc7, od7, .func (PySem.W.fnOf "walked" "walked" (defArgs s_walked) (defBody s_walked) (defScope s_walked) .none kV7 dc7 pm7 an7 cd7 ct7), sl7⟩)
    (c7 : PySem.W.codeIn K cd7 "walked" = true)
    (k7 : PySem.W.keepIn K (.ref f7) = true)
    (a8 : PySem.W.nsIn K mainGlobals "key_of" = some (some (.ref f8)))
    (l8 : K.lookup f8 = some ⟨oc8, od8, .func (PySem.W.fnOf "key_of" "key_of" (defArgs s_key_of) (defBody s_key_of) (defScope s_key_of) .none kV8 dc8 pm8 an8 cd8 ct8), sl8⟩)
    (c8 : PySem.W.codeIn K cd8 "key_of" = true)
    (k8 : PySem.W.keepIn K (.ref f8) = true)
    (a9 : PySem.W.nsIn K mainGlobals "stands_within" = some (some (.ref f9)))
    (l9 : K.lookup f9 = some ⟨oc9, od9, .func (PySem.W.fnOf "stands_within" "stands_within" (defArgs s_stands_within) (defBody s_stands_within) (defScope s_stands_within) .none kV9 dc9 pm9 an9 cd9 ct9), sl9⟩)
    (c9 : PySem.W.codeIn K cd9 "stands_within" = true)
    (k9 : PySem.W.keepIn K (.ref f9) = true)
    (a10 : PySem.W.nsIn K mainGlobals "made_one" = some (some (.ref f10)))
    (l10 : K.lookup f10 = some ⟨oc10, od10, .func (PySem.W.fnOf "made_one" "made_one" (defArgs s_made_one) (defBody s_made_one) (defScope s_made_one) .none kV10 dc10 pm10 an10 cd10 ct10), sl10⟩)
    (c10 : PySem.W.codeIn K cd10 "made_one" = true)
    (k10 : PySem.W.keepIn K (.ref f10) = true)
    (a11 : PySem.W.nsIn K mainGlobals "_law_cell" = some (some (.ref f11)))
    (l11 : K.lookup f11 = some ⟨oc11, od11, .func (PySem.W.fnOf "_law_cell" "_law_cell" (defArgs s_l_cell) (defBody s_l_cell) (defScope s_l_cell) .none kV11 dc11 pm11 an11 cd11 ct11), sl11⟩)
    (c11 : PySem.W.codeIn K cd11 "_law_cell" = true)
    (k11 : PySem.W.keepIn K (.ref f11) = true)
    (a12 : PySem.W.nsIn K mainGlobals "_law_names" = some (some (.ref f12)))
    (l12 : K.lookup f12 = some ⟨oc12, od12, .func (PySem.W.fnOf "_law_names" "_law_names" (defArgs s_l_names) (defBody s_l_names) (defScope s_l_names) .none kV12 dc12 pm12 an12 cd12 ct12), sl12⟩)
    (c12 : PySem.W.codeIn K cd12 "_law_names" = true)
    (k12 : PySem.W.keepIn K (.ref f12) = true)
    (a13 : PySem.W.nsIn K mainGlobals "_law_number" = some (some (.ref f13)))
    (l13 : K.lookup f13 = some ⟨oc13, od13, .func (PySem.W.fnOf "_law_number" "_law_number" (defArgs s_l_number) (defBody s_l_number) (defScope s_l_number) .none kV13 dc13 pm13 an13 cd13 ct13), sl13⟩)
    (c13 : PySem.W.codeIn K cd13 "_law_number" = true)
    (k13 : PySem.W.keepIn K (.ref f13) = true)
    (a14 : PySem.W.nsIn K mainGlobals "_law_is_term" = some (some (.ref f14)))
    (l14 : K.lookup f14 = some ⟨oc14, od14, .func (PySem.W.fnOf "_law_is_term" "_law_is_term" (defArgs s_l_is_term) (defBody s_l_is_term) (defScope s_l_is_term) .none kV14 dc14 pm14 an14 cd14 ct14), sl14⟩)
    (c14 : PySem.W.codeIn K cd14 "_law_is_term" = true)
    (k14 : PySem.W.keepIn K (.ref f14) = true)
    (a15 : PySem.W.nsIn K mainGlobals "_law_leaf" = some (some (.ref f15)))
    (l15 : K.lookup f15 = some ⟨oc15, od15, .func (PySem.W.fnOf "_law_leaf" "_law_leaf" (defArgs s_l_leaf) (defBody s_l_leaf) (defScope s_l_leaf) .none kV15 dc15 pm15 an15 cd15 ct15), sl15⟩)
    (c15 : PySem.W.codeIn K cd15 "_law_leaf" = true)
    (k15 : PySem.W.keepIn K (.ref f15) = true)
    (a16 : PySem.W.nsIn K mainGlobals "_law_flat" = some (some (.ref f16)))
    (l16 : K.lookup f16 = some ⟨oc16, od16, .func (PySem.W.fnOf "_law_flat" "_law_flat" (defArgs s_l_flat) (defBody s_l_flat) (defScope s_l_flat) .none kV16 dc16 pm16 an16 cd16 ct16), sl16⟩)
    (c16 : PySem.W.codeIn K cd16 "_law_flat" = true)
    (k16 : PySem.W.keepIn K (.ref f16) = true)
    (a17 : PySem.W.nsIn K mainGlobals "_law_off" = some (some (.ref f17)))
    (l17 : K.lookup f17 = some ⟨oc17, od17, .func (PySem.W.fnOf "_law_off" "_law_off" (defArgs s_l_off) (defBody s_l_off) (defScope s_l_off) .none kV17 dc17 pm17 an17 cd17 ct17), sl17⟩)
    (c17 : PySem.W.codeIn K cd17 "_law_off" = true)
    (k17 : PySem.W.keepIn K (.ref f17) = true)
    (a18 : PySem.W.nsIn K mainGlobals "_law_head" = some (some (.ref f18)))
    (l18 : K.lookup f18 = some ⟨oc18, od18, .func (PySem.W.fnOf "_law_head" "_law_head" (defArgs s_l_head) (defBody s_l_head) (defScope s_l_head) .none kV18 dc18 pm18 an18 cd18 ct18), sl18⟩)
    (c18 : PySem.W.codeIn K cd18 "_law_head" = true)
    (k18 : PySem.W.keepIn K (.ref f18) = true)
    (a19 : PySem.W.nsIn K mainGlobals "_law_place" = some (some (.ref f19)))
    (l19 : K.lookup f19 = some ⟨oc19, od19, .func (PySem.W.fnOf "_law_place" "_law_place" (defArgs s_l_place) (defBody s_l_place) (defScope s_l_place) .none kV19 dc19 pm19 an19 cd19 ct19), sl19⟩)
    (c19 : PySem.W.codeIn K cd19 "_law_place" = true)
    (k19 : PySem.W.keepIn K (.ref f19) = true)
    (a20 : PySem.W.nsIn K mainGlobals "_law_due" = some (some (.ref f20)))
    (l20 : K.lookup f20 = some ⟨oc20, od20, .func (PySem.W.fnOf "_law_due" "_law_due" (defArgs s_l_due) (defBody s_l_due) (defScope s_l_due) .none kV20 dc20 pm20 an20 cd20 ct20), sl20⟩)
    (c20 : PySem.W.codeIn K cd20 "_law_due" = true)
    (k20 : PySem.W.keepIn K (.ref f20) = true)
    (a21 : PySem.W.nsIn K mainGlobals "_law_seen" = some (some (.ref f21)))
    (l21 : K.lookup f21 = some ⟨oc21, od21, .func (PySem.W.fnOf "_law_seen" "_law_seen" (defArgs s_l_seen) (defBody s_l_seen) (defScope s_l_seen) .none kV21 dc21 pm21 an21 cd21 ct21), sl21⟩)
    (c21 : PySem.W.codeIn K cd21 "_law_seen" = true)
    (k21 : PySem.W.keepIn K (.ref f21) = true)
    (a22 : PySem.W.nsIn K mainGlobals "law" = some (some (.ref f22)))
    (l22 : K.lookup f22 = some ⟨oc22, od22, .func (PySem.W.fnOf "law" "law" (defArgs s_law) (defBody s_law) (defScope s_law) .none kV22 dc22 pm22 an22 cd22 ct22), sl22⟩)
    (c22 : PySem.W.codeIn K cd22 "law" = true)
    (k22 : PySem.W.keepIn K (.ref f22) = true)
    (z0 : PySem.W.nsIn K mainGlobals "bool" = some none)
    (z1 : PySem.W.nsIn K mainGlobals "dict" = some none)
    (z2 : PySem.W.nsIn K mainGlobals "int" = some none)
    (z3 : PySem.W.nsIn K mainGlobals "isinstance" = some none)
    (z4 : PySem.W.nsIn K mainGlobals "len" = some none)
    (z5 : PySem.W.nsIn K mainGlobals "list" = some none)
    (z6 : PySem.W.nsIn K mainGlobals "range" = some none)
    (z7 : PySem.W.nsIn K mainGlobals "sorted" = some none)
    (z8 : PySem.W.nsIn K mainGlobals "str" = some none)
    (z9 : PySem.W.nsIn K mainGlobals "tuple" = some none)
    : ∃ t : Ad, Txt K mg t ∧ ∀ (s : Shared) (u : Value), BindsTo s t.d_law ⟨[u], []⟩ [("_law_script", u)] := by
  have F0 := fun_mk (st := s_Row_init) l0 c0 k0
  have F1 := fun_mk (st := s_Joining_init) l1 c1 k1
  have F2 := fun_mk (st := s_Joining_join_terms) l2 c2 k2
  have F3 := fun_mk (st := s_Joining_join_place) l3 c3 k3
  have F4 := fun_mk (st := s_Joining_put_for) l4 c4 k4
  have F5 := fun_mk (st := s_Joining_begin_kids) l5 c5 k5
  have F6 := fun_mk (st := s_Joining_path) l6 c6 k6
  have F7 := fun_mk (st := s_walked) l7 c7 k7
  have F8 := fun_mk (st := s_key_of) l8 c8 k8
  have F9 := fun_mk (st := s_stands_within) l9 c9 k9
  have F10 := fun_mk (st := s_made_one) l10 c10 k10
  have F11 := fun_mk (st := s_l_cell) l11 c11 k11
  have F12 := fun_mk (st := s_l_names) l12 c12 k12
  have F13 := fun_mk (st := s_l_number) l13 c13 k13
  have F14 := fun_mk (st := s_l_is_term) l14 c14 k14
  have F15 := fun_mk (st := s_l_leaf) l15 c15 k15
  have F16 := fun_mk (st := s_l_flat) l16 c16 k16
  have F17 := fun_mk (st := s_l_off) l17 c17 k17
  have F18 := fun_mk (st := s_l_head) l18 c18 k18
  have F19 := fun_mk (st := s_l_place) l19 c19 k19
  have F20 := fun_mk (st := s_l_due) l20 c20 k20
  have F21 := fun_mk (st := s_l_seen) l21 c21 k21
  have F22 := fun_mk (st := s_law) l22 c22 k22
  exact ⟨⟨k_Row, k_Joining, f0, _, f1, _, f2, _, f3, _, f4, _, f5, _, f6, _, f7, _, f8, _, f9, _, f10, _, f11, _, f12, _, f13, _, f14, _, f15, _, f16, _, f17, _, f18, _, f19, _, f20, _, f21, _, f22, _⟩, ⟨PySem.W.mg_of X G ac_Row,
    ⟨pg_Row, hd_Row, po_Row, sa_Row⟩,
    na_Row_lefts,
    na_Row_rights,
    na_Row_taken,
    ⟨mk_Row, in_Row, beq_iff_eq.mpr fn0, kc_Row⟩,
    PySem.W.mg_of X G ac_Joining,
    ⟨pg_Joining, hd_Joining, po_Joining, sa_Joining⟩,
    na_Joining_puts,
    na_Joining_noted,
    na_Joining_rows,
    na_Joining_met,
    ⟨mk_Joining, in_Joining, beq_iff_eq.mpr fn1, kc_Joining⟩,
    ⟨am_Joining_join_terms, beq_iff_eq.mpr fn2, k2⟩,
    ⟨am_Joining_join_place, beq_iff_eq.mpr fn3, k3⟩,
    ⟨am_Joining_put_for, beq_iff_eq.mpr fn4, k4⟩,
    ⟨am_Joining_begin_kids, beq_iff_eq.mpr fn5, k5⟩,
    ⟨am_Joining_path, beq_iff_eq.mpr fn6, k6⟩,
    F0,
    F0.binds (ps := ["self", "lefts", "rights"]) (fun _ _ _ _ _ _ us hl => L2.us3 (P := fun us => bindArgs _ ⟨us, []⟩ = pure ((["self", "lefts", "rights"] : List Str).zip us)) hl fun _ _ _ => rfl),
    F1,
    F1.binds (ps := ["self", "puts", "noted"]) (fun _ _ _ _ _ _ us hl => L2.us3 (P := fun us => bindArgs _ ⟨us, []⟩ = pure ((["self", "puts", "noted"] : List Str).zip us)) hl fun _ _ _ => rfl),
    F2,
    F2.binds (ps := ["self", "one", "other"]) (fun _ _ _ _ _ _ us hl => L2.us3 (P := fun us => bindArgs _ ⟨us, []⟩ = pure ((["self", "one", "other"] : List Str).zip us)) hl fun _ _ _ => rfl),
    F3,
    F3.binds (ps := ["self", "one", "other"]) (fun _ _ _ _ _ _ us hl => L2.us3 (P := fun us => bindArgs _ ⟨us, []⟩ = pure ((["self", "one", "other"] : List Str).zip us)) hl fun _ _ _ => rfl),
    F4,
    F4.binds (ps := ["self", "name", "term"]) (fun _ _ _ _ _ _ us hl => L2.us3 (P := fun us => bindArgs _ ⟨us, []⟩ = pure ((["self", "name", "term"] : List Str).zip us)) hl fun _ _ _ => rfl),
    F5,
    F5.binds (ps := ["self", "left", "right"]) (fun _ _ _ _ _ _ us hl => L2.us3 (P := fun us => bindArgs _ ⟨us, []⟩ = pure ((["self", "left", "right"] : List Str).zip us)) hl fun _ _ _ => rfl),
    F6,
    F6.binds (ps := ["self"]) (fun _ _ _ _ _ _ us hl => L2.us1 (P := fun us => bindArgs _ ⟨us, []⟩ = pure ((["self"] : List Str).zip us)) hl fun _ => rfl),
    F7,
    F7.binds (ps := ["term", "puts"]) (fun _ _ _ _ _ _ us hl => L2.us2 (P := fun us => bindArgs _ ⟨us, []⟩ = pure ((["term", "puts"] : List Str).zip us)) hl fun _ _ => rfl),
    PySem.W.mg_of X G a7,
    F8,
    F8.binds (ps := ["term"]) (fun _ _ _ _ _ _ us hl => L2.us1 (P := fun us => bindArgs _ ⟨us, []⟩ = pure ((["term"] : List Str).zip us)) hl fun _ => rfl),
    PySem.W.mg_of X G a8,
    F9,
    F9.binds (ps := ["name", "term", "puts"]) (fun _ _ _ _ _ _ us hl => L2.us3 (P := fun us => bindArgs _ ⟨us, []⟩ = pure ((["name", "term", "puts"] : List Str).zip us)) hl fun _ _ _ => rfl),
    PySem.W.mg_of X G a9,
    F10,
    F10.binds (ps := ["one", "other", "puts"]) (fun _ _ _ _ _ _ us hl => L2.us3 (P := fun us => bindArgs _ ⟨us, []⟩ = pure ((["one", "other", "puts"] : List Str).zip us)) hl fun _ _ _ => rfl),
    PySem.W.mg_of X G a10,
    F11,
    F11.binds (ps := ["_law_script", "_law_k"]) (fun _ _ _ _ _ _ us hl => L2.us2 (P := fun us => bindArgs _ ⟨us, []⟩ = pure ((["_law_script", "_law_k"] : List Str).zip us)) hl fun _ _ => rfl),
    PySem.W.mg_of X G a11,
    F12,
    F12.binds (ps := ["_law_cell_here", "_law_many", "_law_first"]) (fun _ _ _ _ _ _ us hl => L2.us3 (P := fun us => bindArgs _ ⟨us, []⟩ = pure ((["_law_cell_here", "_law_many", "_law_first"] : List Str).zip us)) hl fun _ _ _ => rfl),
    PySem.W.mg_of X G a12,
    F13,
    F13.binds (ps := ["_law_cell_here"]) (fun _ _ _ _ _ _ us hl => L2.us1 (P := fun us => bindArgs _ ⟨us, []⟩ = pure ((["_law_cell_here"] : List Str).zip us)) hl fun _ => rfl),
    PySem.W.mg_of X G a13,
    F14,
    F14.binds (ps := ["_law_thing"]) (fun _ _ _ _ _ _ us hl => L2.us1 (P := fun us => bindArgs _ ⟨us, []⟩ = pure ((["_law_thing"] : List Str).zip us)) hl fun _ => rfl),
    PySem.W.mg_of X G a14,
    F15,
    F15.binds (ps := ["_law_cell_here", "_law_words"]) (fun _ _ _ _ _ _ us hl => L2.us2 (P := fun us => bindArgs _ ⟨us, []⟩ = pure ((["_law_cell_here", "_law_words"] : List Str).zip us)) hl fun _ _ => rfl),
    PySem.W.mg_of X G a15,
    F16,
    F16.binds (ps := ["_law_cell_here", "_law_cells", "_law_words"]) (fun _ _ _ _ _ _ us hl => L2.us3 (P := fun us => bindArgs _ ⟨us, []⟩ = pure ((["_law_cell_here", "_law_cells", "_law_words"] : List Str).zip us)) hl fun _ _ _ => rfl),
    PySem.W.mg_of X G a16,
    F17,
    F17.binds (ps := ["_law_term", "_law_cell_here", "_law_words"]) (fun _ _ _ _ _ _ us hl => L2.us3 (P := fun us => bindArgs _ ⟨us, []⟩ = pure ((["_law_term", "_law_cell_here", "_law_words"] : List Str).zip us)) hl fun _ _ _ => rfl),
    PySem.W.mg_of X G a17,
    F18,
    F18.binds (ps := ["_law_term"]) (fun _ _ _ _ _ _ us hl => L2.us1 (P := fun us => bindArgs _ ⟨us, []⟩ = pure ((["_law_term"] : List Str).zip us)) hl fun _ => rfl),
    PySem.W.mg_of X G a18,
    F19,
    F19.binds (ps := ["_law_one", "_law_other"]) (fun _ _ _ _ _ _ us hl => L2.us2 (P := fun us => bindArgs _ ⟨us, []⟩ = pure ((["_law_one", "_law_other"] : List Str).zip us)) hl fun _ _ => rfl),
    PySem.W.mg_of X G a19,
    F20,
    F20.binds (ps := ["_law_one", "_law_other", "_law_puts"]) (fun _ _ _ _ _ _ us hl => L2.us3 (P := fun us => bindArgs _ ⟨us, []⟩ = pure ((["_law_one", "_law_other", "_law_puts"] : List Str).zip us)) hl fun _ _ _ => rfl),
    PySem.W.mg_of X G a20,
    F21,
    F21.binds (ps := ["_law_found", "_law_due_here", "_law_puts"]) (fun _ _ _ _ _ _ us hl => L2.us3 (P := fun us => bindArgs _ ⟨us, []⟩ = pure ((["_law_found", "_law_due_here", "_law_puts"] : List Str).zip us)) hl fun _ _ _ => rfl),
    PySem.W.mg_of X G a21,
    F22,
    F22.binds (ps := ["_law_script"]) (fun _ _ _ _ _ _ us hl => L2.us1 (P := fun us => bindArgs _ ⟨us, []⟩ = pure ((["_law_script"] : List Str).zip us)) hl fun _ => rfl),
    PySem.W.mg_of X G a22,
    PySem.W.mg_none_of X G z0,
    PySem.W.mg_none_of X G z1,
    PySem.W.mg_none_of X G z2,
    PySem.W.mg_none_of X G z3,
    PySem.W.mg_none_of X G z4,
    PySem.W.mg_none_of X G z5,
    PySem.W.mg_none_of X G z6,
    PySem.W.mg_none_of X G z7,
    PySem.W.mg_none_of X G z8,
    PySem.W.mg_none_of X G z9⟩, fun s u => .of_eq rfl⟩
theorem walk {l : PySem.W.OpenLaw} {q : Program} {loose : List Str} {XP : (Str → Option Value) → Heap → Prop} {YP : World → Heap → Prop} {d : DefRec} {K : Params → PySem.W.Frag} (hn : l.most = some 63) (hdf : d.params.defaults = [])
    (hY : ∀ (w : World) (h : Heap), YP w h → (K w.params).In h)
    (F : ∀ (w : World) (mg : Str → Option Value) (fa : Addr) (h : Heap), (K w.params).In h → h.Ns mainGlobals mg → mg d.name = some (.ref fa) →
      ∃ fd : FuncData, (∀ (s : Shared) (u : Value), BindsTo s fd ⟨[u], []⟩ [("_law_script", u)]) ∧ ∀ base : Heap, (K w.params).In base → base.Ns mainGlobals mg → FnOk l.prog w (K w.params) mg base CX0 7 fa fd ["_law_script"] (sp_law (K w.params))) :
    PySem.W.WalkO q loose XP YP l.row.toRowW d [] (fun f vs => PySem.call f vs) :=
  L2.walk_ofB (n := 63) (k := 7) (x := "_law_script") (CX := fun _ => CX0) (sp := fun w => sp_law (K w.params)) hn (by decide) hdf ⟨rfl, by decide, by decide⟩ hY F (fun _ _ a ns hl hb hO hS => ⟨ns, hS, hl, hb, fun _ => rfl⟩) fun _ _ _ _ _ z => z
end My
open PySem PySem.W PyProof.Rows
set_option maxRecDepth 100000 in
set_option maxHeartbeats 0 in
theorem PySem.Challenge.cw_goaltrail_k23_made_one_flat_holds : PySem.Challenge.rw_goaltrail_k23_made_one_flat.Holds := by
  w_on; o_law; k_head; (case hw => w_witness2)
  k_fill
  refine My.walk (l := PySem.Challenge.rw_goaltrail_k23_made_one_flat) rfl rfl (fun w h Y => PySem.W.kIn_of Y) ?F
  case F =>
    intro w mg fa h KX G hmg
    have TT : ∃ t : My.Ad, My.Txt (L2.KOf KX) mg t ∧ ∀ (s : Shared) (u : Value), BindsTo s t.d_law ⟨[u], []⟩ [("_law_script", u)] := by
      dsimp only [L2.KOf]
      refine' My.txt_mk KX G ?ac_Row ?pg_Row ?hd_Row ?po_Row ?sa_Row ?na_Row_lefts ?na_Row_rights ?na_Row_taken ?mk_Row ?in_Row ?kc_Row ?ac_Joining ?pg_Joining ?hd_Joining ?po_Joining ?sa_Joining ?na_Joining_puts ?na_Joining_noted ?na_Joining_rows ?na_Joining_met ?mk_Joining ?in_Joining ?kc_Joining ?am_Joining_join_terms ?am_Joining_join_place ?am_Joining_put_for ?am_Joining_begin_kids ?am_Joining_path ?l0 ?c0 ?k0 ?fn0 ?l1 ?c1 ?k1 ?fn1 ?l2 ?c2 ?k2 ?fn2 ?l3 ?c3 ?k3 ?fn3 ?l4 ?c4 ?k4 ?fn4 ?l5 ?c5 ?k5 ?fn5 ?l6 ?c6 ?k6 ?fn6 ?a7 ?l7 ?c7 ?k7 ?a8 ?l8 ?c8 ?k8 ?a9 ?l9 ?c9 ?k9 ?a10 ?l10 ?c10 ?k10 ?a11 ?l11 ?c11 ?k11 ?a12 ?l12 ?c12 ?k12 ?a13 ?l13 ?c13 ?k13 ?a14 ?l14 ?c14 ?k14 ?a15 ?l15 ?c15 ?k15 ?a16 ?l16 ?c16 ?k16 ?a17 ?l17 ?c17 ?k17 ?a18 ?l18 ?c18 ?k18 ?a19 ?l19 ?c19 ?k19 ?a20 ?l20 ?c20 ?k20 ?a21 ?l21 ?c21 ?k21 ?a22 ?l22 ?c22 ?k22 ?z0 ?z1 ?z2 ?z3 ?z4 ?z5 ?z6 ?z7 ?z8 ?z9
      (case ac_Row => k_is)
      (case pg_Row => k_is)
      (case hd_Row => k_is)
      (case po_Row => k_is)
      (case sa_Row => k_is)
      (case na_Row_lefts => k_is)
      (case na_Row_rights => k_is)
      (case na_Row_taken => k_is)
      (case mk_Row => k_is)
      (case in_Row => k_is)
      (case kc_Row => k_is)
      (case ac_Joining => k_is)
      (case pg_Joining => k_is)
      (case hd_Joining => k_is)
      (case po_Joining => k_is)
      (case sa_Joining => k_is)
      (case na_Joining_puts => k_is)
      (case na_Joining_noted => k_is)
      (case na_Joining_rows => k_is)
      (case na_Joining_met => k_is)
      (case mk_Joining => k_is)
      (case in_Joining => k_is)
      (case kc_Joining => k_is)
      (case am_Joining_join_terms => k_is)
      (case am_Joining_join_place => k_is)
      (case am_Joining_put_for => k_is)
      (case am_Joining_begin_kids => k_is)
      (case am_Joining_path => k_is)
      (case l0 => k_is)
      (case c0 => k_is)
      (case k0 => k_is)
      (case fn0 => k_is)
      (case l1 => k_is)
      (case c1 => k_is)
      (case k1 => k_is)
      (case fn1 => k_is)
      (case l2 => k_is)
      (case c2 => k_is)
      (case k2 => k_is)
      (case fn2 => k_is)
      (case l3 => k_is)
      (case c3 => k_is)
      (case k3 => k_is)
      (case fn3 => k_is)
      (case l4 => k_is)
      (case c4 => k_is)
      (case k4 => k_is)
      (case fn4 => k_is)
      (case l5 => k_is)
      (case c5 => k_is)
      (case k5 => k_is)
      (case fn5 => k_is)
      (case l6 => k_is)
      (case c6 => k_is)
      (case k6 => k_is)
      (case fn6 => k_is)
      (case a7 => k_is)
      (case l7 => k_is)
      (case c7 => k_is)
      (case k7 => k_is)
      (case a8 => k_is)
      (case l8 => k_is)
      (case c8 => k_is)
      (case k8 => k_is)
      (case a9 => k_is)
      (case l9 => k_is)
      (case c9 => k_is)
      (case k9 => k_is)
      (case a10 => k_is)
      (case l10 => k_is)
      (case c10 => k_is)
      (case k10 => k_is)
      (case a11 => k_is)
      (case l11 => k_is)
      (case c11 => k_is)
      (case k11 => k_is)
      (case a12 => k_is)
      (case l12 => k_is)
      (case c12 => k_is)
      (case k12 => k_is)
      (case a13 => k_is)
      (case l13 => k_is)
      (case c13 => k_is)
      (case k13 => k_is)
      (case a14 => k_is)
      (case l14 => k_is)
      (case c14 => k_is)
      (case k14 => k_is)
      (case a15 => k_is)
      (case l15 => k_is)
      (case c15 => k_is)
      (case k15 => k_is)
      (case a16 => k_is)
      (case l16 => k_is)
      (case c16 => k_is)
      (case k16 => k_is)
      (case a17 => k_is)
      (case l17 => k_is)
      (case c17 => k_is)
      (case k17 => k_is)
      (case a18 => k_is)
      (case l18 => k_is)
      (case c18 => k_is)
      (case k18 => k_is)
      (case a19 => k_is)
      (case l19 => k_is)
      (case c19 => k_is)
      (case k19 => k_is)
      (case a20 => k_is)
      (case l20 => k_is)
      (case c20 => k_is)
      (case k20 => k_is)
      (case a21 => k_is)
      (case l21 => k_is)
      (case c21 => k_is)
      (case k21 => k_is)
      (case a22 => k_is)
      (case l22 => k_is)
      (case c22 => k_is)
      (case k22 => k_is)
      (case z0 => k_is)
      (case z1 => k_is)
      (case z2 => k_is)
      (case z3 => k_is)
      (case z4 => k_is)
      (case z5 => k_is)
      (case z6 => k_is)
      (case z7 => k_is)
      (case z8 => k_is)
      (case z9 => k_is)
    obtain ⟨t, T, e1⟩ := TT
    have e0 := hmg.symm.trans T.m_law
    cases e0
    exact ⟨t.d_law, e1, fun base kb nb => My.ok_all T⟩
