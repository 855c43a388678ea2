import PyProof.Rows.All
import PyProof.StrBlock2
import PyProof.Rows.StrIntSpec
import KE.KItemsList
import KE.KDictLaws
import PyProof.SumWalkG
import KE.KRevIter
import PyProof.ListRange
import PyProof.Rows.SortWalk
import KE.KSortedM
import PyProof.Rows.SortStr
import Wide.All
import OpenK.AllK
import Wide.FinOn
import Lean
import PyProof.EqAt
import PyProof.EqKinds
import PyProof.TupleCall
import PyProof.NeKinds
import PyProof.DictUpdate
import KE.KDictList
import KE.KEqDict
import PyProof.Draws
import PyProof.Rows.EnumRows
import PyProof.StationsW
import PyProof.ExcClass3
import PyProof.RulesAs
import PyProof.ExcBaseAll.ValueError
import PyProof.InstStoreFacts
import PyProof.ExcArgsOwn
import PyProof.NsDelKeeps
import KE.RegKIsAll
import PyProof.Rows.LoopZipPat
import PyProof.StrLawsRepr
import KE.KDictOf
import PyProof.WalksS
import PyProof.AttrMissHeap
import PySem.Challenge.RW_goaltrail_k50_boxes_told
set_option Elab.async false
set_option linter.all false
set_option maxRecDepth 100000
set_option genSizeOf false
set_option compiler.extract_closed false
namespace L2
open PySem PySem.Spec PyProof.Rows
theorem us0 {us : List Value} {P : List Value → Prop} (hl : us.length = 0) (h : P []) : P us := by cases us with | nil => exact h | cons a r => cases hl
theorem us1 {us : List Value} {P : List Value → Prop} (hl : us.length = 1) (h : ∀ a, P [a]) : P us := by cases us with | nil => cases hl | cons a r => exact us0 (P := fun r => P (a :: r)) (Nat.succ.inj hl) (h a)
theorem us2 {us : List Value} {P : List Value → Prop} (hl : us.length = 2) (h : ∀ a b, P [a, b]) : P us := by cases us with | nil => cases hl | cons a r => exact us1 (P := fun r => P (a :: r)) (Nat.succ.inj hl) (h a)
theorem us3 {us : List Value} {P : List Value → Prop} (hl : us.length = 3) (h : ∀ a b c, P [a, b, c]) : P us := by cases us with | nil => cases hl | cons a r => exact us2 (P := fun r => P (a :: r)) (Nat.succ.inj hl) (h a)
theorem us4 {us : List Value} {P : List Value → Prop} (hl : us.length = 4) (h : ∀ a b c d, P [a, b, c, d]) : P us := by cases us with | nil => cases hl | cons a r => exact us3 (P := fun r => P (a :: r)) (Nat.succ.inj hl) (h a)
theorem us5 {us : List Value} {P : List Value → Prop} (hl : us.length = 5) (h : ∀ a b c d e, P [a, b, c, d, e]) : P us := by cases us with | nil => cases hl | cons a r => exact us4 (P := fun r => P (a :: r)) (Nat.succ.inj hl) (h a)
theorem us6 {us : List Value} {P : List Value → Prop} (hl : us.length = 6) (h : ∀ a b c d e f, P [a, b, c, d, e, f]) : P us := by cases us with | nil => cases hl | cons a r => exact us5 (P := fun r => P (a :: r)) (Nat.succ.inj hl) (h a)
theorem ex1 {us : List Value} (hl : us.length = 1) : ∃ a, us = [a] := us1 (P := fun us => ∃ a', us = [a']) hl fun a => ⟨a, rfl⟩
theorem ex2 {us : List Value} (hl : us.length = 2) : ∃ a b, us = [a, b] := us2 (P := fun us => ∃ a' b', us = [a', b']) hl fun a b => ⟨a, b, rfl⟩
theorem ex3 {us : List Value} (hl : us.length = 3) : ∃ a b c, us = [a, b, c] := us3 (P := fun us => ∃ a' b' c', us = [a', b', c']) hl fun a b c => ⟨a, b, c, rfl⟩
theorem ex4 {us : List Value} (hl : us.length = 4) : ∃ a b c d, us = [a, b, c, d] := us4 (P := fun us => ∃ a' b' c' d', us = [a', b', c', d']) hl fun a b c d => ⟨a, b, c, d, rfl⟩
theorem ex5 {us : List Value} (hl : us.length = 5) : ∃ a b c d e, us = [a, b, c, d, e] := us5 (P := fun us => ∃ a' b' c' d' e', us = [a', b', c', d', e']) hl fun a b c d e => ⟨a, b, c, d, e, rfl⟩
theorem ex6 {us : List Value} (hl : us.length = 6) : ∃ a b c d e f, us = [a, b, c, d, e, f] := us6 (P := fun us => ∃ a' b' c' d' e' f', us = [a', b', c', d', e', f']) hl fun a b c d e f => ⟨a, b, c, d, e, f, rfl⟩
noncomputable abbrev Key := Sum Int Str
noncomputable def keyIs : Key → Value → Bool
  | .inl k, v => Value.isInt k v
  | .inr x, v => Value.isStrOf x v
noncomputable def keyH (w : World) : Key → Int
  | .inl k => hashInt k
  | .inr x => hashStr w x
theorem keyIs_shape : ∀ {k : Key} {v : Value}, keyIs k v = true → (∃ i t, k = Sum.inl i ∧ v = Value.int i t) ∨ (∃ x t, k = Sum.inr x ∧ v = Value.str x t)
  | .inl i, v, h => by
    obtain ⟨t, e⟩ := Value.isInt_shape (k := i) (v := v) h
    exact .inl ⟨i, t, rfl, e⟩
  | .inr x, v, h => by
    obtain ⟨t, e⟩ := Value.isStrOf_shape (x := x) (v := v) h
    exact .inr ⟨x, t, rfl, e⟩
theorem keyIs_int (i : Int) (t : Tok) : keyIs (.inl i) (.int i t) = true := by simp [keyIs, Value.isInt]
theorem keyIs_str (x : Str) (t : Tok) : keyIs (.inr x) (.str x t) = true := by simp [keyIs, Value.isStrOf]
theorem key_ll (a b : Int) : decide ((Sum.inl a : Key) = Sum.inl b) = (a == b) := by
  by_cases e : a = b
  · subst e; simp
  · have h : ¬ (Sum.inl a : Key) = Sum.inl b := fun q => e (Sum.inl.inj q)
    rw [decide_eq_false h]
    exact (beq_eq_false_iff_ne.mpr e).symm
theorem key_rr (a b : Str) : decide ((Sum.inr a : Key) = Sum.inr b) = decide (a = b) := by
  by_cases e : a = b
  · subst e; simp
  · have h : ¬ (Sum.inr a : Key) = Sum.inr b := fun q => e (Sum.inr.inj q)
    rw [decide_eq_false h, decide_eq_false e]
theorem key_lr (a : Int) (b : Str) : decide ((Sum.inl a : Key) = Sum.inr b) = false := decide_eq_false (fun q => nomatch q)
theorem key_rl (a : Str) (b : Int) : decide ((Sum.inr a : Key) = Sum.inl b) = false := decide_eq_false (fun q => nomatch q)
noncomputable def mixKind (prog : Program) (w : World) : PySem.KeyKind prog w Key where
  is := keyIs
  hash := keyH w
  inj := fun v a b ha hb => by
    rcases keyIs_shape ha with ⟨i, t, rfl, rfl⟩ | ⟨x, t, rfl, rfl⟩
    · rcases keyIs_shape hb with ⟨j, u, rfl, e⟩ | ⟨y, u, rfl, e⟩
      · injection e with e1 _; rw [e1]
      · exact nomatch e
    · rcases keyIs_shape hb with ⟨j, u, rfl, e⟩ | ⟨y, u, rfl, e⟩
      · exact nomatch e
      · injection e with e1 _; rw [e1]
  byValue := fun k v h => by
    rcases keyIs_shape h with ⟨i, t, rfl, rfl⟩ | ⟨x, t, rfl, rfl⟩ <;> rfl
  pyHash := fun hv h => by
    rcases keyIs_shape hv with ⟨i, t, rfl, rfl⟩ | ⟨x, t, rfl, rfl⟩
    · exact wpAny_pyHash_int h
    · exact wpAny_pyHash_str h
  eqBool := fun hu hv h => by
    rcases keyIs_shape hu with ⟨i, t, rfl, rfl⟩ | ⟨x, t, rfl, rfl⟩
    · rcases keyIs_shape hv with ⟨j, u, rfl, rfl⟩ | ⟨y, u, rfl, rfl⟩
      · rw [key_ll] at h; exact wpAny_eqBool_int h
      · rw [key_lr] at h; exact SeqAt.EqAt.int_str i t y u _ _ _ _ h
    · rcases keyIs_shape hv with ⟨j, u, rfl, rfl⟩ | ⟨y, u, rfl, rfl⟩
      · rw [key_rl] at h; exact SeqAt.EqAt.str_int x t j u _ _ _ _ h
      · rw [key_rr] at h; exact wpAny_eqBool_str h
  «strs» := fun k x t v h => by
    rcases keyIs_shape h with ⟨i, u, rfl, e⟩ | ⟨y, u, rfl, e⟩
    · exact nomatch e
    · injection e with e1 _
      subst e1
      cases v <;> rfl
theorem mixKind_int (prog : Program) (w : World) (i : Int) (t : Tok) : (mixKind prog w).is (.inl i) (.int i t) = true := keyIs_int i t
theorem mixKind_str (prog : Program) (w : World) (x : Str) (t : Tok) : (mixKind prog w).is (.inr x) (.str x t) = true := keyIs_str x t
end L2
namespace L2
open PySem PySem.Spec PyProof.Rows
inductive V where
  | non | bl (b : Bool) | int (i : Int) | str (x : Str) | byt (b : Array UInt8) | flt (b : UInt64) | ref (a : Addr) | ty (n : String)
  deriving DecidableEq
noncomputable def RelV : V → Value → Prop
  | .non, u => u = Value.none
  | .bl b, u => u = Value.bool b
  | .int i, u => ∃ t, u = Value.int i t
  | .str x, u => ∃ t, u = Value.str x t
  | .byt b, u => ∃ t, u = Value.bytes b t
  | .flt b, u => ∃ t, u = Value.float b t
  | .ref a, u => u = Value.ref a
  | .ty n, u => u = Value.type n
noncomputable abbrev Vals : List V → List Value → Prop := Paired RelV
theorem Vals.length {xs : List V} {us : List Value} (r : Vals xs us) : xs.length = us.length := Paired.length r
theorem Vals.get : ∀ {xs : List V} {us : List Value} {i : Nat} {x : V}, Vals xs us → xs[i]? = some x → ∃ u, us[i]? = some u ∧ RelV x u
  | _, _, _, _, .nil, e => by simp at e
  | _, _, 0, _, .cons r _, e => by simp at e; subst e; exact ⟨_, rfl, r⟩
  | _, _, i + 1, x, .cons _ t, e => by
    obtain ⟨u, h1, h2⟩ := Vals.get (i := i) (x := x) t (by simpa using e)
    exact ⟨u, by simpa using h1, h2⟩
theorem Vals.set {x : V} {u : Value} (r : RelV x u) : ∀ {xs : List V} {us : List Value} (i : Nat), Vals xs us → Vals (xs.set i x) (us.set i u)
  | _, _, _, .nil => .nil
  | _, _, 0, .cons _ t => .cons r t
  | _, _, i + 1, .cons q t => .cons q (Vals.set r i t)
theorem Vals.append : ∀ {xs ys : List V} {us ws : List Value}, Vals xs us → Vals ys ws → Vals (xs ++ ys) (us ++ ws)
  | _, _, _, _, .nil, s => s
  | _, _, _, _, .cons r t, s => .cons r (Vals.append t s)
theorem Vals.take : ∀ {xs : List V} {us : List Value} (n : Nat), Vals xs us → Vals (xs.take n) (us.take n)
  | _, _, 0, _ => .nil
  | _, _, _ + 1, .nil => .nil
  | _, _, n + 1, .cons r t => .cons r (Vals.take n t)
theorem Vals.drop : ∀ {xs : List V} {us : List Value} (n : Nat), Vals xs us → Vals (xs.drop n) (us.drop n)
  | _, _, 0, r => r
  | _, _, _ + 1, .nil => .nil
  | _, _, n + 1, .cons _ t => Vals.drop n t
theorem Vals.none_of : ∀ {xs : List V} {us : List Value} {i : Nat}, Vals xs us → xs[i]? = none → us[i]? = none := fun {xs us i} r e => by
  have h1 := r.length
  have h2 : xs.length ≤ i := List.getElem?_eq_none_iff.mp e
  exact List.getElem?_eq_none_iff.mpr (by omega)
noncomputable def RelO : Option V → Option Value → Prop
  | some v, some u => RelV v u
  | none, none => True
  | _, _ => False
noncomputable def KV {κ : Type} : List (κ × V) → List (κ × Value) → Prop := Paired fun (p : κ × V) (q : κ × Value) => p.1 = q.1 ∧ RelV p.2 q.2
noncomputable def kV : Key → V
  | .inl i => .int i
  | .inr x => .str x
inductive HO where
  | lst (xs : List V)
  | tup (xs : List V)
  | dK (kvs : List (Key × V)) | dT (kvs : List (List Key × V))
  | set (S : Int → Bool) (n : Nat)
  | ins (C dx : Addr) (fs : List (Str × V))
  | own (x : Addr)
  | xd (fs : List (Str × V))
  | met (f x : Addr)
  | rng (lo hi : Int)
  | frz (o : Obj) (u : HO)
  | tbl (ps : Array Value)
  | ext (φ : Heap → Prop)
noncomputable abbrev Hp := Addr → Option HO
noncomputable def upd (H : Hp) (a : Addr) (o : HO) : Hp := fun b => if b = a then some o else H b
theorem upd_same {H : Hp} {a : Addr} {o : HO} : upd H a o a = some o := by unfold upd; rw [if_pos rfl]
theorem upd_ne {H : Hp} {a b : Addr} {o : HO} (h : b ≠ a) : upd H a o b = H b := by unfold upd; rw [if_neg h]
theorem ne_of {H : Hp} {a b : Addr} {o u : HO} (h : H a = some o) (h' : H b = some u) (d : o ≠ u) : a ≠ b := by
  intro e; subst e; rw [h] at h'; exact d (Option.some.inj h')
theorem ne_of_none {H : Hp} {a b : Addr} {o : HO} (h : H a = some o) (h' : H b = none) : a ≠ b := by
  intro e; subst e; rw [h] at h'; cases h'
section
variable (P : Program) (w : World)
noncomputable def ObjOk (H : Hp) (h : Heap) (a : Addr) : HO → Prop
  | .lst xs => xs.length ≤ sizeLine ∧ ∃ (its : List Value) (n : Nat), Vals xs its ∧ h.get? a = some { cls := .type "list", data := .seq its.toArray n }
  | .tup xs => xs.length ≤ sizeLine ∧ ∃ its : List Value, Vals xs its ∧ IsTup h a its.toArray
  | .dK kvs => kvs.length ≤ sizeLine ∧ (a == sysModules) = false ∧ ∃ vs, KV kvs vs ∧ h.DictOf (mixKind P w) a vs
  | .dT kvs => kvs.length ≤ sizeLine ∧ (a == sysModules) = false ∧ ∃ xs : List (List Key × Addr × Value),
      Paired (fun (p : List Key × V) (q : List Key × Addr × Value) => p.1 = q.1 ∧ H q.2.1 = some (.tup (p.1.map kV)) ∧ RelV p.2 q.2.2) kvs xs ∧
      ∃ o es ep, h.get? a = some o ∧ o.ExactDict ∧ o.data = .dict es ep ∧ es.toList = xs.map (entryOfKey (tupleKind (mixKind P w))) ∧ (xs.map (·.1)).Nodup
  | .set S n => h.SetOf (intKind P w) a S n
  | .ins C dx fs => H dx = some (.own a) ∧ fs.length ≤ 1000 ∧ dx ≠ a ∧ h.get? a = some (PySem.W.instObj C dx) ∧
      ∃ mA, h.Ns1 dx mA ∧ (∀ f, RelO (fs.lookup f) (mA f)) ∧ PySem.Within mA (fs.map (·.1))
  | .own _ => ∃ o, h.get? a = some o
  | .xd fs => ∃ mA, h.Ns1 a mA ∧ ∀ f, RelO (fs.lookup f) (mA f)
  | .rng lo hi => ∃ t u v, h.get? a = some { cls := .type "range", data := .fields #[.int lo t, .int hi u, .int 1 v] }
  | .frz o u => h.get? a = some o ∧ ObjOk H h a u
  | .tbl ps => h.get? a = some { cls := .none, data := .fields ps }
  | .met f x => h.get? a = some (PySem.W.methodObj (.ref f) (.ref x))
  | .ext φ => φ h ∧ (∃ o, h.get? a = some o) ∧ ∀ h1 h2 : Heap, φ h1 → (∀ o, h1.get? a = some o → h2.get? a = some o) → φ h2
noncomputable def HOk (H : Hp) (h : Heap) : Prop := ∀ a o, H a = some o → ObjOk P w H h a o
end
section
variable {P : Program} {w : World} {H H' : Hp} {h h' : Heap} {a : Addr} {o : HO}
theorem ObjOk.lt (x : ObjOk P w H h a o) : a < h.objs.size := by
  cases o with
  | lst xs => obtain ⟨_, _, _, _, e⟩ := x; exact Heap.lt_size e
  | tup xs => obtain ⟨_, _, _, p⟩ := x; exact p.lt
  | dK kvs => obtain ⟨_, _, _, _, o, _, _, e, _⟩ := x; exact Heap.lt_size e
  | dT kvs => obtain ⟨_, _, _, _, o, _, _, e, _⟩ := x; exact Heap.lt_size e
  | set S n => obtain ⟨o, _, _, _, e, _⟩ := x; exact Heap.lt_size e
  | ins C dx fs => obtain ⟨_, _, _, e, _⟩ := x; exact Heap.lt_size e
  | own y => obtain ⟨_, e⟩ := x; exact Heap.lt_size e
  | xd fs => obtain ⟨_, ⟨_, _, _, e, _⟩, _⟩ := x; exact Heap.lt_size e
  | rng lo hi => obtain ⟨_, _, _, e⟩ := x; exact Heap.lt_size e
  | frz ob u => obtain ⟨e, _⟩ := x; exact Heap.lt_size e
  | tbl ps => exact Heap.lt_size (show h.get? a = some _ from x)
  | met f y => exact Heap.lt_size (show h.get? a = some _ from x)
  | ext φ => obtain ⟨_, ⟨_, e⟩, _⟩ := x; exact Heap.lt_size e
theorem Paired.mapP {α β : Type} {F G : α → β → Prop} : ∀ {l₁ : List α} {l₂ : List β}, Paired F l₁ l₂ → (∀ a b, F a b → G a b) → Paired G l₁ l₂
  | _, _, .nil, _ => .nil
  | _, _, .cons r t, f => .cons (f _ _ r) (Paired.mapP t f)
theorem ObjOk.stay (x : ObjOk P w H h a o) (k : ∀ b u, (b = a ∨ H b = some (.own a)) → h.get? b = some u → h'.get? b = some u)
    (ho : ∀ b, H b = some (.own a) → H' b = some (.own a)) (ht : ∀ b xs, H b = some (.tup xs) → H' b = some (.tup xs)) : ObjOk P w H' h' a o := by
  induction o with
  | lst xs => obtain ⟨z, its, n, r, e⟩ := x; exact ⟨z, its, n, r, k _ _ (.inl rfl) e⟩
  | tup xs => obtain ⟨z, its, r, ob, e, c⟩ := x; exact ⟨z, its, r, ob, k _ _ (.inl rfl) e, c⟩
  | dK kvs => obtain ⟨z, y, vs, r, ob, es, ep, e, c⟩ := x; exact ⟨z, y, vs, r, ob, es, ep, k _ _ (.inl rfl) e, c⟩
  | dT kvs =>
    obtain ⟨z, y, xs, r, ob, es, ep, e, c⟩ := x
    exact ⟨z, y, xs, Paired.mapP r fun p q z => ⟨z.1, ht _ _ z.2.1, z.2.2⟩, ob, es, ep, k _ _ (.inl rfl) e, c⟩
  | set S n => obtain ⟨ob, es, ep, t, e, c⟩ := x; exact ⟨ob, es, ep, t, k _ _ (.inl rfl) e, c⟩
  | ins C dx fs =>
    obtain ⟨d, z, ne, e, mA, ⟨od, es, ep, e2, c⟩, r⟩ := x
    exact ⟨ho _ d, z, ne, k _ _ (.inl rfl) e, mA, ⟨od, es, ep, k _ _ (.inr d) e2, c⟩, r⟩
  | own y => obtain ⟨ob, e⟩ := x; exact ⟨ob, k _ _ (.inl rfl) e⟩
  | xd fs => obtain ⟨mA, ⟨od, es, ep, e, c⟩, r⟩ := x; exact ⟨mA, ⟨od, es, ep, k _ _ (.inl rfl) e, c⟩, r⟩
  | rng lo hi => obtain ⟨t, u, v, e⟩ := x; exact ⟨t, u, v, k _ _ (.inl rfl) e⟩
  | frz ob u ih => obtain ⟨e, q⟩ := x; exact ⟨k _ _ (.inl rfl) e, ih q⟩
  | tbl ps =>
    have e : h.get? a = some { cls := .none, data := .fields ps } := x
    show h'.get? a = some { cls := .none, data := .fields ps }
    exact k a _ (.inl rfl) e
  | met f y =>
    have e : h.get? a = some (PySem.W.methodObj (.ref f) (.ref y)) := x
    show h'.get? a = some (PySem.W.methodObj (.ref f) (.ref y))
    exact k a _ (.inl rfl) e
  | ext φ => obtain ⟨p, ⟨o, e⟩, st⟩ := x; exact ⟨st _ _ p fun o q => k _ _ (.inl rfl) q, ⟨o, k _ _ (.inl rfl) e⟩, st⟩
theorem HOk.lt (x : HOk P w H h) (e : H a = some o) : a < h.objs.size := (x a o e).lt
theorem HOk.fresh (x : HOk P w H h) (e : h.objs.size ≤ a) : H a = none := by
  cases q : H a with
  | none => rfl
  | some u => exact absurd (Nat.lt_of_lt_of_le (x.lt q) e) (Nat.lt_irrefl _)
theorem HOk.kept (x : HOk P w H h) (k : ∀ b u, h.get? b = some u → h'.get? b = some u) : HOk P w H h' := fun a o e =>
  (x a o e).stay (fun b u _ q => k b u q) (fun _ q => q) fun _ _ q => q
theorem HOk.laid (x : HOk P w H h) (k : ∀ b u, h.get? b = some u → h'.get? b = some u) (hp : h.objs.size ≤ a) (new : ObjOk P w (upd H a o) h' a o) : HOk P w (upd H a o) h' := fun b u e => by
  have hn := x.fresh hp
  by_cases hb : b = a
  · subst hb; rw [upd_same] at e; cases e; exact new
  · rw [upd_ne hb] at e
    exact (x b u e).stay (fun c v _ q => k c v q) (fun c q => by rw [upd_ne (ne_of_none q hn)]; exact q) fun c xs q => by rw [upd_ne (ne_of_none q hn)]; exact q
end
noncomputable def Rd (H : Hp) (a : Addr) (u : HO) : Prop := H a = some u ∨ ∃ o, H a = some (.frz o u)
theorem Rd.of {H : Hp} {a : Addr} {u : HO} (h : H a = some u) : Rd H a u := .inl h
theorem Rd.ok {P : Program} {w : World} {H : Hp} {h : Heap} {a : Addr} {u : HO} (r : Rd H a u) (x : HOk P w H h) : ObjOk P w H h a u := by
  rcases r with r | ⟨o, r⟩
  · exact x a u r
  · obtain ⟨_, q⟩ := x a _ r
    exact q
noncomputable def Mut : Option HO → Prop
  | some (.lst _) => True
  | some (.dK _) => True
  | some (.dT _) => True
  | some (.set _ _) => True
  | some (.ins _ _ _) => True
  | some (.ext _) => True
  | _ => False
section
variable {P : Program} {w : World} {H : Hp} {h h' : Heap} {x e : Addr} {o' : HO}
theorem HOk.write (ok : HOk P w H h) (mu : Mut (H x)) (he : e = x ∨ H e = some (.own x)) (k : ∀ b u, b ≠ e → h.get? b = some u → h'.get? b = some u) (heo : ∃ u, h'.get? e = some u)
    (new : ObjOk P w (upd H x o') h' x o') : HOk P w (upd H x o') h' := fun b u q => by
  have nown : ∀ c y, H c = some (.own y) → c ≠ x := fun c y r z => by subst z; rw [r] at mu; exact mu
  have ntup : ∀ c xs, H c = some (.tup xs) → c ≠ x := fun c xs r z => by subst z; rw [r] at mu; exact mu
  by_cases hb : b = x
  · subst hb; rw [upd_same] at q; cases q; exact new
  · rw [upd_ne hb] at q
    by_cases hbe : b = e
    · have q' : H b = some (.own x) := by
        rcases he with z | z
        · exact absurd (hbe.trans z) hb
        · rw [hbe]; exact z
      rw [q] at q'; cases q'
      obtain ⟨v, hv⟩ := heo
      exact ⟨v, by rw [hbe]; exact hv⟩
    · refine (ok b u q).stay (fun c v hc r => k c v ?_ r) (fun c r => by rw [upd_ne (nown c b r)]; exact r) fun c xs r => by rw [upd_ne (ntup c xs r)]; exact r
      rcases hc with rfl | hc
      · exact hbe
      · rintro rfl
        rcases he with z | z
        · exact nown c b hc z
        · rw [hc] at z; cases z; exact hb rfl
end
structure Un (fs ex : List Addr) (H H' : Hp) (h h' : Heap) : Prop where
  keep : ∀ b o, h.get? b = some o → H b = none → b ∉ fs → b ∉ ex → h'.get? b = some o
  slot : ∀ b o, h.get? b = some o → H b = none → b ∈ fs → b ∉ ex → ∃ sl, h'.get? b = some { o with slots := sl }
  free : ∀ b o, h.get? b = some o → H b = none → b ∉ ex → H' b = none
  there : ∀ b o, h.get? b = some o → b ∉ ex → ∃ o', h'.get? b = some o'
  tups : ∀ b xs, H b = some (.tup xs) → H' b = some (.tup xs)
  frzs : ∀ b o u, H b = some (.frz o u) → H' b = some (.frz o u)
  tbls : ∀ b ps, H b = some (.tbl ps) → ∃ more, H' b = some (.tbl (ps ++ more))
section
variable {fs fs' ex ex' : List Addr} {H H1 H2 : Hp} {h h1 h2 h' : Heap} {a x e : Addr} {o : HO}
theorem Un.any (u : Un fs ex H H1 h h1) {b : Addr} {ob : Obj} (q : h.get? b = some ob) (n : H b = none) (hx : b ∉ ex) : ∃ sl, h1.get? b = some { ob with slots := sl } := by
  by_cases hb : b ∈ fs
  · exact u.slot b ob q n hb hx
  · exact ⟨ob.slots, u.keep b ob q n hb hx⟩
theorem Un.trans (a : Un fs ex H H1 h h1) (b : Un fs ex H1 H2 h1 h2) : Un fs ex H H2 h h2 where
  keep := fun c ob q n hc hx => b.keep c ob (a.keep c ob q n hc hx) (a.free c ob q n hx) hc hx
  slot := fun c ob q n hc hx => by
    obtain ⟨sl, e1⟩ := a.slot c ob q n hc hx
    obtain ⟨sl', e2⟩ := b.slot c _ e1 (a.free c ob q n hx) hc hx
    exact ⟨sl', e2⟩
  free := fun c ob q n hx => by
    obtain ⟨o', e1⟩ := a.there c ob q hx
    exact b.free c o' e1 (a.free c ob q n hx) hx
  there := fun c ob q hx => by
    obtain ⟨o', e1⟩ := a.there c ob q hx
    exact b.there c o' e1 hx
  tups := fun c xs q => b.tups c xs (a.tups c xs q)
  frzs := fun c ob xs q => b.frzs c ob xs (a.frzs c ob xs q)
  tbls := fun c ps q => by
    obtain ⟨m1, e1⟩ := a.tbls c ps q
    obtain ⟨m2, e2⟩ := b.tbls c _ e1
    exact ⟨m1 ++ m2, by rw [e2, Array.append_assoc]⟩
theorem Un.kept (k : ∀ b u, h.get? b = some u → h'.get? b = some u) : Un fs ex H H h h' :=
  ⟨fun b ob q _ _ _ => k b ob q, fun b ob q _ _ _ => ⟨ob.slots, k b ob q⟩, fun _ _ _ n _ => n, fun b ob q _ => ⟨ob, k b ob q⟩, fun _ _ q => q, fun _ _ _ q => q, fun _ ps q => ⟨#[], by rw [q]; simp⟩⟩
theorem Un.refl : Un fs ex H H h h := Un.kept fun _ _ q => q
theorem Un.laid (k : ∀ b u, h.get? b = some u → h'.get? b = some u) (hp : h.objs.size ≤ a) (hn : H a = none) : Un fs ex H (upd H a o) h h' where
  keep := fun b u q _ _ _ => k b u q
  slot := fun b u q _ _ _ => ⟨u.slots, k b u q⟩
  free := fun b u q n _ => by rw [upd_ne (Nat.ne_of_lt (Nat.lt_of_lt_of_le (Heap.lt_size q) hp))]; exact n
  there := fun b u q _ => ⟨u, k b u q⟩
  tups := fun b xs q => by rw [upd_ne (ne_of_none q hn)]; exact q
  frzs := fun b u xs q => by rw [upd_ne (ne_of_none q hn)]; exact q
  tbls := fun b ps q => ⟨#[], by rw [upd_ne (ne_of_none q hn), q]; simp⟩
theorem Un.write (mu : Mut (H x)) (he : e = x ∨ H e = some (.own x)) (k : ∀ b u, b ≠ e → h.get? b = some u → h'.get? b = some u) (heo : ∃ u, h'.get? e = some u) : Un fs ex H (upd H x o) h h' := by
  have hx : ∀ b, H b = none → b ≠ x := fun b n z => by subst z; rw [n] at mu; exact mu
  have hb : ∀ b, H b = none → b ≠ e := fun b n z => by
    subst z
    rcases he with r | r
    · exact hx b n r
    · rw [n] at r; cases r
  have hm : ∀ b u, H b = some u → ¬ Mut (some u) → b ≠ x := fun b u q nm z => by subst z; rw [q] at mu; exact nm mu
  refine ⟨fun b u q n _ _ => k b u (hb b n) q, fun b u q n _ _ => ⟨u.slots, k b u (hb b n) q⟩, fun b u q n _ => by rw [upd_ne (hx b n)]; exact n, fun b u q _ => ?_,
    fun b xs q => by rw [upd_ne (hm b _ q fun z => z)]; exact q, fun b u xs q => by rw [upd_ne (hm b _ q fun z => z)]; exact q, fun b ps q => ⟨#[], by rw [upd_ne (hm b _ q fun z => z), q]; simp⟩⟩
  by_cases hbe : b = e
  · subst hbe; exact heo
  · exact ⟨u, k b u hbe q⟩
theorem Un.mono (u : Un fs ex H H1 h h1) (hs : ∀ b ∈ fs, b ∈ fs') (hx : ∀ b ∈ ex, b ∈ ex') : Un fs' ex' H H1 h h1 :=
  ⟨fun b ob q n hb he => u.keep b ob q n (fun z => hb (hs b z)) fun z => he (hx b z), fun _ _ q n _ he => u.any q n fun z => he (hx _ z), fun b ob q n he => u.free b ob q n fun z => he (hx b z), fun b ob q he => u.there b ob q fun z => he (hx b z), u.tups, u.frzs, u.tbls⟩
end
noncomputable def trk (h : Heap) (H : Hp) : List Addr := (List.range h.objs.size).filter fun a => (H a).isSome
noncomputable def hidT (h : Heap) (H : Hp) : Heap := PySem.W.hideAll h (trk h H)
theorem hidT_size (h : Heap) (H : Hp) : (hidT h H).objs.size = h.objs.size := PySem.W.hideAll_size _ _
theorem hidT_get {h : Heap} {H : Hp} {b : Addr} {o : Obj} (e : h.get? b = some o) (n : H b = none) : (hidT h H).get? b = some o :=
  PySem.W.hideAll_get _ e fun hm => by
    have q : (H b).isSome = true := (List.mem_filter.mp hm).2
    rw [n] at q; simp at q
theorem of_hidT {h : Heap} {H : Hp} {b : Addr} {o : Obj} (e : (hidT h H).get? b = some o) : h.get? b = some o ∧ H b = none := by
  have e' : h.get? b = some o := PySem.W.of_hideAll (trk h H) e
  refine ⟨e', ?_⟩
  cases q : H b with
  | none => rfl
  | some x =>
    have hm : b ∈ trk h H := List.mem_filter.mpr ⟨List.mem_range.mpr (Heap.lt_size e'), by simp [q]⟩
    have z : (hidT h H).get? b = none := PySem.W.hideAll_none (trk h H) hm
    rw [z] at e; cases e
noncomputable def allNews (g h : Heap) (L : Addr) : List (Addr × Obj) := (List.range h.objs.size).filterMap fun a => if a = L ∨ (g.get? a).isSome = true then none else (h.get? a).map fun o => (a, o)
noncomputable def rest (g h : Heap) (L d : Addr) : List (Addr × Obj) := (allNews g h L).filter fun p => decide (p.1 ≠ d)
end L2
namespace L2
open PySem PySem.Spec PyProof.Rows
structure Mod (K : PySem.W.Frag) (mg : Str → Option Value) (base : Heap) : Prop where
  kin : K.In base
  glob : base.Ns mainGlobals mg
  blt : ∃ mb, base.Ns builtinsNs mb ∧ ∀ x : Str, x ≠ "__name__" → mb x = bootBuiltins x
  nolimit : base.NoLimit
structure Cx where
  prog : Program
  w : World
  K : PySem.W.Frag
  mg : Str → Option Value
  base : Heap
  A : Around
  N : List Str
  s₀ : Shared
  H₀ : Hp
  env : Env
  outer : List Env
  stack : List Env
  ex : List Addr
  fn : Str → Bool
  calm : Bool
  pn : List (Addr × Obj)
  xe : Value → Shared → Prop
noncomputable def frs (l : List Env) : List Addr := l.filterMap (·.frame)
noncomputable abbrev Cx.fs (X : Cx) : List Addr := frs X.outer
noncomputable def Vis (sc : Scope) (x : Str) : Prop := sc.names.lookup x = some .local ∨ sc.names.lookup x = some .cell ∨ sc.names.lookup x = some .free
noncomputable def Loc (sc : Scope) (x : Str) : Prop := sc.names.lookup x = some .local ∨ sc.names.lookup x = some .cell
noncomputable def Look (env : Env) (h : Heap) (m : Str → Option Value) (x : Str) (u : Value) : Prop :=
  (env.kindOf x = some .local ∧ m x = some u) ∨ ((env.kindOf x = some .cell ∨ env.kindOf x = some .free) ∧ ∃ c, env.cells.lookup x = some c ∧ h.IsCell c (some u))
structure Cx.Ok (X : Cx) : Prop where
  mod : Mod X.K X.mg X.base
  kind : X.env.scope.kind = .function
  glob : X.env.globals = mainGlobals
  blt : X.env.builtins = builtinsNs
  above : X.s₀.heap.objs.size ≤ X.env.locals
  inj : ∀ x y c, X.env.cells.lookup x = some c → X.env.cells.lookup y = some c → x = y
  has : ∀ x, (X.env.kindOf x = some .cell ∨ X.env.kindOf x = some .free) → ∃ c, X.env.cells.lookup x = some c
  cab : ∀ x c, X.fn x = true → X.env.cells.lookup x = some c → X.s₀.heap.objs.size ≤ c
  hd : X.calm = true → X.A.handled = none
  frames : X.A.frames = some X.stack
  stk : X.stack = X.outer ∨ (X.stack = X.env :: X.outer ∧ X.env.frame = some X.env.locals)
  exf : ∀ b ∈ X.ex, b ≠ X.env.locals ∧ ∀ x c, X.env.cells.lookup x = some c → c ≠ b
  bs : ∀ b o, X.base.get? b = some o → X.s₀.heap.get? b = some o ∧ X.H₀ b = none
  bsz : X.base.objs.size ≤ X.s₀.heap.objs.size
  noex : ∀ b o, X.base.get? b = some o → b ∉ X.ex
  exfs : ∀ b ∈ X.ex, b ∉ X.fs
  funs : X.s₀.heap.FunFrames X.base X.outer
  frf : ∀ b ∈ X.fs, X.H₀ b = none
structure Inv (X : Cx) (pins : List (Addr × Obj)) (σ : List (Option V)) (H : Hp) (s : Shared) : Prop where
  ok : X.Ok
  os : s.os = X.s₀.os
  bare : AllBare s.gens
  base : Un X.fs X.ex X.H₀ H X.s₀.heap s.heap
  loc : ∃ m, s.heap.Ns X.env.locals m ∧ ∀ (i : Nat) (x : Str) (v : V), X.N[i]? = some x → σ[i]? = some (some v) → Vis X.env.scope x → ∃ u, RelV v u ∧ Look X.env s.heap m x u
  cell : ∀ x c, X.env.cells.lookup x = some c → ∃ v, s.heap.IsCell c v
  free : H X.env.locals = none
  freeC : ∀ x c, X.env.cells.lookup x = some c → H c = none
  pin : ∀ p ∈ X.pn ++ pins, s.heap.get? p.1 = some p.2 ∧ H p.1 = none ∧ p.1 ≠ X.env.locals ∧ p.1 ∉ X.fs ∧ ∀ v, p.2.data ≠ .cell v
  hok : HOk X.prog X.w H s.heap
  len : σ.length = X.N.length
section
variable {X : Cx} {pins : List (Addr × Obj)} {σ : List (Option V)} {H H' : Hp} {s : Shared} {h' : Heap}
theorem Cx.Ok.nofr (ok : X.Ok) {b : Addr} {o : Obj} (e : X.base.get? b = some o) : b ∉ X.fs := fun hb => by
  have := (ok.funs.mem hb).1
  rw [e] at this; cases this
theorem Inv.bs (I : Inv X pins σ H s) : ∀ b o, X.base.get? b = some o → s.heap.get? b = some o ∧ H b = none := fun b o e =>
  ⟨I.base.keep b o (I.ok.bs b o e).1 (I.ok.bs b o e).2 (I.ok.nofr e) (I.ok.noex b o e), I.base.free b o (I.ok.bs b o e).1 (I.ok.bs b o e).2 (I.ok.noex b o e)⟩
theorem Inv.bk (I : Inv X pins σ H s) : ∀ b o, X.base.get? b = some o → s.heap.get? b = some o := fun b o e => (I.bs b o e).1
theorem Inv.mod (I : Inv X pins σ H s) : Mod X.K X.mg X.base := I.ok.mod
theorem Inv.kIn (I : Inv X pins σ H s) : X.K.In s.heap := I.ok.mod.kin.keeps I.bk
theorem Inv.nolimit (I : Inv X pins σ H s) : s.heap.NoLimit := I.ok.mod.nolimit.keeps I.bk
theorem Inv.fr (I : Inv X pins σ H s) : ∃ m, Fr X.base X.env.locals s.heap m :=
  let ⟨m, hn, _⟩ := I.loc
  ⟨m, hn, I.bk, Nat.le_trans I.ok.bsz I.ok.above⟩
theorem Inv.lt (I : Inv X pins σ H s) : X.env.locals < s.heap.objs.size := let ⟨_, hn, _⟩ := I.loc; hn.lt
theorem Inv.sz (I : Inv X pins σ H s) : X.s₀.heap.objs.size ≤ s.heap.objs.size := Nat.le_trans I.ok.above (Nat.le_of_lt I.lt)
theorem Inv.nofs (I : Inv X pins σ H s) {a : Addr} (h : s.heap.objs.size ≤ a) : a ∉ X.fs := fun hb => by
  obtain ⟨_, o, ho, _⟩ := I.ok.funs.mem hb
  exact absurd (Nat.lt_of_lt_of_le (Heap.lt_size ho) (Nat.le_trans I.sz h)) (Nat.lt_irrefl _)
theorem Inv.cne (I : Inv X pins σ H s) : ∀ x c, X.env.cells.lookup x = some c → c ≠ X.env.locals := fun x c e z => by
  obtain ⟨v, o, ho, hd⟩ := I.cell x c e
  obtain ⟨m, ⟨o', es, ep, ho', hd', _⟩, _⟩ := I.loc
  rw [z, ho'] at ho; cases ho; rw [hd'] at hd; cases hd
theorem Inv.funs (I : Inv X pins σ H s) : s.heap.FunFrames X.base X.outer := by
  have all : ∀ (l : List Env), (∀ b ∈ frs l, b ∈ X.fs) → X.s₀.heap.FunFrames X.base l → s.heap.FunFrames X.base l := by
    intro l
    induction l with
    | nil => intro _ _; trivial
    | cons env r ih =>
      intro hs hl
      obtain ⟨hk, ⟨L, o, hf, hn, ho, hd⟩, hr⟩ := hl
      have hL : L ∈ X.fs := hs L (by unfold frs; rw [List.filterMap_cons, hf]; exact List.mem_cons_self)
      obtain ⟨sl, e⟩ := I.base.slot L o ho (I.ok.frf L hL) hL fun z => I.ok.exfs L z hL
      exact ⟨hk, ⟨L, _, hf, hn, e, hd⟩, ih (fun b hb => hs b (by unfold frs; rw [List.filterMap_cons, hf]; exact List.mem_cons_of_mem _ hb)) hr⟩
  exact all X.outer (fun _ hb => hb) I.ok.funs
theorem Inv.stack (I : Inv X pins σ H s) : s.heap.FunFrames X.base X.stack := by
  rcases I.ok.stk with e | ⟨e, hf⟩
  · rw [e]; exact I.funs
  · rw [e]
    obtain ⟨m, hn, _⟩ := I.loc
    refine .cons (by rw [I.ok.kind]; decide) hf hn ?_ I.funs
    exact Heap.get?_none_of_le (Nat.le_trans I.ok.bsz I.ok.above)
theorem Inv.stkSub (I : Inv X pins σ H s) : ∀ b ∈ frs X.stack, b ∈ X.env.locals :: X.fs := fun b hb => by
  rcases I.ok.stk with e | ⟨e, hf⟩
  · rw [e] at hb; exact List.mem_cons_of_mem _ hb
  · rw [e] at hb
    unfold frs at hb
    rw [List.filterMap_cons, hf] at hb
    exact hb
theorem Inv.stkFree (I : Inv X pins σ H s) : ∀ b ∈ frs X.stack, H b = none := fun b hb => by
  rcases List.mem_cons.mp (I.stkSub b hb) with e | hb
  · rw [e]; exact I.free
  · obtain ⟨_, o, ho, _⟩ := I.ok.funs.mem hb
    exact I.base.free b o ho (I.ok.frf b hb) fun z => I.ok.exfs b z hb
theorem Inv.step {g' : Array GenState} {t' : Nat} {d' : Drawn} {ch : List Addr} (I : Inv X pins σ H s)
    (hch : ∀ b ∈ ch, (b ∈ X.ex ∨ X.s₀.heap.objs.size ≤ b) ∧ b ≠ X.env.locals ∧ (∀ x c, X.env.cells.lookup x = some c → c ≠ b) ∧ ∀ p ∈ X.pn ++ pins, p.1 ≠ b)
    (keep : ∀ b o, b ≠ X.env.locals → b ∉ X.fs → b ∉ ch → s.heap.get? b = some o → H b = none → h'.get? b = some o)
    (slot : ∀ b o, b ≠ X.env.locals → b ∈ X.fs → b ∉ ch → s.heap.get? b = some o → H b = none → ∃ sl, h'.get? b = some { o with slots := sl }) (free : ∀ b o, b ∉ ch → s.heap.get? b = some o → H b = none → H' b = none)
    (there : ∀ b o, b ∉ ch → s.heap.get? b = some o → ∃ o', h'.get? b = some o')
    (tups : ∀ b xs, H b = some (.tup xs) → H' b = some (.tup xs)) (frzs : ∀ b o u, H b = some (.frz o u) → H' b = some (.frz o u)) (tbls : ∀ b ps, H b = some (.tbl ps) → ∃ more, H' b = some (.tbl (ps ++ more)))
    (ns : ∀ m, s.heap.Ns X.env.locals m → h'.Ns X.env.locals m) (hok : HOk X.prog X.w H' h') (hg : AllBare g') :
    Inv X pins σ H' { s with heap := h', gens := g', drawn := d', toks := t' } := by
  have neL : ∀ b o, X.s₀.heap.get? b = some o → b ≠ X.env.locals := fun b o e => Nat.ne_of_lt (Nat.lt_of_lt_of_le (Heap.lt_size e) I.ok.above)
  have neC : ∀ b o, X.s₀.heap.get? b = some o → b ∉ X.ex → b ∉ ch := fun b o e hx hb => by
    rcases (hch b hb).1 with z | z
    · exact hx z
    · exact absurd (Nat.lt_of_lt_of_le (Heap.lt_size e) z) (Nat.lt_irrefl _)
  have cellK : ∀ x c, X.env.cells.lookup x = some c → ∀ v, s.heap.IsCell c v → h'.IsCell c v := fun x c e v ⟨o, ho, hd⟩ => by
    have nch : c ∉ ch := fun z => (hch c z).2.2.1 x c e rfl
    by_cases hc : c ∈ X.fs
    · obtain ⟨sl, q⟩ := slot c o (I.cne x c e) hc nch ho (I.freeC x c e)
      exact ⟨_, q, hd⟩
    · exact ⟨o, keep c o (I.cne x c e) hc nch ho (I.freeC x c e), hd⟩
  refine ⟨I.ok, I.os, hg, ⟨fun b o e n hb hx => ?_, fun b o e n hb hx => ?_, fun b o e n hx => ?_, fun b o e hx => ?_, fun b xs e => tups b xs (I.base.tups b xs e), fun b o xs e => frzs b o xs (I.base.frzs b o xs e), fun b ps e => ?_⟩, ?_, fun x c e => ?_, ?_, fun x c e => ?_, fun p hp => ?_, hok, I.len⟩
  · exact keep b o (neL b o e) hb (neC b o e hx) (I.base.keep b o e n hb hx) (I.base.free b o e n hx)
  · obtain ⟨sl, e1⟩ := I.base.slot b o e n hb hx
    obtain ⟨sl', e2⟩ := slot b _ (neL b o e) hb (neC b o e hx) e1 (I.base.free b o e n hx)
    exact ⟨sl', e2⟩
  · obtain ⟨o', e1⟩ := I.base.there b o e hx
    exact free b o' (neC b o e hx) e1 (I.base.free b o e n hx)
  · obtain ⟨o', e1⟩ := I.base.there b o e hx
    exact there b o' (neC b o e hx) e1
  · obtain ⟨m1, e1⟩ := I.base.tbls b ps e
    obtain ⟨m2, e2⟩ := tbls b _ e1
    exact ⟨m1 ++ m2, by rw [e2, Array.append_assoc]⟩
  · obtain ⟨m, hn, hl⟩ := I.loc
    refine ⟨m, ns m hn, fun i x v e1 e2 e3 => ?_⟩
    obtain ⟨u, r, l⟩ := hl i x v e1 e2 e3
    refine ⟨u, r, ?_⟩
    rcases l with l | ⟨k, c, e, z⟩
    · exact .inl l
    · exact .inr ⟨k, c, e, cellK x c e _ z⟩
  · obtain ⟨v, z⟩ := I.cell x c e
    exact ⟨v, cellK x c e v z⟩
  · obtain ⟨m, ⟨o, _, _, ho, _⟩, _⟩ := I.loc
    exact free _ o (fun z => (hch _ z).2.1 rfl) ho I.free
  · obtain ⟨v, o, ho, hd⟩ := I.cell x c e
    exact free c o (fun z => (hch c z).2.2.1 x c e rfl) ho (I.freeC x c e)
  · obtain ⟨e, n, ne, nf, d⟩ := I.pin p hp
    have nch : p.1 ∉ ch := fun z => (hch p.1 z).2.2.2 p hp rfl
    exact ⟨keep p.1 p.2 ne nf nch e n, free p.1 p.2 nch e n, ne, nf, d⟩
theorem Inv.un {t' : Nat} (I : Inv X pins σ H s) (u : Un X.fs [] H H' s.heap h') (hok : HOk X.prog X.w H' h') : Inv X pins σ H' { s with heap := h', toks := t' } := by
  obtain ⟨m, ⟨o, es, ep, ho, r⟩, _⟩ := id I.loc
  obtain ⟨sl, hL⟩ := u.any ho I.free (by simp)
  exact I.step (g' := s.gens) (d' := s.drawn) (ch := []) (fun _ z => nomatch z) (fun b o _ hb _ e n => u.keep b o e n hb (by simp)) (fun b o _ hb _ e n => u.slot b o e n hb (by simp)) (fun b o _ e n => u.free b o e n (by simp)) (fun b o _ e => u.there b o e (by simp)) u.tups u.frzs u.tbls (fun m' hm => by
    obtain ⟨o', es', ep', ho', r'⟩ := hm
    rw [ho] at ho'; cases ho'
    exact ⟨_, es', ep', hL, r'⟩) hok I.bare
theorem Inv.call {g' : Array GenState} {t' : Nat} {d' : Drawn} {ch : List Addr} (I : Inv X pins σ H s) (u : Un (frs X.stack) ch H H' s.heap h') (hok : HOk X.prog X.w H' h') (hg : AllBare g')
    (hch : ∀ b ∈ ch, (b ∈ X.ex ∨ X.s₀.heap.objs.size ≤ b) ∧ b ≠ X.env.locals ∧ (∀ x c, X.env.cells.lookup x = some c → c ≠ b) ∧ ∀ p ∈ X.pn ++ pins, p.1 ≠ b) :
    Inv X pins σ H' { s with heap := h', gens := g', drawn := d', toks := t' } := by
  obtain ⟨m, ⟨o, es, ep, ho, r⟩, _⟩ := id I.loc
  obtain ⟨sl, hL⟩ := u.any ho I.free fun z => (hch _ z).2.1 rfl
  exact I.step (ch := ch) hch (fun b o hL hb hc e n => u.keep b o e n (fun z => (List.mem_cons.mp (I.stkSub b z)).elim hL hb) hc) (fun b o _ _ hc e n => u.any e n hc) (fun b o hc e n => u.free b o e n hc) (fun b o hc e => u.there b o e hc) u.tups u.frzs u.tbls (fun m' hm => by
    obtain ⟨o', es', ep', ho', r'⟩ := hm
    rw [ho] at ho'; cases ho'
    exact ⟨_, es', ep', hL, r'⟩) hok hg
theorem Inv.turned {t' : Nat} {it : Addr} (I : Inv X pins σ H s) (k : ∀ b o, b ≠ it → s.heap.get? b = some o → h'.get? b = some o) (hn : H it = none) (hL : it ≠ X.env.locals)
    (h1 : it ∈ X.ex ∨ X.s₀.heap.objs.size ≤ it) (h2 : ∀ x c, X.env.cells.lookup x = some c → c ≠ it) (h3 : ∀ p ∈ X.pn ++ pins, p.1 ≠ it) : Inv X pins σ H { s with heap := h', toks := t' } := by
  have nit : ∀ b u, H b = some u → b ≠ it := fun b u e z => by rw [z, hn] at e; cases e
  refine I.step (g' := s.gens) (d' := s.drawn) (ch := [it]) (fun b hb => ?_) (fun b o _ _ hc e _ => k b o (fun z => hc (by simp [z])) e) (fun b o _ _ hc e _ => ⟨o.slots, k b o (fun z => hc (by simp [z])) e⟩) (fun _ _ _ _ n => n)
    (fun b o hc e => ⟨o, k b o (fun z => hc (by simp [z])) e⟩) (fun _ _ e => e) (fun _ _ _ e => e) (fun b ps e => ⟨#[], by rw [e]; simp⟩) (fun m hm => ?_) (fun b u e => ?_) I.bare
  · have e : b = it := by simpa using hb
    subst e
    exact ⟨h1, hL, h2, h3⟩
  · obtain ⟨o, es, ep, ho, r⟩ := hm
    exact ⟨o, es, ep, k _ o (Ne.symm hL) ho, r⟩
  · refine (I.hok b u e).stay (fun c v hc q => k c v ?_ q) (fun _ q => q) fun _ _ q => q
    rcases hc with z | z
    · rw [z]; exact nit b u e
    · exact nit c _ z
theorem Inv.tok (I : Inv X pins σ H s) (t : Nat) : Inv X pins σ H { s with toks := t } := I.un (h' := s.heap) (t' := t) Un.refl I.hok
theorem Inv.kept {t' : Nat} (I : Inv X pins σ H s) (k : ∀ b u, s.heap.get? b = some u → h'.get? b = some u) : Inv X pins σ H { s with heap := h', toks := t' } := I.un (Un.kept k) (I.hok.kept k)
theorem Inv.laid {a : Addr} {o : HO} {t' : Nat} (I : Inv X pins σ H s) (k : ∀ b u, s.heap.get? b = some u → h'.get? b = some u) (hp : s.heap.objs.size ≤ a) (new : ObjOk X.prog X.w (upd H a o) h' a o) :
    Inv X pins σ (upd H a o) { s with heap := h', toks := t' } := I.un (Un.laid k hp (I.hok.fresh hp)) (I.hok.laid k hp new)
theorem Inv.write {x e : Addr} {o : HO} {t' : Nat} (I : Inv X pins σ H s) (mu : Mut (H x)) (he : e = x ∨ H e = some (.own x)) (k : ∀ b u, b ≠ e → s.heap.get? b = some u → h'.get? b = some u) (heo : ∃ u, h'.get? e = some u)
    (new : ObjOk X.prog X.w (upd H x o) h' x o) : Inv X pins σ (upd H x o) { s with heap := h', toks := t' } := I.un (Un.write mu he k heo) (I.hok.write mu he k heo new)
theorem Inv.pins_of {pins' : List (Addr × Obj)} (I : Inv X pins σ H s) (h : ∀ p ∈ pins', s.heap.get? p.1 = some p.2 ∧ H p.1 = none ∧ p.1 ≠ X.env.locals ∧ p.1 ∉ X.fs ∧ ∀ v, p.2.data ≠ .cell v) : Inv X pins' σ H s :=
  ⟨I.ok, I.os, I.bare, I.base, I.loc, I.cell, I.free, I.freeC, fun p hp => (List.mem_append.mp hp).elim (fun z => I.pin p (List.mem_append_left _ z)) (h p), I.hok, I.len⟩
theorem nodup_ix {N : List Str} (hN : N.Nodup) {i j : Nat} {x : Str} (a : N[i]? = some x) (b : N[j]? = some x) : i = j := by
  obtain ⟨h1, e1⟩ := List.getElem?_eq_some_iff.mp a
  obtain ⟨h2, e2⟩ := List.getElem?_eq_some_iff.mp b
  exact (List.getElem_inj hN).mp (e1.trans e2.symm)
theorem store_ok2 {M : Model} {A : Around} {E : Value → Shared → Prop} {i : Nat} {x : Str} {v : V} {u : Value} {Q : Unit → Shared → Prop} (I : Inv X pins σ H s) (hN : X.N.Nodup) (hi : X.N[i]? = some x) (hx : Loc X.env.scope x) (r : RelV v u)
    (h : ∀ s', Inv X pins (σ.set i (some v)) H s' → (∃ a, Heap.SameBut a s.heap s'.heap ∧ (a = X.env.locals ∨ X.env.cells.lookup x = some a)) → Q () s') (hf : X.fn x = true ∨ X.env.scope.names.lookup x = some .local := by first | exact .inl rfl | exact .inr rfl | assumption) : wpAny M A (storeName X.env x u) Q E s := by
  obtain ⟨m, hn, hl⟩ := id I.loc
  have hcls : (X.env.scope.kind == .class || (X.env.scope.kind == .module && X.env.locals != X.env.globals)) = false := by rw [I.ok.kind]; rfl
  have hiσ : i < σ.length := by rw [I.len]; exact (List.getElem?_eq_some_iff.mp hi).1
  have cne := I.cne
  have tracked : ∀ {a : Addr} {h' : Heap}, (∃ o, s.heap.get? a = some o ∧ H a = none) → Heap.SameBut a s.heap h' → HOk X.prog X.w H h' := fun {a h'} ha hs b ob e => by
    obtain ⟨_, _, hfree⟩ := ha
    refine (I.hok b ob e).stay (fun c w' hc q => (hs.2 c ?_).trans q) (fun _ q => q) fun _ _ q => q
    rintro rfl
    rcases hc with rfl | hc
    · rw [hfree] at e; cases e
    · rw [hfree] at hc; cases hc
  rcases hx with hk | hk
  · refine wpAny_storeName_local hk hn (fun h' hn' hs => ?_) hcls
    obtain ⟨oL, _, _, hoL, _⟩ := id hn
    refine h _ ⟨I.ok, I.os, I.bare, ⟨fun b o e n hb hx => ?_, fun b o e n hb hx => ?_, I.base.free, fun b o e hx => ?_, I.base.tups, I.base.frzs, I.base.tbls⟩, ⟨_, hn', fun j y v' e1 e2 e3 => ?_⟩, fun y c e => ?_, I.free, I.freeC, fun p hp => ?_, tracked ⟨oL, hoL, I.free⟩ hs, by simpa using I.len⟩ ⟨_, hs, .inl rfl⟩
    · exact (hs.2 b (Nat.ne_of_lt (Nat.lt_of_lt_of_le (Heap.lt_size e) I.ok.above))).trans (I.base.keep b o e n hb hx)
    · obtain ⟨sl, e1⟩ := I.base.slot b o e n hb hx
      exact ⟨sl, (hs.2 b (Nat.ne_of_lt (Nat.lt_of_lt_of_le (Heap.lt_size e) I.ok.above))).trans e1⟩
    · obtain ⟨o', e1⟩ := I.base.there b o e hx
      exact ⟨o', (hs.2 b (Nat.ne_of_lt (Nat.lt_of_lt_of_le (Heap.lt_size e) I.ok.above))).trans e1⟩
    · by_cases hj : j = i
      · subst hj
        rw [hi] at e1; cases e1
        rw [List.getElem?_set_self hiσ] at e2
        cases e2
        exact ⟨u, r, .inl ⟨hk, by simp⟩⟩
      · rw [List.getElem?_set_ne (Ne.symm hj)] at e2
        obtain ⟨u', r', q⟩ := hl j y v' e1 e2 e3
        refine ⟨u', r', ?_⟩
        rcases q with ⟨k, e⟩ | ⟨k, c, e, z⟩
        · refine .inl ⟨k, ?_⟩
          have : y ≠ x := fun e => hj (nodup_ix hN e1 (e ▸ hi))
          simp [this, e]
        · exact .inr ⟨k, c, e, z.sameBut hs (cne y c e)⟩
    · obtain ⟨w', z⟩ := I.cell y c e
      exact ⟨w', z.sameBut hs (cne y c e)⟩
    · obtain ⟨e, n, ne, nf, d⟩ := I.pin p hp
      exact ⟨(hs.2 p.1 ne).trans e, n, ne, nf, d⟩
  · have hfn : X.fn x = true := by
      rcases hf with z | z
      · exact z
      · rw [z] at hk; cases hk
    obtain ⟨c, hc⟩ := I.ok.has x (.inl hk)
    obtain ⟨w', z⟩ := I.cell x c hc
    refine wpAny_storeName_cell I.ok.kind hk hc z (fun h' hc' hs => ?_)
    obtain ⟨oc, hoc, hocd⟩ := id z
    refine h { s with heap := h' } ⟨I.ok, I.os, I.bare, ⟨fun b o e n hb hx => ?_, fun b o e n hb hx => ?_, I.base.free, fun b o e hx => ?_, I.base.tups, I.base.frzs, I.base.tbls⟩, ⟨m, hn.sameBut hs (Ne.symm (cne x c hc)), fun j y v' e1 e2 e3 => ?_⟩, fun y c' e => ?_, I.free, I.freeC, fun p hp => ?_, tracked ⟨oc, hoc, I.freeC x c hc⟩ hs, by simpa using I.len⟩ ⟨c, hs, .inr hc⟩
    · exact (hs.2 b (Nat.ne_of_lt (Nat.lt_of_lt_of_le (Heap.lt_size e) (I.ok.cab x c hfn hc)))).trans (I.base.keep b o e n hb hx)
    · obtain ⟨sl, e1⟩ := I.base.slot b o e n hb hx
      exact ⟨sl, (hs.2 b (Nat.ne_of_lt (Nat.lt_of_lt_of_le (Heap.lt_size e) (I.ok.cab x c hfn hc)))).trans e1⟩
    · obtain ⟨o', e1⟩ := I.base.there b o e hx
      exact ⟨o', (hs.2 b (Nat.ne_of_lt (Nat.lt_of_lt_of_le (Heap.lt_size e) (I.ok.cab x c hfn hc)))).trans e1⟩
    · by_cases hj : j = i
      · subst hj
        rw [hi] at e1; cases e1
        rw [List.getElem?_set_self hiσ] at e2
        cases e2
        exact ⟨u, r, .inr ⟨.inl hk, c, hc, hc'⟩⟩
      · rw [List.getElem?_set_ne (Ne.symm hj)] at e2
        obtain ⟨u', r', q⟩ := hl j y v' e1 e2 e3
        refine ⟨u', r', ?_⟩
        rcases q with q | ⟨k, c', e, z'⟩
        · exact .inl q
        · refine .inr ⟨k, c', e, z'.sameBut hs ?_⟩
          rintro rfl
          exact hj (nodup_ix hN e1 (I.ok.inj _ _ _ e hc ▸ hi))
    · by_cases hcc : c' = c
      · subst hcc; exact ⟨_, hc'⟩
      · obtain ⟨w2, z2⟩ := I.cell y c' e
        exact ⟨w2, z2.sameBut hs hcc⟩
    · obtain ⟨e, n, ne, nf, d⟩ := I.pin p hp
      refine ⟨(hs.2 p.1 ?_).trans e, n, ne, nf, d⟩
      intro q
      rw [q, hoc] at e
      have q' : oc = p.2 := Option.some.inj e
      exact d w' (by rw [← q']; exact hocd)
theorem store_ok {M : Model} {A : Around} {E : Value → Shared → Prop} {i : Nat} {x : Str} {v : V} {u : Value} {Q : Unit → Shared → Prop} (I : Inv X pins σ H s) (hN : X.N.Nodup) (hi : X.N[i]? = some x) (hx : Loc X.env.scope x) (r : RelV v u)
    (h : ∀ s', Inv X pins (σ.set i (some v)) H s' → Q () s') (hf : X.fn x = true ∨ X.env.scope.names.lookup x = some .local := by first | exact .inl rfl | exact .inr rfl | assumption) : wpAny M A (storeName X.env x u) Q E s :=
  store_ok2 I hN hi hx r (fun s' I' _ => h s' I') hf
theorem Inv.call' {s' : Shared} {ch : List Addr} (I : Inv X pins σ H s) (ho : s'.os = s.os) (u : Un (frs X.stack) ch H H' s.heap s'.heap) (hok : HOk X.prog X.w H' s'.heap) (hg : AllBare s'.gens)
    (hch : ∀ b ∈ ch, (b ∈ X.ex ∨ X.s₀.heap.objs.size ≤ b) ∧ b ≠ X.env.locals ∧ (∀ x c, X.env.cells.lookup x = some c → c ≠ b) ∧ ∀ p ∈ X.pn ++ pins, p.1 ≠ b) : Inv X pins σ H' s' := by
  obtain ⟨h', g', d', t', o'⟩ := s'
  have e : o' = s.os := ho
  subst e
  exact I.call (g' := g') (t' := t') (d' := d') u hok hg hch
end
noncomputable abbrev XK := Value → Option Addr → Hp → Prop
noncomputable abbrev St := List (Option V)
noncomputable abbrev VK := V → Hp → Prop
noncomputable abbrev TE := St → Hp → VK → Prop
noncomputable abbrev TT := St → Hp → (Bool → Hp → Prop) → Prop
noncomputable abbrev TA := St → Hp → (List V → Hp → Prop) → Prop
structure Ends where
  nx : St → Hp → Prop
  rt : VK
  bk : St → Hp → Prop := fun _ _ => False
  ct : St → Hp → Prop := fun _ _ => False
noncomputable abbrev TS := Ends → St → Hp → Prop
noncomputable def EP (X : Cx) (pins : List (Addr × Obj)) (σ : St) (Q : VK) (u : Value) (s' : Shared) : Prop := ∃ v H', Inv X pins σ H' s' ∧ RelV v u ∧ Q v H'
noncomputable def TP (X : Cx) (pins : List (Addr × Obj)) (σ : St) (Q : Bool → Hp → Prop) (b : Bool) (s' : Shared) : Prop := ∃ H', Inv X pins σ H' s' ∧ Q b H'
noncomputable def AP (X : Cx) (pins : List (Addr × Obj)) (σ : St) (Q : List V → Hp → Prop) (us : List Value) (s' : Shared) : Prop := ∃ vs H', Inv X pins σ H' s' ∧ Vals vs us ∧ Q vs H'
noncomputable def SP (X : Cx) (pins : List (Addr × Obj)) (D : Ends) (f : Flow) (s' : Shared) : Prop :=
  match f with
  | .next => ∃ σ' H', Inv X pins σ' H' s' ∧ D.nx σ' H'
  | .brk => ∃ σ' H', Inv X pins σ' H' s' ∧ D.bk σ' H'
  | .cont => ∃ σ' H', Inv X pins σ' H' s' ∧ D.ct σ' H'
  | .ret u => ∃ v σ' H', Inv X pins σ' H' s' ∧ RelV v u ∧ D.rt v H'
noncomputable def PE (X : Cx) (e : Expr) (t : TE) : Prop :=
  ∀ (pins : List (Addr × Obj)) (s : Shared) (σ : St) (H : Hp) (Q : VK), Inv X pins σ H s → t σ H Q → wpAny (model X.prog X.w) X.A (eval e X.env) (EP X pins σ Q) X.xe s
noncomputable def PT (X : Cx) (e : Expr) (t : TT) : Prop :=
  ∀ (pins : List (Addr × Obj)) (s : Shared) (σ : St) (H : Hp) (Q : Bool → Hp → Prop), Inv X pins σ H s → t σ H Q → wpAny (model X.prog X.w) X.A (isTrue e X.env (eval e X.env)) (TP X pins σ Q) X.xe s
noncomputable def PW (X : Cx) (e : Expr) (t : TT) : Prop :=
  ∀ (whole : Sem Value) (pins : List (Addr × Obj)) (s : Shared) (σ : St) (H : Hp) (Q : Bool → Hp → Prop), Inv X pins σ H s → t σ H Q → wpAny (model X.prog X.w) X.A (isTrue e X.env whole) (TP X pins σ Q) X.xe s
theorem PW.pt {X : Cx} {e : Expr} {t : TT} (h : PW X e t) : PT X e t := h _
noncomputable def PA (X : Cx) (es : List Expr) (t : TA) : Prop :=
  ∀ (pos : Pos) (pins : List (Addr × Obj)) (s : Shared) (σ : St) (H : Hp) (Q : List V → Hp → Prop), Inv X pins σ H s → t σ H Q → wpAny (model X.prog X.w) X.A (spliced (backTo pos (starEach es X.env))) (AP X pins σ Q) X.xe s
noncomputable def PS (X : Cx) (st : Stmt) (t : TS) : Prop :=
  ∀ (pins : List (Addr × Obj)) (s : Shared) (σ : St) (H : Hp) (D : Ends), Inv X pins σ H s → t D σ H → wpAny (model X.prog X.w) X.A (exec st X.env) (SP X pins D) X.xe s
noncomputable def PSs (X : Cx) (st : List Stmt) (t : TS) : Prop :=
  ∀ (pins : List (Addr × Obj)) (s : Shared) (σ : St) (H : Hp) (D : Ends), Inv X pins σ H s → t D σ H → wpAny (model X.prog X.w) X.A (execs st X.env) (SP X pins D) X.xe s
theorem thn {α : Type} {t : Sem α} {Q Q' : α → Shared → Prop} {M : Model} {A : Around} {E : Value → Shared → Prop} {s : Shared} (h : wpAny M A t Q E s) (hQ : ∀ a s, Q a s → Q' a s) : wpAny M A t Q' E s := wpAny_mono h hQ fun _ _ x => x
end L2
namespace L2
open PySem PySem.Spec PyProof.Rows
section
variable {X : Cx}
noncomputable def tVar (i : Nat) : TE := fun σ H Q => ∃ v, σ[i]? = some (some v) ∧ Q v H
noncomputable def tC (v : V) : TE := fun _ H Q => Q v H
theorem pe_var {i : Nat} {x : Str} {pos : Pos} (hN : X.N[i]? = some x) (hv : Vis X.env.scope x) (hd : (x == ("__debug__" : Str)) = false := by decide) (hcd : (x == ("__classdict__" : Str)) = false := by decide) : PE X (.Name x pos) (tVar i) := by
  intro pins s σ H Q I h
  obtain ⟨v, e, h⟩ := h
  obtain ⟨m, hn, hl⟩ := I.loc
  obtain ⟨u, r, l⟩ := hl i x v hN e hv
  have fin : EP X pins σ Q u s := ⟨v, H, I, r, h⟩
  rcases l with ⟨hk, hm⟩ | ⟨hk, c, hc, hcell⟩
  · exact wpAny_Name (wpAny_loadName_local I.ok.kind hk hn hm fin) hd
  · rcases hk with hk | hk
    · exact wpAny_Name (wpAny_loadName_cell I.ok.kind hk hc hcell fin) hd
    · exact wpAny_Name (wpAny_loadName_free I.ok.kind hk hc hcell fin hcd) hd
theorem pe_int {i j pos} : PE X (.Constant (.int i) j pos) (tC (.int i)) := fun _ _ _ H _ I h => wpAny_Constant_int ⟨.int i, H, I.tok _, ⟨_, rfl⟩, h⟩
theorem pe_bl {b j pos} : PE X (.Constant (.bool b) j pos) (tC (.bl b)) := fun _ _ _ H _ I h => Constant_bool ⟨.bl b, H, I, rfl, h⟩
theorem pe_str {x j pos} : PE X (.Constant (.str x) j pos) (tC (.str x)) := fun _ _ _ H _ I h => Calls.Constant_str ⟨.str x, H, I.tok _, ⟨_, rfl⟩, h⟩
noncomputable def Gl (X : Cx) (x : Str) : Prop := X.env.kindOf x = some .globalImplicit
theorem ld_glob {E : Value → Shared → Prop} {pins : List (Addr × Obj)} {s : Shared} {σ : St} {H : Hp} {x : Str} {u : Value} {pos : Pos} {Q : Value → Shared → Prop} (I : Inv X pins σ H s) (hg : Gl X x) (hm : X.mg x = some u) (h : Q u s)
    (hd : (x == ("__debug__" : Str)) = false := by decide) : wpAny (model X.prog X.w) X.A (eval (.Name x pos) X.env) Q E s :=
  Calls.Name_function_global I.ok.kind hg (Calls.loadGlobal_global (by rw [I.ok.glob]; exact I.mod.glob.keeps I.bk) hm h) hd
theorem ld_blt {E : Value → Shared → Prop} {pins : List (Addr × Obj)} {s : Shared} {σ : St} {H : Hp} {x : Str} {u : Value} {pos : Pos} {Q : Value → Shared → Prop} (I : Inv X pins σ H s) (hg : Gl X x) (hm : X.mg x = none) (hv : bootBuiltins x = some u) (h : Q u s)
    (hn : x ≠ "__name__" := by decide) (hd : (x == ("__debug__" : Str)) = false := by decide) : wpAny (model X.prog X.w) X.A (eval (.Name x pos) X.env) Q E s := by
  obtain ⟨mb, h1, h2⟩ := I.mod.blt
  exact Calls.Name_function_global I.ok.kind hg (Calls.loadGlobal_builtin (by rw [I.ok.glob]; exact I.mod.glob.keeps I.bk) hm (by rw [I.ok.blt]; exact h1.keeps I.bk) ((h2 x hn).trans hv) h) hd
theorem pe_glob {x : Str} {v : V} {u : Value} {pos : Pos} (hg : Gl X x) (hm : X.mg x = some u) (r : RelV v u) (hd : (x == ("__debug__" : Str)) = false := by decide) : PE X (.Name x pos) (tC v) :=
  fun _ _ _ H _ I h => ld_glob I hg hm ⟨v, H, I, r, h⟩ hd
theorem pe_bltn {x : Str} {v : V} {u : Value} {pos : Pos} (hg : Gl X x) (hm : X.mg x = none) (hv : bootBuiltins x = some u) (r : RelV v u) (hn : x ≠ "__name__" := by decide) (hd : (x == ("__debug__" : Str)) = false := by decide) : PE X (.Name x pos) (tC v) :=
  fun _ _ _ H _ I h => ld_blt I hg hm hv ⟨v, H, I, r, h⟩ hn hd
variable {a b : Expr} {ta tb : TE} {pos : Pos}
variable {tA tB' : TT} {rest : List Expr}
noncomputable def tAnd (t u : TT) : TT := fun σ H Q => t σ H fun c H1 => if c = true then u σ H1 Q else Q false H1
noncomputable def tOr (t u : TT) : TT := fun σ H Q => t σ H fun c H1 => if c = true then Q true H1 else u σ H1 Q
noncomputable def tNot (t : TT) : TT := fun σ H Q => t σ H fun c H1 => Q (!c) H1
theorem pw_or1 (ha : PT X a tA) : PW X (.BoolOp .Or [a] pos) tA := by
  intro wh pins s σ H Q I h
  refine isTrue_or (thn (ha pins s σ H Q I h) fun c s1 e => ?_)
  cases c with
  | false => exact isTrue_or_nil e
  | true => exact e
theorem pw_or (ha : PT X a tA) (hb : PW X (.BoolOp .Or (b :: rest) pos) tB') : PW X (.BoolOp .Or (a :: b :: rest) pos) (tOr tA tB') := by
  intro wh pins s σ H Q I h
  refine isTrue_or (thn (ha pins s σ H _ I h) fun c s1 ⟨H1, I1, q1⟩ => ?_)
  cases c with
  | true => exact ⟨H1, I1, q1⟩
  | false => exact hb wh pins s1 σ H1 Q I1 q1
theorem pt_not (ha : PT X a tA) : PT X (.UnaryOp .Not a pos) (tNot tA) := by
  intro pins s σ H Q I h
  exact isTrue_not (ha pins s σ H (fun c H1 => Q (!c) H1) I h)
noncomputable def tAndV (ta tb : TE) : TE := fun σ H Q => ta σ H fun x H1 => ∃ c, x = .bl c ∧ if c = true then tb σ H1 Q else Q (.bl false) H1
theorem pe_one {op} {t : TE} (h : PE X a t) : PE X (.BoolOp op [a] pos) t := fun pins s σ H Q I hw => BoolOp_one (h pins s σ H Q I hw)
theorem pe_and (ha : PE X a ta) (hb : PE X (.BoolOp .And (b :: rest) pos) tb) : PE X (.BoolOp .And (a :: b :: rest) pos) (tAndV ta tb) := by
  intro pins s σ H Q I h
  refine BoolOp_and (thn (ha pins s σ H _ I h) fun v s1 ⟨x, H1, I1, r1, q1⟩ => ?_)
  obtain ⟨c, rfl, q1⟩ := q1
  cases r1
  refine wpAny_truthy_bool ?_
  cases c with
  | true => exact hb pins s1 σ H1 Q I1 q1
  | false => exact ⟨.bl false, H1, I1, rfl, q1⟩
noncomputable def tIf (t : TT) (ta tb : TE) : TE := fun σ H Q => t σ H fun c H1 => if c = true then ta σ H1 Q else tb σ H1 Q
theorem pe_ifExp {c : Expr} (hc : PT X c tA) (ha : PE X a ta) (hb : PE X b tb) : PE X (.IfExp c a b pos) (tIf tA ta tb) := by
  intro pins s σ H Q I h
  refine wpAny_IfExp (thn (hc pins s σ H _ I h) fun d s1 ⟨H1, I1, q1⟩ => ?_)
  cases d with
  | true => exact ha pins s1 σ H1 Q I1 q1
  | false => exact hb pins s1 σ H1 Q I1 q1
end
end L2
namespace L2
open PySem PySem.Spec PyProof.Rows
noncomputable def SqL (K : PySem.W.Frag) (H : Hp) (a : Addr) (xs : List V) : Prop :=
  Rd H a (.lst xs) ∨
    ∃ (o : Obj) (its : Array Value) (n : Nat), K.lookup a = some o ∧ o.cls = .type "list" ∧ o.dict = none ∧ o.data = .seq its n ∧ its.size ≤ sizeLine ∧ Vals xs its.toList
noncomputable def SqT (K : PySem.W.Frag) (H : Hp) (a : Addr) (xs : List V) : Prop :=
  Rd H a (.tup xs) ∨
    ∃ (o : Obj) (its : Array Value) (n : Nat), K.lookup a = some o ∧ o.cls = .type "tuple" ∧ o.data = .seq its n ∧ its.size ≤ sizeLine ∧ Vals xs its.toList
noncomputable def absV : Value → Option V
  | .none => some .non
  | .bool b => some (.bl b)
  | .int i _ => some (.int i)
  | .str x _ => some (.str x)
  | .bytes b _ => some (.byt b)
  | .float b _ => some (.flt b)
  | .ref a => some (.ref a)
  | .type n => some (.ty n)
  | _ => none
theorem RelV.abs {x : V} {u : Value} (r : RelV x u) : absV u = some x := by
  cases x with
  | non => cases r; rfl
  | bl _ => cases r; rfl
  | int _ => obtain ⟨t, rfl⟩ := r; rfl
  | str _ => obtain ⟨t, rfl⟩ := r; rfl
  | byt _ => obtain ⟨t, rfl⟩ := r; rfl
  | flt _ => obtain ⟨t, rfl⟩ := r; rfl
  | ref _ => cases r; rfl
  | ty _ => cases r; rfl
theorem RelV.inj {x y : V} {u : Value} (r : RelV x u) (q : RelV y u) : x = y := Option.some.inj (r.abs.symm.trans q.abs)
theorem Vals.inj : ∀ {xs ys : List V} {us : List Value}, Vals xs us → Vals ys us → xs = ys
  | _, _, _, .nil, .nil => rfl
  | _, _, _, .cons r t, .cons r' t' => by rw [r.inj r', Vals.inj t t']
section
variable {X : Cx} {pins : List (Addr × Obj)} {σ : St} {H : Hp} {s : Shared} {a : Addr} {xs ys : List V}
theorem SqL.of {K : PySem.W.Frag} (h : H a = some (.lst xs)) : SqL K H a xs := .inl (.inl h)
theorem SqT.of {K : PySem.W.Frag} (h : H a = some (.tup xs)) : SqT K H a xs := .inl (.inl h)
theorem Inv.list (I : Inv X pins σ H s) (h : SqL X.K H a xs) : ∃ its : List Value, Vals xs its ∧ PlainL s.heap a its.toArray ∧ xs.length ≤ sizeLine := by
  rcases h with h | ⟨o, its, n, hk, hc, hd, hs, hz, r⟩
  · obtain ⟨z, its, n, r, e⟩ := h.ok I.hok
    exact ⟨its, r, ⟨_, n, e, rfl, rfl, rfl⟩, z⟩
  · refine ⟨its.toList, r, ⟨o, n, I.kIn a o hk, hc, hd, by simpa using hs⟩, ?_⟩
    have e := r.length
    simp only [Array.length_toList] at e
    omega
theorem Inv.tuple (I : Inv X pins σ H s) (h : SqT X.K H a xs) : ∃ its : List Value, Vals xs its ∧ IsTup s.heap a its.toArray ∧ xs.length ≤ sizeLine := by
  rcases h with h | ⟨o, its, n, hk, hc, hs, hz, r⟩
  · obtain ⟨z, its, r, p⟩ := h.ok I.hok
    exact ⟨its, r, p, z⟩
  · refine ⟨its.toList, r, ⟨o, I.kIn a o hk, hc, n, by simpa using hs⟩, ?_⟩
    have e := r.length
    simp only [Array.length_toList] at e
    omega
theorem Inv.list_inj (I : Inv X pins σ H s) (h : SqL X.K H a xs) (h' : SqL X.K H a ys) : xs = ys := by
  obtain ⟨its, r, ⟨o, n, e, _, _, d⟩, _⟩ := I.list h
  obtain ⟨its', r', ⟨o', n', e', _, _, d'⟩, _⟩ := I.list h'
  rw [e] at e'; cases e'
  rw [d] at d'
  injection d' with d1 _
  have : its = its' := by simpa using congrArg Array.toList d1
  subst this
  exact r.inj r'
theorem Inv.tuple_inj (I : Inv X pins σ H s) (h : SqT X.K H a xs) (h' : SqT X.K H a ys) : xs = ys := by
  obtain ⟨its, r, ⟨o, e, _, n, d⟩, _⟩ := I.tuple h
  obtain ⟨its', r', ⟨o', e', _, n', d'⟩, _⟩ := I.tuple h'
  rw [e] at e'; cases e'
  rw [d] at d'
  injection d' with d1 _
  have : its = its' := by simpa using congrArg Array.toList d1
  subst this
  exact r.inj r'
end
noncomputable abbrev Cx.wish (X : Cx) (E : Value → Shared → Prop) : Cx := { X with xe := E }
noncomputable abbrev Cx.nox (X : Cx) : Cx := X.wish fun _ _ => False
theorem Cx.Ok.wish {X : Cx} (ok : X.Ok) (E : Value → Shared → Prop) : (X.wish E).Ok :=
  ⟨ok.mod, ok.kind, ok.glob, ok.blt, ok.above, ok.inj, ok.has, ok.cab, ok.hd, ok.frames, ok.stk, ok.exf, ok.bs, ok.bsz, ok.noex, ok.exfs, ok.funs, ok.frf⟩
theorem Cx.Ok.unwish {X : Cx} {E : Value → Shared → Prop} (ok : (X.wish E).Ok) : X.Ok :=
  ⟨ok.mod, ok.kind, ok.glob, ok.blt, ok.above, ok.inj, ok.has, ok.cab, ok.hd, ok.frames, ok.stk, ok.exf, ok.bs, ok.bsz, ok.noex, ok.exfs, ok.funs, ok.frf⟩
section
variable {X : Cx} {pins : List (Addr × Obj)} {σ : St} {H : Hp} {s : Shared} {E : Value → Shared → Prop}
theorem Inv.wish (I : Inv X pins σ H s) (E : Value → Shared → Prop) : Inv (X.wish E) pins σ H s := ⟨I.ok.wish E, I.os, I.bare, I.base, I.loc, I.cell, I.free, I.freeC, I.pin, I.hok, I.len⟩
theorem Inv.unwish (I : Inv (X.wish E) pins σ H s) : Inv X pins σ H s := ⟨I.ok.unwish, I.os, I.bare, I.base, I.loc, I.cell, I.free, I.freeC, I.pin, I.hok, I.len⟩
theorem SP.unwish {D : Ends} {f : Flow} {s' : Shared} (h : SP (X.wish E) pins D f s') : SP X pins D f s' := by
  cases f with
  | next => obtain ⟨σ', H', I, q⟩ := h; exact ⟨σ', H', I.unwish, q⟩
  | brk => obtain ⟨σ', H', I, q⟩ := h; exact ⟨σ', H', I.unwish, q⟩
  | cont => obtain ⟨σ', H', I, q⟩ := h; exact ⟨σ', H', I.unwish, q⟩
  | ret u => obtain ⟨v, σ', H', I, r, q⟩ := h; exact ⟨v, σ', H', I.unwish, r, q⟩
theorem PE.nox {e : Expr} {t : TE} (h : PE X.nox e t) : PE X e t := fun pins s σ H Q I hw =>
  wpAny_mono (h pins s σ H Q (I.wish _) hw) (fun _ _ ⟨v, H', I', r, q⟩ => ⟨v, H', I'.unwish, r, q⟩) fun _ _ z => False.elim z
theorem PT.nox {e : Expr} {t : TT} (h : PT X.nox e t) : PT X e t := fun pins s σ H Q I hw =>
  wpAny_mono (h pins s σ H Q (I.wish _) hw) (fun _ _ ⟨H', I', q⟩ => ⟨H', I'.unwish, q⟩) fun _ _ z => False.elim z
theorem PSs.nox {st : List Stmt} {t : TS} (h : PSs X.nox st t) : PSs X st t := fun pins s σ H D I hw =>
  wpAny_mono (h pins s σ H D (I.wish _) hw) (fun _ _ q => q.unwish) fun _ _ z => False.elim z
end
section
variable {X : Cx} {st : Stmt} {rest : List Stmt} {t u : TS} {e : Expr} {te : TE} {pos : Pos}
noncomputable def tNext : TS := fun D σ H => D.nx σ H
noncomputable def tSeq (t u : TS) : TS := fun D σ H => t { D with nx := u D } σ H
theorem pss_nil : PSs X [] tNext := fun _ _ σ H _ I h => wpAny_execs_nil ⟨σ, H, I, h⟩
theorem pss_cons (h1 : PS X st t) (h2 : PSs X rest u) : PSs X (st :: rest) (tSeq t u) := by
  intro pins s σ H D I h
  refine wpAny_execs_cons (thn (h1 pins s σ H { D with nx := u D } I h) fun f s1 q => ?_)
  cases f with
  | next =>
    obtain ⟨σ', H', I', q⟩ := q
    exact h2 pins s1 σ' H' D I' q
  | ret v => exact q
  | brk => exact q
  | cont => exact q
theorem pss_one (h1 : PS X st t) : PSs X [st] t := by
  intro pins s σ H D I h
  refine wpAny_execs_cons (thn (h1 pins s σ H D I h) fun f s1 q => ?_)
  cases f with
  | next => exact wpAny_execs_nil q
  | ret v => exact q
  | brk => exact q
  | cont => exact q
theorem Inv.quiet {pins : List (Addr × Obj)} {σ : St} {H : Hp} {s : Shared} (I : Inv X pins σ H s) : interactive X.env = false := by simp [interactive, I.ok.kind]
noncomputable def tDrop (te : TE) : TS := fun D σ H => te σ H fun _ H1 => D.nx σ H1
theorem ps_expr (he : PE X e te) (hs : swapsWith e none pos.line X.env = pure false := by rfl) : PS X (.Expr e pos) (tDrop te) := by
  intro pins s σ H D I h
  exact wpAny_Expr_any (thn (he pins s σ H _ I h) fun v s1 ⟨x, H1, I1, r1, q1⟩ => ⟨σ, H1, I1, q1⟩) I.quiet hs
noncomputable def tRet (te : TE) : TS := fun D σ H => te σ H D.rt
theorem ps_ret (he : PE X e te) : PS X (.Return (some e) pos) (tRet te) := by
  intro pins s σ H D I h
  exact wpAny_Return_some (thn (he pins s σ H _ I h) fun v s1 ⟨x, H1, I1, r1, q1⟩ => ⟨x, σ, H1, I1, r1, q1⟩)
noncomputable def tIfS (c : TT) (t u : TS) : TS := fun D σ H => c σ H fun b H1 => if b = true then t D σ H1 else u D σ H1
theorem ps_if {c : Expr} {a b : List Stmt} {tc : TT} (hc : PT X c tc) (ha : PSs X a t) (hb : PSs X b u) : PS X (.If c a b pos) (tIfS tc t u) := by
  intro pins s σ H D I h
  refine wpAny_If (thn (hc pins s σ H _ I h) fun d s1 ⟨H1, I1, q1⟩ => ?_)
  cases d with
  | true => exact ha pins s1 σ H1 D I1 q1
  | false => exact hb pins s1 σ H1 D I1 q1
end
noncomputable abbrev TG := V → St → Hp → (St → Hp → Prop) → Prop
noncomputable abbrev TGs := List V → St → Hp → (St → Hp → Prop) → Prop
noncomputable def PG (X : Cx) (target : Expr) (t : TG) : Prop :=
  ∀ (pins : List (Addr × Obj)) (s : Shared) (σ : St) (H : Hp) (v : V) (u : Value) (Q : St → Hp → Prop), Inv X pins σ H s → RelV v u → t v σ H Q →
    wpAny (model X.prog X.w) X.A (assign target X.env u) (fun _ s' => ∃ σ' H', Inv X pins σ' H' s' ∧ Q σ' H') X.xe s
noncomputable def PGs (X : Cx) (ts : List Expr) (t : TGs) : Prop :=
  ∀ (pins : List (Addr × Obj)) (s : Shared) (σ : St) (H : Hp) (vs : List V) (us : List Value) (Q : St → Hp → Prop), Inv X pins σ H s → Vals vs us → t vs σ H Q →
    wpAny (model X.prog X.w) X.A (assignInOrder ((assignEach ts X.env).map (·.2)) us) (fun _ s' => ∃ σ' H', Inv X pins σ' H' s' ∧ Q σ' H') X.xe s
noncomputable abbrev TIp := V → V → Hp → VK → Prop
noncomputable def PIp (X : Cx) (op : Operator) (t : TIp) : Prop :=
  ∀ (pins : List (Addr × Obj)) (s : Shared) (σ : St) (H : Hp) (x y : V) (v u : Value) (Q : VK), Inv X pins σ H s → RelV x v → RelV y u → t x y H Q →
    wpAny (model X.prog X.w) X.A (inplaceOp op v u) (EP X pins σ Q) X.xe s
section
variable {X : Cx} {pos : Pos}
noncomputable def gName (i : Nat) : TG := fun v σ H Q => Q (σ.set i (some v)) H
theorem pg_name {i : Nat} {x : Str} (hN : X.N.Nodup) (hi : X.N[i]? = some x) (hx : Loc X.env.scope x) (hf : X.fn x = true ∨ X.env.scope.names.lookup x = some .local := by first | exact .inl rfl | exact .inr rfl | assumption) : PG X (.Name x pos) (gName i) := by
  intro pins s σ H v u Q I r h
  exact wpAny_assign_Name (store_ok I hN hi hx r (fun s' I' => ⟨_, H, I', h⟩) hf)
noncomputable def gNil : TGs := fun vs σ H Q => vs = [] ∧ Q σ H
noncomputable def gCons (t : TG) (u : TGs) : TGs := fun vs σ H Q => ∃ v r, vs = v :: r ∧ t v σ H fun σ' H' => u r σ' H' Q
theorem pgs_nil : PGs X [] gNil := by
  intro pins s σ H vs us Q I r h
  obtain ⟨e, h⟩ := h
  subst e
  cases r
  exact assignInOrder_nil ⟨σ, H, I, h⟩
theorem pgs_cons {e : Expr} {es : List Expr} {t : TG} {u : TGs} (h1 : PG X e t) (h2 : PGs X es u)
    (hs : (assignEach (e :: es) X.env).map (·.2) = assign e X.env :: (assignEach es X.env).map (·.2) := by rfl) : PGs X (e :: es) (gCons t u) := by
  intro pins s σ H vs us Q I r h
  obtain ⟨v, vr, e1, h⟩ := h
  subst e1
  cases r with
  | cons r rr =>
    rw [hs]
    refine assignInOrder_cons (thn (h1 pins s σ H _ _ _ I r h) fun _ s1 ⟨σ1, H1, I1, q1⟩ => ?_)
    exact h2 pins s1 σ1 H1 _ _ Q I1 rr q1
noncomputable def gTup (K : PySem.W.Frag) (n : Nat) (t : TGs) : TG := fun v σ H Q => ∃ a xs, v = .ref a ∧ SqT K H a xs ∧ xs.length = n ∧ t xs σ H Q
theorem pg_tup {es : List Expr} {k : Nat} {t : TGs} {n : Nat} (hc : X.calm = true) (h : PGs X es t)
    (hn : (assignEach es X.env).length = n := by rfl) (hst : (assignEach es X.env).findIdx? (·.1) = none := by rfl) : PG X (.Tuple es k pos) (gTup X.K n t) := by
  intro pins s σ H v u Q I r hw
  obtain ⟨a, xs, e1, hq, hl, hw⟩ := hw
  subst e1
  cases r
  obtain ⟨its, rv, ht, hz⟩ := I.tuple hq
  refine assign_Tuple_tuple (I.ok.hd hc) ht (by simp [hn, ← hl, rv.length]) hst fun h' hx => ?_
  have I1 : Inv X pins σ H { s with heap := h' } := I.kept (t' := s.toks) fun b o e => hx b o (Nat.ne_of_lt (Heap.lt_size e)) e
  exact h pins _ σ H xs _ Q I1 (by simpa using rv) hw
noncomputable def tAsg (te : TE) (g : TG) : TS := fun D σ H => te σ H fun x H1 => g x σ H1 D.nx
theorem ps_asg {tg e : Expr} {te : TE} {g : TG} (he : PE X e te) (hg : PG X tg g) (hs : swapsWithSole [tg] e pos.line X.env = pure false := by rfl) (hw : swappedStores [tg] e X.env = pure none := by rfl)
    (h1 : (assignEach [tg] X.env).map (·.2) = [assign tg X.env] := by rfl) : PS X (.Assign [tg] e pos) (tAsg te g) := by
  intro pins s σ H D I h
  refine wpAny_Assign_stores (thn (he pins s σ H _ I h) fun v s1 ⟨x, H1, I1, r1, q1⟩ => ?_) hs hw
  rw [h1]
  exact thn (hg pins s1 σ H1 x v _ I1 r1 q1) fun _ s2 q => q
theorem ps_set {i : Nat} {x : Str} {e : Expr} {te : TE} {pos' : Pos} (hN : X.N.Nodup) (hi : X.N[i]? = some x) (hx : Loc X.env.scope x) (he : PE X e te) (hs : swapsWith e (some (.Name x pos')) pos.line X.env = pure false := by rfl) (hf : X.fn x = true ∨ X.env.scope.names.lookup x = some .local := by first | exact .inl rfl | exact .inr rfl | assumption) :
    PS X (.Assign [.Name x pos'] e pos) (tAsg te (gName i)) := by
  intro pins s σ H D I h
  refine wpAny_Assign_Name (thn (he pins s σ H _ I h) fun v s1 ⟨y, H1, I1, r1, q1⟩ => ?_) hs
  exact store_ok I1 hN hi hx r1 (fun s2 I2 => ⟨_, H1, I2, q1⟩) hf
noncomputable def tPar (i j : Nat) (ta : TA) : TS := fun D σ H => ta σ H fun vs H1 => ∃ v w, vs = [v, w] ∧ D.nx ((σ.set i (some v)).set j (some w)) H1
noncomputable def tAug (i : Nat) (te : TE) (ti : TIp) : TS := fun D σ H => ∃ x, σ[i]? = some (some x) ∧ te σ H fun y H1 => ti x y H1 fun z H2 => D.nx (σ.set i (some z)) H2
theorem ps_aug {i : Nat} {x : Str} {e : Expr} {te : TE} {op : Operator} {ti : TIp} {pos' : Pos} (hN : X.N.Nodup) (hi : X.N[i]? = some x) (hx : Loc X.env.scope x) (he : PE X e te) (ho : PIp X op ti) (hf : X.fn x = true ∨ X.env.scope.names.lookup x = some .local := by first | exact .inl rfl | exact .inr rfl | assumption) :
    PS X (.AugAssign (.Name x pos') op e pos) (tAug i te ti) := by
  intro pins s σ H D I h
  obtain ⟨v, e1, h⟩ := h
  obtain ⟨m, hn, hl⟩ := I.loc
  have vis : Vis X.env.scope x := by rcases hx with k | k; exact .inl k; exact .inr (.inl k)
  obtain ⟨u, r, l⟩ := hl i x v hi e1 vis
  refine wpAny_AugAssign_Name ?_
  have go : wpAny (model X.prog X.w) X.A (eval e X.env) (fun w s₂ => wpAny (model X.prog X.w) X.A (inplaceOp op u w) (fun r s₃ => wpAny (model X.prog X.w) X.A (storeName X.env x r) (fun _ => SP X pins D .next) X.xe s₃) X.xe s₂) X.xe s := by
    refine thn (he pins s σ H _ I h) fun w s1 ⟨y, H1, I1, r1, q1⟩ => ?_
    refine thn (ho pins s1 σ H1 v y u w _ I1 r r1 q1) fun z s2 ⟨zv, H2, I2, r2, q2⟩ => ?_
    exact store_ok I2 hN hi hx r2 (fun s3 I3 => ⟨_, H2, I3, q2⟩) hf
  rcases l with ⟨hk, hm⟩ | ⟨hk, c, hc, hcell⟩
  · exact wpAny_loadName_local I.ok.kind hk hn hm go
  · rcases hk with hk | hk
    · exact wpAny_loadName_cell I.ok.kind hk hc hcell go
    · rcases hx with k | k
      · have : X.env.scope.names.lookup x = some .free := hk
        rw [k] at this; cases this
      · have : X.env.scope.names.lookup x = some .free := hk
        rw [k] at this; cases this
end
section
variable {X : Cx} {pos : Pos}
noncomputable def tWhile (c : TT) (tb : TS) : TS := fun D σ H => ∃ W : Nat → St → Hp → Prop, (∃ m, W m σ H) ∧ ∀ m σ H, W m σ H →
  c σ H fun b H1 => if b = true then ∃ N : St → Hp → Prop, (∀ σ' H', N σ' H' → ∃ m', m' < m ∧ W m' σ' H') ∧ tb { D with nx := N, ct := N, bk := D.nx } σ H1 else D.nx σ H1
theorem ps_while {c : Expr} {body : List Stmt} {tc : TT} {tb : TS} (hp : PassesOwn (model X.prog X.w) X.A X.env X.xe) (hc : PT X c tc) (hb : PSs X body tb) : PS X (.While c body [] pos) (tWhile tc tb) := by
  intro pins s σ H D I h
  obtain ⟨W, ⟨m0, w0⟩, turn⟩ := h
  refine wpAny_While (codeAny_whileLoop (fun n s' => ∃ σ' H', Inv X pins σ' H' s' ∧ W n σ' H') ?_ m0 ⟨σ, H, I, w0⟩)
  rintro n s1 ⟨σ1, H1, I1, w1⟩
  refine wpAny_passesOwn hp (thn (hc pins s1 σ1 H1 _ I1 (turn n σ1 H1 w1)) fun b s2 ⟨H2, I2, q2⟩ => ?_)
  cases b with
  | true =>
    obtain ⟨N, hN, q2⟩ := q2
    rw [if_pos rfl]
    refine wpAny_passesOwn hp (thn (hb pins s2 σ1 H2 _ I2 q2) fun f s3 q3 => ?_)
    cases f with
    | next =>
      obtain ⟨σ3, H3, I3, n3⟩ := q3
      obtain ⟨m', hm, w3⟩ := hN σ3 H3 n3
      exact ⟨m', hm, σ3, H3, I3, w3⟩
    | cont =>
      obtain ⟨σ3, H3, I3, n3⟩ := q3
      obtain ⟨m', hm, w3⟩ := hN σ3 H3 n3
      exact ⟨m', hm, σ3, H3, I3, w3⟩
    | brk => exact q3
    | ret v => exact q3
  | false =>
    rw [if_neg Bool.false_ne_true]
    exact wpAny_execs_nil ⟨σ1, H2, I2, q2⟩
end
structure It where
  go : Nat → Hp → Prop
  yld : Nat → Hp → V → Hp → Prop
  stop : Nat → Hp → Prop
noncomputable def FpOk (X : Cx) (pins : List (Addr × Obj)) (H : Hp) (b : Addr) : Prop :=
  H b = none ∧ b ≠ X.env.locals ∧ b ∉ X.fs ∧ (b ∈ X.ex ∨ X.s₀.heap.objs.size ≤ b) ∧ (∀ x c, X.env.cells.lookup x = some c → c ≠ b) ∧ ∀ p ∈ X.pn ++ pins, p.1 ≠ b
theorem Inv.fpOk {X : Cx} {pins : List (Addr × Obj)} {σ : St} {H H' : Hp} {s : Shared} {b : Addr} (I : Inv X pins σ H s) (hb : s.heap.objs.size ≤ b) (hn : H' b = none) : FpOk X pins H' b := by
  refine ⟨hn, Nat.ne_of_gt (Nat.lt_of_lt_of_le I.lt hb), I.nofs hb, .inr (Nat.le_trans I.sz hb), fun x c e z => ?_, fun p hp z => ?_⟩
  · obtain ⟨v, q⟩ := I.cell x c e
    exact absurd (Nat.lt_of_lt_of_le q.lt (by rw [z]; exact hb)) (Nat.lt_irrefl _)
  · exact absurd (Nat.lt_of_lt_of_le (Heap.lt_size (I.pin p hp).1) (by rw [z]; exact hb)) (Nat.lt_irrefl _)
structure Turn (P : Program) (w : World) (K : PySem.W.Frag) (tg : Expr) (J : It) (fp : List Addr) (it : Addr) (tn : Nat → Heap → Prop) : Prop where
  mem : it ∈ fp
  obj : ∀ i h, tn i h → ∀ b ∈ fp, ∃ o, h.get? b = some o ∧ ∀ v, o.data ≠ .cell v
  keep : ∀ i h h', tn i h → (∀ b ∈ fp, ∀ o, h.get? b = some o → h'.get? b = some o) → tn i h'
  item : ∀ (X : Cx), X.prog = P → X.w = w → X.K = K → X.calm = true → ∀ (i : Nat) (pins : List (Addr × Obj)) (s : Shared) (σ : St) (H : Hp) (E : Value → Shared → Prop), Inv X pins σ H s → (∀ b ∈ fp, FpOk X pins H b) → tn i s.heap → J.go i H →
    wpAny (model P w) X.A (pyNext (.ref it)) (fun r s1 => ∃ u, r = some u ∧
      wpAny (model P w) X.A (letOwnedTupleGo tg (.ref it) u) (fun _ s2 => ∃ x H', Inv X pins σ H' s2 ∧ RelV x u ∧ J.yld i H x H' ∧ tn (i + 1) s2.heap ∧ ∀ b ∈ fp, H' b = none) E s1) E s
  done : ∀ (X : Cx), X.prog = P → X.w = w → X.K = K → X.calm = true → ∀ (i : Nat) (pins : List (Addr × Obj)) (s : Shared) (σ : St) (H : Hp) (E : Value → Shared → Prop), Inv X pins σ H s → (∀ b ∈ fp, FpOk X pins H b) → tn i s.heap → J.stop i H →
    wpAny (model P w) X.A (pyNext (.ref it)) (fun r s1 => r = none ∧ Inv X pins σ H s1) E s
  self : ∀ (A : Around) (i : Nat) (s : Shared) (Q : Value → Shared → Prop) (E : Value → Shared → Prop), tn i s.heap → Q (.ref it) s → wpAny (model P w) A (pyIter (.ref it)) Q E s
noncomputable abbrev TI := St → Hp → (It → Hp → Prop) → Prop
noncomputable def PIE (X : Cx) (pins : List (Addr × Obj)) (σ : St) (tg : Expr) (R : It → Hp → Prop) (itv : Value) (s2 : Shared) : Prop :=
  ∃ (it : Addr) (fp : List Addr) (tn : Nat → Heap → Prop) (J : It) (H' : Hp), itv = .ref it ∧ Inv X pins σ H' s2 ∧ Turn X.prog X.w X.K tg J fp it tn ∧ tn 0 s2.heap ∧ (∀ b ∈ fp, FpOk X pins H' b) ∧ R J H'
noncomputable def PI (X : Cx) (tg iter : Expr) (wi : TI) : Prop :=
  ∀ (pins : List (Addr × Obj)) (s : Shared) (σ : St) (H : Hp) (R : It → Hp → Prop), Inv X pins σ H s → wi σ H R →
    wpAny (model X.prog X.w) X.A (eval iter X.env) (fun v s1 => wpAny (model X.prog X.w) X.A (pyIter v) (PIE X pins σ tg R) X.xe s1) X.xe s
theorem go_of {M : Model} {A : Around} {E : Value → Shared → Prop} {s : Shared} {tg : Expr} {it : Addr} {u : Value} {o : Obj} {n : String} {vs : Array Value} {Q : Unit → Shared → Prop} (ho : s.heap.get? it = some o) (hc : o.cls = .type n) (hd : o.data = .fields vs)
    (hn : ["enumerate", "zip", "dict_itemiterator", "dict_reverseitemiterator", "odict_iterator", "itertools.zip_longest", "itertools.pairwise"].contains n = false) (hQ : Q () s) : wpAny M A (letOwnedTupleGo tg (.ref it) u) Q E s := by
  unfold letOwnedTupleGo
  cases tg <;> first
    | exact wpAny_pure hQ
    | (cases u <;> first
        | exact wpAny_pure hQ
        | (refine wpAny_bind (wpAny_load ho ?_)
           rw [hc, hd]
           show wpAny M A (if (["enumerate", "zip", "dict_itemiterator", "dict_reverseitemiterator", "odict_iterator", "itertools.zip_longest", "itertools.pairwise"].contains n && vs[0]? == some (rawInt _)) = true then _ else _) Q E s
           rw [if_neg (by intro h; rw [hn, Bool.false_and] at h; cases h)]
           exact wpAny_pure hQ))
noncomputable def Itl (K : PySem.W.Frag) (a : Addr) : It :=
  ⟨fun i H => ∃ xs x, SqL K H a xs ∧ xs[i]? = some x, fun i H x H' => H' = H ∧ ∀ xs, SqL K H a xs → xs[i]? = some x, fun i H => ∃ xs, SqL K H a xs ∧ xs.length ≤ i⟩
noncomputable def Itt (K : PySem.W.Frag) (a : Addr) : It :=
  ⟨fun i H => ∃ xs x, SqT K H a xs ∧ xs[i]? = some x, fun i H x H' => H' = H ∧ ∀ xs, SqT K H a xs → xs[i]? = some x, fun i H => ∃ xs, SqT K H a xs ∧ xs.length ≤ i⟩
noncomputable def Itr (lo : Int) (n : Nat) : It := ⟨fun i _ => i < n, fun i H x H' => H' = H ∧ x = .int (lo + i), fun i _ => n ≤ i⟩
theorem turn_list {P : Program} {w : World} {K : PySem.W.Frag} {tg : Expr} (a it : Addr) : Turn P w K tg (Itl K a) [it] it (fun i h => h.IsListIter it a i) where
  mem := by simp
  obj := fun i h st b hb => by
    have e : b = it := by simpa using hb
    subst e
    obtain ⟨o, e, c, d⟩ := st
    exact ⟨o, e, fun v z => by rw [d] at z; cases z⟩
  keep := fun i h h' st k => st.at fun o e => k it (by simp) o e
  item := by
    intro X hP hw hK hc i pins s σ H E I hf st hg
    subst hP hw hK
    obtain ⟨xs, x, hq, hx⟩ := hg
    obtain ⟨its, rv, p, hz⟩ := I.list hq
    obtain ⟨u, hu, ru⟩ := rv.get hx
    obtain ⟨f0, f1, f2, f3, f4, f5⟩ := hf it (by simp)
    refine wpAny_pyNext_list_item st p.isList (x := u) (by simpa using hu) fun h' st' sb => ?_
    have I1 : Inv X pins σ H { s with heap := h' } := I.turned (t' := s.toks) (fun b o hb e => (sb.2 b hb).trans e) f0 f1 f3 f4 f5
    obtain ⟨o, e, c, d⟩ := id st'
    exact ⟨u, rfl, go_of (s := { s with heap := h' }) e c d (by decide) ⟨x, H, I1, ru, ⟨rfl, fun ys hy => by rw [I.list_inj hy hq]; exact hx⟩, st', fun b hb => (hf b hb).1⟩⟩
  done := by
    intro X hP hw hK hc i pins s σ H E I hf st hg
    subst hP hw hK
    obtain ⟨xs, hq, hx⟩ := hg
    obtain ⟨its, rv, p, hz⟩ := I.list hq
    obtain ⟨f0, f1, f2, f3, f4, f5⟩ := hf it (by simp)
    have hl := rv.length
    exact wpAny_pyNext_list_end (I.ok.hd hc) st p.isList (by simp; omega) fun h' eb => ⟨rfl, I.turned (t' := s.toks) (fun b o hb e => eb b o hb e) f0 f1 f3 f4 f5⟩
  self := fun _ _ _ _ _ st h => wpAny_pyIter_listiter st h
theorem turn_tuple {P : Program} {w : World} {K : PySem.W.Frag} {tg : Expr} (a it : Addr) : Turn P w K tg (Itt K a) [it] it (fun i h => h.IsTupleIter it a i) where
  mem := by simp
  obj := fun i h st b hb => by
    have e : b = it := by simpa using hb
    subst e
    obtain ⟨o, e, c, d⟩ := st
    exact ⟨o, e, fun v z => by rw [d] at z; cases z⟩
  keep := fun i h h' st k => st.at fun o e => k it (by simp) o e
  item := by
    intro X hP hw hK hc i pins s σ H E I hf st hg
    subst hP hw hK
    obtain ⟨xs, x, hq, hx⟩ := hg
    obtain ⟨its, rv, p, hz⟩ := I.tuple hq
    obtain ⟨u, hu, ru⟩ := rv.get hx
    obtain ⟨f0, f1, f2, f3, f4, f5⟩ := hf it (by simp)
    refine wpAny_pyNext_tuple_item st (show s.heap.IsTuple a its.toArray from p) (x := u) (by simpa using hu) fun h' st' sb => ?_
    have I1 : Inv X pins σ H { s with heap := h' } := I.turned (t' := s.toks) (fun b o hb e => (sb.2 b hb).trans e) f0 f1 f3 f4 f5
    obtain ⟨o, e, c, d⟩ := id st'
    exact ⟨u, rfl, go_of (s := { s with heap := h' }) e c d (by decide) ⟨x, H, I1, ru, ⟨rfl, fun ys hy => by rw [I.tuple_inj hy hq]; exact hx⟩, st', fun b hb => (hf b hb).1⟩⟩
  done := by
    intro X hP hw hK hc i pins s σ H E I hf st hg
    subst hP hw hK
    obtain ⟨xs, hq, hx⟩ := hg
    obtain ⟨its, rv, p, hz⟩ := I.tuple hq
    obtain ⟨f0, f1, f2, f3, f4, f5⟩ := hf it (by simp)
    have hl := rv.length
    exact wpAny_pyNext_tuple_end (I.ok.hd hc) st (show s.heap.IsTuple a its.toArray from p) (by simp; omega) fun h' eb => ⟨rfl, I.turned (t' := s.toks) (fun b o hb e => eb b o hb e) f0 f1 f3 f4 f5⟩
  self := fun _ _ _ _ _ st h => wpAny_pyIter_tupleiter st h
theorem turn_range {P : Program} {w : World} {K : PySem.W.Frag} {tg : Expr} (it : Addr) (lo : Int) (n : Nat) : Turn P w K tg (Itr lo n) [it] it (fun i h => IsRangeIter h it (lo + (i : Nat) * 1) ((n : Int) - (i : Nat)) 1) where
  mem := by simp
  obj := fun i h st b hb => by
    have e : b = it := by simpa using hb
    subst e
    exact ⟨_, st, fun v z => by
      have z' : Data.fields _ = Data.cell v := z
      cases z'⟩
  keep := fun i h h' st k => k it (by simp) _ st
  item := by
    intro X hP hw hK hc i pins s σ H E I hf st hg
    subst hP hw hK
    obtain ⟨f0, f1, f2, f3, f4, f5⟩ := hf it (by simp)
    have W := Walks.range (prog := X.prog) (w := X.w) (I.ok.hd hc) it lo 1 n
    refine W.item i s _ _ hg st fun v h' tk hv st' kk => ?_
    obtain ⟨t, rfl⟩ := hv
    have I1 : Inv X pins σ H { s with heap := h', toks := tk } := I.turned (fun b o hb e => kk b o (by simpa using hb) e) f0 f1 f3 f4 f5
    refine ⟨_, rfl, go_of (s := { s with heap := h', toks := tk }) (n := "range_iterator") st' rfl rfl (by decide) ⟨.int (lo + i), H, I1, ⟨t, ?_⟩, ⟨rfl, rfl⟩, st', fun b hb => (hf b hb).1⟩⟩
    rw [Int.mul_one]
  done := by
    intro X hP hw hK hc i pins s σ H E I hf st hg
    subst hP hw hK
    obtain ⟨f0, f1, f2, f3, f4, f5⟩ := hf it (by simp)
    exact wpAny_pyNext_range_end (I.ok.hd hc) st (by have : n ≤ i := hg; omega) fun h' eb => ⟨rfl, I.turned (t' := s.toks) (fun b o hb e => eb b o hb e) f0 f1 f3 f4 f5⟩
  self := fun _ _ _ _ _ st h => wpAny_pyIter_rangeiter st h
end L2
namespace L2
open PySem PySem.Spec PyProof.Rows
section
variable {X : Cx} {tg : Expr}
noncomputable def iList (K : PySem.W.Frag) (tl : TE) : TI := fun σ H R => tl σ H fun x H1 => ∃ a, x = .ref a ∧ (∃ xs, SqL K H1 a xs) ∧ R (Itl K a) H1
noncomputable def iTup (K : PySem.W.Frag) (tl : TE) : TI := fun σ H R => tl σ H fun x H1 => ∃ a, x = .ref a ∧ (∃ xs, SqT K H1 a xs) ∧ R (Itt K a) H1
theorem pi_list {l : Expr} {tl : TE} (hl : PE X l tl) : PI X tg l (iList X.K tl) := by
  intro pins s σ H R I h
  refine thn (hl pins s σ H _ I h) fun v s1 ⟨x, H1, I1, r1, q1⟩ => ?_
  obtain ⟨a, e, ⟨xs, hq⟩, q⟩ := q1
  subst e
  cases r1
  obtain ⟨its, rv, p, hz⟩ := I1.list hq
  refine wpAny_pyIter_list p.isList ?_
  refine ⟨s1.heap.objs.size, [s1.heap.objs.size], _, _, H1, rfl, I1.kept (t' := s1.toks) fun b o e => Heap.get?_push_of_some _ e, turn_list a _, ⟨_, Heap.get?_push_size _ rfl, rfl, rfl⟩, fun b hb => ?_, q⟩
  have e : b = s1.heap.objs.size := by simpa using hb
  subst e
  exact I1.fpOk (Nat.le_refl _) (I1.hok.fresh (Nat.le_refl _))
theorem pi_tup {l : Expr} {tl : TE} (hl : PE X l tl) : PI X tg l (iTup X.K tl) := by
  intro pins s σ H R I h
  refine thn (hl pins s σ H _ I h) fun v s1 ⟨x, H1, I1, r1, q1⟩ => ?_
  obtain ⟨a, e, ⟨xs, hq⟩, q⟩ := q1
  subst e
  cases r1
  obtain ⟨its, rv, p, hz⟩ := I1.tuple hq
  refine wpAny_pyIter_tuple (show s1.heap.IsTuple a its.toArray from p) ?_
  refine ⟨s1.heap.objs.size, [s1.heap.objs.size], _, _, H1, rfl, I1.kept (t' := s1.toks) fun b o e => Heap.get?_push_of_some _ e, turn_tuple a _, ⟨_, Heap.get?_push_size _ rfl, rfl, rfl⟩, fun b hb => ?_, q⟩
  have e : b = s1.heap.objs.size := by simpa using hb
  subst e
  exact I1.fpOk (Nat.le_refl _) (I1.hok.fresh (Nat.le_refl _))
theorem range_it {pins : List (Addr × Obj)} {σ : St} {H : Hp} {s : Shared} {R : It → Hp → Prop} {E : Value → Shared → Prop} {lo hi : Int} {t u v : Tok} {tk : Nat} (I : Inv X pins σ H s) (h1 : -(2 ^ 62) ≤ lo) (h2 : lo < 2 ^ 62) (h3 : -(2 ^ 62) ≤ hi) (h4 : hi < 2 ^ 62)
    (q : R (Itr lo (hi - lo).toNat) H) : wpAny (model X.prog X.w) X.A (pyIter (.ref s.heap.objs.size)) (PIE X pins σ tg R) E { s with heap := s.heap.push { cls := .type "range", data := .fields #[.int lo t, .int hi u, .int 1 v] }, toks := tk } := by
  refine wpAny_pyIter_range (IsRange.new ..) (small_one h1 h2 h3 h4) ?_
  have I1 : Inv X pins σ H { s with heap := s.heap.push { cls := .type "range", data := .fields #[.int lo t, .int hi u, .int 1 v] }, toks := tk } := I.kept fun b o e => Heap.get?_push_of_some _ e
  refine ⟨(s.heap.push { cls := .type "range", data := .fields #[.int lo t, .int hi u, .int 1 v] }).objs.size, [(s.heap.push { cls := .type "range", data := .fields #[.int lo t, .int hi u, .int 1 v] }).objs.size], _, _, H, rfl,
    I1.kept (t' := tk) fun b o e => Heap.get?_push_of_some _ e, turn_range _ lo (hi - lo).toNat, ?_, fun b hb => ?_, q⟩
  · have e1 : lo + ((0 : Nat) : Int) * 1 = lo := by simp
    have e2 : (((hi - lo).toNat : Nat) : Int) - ((0 : Nat) : Int) = Builtin.Range.rangeSize lo hi 1 := by rw [rangeSize_one]; split <;> omega
    show IsRangeIter _ _ (lo + ((0 : Nat) : Int) * 1) ((((hi - lo).toNat : Nat) : Int) - ((0 : Nat) : Int)) 1
    rw [e1, e2]
    exact Heap.get?_push_size _ rfl
  · have e : b = (s.heap.push { cls := .type "range", data := .fields #[.int lo t, .int hi u, .int 1 v] }).objs.size := by simpa using hb
    subst e
    exact I1.fpOk (Nat.le_refl _) (I1.hok.fresh (Nat.le_refl _))
noncomputable def iRng1 (ta : TA) : TI := fun σ H R => ta σ H fun vs H1 => ∃ j : Int, vs = [.int j] ∧ -(2 ^ 62) ≤ j ∧ j < 2 ^ 62 ∧ R (Itr 0 j.toNat) H1
noncomputable def iRng2 (ta : TA) : TI := fun σ H R => ta σ H fun vs H1 => ∃ i j : Int, vs = [.int i, .int j] ∧ (-(2 ^ 62) ≤ i ∧ i < 2 ^ 62 ∧ -(2 ^ 62) ≤ j ∧ j < 2 ^ 62) ∧ R (Itr i (j - i).toNat) H1
theorem pi_range1 {a : Expr} {ta : TA} {p pos : Pos} (hg : Gl X "range") (hm : X.mg "range" = none) (ha : PA X [a] ta) (hs : starEach [a] X.env = [(false, eval a X.env)] := by rfl) : PI X tg (.Call (.Name "range" p) [a] [] pos) (iRng1 ta) := by
  intro pins s σ H R I h
  refine Call_ (ld_blt I hg hm boot_range (PyProof.Rows.callWith_type1 (thn (ha pos pins s σ H _ I h) fun us s1 ⟨vs, H1, I1, r1, q1⟩ => ?_) hs rfl))
  obtain ⟨j, e, q1, q2, q⟩ := q1
  subst e
  cases r1 with
  | cons r rr =>
    cases rr
    obtain ⟨t, rfl⟩ := r
    exact call_range_1 (range_it I1 (by omega) (by omega) q1 q2 (by simpa using q))
noncomputable def tFor (wi : TI) (g : TG) (tb : TS) : TS := fun D σ H => wi σ H fun J H1 => ∃ W : Nat → Nat → St → Hp → Prop, (∃ m, W 0 m σ H1) ∧ ∀ i m σ H, W i m σ H →
  (J.stop i H ∧ D.nx σ H) ∨ (J.go i H ∧ ∃ N : St → Hp → Prop, (∀ σ' H', N σ' H' → ∃ m', m' < m ∧ W (i + 1) m' σ' H') ∧ ∀ x H', J.yld i H x H' → g x σ H' fun σ2 H2 => tb { D with nx := N, ct := N, bk := D.nx } σ2 H2)
noncomputable def pinsAt (fp : List Addr) (h : Heap) : List (Addr × Obj) := fp.filterMap fun b => (h.get? b).map fun o => (b, o)
theorem mem_pinsAt {fp : List Addr} {h : Heap} {b : Addr} {o : Obj} (hb : b ∈ fp) (e : h.get? b = some o) : (b, o) ∈ pinsAt fp h := List.mem_filterMap.mpr ⟨b, hb, by rw [e]; rfl⟩
theorem of_pinsAt {fp : List Addr} {h : Heap} {p : Addr × Obj} (hp : p ∈ pinsAt fp h) : p.1 ∈ fp ∧ h.get? p.1 = some p.2 := by
  obtain ⟨b, hb, e⟩ := List.mem_filterMap.mp hp
  cases q : h.get? b with
  | none => rw [q] at e; cases e
  | some o =>
    rw [q] at e
    have e' : (b, o) = p := Option.some.inj e
    subst e'
    exact ⟨hb, q⟩
theorem Inv.pinned {pins : List (Addr × Obj)} {σ : St} {H : Hp} {s : Shared} {fp : List Addr} (I : Inv X pins σ H s) (hf : ∀ b ∈ fp, FpOk X pins H b) (ho : ∀ b ∈ fp, ∃ o, s.heap.get? b = some o ∧ ∀ v, o.data ≠ .cell v) : Inv X (pins ++ pinsAt fp s.heap) σ H s :=
  I.pins_of fun p hp => (List.mem_append.mp hp).elim (fun z => I.pin p (List.mem_append_right _ z)) fun z => by
    obtain ⟨hb, e⟩ := of_pinsAt z
    obtain ⟨f0, f1, f2, _⟩ := hf p.1 hb
    obtain ⟨o, e', d⟩ := ho p.1 hb
    rw [e] at e'; cases e'
    exact ⟨e, f0, f1, f2, d⟩
theorem Inv.unpinned {pins pl : List (Addr × Obj)} {σ : St} {H : Hp} {s : Shared} (I : Inv X (pins ++ pl) σ H s) : Inv X pins σ H s := I.pins_of fun p hp => I.pin p (List.mem_append_right _ (List.mem_append_left _ hp))
theorem ps_for {iter : Expr} {body : List Stmt} {wi : TI} {g : TG} {tb : TS} {pos : Pos} (hp : PassesOwn (model X.prog X.w) X.A X.env X.xe) (hc : X.calm = true) (hi : PI X tg iter wi) (hg : PG X tg g) (hb : PSs X body tb)
    (hs : ∀ x, foldedSetIterable iter X.env x = pure x := by intro _; rfl) : PS X (.For tg iter body [] pos) (tFor wi g tb) := by
  intro pins s σ H D I h
  refine wpAny_For (thn (hi pins s σ H _ I h) fun v s1 h1 => thn h1 fun itv s2 h2 => ?_) hs
  obtain ⟨it, fp, tn, J, H2, e, I2, T, st2, f2, W, ⟨m0, w0⟩, turn⟩ := h2
  subst e
  have stat : ∀ {H' : Hp}, (∀ b ∈ fp, H' b = none) → ∀ b ∈ fp, FpOk X pins H' b := fun hn b hb => ⟨hn b hb, (f2 b hb).2⟩
  refine codeAny_forLoop_any (fun n s' => ∃ i σ' H', Inv X pins σ' H' s' ∧ tn i s'.heap ∧ (∀ b ∈ fp, H' b = none) ∧ W i n σ' H') ?_ m0 ⟨0, σ, H2, I2, st2, fun b hb => (f2 b hb).1, w0⟩
  rintro n s3 ⟨i, σ3, H3, I3, st3, fr3, w3⟩
  rcases turn i n σ3 H3 w3 with ⟨stop, qn⟩ | ⟨go, N, hN, step⟩
  · refine wpAny_passesOwn hp (thn (T.done X rfl rfl rfl hc i pins s3 σ3 H3 X.xe I3 (stat fr3) st3 stop) fun r s4 ⟨hr, I4⟩ => ?_)
    subst hr
    exact wpAny_execs_nil ⟨σ3, H3, I4, qn⟩
  · refine wpAny_passesOwn hp (thn (T.item X rfl rfl rfl hc i pins s3 σ3 H3 X.xe I3 (stat fr3) st3 go) fun r s4 ⟨u, hr, h4⟩ => ?_)
    subst hr
    refine wpAny_passesOwn hp (thn h4 fun _ s5 ⟨x, H5, I5, r5, y5, st5, fr5⟩ => ?_)
    have I5' := I5.pinned (stat fr5) (T.obj _ _ st5)
    refine wpAny_passesOwn hp (thn (hg _ s5 σ3 H5 x u _ I5' r5 (step x H5 y5)) fun _ s6 ⟨σ6, H6, I6, q6⟩ => ?_)
    refine wpAny_passesOwn hp (thn (hb _ s6 σ6 H6 _ I6 q6) fun f s7 q7 => ?_)
    have again : ∀ {σ7 : St} {H7 : Hp}, Inv X (pins ++ pinsAt fp s5.heap) σ7 H7 s7 → N σ7 H7 → ∃ m, m < n ∧ ∃ i σ' H', Inv X pins σ' H' s7 ∧ tn i s7.heap ∧ (∀ b ∈ fp, H' b = none) ∧ W i m σ' H' := fun {σ7 H7} I7 n7 => by
      obtain ⟨m', hm, w7⟩ := hN σ7 H7 n7
      refine ⟨m', hm, i + 1, σ7, H7, I7.unpinned, T.keep _ _ _ st5 fun b hb o e => (I7.pin (b, o) (List.mem_append_right _ (List.mem_append_right _ (mem_pinsAt hb e)))).1, fun b hb => ?_, w7⟩
      obtain ⟨o, e, d⟩ := T.obj _ _ st5 b hb
      exact (I7.pin (b, o) (List.mem_append_right _ (List.mem_append_right _ (mem_pinsAt hb e)))).2.1
    cases f with
    | next => obtain ⟨σ7, H7, I7, n7⟩ := q7; exact again I7 n7
    | cont => obtain ⟨σ7, H7, I7, n7⟩ := q7; exact again I7 n7
    | brk => obtain ⟨σ7, H7, I7, q7⟩ := q7; exact ⟨σ7, H7, I7.unpinned, q7⟩
    | ret v => obtain ⟨x7, σ7, H7, I7, r7, q7⟩ := q7; exact ⟨x7, σ7, H7, I7.unpinned, r7, q7⟩
end
end L2
namespace L2
open PySem PySem.Spec PyProof.Rows
noncomputable abbrev R2 := V → V → Hp → VK → Prop
noncomputable def OpR (X : Cx) (f : Value → Value → Sem Value) (r : R2) : Prop :=
  ∀ (pins : List (Addr × Obj)) (s : Shared) (σ : St) (H : Hp) (x y : V) (v u : Value) (Q : VK), Inv X pins σ H s → RelV x v → RelV y u → r x y H Q →
    wpAny (model X.prog X.w) X.A (f v u) (EP X pins σ Q) X.xe s
noncomputable def CallR (X : Cx) (f : Value) (r : List V → Hp → VK → Prop) : Prop :=
  ∀ (pins : List (Addr × Obj)) (s : Shared) (σ : St) (H : Hp) (xs : List V) (us : List Value) (Q : VK), Inv X pins σ H s → Vals xs us → r xs H Q →
    wpAny (model X.prog X.w) X.A (call f us) (EP X pins σ Q) X.xe s
noncomputable def TruR (X : Cx) (r : V → Hp → (Bool → Hp → Prop) → Prop) : Prop :=
  ∀ (pins : List (Addr × Obj)) (s : Shared) (σ : St) (H : Hp) (x : V) (v : Value) (Q : Bool → Hp → Prop), Inv X pins σ H s → RelV x v → r x H Q →
    wpAny (model X.prog X.w) X.A (truthy v) (TP X pins σ Q) X.xe s
noncomputable def tOp (r : R2) (ta tb : TE) : TE := fun σ H Q => ta σ H fun x H1 => tb σ H1 fun y H2 => r x y H2 Q
noncomputable def tUn (r : V → Hp → VK → Prop) (ta : TE) : TE := fun σ H Q => ta σ H fun x H1 => r x H1 Q
noncomputable def rI (C : Int → Int → Prop) (g : Int → Int → V) : R2 := fun x y H Q => ∃ i j, x = .int i ∧ y = .int j ∧ C i j ∧ Q (g i j) H
noncomputable def rI0 (g : Int → Int → V) : R2 := fun x y H Q => ∃ i j, x = .int i ∧ y = .int j ∧ Q (g i j) H
section
variable {X : Cx} {a b c : Expr} {ta tb tc : TE} {pos : Pos}
theorem binT (ha : PE X a ta) (hb : PE X b tb) {pins : List (Addr × Obj)} {s : Shared} {σ : St} {H : Hp} {R : V → V → Hp → Prop} (I : Inv X pins σ H s)
    (h : ta σ H fun x H1 => tb σ H1 fun y H2 => R x y H2) {Q : Value → Shared → Prop} {f : Value → Value → Sem Value}
    (hf : ∀ v u s2 x y H2, Inv X pins σ H2 s2 → RelV x v → RelV y u → R x y H2 → wpAny (model X.prog X.w) X.A (f v u) Q X.xe s2) :
    wpAny (model X.prog X.w) X.A (eval a X.env) (fun v s₁ => wpAny (model X.prog X.w) X.A (eval b X.env) (fun u s₂ => wpAny (model X.prog X.w) X.A (f v u) Q X.xe s₂) X.xe s₁) X.xe s := by
  refine thn (ha pins s σ H _ I h) fun v s1 ⟨x, H1, I1, r1, q1⟩ => ?_
  refine thn (hb pins s1 σ H1 _ I1 q1) fun u s2 ⟨y, H2, I2, r2, q2⟩ => ?_
  exact hf v u s2 x y H2 I2 r1 r2 q2
theorem pe_op {op : Operator} {r : R2} (ho : OpR X (binaryOp op) r) (ha : PE X a ta) (hb : PE X b tb) : PE X (.BinOp a op b pos) (tOp r ta tb) := by
  intro pins s σ H Q I h
  exact wpAny_BinOp (binT ha hb I h fun v u s2 x y H2 I2 rx ry q => ho pins s2 σ H2 x y v u Q I2 rx ry q)
theorem opI {f : Value → Value → Sem Value} {C : Int → Int → Prop} {g : Int → Int → Int}
    (rule : ∀ (i j : Int) (t u : Tok) (s : Shared) (Q : Value → Shared → Prop) (E : Value → Shared → Prop), C i j → Q (.int (g i j) s.toks) { s with toks := s.toks + 1 } → wpAny (model X.prog X.w) X.A (f (.int i t) (.int j u)) Q E s) :
    OpR X f (rI C fun i j => .int (g i j)) := by
  intro pins s σ H x y v u Q I rx ry h
  obtain ⟨i, j, rfl, rfl, hc, q⟩ := h
  obtain ⟨t, rfl⟩ := rx
  obtain ⟨t', rfl⟩ := ry
  exact rule i j t t' s _ _ hc ⟨.int (g i j), H, I.tok _, ⟨_, rfl⟩, q⟩
theorem opI0 {f : Value → Value → Sem Value} {g : Int → Int → Int}
    (rule : ∀ (i j : Int) (t u : Tok) (s : Shared) (Q : Value → Shared → Prop) (E : Value → Shared → Prop), Q (.int (g i j) s.toks) { s with toks := s.toks + 1 } → wpAny (model X.prog X.w) X.A (f (.int i t) (.int j u)) Q E s) :
    OpR X f (rI0 fun i j => .int (g i j)) := by
  intro pins s σ H x y v u Q I rx ry h
  obtain ⟨i, j, rfl, rfl, q⟩ := h
  obtain ⟨t, rfl⟩ := rx
  obtain ⟨t', rfl⟩ := ry
  exact rule i j t t' s _ _ ⟨.int (g i j), H, I.tok _, ⟨_, rfl⟩, q⟩
theorem opB0 {f : Value → Value → Sem Value} {g : Int → Int → Bool}
    (rule : ∀ (i j : Int) (t u : Tok) (s : Shared) (Q : Value → Shared → Prop) (E : Value → Shared → Prop), Q (.bool (g i j)) s → wpAny (model X.prog X.w) X.A (f (.int i t) (.int j u)) Q E s) :
    OpR X f (rI0 fun i j => .bl (g i j)) := by
  intro pins s σ H x y v u Q I rx ry h
  obtain ⟨i, j, rfl, rfl, q⟩ := h
  obtain ⟨t, rfl⟩ := rx
  obtain ⟨t', rfl⟩ := ry
  exact rule i j t t' s _ _ ⟨.bl (g i j), H, I, rfl, q⟩
noncomputable def CDiv (i j : Int) : Prop := 0 < j ∧ j < 1073741824
noncomputable def CPow (i j : Int) : Prop := 0 ≤ j ∧ j ≤ 1000000 ∧ i.natAbs < 2 ^ 64
noncomputable def CMul (i j : Int) : Prop := (-(2 ^ 64) < i ∧ i < 2 ^ 64) ∨ (-(2 ^ 64) < j ∧ j < 2 ^ 64)
theorem CMul.ok {i j : Int} (h : CMul i j) : IntMulOk i j := by
  rcases h with ⟨h1, h2⟩ | ⟨h1, h2⟩
  · exact .of_left (intBits_le_64 h1 h2)
  · exact .of_right (intBits_le_64 h1 h2)
theorem op_add : OpR X (binaryOp .Add) (rI0 fun i j => .int (i + j)) := opI0 fun _ _ _ _ _ _ _ q => add_int q
theorem op_sub : OpR X (binaryOp .Sub) (rI0 fun i j => .int (i - j)) := opI0 fun _ _ _ _ _ _ _ q => sub_int q
theorem op_fdiv : OpR X (binaryOp .FloorDiv) (rI CDiv fun i j => .int (i / j)) := opI fun i j _ _ _ _ _ hc q => by
  have h1 : (0 : Int) < j := hc.1
  have h2 : j < 1073741824 := hc.2
  exact floordiv_int (by omega) (by rw [Int.fdiv_eq_ediv_of_nonneg i (by omega)]; exact q) (.inl (PyProof.noPylong_small (by omega)))
theorem op_mod : OpR X (binaryOp .Mod) (rI (fun _ j => 0 < j) fun i j => .int (i % j)) := opI fun i j _ _ _ _ _ hc q => by
  have h1 : (0 : Int) < j := hc
  exact mod_int' (by omega) (by rw [Int.fmod_eq_emod_of_nonneg i (by omega)]; exact q)
theorem op_pow : OpR X (binaryOp .Pow) (rI CPow fun i j => .int (i ^ j.toNat)) := opI fun _ _ _ _ _ _ _ hc q => pow_int_small hc.1 hc.2.1 hc.2.2 q
theorem iop_add : OpR X (inplaceOp .Add) (rI0 fun i j => .int (i + j)) := opI0 fun _ _ _ _ _ _ _ q => iadd_int q
end
noncomputable def scal : V → V → Bool
  | .non, .non => true | .non, .int _ => true | .int _, .non => true | .non, .bl _ => true | .bl _, .non => true | .non, .str _ => true | .str _, .non => true
  | .int _, .int _ => true | .bl _, .bl _ => true | .str _, .str _ => true | .byt _, .byt _ => true
  | .int _, .str _ => true | .str _, .int _ => true | .bl _, .str _ => true | .str _, .bl _ => true
  | _, _ => false
noncomputable def rEq : R2 := fun x y H Q => scal x y = true ∧ Q (.bl (decide (x = y))) H
noncomputable def rNe : R2 := fun x y H Q => scal x y = true ∧ Q (.bl (!decide (x = y))) H
theorem dec_int {i j : Int} : decide (V.int i = V.int j) = (i == j) := by
  rw [Bool.eq_iff_iff]
  simp
theorem dec_bl {i j : Bool} : decide (V.bl i = V.bl j) = (i == j) := by
  rw [Bool.eq_iff_iff]
  simp
theorem dec_str {i j : Str} : decide (V.str i = V.str j) = (i == j) := by
  rw [Bool.eq_iff_iff]
  simp
theorem dec_byt {i j : Array UInt8} : decide (V.byt i = V.byt j) = (i.toList == j.toList) := by
  rw [Bool.eq_iff_iff]
  cases i
  cases j
  simp
section
variable {X : Cx} {a b c : Expr} {ta tb tc : TE} {pos : Pos}
theorem fin_bl {pins : List (Addr × Obj)} {σ : St} {H : Hp} {s : Shared} {Q : VK} {k k' : Bool} (I : Inv X pins σ H s) (q : Q (.bl k) H) (e : k = k') : EP X pins σ Q (.bool k') s := by
  subst e
  exact ⟨.bl k, H, I, rfl, q⟩
theorem op_eq : OpR X (compareOp .Eq) rEq := by
  intro pins s σ H x y v u Q I rx ry h
  obtain ⟨hs, q⟩ := h
  cases x with
  | non =>
    cases rx
    cases y with
    | non => cases ry; exact PySem.EqNone.eq_none_none (fin_bl I q (by simp))
    | bl j => cases ry; exact PySem.EqNone.eq_none_bool (fin_bl I q (by simp))
    | int j => obtain ⟨t', rfl⟩ := ry; exact PySem.EqNone.eq_none_int (fin_bl I q (by simp))
    | str j => obtain ⟨t', rfl⟩ := ry; exact PySem.EqNone.eq_none_str (fin_bl I q (by simp))
    | _ => exact absurd (show false = true from hs) Bool.false_ne_true
  | bl i =>
    cases rx
    cases y with
    | non => cases ry; exact PySem.EqNone.eq_bool_none (fin_bl I q (by simp))
    | bl j => cases ry; exact eq_bool (fin_bl I q dec_bl)
    | str j => obtain ⟨t', rfl⟩ := ry; exact PySem.EqMixed.eq_bool_str (fin_bl I q (by simp))
    | _ => exact absurd (show false = true from hs) Bool.false_ne_true
  | int i =>
    obtain ⟨t, rfl⟩ := rx
    cases y with
    | non => cases ry; exact PySem.EqNone.eq_int_none (fin_bl I q (by simp))
    | int j => obtain ⟨t', rfl⟩ := ry; exact eq_int (fin_bl I q dec_int)
    | str j => obtain ⟨t', rfl⟩ := ry; exact PySem.EqMixed.eq_int_str (fin_bl I q (by simp))
    | _ => exact absurd (show false = true from hs) Bool.false_ne_true
  | str i =>
    obtain ⟨t, rfl⟩ := rx
    cases y with
    | non => cases ry; exact PySem.EqNone.eq_str_none (fin_bl I q (by simp))
    | bl j => cases ry; exact PySem.EqMixed.eq_str_bool (fin_bl I q (by simp))
    | int j => obtain ⟨t', rfl⟩ := ry; exact PySem.EqMixed.eq_str_int (fin_bl I q (by simp))
    | str j => obtain ⟨t', rfl⟩ := ry; exact eq_str (fin_bl I q dec_str)
    | _ => exact absurd (show false = true from hs) Bool.false_ne_true
  | byt i =>
    obtain ⟨t, rfl⟩ := rx
    cases y with
    | byt j => obtain ⟨t', rfl⟩ := ry; exact PySem.W.eq_bytes (fin_bl I q dec_byt)
    | _ => exact absurd (show false = true from hs) Bool.false_ne_true
  | _ => cases y <;> exact absurd (show false = true from hs) Bool.false_ne_true
theorem op_ne : OpR X (compareOp .NotEq) rNe := by
  intro pins s σ H x y v u Q I rx ry h
  obtain ⟨hs, q⟩ := h
  cases x with
  | non =>
    cases rx
    cases y with
    | non => cases ry; exact PySem.EqNone.ne_none_none (fin_bl I q (by simp))
    | bl j => cases ry; exact PySem.EqNone.ne_none_bool (fin_bl I q (by simp))
    | int j => obtain ⟨t', rfl⟩ := ry; exact PySem.EqNone.ne_none_int (fin_bl I q (by simp))
    | str j => obtain ⟨t', rfl⟩ := ry; exact PySem.EqNone.ne_none_str (fin_bl I q (by simp))
    | _ => exact absurd (show false = true from hs) Bool.false_ne_true
  | bl i =>
    cases rx
    cases y with
    | non => cases ry; exact PySem.EqNone.ne_bool_none (fin_bl I q (by simp))
    | bl j => cases ry; exact ne_bool (fin_bl I q (congrArg not dec_bl))
    | str j => obtain ⟨t', rfl⟩ := ry; exact PySem.EqMixed.ne_bool_str (fin_bl I q (by simp))
    | _ => exact absurd (show false = true from hs) Bool.false_ne_true
  | int i =>
    obtain ⟨t, rfl⟩ := rx
    cases y with
    | non => cases ry; exact PySem.EqNone.ne_int_none (fin_bl I q (by simp))
    | int j => obtain ⟨t', rfl⟩ := ry; exact ne_int (fin_bl I q (congrArg not dec_int))
    | str j => obtain ⟨t', rfl⟩ := ry; exact PySem.EqMixed.ne_int_str (fin_bl I q (by simp))
    | _ => exact absurd (show false = true from hs) Bool.false_ne_true
  | str i =>
    obtain ⟨t, rfl⟩ := rx
    cases y with
    | non => cases ry; exact PySem.EqNone.ne_str_none (fin_bl I q (by simp))
    | bl j => cases ry; exact PySem.EqMixed.ne_str_bool (fin_bl I q (by simp))
    | int j => obtain ⟨t', rfl⟩ := ry; exact PySem.EqMixed.ne_str_int (fin_bl I q (by simp))
    | str j => obtain ⟨t', rfl⟩ := ry; exact ne_str (fin_bl I q (congrArg not dec_str))
    | _ => exact absurd (show false = true from hs) Bool.false_ne_true
  | byt i =>
    obtain ⟨t, rfl⟩ := rx
    cases y with
    | byt j => obtain ⟨t', rfl⟩ := ry; exact PySem.W.ne_bytes (fin_bl I q (congrArg not dec_byt))
    | _ => exact absurd (show false = true from hs) Bool.false_ne_true
  | _ => cases y <;> exact absurd (show false = true from hs) Bool.false_ne_true
theorem op_lt : OpR X (compareOp .Lt) (rI0 fun i j => .bl (decide (i < j))) := opB0 fun _ _ _ _ _ _ _ q => lt_int q
theorem op_gt : OpR X (compareOp .Gt) (rI0 fun i j => .bl (decide (j < i))) := opB0 fun _ _ _ _ _ _ _ q => gt_int q
theorem op_ge : OpR X (compareOp .GtE) (rI0 fun i j => .bl (decide (j ≤ i))) := opB0 fun _ _ _ _ _ _ _ q => ge_int q
theorem OpR.or {f : Value → Value → Sem Value} {r r' : R2} (h : OpR X f r) (h' : OpR X f r') : OpR X f (fun x y H Q => r x y H Q ∨ r' x y H Q) := by
  intro pins s σ H x y v u Q I rx ry q
  rcases q with q | q
  · exact h pins s σ H x y v u Q I rx ry q
  · exact h' pins s σ H x y v u Q I rx ry q
theorem nomark (b : Expr) {op : CmpOp} (h : op ≠ .In := by decide) (h2 : op ≠ .NotIn := by decide) : behindInMarks op b = false := by
  have e1 : (op == CmpOp.In) = false := by cases op <;> first | rfl | exact absurd rfl h
  have e2 : (op == CmpOp.NotIn) = false := by cases op <;> first | rfl | exact absurd rfl h2
  cases b <;> simp [behindInMarks, e1, e2]
theorem pe_cmpR {op : CmpOp} {r : R2} (ho : OpR X (compareOp op) r) (ha : PE X a ta) (hb : PE X b tb) (hm : behindInMarks op b = false) : PE X (.Compare a [op] [b] pos) (tOp r ta tb) := by
  intro pins s σ H Q I h
  exact wpAny_Compare1 (binT ha hb I h fun v u s2 x y H2 I2 rx ry q => ho pins s2 σ H2 x y v u Q I2 rx ry q) hm
noncomputable def tTest (t : TE) : TT := fun σ H Q => t σ H fun x H' => ∃ k, x = .bl k ∧ Q k H'
theorem pt_cmpR {op : CmpOp} {r : R2} (ho : OpR X (compareOp op) r) (ha : PE X a ta) (hb : PE X b tb) (hm : behindInMarks op b = false) : PT X (.Compare a [op] [b] pos) (tTest (tOp r ta tb)) := by
  intro pins s σ H Q I h
  refine wpAny_isTrue_Compare1 (thn (ha pins s σ H _ I h) fun v s1 ⟨x, H1, I1, r1, q1⟩ => thn (hb pins s1 σ H1 _ I1 q1) fun u s2 ⟨y, H2, I2, r2, q2⟩ =>
    thn (ho pins s2 σ H2 x y v u _ I2 r1 r2 q2) fun c s3 ⟨z, H3, I3, r3, k, e, q3⟩ => ?_) hm
  subst e
  cases r3
  exact wpAny_truthy_bool ⟨H3, I3, q3⟩
noncomputable def TruV (K : PySem.W.Frag) (x : V) (H : Hp) (k : Bool) : Prop :=
  match x with
  | .non => k = false
  | .bl b => k = b
  | .int i => k = (i != 0)
  | .str y => y.length ≤ sizeLine ∧ k = ((y.length : Int) != 0)
  | .byt y => y.size ≤ sizeLine ∧ k = ((y.size : Int) != 0)
  | .ref p => (∃ xs, SqL K H p xs ∧ k = !xs.isEmpty) ∨ (∃ xs, SqT K H p xs ∧ k = !xs.isEmpty) ∨ ∃ kvs, H p = some (.dK kvs) ∧ k = !kvs.isEmpty
  | _ => False
theorem isEmpty_kv {κ : Type} {kvs : List (κ × V)} {vs : List (κ × Value)} (r : KV kvs vs) : (!vs.isEmpty) = !kvs.isEmpty := by
  cases r <;> rfl
theorem isEmpty_of {xs : List V} {its : List Value} (r : Vals xs its) : (!its.toArray.isEmpty) = !xs.isEmpty := by
  cases r <;> simp
theorem line63 : (sizeLine : Nat) < 2 ^ 63 := by rw [sizeLine_eq]; decide
theorem tru_ok : TruR X (fun x H Q => ∃ k, TruV X.K x H k ∧ Q k H) := by
  intro pins s σ H x v Q I rx h
  obtain ⟨k, e, q⟩ := h
  have hl := line63
  have hs : sizeLine = 16777216 := sizeLine_eq
  cases x with
  | non =>
    cases rx
    have e' : k = false := e
    subst e'
    exact truthy_none ⟨H, I, q⟩
  | bl b =>
    cases rx
    have e' : k = b := e
    subst e'
    exact wpAny_truthy_bool ⟨H, I, q⟩
  | int i =>
    obtain ⟨t, rfl⟩ := rx
    have e' : k = (i != 0) := e
    subst e'
    exact PySem.P.truthy_int ⟨H, I, q⟩
  | str y =>
    obtain ⟨t, rfl⟩ := rx
    obtain ⟨hy, e'⟩ : y.length ≤ sizeLine ∧ k = ((y.length : Int) != 0) := e
    subst e'
    exact PySem.P.truthy_str (by omega) ⟨H, I.tok _, q⟩
  | byt y =>
    obtain ⟨t, rfl⟩ := rx
    obtain ⟨hy, e'⟩ : y.size ≤ sizeLine ∧ k = ((y.size : Int) != 0) := e
    subst e'
    exact PySem.W.truthy_bytes (by omega) ⟨H, I.tok _, q⟩
  | ref p =>
    cases rx
    have e' : (∃ xs, SqL X.K H p xs ∧ k = !xs.isEmpty) ∨ (∃ xs, SqT X.K H p xs ∧ k = !xs.isEmpty) ∨ ∃ kvs, H p = some (.dK kvs) ∧ k = !kvs.isEmpty := e
    rcases e' with ⟨xs, hx, e'⟩ | ⟨xs, hx, e'⟩ | ⟨kvs, hx, e'⟩
    · subst e'
      obtain ⟨its, r, pl, hz⟩ := I.list hx
      have hlen := r.length
      exact wpAny_truthy_list pl.isList (by simp only [List.size_toArray]; omega) ⟨H, I.tok _, by rw [isEmpty_of r]; exact q⟩
    · subst e'
      obtain ⟨its, r, pl, hz⟩ := I.tuple hx
      have hlen := r.length
      exact truthy_tuple pl (by simp only [List.size_toArray]; omega) ⟨H, I.tok _, by rw [isEmpty_of r]; exact q⟩
    · subst e'
      obtain ⟨hz, hS, vs, r, m⟩ : kvs.length ≤ sizeLine ∧ (p == sysModules) = false ∧ ∃ vs, KV kvs vs ∧ s.heap.DictOf (mixKind X.prog X.w) p vs := I.hok p _ hx
      have hlen : kvs.length = vs.length := Paired.length r
      exact wpAny_truthy_dict hS m (by omega) ⟨H, I.tok _, by rw [isEmpty_kv r]; exact q⟩
  | _ => exact (show False from e).elim
theorem op_add_str : OpR X (binaryOp .Add) (fun x y H Q => ∃ i j, x = .str i ∧ y = .str j ∧ i.length + j.length ≤ sizeLine ∧ Q (.str (i ++ j)) H) := by
  intro pins s σ H x y v u Q I rx ry h
  obtain ⟨i, j, rfl, rfl, hz, q⟩ := h
  obtain ⟨t, rfl⟩ := rx
  obtain ⟨t', rfl⟩ := ry
  exact add_str (fun t' tk => ⟨.str (i ++ j), H, I.tok _, ⟨_, rfl⟩, q⟩) hz
theorem iop_add_str : OpR X (inplaceOp .Add) (fun x y H Q => ∃ i j, x = .str i ∧ y = .str j ∧ i.length + j.length ≤ sizeLine ∧ Q (.str (i ++ j)) H) := by
  intro pins s σ H x y v u Q I rx ry h
  obtain ⟨i, j, rfl, rfl, hz, q⟩ := h
  obtain ⟨t, rfl⟩ := rx
  obtain ⟨t', rfl⟩ := ry
  exact iadd_str (fun t' tk => ⟨.str (i ++ j), H, I.tok _, ⟨_, rfl⟩, q⟩) hz
theorem vals1 {x : V} {us : List Value} (r : Vals [x] us) : ∃ u, us = [u] ∧ RelV x u := by
  cases r with
  | cons r1 r2 => cases r2; exact ⟨_, rfl, r1⟩
theorem vals2 {x y : V} {us : List Value} (r : Vals [x, y] us) : ∃ u w', us = [u, w'] ∧ RelV x u ∧ RelV y w' := by
  cases r with
  | cons r1 r2 =>
    cases r2 with
    | cons r3 r4 => cases r4; exact ⟨_, _, rfl, r1, r3⟩
theorem call_min2 (hc : X.calm = true) : CallR X (.builtin "min") (fun xs H Q => ∃ i j, xs = [.int i, .int j] ∧ Q (.int (if j < i then j else i)) H) := by
  intro pins s σ H xs us Q I r h
  obtain ⟨i, j, rfl, q⟩ := h
  obtain ⟨u, w', rfl, ⟨t, rfl⟩, ⟨t', rfl⟩⟩ := vals2 r
  refine min_two_ints (I.ok.hd hc) fun h' tk k => ⟨_, H, I.kept k, ?_, q⟩
  by_cases hj : j < i
  · rw [if_pos hj, if_pos hj]; exact ⟨_, rfl⟩
  · rw [if_neg hj, if_neg hj]; exact ⟨_, rfl⟩
theorem call_str_int : CallR X (.type "str") (fun xs H Q => ∃ i, xs = [.int i] ∧ i.natAbs.log2 < 1920 ∧ Q (.str (toString i)) H) := by
  intro pins s σ H xs us Q I r h
  obtain ⟨i, rfl, hz, q⟩ := h
  obtain ⟨u, rfl, t, rfl⟩ := vals1 r
  exact PySem.P.str_of_int hz ⟨.str _, H, I.tok _, ⟨_, rfl⟩, q⟩
noncomputable def LenV (K : PySem.W.Frag) (x : V) (H : Hp) (n : Nat) : Prop :=
  match x with
  | .str y => y.length ≤ sizeLine ∧ n = y.length
  | .byt y => y.size ≤ sizeLine ∧ n = y.size
  | .ref p => (∃ xs, SqL K H p xs ∧ n = xs.length) ∨ ∃ xs, SqT K H p xs ∧ n = xs.length
  | _ => False
theorem call_len : CallR X (.builtin "len") (fun xs H Q => ∃ x n, xs = [x] ∧ LenV X.K x H n ∧ Q (.int n) H) := by
  intro pins s σ H xs us Q I r h
  obtain ⟨x, n, rfl, e, q⟩ := h
  obtain ⟨u, rfl, rx⟩ := vals1 r
  have hl := line63
  have hs : sizeLine = 16777216 := sizeLine_eq
  cases x with
  | str y =>
    obtain ⟨t, rfl⟩ := rx
    obtain ⟨hy, e'⟩ : y.length ≤ sizeLine ∧ n = y.length := e
    subst e'
    exact len_str (by omega) ⟨.int _, H, I.tok _, ⟨_, rfl⟩, q⟩
  | byt y =>
    obtain ⟨t, rfl⟩ := rx
    obtain ⟨hy, e'⟩ : y.size ≤ sizeLine ∧ n = y.size := e
    subst e'
    exact PySem.W.len_bytes (by omega) ⟨.int _, H, I.tok _, ⟨_, rfl⟩, q⟩
  | ref p =>
    cases rx
    have e' : (∃ xs, SqL X.K H p xs ∧ n = xs.length) ∨ ∃ xs, SqT X.K H p xs ∧ n = xs.length := e
    rcases e' with ⟨xs, hx, e'⟩ | ⟨xs, hx, e'⟩
    · subst e'
      obtain ⟨its, r', pl, hz⟩ := I.list hx
      have hlen := r'.length
      exact Calls.call_len_list pl.isList (by simp only [List.size_toArray]; omega) ⟨.int xs.length, H, I.tok _, ⟨_, by simp only [List.size_toArray]; rw [hlen]⟩, q⟩
    · subst e'
      obtain ⟨its, r', pl, hz⟩ := I.tuple hx
      have hlen := r'.length
      exact len_tuple pl (by simp only [List.size_toArray]; omega) ⟨.int xs.length, H, I.tok _, ⟨_, by simp only [List.size_toArray]; rw [hlen]⟩, q⟩
  | _ => exact (show False from e).elim
end
end L2
namespace L2
open PySem PySem.Spec PyProof.Rows
structure ObjM (h : Heap) (x dx C : Addr) (mA : Str → Option Value) : Prop where
  obj : h.get? x = some (PySem.W.instObj C dx)
  ns : h.Ns1 dx mA
  ne : dx ≠ x
theorem lookIn_ns {h : Heap} {dx : Addr} {mA : Str → Option Value} (n : h.Ns1 dx mA) : ∃ od, h.get? dx = some od ∧ ∀ name, PySem.W.lookIn name od = some (mA name) := by
  obtain ⟨o, es, ep, ho, hd, hk, _, hm⟩ := n
  refine ⟨o, ho, fun name => ?_⟩
  have e := hm name
  unfold nsFind findBy at e
  rw [← Array.find?_toList] at e
  unfold PySem.W.lookIn
  rw [hd]
  dsimp only
  split
  · rename_i y q
    rw [q] at e
    exact congrArg some e
  · rename_i q
    rw [q] at e
    have a : es.toList.any (·.refKey) = false := by
      rw [List.any_eq_false]
      intro y hy
      obtain ⟨z, t, hkey⟩ := hk y (Array.mem_toList_iff.mp hy)
      simp [DictEntry.refKey, hkey]
    have a' : ¬ es.toList.any (·.refKey) = true := by rw [a]; exact Bool.false_ne_true
    rw [if_neg a']
    exact congrArg some e
theorem ObjM.look {h : Heap} {x dx C : Addr} {mA : Str → Option Value} (I : ObjM h x dx C mA) : ∃ od, PySem.W.InstAt h x (PySem.W.instObj C dx) C (some od) ∧ ∀ name, PySem.W.lookIn name od = some (mA name) :=
  let ⟨od, ho, hl⟩ := lookIn_ns I.ns
  ⟨od, ⟨I.obj, rfl, rfl, ho⟩, hl⟩
section
variable {prog : Program} {w : World} {A : Around} {E : Value → Shared → Prop} {s : Shared} {K : PySem.W.Frag} {x dx C f : Addr} {mA : Str → Option Value} {name : Str} {v : Value}
theorem get_map {expr : Bool} {Q : Value → Shared → Prop} (X : K.In s.heap) (I : ObjM s.heap x dx C mA) (hg : PySem.W.plainGet K C name = true) (hh : PySem.W.hasDictIn K C = true)
    (ha : PySem.W.findIn K (.ref C) name = some none) (hv : mA name = some v) (hv' : PySem.W.handedIn v = true) (h : Q v { s with toks := s.toks + 1 }) :
    wpAny (model prog w) A (getAttr (.ref x) name expr) Q E s := by
  obtain ⟨od, J, hl⟩ := I.look
  exact PySem.W.get_value X J (PySem.W.plainGet_of hg).1 (PySem.W.findObj_own hh ha rfl (by rw [hl, hv])) hv' h
theorem get_meth {pl : Sem Bool} {Q : Value × List Value → Shared → Prop} (X : K.In s.heap) (I : ObjM s.heap x dx C mA) (hg : PySem.W.plainGet K C name = true)
    (hf : PySem.W.findIn K (.ref C) name = some (some (.ref f))) (ht : PySem.W.isFn K (.ref f) = true) (hv : mA name = none) (h : Q (.ref f, [.ref x]) s) :
    wpAny (model prog w) A (getMethod (.ref x) name pl) Q E s := by
  obtain ⟨od, J, hl⟩ := I.look
  exact PySem.W.method_fn X J (PySem.W.plainGet_of hg).1 (PySem.W.plainGet_of hg).2 hf (beq_iff_eq.mp ht) (by show (PySem.W.lookIn name od).map (·.isSome) = some false; rw [hl, hv]; rfl) h
theorem set_map {ns : List Str} {Q : Unit → Shared → Prop} (X : K.In s.heap) (I : ObjM s.heap x dx C mA)
    (hs : PySem.W.findIn K (.ref C) "__setattr__" = some (some (.builtin "object.__setattr__"))) (hp : PySem.W.plainOver K C = true) (ht : PySem.W.takerIn K C name = some none) (hh : PySem.W.hasDictIn K C = true)
    (hw : PySem.Within mA ns) (hsz : ns.length ≤ sizeLine)
    (h : ∀ h', ObjM h' x dx C (fun y => if y = name then some v else mA y) → Heap.SameBut dx s.heap h' → Q () { s with heap := h', toks := s.toks + 2 }) :
    wpAny (model prog w) A (setAttr (.ref x) name v) Q E s := by
  obtain ⟨od, J, hl⟩ := I.look
  refine PySem.W.set_plain X J hs (PySem.W.osa_open (s := { s with toks := s.toks + 1 }) (r := none) X J hp ht fun b => ?_)
  obtain ⟨cd, hc, hd'⟩ := PySem.W.any_some hh
  have hx : s.heap.get? x = some ⟨.ref C, some dx, .plain, #[]⟩ := I.obj
  refine wpAny_bind (wpAny_pure (wpAny_bind (wpAny_bind (wpAny_loadPart hx (wpAny_bind (PySem.W.Looks.here (s := { s with toks := s.toks + 1 }) (PySem.W.looks_clsIn X hc) ?_))))))
  rw [hd']
  refine wpAny_pure (a := some dx) (wpAny_bind (wpAny_pure (wpAny_bind ?_)))
  refine wpAny_nsSet1 (s := { s with toks := s.toks + 1 }) I.ns fun h' hn2 hs2 => ?_
  obtain ⟨oD, esD, epD, hoD, hdD, hcD⟩ := hn2.count (PySem.Within.cons name v hw)
  refine wpAny_bind (wpAny_lookBehind hoD (by rw [hdD]; exact pastItsLine_dict (Nat.le_trans hcD (by rw [List.length_cons]; omega))) ?_)
  exact wpAny_pure (h _ ⟨(hs2.2 _ (Ne.symm I.ne)).trans I.obj, hn2, I.ne⟩ hs2)
theorem make_map {R : Result → Shared → Prop} {vs : List Value} {kw : List (Str × Value)} (X : K.In s.heap) (hm : PySem.W.makesIn K C = true)
    (hi : PySem.W.findIn K (.ref C) "__init__" = some (some (.ref f))) (hf : PySem.W.typeIn K (.ref f) = some (.type "function"))
    (h : codeAny (model prog w) (A.under (.builtin "type.__call__" ⟨.ref C :: vs, kw⟩)) (.call (.ref f) ⟨.ref (s.heap.objs.size + 1) :: vs, kw⟩) (PySem.W.InitBack (s.heap.objs.size + 1) R)
      { s with heap := (s.heap.push PySem.W.emptyDict).push (PySem.W.instObj C s.heap.objs.size) }) :
    codeAny (model prog w) A (.call (.ref C) ⟨vs, kw⟩) R s := by
  obtain ⟨hh, g, d, t, os⟩ := s
  exact PySem.W.make_core (PySem.W.makes_of X hm) (PySem.W.looks_findIn X hi) (fun self => PySem.W.bind_fn X self hf) (.inl rfl) h
end
noncomputable def putF (f : Str) (v : V) : List (Str × V) → List (Str × V)
  | [] => [(f, v)]
  | (g, x) :: r => if g = f then (g, v) :: r else (g, x) :: putF f v r
theorem lookup_putF (f g : Str) (v : V) : ∀ fs : List (Str × V), (putF f v fs).lookup g = if g = f then some v else fs.lookup g
  | [] => by
    show List.lookup g [(f, v)] = _
    by_cases h : g = f
    · have hb : (g == f) = true := beq_iff_eq.mpr h
      simp only [List.lookup, hb, if_pos h]
    · have hb : (g == f) = false := beq_eq_false_iff_ne.mpr h
      simp only [List.lookup, hb, if_neg h]
  | (k, x) :: r => by
    have ih := lookup_putF f g v r
    rw [show putF f v ((k, x) :: r) = (if k = f then (k, v) :: r else (k, x) :: putF f v r) from rfl]
    by_cases hk : k = f
    · rw [if_pos hk]
      by_cases h : g = k
      · have hb : (g == k) = true := beq_iff_eq.mpr h
        simp only [List.lookup, hb, if_pos (h.trans hk)]
      · have hb : (g == k) = false := beq_eq_false_iff_ne.mpr h
        simp only [List.lookup, hb, if_neg (fun e : g = f => h (e.trans hk.symm))]
    · rw [if_neg hk]
      by_cases h : g = k
      · have hb : (g == k) = true := beq_iff_eq.mpr h
        simp only [List.lookup, hb, if_neg (fun e : g = f => hk (h.symm.trans e))]
      · have hb : (g == k) = false := beq_eq_false_iff_ne.mpr h
        simp only [List.lookup, hb]
        exact ih
theorem keys_putF (f : Str) (v : V) : ∀ fs : List (Str × V), f ∈ (putF f v fs).map (·.1) ∧ ∀ g, g ∈ fs.map (·.1) → g ∈ (putF f v fs).map (·.1)
  | [] => ⟨by simp [putF], fun g h => by simp at h⟩
  | (k, x) :: r => by
    obtain ⟨i1, i2⟩ := keys_putF f v r
    rw [show putF f v ((k, x) :: r) = (if k = f then (k, v) :: r else (k, x) :: putF f v r) from rfl]
    by_cases hk : k = f
    · rw [if_pos hk]
      subst hk
      exact ⟨by simp, fun g h => by simpa using h⟩
    · rw [if_neg hk]
      refine ⟨?_, fun g h => ?_⟩
      · rw [List.map_cons]
        exact List.mem_cons_of_mem _ i1
      · rw [List.map_cons] at h ⊢
        rcases List.mem_cons.mp h with e | e
        · exact List.mem_cons.mpr (.inl e)
        · exact List.mem_cons_of_mem _ (i2 g e)
theorem length_putF (f : Str) (v : V) : ∀ fs : List (Str × V), (putF f v fs).length ≤ fs.length + 1
  | [] => by simp [putF]
  | (k, x) :: r => by
    have ih := length_putF f v r
    rw [show putF f v ((k, x) :: r) = (if k = f then (k, v) :: r else (k, x) :: putF f v r) from rfl]
    by_cases hk : k = f
    · rw [if_pos hk, List.length_cons, List.length_cons]; omega
    · rw [if_neg hk, List.length_cons, List.length_cons]; omega
theorem RelO.some_of {v : V} {o : Option Value} (r : RelO (some v) o) : ∃ u, o = some u ∧ RelV v u := by
  cases o with
  | none => exact (show False from r).elim
  | some u => exact ⟨u, rfl, r⟩
theorem RelO.none_of {o : Option Value} (r : RelO none o) : o = none := by
  cases o with
  | none => rfl
  | some u => exact (show False from r).elim
theorem handed_of {v : V} {u : Value} (r : RelV v u) : PySem.W.handedIn u = true := by
  cases v with
  | non => cases (show u = Value.none from r); rfl
  | bl b => cases (show u = Value.bool b from r); rfl
  | int i => obtain ⟨t, e⟩ := (show ∃ t, u = Value.int i t from r); cases e; rfl
  | str x => obtain ⟨t, e⟩ := (show ∃ t, u = Value.str x t from r); cases e; rfl
  | byt b => obtain ⟨t, e⟩ := (show ∃ t, u = Value.bytes b t from r); cases e; rfl
  | flt b => obtain ⟨t, e⟩ := (show ∃ t, u = Value.float b t from r); cases e; rfl
  | ref a => cases (show u = Value.ref a from r); rfl
  | ty n => cases (show u = Value.type n from r); rfl
section
variable {P : Program} {w : World} {H H' : Hp} {h h' : Heap} {a C dx : Addr} {fs fs' : List (Str × V)}
theorem ins_get (hok : HOk P w H h) (e : H a = some (.ins C dx fs)) : ∃ mA, ObjM h a dx C mA ∧ (∀ f, RelO (fs.lookup f) (mA f)) ∧ PySem.Within mA (fs.map (·.1)) ∧ fs.length ≤ 1000 ∧ H dx = some (.own a) := by
  obtain ⟨d, z, ne, ob, mA, n, r, q⟩ := (show ObjOk P w H h a (.ins C dx fs) from hok a _ e)
  exact ⟨mA, ⟨ob, n, ne⟩, r, q, z, d⟩
end
structure Cls (K : PySem.W.Frag) (C : Addr) : Prop where
  pg : PySem.W.plainGet K C Str.empty = true
  hd : PySem.W.hasDictIn K C = true
  po : PySem.W.plainOver K C = true
  sa : PySem.W.findIn K (.ref C) "__setattr__" = some (some (.builtin "object.__setattr__"))
theorem Cls.get {K : PySem.W.Frag} {C : Addr} (c : Cls K C) (f : Str) : PySem.W.plainGet K C f = true := c.pg
noncomputable def NoAttr (K : PySem.W.Frag) (C : Addr) (f : Str) : Prop := PySem.W.findIn K (.ref C) f = some none
theorem NoAttr.taker {K : PySem.W.Frag} {C : Addr} {f : Str} (n : NoAttr K C f) : PySem.W.takerIn K C f = some none := by
  unfold PySem.W.takerIn
  rw [show PySem.W.findIn K (.ref C) f = some none from n]
  rfl
structure Meth (K : PySem.W.Frag) (C : Addr) (m : Str) (f : Addr) : Prop where
  at_ : PySem.W.findIn K (.ref C) m = some (some (.ref f))
  fn : PySem.W.isFn K (.ref f) = true
  kp : PySem.W.keepIn K (.ref f) = true
section
variable {X : Cx} {pins : List (Addr × Obj)} {σ : St} {H : Hp} {s : Shared} {a C dx : Addr} {fs : List (Str × V)} {f : Str} {v : V} {A : Around} {E : Value → Shared → Prop}
theorem getattr_ok {b : Bool} {Q : Value → Shared → Prop} (I : Inv X pins σ H s) (e : H a = some (.ins C dx fs)) (c : Cls X.K C) (n : NoAttr X.K C f) (l : fs.lookup f = some v)
    (h : ∀ u s', Inv X pins σ H s' → RelV v u → Q u s') : wpAny (model X.prog X.w) A (getAttr (.ref a) f b) Q E s := by
  obtain ⟨mA, O, r, _, _, _⟩ := ins_get I.hok e
  obtain ⟨u, hu, ru⟩ := RelO.some_of (v := v) (o := mA f) (by rw [← l]; exact r f)
  exact get_map I.kIn O (c.get f) c.hd n hu (handed_of ru) (h u _ (I.tok _) ru)
theorem getmeth_ok {m : Str} {g : Addr} {pl : Sem Bool} {Q : Value × List Value → Shared → Prop} (I : Inv X pins σ H s) (e : H a = some (.ins C dx fs)) (c : Cls X.K C) (k : Meth X.K C m g) (l : fs.lookup m = none)
    (h : Q (.ref g, [.ref a]) s) : wpAny (model X.prog X.w) A (getMethod (.ref a) m pl) Q E s := by
  obtain ⟨mA, O, r, _, _, _⟩ := ins_get I.hok e
  have hn : mA m = none := RelO.none_of (by rw [← l]; exact r m)
  exact get_meth I.kIn O (c.get m) k.at_ k.fn hn h
theorem setattr_ok {y : V} {u : Value} {Q : Unit → Shared → Prop} (I : Inv X pins σ H s) (e : H a = some (.ins C dx fs)) (c : Cls X.K C) (n : NoAttr X.K C f) (hl : fs.length < 1000) (ry : RelV y u)
    (h : ∀ s', Inv X pins σ (upd H a (.ins C dx (putF f y fs))) s' → Q () s') : wpAny (model X.prog X.w) A (setAttr (.ref a) f u) Q E s := by
  obtain ⟨mA, O, r, wi, _, ho⟩ := ins_get I.hok e
  have hz : (fs.map (·.1)).length ≤ sizeLine := by rw [List.length_map, sizeLine_eq]; omega
  refine set_map I.kIn O c.sa c.po n.taker c.hd wi hz fun h' O' sb => h _ ?_
  have hd : ∃ o, h'.get? dx = some o := let ⟨o, _, _, e', _⟩ := O'.ns; ⟨o, e'⟩
  refine I.write (x := a) (e := dx) (by rw [e]; exact True.intro) (.inr ho) (fun b q hb z => (sb.2 b hb).trans z) hd ?_
  refine ⟨by rw [upd_ne O.ne]; exact ho, ?_, O.ne, O'.obj, _, O'.ns, fun g => ?_, fun g hg => ?_⟩
  · have := length_putF f y fs; omega
  · show RelO ((putF f y fs).lookup g) (if g = f then some u else mA g)
    rw [lookup_putF]
    by_cases q : g = f
    · rw [if_pos q, if_pos q]; exact ry
    · rw [if_neg q, if_neg q]; exact r g
  · by_cases q : g = f
    · rw [q]; exact (keys_putF f y fs).1
    · refine (keys_putF f y fs).2 g (wi g fun z => hg ?_)
      show (if g = f then some u else mA g) = none
      rw [if_neg q]; exact z
theorem Inv.made (I : Inv X pins σ H s) : Inv X pins σ (upd (upd H s.heap.objs.size (.own (s.heap.objs.size + 1))) (s.heap.objs.size + 1) (.ins C s.heap.objs.size []))
    { s with heap := (s.heap.push PySem.W.emptyDict).push (PySem.W.instObj C s.heap.objs.size) } := by
  have e1 : (s.heap.push PySem.W.emptyDict).get? s.heap.objs.size = some PySem.W.emptyDict := Heap.get?_push_size s.heap rfl
  have e2 : ((s.heap.push PySem.W.emptyDict).push (PySem.W.instObj C s.heap.objs.size)).get? (s.heap.objs.size + 1) = some (PySem.W.instObj C s.heap.objs.size) := by
    have := Heap.get?_push_size (s.heap.push PySem.W.emptyDict) (o := PySem.W.instObj C s.heap.objs.size) rfl
    rwa [Heap.size_push] at this
  have e3 : (s.heap.push PySem.W.emptyDict).Ns s.heap.objs.size (fun _ => none) := ⟨PySem.W.emptyDict, #[], _, e1, rfl, (fun e he => absurd he (by simp)), fun _ => rfl⟩
  have I1 := I.laid (a := s.heap.objs.size) (o := .own (s.heap.objs.size + 1)) (h' := s.heap.push PySem.W.emptyDict) (t' := s.toks) (fun b u q => Heap.get?_push_of_some _ q) (Nat.le_refl _) ⟨_, e1⟩
  refine I1.laid (a := s.heap.objs.size + 1) (o := .ins C s.heap.objs.size []) (t' := s.toks) (fun b u q => Heap.get?_push_of_some _ q) (Nat.le_of_eq (Heap.size_push _ _)) ?_
  have ne : s.heap.objs.size ≠ s.heap.objs.size + 1 := Nat.ne_of_lt (Nat.lt_succ_self _)
  refine ⟨by rw [upd_ne ne, upd_same], Nat.zero_le _, ne, e2, fun _ => none, (Heap.Ns1.of_empty e3).at fun o q => Heap.get?_push_of_some _ q, fun _ => True.intro, fun y hy => absurd rfl hy⟩
theorem attr_of {prog : Program} {w : World} {env : Env} {e : Expr} {f : Str} {pos : Pos} {s : Shared} {Q : Value → Shared → Prop} (hb : attributeBase e f env (eval e env) = eval e env)
    (h : wpAny (model prog w) A (eval e env) (fun o s₁ => wpAny (model prog w) A (getAttr o f true) Q E s₁) E s) : wpAny (model prog w) A (eval (.Attribute e f pos) env) Q E s :=
  Attribute_any_ h (by rw [arm_eval_Attribute, hb])
end
noncomputable def tFld (K : PySem.W.Frag) (ta : TE) (f : Str) : TE := fun σ H Q => ta σ H fun x H1 => ∃ a C dx fs v, x = .ref a ∧ H1 a = some (.ins C dx fs) ∧ Cls K C ∧ NoAttr K C f ∧ fs.lookup f = some v ∧ Q v H1
noncomputable def sFld (K : PySem.W.Frag) (ta tv : TE) (f : Str) : TS := fun D σ H => tv σ H fun y H1 => ta σ H1 fun x H2 => ∃ a C dx fs, x = .ref a ∧ H2 a = some (.ins C dx fs) ∧ Cls K C ∧ NoAttr K C f ∧ fs.length < 1000 ∧
  D.nx σ (upd H2 a (.ins C dx (putF f y fs)))
section
variable {X : Cx} {o e value : Expr} {f : Str} {pos pos' tpos : Pos} {ta tv : TE}
theorem pe_fld (he : PE X e ta) (hb : attributeBase e f X.env (eval e X.env) = eval e X.env) : PE X (.Attribute e f pos) (tFld X.K ta f) := by
  intro pins s σ H Q I h
  refine attr_of hb (thn (he pins s σ H _ I h) fun u s1 ⟨x, H1, I1, rx, a, C, dx, fs, v, ex, ea, c, n, l, q⟩ => ?_)
  subst ex
  obtain rfl : u = Value.ref a := rx
  exact getattr_ok I1 ea c n l fun u' s2 I2 ru => ⟨v, H1, I2, ru, q⟩
theorem ps_fld (ha : PE X o ta) (hv : PE X value tv) (hs : swapsWith value (some (.Attribute o f pos')) pos.line X.env = pure false) : PS X (.Assign [.Attribute o f pos'] value pos) (sFld X.K ta tv f) := by
  intro pins s σ H D I h
  refine plainObj_wpAny_Assign_Attribute (thn (hv pins s σ H _ I h) fun u s1 ⟨y, H1, I1, ry, q⟩ => thn (ha pins s1 σ H1 _ I1 q) fun ov s2 ⟨x, H2, I2, rx, a, C, dx, fs, ex, ea, c, n, l, q2⟩ => ?_) hs
  subst ex
  obtain rfl : ov = Value.ref a := rx
  exact setattr_ok I2 ea c n l ry fun s3 I3 => ⟨σ, _, I3, q2⟩
end
section
variable {X : Cx} {pins : List (Addr × Obj)} {σ : St} {H : Hp} {s : Shared} {A : Around} {E : Value → Shared → Prop} {Q : Value → Shared → Prop} {c : Value} {b : Bool}
inductive TyOf (K : PySem.W.Frag) (H : Hp) : V → Value → Prop where
  | non : TyOf K H .non (.type "NoneType")
  | bl (x : Bool) : TyOf K H (.bl x) (.type "bool")
  | int (i : Int) : TyOf K H (.int i) (.type "int")
  | str (x : Str) : TyOf K H (.str x) (.type "str")
  | flt (x : UInt64) : TyOf K H (.flt x) (.type "float")
  | lst {a : Addr} {xs : List V} (e : H a = some (.lst xs)) : TyOf K H (.ref a) (.type "list")
  | frz {a : Addr} {o : Obj} {xs : List V} (e : H a = some (.frz o (.lst xs))) : TyOf K H (.ref a) (.type "list")
  | tup {a : Addr} {xs : List V} (e : H a = some (.tup xs)) : TyOf K H (.ref a) (.type "tuple")
  | dK {a : Addr} {kvs : List (Key × V)} (e : H a = some (.dK kvs)) : TyOf K H (.ref a) (.type "dict")
  | dT {a : Addr} {kvs : List (List Key × V)} (e : H a = some (.dT kvs)) : TyOf K H (.ref a) (.type "dict")
  | ins {a C dx : Addr} {fs : List (Str × V)} (e : H a = some (.ins C dx fs)) (cl : Cls K C) (ha : PySem.W.findIn K (.ref C) "__class__" = some (some (.builtin "object.__class__")))
      (hn : PySem.W.specialIn K (.builtin "object.__class__") "__get__" = some (some (.builtin "getset_descriptor.__get__"))) (htk : PySem.W.takesIn K (.builtin "object.__class__") = some true)
      (hm : PySem.W.mroIn K C (.type "object") = some true) : TyOf K H (.ref a) (.ref C)
theorem isinst_ok {x : V} {u t : Value} (I : Inv X pins σ H s) (rx : RelV x u) (ty : TyOf X.K H x t) (e : PySem.W.kitOne X.K t c = some b) (h : ∀ tk, Q (.bool b) { s with toks := tk }) :
    wpAny (model X.prog X.w) A (call (.builtin "isinstance") [u, c]) Q E s := by
  cases ty with
  | non => cases (show u = Value.none from rx); exact PySem.W.kia_one PySem.W.kitx_none I.kIn True.intro e (fun z => nomatch z) h
  | bl y => cases (show u = Value.bool y from rx); exact PySem.W.kia_one PySem.W.kitx_bool I.kIn True.intro e (fun z => nomatch z) h
  | int i => obtain ⟨t, q⟩ := (show ∃ t, u = Value.int i t from rx); cases q; exact PySem.W.kia_one PySem.W.kitx_int I.kIn True.intro e (fun z => nomatch z) h
  | str y => obtain ⟨t, q⟩ := (show ∃ t, u = Value.str y t from rx); cases q; exact PySem.W.kia_one PySem.W.kitx_str I.kIn True.intro e (fun z => nomatch z) h
  | flt y => obtain ⟨t, q⟩ := (show ∃ t, u = Value.float y t from rx); cases q; exact PySem.W.kia_one PySem.W.kitx_float I.kIn True.intro e (fun z => nomatch z) h
  | @lst a xs ea =>
    cases (show u = Value.ref a from rx)
    obtain ⟨_, _, n, _, h1⟩ := (show ObjOk X.prog X.w H s.heap a (.lst xs) from I.hok a _ ea)
    exact PySem.W.kia_one PySem.W.kitx_list I.kIn ⟨_, h1, rfl⟩ e (fun z => nomatch z) h
  | @frz a ob xs ea =>
    cases (show u = Value.ref a from rx)
    obtain ⟨_, _, _, n, _, h1⟩ := (show ObjOk X.prog X.w H s.heap a (.frz ob (.lst xs)) from I.hok a _ ea)
    exact PySem.W.kia_one PySem.W.kitx_list I.kIn ⟨_, h1, rfl⟩ e (fun z => nomatch z) h
  | @tup a xs ea =>
    cases (show u = Value.ref a from rx)
    obtain ⟨_, _, _, p⟩ := (show ObjOk X.prog X.w H s.heap a (.tup xs) from I.hok a _ ea)
    obtain ⟨o, h1, h2, _⟩ := p
    exact PySem.W.kia_one PySem.W.kitx_tuple I.kIn ⟨o, h1, h2⟩ e (fun z => nomatch z) h
  | @dK a kvs ea =>
    cases (show u = Value.ref a from rx)
    obtain ⟨_, _, vs, _, p⟩ := (show ObjOk X.prog X.w H s.heap a (.dK kvs) from I.hok a _ ea)
    obtain ⟨o, es, ep, h1, h2, _⟩ := p
    exact PySem.W.kia_one PySem.W.kitx_dict I.kIn ⟨o, h1, h2.1⟩ e (fun z => nomatch z) h
  | @dT a kvs ea =>
    cases (show u = Value.ref a from rx)
    obtain ⟨_, _, xs, _, o, es, ep, h1, h2, _⟩ := (show ObjOk X.prog X.w H s.heap a (.dT kvs) from I.hok a _ ea)
    exact PySem.W.kia_one PySem.W.kitx_dict I.kIn ⟨o, h1, h2.1⟩ e (fun z => nomatch z) h
  | @ins a C dx fs ea cl ha hn htk hm =>
    cases (show u = Value.ref a from rx)
    obtain ⟨mA, O, _⟩ := ins_get I.hok ea
    obtain ⟨od, J, _⟩ := O.look
    exact PySem.W.kia_one (PySem.W.kitx_own (cl.get _) cl.hd ha hn htk hm) I.kIn J e (fun z => nomatch z) h
end
end L2
namespace L2
open PySem PySem.Spec PyProof.Rows
structure Room (k : Nat) (A : Around) : Prop where
  hd : A.handled = none
  dp : A.depth + 3 * k + 5 < recursionLimit
  un : A.units + 16 * k + 200 < cLine
theorem Room.mono {j k : Nat} {A : Around} (r : Room k A) (h : j ≤ k) : Room j A := ⟨r.hd, by have := r.dp; omega, by have := r.un; omega⟩
theorem Room.deeper {k : Nat} {A : Around} (r : Room (k + 1) A) (env : Env) : Room k (A.deeper env) :=
  ⟨r.hd, by have := r.dp; show A.depth + 1 + 3 * k + 5 < _; omega, by have := r.un; show A.units + 3 + 16 * k + 200 < _; omega⟩
theorem Room.in1 {k : Nat} {A : Around} (r : Room (k + 1) A) : Room k A.in1 :=
  ⟨r.hd, by have := r.dp; show A.depth + 3 * k + 5 < _; omega, by have := r.un; show A.units + 1 + 16 * k + 200 < _; omega⟩
theorem make_depth {A : Around} {C : Addr} {us : List Value} {kw : List (Str × Value)} : (A.under (.builtin "type.__call__" ⟨.ref C :: us, kw⟩)).depth = A.depth + 1 := by
  first | rfl | simp [Around.under, Code.weight, Code.isCreation, Code.isGuard, Code.isCaller, Code.frames, Code.isFrame, guardIds]
theorem make_units {A : Around} {C : Addr} {us : List Value} {kw : List (Str × Value)} : (A.under (.builtin "type.__call__" ⟨.ref C :: us, kw⟩)).units = A.units + 1 := by
  first | rfl | simp [Around.under, Code.cUnits, Code.frames, Code.isFrame]
theorem Room.make {k : Nat} {A : Around} (r : Room (k + 1) A) (C : Addr) (us : List Value) (kw : List (Str × Value)) : Room k (A.under (.builtin "type.__call__" ⟨.ref C :: us, kw⟩)) :=
  ⟨r.hd, by have := r.dp; rw [make_depth]; omega, by have := r.un; rw [make_units]; omega⟩
theorem Room.depth {k : Nat} {A : Around} (r : Room k A) : A.depth < recursionLimit := by have := r.dp; omega
theorem Room.units {k : Nat} {A : Around} (r : Room k A) : A.units + 64 < cLine := by have := r.un; omega
noncomputable def tNil : TA := fun _ H Q => Q [] H
noncomputable def tCons (ta : TE) (tr : TA) : TA := fun σ H Q => ta σ H fun x H1 => tr σ H1 fun xs H2 => Q (x :: xs) H2
section
variable {X : Cx} {e : Expr} {es : List Expr} {te : TE} {t : TA} {pos : Pos}
theorem pa_nil : PA X [] tNil := fun _ _ _ _ H Q I h => Calls.spliced_nil ⟨[], H, I, .nil, h⟩
theorem pa_cons (ha : PE X e te) (hr : PA X es t) (hs : starEach (e :: es) X.env = (false, eval e X.env) :: starEach es X.env := by rfl) : PA X (e :: es) (tCons te t) := by
  intro pos pins s σ H Q I h
  rw [hs]
  show wpAny _ _ (spliced ((false, eval e X.env) :: backTo pos (starEach es X.env))) _ _ s
  refine Calls.spliced_cons (thn (ha pins s σ H _ I h) fun u s1 ⟨x, H1, I1, r1, q1⟩ => ?_)
  exact thn (hr pos pins s1 σ H1 _ I1 q1) fun us s2 ⟨xs, H2, I2, r2, q2⟩ => ⟨x :: xs, H2, I2, .cons r1 r2, q2⟩
noncomputable def tTup (t : TA) : TE := fun σ H Q => t σ H fun xs H1 => xs.length ≤ sizeLine ∧ ∀ p, H1 p = none → Q (.ref p) (upd H1 p (.tup xs))
noncomputable def tLst (t : TA) : TE := fun σ H Q => t σ H fun xs H1 => xs.length ≤ sizeLine ∧ ∀ p, H1 p = none → Q (.ref p) (upd H1 p (.lst xs))
theorem pe_tup {x1} (h : PA X es t) : PE X (.Tuple es x1 pos) (tTup t) := by
  intro pins s σ H Q I hq
  refine wpAny_Tuple_spliced (thn (h pos pins s σ H _ I hq) fun us s1 ⟨xs, H1, I1, r, z, q⟩ => ⟨by rw [← r.length]; exact z, ?_⟩)
  have hf : H1 s1.heap.objs.size = none := I1.hok.fresh (Nat.le_refl _)
  refine ⟨.ref s1.heap.objs.size, upd H1 s1.heap.objs.size (.tup xs), I1.laid (t' := s1.toks) (fun b u e => Heap.get?_push_of_some _ e) (Nat.le_refl _) ?_, rfl, q _ hf⟩
  exact ⟨z, us, r, ⟨_, Heap.get?_push_size _ rfl, rfl, _, rfl⟩⟩
theorem pe_lst (h : PA X es t) : PE X (.List es pos) (tLst t) := by
  intro pins s σ H Q I hq
  refine wpAny_List_spliced (thn (h pos pins s σ H _ I hq) fun us s1 ⟨xs, H1, I1, r, z, q⟩ => ⟨by rw [← r.length]; exact z, ?_⟩)
  have hf : H1 s1.heap.objs.size = none := I1.hok.fresh (Nat.le_refl _)
  refine ⟨.ref s1.heap.objs.size, upd H1 s1.heap.objs.size (.lst xs), I1.laid (t' := s1.toks) (fun b u e => Heap.get?_push_of_some _ e) (Nat.le_refl _) ?_, rfl, q _ hf⟩
  exact ⟨z, us, 0, r, Heap.get?_push_size _ rfl⟩
end
noncomputable abbrev Sp := List V → Hp → VK → XK → Prop
noncomputable abbrev CXT := List Env → Hp → Shared → XK → Value → Shared → Prop
structure Env0 (P : Program) (w : World) (K : PySem.W.Frag) (mg : Str → Option Value) (base : Heap) (A : Around) (outer : List Env) (s : Shared) (H : Hp) : Prop where
  frames : A.frames = some outer
  mod : Mod K mg base
  bs : ∀ b o, base.get? b = some o → s.heap.get? b = some o ∧ H b = none
  bsz : base.objs.size ≤ s.heap.objs.size
  funs : s.heap.FunFrames base outer
  frf : ∀ b ∈ frs outer, H b = none
  hok : HOk P w H s.heap
  bare : AllBare s.gens
noncomputable def CE (outer : List Env) (P : Program) (w : World) (H : Hp) (s : Shared) (Q : VK) (u : Value) (s' : Shared) : Prop :=
  ∃ v H', s'.os = s.os ∧ AllBare s'.gens ∧ Un (frs outer) [] H H' s.heap s'.heap ∧ HOk P w H' s'.heap ∧ RelV v u ∧ Q v H'
noncomputable def CR (CX : CXT) (outer : List Env) (P : Program) (w : World) (H : Hp) (s : Shared) (Q : VK) (E : XK) (r : Result) (s' : Shared) : Prop :=
  match r with
  | .ok (.ret u) => CE outer P w H s Q u s'
  | .ok _ => False
  | .error e => CX outer H s E e s'
structure FnOk (P : Program) (w : World) (K : PySem.W.Frag) (mg : Str → Option Value) (base : Heap) (CX : CXT) (k : Nat) (f : Addr) (fd : FuncData) (ps : List Str) (sp : Sp) : Prop where
  len : ∀ vs H Q E, sp vs H Q E → vs.length = ps.length
  run : ∀ (A : Around) (outer : List Env) (s : Shared) (H : Hp) (args : Args) (us : List Value) (vs : List V) (Q : VK) (E : XK), Room k A → Env0 P w K mg base A outer s H → BindsTo s fd args (ps.zip us) → Vals vs us → sp vs H Q E →
    codeAny (model P w) A (.call (.ref f) args) (CR CX outer P w H s Q E) s
theorem FnOk.mono {P : Program} {w : World} {K : PySem.W.Frag} {mg : Str → Option Value} {base : Heap} {CX : CXT} {j k : Nat} {f : Addr} {fd : FuncData} {ps : List Str} {sp : Sp} (F : FnOk P w K mg base CX j f fd ps sp) (h : j ≤ k) :
    FnOk P w K mg base CX k f fd ps sp := ⟨F.len, fun A outer s H args us vs Q E hr => F.run A outer s H args us vs Q E (hr.mono h)⟩
theorem FnOk.imp {P : Program} {w : World} {K : PySem.W.Frag} {mg : Str → Option Value} {base : Heap} {CX : CXT} {k : Nat} {f : Addr} {fd : FuncData} {ps : List Str} {sp sp' : Sp} (F : FnOk P w K mg base CX k f fd ps sp)
    (h : ∀ vs H Q E, sp' vs H Q E → sp vs H Q E) : FnOk P w K mg base CX k f fd ps sp' :=
  ⟨fun vs H Q E q => F.len vs H Q E (h _ _ _ _ q), fun A outer s H args us vs Q E hr he hb hv hs => F.run A outer s H args us vs Q E hr he hb hv (h _ _ _ _ hs)⟩
theorem Env0.make {P : Program} {w : World} {K : PySem.W.Frag} {mg : Str → Option Value} {base : Heap} {A : Around} {outer : List Env} {s : Shared} {H : Hp} (e : Env0 P w K mg base A outer s H) (C : Addr) (us : List Value) (kw : List (Str × Value)) :
    Env0 P w K mg base (A.under (.builtin "type.__call__" ⟨.ref C :: us, kw⟩)) outer s H := ⟨by first | exact e.frames | (simpa [Around.under, Code.envs, Code.isFrame, pushEnvs] using e.frames), e.mod, e.bs, e.bsz, e.funs, e.frf, e.hok, e.bare⟩
theorem Env0.in1 {P : Program} {w : World} {K : PySem.W.Frag} {mg : Str → Option Value} {base : Heap} {A : Around} {outer : List Env} {s : Shared} {H : Hp} (e : Env0 P w K mg base A outer s H) :
    Env0 P w K mg base A.in1 outer s H := ⟨e.frames, e.mod, e.bs, e.bsz, e.funs, e.frf, e.hok, e.bare⟩
section
variable {X : Cx} {pins : List (Addr × Obj)} {σ : St} {H : Hp} {s s' : Shared}
theorem Inv.env0 (I : Inv X pins σ H s) : Env0 X.prog X.w X.K X.mg X.base X.A X.stack s H :=
  ⟨I.ok.frames, I.ok.mod, I.bs, Nat.le_trans I.ok.bsz I.sz, I.stack, I.stkFree, I.hok, I.bare⟩
theorem Inv.after {Q : VK} {u : Value} (I : Inv X pins σ H s) (h : CE X.stack X.prog X.w H s Q u s') : EP X pins σ Q u s' := by
  obtain ⟨v, H', os, bare, un, hok, r, q⟩ := h
  obtain ⟨hh, g, d, t, os'⟩ := s'
  obtain rfl : os' = s.os := os
  exact ⟨v, H', I.call (h' := hh) (g' := g) (d' := d) (t' := t) (ch := []) un hok bare (fun b z => absurd z (by simp)), r, q⟩
end
noncomputable def tCall (sp : Sp) (dvs : List V) (E : XK) (t : TA) : TE := fun σ H Q => t σ H fun vs H1 => sp (vs ++ dvs) H1 Q E
noncomputable def tMeth (C : Addr) (m : Str) (sp : Sp) (dvs : List V) (E : XK) (ta : TE) (t : TA) : TE := fun σ H Q => ta σ H fun x H1 => ∃ a dx fs, x = .ref a ∧ H1 a = some (.ins C dx fs) ∧ fs.lookup m = none ∧
  t σ H1 fun vs H2 => sp (x :: (vs ++ dvs)) H2 Q E
noncomputable def tMake (C : Addr) (sp : Sp) (dvs : List V) (E : XK) (t : TA) : TE := fun σ H Q => t σ H fun vs H1 => ∀ x dx, H1 x = none → H1 dx = none → dx ≠ x →
  sp (.ref x :: (vs ++ dvs)) (upd (upd H1 dx (.own x)) x (.ins C dx [])) (fun v H2 => v = .non ∧ Q (.ref x) H2) E
noncomputable def Binds (K : PySem.W.Frag) (fd : FuncData) (ps : List Str) (ds : List Value) : Prop :=
  ∀ (s : Shared) (us : List Value), K.In s.heap → (us ++ ds).length = ps.length → BindsTo s fd ⟨us, []⟩ (ps.zip (us ++ ds))
theorem Binds.all {K : PySem.W.Frag} {fd : FuncData} {ps : List Str} (h : ∀ us : List Value, us.length = ps.length → bindArgs fd ⟨us, []⟩ = pure (ps.zip us)) : Binds K fd ps [] := fun s us _ hl => by
  rw [List.append_nil] at hl ⊢
  exact .of_eq (h us hl)
noncomputable def Passes (CX : CXT) (X : Cx) (E : XK) : Prop := ∀ (pins : List (Addr × Obj)) (σ : St) (H : Hp) (s : Shared) (e : Value) (s' : Shared), Inv X pins σ H s → CX X.stack H s E e s' → X.xe e s'
section
variable {X : Cx} {CX : CXT} {k : Nat} {f C : Addr} {fd : FuncData} {ps : List Str} {sp : Sp} {dvs : List V} {ds : List Value} {E : XK} {x m : Str} {p pos apos : Pos} {e o : Expr} {es : List Expr} {ta : TE} {t : TA}
theorem run_fn {pins : List (Addr × Obj)} {σ : St} {H : Hp} {s : Shared} {Q : VK} {us : List Value} {vs : List V} (F : FnOk X.prog X.w X.K X.mg X.base CX k f fd ps sp) (hr : Room k X.A) (hb : Binds X.K fd ps ds) (hd : Vals dvs ds) (hx : Passes CX X E)
    (I : Inv X pins σ H s) (r : Vals vs us) (h : sp (vs ++ dvs) H Q E) : wpAny (model X.prog X.w) X.A (call (.ref f) us) (EP X pins σ Q) X.xe s := by
  have r2 : Vals (vs ++ dvs) (us ++ ds) := r.append hd
  have hl : (us ++ ds).length = ps.length := by rw [← r2.length]; exact F.len _ _ _ _ h
  refine wpAny_call (codeAny_mono (F.run X.A X.stack s H ⟨us, []⟩ (us ++ ds) (vs ++ dvs) Q E hr I.env0 (hb s us I.kIn hl) r2 h) fun r s' hq => ?_)
  cases r with
  | error e => exact hx pins σ H s e s' I hq
  | ok fl =>
    cases fl with
    | ret u => exact I.after hq
    | next => exact False.elim hq
    | brk => exact False.elim hq
    | cont => exact False.elim hq
theorem pe_call (F : FnOk X.prog X.w X.K X.mg X.base CX k f fd ps sp) (hr : Room k X.A) (hg : Gl X x) (hm : X.mg x = some (.ref f)) (hk : PySem.W.keepIn X.K (.ref f) = true) (hb : Binds X.K fd ps ds) (hd : Vals dvs ds) (hx : Passes CX X E)
    (ha : PA X (e :: es) t) (hdb : (x == ("__debug__" : Str)) = false := by decide) (he : starEach (e :: es) X.env = (false, eval e X.env) :: starEach es X.env := by rfl) (hpl : (backTo pos (starEach es X.env)).any (·.1) = false := by rfl) :
    PE X (.Call (.Name x p) (e :: es) [] pos) (tCall sp dvs E t) := by
  intro pins s σ H Q I h
  refine wpAny_Call_Name_kw (ld_glob I hg hm ?_ hdb)
  refine PySem.W.callWith_K (h₀ := X.base) I.ok.mod.kin hk (thn (ha pos pins s σ H _ I h) fun us s1 ⟨vs, H1, I1, r, q⟩ => ⟨I1.kIn, ?_⟩) he hpl
  exact run_fn F hr hb hd hx I1 r q
theorem pe_meth {pl : Sem Bool} (he : PE X o ta) (c : Cls X.K C) (hm : Meth X.K C m f) (F : FnOk X.prog X.w X.K X.mg X.base CX k f fd ps sp) (hr : Room k X.A) (hb : Binds X.K fd ps ds) (hd : Vals dvs ds) (hx : Passes CX X E) (ha : PA X (e :: es) t)
    (hst : starEach (e :: es) X.env = (false, eval e X.env) :: starEach es X.env := by rfl) (hpl : (backTo pos (starEach es X.env)).any (·.1) = false := by rfl)
    (ht : eval (.Call (.Attribute o m apos) (e :: es) [] pos) X.env = (do
      let ov ← eval o X.env
      standAt apos.atName
      let (f, first) ← holding [ov] (getMethod ov m pl)
      callWith pos f first (backTo pos (starEach (e :: es) X.env)) (backToKw pos (keywordEach [] X.env))) := by rfl) :
    PE X (.Call (.Attribute o m apos) (e :: es) [] pos) (tMeth C m sp dvs E ta t) := by
  intro pins s σ H Q I h
  refine PySem.W.methodCall_KW (pl := pl) (thn (he pins s σ H _ I h) fun u s1 ⟨x, H1, I1, rx, a, dx, fs, ex, ea, l, q⟩ => ?_) ht
  subst ex
  obtain rfl : u = Value.ref a := rx
  refine getmeth_ok I1 ea c hm l ?_
  refine PySem.W.callWith_K (first := [.ref a]) (h₀ := X.base) I.ok.mod.kin hm.kp (thn (ha pos pins s1 σ H1 _ I1 q) fun us s2 ⟨vs, H2, I2, r, q2⟩ => ⟨I2.kIn, ?_⟩) hst hpl
  exact run_fn (us := .ref a :: us) (vs := .ref a :: vs) F hr hb hd hx I2 (.cons rfl r) q2
theorem pe_meth0 {pl : Sem Bool} (he : PE X o ta) (c : Cls X.K C) (hm : Meth X.K C m f) (F : FnOk X.prog X.w X.K X.mg X.base CX k f fd ps sp) (hr : Room k X.A) (hb : Binds X.K fd ps ds) (hd : Vals dvs ds) (hx : Passes CX X E)
    (ht : eval (.Call (.Attribute o m apos) [] [] pos) X.env = (do
      let ov ← eval o X.env
      standAt apos.atName
      let (f, first) ← holding [ov] (getMethod ov m pl)
      callWith pos f first (backTo pos (starEach [] X.env)) (backToKw pos (keywordEach [] X.env))) := by rfl) :
    PE X (.Call (.Attribute o m apos) [] [] pos) (tMeth C m sp dvs E ta tNil) := by
  intro pins s σ H Q I h
  refine PySem.W.methodCall_KW (pl := pl) (thn (he pins s σ H _ I h) fun u s1 ⟨x, H1, I1, rx, a, dx, fs, ex, ea, l, q⟩ => ?_) ht
  subst ex
  obtain rfl : u = Value.ref a := rx
  refine getmeth_ok I1 ea c hm l ?_
  exact PySem.W.callWith_K0 (first := [.ref a]) I1.kIn hm.kp (run_fn (us := [.ref a]) (vs := [.ref a]) F hr hb hd hx I1 (.cons rfl .nil) q)
structure Mk (K : PySem.W.Frag) (C f : Addr) : Prop where
  makes : PySem.W.makesIn K C = true
  init : PySem.W.findIn K (.ref C) "__init__" = some (some (.ref f))
  fn : PySem.W.isFn K (.ref f) = true
  kp : PySem.W.keepIn K (.ref C) = true
theorem run_make {pins : List (Addr × Obj)} {σ : St} {H : Hp} {s : Shared} {Q : VK} {us : List Value} {vs : List V} (M : Mk X.K C f) (F : FnOk X.prog X.w X.K X.mg X.base CX k f fd ps sp) (hr : Room (k + 1) X.A) (hb : Binds X.K fd ps ds) (hd : Vals dvs ds)
    (hx : Passes CX X E) (I : Inv X pins σ H s) (r : Vals vs us)
    (h : ∀ x dx, H x = none → H dx = none → dx ≠ x → sp (.ref x :: (vs ++ dvs)) (upd (upd H dx (.own x)) x (.ins C dx [])) (fun v H2 => v = .non ∧ Q (.ref x) H2) E) :
    wpAny (model X.prog X.w) X.A (call (.ref C) us) (EP X pins σ Q) X.xe s := by
  have hq := h (s.heap.objs.size + 1) s.heap.objs.size (I.hok.fresh (Nat.le_succ _)) (I.hok.fresh (Nat.le_refl _)) (Nat.ne_of_lt (Nat.lt_succ_self _))
  have I2 := Inv.made (C := C) I
  have r2 : Vals (V.ref (s.heap.objs.size + 1) :: (vs ++ dvs)) (Value.ref (s.heap.objs.size + 1) :: (us ++ ds)) := .cons rfl (r.append hd)
  have hl : (Value.ref (s.heap.objs.size + 1) :: us ++ ds).length = ps.length := by
    have e := r2.length
    rw [F.len _ _ _ _ hq] at e
    exact e.symm
  refine wpAny_call (make_map (f := f) I.kIn M.makes M.init (beq_iff_eq.mp M.fn) (codeAny_mono (F.run _ X.stack _ _ ⟨Value.ref (s.heap.objs.size + 1) :: us, []⟩ (Value.ref (s.heap.objs.size + 1) :: (us ++ ds)) _ _ E (hr.make C us [])
    (I2.env0.make C us []) (hb _ (Value.ref (s.heap.objs.size + 1) :: us) I2.kIn hl) r2 hq) fun r s' hq' => ?_))
  cases r with
  | error e => exact hx pins σ _ _ e s' I2 hq'
  | ok fl =>
    cases fl with
    | ret u =>
      obtain ⟨v, H', I3, rv, ev, q3⟩ := I2.after hq'
      subst ev
      exact ⟨rv, ⟨V.ref (s.heap.objs.size + 1), H', I3, rfl, q3⟩⟩
    | next => exact False.elim hq'
    | brk => exact False.elim hq'
    | cont => exact False.elim hq'
theorem pe_make0 (M : Mk X.K C f) (F : FnOk X.prog X.w X.K X.mg X.base CX k f fd ps sp) (hr : Room (k + 1) X.A) (hg : Gl X x) (hm : X.mg x = some (.ref C)) (hb : Binds X.K fd ps ds) (hd : Vals dvs ds) (hx : Passes CX X E)
    (hdb : (x == ("__debug__" : Str)) = false := by decide) : PE X (.Call (.Name x p) [] [] pos) (tMake C sp dvs E tNil) := by
  intro pins s σ H Q I h
  refine wpAny_Call_Name_kw (ld_glob I hg hm ?_ hdb)
  exact PySem.W.callWith_K0 I.kIn M.kp (run_make (us := []) M F hr hb hd hx I .nil h)
end
section
variable {X : Cx} {CX : CXT} {k : Nat} {f C : Addr} {fd : FuncData} {ps ks : List Str} {sp : Sp} {E : XK} {x m : Str} {p pos apos kpos : Pos} {e o : Expr} {es : List Expr} {kws : List Keyword} {te ta : TE} {t tk : TA} {nm : Option Str}
variable {g : List Value → List Value → List Value} {gV : List V → List V → List V}
end
structure FnScope (N P : List Str) (sc : Scope) : Prop where
  kind : sc.kind = .function
  co : sc.isCoroutine = false
  gen : sc.isGenerator = false
  nd : N.Nodup
  pre : N.take P.length = P
  par : ∀ x ∈ P, sc.names.lookup x = some .local ∨ sc.names.lookup x = some .cell
  nofree : ∀ y ∈ sc.names, y.2 ≠ .free
theorem bindL_out {kindOf : Str → Option NameKind} {x : Str} : ∀ {binds : List (Str × Value)} {m : Str → Option Value}, (∀ v, (x, v) ∉ binds) → bindL kindOf binds m x = m x
  | [], _, _ => rfl
  | (n, v) :: r, m, h => by
    unfold bindL
    rw [bindL_out fun w hw => h w (List.mem_cons_of_mem _ hw)]
    split
    · have : x ≠ n := by rintro rfl; exact h v List.mem_cons_self
      simp [this]
    · rfl
theorem bindC_out {kindOf : Str → Option NameKind} {x : Str} : ∀ {binds : List (Str × Value)} {m : Str → Option Value}, (∀ v, (x, v) ∉ binds) → bindC kindOf binds m x = m x
  | [], _, _ => rfl
  | (n, v) :: r, m, h => by
    unfold bindC
    rw [bindC_out fun w hw => h w (List.mem_cons_of_mem _ hw)]
    split
    · rfl
    · have : x ≠ n := by rintro rfl; exact h v List.mem_cons_self
      simp [this]
theorem bindL_get {kindOf : Str → Option NameKind} {x : Str} {v : Value} : ∀ {P : List Str} {vs : List Value} {i : Nat} {m : Str → Option Value}, P.Nodup → P[i]? = some x → vs[i]? = some v → kindOf x = some .local →
    bindL kindOf (P.zip vs) m x = some v
  | [], _, _, _, _, h, _, _ => by simp at h
  | _ :: _, [], _, _, _, _, h, _ => by simp at h
  | p :: P, w :: vs, 0, m, nd, h1, h2, hk => by
    simp at h1 h2; subst h1; subst h2
    show bindL kindOf ((p, w) :: P.zip vs) m p = _
    unfold bindL
    rw [bindL_out fun v hv => (List.nodup_cons.mp nd).1 (List.of_mem_zip hv).1, if_pos hk]
    simp
  | p :: P, w :: vs, i + 1, m, nd, h1, h2, hk => by
    show bindL kindOf ((p, w) :: P.zip vs) m x = _
    unfold bindL
    exact bindL_get (i := i) (List.nodup_cons.mp nd).2 (by simpa using h1) (by simpa using h2) hk
theorem bindC_get {kindOf : Str → Option NameKind} {x : Str} {v : Value} : ∀ {P : List Str} {vs : List Value} {i : Nat} {m : Str → Option Value}, P.Nodup → P[i]? = some x → vs[i]? = some v → kindOf x ≠ some .local →
    bindC kindOf (P.zip vs) m x = some v
  | [], _, _, _, _, h, _, _ => by simp at h
  | _ :: _, [], _, _, _, _, h, _ => by simp at h
  | p :: P, w :: vs, 0, m, nd, h1, h2, hk => by
    simp at h1 h2; subst h1; subst h2
    show bindC kindOf ((p, w) :: P.zip vs) m p = _
    unfold bindC
    rw [bindC_out fun v hv => (List.nodup_cons.mp nd).1 (List.of_mem_zip hv).1, if_neg hk]
    simp
  | p :: P, w :: vs, i + 1, m, nd, h1, h2, hk => by
    show bindC kindOf ((p, w) :: P.zip vs) m x = _
    unfold bindC
    exact bindC_get (i := i) (List.nodup_cons.mp nd).2 (by simpa using h1) (by simpa using h2) hk
noncomputable def start (N : List Str) (vs : List V) : St := vs.map some ++ List.replicate (N.length - vs.length) none
noncomputable def cxOf (CX : CXT) (P : Program) (w : World) (K : PySem.W.Frag) (mg : Str → Option Value) (base : Heap) (N : List Str) (qual : Str) (scope : Scope) (f : Addr) (cd : Value) (A : Around) (outer : List Env) (s : Shared) (H : Hp) (E : XK) : Cx where
  prog := P
  w := w
  K := K
  mg := mg
  base := base
  A := A.deeper (envOfC qual scope s.heap.objs.size f cd)
  N := N
  s₀ := s
  H₀ := H
  env := envOfC qual scope s.heap.objs.size f cd
  outer := outer
  stack := envOfC qual scope s.heap.objs.size f cd :: outer
  ex := []
  calm := true
  fn := fun _ => true
  pn := []
  xe := fun e s' => wpAny (model P w) (A.deeper (envOfC qual scope s.heap.objs.size f cd)) (leaving (envOfC qual scope s.heap.objs.size f cd) e) (fun _ s'' => CX outer H s E e s'') (fun e' s'' => CX outer H s E e' s'') s'
theorem cell_has {sc : Scope} {n : Nat} {x : Str} (h : sc.names.lookup x = some .cell) : ∃ c, (cellsFrom n sc.names []).lookup x = some c := by
  have q := PySem.W.cellsFrom_some sc.names n [] (.inl h)
  exact Option.isSome_iff_exists.mp q
theorem inv_start {CX : CXT} {P : Program} {w : World} {K : PySem.W.Frag} {mg : Str → Option Value} {base : Heap} {N ps : List Str} {qual : Str} {scope : Scope} {f : Addr} {cd : Value} {A : Around} {outer : List Env} {s s1 : Shared} {H : Hp} {E : XK} {us : List Value} {vs : List V}
    (S : FnScope N ps scope) (hd : A.handled = none) (e0 : Env0 P w K mg base A outer s H) (hl : vs.length = ps.length) (r : Vals vs us)
    (x : InCallC s s.heap.objs.size (bindL (envOfC qual scope s.heap.objs.size f cd).kindOf (ps.zip us) fun _ => none) (cellsFrom (s.heap.objs.size + 1) scope.names []) (bindC (envOfC qual scope s.heap.objs.size f cd).kindOf (ps.zip us) fun _ => none) s1) :
    Inv (cxOf CX P w K mg base N qual scope f cd A outer s H E) [] (start N vs) H s1 := by
  have hpl : ps.length ≤ N.length := by have := congrArg List.length S.pre; rw [List.length_take] at this; omega
  obtain ⟨h1, tk, rfl, hk⟩ := x.done
  have noA : ∀ b : Addr, b ∉ (cxOf CX P w K mg base N qual scope f cd A outer s H E).ex := fun b z => absurd (show b ∈ ([] : List Addr) from z) (by simp)
  refine ⟨⟨e0.mod, S.kind, rfl, rfl, Nat.le_refl _, fun y z c h1 h2 => ?_, fun y hy => ?_, fun y c _ h => ?_, fun _ => hd, Around.frames_deeper e0.frames, .inr ⟨rfl, rfl⟩, fun b z => absurd z (noA b), e0.bs, e0.bsz, fun b _ _ => noA b, fun b z => absurd z (noA b), e0.funs, e0.frf⟩,
    rfl, e0.bare, Un.kept hk, ⟨_, x.toInCall.ns, fun i y v h1 h2 h3 => ?_⟩, fun y c h => ⟨_, x.cell y c h⟩, e0.hok.fresh (Nat.le_refl _), fun y c h => ?_, fun p hp => absurd (show p ∈ ([] : List (Addr × Obj)) from hp) (by simp), e0.hok.kept hk, ?_⟩
  · exact name_of_addr x.apart (PySem.mem_of_lookup h1) (PySem.mem_of_lookup h2)
  · have hy : scope.names.lookup y = some .cell ∨ scope.names.lookup y = some .free := hy
    rcases hy with hy | hy
    · exact cell_has hy
    · exact absurd rfl (S.nofree _ (PySem.mem_of_lookup hy))
  · exact Nat.le_of_lt (x.above y c (PySem.mem_of_lookup h))
  · have hi : i < vs.length := by
      unfold start at h2
      by_cases hi : i < vs.length
      · exact hi
      · rw [List.getElem?_append_right (by simpa using hi)] at h2
        rw [List.getElem?_replicate] at h2
        split at h2 <;> cases h2
    have ha : vs[i]? = some v := by
      unfold start at h2
      rw [List.getElem?_append_left (by simpa using hi), List.getElem?_map] at h2
      cases e : vs[i]? with
      | none => rw [e] at h2; cases h2
      | some a => rw [e] at h2; cases h2; rfl
    obtain ⟨u, hu, rv⟩ := r.get ha
    have hp : ps[i]? = some y := by
      rw [← S.pre, List.getElem?_take_of_lt (by omega)]; exact h1
    have ndP : ps.Nodup := by rw [← S.pre]; exact S.nd.sublist (List.take_sublist _ _)
    refine ⟨u, rv, ?_⟩
    rcases S.par y (List.mem_of_getElem? hp) with k | k
    · exact .inl ⟨k, bindL_get ndP hp hu k⟩
    · obtain ⟨c, e⟩ := cell_has (n := s.heap.objs.size + 1) k
      refine .inr ⟨.inl k, c, e, ?_⟩
      have q := x.cell y c e
      rw [bindC_get ndP hp hu (by show scope.names.lookup y ≠ _; rw [k]; decide)] at q
      exact q
  · exact e0.hok.fresh (Nat.le_of_lt (x.above y c (PySem.mem_of_lookup h)))
  · unfold start
    show _ = N.length
    rw [List.length_append, List.length_map, List.length_replicate]
    omega
theorem fn_of {CX : CXT} {P : Program} {w : World} {K : PySem.W.Frag} {mg : Str → Option Value} {base : Heap} {k : Nat} {f : Addr} {name qual : Str} {params : Arguments} {body : List Stmt} {scope : Scope} {dV kV doc pm cdv ct oc : Value} {an od : Option Addr}
    {osl : Array (Option Value)} {N ps : List Str} {sp : Sp} (lk : K.lookup f = some ⟨oc, od, .func (PySem.W.fnOf name qual params body scope dV kV doc pm an cdv ct), osl⟩) (hcd : PySem.W.codeIn K cdv qual = true) (S : FnScope N ps scope)
    (len : ∀ vs H Q E, sp vs H Q E → vs.length = ps.length)
    (hbody : ∀ (A : Around) (outer : List Env) (s : Shared) (H : Hp) (vs : List V) (Q : VK) (E : XK), Room k (A.deeper (envOfC qual scope s.heap.objs.size f cdv)) → sp vs H Q E →
      ∃ t, PSs (cxOf CX P w K mg base N qual scope f cdv A outer s H E) body t ∧ t { nx := fun _ H' => Q .non H', rt := Q } (start N vs) H) :
    FnOk P w K mg base CX (k + 1) f (PySem.W.fnOf name qual params body scope dV kV doc pm an cdv ct) ps sp := by
  refine ⟨len, fun A outer s H args us vs Q E hr e0 hb r hsp => ?_⟩
  have hl := len _ _ _ _ hsp
  have KX : K.In s.heap := e0.mod.kin.keeps fun b o e => (e0.bs b o e).1
  have lim : s.heap.NoLimit := e0.mod.nolimit.keeps fun b o e => (e0.bs b o e).1
  have hkind : ∀ y ∈ ps.zip us, scope.names.lookup y.1 = some .local ∨ (scope.names.lookup y.1 = some .cell ∧ ((cellsFrom (s.heap.objs.size + 1) scope.names []).lookup y.1).isSome = true) := fun ⟨n, v⟩ hy => by
    rcases S.par n (List.of_mem_zip hy).1 with q | q
    · exact .inl q
    · exact .inr ⟨q, PySem.W.cellsFrom_some _ _ _ (.inl q)⟩
  refine codeAny_call_function hr.depth (KX _ _ lk) rfl S.co S.gen rfl (PySem.W.codeRec_of KX hcd) (hb _ _ _ _ ?_)
  refine wpAny_newFunctionEnv_cells S.kind hkind fun env he s1 x => ?_
  subst he
  refine ⟨lim.keeps x.toInCall.keep, codeAny_func ?_⟩
  obtain ⟨t, ht, hq⟩ := hbody A outer s H vs Q E (hr.deeper _) hsp
  have I : Inv (cxOf CX P w K mg base N qual scope f cdv A outer s H E) [] (start N vs) H s1 := inv_start S hr.hd e0 hl r x
  refine wpAny_mono (ht [] s1 (start N vs) H _ I hq) (fun fl s' hs => ?_) fun e s' hs => hs
  have fin : ∀ {σ' : St} {H' : Hp} {v : V} {u : Value}, Inv (cxOf CX P w K mg base N qual scope f cdv A outer s H E) [] σ' H' s' → RelV v u → Q v H' → CE outer P w H s Q u s' :=
    fun {σ' H' v u} J rv q => ⟨v, H', J.os, J.bare, J.base, J.hok, rv, q⟩
  cases fl with
  | ret u =>
    obtain ⟨v, σ', H', J, rv, q⟩ := hs
    exact fin J rv q
  | next =>
    obtain ⟨σ', H', J, q⟩ := hs
    exact fin (v := V.non) (u := Value.none) J rfl q
  | brk =>
    obtain ⟨_, _, _, q⟩ := hs
    exact False.elim q
  | cont =>
    obtain ⟨_, _, _, q⟩ := hs
    exact False.elim q
end L2
namespace L2
open PySem PySem.Spec PyProof.Rows
section
variable {X : Cx} {x : Str} {p pos : Pos} {e : Expr} {es : List Expr} {t : TA} {id T : String} {r : List V → Hp → VK → Prop}
noncomputable def tCB (r : List V → Hp → VK → Prop) (t : TA) : TE := fun σ H Q => t σ H fun vs H1 => r vs H1 Q
theorem pe_callB (hc : CallR X (.builtin id) r) (hg : Gl X x) (hm : X.mg x = none) (hv : bootBuiltins x = some (.builtin id)) (ha : PA X (e :: es) t) (hn : x ≠ "__name__" := by decide) (hdb : (x == ("__debug__" : Str)) = false := by decide)
    (he : starEach (e :: es) X.env = (false, eval e X.env) :: starEach es X.env := by rfl) (hpl : (backTo pos (starEach es X.env)).any (·.1) = false := by rfl) : PE X (.Call (.Name x p) (e :: es) [] pos) (tCB r t) := by
  intro pins s σ H Q I h
  refine wpAny_Call_Name_kw (ld_blt I hg hm hv ?_ hn hdb)
  exact PyProof.Rows.callWith_builtin1 (thn (ha pos pins s σ H _ I h) fun us s1 ⟨vs, H1, I1, r1, q1⟩ => hc pins s1 σ H1 vs us Q I1 r1 q1) he hpl
theorem pe_callTy (hc : CallR X (.type T) r) (hg : Gl X x) (hm : X.mg x = none) (hv : bootBuiltins x = some (.type T)) (ha : PA X (e :: es) t) (hn : x ≠ "__name__" := by decide) (hdb : (x == ("__debug__" : Str)) = false := by decide)
    (he : starEach (e :: es) X.env = (false, eval e X.env) :: starEach es X.env := by rfl) (hpl : (backTo pos (starEach es X.env)).any (·.1) = false := by rfl) : PE X (.Call (.Name x p) (e :: es) [] pos) (tCB r t) := by
  intro pins s σ H Q I h
  refine wpAny_Call_Name_kw (ld_blt I hg hm hv ?_ hn hdb)
  exact PyProof.Rows.callWith_type1 (thn (ha pos pins s σ H _ I h) fun us s1 ⟨vs, H1, I1, r1, q1⟩ => hc pins s1 σ H1 vs us Q I1 r1 q1) he hpl
end
end L2
namespace HT
open PySem PyProof.Rows
section
open PySem.SeqAt
open PySem.AutoSeq1 (wpAny_loadPart')
open PySem.MeetsSeq PySem.MeetsSeq2 PySem.MeetsSeq3
end
section
variable {prog : Program} {w : World} {A : Around} {E : Value → Shared → Prop} {s : Shared}
theorem cat_tup {t b : Addr} {vs ws : List Value} {Q : Value → Shared → Prop} (ht : IsTup s.heap t vs.toArray) (hb : IsTup s.heap b ws.toArray) (hv : vs ≠ [])
    (h1 : ws = [] → Q (.ref t) s) (h2 : ws ≠ [] → Q (.ref s.heap.objs.size) { s with heap := s.heap.push { cls := .type "tuple", data := .seq (vs ++ ws).toArray } })
    (hsz : vs.length + ws.length ≤ sizeLine) : wpAny (model prog w) A (binaryOp .Add (.ref t) (.ref b)) Q E s := by
  obtain ⟨⟨cls, dd, data, sl⟩, ho, hc, n, hd⟩ := id ht
  obtain ⟨⟨cls2, dd2, data2, sl2⟩, ho2, hc2, n2, hd2⟩ := id hb
  simp only at hc hd hc2 hd2
  subst hc hd hc2 hd2
  have e : vs.toArray ++ ws.toArray = (vs ++ ws).toArray := by simp
  by_cases hw : ws = []
  · exact concat_meets ⟨_, ho, rfl⟩ ⟨_, ho2, rfl⟩ noFill_tuple_add seq_tuple_add PySem.F.slot_tuple_add PySem.F.entry_tuple_add (PySem.F.args_tuple_add_2 _ _)
      (tuple_addW1 t b vs.toArray ws.toArray n n2 dd dd2 sl sl2 (by simpa using hv) (by simp [hw])) ⟨ho, ho2, h1 hw⟩
  · refine concat_meets ⟨_, ho, rfl⟩ ⟨_, ho2, rfl⟩ noFill_tuple_add seq_tuple_add PySem.F.slot_tuple_add PySem.F.entry_tuple_add (PySem.F.args_tuple_add_2 _ _)
      (tuple_addW2 t b vs.toArray ws.toArray n n2 dd dd2 sl sl2 (by simpa using hv) (by simpa using hw) (by rw [List.size_toArray, List.size_toArray]; exact hsz)) ⟨ho, ho2, ?_⟩
    rw [e]
    exact h2 hw
noncomputable def sIx (n d : Nat) : Option Int → Nat
  | none => d
  | some v => if v < 0 then (v + (n : Int)).toNat else min v.toNat n
theorem sIx_le (n d : Nat) (hd : d ≤ n) (o : Option Int) : sIx n d o ≤ n := by
  cases o with
  | none => exact hd
  | some v =>
    show (if v < 0 then (v + (n : Int)).toNat else min v.toNat n) ≤ n
    by_cases hv : v < 0
    · rw [if_pos hv]; omega
    · rw [if_neg hv]; exact Nat.min_le_right _ _
theorem clip_eq (v : Int) (n d : Nat) : (if v < 0 then max (v + (n : Int)) 0 else min v (n : Int)) = ((sIx n d (some v) : Nat) : Int) := by
  show (if v < 0 then max (v + (n : Int)) 0 else min v (n : Int)) = (((if v < 0 then (v + (n : Int)).toNat else min v.toNat n) : Nat) : Int)
  by_cases hv : v < 0
  · simp only [if_pos hv]; omega
  · simp only [if_neg hv]; omega
theorem adjust_gen (lo hi : Option Int) (n : Nat) : Builtin.Slice.sliceAdjust lo hi 1 (n : Int) = (((sIx n 0 lo : Nat) : Int), ((sIx n n hi : Nat) : Int)) := by
  have h1 : ¬ ((1 : Int) < 0) := by omega
  unfold Builtin.Slice.sliceAdjust
  simp only [h1, if_false]
  refine Prod.ext ?_ ?_
  · cases lo with
    | none => rfl
    | some v => exact clip_eq v n 0
  · cases hi with
    | none => rfl
    | some v => exact clip_eq v n n
theorem places_gen (i j : Nat) : Builtin.Slice.slicePlaces (i : Int) (j : Int) 1 = j - i := by
  unfold Builtin.Slice.slicePlaces
  have h1 : (1 : Int) > 0 := by omega
  simp only [h1, if_true, Int.ediv_one]
  split <;> omega
theorem slicePart_ {v : Value} {o : Option Int} {Q : Option Int → Shared → Prop} (p : IsPart v o) (h : Q o s) : wpAny (model prog w) A (Builtin.Slice.slicePartIndex v) Q E s := by
  cases p with
  | none => exact slicePart_none h
  | int i t => exact slicePart_int h
theorem sliceApplied_gen {sl : Addr} {vl vu : Value} {lo hi : Option Int} {n : Nat} {Q : Int × Int × Nat → Shared → Prop} (hs : s.heap.IsSliceOf sl vl vu .none) (pl : IsPart vl lo) (pu : IsPart vu hi)
    (h : Q (((sIx n 0 lo : Nat) : Int), 1, sIx n n hi - sIx n 0 lo) s) : wpAny (model prog w) A (Builtin.Slice.sliceApplied (.ref sl) (pure (n : Int))) Q E s := by
  obtain ⟨os, hos, hcs, hds⟩ := id hs
  unfold Builtin.Slice.sliceApplied Builtin.Slice.sliceFields
  refine wpAny_bind (wpAny_bind (wpAny_field hos hds (x := vl) rfl (wpAny_bind (wpAny_field hos hds (x := vu) rfl (wpAny_bind (wpAny_field hos hds (x := .none) rfl (wpAny_pure ?_)))))))
  refine wpAny_bind (slicePart_none ?_)
  show wpAny _ _ (if ((1 : Int) == 0) = true then _ else _) _ _ s
  rw [if_neg (by decide)]
  refine wpAny_bind (slicePart_ pl (wpAny_bind (slicePart_ pu (wpAny_bind (wpAny_pure ?_)))))
  show wpAny _ _ (match Builtin.Slice.sliceAdjust lo hi 1 (n : Int) with | (lo, hi) => pure (lo, (1 : Int), Builtin.Slice.slicePlaces lo hi 1)) _ _ s
  rw [adjust_gen lo hi n]
  show wpAny _ _ (pure (((sIx n 0 lo : Nat) : Int), (1 : Int), Builtin.Slice.slicePlaces ((sIx n 0 lo : Nat) : Int) ((sIx n n hi : Nat) : Int) 1)) _ _ s
  rw [places_gen]
  exact wpAny_pure h
theorem pick_gen (xs : Array Value) (i k : Nat) : ((List.range k).filterMap fun (m : Nat) => xs[((i : Int) + (m : Int) * 1).toNat]?).toArray = ((xs.toList.drop i).take k).toArray := by
  have e : (fun (m : Nat) => xs[((i : Int) + (m : Int) * 1).toNat]?) = fun m => xs[i + m]? := by
    funext m
    have : ((i : Int) + (m : Int) * 1).toNat = i + m := by omega
    rw [this]
  rw [e]
  have := pick_run xs i k
  rw [List.filterMap_map] at this
  have e2 : ((fun x => xs[x]?) ∘ fun x => i + x) = fun m => xs[i + m]? := rfl
  rw [e2] at this
  rw [this]
theorem getItem_tuple_cut {t sl : Addr} {items : Array Value} {vl vu : Value} {lo hi : Option Int} {Q : Value → Shared → Prop} (ht : IsTup s.heap t items) (hs : s.heap.IsSliceOf sl vl vu .none) (pl : IsPart vl lo) (pu : IsPart vu hi)
    (hw : ¬ (sIx items.size 0 lo = 0 ∧ sIx items.size items.size hi = items.size))
    (h : Q (.ref s.heap.objs.size) { s with heap := s.heap.push { cls := .type "tuple", data := .seq ((items.toList.drop (sIx items.size 0 lo)).take (sIx items.size items.size hi - sIx items.size 0 lo)).toArray } })
    (hsz : items.size ≤ sizeLine) : wpAny (model prog w) A (getItem (.ref t) (.ref sl)) Q E s := by
  have htake : sizeOk (.seq ((items.toList.drop (sIx items.size 0 lo)).take (sIx items.size items.size hi - sIx items.size 0 lo)).toArray) := by
    show ((items.toList.drop (sIx items.size 0 lo)).take (sIx items.size items.size hi - sIx items.size 0 lo)).toArray.size ≤ sizeLine
    rw [List.size_toArray, List.length_take, List.length_drop, Array.length_toList]
    omega
  have hj : sIx items.size items.size hi ≤ items.size := sIx_le _ _ (Nat.le_refl _) hi
  obtain ⟨os, hos, hcs, hds⟩ := id hs
  have hTs : s.TypeIs (.ref sl) "slice" := ⟨os, hos, hcs⟩
  unfold getItem
  try with_reducible refine wpAny_holding ?_
  first | refine wpAny_bind (wpAny_pure ?_) | skip
  refine wpAny_bind (wpAny_sequenceKey ht.typeIs (by decide) ?_)
  refine wpAny_bind (wpAny_callSpecial?_slot (name := Str.ofString "__getitem__") ht.typeIs PyProof.Rows.slot_tuple_getitem
    (wpAny_call_entry PyProof.Rows.slot_tuple_getitem ht.typeIs entry_tuple_getitem ?_ (args_tuple_getitem _ _)))
  show wpAny _ _ (Builtin.Tuple.tupleItemsOf (.ref t) >>= _) _ _ s
  refine wpAny_bind (tupleItemsOf_ ht ?_)
  refine wpAny_bind (wpAny_typeOf hTs ?_)
  rw [if_pos (by decide)]
  refine wpAny_bind (sliceApplied_gen hs pl pu ?_)
  have hno : ¬ ((((sIx items.size 0 lo : Nat) : Int) == 0 && (1 : Int) == 1 && (sIx items.size items.size hi - sIx items.size 0 lo) == items.size) = true) := by
    intro q
    rw [Bool.and_eq_true, Bool.and_eq_true] at q
    have q1 : ((sIx items.size 0 lo : Nat) : Int) = 0 := eq_of_beq q.1.1
    have q2 : sIx items.size items.size hi - sIx items.size 0 lo = items.size := eq_of_beq q.2
    exact hw ⟨by omega, by omega⟩
  show wpAny _ _ (if (((sIx items.size 0 lo : Nat) : Int) == 0 && (1 : Int) == 1 && (sIx items.size items.size hi - sIx items.size 0 lo) == items.size) = true then _ else _) _ _ s
  rw [if_neg hno, pick_gen]
  first
    | exact wpAny_bind (m := Builtin.Tuple.tupleExact _) (wpAny_newObj_type (wpAny_pure ⟨_, rfl, wpAny_pure h⟩) htake)
    | exact wpAny_bind (m := Builtin.Tuple.tupleExact _) (wpAny_newObj_type (wpAny_bind (wpAny_pure (wpAny_pure ⟨_, rfl, wpAny_pure h⟩))) htake)
    | exact wpAny_bind (wpAny_bind (m := Builtin.Tuple.tupleExact _) (wpAny_newObj_type (wpAny_pure (wpAny_pure ⟨_, rfl, wpAny_pure h⟩)) htake))
    | exact wpAny_bind (wpAny_bind (m := Builtin.Tuple.tupleExact _) (wpAny_newObj_type (wpAny_pure ⟨_, rfl, wpAny_pure h⟩) htake))
end
end HT
namespace L2
open PySem PySem.Spec PyProof.Rows
noncomputable abbrev TO := St → Hp → (Option Int → Hp → Prop) → Prop
noncomputable def PO (X : Cx) (e : Option Expr) (t : TO) : Prop :=
  ∀ (pins : List (Addr × Obj)) (s : Shared) (σ : St) (H : Hp) (Q : Option Int → Hp → Prop), Inv X pins σ H s → t σ H Q →
    wpAny (model X.prog X.w) X.A (evalPart e X.env) (fun u s' => ∃ o H', Inv X pins σ H' s' ∧ IsPart u o ∧ Q o H') X.xe s
noncomputable def tNoPart : TO := fun _ H Q => Q none H
noncomputable def tPart (t : TE) : TO := fun σ H Q => t σ H fun x H1 => ∃ i, x = .int i ∧ Q (some i) H1
theorem intsAre_of {ns : List Int} : ∀ {us : List Value}, Vals (ns.map V.int) us → IntsAre us ns := by
  induction ns with
  | nil => intro us r; rw [List.map_nil] at r; cases r; exact .nil
  | cons n ns ih =>
    intro us r
    rw [List.map_cons] at r
    cases r with
    | cons r1 r2 =>
      obtain ⟨t, e⟩ := r1
      subst e
      exact .cons n t (ih r2)
section
variable {X : Cx} {e : Expr} {te : TE} {lo hi : Option Expr} {tl th : TO} {pos p2 : Pos}
theorem po_none : PO X none tNoPart := by
  intro pins s σ H Q I h
  rw [evalPart_none]
  exact wpAny_pure ⟨none, H, I, .none, h⟩
theorem po_some (h : PE X e te) : PO X (some e) (tPart te) := by
  intro pins s σ H Q I hw
  rw [evalPart_some]
  refine thn (h pins s σ H _ I hw) fun u s1 ⟨x, H1, I1, r1, q1⟩ => ?_
  obtain ⟨i, rfl, q⟩ := q1
  obtain ⟨t, rfl⟩ := r1
  exact ⟨some i, H1, I1, .int i t, q⟩
noncomputable def SlR (X : Cx) (r : V → Option Int → Option Int → Hp → VK → Prop) : Prop :=
  ∀ (pins : List (Addr × Obj)) (s : Shared) (σ : St) (H : Hp) (x : V) (v vl vu : Value) (lo hi : Option Int) (sl : Addr) (Q : VK), Inv X pins σ H s → RelV x v → s.heap.IsSliceOf sl vl vu .none → IsPart vl lo → IsPart vu hi → r x lo hi H Q →
    ∃ T id, typeLookup (.type T) "__getitem__" = pure (some (.builtin id)) ∧ s.TypeIs v T ∧ wpAny (model X.prog X.w) X.A (getItem v (.ref sl)) (EP X pins σ Q) X.xe s
theorem SlR.or {r r' : V → Option Int → Option Int → Hp → VK → Prop} (h : SlR X r) (h' : SlR X r') : SlR X (fun x lo hi H Q => r x lo hi H Q ∨ r' x lo hi H Q) := by
  intro pins s σ H x v vl vu lo hi sl Q I rx hs pl pu q
  rcases q with q | q
  · exact h pins s σ H x v vl vu lo hi sl Q I rx hs pl pu q
  · exact h' pins s σ H x v vl vu lo hi sl Q I rx hs pl pu q
noncomputable def tSl (r : V → Option Int → Option Int → Hp → VK → Prop) (te : TE) (tl th : TO) : TE := fun σ H Q => te σ H fun x H1 => tl σ H1 fun l H2 => th σ H2 fun u H3 => r x l u H3 Q
theorem pe_slice {r : V → Option Int → Option Int → Hp → VK → Prop} (hr : SlR X r) (he : PE X e te) (hl : PO X lo tl) (hu : PO X hi th) : PE X (.Subscript e (.Slice lo hi none p2) pos) (tSl r te tl th) := by
  intro pins s σ H Q I h
  refine Subscript_ (thn (he pins s σ H _ I h) fun v s1 ⟨x, H1, I1, r1, q1⟩ => ?_)
  refine wpAny_Slice (thn (hl pins s1 σ H1 _ I1 q1) fun vl s2 ⟨l, H2, I2, pl, q2⟩ => thn (hu pins s2 σ H2 _ I2 q2) fun vu s3 ⟨u, H3, I3, pu, q3⟩ => ?_)
  rw [evalPart_none]
  refine wpAny_pure ?_
  have I4 : Inv X pins σ H3 { s3 with heap := s3.heap.push { cls := .type "slice", data := .fields #[vl, vu, .none] } } := I3.kept (t' := s3.toks) fun b ob q => Heap.get?_push_of_some _ q
  obtain ⟨T, id, hT, ht, hg⟩ := hr pins { s3 with heap := s3.heap.push { cls := .type "slice", data := .fields #[vl, vu, .none] } } σ H3 x v vl vu l u s3.heap.objs.size Q I4 r1 (Heap.IsSliceOf.new ..) pl pu q3
  show wpAny (model X.prog X.w) X.A (subscriptTail e (.Slice lo hi none p2) v (.ref s3.heap.objs.size)) (EP X pins σ Q) X.xe { s3 with heap := s3.heap.push { cls := .type "slice", data := .fields #[vl, vu, .none] } }
  exact tail_any (ops := [.ref s3.heap.objs.size, v]) ht hT hg (by with_unfolding_all rfl)
noncomputable def cutV (xs : List V) (lo hi : Option Int) : List V := (xs.drop (HT.sIx xs.length 0 lo)).take (HT.sIx xs.length xs.length hi - HT.sIx xs.length 0 lo)
theorem cutV_length (xs : List V) (lo hi : Option Int) : (cutV xs lo hi).length ≤ xs.length := by
  unfold cutV
  rw [List.length_take, List.length_drop]
  omega
noncomputable def rSlT (K : PySem.W.Frag) : V → Option Int → Option Int → Hp → VK → Prop := fun x lo hi H Q => ∃ a xs, x = .ref a ∧ SqT K H a xs ∧
  ¬ (HT.sIx xs.length 0 lo = 0 ∧ HT.sIx xs.length xs.length hi = xs.length) ∧ ∀ p, H p = none → Q (.ref p) (upd H p (.tup (cutV xs lo hi)))
theorem sl_tup : SlR X (rSlT X.K) := by
  intro pins s σ H x v vl vu lo hi sl Q I rx hs pl pu h
  obtain ⟨a, xs, rfl, hx, hw, q⟩ := h
  cases rx
  obtain ⟨its, r, ht, hz⟩ := I.tuple hx
  have hlen : its.toArray.size = xs.length := by rw [List.size_toArray]; exact r.length.symm
  refine ⟨"tuple", _, PyProof.Rows.slot_tuple_getitem.lookup, ht.typeIs, ?_⟩
  refine HT.getItem_tuple_cut ht hs pl pu (by rw [hlen]; exact hw) ?_ (by rw [hlen]; exact hz)
  rw [hlen]
  refine ⟨.ref s.heap.objs.size, _, I.laid (t' := s.toks) (o := .tup (cutV xs lo hi)) (fun b ob q => Heap.get?_push_of_some _ q) (Nat.le_refl _) ?_, rfl, q _ (I.hok.fresh (Nat.le_refl _))⟩
  exact ⟨Nat.le_trans (cutV_length xs lo hi) hz, _, (r.drop (HT.sIx xs.length 0 lo)).take (HT.sIx xs.length xs.length hi - HT.sIx xs.length 0 lo), IsTup.new _ _⟩
noncomputable def rCatT (K : PySem.W.Frag) : R2 := fun x y H Q => ∃ a b xs ys, x = .ref a ∧ y = .ref b ∧ SqT K H a xs ∧ SqT K H b ys ∧ xs ≠ [] ∧ xs.length + ys.length ≤ sizeLine ∧
  (ys = [] → Q (.ref a) H) ∧ (ys ≠ [] → ∀ p, H p = none → Q (.ref p) (upd H p (.tup (xs ++ ys))))
theorem Vals.nil_iff {xs : List V} {us : List Value} (r : Vals xs us) : us = [] ↔ xs = [] := by
  cases r with
  | nil => simp
  | cons _ _ => simp
theorem op_catT : OpR X (binaryOp .Add) (rCatT X.K) := by
  intro pins s σ H x y v u Q I rx ry h
  obtain ⟨a, b, xs, ys, rfl, rfl, ha, hb, hx, hz, q1, q2⟩ := h
  cases rx
  cases ry
  obtain ⟨its, r1, p1, _⟩ := I.tuple ha
  obtain ⟨its2, r2, p2, _⟩ := I.tuple hb
  refine HT.cat_tup p1 p2 (fun z => hx (r1.nil_iff.mp z)) (fun z => ⟨.ref a, H, I, rfl, q1 (r2.nil_iff.mp z)⟩) (fun z => ?_) (by rw [← r1.length, ← r2.length]; exact hz)
  refine ⟨.ref s.heap.objs.size, _, I.laid (t' := s.toks) (o := .tup (xs ++ ys)) (fun b ob q => Heap.get?_push_of_some _ q) (Nat.le_refl _) ?_, rfl, q2 (fun w => z (r2.nil_iff.mpr w)) _ (I.hok.fresh (Nat.le_refl _))⟩
  exact ⟨by rw [List.length_append]; exact hz, _, r1.append r2, IsTup.new _ _⟩
end
end L2
namespace L2
open PySem PySem.Spec PyProof.Rows
noncomputable def ixN (n : Nat) (i : Int) : Option Nat := if 0 ≤ i then (if i < n then some i.toNat else none) else if -(n : Int) ≤ i then some (i + n).toNat else none
noncomputable def atI {α : Type} (xs : List α) (i : Int) : Option α := (ixN xs.length i).bind fun j => xs[j]?
theorem ixN_seq {n : Nat} {i : Int} {j : Nat} (h : ixN n i = some j) : seqIndex? i n = some j ∧ j < n ∧ -(n : Int) ≤ i ∧ i < n := by
  unfold ixN at h
  by_cases h0 : 0 ≤ i
  · rw [if_pos h0] at h
    by_cases h1 : i < n
    · rw [if_pos h1] at h
      have e : i.toNat = j := Option.some.inj h
      exact ⟨by rw [seqIndex_of h0 h1, e], by omega, by omega, h1⟩
    · rw [if_neg h1] at h; cases h
  · rw [if_neg h0] at h
    by_cases h1 : -(n : Int) ≤ i
    · rw [if_pos h1] at h
      have e : (i + n).toNat = j := Option.some.inj h
      exact ⟨by rw [seqIndex_neg (by omega) h1, e], by omega, h1, by omega⟩
    · rw [if_neg h1] at h; cases h
theorem atI_get {α : Type} {xs : List α} {i : Int} {v : α} (h : atI xs i = some v) : ∃ j, seqIndex? i xs.length = some j ∧ xs[j]? = some v ∧ j < xs.length ∧ -(xs.length : Int) ≤ i ∧ i < xs.length := by
  unfold atI at h
  cases e : ixN xs.length i with
  | none => rw [e] at h; cases h
  | some j =>
    rw [e] at h
    obtain ⟨h1, h2, h3, h4⟩ := ixN_seq e
    exact ⟨j, h1, h, h2, h3, h4⟩
theorem atI_nat {α : Type} {xs : List α} {j : Nat} {v : α} (h : xs[j]? = some v) : atI xs (j : Int) = some v := by
  have hj : j < xs.length := (List.getElem?_eq_some_iff.mp h).1
  have e : ixN xs.length (j : Int) = some j := by
    unfold ixN
    rw [if_pos (by omega), if_pos (by omega)]; simp
  unfold atI; rw [e]; exact h
noncomputable def PlainIx (b : Expr) : Prop := ∀ o i, subscripted b false o i = operate [o, i] (getItem o i)
noncomputable def IxR (X : Cx) (r : R2) : Prop :=
  ∀ (value slice : Expr) (pins : List (Addr × Obj)) (s : Shared) (σ : St) (H : Hp) (x y : V) (v u : Value) (Q : VK), Inv X pins σ H s → RelV x v → RelV y u → r x y H Q →
    subscripted slice false v u = operate [v, u] (getItem v u) → wpAny (model X.prog X.w) X.A (subscriptTail value slice v u) (EP X pins σ Q) X.xe s
noncomputable def MtR (X : Cx) (id : String) (r : V → List V → Hp → VK → Prop) : Prop :=
  ∀ (pins : List (Addr × Obj)) (s : Shared) (σ : St) (H : Hp) (x : V) (xs : List V) (v : Value) (us : List Value) (Q : VK), Inv X pins σ H s → RelV x v → Vals xs us → r x xs H Q →
    wpAny (model X.prog X.w) X.A (call (.builtin id) (v :: us)) (EP X pins σ Q) X.xe s
section
variable {X : Cx} {a b : Expr} {ta tb : TE} {pos : Pos}
theorem IxR.or {r r' : R2} (h : IxR X r) (h' : IxR X r') : IxR X (fun x y H Q => r x y H Q ∨ r' x y H Q) := by
  intro value slice pins s σ H x y v u Q I rx ry q hs
  rcases q with q | q
  · exact h value slice pins s σ H x y v u Q I rx ry q hs
  · exact h' value slice pins s σ H x y v u Q I rx ry q hs
theorem MtR.or {id : String} {r r' : V → List V → Hp → VK → Prop} (h : MtR X id r) (h' : MtR X id r') : MtR X id (fun x xs H Q => r x xs H Q ∨ r' x xs H Q) := by
  intro pins s σ H x xs v us Q I rx rs q
  rcases q with q | q
  · exact h pins s σ H x xs v us Q I rx rs q
  · exact h' pins s σ H x xs v us Q I rx rs q
theorem pe_ix {r : R2} (hr : IxR X r) (ha : PE X a ta) (hb : PE X b tb) (hs : PlainIx b) : PE X (.Subscript a b pos) (tOp r ta tb) := by
  intro pins s σ H Q I h
  exact Subscript_ (binT ha hb I h fun v u s2 x y H2 I2 rx ry q => hr a b pins s2 σ H2 x y v u Q I2 rx ry q (hs _ _))
noncomputable def rIxL (K : PySem.W.Frag) : R2 := fun x y H Q => ∃ p xs i v, x = .ref p ∧ y = .int i ∧ SqL K H p xs ∧ atI xs i = some v ∧ Q v H
noncomputable def rIxT (K : PySem.W.Frag) : R2 := fun x y H Q => ∃ p xs i v, x = .ref p ∧ y = .int i ∧ SqT K H p xs ∧ atI xs i = some v ∧ Q v H
noncomputable def rIxS : R2 := fun x y H Q => ∃ z i c, x = .str z ∧ y = .int i ∧ z.length ≤ sizeLine ∧ atI z.cps.toList i = some c ∧ Q (.str ⟨#[c]⟩) H
theorem ix_list : IxR X (rIxL X.K) := by
  intro value slice pins s σ H x y v u Q I rx ry h hs
  obtain ⟨p, xs, i, z, rfl, rfl, hq, he, q⟩ := h
  cases rx
  obtain ⟨t, rfl⟩ := ry
  obtain ⟨its, r, pl, hz⟩ := I.list hq
  obtain ⟨j, h1, h2, h3, h4, h5⟩ := atI_get he
  obtain ⟨w, ew, rw'⟩ := r.get h2
  have hl := r.length
  have hn := line63
  have fin : EP X pins σ Q w s := ⟨z, H, I, rw', q⟩
  by_cases h0 : 0 ≤ i
  · have hj : i.toNat = j := by
      rw [seqIndex_of h0 h5] at h1
      exact Option.some.inj h1
    exact item_listR pl.isList h0 (by omega) (by rw [hj]; simpa using ew) fin hs
  · have hj : (i + (its.toArray.size : Int)).toNat = j := by
      rw [seqIndex_neg (by omega) h4] at h1
      rw [List.size_toArray, ← hl]
      exact Option.some.inj h1
    exact subscriptTail_builtinR (x := w) pl.isList.typeIs slot_list_getitem.lookup
      (wpAny_getItem_list_neg (Q := fun r s' => r = w ∧ EP X pins σ Q r s') pl.isList (by omega) (by rw [List.size_toArray] <;> omega) (by omega) (by rw [hj]; simpa using ew) ⟨rfl, fin⟩) hs
theorem ix_tup : IxR X (rIxT X.K) := by
  intro value slice pins s σ H x y v u Q I rx ry h hs
  obtain ⟨p, xs, i, z, rfl, rfl, hq, he, q⟩ := h
  cases rx
  obtain ⟨t, rfl⟩ := ry
  obtain ⟨its, r, pl, hz⟩ := I.tuple hq
  obtain ⟨j, h1, h2, h3, h4, h5⟩ := atI_get he
  obtain ⟨w, ew, rw'⟩ := r.get h2
  have hl := r.length
  have hn := line63
  have fin : EP X pins σ Q w s := ⟨z, H, I, rw', q⟩
  exact subscriptTail_builtinR (x := w) pl.typeIs slot_tuple_getitem.lookup
    (getItem_tuple (j := j) (Q := fun r s' => r = w ∧ EP X pins σ Q r s') pl (by omega) (by omega) (by rw [List.size_toArray, ← hl]; exact h1) (by simpa using ew) ⟨rfl, fin⟩) hs
theorem ix_str : IxR X rIxS := by
  intro value slice pins s σ H x y v u Q I rx ry h hs
  obtain ⟨z, i, c, rfl, rfl, hz, he, q⟩ := h
  obtain ⟨t, rfl⟩ := rx
  obtain ⟨t', rfl⟩ := ry
  obtain ⟨j, h1, h2, h3, h4, h5⟩ := atI_get he
  have hl : z.cps.toList.length = z.length := by simp [Str.length]
  rw [hl] at h1 h4 h5
  have hn := line63
  exact tail_any (typeIs_str s z t) slot_str_getitem.lookup (getItem_str (c := c) (by
    have e1 : decide (i < -(2 ^ 63 : Int)) = false := decide_eq_false (by omega)
    have e2 : decide (i ≥ 2 ^ 63) = false := decide_eq_false (by omega)
    rw [e1, e2, Bool.or_false]) (by rw [h1]; simpa using h2) ⟨.str ⟨#[c]⟩, H, I.tok _, ⟨_, rfl⟩, q⟩) hs
noncomputable def rIx (K : PySem.W.Frag) : R2 := fun x y H Q => rIxL K x y H Q ∨ rIxT K x y H Q ∨ rIxS x y H Q
theorem ix_seq : IxR X (rIx X.K) := ix_list.or (ix_tup.or ix_str)
theorem Inv.lst {pins : List (Addr × Obj)} {σ : St} {H : Hp} {s : Shared} {p : Addr} {xs : List V} (I : Inv X pins σ H s) (h : H p = some (.lst xs)) :
    ∃ (its : List Value) (n : Nat), Vals xs its ∧ s.heap.get? p = some { cls := .type "list", data := .seq its.toArray n } ∧ xs.length ≤ sizeLine := by
  obtain ⟨z, its, n, r, e⟩ := I.hok p _ h
  exact ⟨its, n, r, e, z⟩
theorem slice_bounds (lo hi : Option Int) (n : Nat) : (sliceBounds lo hi none n).1 = ((HT.sIx n 0 lo : Nat) : Int) ∧ (sliceBounds lo hi none n).2.1 = ((HT.sIx n n hi : Nat) : Int) ∧ (sliceBounds lo hi none n).2.2 = 1 := by
  refine ⟨?_, ?_, rfl⟩
  · cases lo with
    | none => simp [sliceBounds, HT.sIx]
    | some i =>
      simp only [sliceBounds, HT.sIx, Option.getD_none, show (1 : Int) > 0 by decide, if_true]
      by_cases h : i < 0
      · simp only [h, if_true] <;> omega
      · simp only [h, if_false] <;> omega
  · cases hi with
    | none => simp [sliceBounds, HT.sIx]
    | some i =>
      simp only [sliceBounds, HT.sIx, Option.getD_none, show (1 : Int) > 0 by decide, if_true]
      by_cases h : i < 0
      · simp only [h, if_true] <;> omega
      · simp only [h, if_false] <;> omega
theorem slicePick_cut (its : List Value) (lo hi : Option Int) : slicePick its.toArray lo hi none = ((its.drop (HT.sIx its.length 0 lo)).take (HT.sIx its.length its.length hi - HT.sIx its.length 0 lo)).toArray := by
  obtain ⟨h1, h2, h3⟩ := slice_bounds lo hi its.toArray.size
  unfold slicePick
  rw [h1, h2, h3]
  simp only [sliceRange_one, pick_run, List.size_toArray] <;> rfl
noncomputable def rSlL (K : PySem.W.Frag) : V → Option Int → Option Int → Hp → VK → Prop := fun x lo hi H Q => ∃ a xs, x = .ref a ∧ SqL K H a xs ∧ ∀ p, H p = none → Q (.ref p) (upd H p (.lst (cutV xs lo hi)))
theorem sl_list : SlR X (rSlL X.K) := by
  intro pins s σ H x v vl vu lo hi sl Q I rx hs pl pu h
  obtain ⟨a, xs, rfl, hx, q⟩ := h
  cases rx
  obtain ⟨its, r, ht, hz⟩ := I.list hx
  have hlen := r.length
  refine ⟨"list", _, slot_list_getitem.lookup, ht.isList.typeIs, ?_⟩
  refine wpAny_getItem_list_slice ht.isList hs pl pu .none (by simp) ?_ (by rw [List.size_toArray] <;> omega)
  rw [slicePick_cut, ← hlen]
  refine ⟨.ref s.heap.objs.size, _, I.laid (t' := s.toks) (o := .lst (cutV xs lo hi)) (fun b ob q => Heap.get?_push_of_some _ q) (Nat.le_refl _) ?_, rfl, q _ (I.hok.fresh (Nat.le_refl _))⟩
  exact ⟨Nat.le_trans (cutV_length xs lo hi) hz, _, 0, (r.drop (HT.sIx xs.length 0 lo)).take (HT.sIx xs.length xs.length hi - HT.sIx xs.length 0 lo), Heap.get?_push_size _ rfl⟩
theorem CallR.or {f : Value} {r r' : List V → Hp → VK → Prop} (h : CallR X f r) (h' : CallR X f r') : CallR X f (fun xs H Q => r xs H Q ∨ r' xs H Q) := by
  intro pins s σ H xs us Q I rs q
  rcases q with q | q
  · exact h pins s σ H xs us Q I rs q
  · exact h' pins s σ H xs us Q I rs q
theorem call_list_of : CallR X (.type "list") (fun xs H Q => ∃ p ys, xs = [.ref p] ∧ (SqL X.K H p ys ∨ SqT X.K H p ys) ∧ ∀ l, H l = none → Q (.ref l) (upd H l (.lst ys))) := by
  intro pins s σ H xs us Q I r h
  obtain ⟨p, ys, rfl, hq, q⟩ := h
  obtain ⟨u, rfl, rx⟩ := vals1 r
  cases rx
  have fin : ∀ (its : List Value), Vals ys its → ys.length ≤ sizeLine → ∀ (h' : Heap) (c' : Nat), (∀ b o', s.heap.get? b = some o' → h'.get? b = some o') →
      h'.get? s.heap.objs.size = some { cls := .type "list", dict := none, data := .seq its.toArray c', slots := #[] } → EP X pins σ Q (.ref s.heap.objs.size) { s with heap := h' } := fun its r' hz h' c' kp e =>
    ⟨.ref s.heap.objs.size, _, I.laid (t' := s.toks) kp (Nat.le_refl _) (show ObjOk X.prog X.w _ h' _ (.lst ys) from ⟨hz, its, c', r', e⟩), rfl, q _ (I.hok.fresh (Nat.le_refl _))⟩
  rcases hq with hq | hq
  · obtain ⟨its, r', pl, hz⟩ := I.list hq
    have hlen := r'.length
    obtain ⟨o, ho, hc, n, hd⟩ := pl.isList
    exact call_list_seq p (.inl rfl) ho hc hd (fun h' c' kp e => fin its r' hz h' c' kp e) (by simp only [List.size_toArray] <;> omega)
  · obtain ⟨its, r', pl, hz⟩ := I.tuple hq
    have hlen := r'.length
    obtain ⟨o, ho, hc, n, hd⟩ := pl
    exact call_list_seq p (.inr rfl) ho hc hd (fun h' c' kp e => fin its r' hz h' c' kp e) (by simp only [List.size_toArray] <;> omega)
theorem call_tuple_of : CallR X (.type "tuple") (fun xs H Q => ∃ p ys, xs = [.ref p] ∧ ((SqL X.K H p ys ∧ ∀ l, H l = none → Q (.ref l) (upd H l (.tup ys))) ∨ (SqT X.K H p ys ∧ Q (.ref p) H))) := by
  intro pins s σ H xs us Q I r h
  obtain ⟨p, ys, rfl, h⟩ := h
  obtain ⟨u, rfl, rx⟩ := vals1 r
  cases rx
  rcases h with ⟨hq, q⟩ | ⟨hq, q⟩
  · obtain ⟨its, r', pl, hz⟩ := I.list hq
    have hlen := r'.length
    refine call_tuple_list pl.isList (fun h' kp => ?_) (by simp only [List.size_toArray] <;> omega)
    have I1 : Inv X pins σ H { s with heap := h' } := I.kept (t' := s.toks) kp
    have I2 : Inv X pins σ (upd H h'.objs.size (.tup ys)) { s with heap := h'.push { cls := .type "tuple", data := .seq its.toArray } } :=
      I1.laid (t' := s.toks) (fun b o e => Heap.get?_push_of_some _ e) (Nat.le_refl _) (show ObjOk X.prog X.w _ _ _ (.tup ys) from ⟨hz, its, r', IsTup.new _ _⟩)
    exact ⟨.ref h'.objs.size, _, I2, rfl, q _ (I1.hok.fresh (Nat.le_refl _))⟩
  · obtain ⟨its, r', pl, hz⟩ := I.tuple hq
    exact call_tuple_same pl ⟨.ref p, H, I, rfl, q⟩
noncomputable def tyV (K : PySem.W.Frag) (T : String) (x : V) (H : Hp) : Prop := match x with
  | .str _ => T = "str"
  | .int _ => T = "int"
  | .ref p => (T = "list" ∧ ∃ xs, SqL K H p xs) ∨ (T = "tuple" ∧ ∃ o, K.lookup p = some o ∧ o.cls = .type "tuple" ∧ o.dict = none) ∨
      (T = "dict" ∧ ((∃ kvs, H p = some (.dK kvs)) ∨ ∃ kvs, H p = some (.dT kvs))) ∨ (T = "set" ∧ ∃ S n, H p = some (.set S n))
  | _ => False
theorem tyV_is {pins : List (Addr × Obj)} {σ : St} {H : Hp} {s : Shared} {T : String} {x : V} {v : Value} (I : Inv X pins σ H s) (r : RelV x v) (ty : tyV X.K T x H) :
    s.TypeIs v T ∧ ∀ a, v = .ref a → ∃ ob, s.heap.get? a = some ob ∧ ob.dict = none := by
  cases x with
  | str z =>
    obtain ⟨t, rfl⟩ := r
    cases (show T = "str" from ty)
    exact ⟨typeIs_str s z t, fun _ e => nomatch e⟩
  | int i =>
    obtain ⟨t, rfl⟩ := r
    cases (show T = "int" from ty)
    exact ⟨typeIs_int s i t, fun _ e => nomatch e⟩
  | ref p =>
    cases r
    rcases ty with ⟨rfl, xs, hq⟩ | ⟨rfl, o, hk, hc, hd⟩ | ⟨rfl, hk⟩ | ⟨rfl, S, n, hk⟩
    · obtain ⟨its, _, pl, _⟩ := I.list hq
      refine ⟨pl.isList.typeIs, fun a e => ?_⟩
      cases e
      obtain ⟨o, n, e, c, hd, _⟩ := pl
      exact ⟨o, e, hd⟩
    · refine ⟨⟨o, I.kIn p o hk, hc⟩, fun a e => ?_⟩
      cases e
      exact ⟨o, I.kIn _ o hk, hd⟩
    · have z : ∃ o, s.heap.get? p = some o ∧ o.ExactDict := by
        rcases hk with ⟨kvs, hk⟩ | ⟨kvs, hk⟩
        · obtain ⟨_, _, _, _, o, _, _, e, ex, _⟩ := I.hok p _ hk
          exact ⟨o, e, ex⟩
        · obtain ⟨_, _, _, _, o, _, _, e, ex, _⟩ := I.hok p _ hk
          exact ⟨o, e, ex⟩
      obtain ⟨o, e, ex⟩ := z
      refine ⟨⟨o, e, ex.1⟩, fun a e2 => ?_⟩
      cases e2
      exact ⟨o, e, ex.2.1⟩
    · obtain ⟨o, _, _, _, e, ex, _⟩ := I.hok p _ hk
      refine ⟨⟨o, e, ex.1⟩, fun a e2 => ?_⟩
      cases e2
      exact ⟨o, e, ex.2.1⟩
  | _ => exact False.elim ty
noncomputable def tBM0 (K : PySem.W.Frag) (T : String) (r : V → List V → Hp → VK → Prop) (to : TE) : TE := fun σ H Q => to σ H fun x H1 => tyV K T x H1 ∧ r x [] H1 Q
noncomputable def tBM (K : PySem.W.Frag) (T : String) (r : V → List V → Hp → VK → Prop) (to : TE) (t : TA) : TE := fun σ H Q => to σ H fun x H1 => tyV K T x H1 ∧ t σ H1 fun xs H2 => r x xs H2 Q
variable {o e : Expr} {es : List Expr} {to : TE} {t : TA} {name : Str} {apos cpos : Pos} {T id : String} {r : V → List V → Hp → VK → Prop}
theorem pe_bm0 (pa : PlainAttrs T) (slot : Slot T name id) (hty : typeOf (.builtin id) = pure (.type "method_descriptor")) (hm : MtR X id r) (ho : PE X o to)
    (hbase : attributeBase o name X.env (eval o X.env) = eval o X.env := by rfl) (hline : (apos.endLine == cpos.line) = true := by rfl) : PE X (.Call (.Attribute o name apos) [] [] cpos) (tBM0 X.K T r to) := by
  intro pins s σ H Q I h
  refine wpAny_Call_method0_late hbase hline (thn (ho pins s σ H _ I h) fun v s1 ⟨x, H1, I1, r1, ty, q1⟩ => ?_)
  obtain ⟨h1, h2⟩ := tyV_is I1 r1 ty
  exact ⟨T, id, pa, slot, hty, h1, h2, Calls.callWith_builtin rfl (PySem.evalArgs_none (hm pins s1 σ H1 x [] v [] Q I1 r1 .nil q1))⟩
theorem pe_bm (pa : PlainAttrs T) (slot : Slot T name id) (hty : typeOf (.builtin id) = pure (.type "method_descriptor")) (hm : MtR X id r) (ho : PE X o to) (ha : PA X (e :: es) t)
    (hbase : attributeBase o name X.env (eval o X.env) = eval o X.env := by rfl)
    (hfew : ((backTo cpos (starEach (e :: es) X.env)).all (fun x => !x.1) && (backToKw cpos (keywordEach [] X.env)).all (fun x => x.1.isSome)
      && decide ((e :: es).length + ([] : List Keyword).length + (if ([] : List Keyword).isEmpty then 0 else 1) < 30)) = true := by rfl)
    (hline : (apos.endLine == cpos.line) = true := by rfl) (hs : starEach (e :: es) X.env = (false, eval e X.env) :: starEach es X.env := by rfl) (hplain : (backTo cpos (starEach es X.env)).any (·.1) = false := by rfl) :
    PE X (.Call (.Attribute o name apos) (e :: es) [] cpos) (tBM X.K T r to t) := by
  intro pins s σ H Q I h
  refine wpAny_Call_method_late hbase hfew hline rfl (thn (ho pins s σ H _ I h) fun v s1 ⟨x, H1, I1, r1, ty, q1⟩ => ?_)
  obtain ⟨h1, h2⟩ := tyV_is I1 r1 ty
  refine ⟨T, id, pa, slot, hty, h1, h2, ?_⟩
  have hA := ha cpos pins s1 σ H1 _ I1 q1
  rw [hs] at hA ⊢
  refine Calls.callWith_builtin (by show (false || (backTo cpos (starEach es X.env)).any (·.1)) = false; rw [hplain] <;> rfl) (Calls.evalArgs_plain ?_)
  exact thn hA fun us s2 ⟨vs, H2, I2, r2, q2⟩ => hm pins s2 σ H2 x vs v us Q I2 r1 r2 q2
end
end L2
namespace L2
open PySem PySem.Spec PyProof.Rows
noncomputable def MtM (X : Cx) (id : String) (r : V → List V → Hp → VK → Prop) : Prop :=
  ∀ (pins : List (Addr × Obj)) (s : Shared) (σ : St) (H : Hp) (x : V) (xs : List V) (v : Value) (us : List Value) (Q : VK), Inv X pins σ H s → RelV x v → Vals xs us → r x xs H Q →
    wpAny (model X.prog X.w) X.A (call (.builtin id) (v :: us)) (EP X pins σ Q) X.xe s
theorem Vals.one : ∀ {x : V} {us : List Value}, Vals [x] us → ∃ u, us = [u] ∧ RelV x u
  | _, _, .cons r .nil => ⟨_, rfl, r⟩
theorem Vals.zero : ∀ {us : List Value}, Vals [] us → us = []
  | _, .nil => rfl
theorem Vals.dropLast {xs : List V} {us : List Value} (h : Vals xs us) : Vals xs.dropLast us.dropLast := by
  induction h with
  | nil => exact .nil
  | cons r t ih =>
    cases t with
    | nil => exact .nil
    | cons q t' => exact .cons r ih
theorem Vals.eraseIdx : ∀ {xs : List V} {us : List Value} (i : Nat), Vals xs us → Vals (xs.eraseIdx i) (us.eraseIdx i)
  | _, _, _, .nil => .nil
  | _, _, 0, .cons _ t => t
  | _, _, i + 1, .cons r t => .cons r (Vals.eraseIdx i t)
theorem Vals.rep {xs : List V} {us : List Value} (h : Vals xs us) : ∀ k : Nat, Vals (List.replicate k xs).flatten (List.replicate k us).flatten
  | 0 => .nil
  | k + 1 => by
    rw [List.replicate_succ, List.replicate_succ, List.flatten_cons, List.flatten_cons]
    exact Vals.append h (Vals.rep h k)
theorem erase_last {α : Type} (l : List α) : l.eraseIdx (l.length - 1) = l.dropLast := by
  induction l with
  | nil => rfl
  | cons a r ih =>
    cases r with
    | nil => rfl
    | cons b r =>
      have e : (a :: b :: r).length - 1 = ((b :: r).length - 1) + 1 := by
        have h1 : (a :: b :: r).length = r.length + 2 := rfl
        have h2 : (b :: r).length = r.length + 1 := rfl
        omega
      rw [e, List.eraseIdx_cons_succ, ih]
      all_goals rfl
theorem foldl_rep (its : List Value) : ∀ (k : Nat) (acc : List Value),
    List.foldl (fun x1 x2 => x1 ++ x2) acc.toArray (List.replicate k its.toArray) = (acc ++ (List.replicate k its).flatten).toArray
  | 0, acc => by simp
  | k + 1, acc => by
    have e : acc.toArray ++ its.toArray = (acc ++ its).toArray := by simp
    have e2 : (acc ++ its) ++ (List.replicate k its).flatten = acc ++ (List.replicate (k + 1) its).flatten := by
      rw [List.replicate_succ, List.flatten_cons, List.append_assoc]
    rw [← e2, ← foldl_rep its k (acc ++ its), ← e, List.replicate_succ, List.foldl_cons]
section
variable {X : Cx} {pins : List (Addr × Obj)} {σ : St} {H : Hp} {s : Shared} {l b : Addr} {xs ys zs : List V}
theorem Inv.lset {its its' : List Value} {n : Nat} {f : Array Value → Array Value} {t' : Nat} (I : Inv X pins σ H s) (hH : H l = some (.lst xs))
    (e : s.heap.get? l = some { cls := .type "list", data := .seq its.toArray n }) (hf : f its.toArray = its'.toArray) (hv : Vals ys its') (hz : ys.length ≤ sizeLine) :
    Inv X pins σ (upd H l (.lst ys)) { s with heap := s.heap.update l (Obj.mapSeq f), toks := t' } := by
  have q := PySem.IsL.update e f
  rw [hf] at q
  refine I.write (x := l) (e := l) (by rw [hH]; exact trivial) (.inl rfl) (fun b' u hb hu => (Heap.get?_update_other s.heap (Obj.mapSeq f) (Ne.symm hb)).trans hu) ⟨_, q⟩ ?_
  exact ⟨hz, its', _, hv, q⟩
theorem Inv.lnew {its : List Value} {t' : Nat} (I : Inv X pins σ H s) (hv : Vals ys its) (hz : ys.length ≤ sizeLine) :
    Inv X pins σ (upd H s.heap.objs.size (.lst ys)) { s with heap := s.heap.push { cls := .type "list", data := .seq its.toArray }, toks := t' } :=
  I.laid (fun _ _ q => Heap.get?_push_of_some _ q) (Nat.le_refl _) ⟨hz, its, 0, hv, Heap.get?_push_size _ rfl⟩
theorem Inv.fresh (I : Inv X pins σ H s) : H s.heap.objs.size = none := I.hok.fresh (Nat.le_refl _)
theorem Inv.lstM (I : Inv X pins σ H s) (hH : H l = some (.lst xs)) : xs.length ≤ sizeLine ∧ ∃ (its : List Value) (n : Nat), Vals xs its ∧ xs.length = its.length ∧ s.heap.get? l = some { cls := .type "list", data := .seq its.toArray n } := by
  obtain ⟨z, its, n, r, e⟩ := I.hok l _ hH
  exact ⟨z, its, n, r, r.length, e⟩
theorem notLongL {n : Nat} (h : n ≤ sizeLine) : Builtin.List.listTooLong n = false := by
  unfold Builtin.List.listTooLong
  exact decide_eq_false (by omega)
end
section
variable {X : Cx}
noncomputable def rAppend : V → List V → Hp → VK → Prop := fun x vs H Q => ∃ l xs y, x = .ref l ∧ vs = [y] ∧ H l = some (.lst xs) ∧ xs.length < sizeLine ∧ Q .non (upd H l (.lst (xs ++ [y])))
theorem mt_append : MtM X "list.append" rAppend := by
  intro pins s σ H x vs v us Q I rx rv h
  obtain ⟨l, xs, y, rfl, rfl, hH, hz, q⟩ := h
  cases rx
  obtain ⟨u, rfl, ru⟩ := rv.one
  obtain ⟨z, its, n, r, hl, e⟩ := I.lstM hH
  refine call_meets F.slot_list_append ⟨_, e, rfl⟩ F.entry_list_append (F.args_list_append_2 _ _) (PySem.list_append l its.toArray n u (by rw [List.size_toArray]; omega)) ⟨e, ?_⟩
  refine ⟨.non, _, I.lset (its' := its ++ [u]) hH e (by simp) (r.append (.cons ru .nil)) ?_, rfl, q⟩
  rw [List.length_append, List.length_singleton]
  omega
noncomputable def rExtend : V → List V → Hp → VK → Prop := fun x vs H Q => ∃ l b xs zs, x = .ref l ∧ vs = [.ref b] ∧ H l = some (.lst xs) ∧ H b = some (.lst zs) ∧ xs.length + zs.length ≤ sizeLine ∧ Q .non (upd H l (.lst (xs ++ zs)))
theorem mt_extend : MtM X "list.extend" rExtend := by
  intro pins s σ H x vs v us Q I rx rv h
  obtain ⟨l, b, xs, zs, rfl, rfl, hH, hB, hz, q⟩ := h
  cases rx
  obtain ⟨u, rfl, ru⟩ := rv.one
  cases ru
  obtain ⟨z, its, n, r, hl, e⟩ := I.lstM hH
  obtain ⟨z2, its2, n2, r2, hl2, e2⟩ := I.lstM hB
  have hsz : its.toArray.size + its2.toArray.size ≤ sizeLine := by rw [List.size_toArray, List.size_toArray]; omega
  have hlong : ¬ (!its.toArray.isEmpty && Builtin.List.listTooLong (its.toArray.size + its2.toArray.size)) = true := by
    rw [notLongL hsz, Bool.and_false]
    exact Bool.false_ne_true
  refine call_meets F.slot_list_extend ⟨_, e, rfl⟩ F.entry_list_extend (F.args_list_extend_2 _ _)
    (AutoSeq1.list_extend_list_list_0 l its.toArray n b its2.toArray n2 hlong (by rw [List.size_toArray]; omega) (by omega)) ⟨e, e2, ?_⟩
  refine ⟨.non, _, I.lset (its' := its ++ its2) hH e (by simp) (r.append r2) ?_, rfl, q⟩
  rw [List.length_append]
  omega
noncomputable def rPop : V → List V → Hp → VK → Prop := fun x vs H Q => ∃ l xs y, x = .ref l ∧ vs = [] ∧ H l = some (.lst xs) ∧ xs[xs.length - 1]? = some y ∧ Q y (upd H l (.lst xs.dropLast))
theorem mt_pop : MtM X "list.pop" rPop := by
  intro pins s σ H x vs v us Q I rx rv h
  obtain ⟨l, xs, y, rfl, rfl, hH, hy, q⟩ := h
  cases rx
  have hus := rv.zero
  subst hus
  obtain ⟨z, its, n, r, hl, e⟩ := I.lstM hH
  obtain ⟨u, hu, ru⟩ := r.get hy
  have hy' : its.toArray[its.toArray.size - 1]? = some u := by
    show its.toArray[its.length - 1]? = some u
    rw [← Array.getElem?_toList, ← hl]
    exact hu
  refine call_meets F.slot_list_pop ⟨_, e, rfl⟩ F.entry_list_pop (F.args_list_pop_1 _) (MeetsSeq.list_pop_last l its.toArray n u hy' (by rw [List.size_toArray]; omega)) ⟨e, ?_⟩
  refine ⟨y, _, I.lset (its' := its.dropLast) hH e ?_ r.dropLast ?_, ru, q⟩
  · show its.toArray.eraseIdxIfInBounds (its.toArray.size - 1) = its.dropLast.toArray
    rw [List.size_toArray, List.eraseIdxIfInBounds_toArray, erase_last]
  · rw [List.length_dropLast]
    omega
noncomputable def rCat : R2 := fun x y H Q => ∃ l b xs zs, x = .ref l ∧ y = .ref b ∧ H l = some (.lst xs) ∧ H b = some (.lst zs) ∧ xs.length + zs.length ≤ sizeLine ∧ ∀ p, H p = none → Q (.ref p) (upd H p (.lst (xs ++ zs)))
theorem op_cat : OpR X (binaryOp .Add) rCat := by
  intro pins s σ H x y v u Q I rx ry h
  obtain ⟨l, b, xs, zs, rfl, rfl, hH, hB, hz, q⟩ := h
  cases rx
  cases ry
  obtain ⟨z, its, n, r, hl, e⟩ := I.lstM hH
  obtain ⟨z2, its2, n2, r2, hl2, e2⟩ := I.lstM hB
  refine PySem.P.add_list e e2 ?_ (by rw [List.size_toArray, List.size_toArray]; omega)
  have ea : its.toArray ++ its2.toArray = (its ++ its2).toArray := by simp
  rw [ea]
  exact ⟨.ref _, _, I.lnew (t' := s.toks) (r.append r2) (by rw [List.length_append]; omega), rfl, q _ I.fresh⟩
noncomputable def rRep : R2 := fun x y H Q => ∃ l k xs, x = .ref l ∧ y = .int k ∧ H l = some (.lst xs) ∧ -(2 ^ 63) ≤ k ∧ k < 2 ^ 63 ∧ xs.length * k.toNat ≤ sizeLine ∧
  ∀ p, H p = none → Q (.ref p) (upd H p (.lst (List.replicate k.toNat xs).flatten))
theorem len_rep {α : Type} (xs : List α) (k : Nat) : (List.replicate k xs).flatten.length = k * xs.length := by
  induction k with
  | zero => simp
  | succ k ih => rw [List.replicate_succ, List.flatten_cons, List.length_append, ih, Nat.succ_mul, Nat.add_comm]
theorem op_rep : OpR X (binaryOp .Mult) rRep := by
  intro pins s σ H x y v u Q I rx ry h
  obtain ⟨l, k, xs, rfl, rfl, hH, h1, h2, hz, q⟩ := h
  cases rx
  obtain ⟨t, rfl⟩ := ry
  obtain ⟨z, its, n, r, hl, e⟩ := I.lstM hH
  have hlen : its.toArray.size * k.toNat ≤ sizeLine := by rw [List.size_toArray, ← hl]; exact hz
  have hcap : ¬ its.toArray.size * k.toNat > (2 ^ 63 - 1) / 8 := by
    have : (sizeLine : Nat) ≤ (2 ^ 63 - 1) / 8 := by decide
    omega
  have hfit : ¬ (!Builtin.List.listFitsIndex k) = true := by
    rw [fitsIndex_both h1 h2]
    exact Bool.false_ne_true
  have hlong : ¬ Builtin.List.listTooLong (its.toArray.size * k.toNat) = true := by
    rw [notLongL hlen]
    exact Bool.false_ne_true
  have hnew : List.foldl (fun x1 x2 => x1 ++ x2) #[] (List.replicate (if its.toArray.isEmpty = true then 0 else k.toNat) its.toArray) = (List.replicate k.toNat its).flatten.toArray := by
    have f0 : ∀ m : Nat, List.foldl (fun x1 x2 => x1 ++ x2) #[] (List.replicate m its.toArray) = (List.replicate m its).flatten.toArray := fun m => by
      have := foldl_rep its m []
      rw [List.nil_append] at this
      exact this
    rw [f0]
    cases its with
    | nil => simp
    | cons a r' => rw [if_neg (by simp)]
  refine wpAny_binaryOp_repeat_ref (T := "list") (U := "int") (by decide) ⟨_, e, rfl⟩ (fun s' => typeIs_int s' k t) noFill_list_mul F.fills_int_mul F.slot_int_rmul repeat_list F.slot_int_index.lookup
    (call_meets F.slot_int_rmul (typeIs_int s k t) F.entry_int_rmul (F.args_int_rmul_2 _ _) (int___rmul___int_list k t l its.toArray n)
      ⟨e, rfl, ⟨_, e, rfl⟩, call_meets F.slot_list_mul ⟨_, e, rfl⟩ F.entry_list_mul (F.args_list_mul_2 _ _) (AutoListH.list___mul___list_int_3 l its.toArray n k t hfit hcap hlong) ⟨e, ?_⟩⟩)
  rw [hnew]
  exact ⟨.ref _, _, I.lnew (t' := s.toks) (r.rep k.toNat) (by rw [len_rep, Nat.mul_comm]; exact hz), rfl, q _ I.fresh⟩
end
section
variable {prog : Program} {w : World} {A : Around} {E : Value → Shared → Prop} {s : Shared}
end
section
variable {X : Cx}
end
end L2
namespace L2
open PySem PySem.Spec PyProof.Rows
section
variable {κ : Type} [DecidableEq κ]
noncomputable def valV (kvs : List (κ × V)) (k : κ) : Option V := (kvs.find? fun kv => decide (kv.1 = k)).map (·.2)
noncomputable def putK (kvs : List (κ × V)) (k : κ) (v : V) : List (κ × V) :=
  if (kvs.any fun kv => decide (kv.1 = k)) = true then kvs.map (fun kv => if kv.1 = k then (kv.1, v) else kv) else kvs ++ [(k, v)]
noncomputable def dropK (kvs : List (κ × V)) (k : κ) : List (κ × V) := kvs.filter fun kv => decide (kv.1 ≠ k)
theorem valV_pos {p : κ × V} {r : List (κ × V)} {k : κ} (e : p.1 = k) : valV (p :: r) k = some p.2 := by simp [valV, List.find?_cons, e]
theorem valV_neg {p : κ × V} {r : List (κ × V)} {k : κ} (e : ¬ p.1 = k) : valV (p :: r) k = valV r k := by simp [valV, List.find?_cons, e]
theorem valV_any (k : κ) : ∀ kvs : List (κ × V), (kvs.any fun kv => decide (kv.1 = k)) = (valV kvs k).isSome
  | [] => rfl
  | p :: r => by
    rw [List.any_cons]
    by_cases e : p.1 = k
    · simp only [valV_pos e, decide_eq_true e, Bool.true_or, Option.isSome_some]
    · rw [valV_neg e, decide_eq_false e, Bool.false_or]; exact valV_any k r
theorem length_putK (kvs : List (κ × V)) (k : κ) (v : V) : (putK kvs k v).length ≤ kvs.length + 1 := by
  unfold putK
  split
  · rw [List.length_map]; omega
  · rw [List.length_append, List.length_cons, List.length_nil]; omega
theorem putK_new {kvs : List (κ × V)} {k : κ} (v : V) (h : valV kvs k = none) : putK kvs k v = kvs ++ [(k, v)] := by
  unfold putK
  rw [valV_any, h]
  exact if_neg (by decide)
theorem RelO.isSome_eq {o : Option V} {u : Option Value} (r : RelO o u) : o.isSome = u.isSome := by
  cases o with
  | none => cases u with
    | none => rfl
    | some _ => exact (show False from r).elim
  | some _ => cases u with
    | none => exact (show False from r).elim
    | some _ => rfl
theorem RelO.getD {o : Option V} {u : Option Value} {d : V} {d' : Value} (r : RelO o u) (rd : RelV d d') : RelV (o.getD d) (u.getD d') := by
  cases o with
  | none => cases u with
    | none => exact rd
    | some _ => exact (show False from r).elim
  | some _ => cases u with
    | none => exact (show False from r).elim
    | some _ => exact r
theorem KV.val {kvs : List (κ × V)} {vs : List (κ × Value)} (r : KV kvs vs) (k : κ) : RelO (valV kvs k) (valueAt vs k) := by
  unfold KV at r
  induction r with
  | nil => exact True.intro
  | @cons p q ps qs h t ih =>
    obtain ⟨h1, h2⟩ := h
    by_cases e : p.1 = k
    · have e' : q.1 = k := h1.symm.trans e
      have b : valueAt (q :: qs) k = some q.2 := by simp [valueAt, List.find?_cons, e']
      rw [valV_pos e, b]; exact h2
    · have e' : ¬ q.1 = k := fun z => e (h1.trans z)
      have b : valueAt (q :: qs) k = valueAt qs k := by simp [valueAt, List.find?_cons, e']
      rw [valV_neg e, b]; exact ih
theorem KV.any {kvs : List (κ × V)} {vs : List (κ × Value)} (r : KV kvs vs) (k : κ) : (kvs.any fun kv => decide (kv.1 = k)) = vs.any fun kv => decide (kv.1 = k) := by
  unfold KV at r
  induction r with
  | nil => rfl
  | cons h t ih => rw [List.any_cons, List.any_cons, ih, h.1]
theorem KV.repl {kvs : List (κ × V)} {vs : List (κ × Value)} (r : KV kvs vs) (k : κ) {y : V} {u : Value} (ry : RelV y u) :
    KV (kvs.map fun kv => if kv.1 = k then (kv.1, y) else kv) (vs.map fun kv => if kv.1 = k then (kv.1, u) else kv) := by
  unfold KV at r ⊢
  induction r with
  | nil => exact .nil
  | @cons p q ps qs h t ih =>
    rw [List.map_cons, List.map_cons]
    refine .cons ?_ ih
    obtain ⟨h1, h2⟩ := h
    by_cases e : p.1 = k
    · rw [if_pos e, if_pos (h1.symm.trans e)]; exact ⟨h1, ry⟩
    · rw [if_neg e, if_neg (fun z => e (h1.trans z))]; exact ⟨h1, h2⟩
theorem KV.put {kvs : List (κ × V)} {vs : List (κ × Value)} (r : KV kvs vs) (k : κ) {y : V} {u : Value} (ry : RelV y u) : KV (putK kvs k y) (stored vs k u) := by
  unfold putK stored
  rw [r.any k]
  by_cases e : (vs.any fun kv => decide (kv.1 = k)) = true
  · rw [if_pos e, if_pos e]; exact r.repl k ry
  · rw [if_neg e, if_neg e]; exact Paired.snoc r ⟨rfl, ry⟩
theorem KV.drop {kvs : List (κ × V)} {vs : List (κ × Value)} (r : KV kvs vs) (k : κ) : KV (dropK kvs k) (without vs k) := by
  unfold KV at r ⊢
  unfold dropK without
  induction r with
  | nil => exact .nil
  | @cons p q ps qs h t ih =>
    obtain ⟨h1, h2⟩ := h
    rw [List.filter_cons, List.filter_cons]
    by_cases e : p.1 = k
    · have a : ¬ decide (p.1 ≠ k) = true := by simp [e]
      have b : ¬ decide (q.1 ≠ k) = true := by simp [h1.symm.trans e]
      rw [if_neg a, if_neg b]; exact ih
    · have e' : ¬ q.1 = k := fun z => e (h1.trans z)
      have a : decide (p.1 ≠ k) = true := by simp [e]
      have b : decide (q.1 ≠ k) = true := by simp [e']
      rw [if_pos a, if_pos b]; exact .cons ⟨h1, h2⟩ ih
theorem KV.length {kvs : List (κ × V)} {vs : List (κ × Value)} (r : KV kvs vs) : kvs.length = vs.length := Paired.length r
end
theorem kV_is {P : Program} {w : World} {k : Key} {u : Value} (r : RelV (kV k) u) : (mixKind P w).is k u = true := by
  cases k with
  | inl i => obtain ⟨t, e⟩ := (show ∃ t, u = Value.int i t from r); subst e; exact mixKind_int P w i t
  | inr x => obtain ⟨t, e⟩ := (show ∃ t, u = Value.str x t from r); subst e; exact mixKind_str P w x t
theorem items_are {P : Program} {w : World} : ∀ {ks : List Key} {us : List Value}, Vals (ks.map kV) us → ItemsAre (mixKind P w) ks us
  | [], _, r => by rw [List.map_nil] at r; cases r; exact .nil
  | k :: ks, _, r => by
    rw [List.map_cons] at r
    cases r with
    | cons h t => exact .cons (kV_is h) (items_are t)
noncomputable abbrev KT (H : Hp) : List (List Key × V) → List (List Key × Addr × Value) → Prop := Paired fun p q => p.1 = q.1 ∧ H q.2.1 = some (.tup (p.1.map kV)) ∧ RelV p.2 q.2.2
theorem KT.val {H : Hp} {kvs : List (List Key × V)} {xs : List (List Key × Addr × Value)} (r : KT H kvs xs) (k : List Key) : RelO (valV kvs k) ((atKey xs k).map (·.2)) := by
  induction r with
  | nil => exact True.intro
  | @cons p q ps qs h t ih =>
    obtain ⟨h1, _, h2⟩ := h
    by_cases e : p.1 = k
    · have e' : q.1 = k := h1.symm.trans e
      have b : atKey (q :: qs) k = some q.2 := by simp [atKey, List.find?_cons, e']
      rw [valV_pos e, b]; exact h2
    · have e' : ¬ q.1 = k := fun z => e (h1.trans z)
      have b : atKey (q :: qs) k = atKey qs k := by simp [atKey, List.find?_cons, e']
      rw [valV_neg e, b]; exact ih
theorem KT.repl {H : Hp} {kvs : List (List Key × V)} {xs : List (List Key × Addr × Value)} (r : KT H kvs xs) (k : List Key) {y : V} {u : Value} (ry : RelV y u) :
    KT H (kvs.map fun kv => if kv.1 = k then (kv.1, y) else kv) (xs.map (putAt k u)) := by
  induction r with
  | nil => exact .nil
  | @cons p q ps qs h t ih =>
    rw [List.map_cons, List.map_cons]
    refine .cons ?_ ih
    obtain ⟨h1, h2, h3⟩ := h
    unfold putAt
    by_cases e : p.1 = k
    · rw [if_pos e, if_pos (h1.symm.trans e)]; exact ⟨h1, h2, ry⟩
    · rw [if_neg e, if_neg (fun z => e (h1.trans z))]; exact ⟨h1, h2, h3⟩
theorem KT.put {H : Hp} {kvs : List (List Key × V)} {xs : List (List Key × Addr × Value)} (r : KT H kvs xs) (k : List Key) {b : Addr} {y : V} {u : Value} (hb : H b = some (.tup (k.map kV))) (ry : RelV y u) :
    KT H (putK kvs k y) (storedH xs k b u) := by
  have e : (kvs.any fun kv => decide (kv.1 = k)) = (atKey xs k).isSome := by
    rw [valV_any, (r.val k).isSome_eq, Option.isSome_map]
  unfold putK storedH
  rw [e]
  by_cases q : (atKey xs k).isSome = true
  · rw [if_pos q, if_pos q]; exact r.repl k ry
  · rw [if_neg q, if_neg q]; exact Paired.snoc r ⟨rfl, hb, ry⟩
theorem KT.keeps {H H' : Hp} {kvs : List (List Key × V)} {xs : List (List Key × Addr × Value)} (r : KT H kvs xs) (ht : ∀ b ys, H b = some (.tup ys) → H' b = some (.tup ys)) : KT H' kvs xs :=
  Paired.mapP r fun _ _ z => ⟨z.1, ht _ _ z.2.1, z.2.2⟩
section
variable {P : Program} {w : World} {H : Hp} {h : Heap} {a : Addr}
theorem rd_of {u : HO} (ok : HOk P w H h) (e : Rd H a u) : ObjOk P w H h a u := e.ok ok
theorem dk_rd {kvs : List (Key × V)} (ok : HOk P w H h) (e : Rd H a (.dK kvs)) : kvs.length ≤ sizeLine ∧ (a == sysModules) = false ∧ ∃ vs, KV kvs vs ∧ h.DictOf (mixKind P w) a vs :=
  show ObjOk P w H h a (.dK kvs) from rd_of ok e
theorem dk_of {kvs : List (Key × V)} (ok : HOk P w H h) (e : H a = some (.dK kvs)) : kvs.length ≤ sizeLine ∧ (a == sysModules) = false ∧ ∃ vs, KV kvs vs ∧ h.DictOf (mixKind P w) a vs := dk_rd ok (.inl e)
theorem key_of {ks : List Key} (ok : HOk P w H h) (e : H a = some (.tup (ks.map kV))) : (tupleKind (mixKind P w)).is h ks a := by
  obtain ⟨_, its, r, o, h1, h2, n, h3⟩ := (show ObjOk P w H h a (.tup (ks.map kV)) from ok a _ e)
  exact ⟨o, its.toArray, n, h1, h2, h3, by simpa using items_are r⟩
theorem dt_rd {kvs : List (List Key × V)} (ok : HOk P w H h) (e : Rd H a (.dT kvs)) : kvs.length ≤ sizeLine ∧ (a == sysModules) = false ∧
    ∃ xs, KT H kvs xs ∧ h.DictOfH (tupleKind (mixKind P w)) a xs := by
  obtain ⟨z, y, xs, r, o, es, ep, h1, h2, h3, h4, h5⟩ := (show ObjOk P w H h a (.dT kvs) from rd_of ok e)
  refine ⟨z, y, xs, r, o, es, ep, h1, h2, h3, h4, fun x hx => ?_, h5⟩
  have all : ∀ {l : List (List Key × V)} {m : List (List Key × Addr × Value)}, KT H l m → ∀ x ∈ m, (tupleKind (mixKind P w)).is h x.1 x.2.1 := by
    intro l m q
    induction q with
    | nil => intro x hx; exact nomatch hx
    | @cons p q ps qs hq t ih =>
      intro x hx
      rcases List.mem_cons.mp hx with e | hx
      · subst e
        exact key_of ok (by rw [← hq.1]; exact hq.2.1)
      · exact ih x hx
  exact all r x hx
theorem dt_of {kvs : List (List Key × V)} (ok : HOk P w H h) (e : H a = some (.dT kvs)) : kvs.length ≤ sizeLine ∧ (a == sysModules) = false ∧
    ∃ xs, KT H kvs xs ∧ h.DictOfH (tupleKind (mixKind P w)) a xs := dt_rd ok (.inl e)
end
noncomputable def DGet (H : Hp) (a : Addr) (y : V) (r : Option V) : Prop :=
  (∃ kvs k, Rd H a (.dK kvs) ∧ y = kV k ∧ r = valV kvs k) ∨ ∃ kvs k b, Rd H a (.dT kvs) ∧ y = .ref b ∧ H b = some (.tup (k.map kV)) ∧ r = valV kvs k
noncomputable def DPut (H : Hp) (a : Addr) (y v : V) (H' : Hp) : Prop :=
  (∃ kvs k, H a = some (.dK kvs) ∧ y = kV k ∧ kvs.length < sizeLine ∧ H' = upd H a (.dK (putK kvs k v))) ∨
  ∃ kvs k b, H a = some (.dT kvs) ∧ y = .ref b ∧ H b = some (.tup (k.map kV)) ∧ kvs.length < sizeLine ∧ H' = upd H a (.dT (putK kvs k v))
theorem DGet.k {H : Hp} {a : Addr} {kvs : List (Key × V)} {k : Key} (e : H a = some (.dK kvs)) : DGet H a (kV k) (valV kvs k) := .inl ⟨kvs, k, .inl e, rfl, rfl⟩
theorem DGet.t {H : Hp} {a b : Addr} {kvs : List (List Key × V)} {k : List Key} (e : H a = some (.dT kvs)) (eb : H b = some (.tup (k.map kV))) : DGet H a (.ref b) (valV kvs k) := .inr ⟨kvs, k, b, .inl e, rfl, eb, rfl⟩
theorem DPut.k {H : Hp} {a : Addr} {kvs : List (Key × V)} {k : Key} {v : V} (e : H a = some (.dK kvs)) (hl : kvs.length < sizeLine) : DPut H a (kV k) v (upd H a (.dK (putK kvs k v))) := .inl ⟨kvs, k, e, rfl, hl, rfl⟩
theorem DPut.t {H : Hp} {a b : Addr} {kvs : List (List Key × V)} {k : List Key} {v : V} (e : H a = some (.dT kvs)) (eb : H b = some (.tup (k.map kV))) (hl : kvs.length < sizeLine) :
    DPut H a (.ref b) v (upd H a (.dT (putK kvs k v))) := .inr ⟨kvs, k, b, e, rfl, eb, hl, rfl⟩
section
variable {X : Cx} {pins : List (Addr × Obj)} {σ : St} {H : Hp} {s : Shared} {a : Addr} {y v : V} {u r : Value} {o : Option V} {A : Around} {E : Value → Shared → Prop}
theorem Inv.big (I : Inv X pins σ H s) : sysModules < s.heap.objs.size := by
  have h : mainGlobals < s.heap.objs.size := (I.mod.glob.keeps I.bk).lt
  exact Nat.lt_trans (by decide) h
theorem d_getItem {Q : Value → Shared → Prop} (hu : A.units + 1 < cLine) (I : Inv X pins σ H s) (g : DGet H a y (some v)) (ry : RelV y u) (h : ∀ w' s', Inv X pins σ H s' → RelV v w' → Q w' s') :
    wpAny (model X.prog X.w) A (getItem (.ref a) u) Q E s := by
  rcases g with ⟨kvs, k, e, ey, l⟩ | ⟨kvs, k, b, e, ey, eb, l⟩
  · subst ey
    obtain ⟨z, hd, vs, rel, dd⟩ := dk_rd I.hok e
    obtain ⟨w', hw, rw'⟩ := RelO.some_of (v := v) (o := valueAt vs k) (by rw [l]; exact rel.val k)
    exact wpAny_getItem_of (kV_is ry) dd.mapOf hw (h w' _ (I.tok _) rw')
  · subst ey
    cases (show u = Value.ref b from ry)
    obtain ⟨z, hd, xs, rel, dd⟩ := dt_rd I.hok e
    obtain ⟨w', hw, rw'⟩ := RelO.some_of (v := v) (o := (atKey xs k).map (·.2)) (by rw [l]; exact rel.val k)
    obtain ⟨p, hp, hp2⟩ := Option.map_eq_some_iff.mp hw
    refine wpAny_getItem_heap (tupleKind_room_in1 hu) (key_of I.hok eb) dd hp ?_
    rw [hp2]
    exact h w' _ (I.tok _) rw'
theorem d_notIn {Q : Value → Shared → Prop} (hu : A.units + 1 < cLine) (I : Inv X pins σ H s) (g : DGet H a y o) (ry : RelV y u) (h : ∀ s', Inv X pins σ H s' → Q (.bool (!o.isSome)) s') :
    wpAny (model X.prog X.w) A (compareOp .NotIn u (.ref a)) Q E s := by
  rcases g with ⟨kvs, k, e, ey, l⟩ | ⟨kvs, k, b, e, ey, eb, l⟩
  · subst ey
    obtain ⟨z, hd, vs, rel, dd⟩ := dk_rd I.hok e
    refine wpAny_notIn_of (kV_is ry) hd dd.mapOf ?_
    rw [← (rel.val k).isSome_eq, ← l]
    exact h _ (I.tok _)
  · subst ey
    cases (show u = Value.ref b from ry)
    obtain ⟨z, hd, xs, rel, dd⟩ := dt_rd I.hok e
    refine wpAny_notIn_heap (tupleKind_room_in1 hu) (key_of I.hok eb) hd dd ?_
    have q := (rel.val k).isSome_eq
    rw [Option.isSome_map] at q
    rw [← q, ← l]
    exact h _ (I.tok _)
theorem d_write {h' : Heap} {t' : Nat} {ob : HO} (I : Inv X pins σ H s) (mu : Mut (H a)) (hs : Heap.SameBut a s.heap h') (he : ∃ q, h'.get? a = some q) (new : ObjOk X.prog X.w (upd H a ob) h' a ob) :
    Inv X pins σ (upd H a ob) { s with heap := h', toks := t' } :=
  I.write (x := a) (e := a) mu (.inl rfl) (fun b q hb z => (hs.2 b hb).trans z) he new
theorem dk_new {P : Program} {w : World} {H' : Hp} {h' : Heap} {kvs : List (Key × V)} {vs : List (Key × Value)} (z : kvs.length ≤ sizeLine) (hd : (a == sysModules) = false) (rel : KV kvs vs) (dd : h'.DictOf (mixKind P w) a vs) :
    ObjOk P w H' h' a (.dK kvs) := ⟨z, hd, vs, rel, dd⟩
theorem d_setItem {H' : Hp} {Q : Unit → Shared → Prop} (hu : A.units + 1 < cLine) (I : Inv X pins σ H s) (g : DPut H a y v H') (ry : RelV y u) (rv : RelV v r) (h : ∀ s', Inv X pins σ H' s' → Q () s') :
    wpAny (model X.prog X.w) A (setItem (.ref a) u r) Q E s := by
  rcases g with ⟨kvs, k, e, ey, l, eH⟩ | ⟨kvs, k, b, e, ey, eb, l, eH⟩
  · subst ey eH
    obtain ⟨z, hd, vs, rel, dd⟩ := dk_of I.hok e
    have hz : vs.length ≤ sizeLine := by rw [← rel.length]; exact z
    have hl : (putK kvs k v).length ≤ sizeLine := by have := length_putK kvs k v; omega
    refine wpAny_setItem_pairs (hsz := hz) (kV_is ry) dd fun h' dd' hs => h _ ?_
    have he : ∃ q, h'.get? a = some q := let ⟨q, _, _, hq, _⟩ := dd'; ⟨q, hq⟩
    exact d_write I (by rw [e]; exact True.intro) hs he (dk_new hl hd (rel.put k rv) dd')
  · subst ey eH
    cases (show u = Value.ref b from ry)
    obtain ⟨z, hd, xs, rel, dd⟩ := dt_of I.hok e
    have hz : xs.length ≤ sizeLine := by rw [← Paired.length rel]; exact z
    have hl : (putK kvs k v).length ≤ sizeLine := by have := length_putK kvs k v; omega
    refine wpAny_setItem_heap (hsz := hz) (tupleKind_room_in1 hu) (key_of I.hok eb) dd fun h' dd' hs => h _ ?_
    obtain ⟨q, es, ep, hq, h2, h3, h4, _, h5⟩ := dd'
    refine d_write I (by rw [e]; exact True.intro) hs ⟨q, hq⟩ ⟨hl, hd, _, (rel.put k eb rv).keeps fun c ys ec => ?_, q, es, ep, hq, h2, h3, h4, h5⟩
    rw [upd_ne (ne_of ec e (fun z => nomatch z))]
    exact ec
end
section
variable {X : Cx} {pins : List (Addr × Obj)} {σ : St} {H : Hp} {s : Shared} {a : Addr} {kvs : List (Key × V)} {k : Key} {u : Value} {A : Around} {E : Value → Shared → Prop}
end
noncomputable def NoSl (i : Expr) : Prop := ∀ ov iv, subscripted i false ov iv = operate [ov, iv] (getItem ov iv)
theorem subD_of {prog : Program} {w : World} {A : Around} {E : Value → Shared → Prop} {s : Shared} {env : Env} {value slice : Expr} {pos : Pos} {T id : String} {Q : Value → Shared → Prop}
    (hl : typeLookup (.type T) "__getitem__" = pure (some (.builtin id))) (hs : NoSl slice)
    (h : wpAny (model prog w) A (eval value env) (fun o s₁ => wpAny (model prog w) A (eval slice env) (fun i s₂ => s₂.TypeIs o T ∧ wpAny (model prog w) A (getItem o i) Q E s₂) E s₁) E s) :
    wpAny (model prog w) A (eval (.Subscript value slice pos) env) Q E s := by
  refine Subscript_ (wpAny_mono h (fun o s₁ h₁ => wpAny_mono h₁ (fun i s₂ h₂ => ?_) fun _ _ x => x) fun _ _ x => x)
  obtain ⟨hT, h₂⟩ := h₂
  unfold subscriptTail
  refine wpAny_bind ?_
  rw [getitemInPython_of_ne hT.not_modules]
  refine wpAny_bind (wpAny_specialOf hT hl ?_)
  have fin : wpAny (model prog w) A (subscripted slice false o i) (fun r s₃ => wpAny (model prog w) A (letTemporaryGo value o r >>= fun _ => pure r) Q E s₃) E s₂ := by
    rw [hs o i]
    exact wpAny_operating (wpAny_mono h₂ (fun r s₃ h₃ => wpAny_bind (wpAny_letTemporaryGo (wpAny_pure h₃))) fun _ _ x => x)
  first
    | exact wpAny_pure (wpAny_bind fin)
    | exact wpAny_bind (wpAny_pure (wpAny_bind fin))
    | exact wpAny_bind fin
theorem dict_typeIs {X : Cx} {pins : List (Addr × Obj)} {σ : St} {H : Hp} {s : Shared} {a : Addr} {y : V} {o : Option V} (I : Inv X pins σ H s) (g : DGet H a y o) : s.TypeIs (.ref a) "dict" := by
  rcases g with ⟨kvs, k, e, _, _⟩ | ⟨kvs, k, b, e, _, _, _⟩
  · obtain ⟨_, _, vs, _, dd⟩ := dk_rd I.hok e
    exact dd.typeIs
  · obtain ⟨_, _, xs, _, dd⟩ := dt_rd I.hok e
    exact dd.typeIs
noncomputable def tDGet (td ty : TE) : TE := fun σ H Q => td σ H fun x H1 => ty σ H1 fun y H2 => ∃ a v, x = .ref a ∧ DGet H2 a y (some v) ∧ Q v H2
noncomputable def sDPut (td ty tv : TE) : TS := fun D σ H => tv σ H fun v H1 => td σ H1 fun x H2 => ty σ H2 fun y H3 => ∃ a H4, x = .ref a ∧ DPut H3 a y v H4 ∧ D.nx σ H4
section
variable {X : Cx} {o i e value : Expr} {pos pos' tpos : Pos} {td ty tv : TE}
theorem pe_dget (hu : X.A.units + 1 < cLine) (ho : PE X o td) (hi : PE X i ty) (hs : NoSl i) : PE X (.Subscript o i pos) (tDGet td ty) := by
  intro pins s σ H Q I h
  refine subD_of PySem.F.slot_dict_getitem.lookup hs (thn (ho pins s σ H _ I h) fun u s1 ⟨x, H1, I1, rx, q1⟩ => thn (hi pins s1 σ H1 _ I1 q1) fun iv s2 ⟨y, H2, I2, ry, a, v, ex, g, q2⟩ => ?_)
  subst ex
  obtain rfl : u = Value.ref a := rx
  exact ⟨dict_typeIs I2 g, d_getItem hu I2 g ry fun w' s3 I3 rw' => ⟨v, H2, I3, rw', q2⟩⟩
theorem ps_dput (hu : X.A.units + 1 < cLine) (ho : PE X o td) (hi : PE X i ty) (hv : PE X value tv) (hs : swapsWith value (some (.Subscript o i pos')) pos.line X.env = pure false) :
    PS X (.Assign [.Subscript o i pos'] value pos) (sDPut td ty tv) := by
  intro pins s σ H D I h
  refine wpAny_Assign_Subscript (thn (hv pins s σ H _ I h) fun r s1 ⟨v, H1, I1, rv, q1⟩ => thn (ho pins s1 σ H1 _ I1 q1) fun u s2 ⟨x, H2, I2, rx, q2⟩ => thn (hi pins s2 σ H2 _ I2 q2) fun iv s3 ⟨y, H3, I3, ry, a, H4, ex, g, q3⟩ => ?_) hs
  subst ex
  obtain rfl : u = Value.ref a := rx
  exact d_setItem hu I3 g ry rv fun s4 I4 => ⟨σ, H4, I4, q3⟩
end
theorem dk_empty {P : Program} {w : World} {H : Hp} (h : Heap) (hb : sysModules < h.objs.size) : ObjOk P w H (h.push { cls := .type "dict", data := .dict #[] }) h.objs.size (.dK []) :=
  ⟨Nat.zero_le _, beq_eq_false_iff_ne.mpr (Ne.symm (Nat.ne_of_lt hb)), [], .nil, Heap.DictOf.new h⟩
noncomputable def tDNewK : TE := fun _ H Q => ∀ p, H p = none → Q (.ref p) (upd H p (.dK []))
section
variable {X : Cx} {pos : Pos}
theorem pe_dnewK : PE X (.Dict [] [] pos) tDNewK := fun pins s σ H Q I h =>
  wpAny_Dict_empty ⟨.ref s.heap.objs.size, _, I.laid (a := s.heap.objs.size) (o := .dK []) (t' := s.toks) (fun _ _ q => Heap.get?_push_of_some _ q) (Nat.le_refl _) (dk_empty s.heap I.big), rfl, h _ (I.hok.fresh (Nat.le_refl _))⟩
end
noncomputable def tPairs : List (TE × TE) → St → Hp → (List (V × V) → Hp → Prop) → Prop
  | [], _, H, Q => Q [] H
  | (tk, tv) :: r, σ, H, Q => tk σ H fun x H1 => tv σ H1 fun y H2 => tPairs r σ H2 fun ps H3 => Q ((x, y) :: ps) H3
noncomputable def mergeK (kvs more : List (Key × V)) : List (Key × V) := more.foldl (fun acc kv => putK acc kv.1 kv.2) kvs
noncomputable def tDisp (trs : List (TE × TE)) : TE := fun σ H Q => ∀ p, H p = none → tPairs trs σ (upd H p (.dK [])) fun ps H2 => H2 p = some (.dK []) ∧ ∃ kvs : List (Key × V), ps = kvs.map (fun kv => (kV kv.1, kv.2)) ∧ kvs.length ≤ 15 ∧ Q (.ref p) (upd H2 p (.dK (mergeK [] kvs)))
noncomputable def IsD (H : Hp) (a : Addr) : Prop := (∃ kvs, Rd H a (.dK kvs)) ∨ ∃ kvs, Rd H a (.dT kvs)
section
variable {X : Cx} {pins : List (Addr × Obj)} {σ : St} {H : Hp} {s : Shared} {a : Addr} {y d : V} {u r : Value} {o : Option V} {A : Around} {E : Value → Shared → Prop}
end
noncomputable def tDGet2 (td ty tx : TE) : TE := fun σ H Q => td σ H fun x H1 => ∃ a, x = .ref a ∧ IsD H1 a ∧ ty σ H1 fun y H2 => tx σ H2 fun z H3 => ∃ o, DGet H3 a y o ∧ Q (o.getD z) H3
section
variable {X : Cx} {o e f : Expr} {apos cpos : Pos} {td ty tx : TE}
end
section
variable {X : Cx} {pins : List (Addr × Obj)} {σ : St} {H : Hp} {s : Shared} {a : Addr} {kvs : List (Key × V)} {A : Around} {E : Value → Shared → Prop}
end
section
variable {X : Cx} {pins : List (Addr × Obj)} {σ : St} {H : Hp} {s : Shared} {a : Addr} {y : V} {u : Value} {A : Around} {E : Value → Shared → Prop}
end
end L2
namespace Att
open PySem PySem.W PySem.Calls PyProof.Rows
theorem ints_of_wellAll {P : Params} {h : Heap} : ∀ (ns : List Int) (vs : List Value), WellAll P h vs (ns.map WData.int) → IntsAre vs ns := by
  intro ns
  induction ns with
  | nil =>
    intro vs w
    rw [List.map_nil] at w
    cases w
    exact .nil
  | cons n ns ih =>
    intro vs w
    rw [List.map_cons] at w
    cases w with
    | cons a b =>
      cases a
      exact .cons _ _ (ih _ b)
theorem script_of {l : OpenLaw} {n : Nat} (hn : l.most = some n) {P : Params} {h : Heap} {args : List WData} {vals : List Value}
    (hpre : l.row.toRowW.claim.pre args = true) (hwl : WellAll P h vals args) :
    ∃ a vs ns, vals = [Value.ref a] ∧ args = [WData.list (ns.map WData.int)] ∧ h.get? a = some { cls := .type "list", data := .seq vs.toArray } ∧ IntsAre vs ns ∧ ns.length ≤ n := by
  have hsh : WShape.hasAll [] args [.list .int] = true := (pre_splitW hpre).1
  have hc : l.pre.holds [] { args := args } = true := (pre_splitW hpre).2
  obtain ⟨d, r, rfl, h1, h2⟩ := hasAllW_cons hsh
  obtain rfl := hasAllW_nil h2
  obtain ⟨xs, rfl, h3⟩ := hasW_list h1
  obtain ⟨ns, rfl⟩ := items_int h3
  have hlen : ns.length ≤ n := by
    unfold OpenLaw.pre at hc
    have h4 : (WTm.not (.lt (.lit (.int (n : Int))) (.len (.arg 0)))).holds [] { args := [.list (ns.map .int)] } = true := by
      have h4 := (holds_andW hc).1
      rw [hn] at h4
      exact h4
    have h5 := condW_of h4 (w_not (w_lt w_lit (w_len_list (w_arg rfl))))
    rw [List.length_map] at h5
    refine Nat.le_of_not_lt fun q => ?_
    have q' : (n : Int) < ((ns.length : Nat) : Int) := by omega
    first
      | (rw [decide_eq_true q'] at h5; exact absurd h5 (by decide))
      | (simp at h5; omega)
  cases hwl with
  | cons w1 w2 =>
    cases w2
    cases w1 with
    | list ho hall => exact ⟨_, _, ns, rfl, rfl, ho, ints_of_wellAll ns _ hall, hlen⟩
theorem post_true (l : OpenLaw) (args : List WData) : l.row.toRowW.claim.post args (.bool true) args = true :=
  postW_of (r := l.row.toRowW) (X := (true == true))
    (show WShape.has [] (.bool true) .bool = true by first | rfl | decide | simp [WShape.has, WShape.arms, WShape.armsAll])
    (show (WTm.eq .res (.lit (.bool true))).value [] { args := args, res := some (.bool true), after := args } = some (.bool (true == true)) from w_eq_bool (w_res rfl) w_lit) rfl
theorem attach_call {l : OpenLaw} {n : Nat} {q : Program} {loose : List Str} {XP : (Str → Option Value) → Heap → Prop} {YP : World → Heap → Prop} {d : DefRec}
    (hn : l.most = some n) (hdf : d.params.defaults = [])
    (call : ∀ (w : World) (s₀ s₁ : Shared) (mg mb : Str → Option Value) (fa : Addr) (o : Obj) (pm cd doc : Value) (a : Addr) (vs : List Value) (ns : List Int),
      Ground q loose [] XP w s₀ mg mb s₁.heap → YP w s₁.heap →
      s₁.heap.get? fa = some o → o.data = .func (docDef d.name d.params d.body d.scope pm cd doc) → s₁.heap.CodeRec cd d.name → mg d.name = some (.ref fa) →
      s₁.heap.get? a = some { cls := .type "list", data := .seq vs.toArray } → IntsAre vs ns → ns.length ≤ n → s₁.gens = #[] →
      codeAny (model l.prog w) callerA (.call (.ref fa) ⟨[.ref a], []⟩) (fun r s' => r = .ok (.ret (.bool true)) ∧ OldK s₁.heap s'.heap ∧ s'.os = s₁.os ∧ AllBare s'.gens) s₁) :
    WalkO q loose XP YP l.row.toRowW d [] (fun f vs => PySem.call f vs) := by
  intro w s₀ s₁ mg mb G Y fa o pm cd doc dV kV ho hd hcd hD hmg hg args vals as hpre hlay hrd hwl hlo
  obtain rfl : dV = .none := Dflts.none hD hdf
  obtain rfl : kV = .none := Dflts.noKw hD
  obtain ⟨a, vs, ns, rfl, rfl, hobj, hints, hlen⟩ := script_of hn hpre hwl
  refine enter_call (codeAny_mono (call w s₀ s₁ mg mb fa o pm cd doc a vs ns G Y ho (fd_plain hd) hcd hmg hobj hints hlen hg) fun r s' hq => ?_)
  obtain ⟨rfl, h2, h3, h4⟩ := hq
  exact ⟨.inl ⟨.bool true, .bool true, [], rfl, fun _ => rfl, .bool true, post_true l _, fun _ => ⟨List.Pairwise.nil, fun _ hm => (nomatch hm)⟩⟩, h2, h3, h4⟩
section
variable {prog : Program} {w : World} {A : Around} {E : Value → Shared → Prop} {s : Shared} {K : Frag}
end
end Att
namespace L2
open PySem PySem.Spec PyProof.Rows
theorem vals_ints : ∀ {vs : List Value} {ns : List Int}, IntsAre vs ns → Vals (ns.map V.int) vs
  | _, _, .nil => .nil
  | _, _, .cons n t h => .cons ⟨t, rfl⟩ (vals_ints h)
noncomputable def Only (H : Hp) : Prop := ∀ b, H b = none ∨ ∃ o xs, H b = some (.frz o (.lst xs))
theorem law_call {P : Program} {w : World} {K : PySem.W.Frag} {mg mb : Str → Option Value} {CX : CXT} {k : Nat} {fa a : Addr} {fd : FuncData} {x : Str} {sp : Sp} {s₁ : Shared} {vs : List Value} {ns : List Int}
    (KX : K.In s₁.heap) (hns : s₁.heap.Ns mainGlobals mg) (hb : s₁.heap.Ns builtinsNs mb) (hbb : ∀ x : Str, x ≠ "__name__" → mb x = bootBuiltins x) (hlim : s₁.heap.NoLimit) (hg : s₁.gens = #[])
    (ha : s₁.heap.get? a = some { cls := .type "list", data := .seq vs.toArray }) (hi : IntsAre vs ns) (hl : ns.length ≤ sizeLine) (hr : Room k callerA)
    (F : ∀ base : Heap, K.In base → base.Ns mainGlobals mg → FnOk P w K mg base CX k fa fd [x] sp) (hbind : ∀ (s : Shared) (u : Value), BindsTo s fd ⟨[u], []⟩ [(x, u)])
    (hsp : ∀ H : Hp, Only H → SqL K H a (ns.map V.int) → sp [.ref a] H (fun v _ => v = .bl true) fun _ _ _ => False)
    (hCX : ∀ H e s', CX [] H s₁ (fun _ _ _ => False) e s' → False) :
    codeAny (model P w) callerA (.call (.ref fa) ⟨[.ref a], []⟩) (fun r s' => r = .ok (.ret (.bool true)) ∧ OldK s₁.heap s'.heap ∧ s'.os = s₁.os ∧ AllBare s'.gens) s₁ := by
  have rv := vals_ints hi
  have lenV := hi.length
  have core : ∀ H : Hp, Only H → SqL K H a (ns.map V.int) → HOk P w H s₁.heap → (∀ b, H b ≠ none → b = a) → (H a ≠ none → K.lookup a = none) →
      codeAny (model P w) callerA (.call (.ref fa) ⟨[.ref a], []⟩) (fun r s' => r = .ok (.ret (.bool true)) ∧ OldK s₁.heap s'.heap ∧ s'.os = s₁.os ∧ AllBare s'.gens) s₁ := by
    intro H hO hS hok hA hK
    have base_of : ∀ {b : Addr} {o : Obj}, s₁.heap.get? b = some o → H b = none → (hidT s₁.heap H).get? b = some o := fun e n => hidT_get e n
    have noA : ∀ {b : Addr} {o : Obj} {es : Array DictEntry} {ep : Nat}, s₁.heap.get? b = some o → o.data = .dict es ep → H b = none := fun {b o es ep} e d => by
      cases q : H b with
      | none => rfl
      | some u =>
        have e' : b = a := hA b (by rw [q]; simp)
        subst e'
        rw [ha] at e; cases e
        have d' : Data.seq vs.toArray _ = Data.dict es ep := d
        cases d'
    have nsK : ∀ {b : Addr} {m : Str → Option Value}, s₁.heap.Ns b m → (hidT s₁.heap H).Ns b m := fun {b m} ⟨o, es, ep, e, d, r⟩ => ⟨o, es, ep, base_of e (noA e d), d, r⟩
    have hKb : K.In (hidT s₁.heap H) := fun b o e => base_of (KX b o e) (by
      cases q : H b with
      | none => rfl
      | some u =>
        have e' : b = a := hA b (by rw [q]; simp)
        subst e'
        rw [hK (by rw [q]; simp)] at e; cases e)
    have hM : Mod K mg (hidT s₁.heap H) := ⟨hKb, nsK hns, ⟨mb, nsK hb, hbb⟩, let ⟨mc, h1, h2⟩ := hlim; ⟨mc, nsK h1, h2⟩⟩
    have e0 : Env0 P w K mg (hidT s₁.heap H) callerA [] s₁ H := ⟨rfl, hM, fun b o e => of_hidT e, Nat.le_of_eq (hidT_size _ _), trivial, fun b hb => absurd (show b ∈ ([] : List Addr) from hb) (by simp), hok, .of_eq hg⟩
    refine codeAny_mono ((F _ hKb (nsK hns)).run callerA [] s₁ H ⟨[.ref a], []⟩ [.ref a] [.ref a] _ _ hr e0 (hbind s₁ (.ref a)) (.cons rfl .nil) (hsp H hO hS)) fun r s' h => ?_
    cases r with
    | error e => exact (hCX H e s' h).elim
    | ok fl =>
      cases fl with
      | next => exact False.elim h
      | brk => exact False.elim h
      | cont => exact False.elim h
      | ret u =>
        obtain ⟨v, H', os, bare, un, hok', r', q⟩ := h
        have q' : v = .bl true := q
        subst q'
        obtain rfl : u = Value.bool true := r'
        refine ⟨rfl, OldK.of_keep fun b o e => ?_, os, bare⟩
        cases q : H b with
        | none => exact un.keep b o e q (by intro z; exact absurd (show b ∈ ([] : List Addr) from z) (by simp)) (by simp)
        | some u =>
          rcases hO b with z | ⟨ob, xs, z⟩
          · rw [q] at z; cases z
          · have z2 := un.frzs b ob _ z
            obtain ⟨e1, _⟩ := hok b _ z
            obtain ⟨e2, _⟩ := hok' b _ z2
            rw [e] at e1; cases e1
            exact e2
  cases hk : K.lookup a with
  | some o =>
    have e := KX a o hk
    rw [ha] at e
    cases e
    refine core (fun _ => none) (fun _ => .inl rfl) (.inr ⟨_, vs.toArray, _, hk, rfl, rfl, rfl, by rw [List.size_toArray, lenV]; exact hl, by simpa using rv⟩) (fun b u z => by have z' : (none : Option HO) = some u := z; cases z') (fun b z => absurd rfl z) fun z => absurd rfl z
  | none =>
    refine core (fun b => if b = a then some (.frz { cls := .type "list", data := .seq vs.toArray } (.lst (ns.map V.int))) else none) (fun b => ?_) (.inl (.inr ⟨{ cls := .type "list", data := .seq vs.toArray }, if_pos rfl⟩)) (fun b u z => ?_) (fun b z => ?_) fun _ => hk
    · by_cases hb : b = a
      · exact .inr ⟨_, _, if_pos hb⟩
      · exact .inl (if_neg hb)
    · by_cases hb : b = a
      · have z' := (if_pos hb).symm.trans z
        cases z'
        subst hb
        exact ⟨ha, by rw [List.length_map]; exact hl, vs, _, rv, ha⟩
      · have z' := (if_neg hb).symm.trans z
        cases z'
    · by_cases hb : b = a
      · exact hb
      · exact absurd (if_neg hb) z
end L2
namespace L2
open PySem PySem.Spec PyProof.Rows
noncomputable abbrev KOf {K : PySem.W.Frag} {h : Heap} (_ : K.In h) : PySem.W.Frag := K
theorem walk_of {l : PySem.W.OpenLaw} {n k : Nat} {q : Program} {loose : List Str} {XP : (Str → Option Value) → Heap → Prop} {YP : World → Heap → Prop} {d : DefRec} {K : Params → PySem.W.Frag} {CX : World → CXT} {sp : World → Sp} {x : Str}
    (hn : l.most = some n) (hn2 : n ≤ sizeLine) (hdf : d.params.defaults = []) (hr : Room k callerA)
    (hY : ∀ (w : World) (h : Heap), YP w h → (K w.params).In h)
    (F : ∀ (w : World) (mg : Str → Option Value) (fa : Addr) (h : Heap), (K w.params).In h → h.Ns mainGlobals mg → mg d.name = some (.ref fa) →
      ∃ fd : FuncData, (∀ (s : Shared) (u : Value), BindsTo s fd ⟨[u], []⟩ [(x, u)]) ∧
        ∀ base : Heap, (K w.params).In base → base.Ns mainGlobals mg → FnOk l.prog w (K w.params) mg base (CX w) k fa fd [x] (sp w))
    (hsp : ∀ (w : World) (H : Hp) (a : Addr) (ns : List Int), ns.length ≤ n → Only H → SqL (K w.params) H a (ns.map V.int) → sp w [.ref a] H (fun v _ => v = .bl true) fun _ _ _ => False)
    (hCX : ∀ (w : World) (H : Hp) (s : Shared) (e : Value) (s' : Shared), CX w [] H s (fun _ _ _ => False) e s' → False) :
    PySem.W.WalkO q loose XP YP l.row.toRowW d [] (fun f vs => PySem.call f vs) := by
  refine Att.attach_call hn hdf fun w s₀ s₁ mg mb fa o pm cd doc a vs ns G Y ho hd hcd hmg hobj hints hlen hg => ?_
  have KX := hY w _ Y
  obtain ⟨fd, hb, hF⟩ := F w mg fa _ KX G.T.g hmg
  exact law_call KX G.T.g G.T.b G.T.builtins G.T.nolimit hg hobj hints (Nat.le_trans hlen hn2) hr hF hb (fun H hO hS => hsp w H a ns hlen hO hS) fun H e s' => hCX w H s₁ e s'
end L2
namespace L2
open PySem PySem.Spec PyProof.Rows
noncomputable def inClass (s : Stmt) (j : Nat) : Stmt := match s with
  | .ClassDef _ _ _ body _ _ _ _ _ _ _ => body.getD j (.Pass ⟨0, 0, 0, 0⟩)
  | _ => .Pass ⟨0, 0, 0, 0⟩
noncomputable def defArgs (s : Stmt) : Arguments := match s with
  | .FunctionDef _ a _ _ _ _ _ _ _ _ => a
  | _ => { posonlyargs := [], args := [], vararg := none, kwonlyargs := [], kw_defaults := [], kwarg := none, defaults := [] }
noncomputable def defBody (s : Stmt) : List Stmt := match s with
  | .FunctionDef _ _ b _ _ _ _ _ _ _ => b
  | _ => []
noncomputable def defScope (s : Stmt) : Scope := match s with
  | .FunctionDef _ _ _ _ _ _ sc _ _ _ => sc
  | _ => { kind := .function, names := [], isGenerator := false, isCoroutine := false }
noncomputable abbrev CX0 : CXT := fun _ _ _ _ _ _ => False
noncomputable abbrev E0 : XK := fun _ _ _ => False
theorem pass0 {X : Cx} : Passes CX0 X E0 := fun _ _ _ _ _ _ _ h => h.elim
structure Fun (K : PySem.W.Frag) (x qual : Str) (st : Stmt) (f : Addr) (fd : FuncData) : Prop where
  ex : ∃ (oc : Value) (od : Option Addr) (kV doc pm : Value) (an : Option Addr) (cdv ct : Value) (osl : Array (Option Value)),
    fd = PySem.W.fnOf x qual (defArgs st) (defBody st) (defScope st) .none kV doc pm an cdv ct ∧ K.lookup f = some ⟨oc, od, .func fd, osl⟩ ∧ PySem.W.codeIn K cdv qual = true
  kp : PySem.W.keepIn K (.ref f) = true
section
variable {P : Program} {w : World} {K : PySem.W.Frag} {mg : Str → Option Value} {base : Heap}
theorem Fun.ok {x qual : Str} {st : Stmt} {f : Addr} {fd : FuncData} {N ps : List Str} {k : Nat} {sp : Sp} (F : Fun K x qual st f fd) (S : FnScope N ps (defScope st)) (len : ∀ vs H Q E, sp vs H Q E → vs.length = ps.length)
    (hbody : ∀ (cdv : Value) (A : Around) (outer : List Env) (s : Shared) (H : Hp) (vs : List V) (Q : VK) (E : XK), Room k (A.deeper (envOfC qual (defScope st) s.heap.objs.size f cdv)) → sp vs H Q E →
      ∃ t, PSs (cxOf CX0 P w K mg base N qual (defScope st) f cdv A outer s H E).nox (defBody st) t ∧ t { nx := fun _ H' => Q .non H', rt := Q } (start N vs) H) : FnOk P w K mg base CX0 (k + 1) f fd ps sp := by
  obtain ⟨oc, od, kV, doc, pm, an, cdv, ct, osl, rfl, lk, hcd⟩ := F.ex
  refine fn_of lk hcd S len fun A outer s H vs Q E hr hsp => ?_
  obtain ⟨t, h, q⟩ := hbody cdv A outer s H vs Q E hr hsp
  exact ⟨t, h.nox, q⟩
theorem Fun.binds {x qual : Str} {st : Stmt} {f : Addr} {fd : FuncData} {ps : List Str} (F : Fun K x qual st f fd)
    (h : ∀ (kV doc pm : Value) (an : Option Addr) (cdv ct : Value) (us : List Value), us.length = ps.length → bindArgs (PySem.W.fnOf x qual (defArgs st) (defBody st) (defScope st) .none kV doc pm an cdv ct) ⟨us, []⟩ = pure (ps.zip us)) : Binds K fd ps [] := by
  obtain ⟨oc, od, kV, doc, pm, an, cdv, ct, osl, rfl, lk, hcd⟩ := F.ex
  exact .all (h kV doc pm an cdv ct)
theorem fun_mk {x qual : Str} {st : Stmt} {f : Addr} {oc : Value} {od an : Option Addr} {osl : Array (Option Value)} {kV doc pm cdv ct : Value} (l : K.lookup f = some ⟨oc, od, .func (PySem.W.fnOf x qual (defArgs st) (defBody st) (defScope st) .none kV doc pm an cdv ct), osl⟩)
    (c : PySem.W.codeIn K cdv qual = true) (k : PySem.W.keepIn K (.ref f) = true) : Fun K x qual st f (PySem.W.fnOf x qual (defArgs st) (defBody st) (defScope st) .none kV doc pm an cdv ct) := ⟨⟨oc, od, kV, doc, pm, an, cdv, ct, osl, rfl, l, c⟩, k⟩
end
theorem hu_of {A : Around} {k : Nat} (hr : Room k A) : A.units + 1 < cLine := Nat.lt_of_le_of_lt (Nat.add_le_add_left (by decide : 1 ≤ 64) _) hr.units
section
variable {X : Cx}
end
theorem iteF {A B : Prop} (h : B) : if false = true then A else B := by
  rw [if_neg Bool.false_ne_true]
  exact h
theorem iteT {A B : Prop} (h : A) : if true = true then A else B := by
  rw [if_pos rfl]
  exact h
noncomputable def Same (H H' : Hp) : Prop := ∀ b o, H b = some o → H' b = some o
theorem Same.refl (H : Hp) : Same H H := fun _ _ h => h
theorem Same.trans {H H1 H2 : Hp} (a : Same H H1) (b : Same H1 H2) : Same H H2 := fun c o h => b c o (a c o h)
theorem Same.free {H H' : Hp} (e : Same H H') {l : Addr} (h : H' l = Option.none) : H l = Option.none := by
  cases q : H l with
  | none => rfl
  | some o =>
    rw [e l o q] at h
    cases h
theorem Same.seq {K : PySem.W.Frag} {H H' : Hp} {a : Addr} {xs : List V} (e : Same H H') (h : SqL K H a xs) : SqL K H' a xs := by
  rcases h with (h | ⟨o, h⟩) | h
  · exact .inl (.inl (e _ _ h))
  · exact .inl (.inr ⟨o, e _ _ h⟩)
  · exact .inr h
section
variable {X : Cx}
end
section
variable {κ : Type} [DecidableEq κ]
end
end L2
set_option Elab.async false
set_option linter.all false
set_option maxRecDepth 100000
set_option maxHeartbeats 4000000
namespace My
open PySem PySem.W PySem.Calls PyProof.Rows
theorem top_of_seg {tb : String → Option Builtin} {p : Program} {w : World} {n₀ : Nat} {ann : Option Value} : ∀ {n : Nat} {s s' : Shared} {t : Thread} {f : Flow} {c : Code} {q : Pos}, segRun tb p w n₀ ann 0 n s t = some (f, s', c, q) → topRun tb p w n₀ ann n s t = some s'
  | 0, _, _, _, _, _, _, h => by cases h
  | n + 1, s, s', t, f, c, q, h => by
    unfold segRun at h
    unfold topRun
    cases he : endAt 0 t with
    | some x =>
      rw [he] at h
      cases h
      have : through t = true := by
        unfold endAt at he
        unfold through
        obtain ⟨cur, code, pos, st⟩ := t
        cases st with
        | nil => split at he <;> simp_all
        | cons a b => simp at he
      rw [this]
    | none =>
      have : through t = false := by
        unfold endAt at he
        unfold through
        obtain ⟨cur, code, pos, st⟩ := t
        cases st with
        | nil =>
          dsimp only at he ⊢
          split at he
          · cases he
          · rename_i h1
            simp only [List.isEmpty_nil, Bool.true_and]
            split
            · exact (h1 _ rfl rfl).elim
            · rfl
        | cons a b => rfl
      rw [he] at h
      rw [this]
      cases hk : stepOk n₀ ann t with
      | false => rw [hk] at h; cases h
      | true =>
        rw [hk] at h
        cases hs : step (denote tb) p w s t with
        | halt o x => rw [hs] at h; cases h
        | go s₂ t₂ => rw [hs] at h; exact top_of_seg h
noncomputable def bootT (P : Params) : BT := .node (boot_o_0 P) (.node (boot_o_1 P) (.node (boot_o_3 P) (.node (boot_o_7 P) .nil .nil) .nil) (.node (boot_o_5 P) (.node (boot_o_9 P) .nil .nil) .nil)) (.node (boot_o_2 P) (.node (boot_o_4 P) (.node (boot_o_8 P) .nil .nil) .nil) (.node (boot_o_6 P) (.node (boot_o_10 P) .nil .nil) .nil))
theorem boot_abs (P : Params) : absHeap (bootT P) 11 {} = boot_heap P := by kernel_rfl
noncomputable def bootS (w : World) (os : OsState) : SharedT := ⟨bootT w.params, 11, {}, #[], boot_drawn, boot_toks, os⟩
noncomputable def looks {α : Type} (p q : Program) (loose : List Str) (Xt : Shared → Bool) (Yf : Shared → α) (g0 : Bool) (h₀ : Heap) (s : Shared) :=
  ((staticsOk (importedModules p.main.body) h₀ s.heap && namesBound p s.heap && gensDone s && laidKept h₀ s.heap), openSeen q loose (importedModules p.main.body) Xt g0 s, Yf s)
theorem left_of {p q : Program} {loose : List Str} {Xt : Shared → Bool} {α : Type} {Yf : Shared → α} {Ya : World → α} {N M : Nat} {g0 : Bool}
    (e : opening p = plainProg p.main.scope.names) (hN : Nat.ble 600 N = true) (f : ∀ s, fenceModules? p s = some s)
    (size : ∀ w : World, ((boot_heap w.params).isNs mainGlobals, (boot_heap w.params).nsMap mainGlobals "__annotations__") = (true, some (.ref 6)))
    (le : Nat.ble M N = true)
    (run : ∀ w : World, (fun os => (segRunT treeTable p w 11 (some (.ref 6)) 0 M (bootS w os) (topStub p)).map fun r => looks p q loose Xt Yf g0 (boot_heap w.params) r.2.1.abs) = fun _ => some (true, openGood q loose, Ya w)) :
    LeftO p q loose Xt Yf Ya N g0 := fun w => by
  obtain ⟨⟨h, gs, d, k, os⟩, e1, e2⟩ := Option.map_eq_some_iff.mp (boot_open e hN f w)
  obtain ⟨rfl, rfl, rfl, rfl⟩ : h = boot_heap w.params ∧ gs = #[] ∧ d = boot_drawn ∧ k = boot_toks := by simpa using e2
  obtain ⟨z1, z3⟩ : _ ∧ _ := by simpa only [Prod.mk.injEq] using size w
  obtain ⟨⟨fl, s, c, ps⟩, r1, r2⟩ := Option.map_eq_some_iff.mp (congrFun (run w) os)
  obtain ⟨l1, l2, l3⟩ : _ ∧ _ ∧ _ := by simpa only [looks, Prod.mk.injEq] using r2
  have r := topRun_mono (N - M) _ _ _ _ (top_of_seg (segRun_of r1))
  rw [show M + (N - M) = N by have := Nat.le_of_ble_eq_true le; omega] at r
  have t : topFrom treeTable p w N ⟨boot_heap w.params, #[], boot_drawn, boot_toks, os⟩ = some s.abs := by
    unfold topFrom
    dsimp only
    rw [z1]
    show (topRun treeTable p w 11 _ N ⟨boot_heap w.params, #[], boot_drawn, boot_toks, os⟩ (topStub p)).bind _ = _
    rw [z3]
    have r' : topRun treeTable p w 11 (some (.ref 6)) N ⟨boot_heap w.params, #[], boot_drawn, boot_toks, os⟩ (topStub p) = some s.abs := by
      rw [← boot_abs]; exact r
    rw [r']
    show (match staticsOk (importedModules p.main.body) (boot_heap w.params) s.abs.heap && namesBound p s.abs.heap && gensDone s.abs && laidKept (boot_heap w.params) s.abs.heap with | true => some s.abs | false => none) = some s.abs
    rw [l1]
  unfold openEnds
  rw [e1]
  show ((topFrom treeTable p w N ⟨boot_heap w.params, #[], boot_drawn, boot_toks, os⟩).map _) = _
  rw [t]
  exact congrArg some (by dsimp only; rw [l2, l3])
theorem boot_size (w : World) : ((boot_heap w.params).isNs mainGlobals, (boot_heap w.params).nsMap mainGlobals "__annotations__") = (true, some (.ref 6)) := by kernel_rfl
end My
lay_quick PySem.W.topStub PySem.W.openGood PySem.W.SharedT.abs PySem.W.xlAt PySem.W.recOk PySem.W.view My.looks
set_option Elab.async false
set_option linter.all false
set_option maxRecDepth 100000
set_option maxHeartbeats 4000000
namespace L2
open PySem PySem.Spec PyProof.Rows
noncomputable def clOf (env : Env) : List (Str × NameKind) → List (Str × Addr) → List (Str × Addr)
  | [], acc => acc
  | (n, k) :: r, acc => if k = .free then clOf env r ((n, (env.cells.lookup n).getD 0) :: acc) else clOf env r acc
theorem forIn_cl {env : Env} (f : (Str × NameKind) → List (Str × Addr) → Sem (ForInStep (List (Str × Addr))))
    (h1 : ∀ n r c, env.cells.lookup n = some c → f (n, .free) r = pure (.yield ((n, c) :: r))) (h2 : ∀ n k r, k ≠ .free → f (n, k) r = pure (.yield r)) :
    ∀ (l : List (Str × NameKind)) (acc : List (Str × Addr)), (∀ y ∈ l, y.2 = .free → ∃ c, env.cells.lookup y.1 = some c) → forIn l acc f = pure (clOf env l acc)
  | [], acc, _ => by rw [List.forIn_nil]; rfl
  | (n, k) :: r, acc, h => by
    have hr : ∀ y ∈ r, y.2 = .free → ∃ c, env.cells.lookup y.1 = some c := fun y hy => h y (List.mem_cons_of_mem _ hy)
    rw [List.forIn_cons]
    by_cases hk : k = .free
    · subst hk
      obtain ⟨c, hc⟩ := h _ List.mem_cons_self rfl
      have hc : env.cells.lookup n = some c := hc
      rw [h1 n acc c hc]
      have ih := forIn_cl f h1 h2 r ((n, c) :: acc) hr
      show (forIn r ((n, c) :: acc) f) = _
      rw [ih]
      unfold clOf
      rw [if_pos rfl, hc]
      rw [← clOf.eq_def]
      rfl
    · rw [h2 n k acc hk]
      have ih := forIn_cl f h1 h2 r acc hr
      show (forIn r acc f) = _
      rw [ih]
      conv => rhs; unfold clOf
      rw [if_neg hk]
theorem closure_of {scope : Scope} {env : Env} (h : ∀ y ∈ scope.names, y.2 = .free → ∃ c, env.cells.lookup y.1 = some c) : closureFor scope env = pure (clOf env scope.names []) := by
  unfold closureFor
  have e := forIn_cl (env := env) (fun x r => if x.2 == NameKind.free then do let c ← cellOf env x.1; pure (ForInStep.yield ((x.1, c) :: r)) else pure (ForInStep.yield r))
    (fun n r c hc => by
      have e : cellOf env n = pure c := by unfold cellOf; rw [hc]
      show (if (NameKind.free == NameKind.free) = true then _ else _) = _
      rw [if_pos (by decide), e]
      rfl)
    (fun n k r hk => by
      show (if (k == NameKind.free) = true then _ else _) = _
      rw [if_neg (by intro z; exact hk (eq_of_beq z))]) scope.names [] h
  exact (congrArg (fun m => m >>= fun cs => (pure cs : Sem (List (Str × Addr)))) e)
theorem clOf_mem {env : Env} : ∀ (l : List (Str × NameKind)) (acc : List (Str × Addr)) (y : Str) (c : Addr), (∀ y ∈ l, y.2 = .free → ∃ c, env.cells.lookup y.1 = some c) → (∀ y c, acc.lookup y = some c → env.cells.lookup y = some c) →
    (clOf env l acc).lookup y = some c → env.cells.lookup y = some c
  | [], acc, y, c, _, ha, e => ha y c e
  | (n, k) :: r, acc, y, c, h, ha, e => by
    have hr : ∀ y ∈ r, y.2 = .free → ∃ c, env.cells.lookup y.1 = some c := fun y hy => h y (List.mem_cons_of_mem _ hy)
    unfold clOf at e
    by_cases hk : k = .free
    · rw [if_pos hk] at e
      refine clOf_mem r _ y c hr (fun z d q => ?_) e
      rw [List.lookup_cons] at q
      cases hz : z == n with
      | true =>
        rw [hz] at q
        have q' : (env.cells.lookup n).getD 0 = d := Option.some.inj q
        obtain ⟨c', hc'⟩ := h _ List.mem_cons_self hk
        have hc' : env.cells.lookup n = some c' := hc'
        rw [hc'] at q'
        have q' : c' = d := q'
        rw [eq_of_beq hz, hc', q']
      | false =>
        rw [hz] at q
        exact ha z d q
    · rw [if_neg hk] at e
      exact clOf_mem r acc y c hr ha e
theorem clOf_acc {env : Env} : ∀ (l : List (Str × NameKind)) (acc : List (Str × Addr)) (y : Str), (∃ c, acc.lookup y = some c) → ∃ c, (clOf env l acc).lookup y = some c
  | [], _, _, h => h
  | (n, k) :: r, acc, y, h => by
    unfold clOf
    by_cases hk : k = .free
    · rw [if_pos hk]
      refine clOf_acc r _ y ?_
      rw [List.lookup_cons]
      cases hz : y == n with
      | true => exact ⟨_, rfl⟩
      | false => exact h
    · rw [if_neg hk]
      exact clOf_acc r acc y h
theorem clOf_has {env : Env} : ∀ (l : List (Str × NameKind)) (acc : List (Str × Addr)) (y : Str), (y, NameKind.free) ∈ l → ∃ c, (clOf env l acc).lookup y = some c
  | [], _, _, h => by simp at h
  | (n, k) :: r, acc, y, h => by
    unfold clOf
    by_cases hk : k = .free
    · rw [if_pos hk]
      rcases List.mem_cons.mp h with e | e
      · refine clOf_acc r _ y ?_
        have e1 : y = n := congrArg Prod.fst e
        rw [List.lookup_cons, e1]
        simp
      · exact clOf_has r _ y e
    · rw [if_neg hk]
      rcases List.mem_cons.mp h with e | e
      · exact absurd (congrArg Prod.snd e).symm hk
      · exact clOf_has r acc y e
theorem relabel_lookup (scope : Scope) (env : Env) (y : Str) : (relabel scope env).names.lookup y = (scope.names.lookup y).map fun k => if (k == NameKind.free && env.scope.kind == .function && env.kindOf y == some .cell) = true then .cell else k := by
  show (scope.names.map _).lookup y = _
  induction scope.names with
  | nil => rfl
  | cons p r ih =>
    obtain ⟨n, k⟩ := p
    rw [List.map_cons, List.lookup_cons (a := y) (k := n) (b := k)]
    cases hz : y == n with
    | true =>
      have e : y = n := eq_of_beq hz
      subst e
      show List.lookup y ((if (k == NameKind.free && env.scope.kind == .function && env.kindOf y == some .cell) = true then (y, NameKind.cell) else (y, k)) :: _) = some (if _ then _ else _)
      by_cases hc : (k == NameKind.free && env.scope.kind == .function && env.kindOf y == some .cell) = true
      · rw [if_pos hc, if_pos hc]; simp
      · rw [if_neg hc, if_neg hc]; simp
    | false =>
      show List.lookup y ((if (k == NameKind.free && env.scope.kind == .function && env.kindOf n == some .cell) = true then (n, NameKind.cell) else (n, k)) :: _) = _
      by_cases hc : (k == NameKind.free && env.scope.kind == .function && env.kindOf n == some .cell) = true
      · rw [if_pos hc, List.lookup_cons, hz]; exact ih
      · rw [if_neg hc, List.lookup_cons, hz]; exact ih
noncomputable def cxComp (X : Cx) (scope : Scope) (x : Str) (N' : List Str) (C : Addr) (s : Shared) (H : Hp) (fp : List Addr) (pn : List (Addr × Obj)) : Cx where
  prog := X.prog
  w := X.w
  K := X.K
  mg := X.mg
  base := X.base
  A := X.A
  N := x :: N'
  s₀ := s
  H₀ := H
  env := compEnvC scope (clOf X.env scope.names []) C X.env
  outer := X.stack
  stack := X.stack
  ex := fp
  fn := fun _ => false
  calm := X.calm
  pn := pn
  xe := fun _ _ => False
section
variable {X : Cx} {pins : List (Addr × Obj)} {σ : St} {H : Hp} {s : Shared}
structure CompSc (X : Cx) (scope : Scope) (x : Str) (N' : List Str) : Prop where
  loc : scope.names.lookup x = some .local
  nocell : ∀ y ∈ scope.names, y.2 ≠ .cell
  kind : scope.kind = .function
  names : ∀ y ∈ scope.names, y.2 = .local → scope.names.lookup y.1 = some .local
  free : ∀ y ∈ scope.names, y.2 = .free → X.env.kindOf y.1 = some .cell ∨ X.env.kindOf y.1 = some .free
  nin : x ∉ N'
  nd : N'.Nodup
  len : N'.length = X.N.length
  sub : ∀ (i : Nat) (y : Str), N'[i]? = some y → X.N[i]? = some y ∨ scope.names.lookup y = none
  only : ∀ y ∈ scope.names, y.2 = .local → y.1 = x ∨ y.1 ∉ N'
theorem Inv.compIn {scope : Scope} {x : Str} {N' : List Str} {fp : List Addr} {h1 : Heap} {tk : Nat} {m : Str → Option Value} (S : CompSc X scope x N') (I : Inv X pins σ H s) (hf : ∀ b ∈ fp, FpOk X pins H b) (hfl : ∀ b ∈ fp, b < s.heap.objs.size)
    (hn : h1.Ns s.heap.objs.size m) (hsb : ∀ b o, s.heap.get? b = some o → h1.get? b = some o) :
    Inv (cxComp X scope x N' s.heap.objs.size s H fp (X.pn ++ pins)) [] (none :: σ) H { s with heap := h1, toks := tk } := by
  have hcells : ∀ y ∈ scope.names, y.2 = .free → ∃ c, X.env.cells.lookup y.1 = some c := fun y hy hk => I.ok.has y.1 (S.free y hy hk)
  have sub : ∀ y c, (clOf X.env scope.names []).lookup y = some c → X.env.cells.lookup y = some c := fun y c e => clOf_mem _ _ y c hcells (fun z d q => by simp at q) e
  have lk : ∀ (y : Str) (k : NameKind), (relabel scope X.env).names.lookup y = some k → k = .cell ∨ k = .free → scope.names.lookup y = some .free := fun y k e hk => by
    rw [relabel_lookup] at e
    cases q : scope.names.lookup y with
    | none => rw [q] at e; cases e
    | some k0 =>
      rw [q] at e
      have e' : (if (k0 == NameKind.free && X.env.scope.kind == .function && X.env.kindOf y == some .cell) = true then NameKind.cell else k0) = k := Option.some.inj e
      by_cases hc : (k0 == NameKind.free && X.env.scope.kind == .function && X.env.kindOf y == some .cell) = true
      · simp only [Bool.and_eq_true] at hc
        rw [eq_of_beq hc.1.1]
      · rw [if_neg hc] at e'
        subst e'
        rcases hk with hk | hk
        · exact absurd hk (S.nocell _ (PySem.mem_of_lookup q))
        · rw [hk]
  have lt : ∀ {b : Addr} {o : Obj}, s.heap.get? b = some o → b ≠ s.heap.objs.size := fun e => Nat.ne_of_lt (Heap.lt_size e)
  refine ⟨⟨I.ok.mod, by show (relabel scope X.env).kind = _; exact S.kind, I.ok.glob, I.ok.blt, Nat.le_refl _, fun y z c e1 e2 => I.ok.inj y z c (sub y c e1) (sub z c e2), fun y hy => ?_, fun y c hz => (by cases hz), I.ok.hd, I.ok.frames, .inl rfl,
    fun b hb => ⟨Nat.ne_of_lt (hfl b hb), fun y c e => (hf b hb).2.2.2.2.1 y c (sub y c e)⟩, I.bs, Nat.le_trans I.ok.bsz I.sz, fun b o e hb => ?_, fun b hb hz => ?_, I.stack, I.stkFree⟩,
    rfl, I.bare, Un.kept hsb, ⟨m, hn, fun i y v h1 h2 h3 => ?_⟩, fun y c e => ?_, I.hok.fresh (Nat.le_refl _), fun y c e => I.freeC y c (sub y c e), fun p hp => ?_, I.hok.kept hsb, ?_⟩
  · have hy : (relabel scope X.env).names.lookup y = some .cell ∨ (relabel scope X.env).names.lookup y = some .free := hy
    have q : scope.names.lookup y = some .free := hy.elim (fun z => lk y _ z (.inl rfl)) fun z => lk y _ z (.inr rfl)
    exact clOf_has _ _ y (PySem.mem_of_lookup q)
  · obtain ⟨_, _, _, f3, _, _⟩ := hf b hb
    rcases f3 with f3 | f3
    · exact I.ok.noex b o e f3
    · exact absurd (Nat.lt_of_lt_of_le (Heap.lt_size e) (Nat.le_trans I.ok.bsz f3)) (Nat.lt_irrefl _)
  · have hz : b ∈ frs X.stack := hz
    obtain ⟨_, f1, f2, _⟩ := hf b hb
    rcases List.mem_cons.mp (I.stkSub b hz) with z | z
    · exact f1 z
    · exact f2 z
  · cases i with
    | zero => simp at h2
    | succ i =>
      have h1 : N'[i]? = some y := by simpa [cxComp] using h1
      have h2 : σ[i]? = some (some v) := by simpa using h2
      have hne : N'[i]? ≠ some x := fun z => S.nin (List.mem_of_getElem? z)
      have h3 : Vis (relabel scope X.env) y := h3
      obtain ⟨m', hn', hl'⟩ := I.loc
      have q : scope.names.lookup y = some .free := by
        rcases h3 with z | z | z
        · exfalso
          rw [relabel_lookup] at z
          cases q : scope.names.lookup y with
          | none => rw [q] at z; cases z
          | some k0 =>
            rw [q] at z
            have e' : (if (k0 == NameKind.free && X.env.scope.kind == .function && X.env.kindOf y == some .cell) = true then NameKind.cell else k0) = .local := Option.some.inj z
            by_cases hc : (k0 == NameKind.free && X.env.scope.kind == .function && X.env.kindOf y == some .cell) = true
            · rw [if_pos hc] at e'; cases e'
            · rw [if_neg hc] at e'
              subst e'
              rcases S.only _ (PySem.mem_of_lookup q) rfl with w | w
              · exact hne (by rw [h1]; exact congrArg some w)
              · exact w (List.mem_of_getElem? h1)
        · exact lk y _ z (.inl rfl)
        · exact lk y _ z (.inr rfl)
      obtain ⟨c, hc⟩ := clOf_has (env := X.env) scope.names [] y (PySem.mem_of_lookup q)
      have hk : X.env.kindOf y = some .cell ∨ X.env.kindOf y = some .free := S.free _ (PySem.mem_of_lookup q) rfl
      have h1' : X.N[i]? = some y := (S.sub i y h1).resolve_right fun z => by rw [q] at z; cases z
      obtain ⟨u, r, l⟩ := hl' i y v h1' h2 (.inr hk)
      refine ⟨u, r, ?_⟩
      have kd : (compEnvC scope (clOf X.env scope.names []) s.heap.objs.size X.env).kindOf y = some .cell ∨ (compEnvC scope (clOf X.env scope.names []) s.heap.objs.size X.env).kindOf y = some .free := by
        rcases h3 with z | z | z
        · exfalso
          rw [relabel_lookup, q] at z
          have e' : (if (NameKind.free == NameKind.free && X.env.scope.kind == .function && X.env.kindOf y == some .cell) = true then NameKind.cell else NameKind.free) = .local := Option.some.inj z
          by_cases hc : (NameKind.free == NameKind.free && X.env.scope.kind == .function && X.env.kindOf y == some .cell) = true
          · rw [if_pos hc] at e'; cases e'
          · rw [if_neg hc] at e'; cases e'
        · exact .inl z
        · exact .inr z
      rcases l with ⟨a, _⟩ | ⟨_, c', hc', ic⟩
      · rcases hk with k | k <;> (rw [k] at a; cases a)
      · have e : X.env.cells.lookup y = some c := sub y c hc
        rw [e] at hc'
        cases hc'
        obtain ⟨o, ho, hd⟩ := ic
        exact .inr ⟨kd, c, hc, ⟨o, hsb _ _ ho, hd⟩⟩
  · obtain ⟨v, o, ho, hd⟩ := I.cell y c (sub y c e)
    exact ⟨v, o, hsb _ _ ho, hd⟩
  · have hp : p ∈ X.pn ++ pins := by
      have hp : p ∈ (X.pn ++ pins) ++ [] := hp
      rwa [List.append_nil] at hp
    obtain ⟨e, n, ne, nf, d⟩ := I.pin p hp
    refine ⟨hsb _ _ e, n, lt e, fun hz => ?_, d⟩
    have hz : p.1 ∈ frs X.stack := hz
    rcases List.mem_cons.mp (I.stkSub _ hz) with z | z
    · exact ne z
    · exact nf z
  · show (none :: σ).length = (x :: N').length
    rw [List.length_cons, List.length_cons, I.len, S.len]
noncomputable def PTs (X : Cx) (ifs : List Expr) (t : TT) : Prop :=
  ∀ (pins : List (Addr × Obj)) (s : Shared) (σ : St) (H : Hp) (Q : Bool → Hp → Prop) (E : Value → Shared → Prop), Inv X pins σ H s → t σ H Q →
    wpAny (model X.prog X.w) X.A (forIn ifs true fun c r => if r = true then do let ok ← isTrue c X.env (eval c X.env); pure (ForInStep.yield ok) else pure (ForInStep.yield r)) (TP X pins σ Q) E s
noncomputable def tYes : TT := fun _ H Q => Q true H
theorem pts_nil : PTs X [] tYes := fun _ _ _ H _ _ I h => wpAny_tests_nil ⟨H, I, h⟩
theorem comp_loop {prog : Program} {w : World} {A : Around} {R : Result → Shared → Prop} {s : Shared} {elt target iter : Expr} {ifs : List Expr} {scope : Scope} {pos : Pos} {it acc : Value} {env : Env} (J : Nat → Shared → Prop)
    (turn : ∀ n s, J n s → wpAny (model prog w) A (pyNext it) (fun r s1 => match r with
      | none => R (.ok .next) s1
      | some v => wpAny (model prog w) A (letOwnedTupleGo target it v) (fun _ s2 => wpAny (model prog w) A (assign target env v) (fun _ s3 =>
          wpAny (model prog w) A (forIn ifs true fun c r => if r = true then do let ok ← isTrue c env (eval c env); pure (ForInStep.yield ok) else pure (ForInStep.yield r)) (fun ok s4 =>
            if ok = true then wpAny (model prog w) A (eval elt env) (fun y s5 => wpAny (model prog w) A (call (.builtin "list.append") [acc, y]) (fun _ s6 => ∃ m, m < n ∧ J m s6) (fun _ _ => False) s5) (fun _ _ => False) s4
            else ∃ m, m < n ∧ J m s4) (fun _ _ => False) s3) (fun _ _ => False) s2) (fun _ _ => False) s1) (fun _ _ => False) s)
    (n : Nat) (h : J n s) : codeAny (model prog w) A (.compLoop (.ListComp elt [⟨target, iter, ifs, 0⟩] scope pos) 0 it acc env) R s := by
  have no : ∀ {α : Type} {t : Sem α} {Q : α → Shared → Prop} {E : Value → Shared → Prop} {s : Shared}, wpAny (model prog w) A t Q (fun _ _ => False) s → wpAny (model prog w) A t Q E s :=
    fun q => wpAny_mono q (fun _ _ z => z) fun _ _ z => z.elim
  refine codeAny_loop rfl J (fun n s hJ => ?_) n h
  refine wpAny_noted (m := compTurn (.ListComp elt [⟨target, iter, ifs, 0⟩] scope pos) 0 it acc env) ?_
  rw [compTurn_list]
  refine wpAny_bind (wpAny_standAt (wpAny_bind (no (thn (turn n s hJ) fun r s1 q1 => ?_))))
  cases r with
  | none => exact wpAny_pure q1
  | some v =>
    refine no ?_
    refine wpAny_bind (thn q1 fun _ s2 q2 => wpAny_bind (thn q2 fun _ s3 q3 => wpAny_bind (thn q3 fun ok s4 q4 => ?_)))
    cases ok with
    | false => exact wpAny_pure ⟨rfl, q4⟩
    | true => exact wpAny_bind (wpAny_bind (thn q4 fun y s5 q5 => wpAny_bind (thn q5 fun _ s6 q6 => wpAny_pure (wpAny_pure ⟨rfl, q6⟩))))
noncomputable def CompW (J : It) (tt : TT) (te : TE) (σ : St) (Q : VK) (D : Addr) (H1 : Hp) : Prop := ∃ W : Nat → Nat → List V → Hp → Prop, (∃ m, W 0 m [] (upd H1 D (.lst []))) ∧
  ∀ i m ys H', W i m ys H' → (J.stop i H' ∧ Q (.ref D) H') ∨ (J.go i H' ∧ ∀ v H2, J.yld i H' v H2 → tt (some v :: σ) H2 fun b H3 =>
    if b = true then te (some v :: σ) H3 fun y H4 => H4 D = some (.lst ys) ∧ ys.length < sizeLine ∧ ∃ m', m' < m ∧ W (i + 1) m' (ys ++ [y]) (upd H4 D (.lst (ys ++ [y])))
    else ∃ m', m' < m ∧ W (i + 1) m' ys H3)
noncomputable def tComp (wi : TI) (tt : TT) (te : TE) : TE := fun σ H Q => wi σ H fun J H1 => ∀ D, H1 D = none → CompW J tt te σ Q D H1
theorem comp_core {elt iter : Expr} {x : Str} {N' : List Str} {px : Pos} {ifs : List Expr} {scope : Scope} {pos : Pos} {tt : TT} {te : TE} (hc : X.calm = true) (S : CompSc X scope x N')
    (ht : ∀ C s H fp pn, PTs (cxComp X scope x N' C s H fp pn) ifs tt) (he : ∀ C s H fp pn, PE (cxComp X scope x N' C s H fp pn) elt te) {Q : VK} {itv : Value} {s2 : Shared} {RR : Value → Addr → Result → Shared → Prop}
    (h2 : PIE X pins σ (.Name x px) (fun J H1 => ∀ D, H1 D = none → CompW J tt te σ Q D H1) itv s2)
    (hend : ∀ (D C : Addr) (H6 : Hp) (s7 : Shared) (m7 : Str → Option Value), Inv X pins σ H6 s7 → s7.heap.Ns C m7 → FpOk X pins H6 C → Q (.ref D) H6 → RR (.ref D) C (.ok .next) s7) :
    wpAny (model X.prog X.w) X.A (newList []) (fun acc s3 => wpAny (model X.prog X.w) X.A (newFunctionEnv scope X.env.globals (clOf X.env scope.names []) [] X.env.qual none .none (some X.env)) (fun cenv s4 =>
      codeAny (model X.prog X.w) X.A (.compStart (.ListComp elt [⟨.Name x px, iter, ifs, 0⟩] scope pos) 0 itv acc { cenv with scope := relabel scope X.env }) (RR acc cenv.locals) s4) X.xe s3) X.xe s2 := by
  obtain ⟨it, fp, tn, J, H2, e, I2, T, st2, f2, hW⟩ := h2
  subst e
  have hlt : ∀ b ∈ fp, b < s2.heap.objs.size := fun b hb => by
    obtain ⟨o, ho, _⟩ := T.obj _ _ st2 b hb
    exact Heap.lt_size ho
  obtain ⟨W, ⟨m0, w0⟩, hturn⟩ := hW s2.heap.objs.size (I2.hok.fresh (Nat.le_refl _))
  refine wpAny_newObj_type ?_ (by show 0 ≤ sizeLine; exact Nat.zero_le _)
  have I3 : Inv X pins σ (upd H2 s2.heap.objs.size (.lst [])) { s2 with heap := s2.heap.push { cls := .type "list", data := .seq ([] : List Value).toArray } } := I2.lnew (t' := s2.toks) .nil (Nat.zero_le _)
  have f3 : ∀ b ∈ fp, FpOk X pins (upd H2 s2.heap.objs.size (.lst [])) b := fun b hb => by
    obtain ⟨g0, g⟩ := f2 b hb
    exact ⟨by rw [upd_ne (Nat.ne_of_lt (hlt b hb))]; exact g0, g⟩
  have st3 : tn 0 (s2.heap.push { cls := .type "list", data := .seq ([] : List Value).toArray }) := T.keep _ _ _ st2 fun b _ o e => Heap.get?_push_of_some _ e
  have hlt3 : ∀ b ∈ fp, b < (s2.heap.push { cls := .type "list", data := .seq ([] : List Value).toArray }).objs.size := fun b hb => by rw [Heap.size_push]; exact Nat.lt_succ_of_lt (hlt b hb)
  generalize hs3 : ({ s2 with heap := s2.heap.push { cls := .type "list", data := .seq ([] : List Value).toArray } } : Shared) = s3 at I3
  have eh : s3.heap = s2.heap.push { cls := .type "list", data := .seq ([] : List Value).toArray } := by rw [← hs3]
  rw [← eh] at st3 hlt3
  show wpAny _ _ (newFunctionEnv scope X.env.globals (clOf X.env scope.names []) [] X.env.qual none .none (some X.env)) _ _ _
  refine wpAny_newFunctionEnv S.nocell (by intro y hy; simp at hy) (fun h4 hns4 hsb4 => ?_) S.kind
  have hk4 : ∀ b o, s3.heap.get? b = some o → h4.get? b = some o := fun b o e => (hsb4.2 b (Nat.ne_of_lt (Heap.lt_size e))).trans (Heap.get?_push_of_some _ e)
  have I4 := Inv.compIn (tk := s3.toks + ([] : List (Str × Value)).length) S I3 f3 hlt3 hns4 hk4
  have st4 : tn 0 h4 := T.keep _ _ _ st3 fun b _ o e => hk4 b o e
  have fx : ∀ {H' : Hp}, (∀ b ∈ fp, H' b = none) → ∀ b ∈ fp, FpOk (cxComp X scope x N' s3.heap.objs.size s3 (upd H2 s2.heap.objs.size (.lst [])) fp (X.pn ++ pins)) [] H' b := fun {H'} hn b hb => by
    obtain ⟨_, g1, g2, g3, g4, g5⟩ := f3 b hb
    refine ⟨hn b hb, Nat.ne_of_lt (hlt3 b hb), I4.ok.exfs b hb, .inl hb, fun y c e => (I4.ok.exf b hb).2 y c e, fun p hp => g5 p ?_⟩
    have hp : p ∈ (X.pn ++ pins) ++ [] := hp
    rwa [List.append_nil] at hp
  have loop : ∀ s5 : Shared, (∃ (i n : Nat) (o : Option V) (ys : List V) (H5 : Hp), Inv (cxComp X scope x N' s3.heap.objs.size s3 (upd H2 s2.heap.objs.size (.lst [])) fp (X.pn ++ pins)) [] (o :: σ) H5 s5 ∧ tn i s5.heap ∧ (∀ b ∈ fp, H5 b = none) ∧ W i n ys H5) →
      codeAny (model X.prog X.w) X.A (.compLoop (.ListComp elt [⟨.Name x px, iter, ifs, 0⟩] scope pos) 0 (.ref it) (.ref s2.heap.objs.size) (compEnvC scope (clOf X.env scope.names []) s3.heap.objs.size X.env))
        (RR (.ref s2.heap.objs.size) s3.heap.objs.size) s5 := by
    rintro s5 ⟨i5, n5, o5, ys5, H5, I5, st5, fr5, w5⟩
    refine comp_loop (fun n s' => ∃ (i : Nat) (o : Option V) (ys : List V) (H5 : Hp), Inv (cxComp X scope x N' s3.heap.objs.size s3 (upd H2 s2.heap.objs.size (.lst [])) fp (X.pn ++ pins)) [] (o :: σ) H5 s' ∧ tn i s'.heap ∧ (∀ b ∈ fp, H5 b = none) ∧ W i n ys H5) ?_ n5 ⟨i5, o5, ys5, H5, I5, st5, fr5, w5⟩
    rintro n s6 ⟨i, o, ys, H6, I6, st6, fr6, w6⟩
    rcases hturn i n ys H6 w6 with ⟨stop, qn⟩ | ⟨go, step⟩
    · refine thn (T.done (cxComp X scope x N' s3.heap.objs.size s3 (upd H2 s2.heap.objs.size (.lst [])) fp (X.pn ++ pins)) rfl rfl rfl hc i [] s6 _ H6 _ I6 (fx fr6) st6 stop) fun r s7 ⟨hr, I7⟩ => ?_
      subst hr
      obtain ⟨m7, hn7, _⟩ := id I7.loc
      have I8 : Inv X pins σ H6 s7 := I3.call' I7.os I7.base I7.hok I7.bare fun b hb => by
        obtain ⟨_, g1, g2, g3, g4, g5⟩ := f3 b hb
        exact ⟨g3, g1, g4, g5⟩
      have f8 : FpOk X pins H6 s3.heap.objs.size := I3.fpOk (Nat.le_refl _) I7.free
      exact hend _ _ H6 s7 m7 I8 hn7 f8 qn
    · refine thn (T.item (cxComp X scope x N' s3.heap.objs.size s3 (upd H2 s2.heap.objs.size (.lst [])) fp (X.pn ++ pins)) rfl rfl rfl hc i [] s6 _ H6 _ I6 (fx fr6) st6 go) fun r s7 ⟨u, hr, h7⟩ => ?_
      subst hr
      refine thn h7 fun _ s8 ⟨v, H8, I8, r8, y8, st8, fr8⟩ => ?_
      have I8' := I8.pinned (fx fr8) (T.obj _ _ st8)
      refine wpAny_assign_Name (store_ok I8' (i := 0) (List.nodup_cons.mpr ⟨S.nin, S.nd⟩) rfl (.inl (lookup_relabel_local S.loc)) r8 (fun s9 I9 => ?_) (.inr (lookup_relabel_local S.loc)))
      have I9 : Inv (cxComp X scope x N' s3.heap.objs.size s3 (upd H2 s2.heap.objs.size (.lst [])) fp (X.pn ++ pins)) ([] ++ pinsAt fp s8.heap) (some v :: σ) H8 s9 := I9
      refine thn (ht _ _ _ _ _ _ s9 (some v :: σ) H8 _ _ I9 (step v H8 y8)) fun b s10 ⟨H10, I10, q10⟩ => ?_
      have back : ∀ {s' : Shared} {H' : Hp} {ys' : List V} {m' : Nat}, Inv (cxComp X scope x N' s3.heap.objs.size s3 (upd H2 s2.heap.objs.size (.lst [])) fp (X.pn ++ pins)) ([] ++ pinsAt fp s8.heap) (some v :: σ) H' s' → W (i + 1) m' ys' H' →
          ∃ (i : Nat) (o : Option V) (ys : List V) (H5 : Hp), Inv (cxComp X scope x N' s3.heap.objs.size s3 (upd H2 s2.heap.objs.size (.lst [])) fp (X.pn ++ pins)) [] (o :: σ) H5 s' ∧ tn i s'.heap ∧ (∀ b ∈ fp, H5 b = none) ∧ W i m' ys H5 := fun {s' H' ys' m'} I' w' => by
        refine ⟨i + 1, some v, ys', H', I'.unpinned, T.keep _ _ _ st8 fun b hb o e => (I'.pin (b, o) (List.mem_append_right _ (List.mem_append_right _ (mem_pinsAt hb e)))).1, fun b hb => ?_, w'⟩
        obtain ⟨o, e, d⟩ := T.obj _ _ st8 b hb
        exact (I'.pin (b, o) (List.mem_append_right _ (List.mem_append_right _ (mem_pinsAt hb e)))).2.1
      cases b with
      | false =>
        rw [if_neg Bool.false_ne_true] at q10 ⊢
        obtain ⟨m', hm, w'⟩ := q10
        exact ⟨m', hm, back I10 w'⟩
      | true =>
        rw [if_pos rfl] at q10 ⊢
        refine thn (he _ _ _ _ _ _ s10 (some v :: σ) H10 _ I10 q10) fun y s11 ⟨yv, H11, I11, r11, hD, hz, m', hm, w'⟩ => ?_
        have ap := mt_append (X := cxComp X scope x N' s3.heap.objs.size s3 (upd H2 s2.heap.objs.size (.lst [])) fp (X.pn ++ pins)) _ s11 (some v :: σ) H11 (.ref s2.heap.objs.size) [yv] (.ref s2.heap.objs.size) [y] (fun _ H' => W (i + 1) m' (ys ++ [yv]) H') I11 rfl (.cons r11 .nil) ⟨_, ys, yv, rfl, rfl, hD, hz, w'⟩
        exact thn ap fun _ s12 ⟨_, H12, I12, _, w12⟩ => ⟨m', hm, back I12 w12⟩
  have l4 := loop { s3 with heap := h4, toks := s3.toks + ([] : List (Str × Value)).length } ⟨0, m0, none, [], _, I4, st4, fun b hb => (f3 b hb).1, w0⟩
  exact codeAny_compStart_list l4 (T.self _ _ _ _ _ st4 l4)
theorem pe_comp {elt iter : Expr} {x : Str} {N' : List Str} {px : Pos} {ifs : List Expr} {scope : Scope} {pos : Pos} {wi : TI} {tt : TT} {te : TE} (hc : X.calm = true) (hi : PI X (.Name x px) iter wi) (S : CompSc X scope x N')
    (ht : ∀ C s H fp pn, PTs (cxComp X scope x N' C s H fp pn) ifs tt) (he : ∀ C s H fp pn, PE (cxComp X scope x N' C s H fp pn) elt te) (hs : ∀ x, foldedSetIterable iter X.env x = pure x := by intro _; rfl) :
    PE X (.ListComp elt [⟨.Name x px, iter, ifs, 0⟩] scope pos) (tComp wi tt te) := by
  intro pins s σ H Q I h
  have hcells : ∀ y ∈ scope.names, y.2 = .free → ∃ c, X.env.cells.lookup y.1 = some c := fun y hy hk => I.ok.has y.1 (S.free y hy hk)
  rw [eval_ListComp]
  refine wpAny_comprehension_free (use := none) rfl hs (closure_of hcells) S.kind S.names (thn (hi pins s σ H _ I h) fun xv s1 h1 => thn h1 fun itv s2 h2 => ?_)
  refine comp_core (RR := fun acc C => compPost (model X.prog X.w) X.A X.xe none (EP X pins σ Q) acc C) hc S ht he h2 fun D C H6 s7 m7 I8 hn7 f8 qn => ?_
  refine ⟨m7, hn7, fun h' hs' => ?_⟩
  obtain ⟨g0, g1, g2, g3, g4, g5⟩ := f8
  exact ⟨.ref D, H6, I8.turned (t' := s7.toks) (fun b o hb e => (hs'.2 b hb).trans e) g0 g1 g3 g4 g5, rfl, qn⟩
theorem ps_comp {elt iter : Expr} {x y : Str} {N' : List Str} {i : Nat} {px py : Pos} {ifs : List Expr} {scope : Scope} {pos spos : Pos} {wi : TI} {tt : TT} {te : TE} (hN : X.N.Nodup) (hiy : X.N[i]? = some y) (hy : Loc X.env.scope y) (hc : X.calm = true) (hi : PI X (.Name x px) iter wi) (S : CompSc X scope x N')
    (ht : ∀ C s H fp pn, PTs (cxComp X scope x N' C s H fp pn) ifs tt) (he : ∀ C s H fp pn, PE (cxComp X scope x N' C s H fp pn) elt te)
    (hsw : swapsWith (.ListComp elt [⟨.Name x px, iter, ifs, 0⟩] scope pos) (some (.Name y py)) spos.line X.env = pure true := by rfl) (hs : ∀ x, foldedSetIterable iter X.env x = pure x := by intro _; rfl)
    (hf : X.fn y = true ∨ X.env.scope.names.lookup y = some .local := by first | exact .inl rfl | exact .inr rfl | assumption) :
    PS X (.Assign [.Name y py] (.ListComp elt [⟨.Name x px, iter, ifs, 0⟩] scope pos) spos) (tAsg (tComp wi tt te) (gName i)) := by
  intro pins s σ H D I h
  have hcells : ∀ y ∈ scope.names, y.2 = .free → ∃ c, X.env.cells.lookup y.1 = some c := fun y hy hk => I.ok.has y.1 (S.free y hy hk)
  rw [exec_Assign_Name_used _ _ _ _ hsw]
  refine wpAny_bind (wpAny_standAt (wpAny_bind ?_))
  show wpAny _ X.A (do let _ ← comprehension (.ListComp elt [⟨.Name x px, iter, ifs, 0⟩] scope pos) scope X.env _ (newList []) false (eval iter X.env) (some (assign (.Name y py) X.env))) _ _ s
  refine wpAny_bind (thn (wpAny_comprehension_free (use := some (assign (.Name y py) X.env)) (Q := fun _ s' => SP X pins D .next s') rfl hs (closure_of hcells) S.kind S.names
    (thn (hi pins s σ H _ I h) fun xv s1 h1 => thn h1 fun itv s2 h2 => ?_)) fun _ s' hq => wpAny_pure (wpAny_pure hq))
  refine comp_core (RR := fun acc C => compPost (model X.prog X.w) X.A X.xe (some (assign (.Name y py) X.env)) (fun _ s' => SP X pins D .next s') acc C) hc S ht he h2 fun L C H6 s7 m7 I8 hn7 f8 qn => ?_
  obtain ⟨g0, g1, g2, g3, g4, g5⟩ := f8
  show wpAny _ X.A (assign (.Name y py) X.env (.ref L)) _ _ _
  refine wpAny_assign_Name (store_ok2 I8 hN hiy hy (v := .ref L) (u := .ref L) rfl (fun s8 I9 hch => ?_) hf)
  obtain ⟨a, hsb, ha⟩ := hch
  have hCa : C ≠ a := by
    rcases ha with z | z
    · rw [z]; exact g1
    · exact fun w => g4 _ _ z w.symm
  refine ⟨m7, hn7.sameBut hsb hCa, fun h' hs' => ?_⟩
  exact ⟨_, H6, I9.turned (t' := s8.toks) (fun b o hb e => (hs'.2 b hb).trans e) g0 g1 g3 g4 g5, qn⟩
end
end L2
set_option Elab.async false
set_option linter.all false
set_option maxRecDepth 100000
set_option maxHeartbeats 4000000
namespace L2
open PySem PySem.Spec PyProof.Rows
noncomputable def compOk (sc scope : Scope) (N N' : List Str) (x : Str) : Bool :=
  decide (scope.names.lookup x = some .local) && scope.names.all (fun y => decide (y.2 ≠ .cell)) && decide (scope.kind = .function) && scope.names.all (fun y => decide (y.2 = .local → scope.names.lookup y.1 = some .local)) &&
  scope.names.all (fun y => decide (y.2 = .free → sc.names.lookup y.1 = some .cell ∨ sc.names.lookup y.1 = some .free)) && decide (x ∉ N') && decide N'.Nodup && decide (N'.length = N.length) &&
  (List.range N'.length).all (fun i => match N'[i]? with | some y => decide (N[i]? = some y ∨ scope.names.lookup y = none) | none => true) && scope.names.all (fun y => decide (y.2 = .local → y.1 = x ∨ y.1 ∉ N'))
theorem comp_sc {X : Cx} {scope : Scope} {x : Str} (sc : Scope) (N N' : List Str) (hsc : X.env.scope = sc) (hN : X.N = N) (h : compOk sc scope N N' x = true) : CompSc X scope x N' := by
  subst hsc hN
  unfold compOk at h
  simp only [Bool.and_eq_true, List.all_eq_true, decide_eq_true_eq] at h
  obtain ⟨⟨⟨⟨⟨⟨⟨⟨⟨h1, h2⟩, h3⟩, h4⟩, h5⟩, h6⟩, h7⟩, h7'⟩, h8'⟩, h8⟩ := h
  refine ⟨h1, h2, h3, h4, h5, h6, h7, h7', fun i y e => ?_, h8⟩
  have hi : i < N'.length := (List.getElem?_eq_some_iff.mp e).1
  have z := h8' i (List.mem_range.mpr hi)
  rw [e] at z
  exact of_decide_eq_true z
noncomputable def Its (x : Str) : It := ⟨fun i _ => i < x.cps.size, fun i H v H' => H' = H ∧ ∃ c, x.cps[i]? = some c ∧ v = .str ⟨#[c]⟩, fun i _ => x.cps.size = i⟩
section
variable {X : Cx} {tg : Expr}
noncomputable def iStr (tl : TE) : TI := fun σ H R => tl σ H fun v H1 => ∃ x, v = .str x ∧ R (Its x) H1
end
structure Row (J : It) (n : Nat) (vs : Nat → V) (Ok : Hp → Prop) : Prop where
  go : ∀ i H, i < n → Ok H → J.go i H
  yld : ∀ i H v H', i < n → Ok H → J.yld i H v H' → H' = H ∧ v = vs i
  stop : ∀ H, Ok H → J.stop n H
theorem row_range (lo : Int) (n : Nat) : Row (Itr lo n) n (fun i => .int (lo + i)) (fun _ => True) := ⟨fun i H h _ => h, fun i H v H' _ _ h => h, fun H _ => Nat.le_refl n⟩
theorem row_list {K : PySem.W.Frag} {a : Addr} {xs : List V} : Row (Itl K a) xs.length (fun i => xs.getD i .non) (fun H => SqL K H a xs) := ⟨fun i H h q => ⟨xs, xs[i], q, by simp [h]⟩, fun i H v H' hi q h => by
  obtain ⟨e, y⟩ := h
  refine ⟨e, ?_⟩
  have := y xs q
  rw [List.getD_eq_getElem?_getD, this]; rfl, fun H q => ⟨xs, q, Nat.le_refl _⟩⟩
theorem row_tup {K : PySem.W.Frag} {a : Addr} {xs : List V} : Row (Itt K a) xs.length (fun i => xs.getD i .non) (fun H => SqT K H a xs) := ⟨fun i H h q => ⟨xs, xs[i], q, by simp [h]⟩, fun i H v H' hi q h => by
  obtain ⟨e, y⟩ := h
  refine ⟨e, ?_⟩
  have := y xs q
  rw [List.getD_eq_getElem?_getD, this]; rfl, fun H q => ⟨xs, q, Nat.le_refl _⟩⟩
noncomputable def ForW (J : It) (g : TG) (tb : TS) (D : Ends) (σ : St) (H : Hp) : Prop := ∃ W : Nat → Nat → St → Hp → Prop, (∃ m, W 0 m σ H) ∧ ∀ i m σ H, W i m σ H →
      (J.stop i H ∧ D.nx σ H) ∨ (J.go i H ∧ ∃ N : St → Hp → Prop, (∀ σ' H', N σ' H' → ∃ m', m' < m ∧ W (i + 1) m' σ' H') ∧ ∀ x H', J.yld i H x H' → g x σ H' fun σ2 H2 => tb { D with nx := N, ct := N, bk := D.nx } σ2 H2)
theorem for_row {J : It} {n : Nat} {vs : Nat → V} {Ok : Hp → Prop} (R : Row J n vs Ok) {g : TG} {tb : TS} {D : Ends} {σ : St} {H : Hp} (Pv : Nat → St → Hp → Prop) (h0 : Pv 0 σ H) (hok : ∀ i σ H, Pv i σ H → Ok H)
    (hs : ∀ i σ H, i < n → Pv i σ H → g (vs i) σ H fun σ2 H2 => tb { D with nx := Pv (i + 1), ct := Pv (i + 1), bk := D.nx } σ2 H2) (hd : ∀ σ H, Pv n σ H → D.nx σ H) :
    ForW J g tb D σ H := by
  refine ⟨fun i m σ H => m = n - i ∧ i ≤ n ∧ Pv i σ H, ⟨n, by simp, Nat.zero_le _, h0⟩, ?_⟩
  rintro i m σ H ⟨rfl, hi, p⟩
  by_cases hlt : i < n
  · refine .inr ⟨R.go i H hlt (hok i σ H p), Pv (i + 1), fun σ' H' p' => ⟨n - (i + 1), by omega, rfl, hlt, p'⟩, fun x H' y => ?_⟩
    obtain ⟨e1, e2⟩ := R.yld i H x H' hlt (hok i σ H p) y
    subst e1 e2
    exact hs i σ _ hlt p
  · have e : i = n := by omega
    subst e
    exact .inl ⟨R.stop H (hok i σ H p), hd σ H p⟩
theorem comp_row {J : It} {n : Nat} {vs : Nat → V} {Ok : Hp → Prop} (R : Row J n vs Ok) {te : TE} {Q : VK} {σ : St} {H1 : Hp} {D : Addr} (Pv : Nat → List V → Hp → Prop) (hn : n ≤ sizeLine) (h0 : Pv 0 [] (upd H1 D (.lst []))) (hok : ∀ i ys H, Pv i ys H → Ok H)
    (hs : ∀ i ys H (Q' : VK), i < n → ys.length = i → Pv i ys H → (∀ y H4, H4 D = some (.lst ys) → Pv (i + 1) (ys ++ [y]) (upd H4 D (.lst (ys ++ [y]))) → Q' y H4) → te (some (vs i) :: σ) H Q')
    (hd : ∀ ys H, ys.length = n → Pv n ys H → Q (.ref D) H) :
    CompW J tYes te σ Q D H1 := by
  refine ⟨fun i m ys H => m = n - i ∧ i ≤ n ∧ ys.length = i ∧ Pv i ys H, ⟨n, by simp, Nat.zero_le _, rfl, h0⟩, ?_⟩
  rintro i m ys H ⟨rfl, hi, hl, p⟩
  by_cases hlt : i < n
  · refine .inr ⟨R.go i H hlt (hok i ys H p), fun v H2 y => ?_⟩
    obtain ⟨e1, e2⟩ := R.yld i H v H2 hlt (hok i ys H p) y
    subst e1 e2
    exact hs i ys _ _ hlt hl p fun v H4 q1 q2 => ⟨q1, by omega, n - (i + 1), by omega, rfl, hlt, by simp [hl], q2⟩
  · have e : i = n := by omega
    subst e
    exact .inl ⟨R.stop H (hok _ ys H p), hd ys H hl p⟩
end L2
set_option Elab.async false
set_option linter.all false
set_option maxRecDepth 100000
set_option maxHeartbeats 4000000
namespace L2
open PySem PySem.Spec PyProof.Rows
noncomputable def mVar (i : Nat) : TE := fun σ H Q => match σ[i]? with | some (some v) => Q v H | _ => False
noncomputable def mB (Q : Bool → Hp → Prop) : VK := fun z H' => match z with | .bl k => Q k H' | _ => False
theorem mB_eq (Q : Bool → Hp → Prop) : mB Q = fun z H' => ∃ k, z = .bl k ∧ Q k H' := by
  funext z H'
  cases z <;> simp [mB]
section
variable {X : Cx} {a b c e : Expr} {ta tb tc te : TE} {pos : Pos}
theorem mv (i : Nat) {x : Str} {pos : Pos} (hN : X.N[i]? = some x := by rfl) (hv : Vis X.env.scope x := by first | exact Or.inl rfl | exact Or.inr (Or.inl rfl) | exact Or.inr (Or.inr rfl)) (hd : (x == ("__debug__" : Str)) = false := by decide)
    (hcd : (x == ("__classdict__" : Str)) = false := by decide) : PE X (.Name x pos) (mVar i) := by
  intro pins s σ H Q I h
  refine pe_var hN hv hd hcd pins s σ H Q I ?_
  unfold mVar at h
  split at h
  · rename_i v q; exact ⟨v, q, h⟩
  · exact h.elim
noncomputable def m2 (C : Int → Int → Prop) (g : Int → Int → V) : R2 := fun x y H Q => match x, y with
  | .int i, .int j => C i j ∧ Q (g i j) H
  | _, _ => False
noncomputable def m20 (g : Int → Int → V) : R2 := fun x y H Q => match x, y with
  | .int i, .int j => Q (g i j) H
  | _, _ => False
theorem m2_to {C : Int → Int → Prop} {g : Int → Int → V} {x y : V} {H : Hp} {Q : VK} (h : m2 C g x y H Q) : rI C g x y H Q := by
  cases x <;> cases y <;> first | exact (show False from h).elim | exact ⟨_, _, rfl, rfl, h⟩
theorem m20_to {g : Int → Int → V} {x y : V} {H : Hp} {Q : VK} (h : m20 g x y H Q) : rI0 g x y H Q := by
  cases x <;> cases y <;> first | exact (show False from h).elim | exact ⟨_, _, rfl, rfl, h⟩
theorem OpR.imp {f : Value → Value → Sem Value} {r r' : R2} (h : OpR X f r) (k : ∀ x y H Q, r' x y H Q → r x y H Q) : OpR X f r' := fun pins s σ H x y v u Q I rx ry q => h pins s σ H x y v u Q I rx ry (k x y H Q q)
noncomputable def mAdd (K : PySem.W.Frag) : R2 := fun x y H Q => match x, y with
  | .int i, .int j => Q (.int (i + j)) H
  | .str i, .str j => i.length + j.length ≤ sizeLine ∧ Q (.str (i ++ j)) H
  | .ref p, .ref q => (∃ xs ys, H p = some (.lst xs) ∧ H q = some (.lst ys) ∧ xs.length + ys.length ≤ sizeLine ∧ ∀ d, H d = none → Q (.ref d) (upd H d (.lst (xs ++ ys)))) ∨
      ∃ xs ys, SqT K H p xs ∧ SqT K H q ys ∧ xs ≠ [] ∧ xs.length + ys.length ≤ sizeLine ∧ (ys = [] → Q (.ref p) H) ∧ (ys ≠ [] → ∀ d, H d = none → Q (.ref d) (upd H d (.tup (xs ++ ys))))
  | _, _ => False
theorem mo_add : OpR X (binaryOp .Add) (mAdd X.K) := by
  refine (op_add.or (op_add_str.or (op_cat.or op_catT))).imp fun x y H Q h => ?_
  cases x <;> cases y <;> first
    | exact (show False from h).elim
    | exact .inl ⟨_, _, rfl, rfl, h⟩
    | exact .inr (.inl ⟨_, _, rfl, rfl, h⟩)
    | (rcases h with ⟨xs, ys, h1, h2, h3, h4⟩ | ⟨xs, ys, h1, h2, h3, h4, h5⟩
       · exact .inr (.inr (.inl ⟨_, _, xs, ys, rfl, rfl, h1, h2, h3, h4⟩))
       · exact .inr (.inr (.inr ⟨_, _, xs, ys, rfl, rfl, h1, h2, h3, h4, h5⟩)))
theorem mo_sub : OpR X (binaryOp .Sub) (m20 fun i j => .int (i - j)) := op_sub.imp fun _ _ _ _ h => m20_to h
noncomputable def mMul : R2 := fun x y H Q => match x, y with
  | .int i, .int j => IntMulOk i j ∧ Q (.int (i * j)) H
  | .ref l, .int k => ∃ xs, H l = some (.lst xs) ∧ -(2 ^ 63) ≤ k ∧ k < 2 ^ 63 ∧ xs.length * k.toNat ≤ sizeLine ∧ ∀ p, H p = none → Q (.ref p) (upd H p (.lst (List.replicate k.toNat xs).flatten))
  | _, _ => False
theorem op_mulW : OpR X (binaryOp .Mult) (rI (fun i j => IntMulOk i j) fun i j => .int (i * j)) := opI fun _ _ _ _ _ _ _ hc q => mul_int q hc
theorem mo_mul : OpR X (binaryOp .Mult) mMul := by
  refine (op_mulW.or op_rep).imp fun x y H Q h => ?_
  cases x <;> cases y <;> first
    | exact (show False from h).elim
    | exact .inl ⟨_, _, rfl, rfl, h⟩
    | (obtain ⟨xs, h1, h2, h3, h4, h5⟩ := h; exact .inr ⟨_, _, xs, rfl, rfl, h1, h2, h3, h4, h5⟩)
theorem mo_fdiv : OpR X (binaryOp .FloorDiv) (m2 CDiv fun i j => .int (i / j)) := op_fdiv.imp fun _ _ _ _ h => m2_to h
theorem mo_mod : OpR X (binaryOp .Mod) (m2 (fun _ j => 0 < j) fun i j => .int (i % j)) := op_mod.imp fun _ _ _ _ h => m2_to h
theorem mo_pow : OpR X (binaryOp .Pow) (m2 CPow fun i j => .int (i ^ j.toNat)) := op_pow.imp fun _ _ _ _ h => m2_to h
theorem mo_lt : OpR X (compareOp .Lt) (m20 fun i j => .bl (decide (i < j))) := op_lt.imp fun _ _ _ _ h => m20_to h
theorem mo_gt : OpR X (compareOp .Gt) (m20 fun i j => .bl (decide (j < i))) := op_gt.imp fun _ _ _ _ h => m20_to h
theorem mo_ge : OpR X (compareOp .GtE) (m20 fun i j => .bl (decide (j ≤ i))) := op_ge.imp fun _ _ _ _ h => m20_to h
noncomputable def mEq (n : Bool) : R2 := fun x y H Q => match x, y with
  | .int i, .int j => Q (.bl (n ^^ decide (i = j))) H
  | .str i, .str j => Q (.bl (n ^^ decide (i = j))) H
  | .bl i, .bl j => Q (.bl (n ^^ decide (i = j))) H
  | .non, .non => Q (.bl (n ^^ true)) H
  | .non, .int _ => Q (.bl n) H
  | .non, .str _ => Q (.bl n) H
  | .non, .bl _ => Q (.bl n) H
  | .int _, .non => Q (.bl n) H
  | .str _, .non => Q (.bl n) H
  | .bl _, .non => Q (.bl n) H
  | .int _, .str _ => Q (.bl n) H
  | .str _, .int _ => Q (.bl n) H
  | .bl _, .str _ => Q (.bl n) H
  | .str _, .bl _ => Q (.bl n) H
  | _, _ => False
theorem mo_eq : OpR X (compareOp .Eq) (mEq false) := by
  refine op_eq.imp fun x y H Q h => ?_
  cases x <;> cases y <;> first
    | exact (show False from h).elim
    | exact ⟨rfl, by simpa [mEq] using h⟩
theorem mo_ne : OpR X (compareOp .NotEq) (mEq true) := by
  refine op_ne.imp fun x y H Q h => ?_
  cases x <;> cases y <;> first
    | exact (show False from h).elim
    | exact ⟨rfl, by simpa [mEq] using h⟩
noncomputable def mTest (t : TE) : TT := fun σ H Q => t σ H (mB Q)
theorem mTest_eq (t : TE) : mTest t = tTest t := by
  funext σ H Q
  show t σ H (mB Q) = t σ H _
  rw [mB_eq]
theorem mt_cmp {op : CmpOp} {r : R2} (ho : OpR X (compareOp op) r) (ha : PE X a ta) (hb : PE X b tb) (hm : behindInMarks op b = false) : PT X (.Compare a [op] [b] pos) (mTest (tOp r ta tb)) := by
  rw [mTest_eq]; exact pt_cmpR ho ha hb hm
noncomputable def mChain (r r' : R2) (ta tb tc : TE) : TE := fun σ H Q => ta σ H fun x H1 => tb σ H1 fun y H2 => r x y H2 (mB fun k H3 => if k = true then tc σ H3 fun w' H4 => r' y w' H4 Q else Q (.bl false) H3)
noncomputable def mTru (K : PySem.W.Frag) (Q : Bool → Hp → Prop) : VK := fun x H => match x with
  | .non => Q false H
  | .bl b => Q b H
  | .int i => Q (decide (i ≠ 0)) H
  | .str y => y.length ≤ sizeLine ∧ Q (decide (y.length ≠ 0)) H
  | .ref p => (∃ xs, SqL K H p xs ∧ Q (!xs.isEmpty) H) ∨ (∃ xs, SqT K H p xs ∧ Q (!xs.isEmpty) H) ∨ ∃ kvs, H p = some (.dK kvs) ∧ Q (!kvs.isEmpty) H
  | _ => False
theorem mTru_to {K : PySem.W.Frag} {Q : Bool → Hp → Prop} {x : V} {H : Hp} (h : mTru K Q x H) : ∃ k, TruV K x H k ∧ Q k H := by
  cases x with
  | non => exact ⟨_, rfl, h⟩
  | bl b => exact ⟨_, rfl, h⟩
  | int i =>
    have h : Q (decide (i ≠ 0)) H := h
    refine ⟨i != 0, rfl, ?_⟩
    have e : (i != 0) = decide (i ≠ 0) := by
      rw [Bool.eq_iff_iff]; simp
    rw [e]; exact h
  | str y =>
    obtain ⟨h1, h⟩ : y.length ≤ sizeLine ∧ Q (decide (y.length ≠ 0)) H := h
    refine ⟨((y.length : Int) != 0), ⟨h1, rfl⟩, ?_⟩
    have e : ((y.length : Int) != 0) = decide (y.length ≠ 0) := by
      rw [Bool.eq_iff_iff]; simp
    rw [e]; exact h
  | ref p =>
    rcases h with ⟨xs, h1, h2⟩ | ⟨xs, h1, h2⟩ | ⟨xs, h1, h2⟩
    · exact ⟨_, .inl ⟨xs, h1, rfl⟩, h2⟩
    · exact ⟨_, .inr (.inl ⟨xs, h1, rfl⟩), h2⟩
    · exact ⟨_, .inr (.inr ⟨xs, h1, rfl⟩), h2⟩
  | _ => exact (show False from h).elim
noncomputable def mTrue (K : PySem.W.Frag) (ta : TE) : TT := fun σ H Q => ta σ H (mTru K Q)
theorem mt_tru (ha : PE X a ta) (he : ∀ whole, isTrue a X.env whole = (do let v ← whole; standAt a.pos; holding [v] (truthy v)) := by intro _; rfl) : PT X a (mTrue X.K ta) := by
  intro pins s σ H Q I h
  exact isTrue_plain (thn (ha pins s σ H _ I h) fun v s1 ⟨x, H1, I1, r1, q1⟩ => tru_ok pins s1 σ H1 x v Q I1 r1 (mTru_to q1)) (he _)
noncomputable def mAndV (ta tb : TE) : TE := fun σ H Q => ta σ H (mB fun c H1 => if c = true then tb σ H1 Q else Q (.bl false) H1)
noncomputable def mOrV (ta tb : TE) : TE := fun σ H Q => ta σ H (mB fun c H1 => if c = true then Q (.bl true) H1 else tb σ H1 Q)
variable {rest : List Expr}
theorem me_and (ha : PE X a ta) (hb : PE X (.BoolOp .And (b :: rest) pos) tb) : PE X (.BoolOp .And (a :: b :: rest) pos) (mAndV ta tb) := by
  have e : mAndV ta tb = tAndV ta tb := by funext σ H Q; unfold mAndV tAndV; rw [mB_eq]
  rw [e]; exact pe_and ha hb
noncomputable def mIx (K : PySem.W.Frag) : R2 := fun x y H Q => match x, y with
  | .ref p, .int i => (∃ xs v, SqL K H p xs ∧ atI xs i = some v ∧ Q v H) ∨ ∃ xs v, SqT K H p xs ∧ atI xs i = some v ∧ Q v H
  | .str z, .int i => z.length ≤ sizeLine ∧ ∃ c, atI z.cps.toList i = some c ∧ Q (.str ⟨#[c]⟩) H
  | _, _ => False
theorem mi_seq : IxR X (mIx X.K) := by
  intro value slice pins s σ H x y v u Q I rx ry h hs
  refine ix_seq value slice pins s σ H x y v u Q I rx ry ?_ hs
  cases x <;> cases y <;> first
    | exact (show False from h).elim
    | (rcases h with ⟨xs, v, h1, h2, h3⟩ | ⟨xs, v, h1, h2, h3⟩
       · exact .inl ⟨_, xs, _, v, rfl, rfl, h1, h2, h3⟩
       · exact .inr (.inl ⟨_, xs, _, v, rfl, rfl, h1, h2, h3⟩))
    | (obtain ⟨h1, c, h2, h3⟩ := h; exact .inr (.inr ⟨_, _, c, rfl, rfl, h1, h2, h3⟩))
noncomputable def inS (i j : Str) : Bool := !(Builtin.Str.occurrences j i 0 j.length 1).isEmpty
noncomputable def mInS (n : Bool) : R2 := fun x y H Q => match x, y with
  | .str i, .str j => Q (.bl (n ^^ inS i j)) H
  | _, _ => False
noncomputable def mI (R : Option Int → Hp → Prop) : VK := fun x H1 => match x with | .int i => R (some i) H1 | _ => False
noncomputable def mPart (t : TE) : TO := fun σ H Q => t σ H (mI Q)
theorem mp_some (h : PE X e te) : PO X (some e) (mPart te) := by
  have q : mPart te = tPart te := by
    funext σ H Q
    unfold mPart tPart
    congr 1
    funext x H1
    cases x <;> simp [mI]
  rw [q]; exact po_some h
noncomputable def mLen (K : PySem.W.Frag) : List V → Hp → VK → Prop := fun vs H Q => match vs with
  | [.str y] => y.length ≤ sizeLine ∧ Q (.int y.length) H
  | [.ref p] => (∃ xs, SqL K H p xs ∧ Q (.int xs.length) H) ∨ ∃ xs, SqT K H p xs ∧ Q (.int xs.length) H
  | _ => False
theorem mc_len : CallR X (.builtin "len") (mLen X.K) := by
  intro pins s σ H xs us Q I r h
  refine call_len pins s σ H xs us Q I r ?_
  unfold mLen at h
  split at h
  · exact ⟨_, _, rfl, ⟨h.1, rfl⟩, h.2⟩
  · rcases h with ⟨ys, h1, h2⟩ | ⟨ys, h1, h2⟩
    · exact ⟨_, _, rfl, .inl ⟨ys, h1, rfl⟩, h2⟩
    · exact ⟨_, _, rfl, .inr ⟨ys, h1, rfl⟩, h2⟩
  · exact h.elim
theorem kit_same (K : PySem.W.Frag) (t : Value) : PySem.W.kitOne K t t = some true := by
  unfold PySem.W.kitOne
  rw [if_pos (by simp)]
end
end L2
set_option Elab.async false
set_option linter.all false
set_option maxRecDepth 100000
set_option maxHeartbeats 4000000
namespace L2
open PySem PySem.Spec PyProof.Rows
section
variable {X : Cx} {a b c e : Expr} {ta tb tc te : TE} {pos : Pos}
noncomputable def mNotV (K : PySem.W.Frag) (ta : TE) : TE := fun σ H Q => ta σ H (mTru K fun b H' => Q (.bl (!b)) H')
theorem me_not (ha : PE X a ta) : PE X (.UnaryOp .Not a pos) (mNotV X.K ta) := by
  intro pins s σ H Q I h
  refine UnaryOp_ (thn (ha pins s σ H _ I h) fun v s1 ⟨x, H1, I1, r1, q1⟩ => ?_)
  exact not_of (thn (tru_ok pins s1 σ H1 x v _ I1 r1 (mTru_to q1)) fun b s2 ⟨H2, I2, q2⟩ => ⟨.bl (!b), H2, I2, rfl, q2⟩)
noncomputable def mAppend : V → List V → Hp → VK → Prop := fun x vs H Q => match x, vs with
  | .ref l, [y] => ∃ xs, H l = some (.lst xs) ∧ xs.length < sizeLine ∧ Q .non (upd H l (.lst (xs ++ [y])))
  | _, _ => False
theorem mm_append : MtR X "list.append" mAppend := by
  intro pins s σ H x xs v us Q I rx rs h
  refine mt_append pins s σ H x xs v us Q I rx rs ?_
  unfold mAppend at h
  split at h
  · obtain ⟨ys, h1, h2, h3⟩ := h
    exact ⟨_, ys, _, rfl, rfl, h1, h2, h3⟩
  · exact h.elim
noncomputable def mPop : V → List V → Hp → VK → Prop := fun x vs H Q => match x, vs with
  | .ref l, [] => ∃ xs y, H l = some (.lst (xs ++ [y])) ∧ Q y (upd H l (.lst xs))
  | _, _ => False
theorem mm_pop : MtR X "list.pop" mPop := by
  intro pins s σ H x xs v us Q I rx rs h
  refine mt_pop pins s σ H x xs v us Q I rx rs ?_
  unfold mPop at h
  split at h
  · obtain ⟨ys, y, h1, h2⟩ := h
    exact ⟨_, _, y, rfl, rfl, h1, by simp, by rw [List.dropLast_concat]; exact h2⟩
  · exact h.elim
noncomputable def mUn (g : Int → Int) : V → Hp → VK → Prop := fun x H Q => match x with | .int i => Q (.int (g i)) H | _ => False
end
section
variable {X : Cx}
theorem pe_gint {x : Str} {z : Int} {tk : Tok} {pos : Pos} (hg : Gl X x) (hm : X.mg x = some (.int z tk)) (hd : (x == ("__debug__" : Str)) = false := by decide) : PE X (.Name x pos) (tC (.int z)) := pe_glob hg hm ⟨tk, rfl⟩ hd
end
section
variable {X : Cx} {a b c e o : Expr} {es : List Expr} {ta tb tc te to : TE} {t : TA} {pos : Pos} {tg l : Expr} {tl : TE}
theorem pe_bty {x : Str} {n : String} {pos : Pos} (hg : Gl X x) (hm : X.mg x = none) (hv : bootBuiltins x = some (.type n)) (hn : x ≠ "__name__" := by decide) (hd : (x == ("__debug__" : Str)) = false := by decide) : PE X (.Name x pos) (tC (.ty n)) := pe_bltn hg hm hv rfl hn hd
theorem ko_add (K : PySem.W.Frag) (h : X.K = K) : OpR X (binaryOp .Add) (mAdd K) := h ▸ mo_add
theorem kt_tru (K : PySem.W.Frag) (h : X.K = K) (ha : PE X a ta) (he : ∀ whole, isTrue a X.env whole = (do let v ← whole; standAt a.pos; holding [v] (truthy v)) := by intro _; rfl) : PT X a (mTrue K ta) := h ▸ mt_tru ha he
theorem ke_not (K : PySem.W.Frag) (h : X.K = K) (ha : PE X a ta) : PE X (.UnaryOp .Not a pos) (mNotV K ta) := h ▸ me_not ha
theorem ki_seq (K : PySem.W.Frag) (h : X.K = K) : IxR X (mIx K) := h ▸ mi_seq
theorem kc_len (K : PySem.W.Frag) (h : X.K = K) : CallR X (.builtin "len") (mLen K) := h ▸ mc_len
theorem kpi_list (K : PySem.W.Frag) (h : X.K = K) (hl : PE X l tl) : PI X tg l (iList K tl) := h ▸ pi_list hl
theorem kpi_tup (K : PySem.W.Frag) (h : X.K = K) (hl : PE X l tl) : PI X tg l (iTup K tl) := h ▸ pi_tup hl
theorem ke_bm0 (K : PySem.W.Frag) (h : X.K = K) {name : Str} {apos cpos : Pos} {T id : String} {r : V → List V → Hp → VK → Prop} (pa : PlainAttrs T) (slot : Slot T name id) (hty : typeOf (.builtin id) = pure (.type "method_descriptor")) (hm : MtR X id r) (ho : PE X o to)
    (hbase : attributeBase o name X.env (eval o X.env) = eval o X.env := by rfl) (hline : (apos.endLine == cpos.line) = true := by rfl) : PE X (.Call (.Attribute o name apos) [] [] cpos) (tBM0 K T r to) := h ▸ pe_bm0 pa slot hty hm ho hbase hline
theorem ke_bm (K : PySem.W.Frag) (h : X.K = K) {name : Str} {apos cpos : Pos} {T id : String} {r : V → List V → Hp → VK → Prop} (pa : PlainAttrs T) (slot : Slot T name id) (hty : typeOf (.builtin id) = pure (.type "method_descriptor")) (hm : MtR X id r) (ho : PE X o to) (ha : PA X (e :: es) t)
    (hbase : attributeBase o name X.env (eval o X.env) = eval o X.env := by rfl)
    (hfew : ((backTo cpos (starEach (e :: es) X.env)).all (fun x => !x.1) && (backToKw cpos (keywordEach [] X.env)).all (fun x => x.1.isSome)
      && decide ((e :: es).length + ([] : List Keyword).length + (if ([] : List Keyword).isEmpty then 0 else 1) < 30)) = true := by rfl)
    (hline : (apos.endLine == cpos.line) = true := by rfl) (hs : starEach (e :: es) X.env = (false, eval e X.env) :: starEach es X.env := by rfl) (hplain : (backTo cpos (starEach es X.env)).any (·.1) = false := by rfl) :
    PE X (.Call (.Attribute o name apos) (e :: es) [] cpos) (tBM K T r to t) := h ▸ pe_bm pa slot hty hm ho ha hbase hfew hline hs hplain
end
theorem atI_lt {α : Type} {xs : List α} {i : Int} (h0 : 0 ≤ i) (h1 : i < (xs.length : Int)) : ∃ v, atI xs i = some v ∧ xs[i.toNat]? = some v := by
  have hk : i.toNat < xs.length := by omega
  have ek : i = ((i.toNat : Nat) : Int) := by omega
  have q : xs[i.toNat]? = some xs[i.toNat] := List.getElem?_eq_getElem hk
  refine ⟨xs[i.toNat], ?_, q⟩
  have := atI_nat q
  rw [← ek] at this
  exact this
theorem same_new {H : Hp} {p : Addr} (h : H p = none) (o : HO) : Same H (upd H p o) := fun b u q => by rw [upd_ne (ne_of_none q h)]; exact q
theorem same_upd {H H' : Hp} {p : Addr} {o : HO} (e : Same H H') (h : H p = none) : Same H (upd H' p o) := fun b u q => by rw [upd_ne (ne_of_none q h)]; exact e b u q
theorem Same.tup {K : PySem.W.Frag} {H H' : Hp} {a : Addr} {xs : List V} (e : Same H H') (h : SqT K H a xs) : SqT K H' a xs := by
  rcases h with (h | ⟨o, h⟩) | h
  · exact .inl (.inl (e _ _ h))
  · exact .inl (.inr ⟨o, e _ _ h⟩)
  · exact .inr h
theorem cdiv_i {i j : Int} (h1 : 0 < j) (h2 : j < 1073741824) : CDiv i j := ⟨h1, h2⟩
theorem mulOk_right {i j : Int} (h : -(2 ^ 64) < j ∧ j < 2 ^ 64) : IntMulOk i j := CMul.ok (.inr h)
theorem mulOk_left {i j : Int} (h : -(2 ^ 64) < i ∧ i < 2 ^ 64) : IntMulOk i j := CMul.ok (.inl h)
section
variable {K : PySem.W.Frag} {σ : St} {H : Hp} {Q : VK} {D : Ends} {ta tb tc te : TE} {t u : TS} {A B : TT} {P : Bool → Hp → Prop} {v x y : V} {i j : Int} {n : Nat} {b : Bool} {p q : Str}
theorem mVar_i (h : σ[n]? = some (some v)) (k : Q v H) : mVar n σ H Q := by unfold mVar; rw [h]; exact k
theorem tC_i (k : Q v H) : tC v σ H Q := k
theorem tOp_i {r : R2} (k : ta σ H fun x H1 => tb σ H1 fun y H2 => r x y H2 Q) : tOp r ta tb σ H Q := k
theorem tUn_i {r : V → Hp → VK → Prop} (k : ta σ H fun x H1 => r x H1 Q) : tUn r ta σ H Q := k
theorem mUn_i {g : Int → Int} (k : Q (.int (g i)) H) : mUn g (.int i) H Q := k
theorem m20_i {g : Int → Int → V} (k : Q (g i j) H) : m20 g (.int i) (.int j) H Q := k
theorem m2_i {C : Int → Int → Prop} {g : Int → Int → V} (c : C i j) (k : Q (g i j) H) : m2 C g (.int i) (.int j) H Q := ⟨c, k⟩
theorem mAdd_i (k : Q (.int (i + j)) H) : mAdd K (.int i) (.int j) H Q := k
theorem mAdd_s (c : p.length + q.length ≤ sizeLine) (k : Q (.str (p ++ q)) H) : mAdd K (.str p) (.str q) H Q := ⟨c, k⟩
theorem mMul_i (c : IntMulOk i j) (k : Q (.int (i * j)) H) : mMul (.int i) (.int j) H Q := ⟨c, k⟩
theorem mEq_i (k : Q (.bl (b ^^ decide (i = j))) H) : mEq b (.int i) (.int j) H Q := k
theorem mEq_s (k : Q (.bl (b ^^ decide (p = q))) H) : mEq b (.str p) (.str q) H Q := k
theorem mEq_b {c d : Bool} (k : Q (.bl (b ^^ decide (c = d))) H) : mEq b (.bl c) (.bl d) H Q := k
theorem mInS_i (k : Q (.bl (b ^^ inS p q)) H) : mInS b (.str p) (.str q) H Q := k
theorem mB_i (k : P b H) : mB P (.bl b) H := k
theorem mTest_i (k : ta σ H (mB P)) : mTest ta σ H P := k
theorem mTrue_i (k : ta σ H (mTru K P)) : mTrue K ta σ H P := k
theorem mTru_b (k : P b H) : mTru K P (.bl b) H := k
theorem mChain_i {r r' : R2} (k : ta σ H fun x H1 => tb σ H1 fun y H2 => r x y H2 (mB fun k H3 => if k = true then tc σ H3 fun w' H4 => r' y w' H4 Q else Q (.bl false) H3)) : mChain r r' ta tb tc σ H Q := k
theorem mAndV_i (k : ta σ H (mB fun c H1 => if c = true then tb σ H1 Q else Q (.bl false) H1)) : mAndV ta tb σ H Q := k
theorem mOrV_i (k : ta σ H (mB fun c H1 => if c = true then Q (.bl true) H1 else tb σ H1 Q)) : mOrV ta tb σ H Q := k
theorem mNotV_i (k : ta σ H (mTru K fun b H' => Q (.bl (!b)) H')) : mNotV K ta σ H Q := k
theorem tIf_i (k : A σ H fun c H1 => if c = true then ta σ H1 Q else tb σ H1 Q) : tIf A ta tb σ H Q := k
theorem tAnd_i (k : A σ H fun c H1 => if c = true then B σ H1 P else P false H1) : tAnd A B σ H P := k
theorem tOr_i (k : A σ H fun c H1 => if c = true then P true H1 else B σ H1 P) : tOr A B σ H P := k
theorem tNot_i (k : A σ H fun c H1 => P (!c) H1) : tNot A σ H P := k
theorem tSeq_i (k : t { D with nx := u D } σ H) : tSeq t u D σ H := k
theorem tNext_i (k : D.nx σ H) : tNext D σ H := k
theorem tRet_i (k : te σ H D.rt) : tRet te D σ H := k
theorem tIfS_i (k : A σ H fun b H1 => if b = true then t D σ H1 else u D σ H1) : tIfS A t u D σ H := k
theorem tAsg_i {g : TG} (k : te σ H fun x H1 => g x σ H1 D.nx) : tAsg te g D σ H := k
theorem tDrop_i (k : te σ H fun _ H1 => D.nx σ H1) : tDrop te D σ H := k
theorem gName_i {N : St → Hp → Prop} (k : N (σ.set n (some v)) H) : gName n v σ H N := k
theorem tCB_i {r : List V → Hp → VK → Prop} {a : TA} (k : a σ H fun vs H1 => r vs H1 Q) : tCB r a σ H Q := k
theorem tCons_i {a : TA} {R : List V → Hp → Prop} (k : ta σ H fun x H1 => a σ H1 fun xs H2 => R (x :: xs) H2) : tCons ta a σ H R := k
theorem tNil_i {R : List V → Hp → Prop} (k : R [] H) : tNil σ H R := k
theorem tBM_i {T : String} {r : V → List V → Hp → VK → Prop} {a : TA} (k : ta σ H fun x H1 => tyV K T x H1 ∧ a σ H1 fun xs H2 => r x xs H2 Q) : tBM K T r ta a σ H Q := k
theorem tBM0_i {T : String} {r : V → List V → Hp → VK → Prop} (k : ta σ H fun x H1 => tyV K T x H1 ∧ r x [] H1 Q) : tBM0 K T r ta σ H Q := k
theorem tTup_i {a : TA} (k : a σ H fun xs H1 => xs.length ≤ sizeLine ∧ ∀ p, H1 p = none → Q (.ref p) (upd H1 p (.tup xs))) : tTup a σ H Q := k
theorem tLst_i {a : TA} (k : a σ H fun xs H1 => xs.length ≤ sizeLine ∧ ∀ p, H1 p = none → Q (.ref p) (upd H1 p (.lst xs))) : tLst a σ H Q := k
theorem tSl_i {r : V → Option Int → Option Int → Hp → VK → Prop} {tl th : TO} (k : te σ H fun x H1 => tl σ H1 fun l H2 => th σ H2 fun u H3 => r x l u H3 Q) : tSl r te tl th σ H Q := k
theorem tNoPart_i {R : Option Int → Hp → Prop} (k : R none H) : tNoPart σ H R := k
theorem mPart_i {R : Option Int → Hp → Prop} (k : te σ H (mI R)) : mPart te σ H R := k
theorem mI_i {R : Option Int → Hp → Prop} (k : R (some i) H) : mI R (.int i) H := k
theorem mLen_l {a : Addr} {xs : List V} (c : SqL K H a xs) (k : Q (.int xs.length) H) : mLen K [.ref a] H Q := .inl ⟨xs, c, k⟩
theorem mLen_t {a : Addr} {xs : List V} (c : SqT K H a xs) (k : Q (.int xs.length) H) : mLen K [.ref a] H Q := .inr ⟨xs, c, k⟩
theorem mIx_l {a : Addr} {xs : List V} (c : SqL K H a xs) (e : atI xs i = some v) (k : Q v H) : mIx K (.ref a) (.int i) H Q := .inl ⟨xs, v, c, e, k⟩
theorem mIx_t {a : Addr} {xs : List V} (c : SqT K H a xs) (e : atI xs i = some v) (k : Q v H) : mIx K (.ref a) (.int i) H Q := .inr ⟨xs, v, c, e, k⟩
theorem mAppend_i {a : Addr} {xs : List V} (e : H a = some (.lst xs)) (c : xs.length < sizeLine) (k : Q .non (upd H a (.lst (xs ++ [v])))) : mAppend (.ref a) [v] H Q := ⟨xs, e, c, k⟩
theorem iteB {c d : Prop} (h1 : b = true → c) (h2 : b = false → d) : if b = true then c else d := by
  cases b with
  | true => exact h1 rfl
  | false => exact h2 rfl
theorem tCall0_i {sp : Sp} {E : XK} {a : TA} (k : a σ H fun vs H1 => sp vs H1 Q E) : tCall sp [] E a σ H Q := by
  unfold tCall
  have e : (fun (vs : List V) (H1 : Hp) => sp (vs ++ []) H1 Q E) = fun vs H1 => sp vs H1 Q E := by funext vs H1; rw [List.append_nil]
  rw [e]; exact k
theorem tFor_i {wi : TI} {g : TG} (k : wi σ H fun J H1 => ForW J g t D σ H1) : tFor wi g t D σ H := k
theorem iStr_i {R : It → Hp → Prop} (k : ta σ H fun v H1 => ∃ x, v = .str x ∧ R (Its x) H1) : iStr ta σ H R := k
theorem iList_i {R : It → Hp → Prop} (k : ta σ H fun x H1 => ∃ a, x = .ref a ∧ (∃ xs, SqL K H1 a xs) ∧ R (Itl K a) H1) : iList K ta σ H R := k
theorem iTup_i {R : It → Hp → Prop} (k : ta σ H fun x H1 => ∃ a, x = .ref a ∧ (∃ xs, SqT K H1 a xs) ∧ R (Itt K a) H1) : iTup K ta σ H R := k
theorem iRng1_i {a : TA} {R : It → Hp → Prop} (k : a σ H fun vs H1 => ∃ j : Int, vs = [.int j] ∧ -(2 ^ 62) ≤ j ∧ j < 2 ^ 62 ∧ R (Itr 0 j.toNat) H1) : iRng1 a σ H R := k
theorem tComp_i {wi : TI} {tt : TT} (k : wi σ H fun J H1 => ∀ D, H1 D = none → CompW J tt te σ Q D H1) : tComp wi tt te σ H Q := k
theorem seq_rest (Post : St → Hp → Prop) (h1 : ∀ σ' H', Post σ' H' → u D σ' H') (h2 : (∀ σ' H', Post σ' H' → u D σ' H') → t { D with nx := u D } σ H) : tSeq t u D σ H := h2 h1
end
end L2
set_option Elab.async false
set_option linter.all false
set_option maxRecDepth 100000
set_option maxHeartbeats 4000000
namespace L2
open PySem PySem.Spec PyProof.Rows
mutual
inductive Den (K : PySem.W.Frag) (H : Hp) : V → PyData → Prop
  | non : Den K H .non .none
  | bl (b : Bool) : Den K H (.bl b) (.bool b)
  | int (i : Int) : Den K H (.int i) (.int i)
  | str (x : Str) : Den K H (.str x) (.str x)
  | tup {a : Addr} {us : List V} {ds : List PyData} : SqT K H a us → DenL K H us ds → Den K H (.ref a) (.tuple ds)
inductive DenL (K : PySem.W.Frag) (H : Hp) : List V → List PyData → Prop
  | nil : DenL K H [] []
  | cons {u : V} {us : List V} {d : PyData} {ds : List PyData} : Den K H u d → DenL K H us ds → DenL K H (u :: us) (d :: ds)
end
mutual
theorem Den.monoT {K : PySem.W.Frag} {H H' : Hp} (e : ∀ a xs, SqT K H a xs → SqT K H' a xs) : ∀ {v : V} {d : PyData}, Den K H v d → Den K H' v d
  | _, _, .non => .non
  | _, _, .bl b => .bl b
  | _, _, .int i => .int i
  | _, _, .str x => .str x
  | _, _, .tup h l => .tup (e _ _ h) (DenL.monoT e l)
theorem DenL.monoT {K : PySem.W.Frag} {H H' : Hp} (e : ∀ a xs, SqT K H a xs → SqT K H' a xs) : ∀ {v : List V} {d : List PyData}, DenL K H v d → DenL K H' v d
  | _, _, .nil => .nil
  | _, _, .cons h l => .cons (Den.monoT e h) (DenL.monoT e l)
end
theorem Den.mono {K : PySem.W.Frag} {H H' : Hp} (e : Same H H') {v : V} {d : PyData} (h : Den K H v d) : Den K H' v d := h.monoT fun _ _ q => e.tup q
theorem DenL.mono {K : PySem.W.Frag} {H H' : Hp} (e : Same H H') {v : List V} {d : List PyData} (h : DenL K H v d) : DenL K H' v d := h.monoT fun _ _ q => e.tup q
theorem tup_lst {K : PySem.W.Frag} {H : Hp} {p : Addr} {ys : List V} {o : HO} (h : H p = some (.lst ys)) : ∀ a xs, SqT K H a xs → SqT K (upd H p o) a xs := fun a xs q => by
  rcases q with (q | ⟨o', q⟩) | q
  · exact .inl (.inl (by rw [upd_ne (ne_of q h (fun z => by cases z))]; exact q))
  · exact .inl (.inr ⟨o', by rw [upd_ne (ne_of q h (fun z => by cases z))]; exact q⟩)
  · exact .inr q
theorem Den.lst {K : PySem.W.Frag} {H : Hp} {p : Addr} {ys : List V} {o : HO} (h : H p = some (.lst ys)) {v : V} {d : PyData} (q : Den K H v d) : Den K (upd H p o) v d := q.monoT (tup_lst h)
theorem DenL.lst {K : PySem.W.Frag} {H : Hp} {p : Addr} {ys : List V} {o : HO} (h : H p = some (.lst ys)) {v : List V} {d : List PyData} (q : DenL K H v d) : DenL K (upd H p o) v d := q.monoT (tup_lst h)
section
variable {K : PySem.W.Frag} {H : Hp}
theorem DenL.length : ∀ {us : List V} {ds : List PyData}, DenL K H us ds → us.length = ds.length
  | _, _, .nil => rfl
  | _, _, .cons _ l => by rw [List.length_cons, List.length_cons, DenL.length l]
theorem DenL.get : ∀ {us : List V} {ds : List PyData} {i : Nat} {u : V}, DenL K H us ds → us[i]? = some u → ∃ d, ds[i]? = some d ∧ Den K H u d
  | _, _, _, _, .nil, e => by simp at e
  | _, _, 0, _, .cons h _, e => by simp at e; subst e; exact ⟨_, rfl, h⟩
  | _, _, i + 1, u, .cons _ l, e => by
    obtain ⟨d, h1, h2⟩ := DenL.get (i := i) (u := u) l (by simpa using e)
    exact ⟨d, by simpa using h1, h2⟩
theorem DenL.append : ∀ {us vs : List V} {ds es : List PyData}, DenL K H us ds → DenL K H vs es → DenL K H (us ++ vs) (ds ++ es)
  | _, _, _, _, .nil, l => l
  | _, _, _, _, .cons h t, l => .cons h (DenL.append t l)
theorem DenL.take : ∀ {us : List V} {ds : List PyData} (n : Nat), DenL K H us ds → DenL K H (us.take n) (ds.take n)
  | _, _, 0, _ => .nil
  | _, _, _ + 1, .nil => .nil
  | _, _, n + 1, .cons h t => .cons h (DenL.take n t)
theorem DenL.drop : ∀ {us : List V} {ds : List PyData} (n : Nat), DenL K H us ds → DenL K H (us.drop n) (ds.drop n)
  | _, _, 0, l => l
  | _, _, _ + 1, .nil => .nil
  | _, _, n + 1, .cons _ t => DenL.drop n t
end
section
variable {X : Cx} {pins : List (Addr × Obj)} {σ : St} {H : Hp} {s : Shared}
theorem depthAll_get : ∀ {ds : List PyData} {i : Nat} {d : PyData}, ds[i]? = some d → d.depth ≤ PyData.depthAll ds
  | [], _, _, e => by simp at e
  | x :: r, 0, d, e => by simp at e; subst e; unfold PyData.depthAll; omega
  | x :: r, i + 1, d, e => by
    have := depthAll_get (ds := r) (i := i) (d := d) (by simpa using e)
    unfold PyData.depthAll; omega
theorem eq_same (I : Inv X pins σ H s) : ∀ (n : Nat) (A : Around) (d : PyData) (v v' : V) (u u' : Value), d.depth ≤ n → A.units + n < cLine → Den X.K H v d → Den X.K H v' d → RelV v u → RelV v' u' → SeqAt.EqAt A s u u' true := by
  intro n
  induction n with
  | zero =>
    intro A d v v' u u' hd hu h h' r r'
    cases h with
    | non => cases h'; cases r; cases r'; exact SeqAt.EqAt.same _
    | bl b => cases h'; cases r; cases r'; exact SeqAt.EqAt.same _
    | int i =>
      cases h'
      obtain ⟨t, rfl⟩ := r
      obtain ⟨t', rfl⟩ := r'
      have := SeqAt.EqAt.int_int (A := A) (s := s) i t i t'
      simpa using this
    | str x =>
      cases h'
      obtain ⟨t, rfl⟩ := r
      obtain ⟨t', rfl⟩ := r'
      have := SeqAt.EqAt.str_str (A := A) (s := s) x t x t'
      simpa using this
    | tup _ _ => simp [PyData.depth] at hd
  | succ n ih =>
    intro A d v v' u u' hd hu h h' r r'
    cases h with
    | non => cases h'; cases r; cases r'; exact SeqAt.EqAt.same _
    | bl b => cases h'; cases r; cases r'; exact SeqAt.EqAt.same _
    | int i =>
      cases h'
      obtain ⟨t, rfl⟩ := r
      obtain ⟨t', rfl⟩ := r'
      have := SeqAt.EqAt.int_int (A := A) (s := s) i t i t'
      simpa using this
    | str x =>
      cases h'
      obtain ⟨t, rfl⟩ := r
      obtain ⟨t', rfl⟩ := r'
      have := SeqAt.EqAt.str_str (A := A) (s := s) x t x t'
      simpa using this
    | @tup a us ds hs hl =>
      cases h' with
      | @tup b us' _ hs' hl' =>
        cases r
        cases r'
        by_cases e : a = b
        · subst e; exact SeqAt.EqAt.same _
        · obtain ⟨its, rv, p, _⟩ := I.tuple hs
          obtain ⟨its', rv', p', _⟩ := I.tuple hs'
          have l1 := rv.length
          have l2 := rv'.length
          have l3 := hl.length
          have l4 := hl'.length
          have hd' : PyData.depthAll ds ≤ n := by simp only [PyData.depth] at hd; omega
          have key := SeqAt.RcAt.tuples (A := A) (e := fun _ => true) (show s.heap.IsTuple a its.toArray from p) (show s.heap.IsTuple b its'.toArray from p') (by omega) (fun j h1 h2 => by
            have h1 : j < its.length := by simpa using h1
            have h2 : j < its'.length := by simpa using h2
            have x1 : us[j]? = some us[j] := List.getElem?_eq_getElem (by omega)
            have x2 : us'[j]? = some us'[j] := List.getElem?_eq_getElem (by omega)
            obtain ⟨d, e1, d1⟩ := hl.get x1
            obtain ⟨d', e2, d2⟩ := hl'.get x2
            rw [e1] at e2; cases e2
            obtain ⟨w1, y1, z1⟩ := rv.get x1
            obtain ⟨w2, y2, z2⟩ := rv'.get x2
            have q1 : its.toArray[j] = w1 := by
              have := List.getElem?_eq_getElem h1
              rw [y1] at this
              simpa using (Option.some.inj this).symm
            have q2 : its'.toArray[j] = w2 := by
              have := List.getElem?_eq_getElem h2
              rw [y2] at this
              simpa using (Option.some.inj this).symm
            rw [q1, q2]
            exact ih A.in1 d _ _ _ _ (Nat.le_trans (depthAll_get e1) hd') (by show A.units + 1 + n < cLine; omega) d1 d2 z1 z2)
          have e3 : its.toArray.size = its'.toArray.size := by simp only [List.size_toArray]; omega
          rw [e3] at key
          have e4 : ((List.range (min its'.toArray.size its'.toArray.size)).all (fun _ => true) && its'.toArray.size == its'.toArray.size) = true := by simp
          rw [e4] at key
          exact SeqAt.EqAt.of_refs e key
end
section
variable {X : Cx} {a b c e : Expr} {ta tb tc te : TE} {pos : Pos} {tg l : Expr} {tl : TE}
noncomputable def dEq (K : PySem.W.Frag) (n : Bool) : R2 := fun x y H Q => ∃ (p q : Addr) (us us' : List V) (ds : List PyData), x = .ref p ∧ y = .ref q ∧ ((SqT K H p us ∧ SqT K H q us') ∨ (SqL K H p us ∧ SqL K H q us')) ∧ DenL K H us ds ∧ DenL K H us' ds ∧ PyData.depthAll ds ≤ 149 ∧ Q (.bl (!n)) H
theorem items_eq {pins : List (Addr × Obj)} {σ : St} {H : Hp} {s : Shared} (I : Inv X pins σ H s) {A : Around} {us us' : List V} {ds : List PyData} {its its' : List Value} (hl : DenL X.K H us ds) (hl' : DenL X.K H us' ds) (rv : Vals us its) (rv' : Vals us' its') (hd : PyData.depthAll ds ≤ 149) (hu : A.units + 150 < cLine) :
    ∀ j (h1 : j < its.toArray.size) (h2 : j < its'.toArray.size), SeqAt.EqAt A.in1 s its.toArray[j] its'.toArray[j] true := fun j h1 h2 => by
  have l1 := rv.length
  have l2 := rv'.length
  have l3 := hl.length
  have l4 := hl'.length
  have h1 : j < its.length := by simpa using h1
  have h2 : j < its'.length := by simpa using h2
  have x1 : us[j]? = some us[j] := List.getElem?_eq_getElem (by omega)
  have x2 : us'[j]? = some us'[j] := List.getElem?_eq_getElem (by omega)
  obtain ⟨d, e1, d1⟩ := hl.get x1
  obtain ⟨d', e2, d2⟩ := hl'.get x2
  rw [e1] at e2; cases e2
  obtain ⟨w1, y1, z1⟩ := rv.get x1
  obtain ⟨w2, y2, z2⟩ := rv'.get x2
  have q1 : its.toArray[j] = w1 := by
    have := List.getElem?_eq_getElem h1
    rw [y1] at this
    simpa using (Option.some.inj this).symm
  have q2 : its'.toArray[j] = w2 := by
    have := List.getElem?_eq_getElem h2
    rw [y2] at this
    simpa using (Option.some.inj this).symm
  rw [q1, q2]
  exact eq_same I 149 A.in1 d _ _ _ _ (Nat.le_trans (depthAll_get e1) hd) (by show A.units + 1 + 149 < cLine; omega) d1 d2 z1 z2
theorem ko_eqD (K : PySem.W.Frag) (hK : X.K = K) (hu : X.A.units + 150 < cLine) : OpR X (compareOp .Eq) (dEq K false) := by
  subst hK
  intro pins s σ H x y v u Q I rx ry h
  obtain ⟨p, q, us, us', ds, rfl, rfl, h, hl, hl', hd, k⟩ := h
  cases rx
  cases ry
  rcases h with ⟨hs, hs'⟩ | ⟨hs, hs'⟩
  · obtain ⟨its, rv, p1, _⟩ := I.tuple hs
    obtain ⟨its', rv', p2, _⟩ := I.tuple hs'
    have e3 : its.toArray.size = its'.toArray.size := by simp only [List.size_toArray]; rw [← rv.length, ← rv'.length, hl.length, hl'.length]
    refine SeqAt.eq_tupleAt (e := fun _ => true) (show s.heap.IsTuple p its.toArray from p1) (show s.heap.IsTuple q its'.toArray from p2) (by omega) (items_eq I hl hl' rv rv' hd hu) ?_
    rw [e3]
    exact ⟨.bl true, H, I, by simp [RelV], k⟩
  · obtain ⟨its, rv, p1, _⟩ := I.list hs
    obtain ⟨its', rv', p2, _⟩ := I.list hs'
    have e3 : its.toArray.size = its'.toArray.size := by simp only [List.size_toArray]; rw [← rv.length, ← rv'.length, hl.length, hl'.length]
    refine SeqAt.eq_listAt (e := fun _ => true) p1.isList p2.isList e3 (by omega) (items_eq I hl hl' rv rv' hd hu) ?_
    exact ⟨.bl true, H, I, by simp [RelV], k⟩
theorem ko_neD (K : PySem.W.Frag) (hK : X.K = K) (hu : X.A.units + 150 < cLine) : OpR X (compareOp .NotEq) (dEq K true) := by
  subst hK
  intro pins s σ H x y v u Q I rx ry h
  obtain ⟨p, q, us, us', ds, rfl, rfl, h, hl, hl', hd, k⟩ := h
  cases rx
  cases ry
  rcases h with ⟨hs, hs'⟩ | ⟨hs, hs'⟩
  · obtain ⟨its, rv, p1, _⟩ := I.tuple hs
    obtain ⟨its', rv', p2, _⟩ := I.tuple hs'
    have e3 : its.toArray.size = its'.toArray.size := by simp only [List.size_toArray]; rw [← rv.length, ← rv'.length, hl.length, hl'.length]
    refine SeqAt.RcNeAt.tuples (e := fun _ => true) (show s.heap.IsTuple p its.toArray from p1) (show s.heap.IsTuple q its'.toArray from p2) (by omega) (items_eq I hl hl' rv rv' hd hu) X.prog X.w _ _ ?_
    rw [e3]
    exact ⟨.bl false, H, I, by simp [RelV], k⟩
  · obtain ⟨its, rv, p1, _⟩ := I.list hs
    obtain ⟨its', rv', p2, _⟩ := I.list hs'
    have e3 : its.toArray.size = its'.toArray.size := by simp only [List.size_toArray]; rw [← rv.length, ← rv'.length, hl.length, hl'.length]
    refine SeqAt.RcNeAt.lists (e := fun _ => true) p1.isList p2.isList e3 (by omega) (items_eq I hl hl' rv rv' hd hu) X.prog X.w _ _ ?_
    exact ⟨.bl false, H, I, by simp [RelV], k⟩
theorem room150 {k : Nat} {A : Around} (hr : Room k A) : A.units + 150 < cLine := by have := hr.un; omega
noncomputable def mSlL (K : PySem.W.Frag) : V → Option Int → Option Int → Hp → VK → Prop := fun x lo hi H Q => ∃ a xs, x = .ref a ∧ SqL K H a xs ∧ ∀ p, H p = none → Q (.ref p) (upd H p (.lst (cutV xs lo hi)))
theorem ks_list (K : PySem.W.Frag) (h : X.K = K) : SlR X (mSlL K) := h ▸ sl_list
noncomputable def mTup (K : PySem.W.Frag) : List V → Hp → VK → Prop := fun vs H Q => ∃ p ys, vs = [.ref p] ∧ ((SqL K H p ys ∧ ∀ l, H l = none → Q (.ref l) (upd H l (.tup ys))) ∨ (SqT K H p ys ∧ Q (.ref p) H))
theorem kc_tuple (K : PySem.W.Frag) (h : X.K = K) : CallR X (.type "tuple") (mTup K) := h ▸ call_tuple_of
noncomputable def mLst (K : PySem.W.Frag) : List V → Hp → VK → Prop := fun vs H Q => ∃ p ys, vs = [.ref p] ∧ (SqL K H p ys ∨ SqT K H p ys) ∧ ∀ l, H l = none → Q (.ref l) (upd H l (.lst ys))
theorem kc_list (K : PySem.W.Frag) (h : X.K = K) : CallR X (.type "list") (mLst K) := h ▸ call_list_of
noncomputable def mMin : List V → Hp → VK → Prop := fun vs H Q => ∃ i j, vs = [.int i, .int j] ∧ Q (.int (if j < i then j else i)) H
theorem mc_min (hc : X.calm = true) : CallR X (.builtin "min") mMin := call_min2 hc
noncomputable def mMax : List V → Hp → VK → Prop := fun vs H Q => ∃ i j, vs = [.int i, .int j] ∧ Q (.int (if j > i then j else i)) H
end
open PySem.AutoSeq1 in
open PySem.MeetsSeq PySem.MeetsSeq2 PySem.MeetsSeq3 in
theorem extend_tup (l : Addr) (items : Array Value) (n : Nat) (b : Addr) (items2 : Array Value) (n2 : Nat) (dd : Option Addr) (sl : Array (Option Value)) (hs0 : ¬(!items.isEmpty && Builtin.List.listTooLong (items.size + items2.size)) = true) (hs1 : items.size ≤ sizeLine) (hs2 : items.size + items2.size ≤ sizeLine + 1) :
    Meets (Builtin.«list.extend» ⟨[.ref l, .ref b], []⟩) (fun _ R s => s.heap.get? l = some { cls := .type "list", dict := none, data := .seq items n, slots := #[] } ∧ s.heap.get? b = some { cls := .type "tuple", dict := dd, data := .seq items2 n2, slots := sl } ∧
      R (.ok (.ret Value.none)) { s with heap := s.heap.update l (Obj.mapSeq fun x => x ++ items2), toks := s.toks }) :=
  .of_wp fun prog w A R s h => by
    obtain ⟨hp, g, d, tk, os⟩ := s
    obtain ⟨hl, hb, h⟩ := h
    have f1 := idx_int
    have f2 := PySem.AutoSeq1.sub_tuple_tuple
    have f3 := PySem.AutoSeq1.sub_list_list
    have f4 := PySem.AutoSeq1.sub_tuple_list
    have f5 := PySem.AutoSeq1.sub_list_tuple
    have hz' : (items ++ items2).size ≤ sizeLine + 1 := by rw [Array.size_append]; exact hs2
    wp_walk using (wpAny_updateSeq hl rfl (hz := hs1) (_hz' := hz')), wpAny_loadPart' hl, wpAny_loadPart' hb
    exact ⟨_, rfl, h⟩
section
variable {X : Cx}
noncomputable def mExt (K : PySem.W.Frag) : V → List V → Hp → VK → Prop := fun x vs H Q => ∃ l b xs zs, x = .ref l ∧ vs = [.ref b] ∧ H l = some (.lst xs) ∧ (H b = some (.lst zs) ∨ SqT K H b zs) ∧ xs.length + zs.length ≤ sizeLine ∧ Q .non (upd H l (.lst (xs ++ zs)))
theorem km_extend (K : PySem.W.Frag) (hK : X.K = K) : MtR X "list.extend" (mExt K) := by
  subst hK
  intro pins s σ H x vs v us Q I rx rv h
  obtain ⟨l, b, xs, zs, e1, e2, hH, hB, hz, q⟩ := h
  rcases hB with hB | hB
  · exact mt_extend pins s σ H x vs v us Q I rx rv ⟨l, b, xs, zs, e1, e2, hH, hB, hz, q⟩
  · subst e1 e2
    cases rx
    obtain ⟨u, rfl, ru⟩ := rv.one
    cases ru
    obtain ⟨z, its, n, r, hl, e⟩ := I.lstM hH
    obtain ⟨its2, r2, pl, z2⟩ := I.tuple hB
    obtain ⟨⟨cls, dd, data, sl⟩, ho, hc, n2, hd⟩ := pl
    simp only at hc hd
    subst hc hd
    have hl2 := r2.length
    have hsz : its.toArray.size + its2.toArray.size ≤ sizeLine := by rw [List.size_toArray, List.size_toArray]; omega
    have hlong : ¬ (!its.toArray.isEmpty && Builtin.List.listTooLong (its.toArray.size + its2.toArray.size)) = true := by
      rw [notLongL hsz, Bool.and_false]
      exact Bool.false_ne_true
    refine call_meets F.slot_list_extend ⟨_, e, rfl⟩ F.entry_list_extend (F.args_list_extend_2 _ _) (extend_tup l its.toArray n b its2.toArray n2 dd sl hlong (by rw [List.size_toArray]; omega) (by omega)) ⟨e, ho, ?_⟩
    refine ⟨.non, _, I.lset (its' := its ++ its2) hH e (by simp) (r.append r2) ?_, rfl, q⟩
    rw [List.length_append]
    omega
end
section
variable {prog : Program} {w : World} {A : Around} {E : Value → Shared → Prop} {s : Shared}
theorem getItem_tuple_all {t sl : Addr} {items : Array Value} {vl vu : Value} {lo hi : Option Int} {Q : Value → Shared → Prop} (ht : IsTup s.heap t items) (hs : s.heap.IsSliceOf sl vl vu .none) (pl : IsPart vl lo) (pu : IsPart vu hi)
    (hw : HT.sIx items.size 0 lo = 0 ∧ HT.sIx items.size items.size hi = items.size) (h : Q (.ref t) s) : wpAny (model prog w) A (getItem (.ref t) (.ref sl)) Q E s := by
  obtain ⟨os, hos, hcs, hds⟩ := id hs
  have hTs : s.TypeIs (.ref sl) "slice" := ⟨os, hos, hcs⟩
  unfold getItem
  try with_reducible refine wpAny_holding ?_
  first | refine wpAny_bind (wpAny_pure ?_) | skip
  refine wpAny_bind (wpAny_sequenceKey ht.typeIs (by decide) ?_)
  refine wpAny_bind (wpAny_callSpecial?_slot (name := Str.ofString "__getitem__") ht.typeIs PyProof.Rows.slot_tuple_getitem
    (wpAny_call_entry PyProof.Rows.slot_tuple_getitem ht.typeIs entry_tuple_getitem ?_ (args_tuple_getitem _ _)))
  show wpAny _ _ (Builtin.Tuple.tupleItemsOf (.ref t) >>= _) _ _ s
  refine wpAny_bind (tupleItemsOf_ ht ?_)
  refine wpAny_bind (wpAny_typeOf hTs ?_)
  rw [if_pos (by decide)]
  refine wpAny_bind (HT.sliceApplied_gen hs pl pu ?_)
  show wpAny _ _ (if (((HT.sIx items.size 0 lo : Nat) : Int) == 0 && (1 : Int) == 1 && (HT.sIx items.size items.size hi - HT.sIx items.size 0 lo) == items.size) = true then _ else _) _ _ s
  rw [if_pos (by rw [hw.1, hw.2]; simp)]
  refine wpAny_bind ?_
  unfold Builtin.Tuple.tupleIsExact
  refine wpAny_bind (wpAny_typeOf ht.typeIs (wpAny_pure ?_))
  rw [if_pos (by decide)]
  exact wpAny_bind (wpAny_rule (wpAny_pure ⟨_, rfl, wpAny_pure h⟩))
end
section
variable {X : Cx}
noncomputable def wholeT (xs : List V) (lo hi : Option Int) : Prop := HT.sIx xs.length 0 lo = 0 ∧ HT.sIx xs.length xs.length hi = xs.length
noncomputable def mSlT (K : PySem.W.Frag) : V → Option Int → Option Int → Hp → VK → Prop := fun x lo hi H Q => ∃ a xs, x = .ref a ∧ SqT K H a xs ∧ (wholeT xs lo hi → Q (.ref a) H) ∧ (¬ wholeT xs lo hi → ∀ p, H p = none → Q (.ref p) (upd H p (.tup (cutV xs lo hi))))
theorem ks_tup (K : PySem.W.Frag) (hK : X.K = K) : SlR X (mSlT K) := by
  subst hK
  intro pins s σ H x v vl vu lo hi sl Q I rx hs pl pu h
  obtain ⟨a, xs, rfl, hx, h1, h2⟩ := h
  by_cases hw : wholeT xs lo hi
  · cases rx
    obtain ⟨its, r, ht, hz⟩ := I.tuple hx
    have hlen : its.toArray.size = xs.length := by rw [List.size_toArray]; exact r.length.symm
    exact ⟨"tuple", _, PyProof.Rows.slot_tuple_getitem.lookup, ht.typeIs, getItem_tuple_all ht hs pl pu (by rw [hlen]; exact hw) ⟨.ref a, H, I, rfl, h1 hw⟩⟩
  · exact sl_tup pins s σ H _ v vl vu lo hi sl Q I rx hs pl pu ⟨a, xs, rfl, hx, hw, h2 hw⟩
end
section
variable {σ : St} {H : Hp} {D : Ends} {t : TS} {c : TT}
noncomputable def WhileW (c : TT) (t : TS) (D : Ends) (σ : St) (H : Hp) : Prop := tWhile c t D σ H
theorem tWhile_i (k : WhileW c t D σ H) : tWhile c t D σ H := k
theorem while_row (Pv : Nat → St → Hp → Prop) (n : Nat) (h0 : Pv n σ H)
    (hs : ∀ n σ H (R : Bool → Hp → Prop), Pv n σ H → (∀ H1, (∀ (D' : Ends), D'.rt = D.rt → D'.bk = D.nx → (∀ σ' H' m, m < n → Pv m σ' H' → D'.nx σ' H') → (∀ σ' H' m, m < n → Pv m σ' H' → D'.ct σ' H') → t D' σ H1) → R true H1) → (∀ H1, D.nx σ H1 → R false H1) → c σ H R) : WhileW c t D σ H := by
  refine ⟨Pv, ⟨n, h0⟩, fun m σ H p => ?_⟩
  refine hs m σ H _ p (fun H1 k => ?_) (fun H1 k => k)
  exact ⟨fun σ' H' => ∃ m', m' < m ∧ Pv m' σ' H', fun _ _ h => h, k _ rfl rfl (fun _ _ m' hm hp => ⟨m', hm, hp⟩) (fun _ _ m' hm hp => ⟨m', hm, hp⟩)⟩
end
end L2
set_option Elab.async false
set_option linter.all false
set_option maxRecDepth 100000
set_option maxHeartbeats 4000000
namespace L2
open PySem PySem.Spec PyProof.Rows
theorem kit_ty {K : PySem.W.Frag} {T n : String} {b : Bool} (h : (if (Value.type T == Value.type n) = true then some true else if PySem.W.kitMeta n = true then (fastBuiltinMro T).map (·.contains (.type n)) else none) = some b) : PySem.W.kitOne K (.type T) (.type n) = some b := h
section
variable {X : Cx} {a : Expr} {ta : TE}
noncomputable def tyN (K : PySem.W.Frag) (H : Hp) : V → String → Prop
  | .non, T => T = "NoneType"
  | .bl _, T => T = "bool"
  | .int _, T => T = "int"
  | .str _, T => T = "str"
  | .ref p, T => (T = "list" ∧ ∃ xs, SqL K H p xs) ∨ (T = "tuple" ∧ ∃ xs, SqT K H p xs) ∨ (T = "dict" ∧ ∃ kvs, H p = some (.dK kvs))
  | _, _ => False
noncomputable def mIs (K : PySem.W.Frag) : List V → Hp → VK → Prop := fun vs H Q => ∃ x n T b, vs = [x, .ty n] ∧ tyN K H x T ∧ (∀ K' : PySem.W.Frag, PySem.W.kitOne K' (.type T) (.type n) = some b) ∧ Q (.bl b) H
theorem kc_is (K : PySem.W.Frag) (hK : X.K = K) : CallR X (.builtin "isinstance") (mIs K) := by
  subst hK
  intro pins s σ H xs us Q I r h
  obtain ⟨x, n, T, b, rfl, ht, hk, q⟩ := h
  obtain ⟨u, w', rfl, r1, r2⟩ := vals2 r
  cases r2
  have fin : ∀ tk, EP X pins σ Q (.bool b) { s with toks := tk } := fun tk => ⟨.bl b, H, I.tok _, rfl, q⟩
  cases x with
  | non => cases ht; exact isinst_ok I r1 .non (hk _) fin
  | bl y => cases ht; exact isinst_ok I r1 (.bl y) (hk _) fin
  | int i => cases ht; exact isinst_ok I r1 (.int i) (hk _) fin
  | str z => cases ht; exact isinst_ok I r1 (.str z) (hk _) fin
  | ref p =>
    cases r1
    rcases ht with ⟨rfl, xs, hs⟩ | ⟨rfl, xs, hs⟩ | ⟨rfl, kvs, hs⟩
    · obtain ⟨its, _, ⟨o, n', h1, h2, _⟩, _⟩ := I.list hs
      exact PySem.W.kia_one PySem.W.kitx_list I.kIn ⟨o, h1, h2⟩ (hk _) (fun z => nomatch z) fin
    · obtain ⟨its, _, ⟨o, h1, h2, _⟩, _⟩ := I.tuple hs
      exact PySem.W.kia_one PySem.W.kitx_tuple I.kIn ⟨o, h1, h2⟩ (hk _) (fun z => nomatch z) fin
    · exact isinst_ok (x := .ref p) I rfl (.dK hs) (hk _) fin
  | _ => exact (show False from ht).elim
end
section
variable {K : PySem.W.Frag} {H : Hp} {Q : VK} {i : Int} {p : Str} {b : Bool} {a : Addr} {xs : List V}
theorem is_str (k : Q (.bl true) H) : mIs K [.str p, .ty "str"] H Q := ⟨_, _, _, true, rfl, rfl, fun _ => kit_same _ _, k⟩
theorem is_int (k : Q (.bl true) H) : mIs K [.int i, .ty "int"] H Q := ⟨_, _, _, true, rfl, rfl, fun _ => kit_same _ _, k⟩
theorem is_bool (k : Q (.bl true) H) : mIs K [.bl b, .ty "bool"] H Q := ⟨_, _, _, true, rfl, rfl, fun _ => kit_same _ _, k⟩
theorem is_int_bool (k : Q (.bl false) H) : mIs K [.int i, .ty "bool"] H Q := ⟨_, _, _, false, rfl, rfl, fun _ => kit_ty (by decide +kernel), k⟩
theorem is_tup (c : SqT K H a xs) (k : Q (.bl true) H) : mIs K [.ref a, .ty "tuple"] H Q := ⟨_, _, _, true, rfl, .inr (.inl ⟨rfl, xs, c⟩), fun _ => kit_same _ _, k⟩
theorem atI_mem {α : Type} {xs : List α} {i : Int} {v : α} (h : atI xs i = some v) : v ∈ xs := by
  obtain ⟨j, _, e, _⟩ := atI_get h
  exact List.mem_of_getElem? e
theorem ints_at {ns : List Int} {i : Int} {v : V} (h : atI (ns.map V.int) i = some v) : ∃ n, v = .int n := by
  have := atI_mem h
  obtain ⟨n, _, e⟩ := List.mem_map.mp this
  exact ⟨n, e.symm⟩
theorem mSlL_i {lo hi : Option Int} (c : SqL K H a xs) (k : ∀ p, H p = none → Q (.ref p) (upd H p (.lst (cutV xs lo hi)))) : mSlL K (.ref a) lo hi H Q := ⟨a, xs, rfl, c, k⟩
theorem mTup_l (c : SqL K H a xs) (k : ∀ l, H l = none → Q (.ref l) (upd H l (.tup xs))) : mTup K [.ref a] H Q := ⟨a, xs, rfl, .inl ⟨c, k⟩⟩
theorem mTup_t (c : SqT K H a xs) (k : Q (.ref a) H) : mTup K [.ref a] H Q := ⟨a, xs, rfl, .inr ⟨c, k⟩⟩
theorem mLst_l (c : SqL K H a xs) (k : ∀ l, H l = none → Q (.ref l) (upd H l (.lst xs))) : mLst K [.ref a] H Q := ⟨a, xs, rfl, .inl c, k⟩
theorem mMin_i {j : Int} (k : Q (.int (if j < i then j else i)) H) : mMin [.int i, .int j] H Q := ⟨i, j, rfl, k⟩
theorem mExt_t {zs : List V} {l : Addr} (e : H l = some (.lst xs)) (c : SqT K H a zs) (z : xs.length + zs.length ≤ sizeLine) (k : Q .non (upd H l (.lst (xs ++ zs)))) : mExt K (.ref l) [.ref a] H Q := ⟨l, a, xs, zs, rfl, rfl, e, .inr c, z, k⟩
theorem mPop_i {l : Addr} {v : V} (e : H l = some (.lst (xs ++ [v]))) (k : Q v (upd H l (.lst xs))) : mPop (.ref l) [] H Q := ⟨xs, v, e, k⟩
theorem mAdd_l {q : Addr} {ys : List V} (e1 : H a = some (.lst xs)) (e2 : H q = some (.lst ys)) (z : xs.length + ys.length ≤ sizeLine) (k : ∀ d, H d = none → Q (.ref d) (upd H d (.lst (xs ++ ys)))) : mAdd K (.ref a) (.ref q) H Q := .inl ⟨xs, ys, e1, e2, z, k⟩
theorem iRng2_i {σ : St} {ta : TA} {R : It → Hp → Prop} (k : ta σ H fun vs H1 => ∃ i j : Int, vs = [.int i, .int j] ∧ (-(2 ^ 62) ≤ i ∧ i < 2 ^ 62 ∧ -(2 ^ 62) ≤ j ∧ j < 2 ^ 62) ∧ R (Itr i (j - i).toNat) H1) : iRng2 ta σ H R := k
end
end L2
set_option Elab.async false
set_option linter.all false
set_option maxRecDepth 100000
set_option maxHeartbeats 4000000
namespace L2
open PySem PySem.Spec PyProof.Rows
section
variable {X : Cx}
theorem preSum_eq (ns : List Int) : ∀ n, n ≤ ns.length → preSum (fun i => ns.getD i 0) n = (ns.take n).sum
  | 0, _ => by simp [preSum]
  | n + 1, h => by
    have hn : n < ns.length := by omega
    rw [preSum, preSum_eq ns n (by omega), List.take_add_one, List.sum_append, List.getElem?_eq_getElem hn, List.getD_eq_getElem?_getD, List.getElem?_eq_getElem hn]
    simp
noncomputable def mSum (K : PySem.W.Frag) : List V → Hp → VK → Prop := fun vs H Q => ∃ (p : Addr) (ns : List Int), vs = [.ref p] ∧ SqL K H p (ns.map V.int) ∧ (∀ n ∈ ns, 0 ≤ n) ∧ ns.sum < 2 ^ 62 ∧ Q (.int ns.sum) H
theorem sum_nn : ∀ {ns : List Int}, (∀ n ∈ ns, 0 ≤ n) → 0 ≤ ns.sum
  | [], _ => by simp
  | a :: r, h => by
    have h1 := h a List.mem_cons_self
    have h2 := sum_nn (ns := r) fun n hn => h n (List.mem_cons_of_mem _ hn)
    rw [List.sum_cons]; omega
theorem kc_sum (K : PySem.W.Frag) (hK : X.K = K) (hc : X.calm = true) : CallR X (.builtin "sum") (mSum K) := by
  subst hK
  intro pins s σ H xs us Q I r h
  obtain ⟨p, ns, rfl, hs, hn, hm, q⟩ := h
  obtain ⟨u, rfl, r1⟩ := vals1 r
  cases r1
  obtain ⟨its, rv, pl, hz⟩ := I.list hs
  have hi : IntsAre its ns := intsAre_of rv
  have hlen : its.length = ns.length := hi.length
  have hl : p < s.heap.objs.size := by
    obtain ⟨o, n, h1, _⟩ := pl
    exact Heap.lt_size h1
  have part : ∀ j, j ≤ ns.length → 0 ≤ (ns.take j).sum ∧ (ns.take j).sum ≤ ns.sum := fun j hj => by
    have e := List.take_append_drop j ns
    have h1 := sum_nn (ns := ns.take j) fun n hm => hn n (List.mem_of_mem_take hm)
    have h2 := sum_nn (ns := ns.drop j) fun n hm => hn n (List.mem_of_mem_drop hm)
    have h3 : (ns.take j ++ ns.drop j).sum = ns.sum := by rw [e]
    rw [List.sum_append] at h3
    omega
  refine call_sum_walk (wpAny_pyIter_list pl.isList ?_)
  refine ⟨s.heap.objs.size, [s.heap.objs.size, p], [s.heap.objs.size], its.toArray.size, _, _, fun i => ns.getD i 0, rfl, Walks.list (A := X.A.in1) (show X.A.in1.handled = none from I.ok.hd hc) s.heap.objs.size p (Nat.ne_of_lt hl) its.toArray,
    ⟨⟨_, Heap.get?_push_size _ rfl, rfl, rfl⟩, pl.isList.at fun o e => Heap.get?_push_of_some _ e⟩, fun b hb => ?_, fun i v hv => ?_, fun j hj => ?_, fun h' tk t' hk => ?_⟩
  · rw [Heap.size_push]
    simp only [List.mem_cons, List.not_mem_nil, or_false] at hb
    rcases hb with rfl | rfl
    · exact Nat.lt_succ_self _
    · exact Nat.lt_succ_of_lt hl
  · have hv : its.toArray[i]? = some v := hv
    rw [List.getElem?_toArray] at hv
    have hil : i < ns.length := by
      have := (List.getElem?_eq_some_iff.mp hv).1
      omega
    have x1 : (ns.map V.int)[i]? = some (.int ns[i]) := by rw [List.getElem?_map, List.getElem?_eq_getElem hil]; rfl
    obtain ⟨w, e1, e2⟩ := rv.get x1
    rw [e1] at hv
    cases hv
    obtain ⟨t, rfl⟩ := e2
    refine ⟨t, ?_⟩
    show Value.int ns[i] t = Value.int (ns.getD i 0) t
    rw [List.getD_eq_getElem?_getD, List.getElem?_eq_getElem hil]
    rfl
  · have hj : j < ns.length := by simpa [hlen] using hj
    have h1 := part (j + 1) (by omega)
    have h3 : 0 ≤ ns.getD j 0 ∧ ns.getD j 0 ≤ ns.sum := by
      have e : (ns.take (j + 1)).sum = (ns.take j).sum + ns.getD j 0 := by
        rw [List.take_add_one, List.sum_append, List.getElem?_eq_getElem hj, List.getD_eq_getElem?_getD, List.getElem?_eq_getElem hj]
        simp
      have h0 := part j (by omega)
      have h4 : 0 ≤ ns.getD j 0 := by
        rw [List.getD_eq_getElem?_getD, List.getElem?_eq_getElem hj]
        exact hn _ (List.getElem_mem hj)
      omega
    rw [preSum_eq ns (j + 1) (by omega)]
    show InLong (ns.getD j 0) ∧ _
    unfold InLong
    omega
  · have e : preSum (fun i => ns.getD i 0) its.toArray.size = ns.sum := by
      rw [List.size_toArray, hlen, preSum_eq ns _ (Nat.le_refl _), List.take_length]
    rw [e]
    refine ⟨.int _, H, I.kept (fun b o e => hk b o ?_ (Heap.get?_push_of_some _ e)), ⟨_, rfl⟩, q⟩
    intro z
    have z : b = s.heap.objs.size := by simpa using z
    exact absurd (Heap.lt_size e) (by rw [z]; exact Nat.lt_irrefl _)
end
noncomputable abbrev one (c : Nat) : Str := ⟨#[c]⟩
noncomputable abbrev sp_l_cells (K : PySem.W.Frag) : Sp := fun vs H Q _ => match vs with
  | [.ref a, .int at_, .int m] => ∃ ns : List Int, SqL K H a (ns.map V.int) ∧ ns.length ≤ 63 ∧ 0 ≤ at_ ∧ at_ ≤ 100 ∧ 0 ≤ m ∧ m ≤ 100 ∧ ∀ (p : Addr) (cs : List Int) (H' : Hp), cs.length ≤ m.toNat → Same H H' → H' p = some (.lst (cs.map V.int)) → Q (.ref p) H'
  | _ => False
noncomputable abbrev sp_l_whole : Sp := fun vs H Q _ => match vs with | [.int n] => Q (.bl true) H | _ => False
theorem ln {n : Nat} (h : n ≤ 100000) : n ≤ sizeLine := by rw [sizeLine_eq]; omega
theorem ln1 {n : Nat} (h : n < 100000) : n < sizeLine := by rw [sizeLine_eq]; omega
end L2
set_option Elab.async false
set_option linter.all false
set_option maxRecDepth 100000
set_option maxHeartbeats 4000000
namespace L2
open PySem PySem.Spec PyProof.Rows
section
variable {X : Cx} {e : Expr} {te : TE} {pos : Pos}
noncomputable def mAug (i : Nat) (te : TE) (ti : TIp) : TS := fun D σ H => ∃ x, σ[i]? = some (some x) ∧ te σ H fun y H1 => ti x y H1 fun z H2 => D.nx (σ.set i (some z)) H2
theorem mps_aug {i : Nat} {x : Str} {op : Operator} {ti : TIp} {pos' : Pos} (hN : X.N.Nodup) (hi : X.N[i]? = some x) (hx : Loc X.env.scope x) (he : PE X e te) (ho : PIp X op ti) (hf : X.fn x = true ∨ X.env.scope.names.lookup x = some .local := by first | exact .inl rfl | exact .inr rfl | assumption) :
    PS X (.AugAssign (.Name x pos') op e pos) (mAug i te ti) := ps_aug hN hi hx he ho hf
noncomputable def mIAdd : TIp := fun x y H Q => match x, y with
  | .int i, .int j => Q (.int (i + j)) H
  | .str i, .str j => i.length + j.length ≤ sizeLine ∧ Q (.str (i ++ j)) H
  | _, _ => False
theorem mi_add : PIp X .Add mIAdd := by
  intro pins s σ H x y v u Q I rx ry h
  refine (OpR.or iop_add iop_add_str) pins s σ H x y v u Q I rx ry ?_
  cases x <;> cases y <;> first
    | exact (show False from h).elim
    | exact .inl ⟨_, _, rfl, rfl, h⟩
    | exact .inr ⟨_, _, rfl, rfl, h.1, h.2⟩
end
section
variable {σ : St} {H : Hp} {Q : VK} {D : Ends} {te : TE} {n : Nat} {v : V} {i j : Int}
theorem mAug_i {ti : TIp} (h : σ[n]? = some (some v)) (k : te σ H fun y H1 => ti v y H1 fun z H2 => D.nx (σ.set n (some z)) H2) : mAug n te ti D σ H := ⟨v, h, k⟩
theorem mIAdd_i (k : Q (.int (i + j)) H) : mIAdd (.int i) (.int j) H Q := k
end
inductive Trm where
  | num (n : Int)
  | any (x : Str)
  | app (sg : Str) (ks : List Trm)
noncomputable abbrev numS : Str := Str.ofString "num"
noncomputable abbrev anyS : Str := Str.ofString "any"
noncomputable abbrev appS : Str := Str.ofString "app"
mutual
noncomputable def Trm.data : Trm → PyData
  | .num n => .tuple [.str numS, .int n]
  | .any x => .tuple [.str anyS, .str x]
  | .app sg ks => .tuple [.str appS, .str sg, .tuple (Trm.dataL ks)]
noncomputable def Trm.dataL : List Trm → List PyData
  | [] => []
  | t :: r => t.data :: Trm.dataL r
end
mutual
noncomputable def Trm.size : Trm → Nat
  | .num _ => 1
  | .any _ => 1
  | .app _ ks => 1 + Trm.sizeL ks
noncomputable def Trm.sizeL : List Trm → Nat
  | [] => 0
  | t :: r => t.size + Trm.sizeL r
end
theorem Trm.size_pos : ∀ t : Trm, 1 ≤ t.size
  | .num _ => Nat.le_refl 1
  | .any _ => Nat.le_refl 1
  | .app _ ks => by unfold Trm.size; omega
theorem Trm.dataL_map : ∀ ts : List Trm, Trm.dataL ts = ts.map Trm.data
  | [] => rfl
  | t :: r => by rw [Trm.dataL, Trm.dataL_map r, List.map_cons]
theorem Trm.sizeL_map : ∀ ts : List Trm, Trm.sizeL ts = (ts.map Trm.size).sum
  | [] => rfl
  | t :: r => by rw [Trm.sizeL, Trm.sizeL_map r, List.map_cons, List.sum_cons]
theorem Trm.sizeL_app (a b : List Trm) : Trm.sizeL (a ++ b) = Trm.sizeL a + Trm.sizeL b := by
  rw [Trm.sizeL_map, Trm.sizeL_map, Trm.sizeL_map, List.map_append, List.sum_append]
theorem Trm.len_le (ts : List Trm) : ts.length ≤ Trm.sizeL ts := by
  induction ts with
  | nil => simp
  | cons t r ih =>
    have := t.size_pos
    rw [Trm.sizeL, List.length_cons]; omega
section
variable {K : PySem.W.Frag} {H : Hp} {v : V}
theorem den_num {n : Int} (h : Den K H v (Trm.num n).data) : ∃ a, v = .ref a ∧ SqT K H a [.str numS, .int n] := by
  unfold Trm.data at h
  cases h with
  | tup hs hl =>
    cases hl with
    | cons h1 hl =>
      cases hl with
      | cons h2 hl =>
        cases hl
        cases h1
        cases h2
        exact ⟨_, rfl, hs⟩
theorem den_any {x : Str} (h : Den K H v (Trm.any x).data) : ∃ a, v = .ref a ∧ SqT K H a [.str anyS, .str x] := by
  unfold Trm.data at h
  cases h with
  | tup hs hl =>
    cases hl with
    | cons h1 hl =>
      cases hl with
      | cons h2 hl =>
        cases hl
        cases h1
        cases h2
        exact ⟨_, rfl, hs⟩
theorem den_app {sg : Str} {ks : List Trm} (h : Den K H v (Trm.app sg ks).data) : ∃ a b us, v = .ref a ∧ SqT K H a [.str appS, .str sg, .ref b] ∧ SqT K H b us ∧ DenL K H us (Trm.dataL ks) := by
  unfold Trm.data at h
  cases h with
  | tup hs hl =>
    cases hl with
    | cons h1 hl =>
      cases hl with
      | cons h2 hl =>
        cases hl with
        | cons h3 hl =>
          cases hl
          cases h1
          cases h2
          cases h3 with
          | tup hb hk => exact ⟨_, _, _, rfl, hs, hb, hk⟩
theorem num_den {a : Addr} {n : Int} (h : SqT K H a [.str numS, .int n]) : Den K H (.ref a) (Trm.num n).data := by
  unfold Trm.data
  exact .tup h (.cons (.str _) (.cons (.int _) .nil))
theorem any_den {a : Addr} {x : Str} (h : SqT K H a [.str anyS, .str x]) : Den K H (.ref a) (Trm.any x).data := by
  unfold Trm.data
  exact .tup h (.cons (.str _) (.cons (.str _) .nil))
theorem app_den {a b : Addr} {sg : Str} {ks : List Trm} {us : List V} (h : SqT K H a [.str appS, .str sg, .ref b]) (hb : SqT K H b us) (hk : DenL K H us (Trm.dataL ks)) : Den K H (.ref a) (Trm.app sg ks).data := by
  unfold Trm.data
  exact .tup h (.cons (.str _) (.cons (.str _) (.cons (.tup hb hk) .nil)))
theorem den_head {t : Trm} (h : Den K H v t.data) : ∃ a us ds, v = .ref a ∧ SqT K H a us ∧ DenL K H us ds ∧ t.data = .tuple ds := by
  cases t with
  | num n => unfold Trm.data at h ⊢; cases h with | tup hs hl => exact ⟨_, _, _, rfl, hs, hl, rfl⟩
  | any x => unfold Trm.data at h ⊢; cases h with | tup hs hl => exact ⟨_, _, _, rfl, hs, hl, rfl⟩
  | app sg ks => unfold Trm.data at h ⊢; cases h with | tup hs hl => exact ⟨_, _, _, rfl, hs, hl, rfl⟩
theorem DenL.snoc {us : List V} {ds : List PyData} {d : PyData} (h : DenL K H us (ds ++ [d])) : ∃ us' u, us = us' ++ [u] ∧ DenL K H us' ds ∧ Den K H u d := by
  induction ds generalizing us with
  | nil =>
    cases h with
    | cons h1 h2 =>
      cases h2
      exact ⟨[], _, rfl, .nil, h1⟩
  | cons x r ih =>
    cases h with
    | cons h1 h2 =>
      obtain ⟨us', u, rfl, a, b⟩ := ih h2
      exact ⟨_ :: us', u, rfl, .cons h1 a, b⟩
theorem DenL.at {us : List V} {ds : List PyData} {i : Int} {d : PyData} (h : DenL K H us ds) (e : atI ds i = some d) : ∃ u, atI us i = some u ∧ Den K H u d := by
  obtain ⟨j, h1, h2, h3, h4, h5⟩ := atI_get e
  have hl := h.length
  have hj : j < us.length := by omega
  obtain ⟨d', e1, e2⟩ := h.get (List.getElem?_eq_getElem hj)
  rw [h2] at e1
  cases e1
  refine ⟨us[j], ?_, e2⟩
  unfold atI at e ⊢
  rw [hl]
  cases q : ixN ds.length i with
  | none => rw [q] at e; cases e
  | some k =>
    rw [q] at e
    have := (ixN_seq q).1
    rw [h1] at this
    cases this
    exact List.getElem?_eq_getElem hj
end
end L2
set_option Elab.async false
set_option linter.all false
set_option maxRecDepth 100000
set_option maxHeartbeats 4000000
namespace L2
open PySem PySem.Spec PyProof.Rows
noncomputable def Itv (K : PySem.W.Frag) (a : Addr) (n : Nat) : It := ⟨fun i H => ∃ xs, SqL K H a xs ∧ xs.length = n ∧ i < n, fun i H x H' => H' = H ∧ ∀ xs, SqL K H a xs → xs[n - 1 - i]? = some x, fun i _ => i = n⟩
section
variable {X : Cx} {tg : Expr}
noncomputable def iRev (K : PySem.W.Frag) (ta : TA) : TI := fun σ H R => ta σ H fun vs H1 => ∃ a xs, vs = [.ref a] ∧ SqL K H1 a xs ∧ R (Itv K a xs.length) H1
end
theorem iRev_i {K : PySem.W.Frag} {σ : St} {H : Hp} {ta : TA} {R : It → Hp → Prop} (k : ta σ H fun vs H1 => ∃ a xs, vs = [.ref a] ∧ SqL K H1 a xs ∧ R (Itv K a xs.length) H1) : iRev K ta σ H R := k
end L2
set_option Elab.async false
set_option linter.all false
set_option maxRecDepth 100000
set_option maxHeartbeats 4000000
namespace L2
open PySem PySem.Spec PyProof.Rows
theorem dig_val (k : Nat) (h : k < 10) : (Nat.digitChar k).toNat = 48 + k := by
  have : k = 0 ∨ k = 1 ∨ k = 2 ∨ k = 3 ∨ k = 4 ∨ k = 5 ∨ k = 6 ∨ k = 7 ∨ k = 8 ∨ k = 9 := by omega
  rcases this with rfl | rfl | rfl | rfl | rfl | rfl | rfl | rfl | rfl | rfl <;> rfl
noncomputable def figsOf (n : Nat) : List Nat := (Nat.toDigits 10 n).map Char.toNat
theorem figs_lt {n : Nat} (h : n < 10) : figsOf n = [48 + n] := by
  unfold figsOf
  rw [Nat.toDigits_of_lt_base h, List.map_cons, List.map_nil, dig_val n h]
theorem figs_ge {n : Nat} (h : 10 ≤ n) : figsOf n = figsOf (n / 10) ++ [48 + n % 10] := by
  unfold figsOf
  rw [Nat.toDigits_of_base_le (by decide) h, List.map_append, List.map_cons, List.map_nil, dig_val _ (Nat.mod_lt _ (by decide))]
theorem figs_ok : ∀ n : Nat, (∀ y ∈ figsOf n, 48 ≤ y ∧ y ≤ 57) ∧ ∃ x r, figsOf n = x :: r ∧ (n ≠ 0 → x ≠ 48) := by
  intro n
  induction n using Nat.strongRecOn with
  | ind n ih =>
    by_cases h : n < 10
    · rw [figs_lt h]
      refine ⟨fun y hy => ?_, _, [], rfl, fun h0 => by omega⟩
      rw [List.mem_singleton.mp hy]; omega
    · have h : 10 ≤ n := by omega
      rw [figs_ge h]
      obtain ⟨h1, x, r, h2, h3⟩ := ih (n / 10) (by omega)
      refine ⟨fun y hy => ?_, x, r ++ [48 + n % 10], by rw [h2]; rfl, fun _ => h3 (by omega)⟩
      rcases List.mem_append.mp hy with hy | hy
      · exact h1 y hy
      · rw [List.mem_singleton.mp hy]; omega
theorem figs_str (n : Nat) : ((toString (n : Int) : String) : Str) = ⟨(figsOf n).toArray⟩ := text_ofNat n
section
variable {X : Cx}
noncomputable def mStr : List V → Hp → VK → Prop := fun vs H Q => match vs with
  | [.int i] => i.natAbs.log2 < 1920 ∧ Q (.str (toString i)) H
  | _ => False
theorem mc_str : CallR X (.type "str") mStr := by
  intro pins s σ H xs us Q I r h
  refine call_str_int pins s σ H xs us Q I r ?_
  unfold mStr at h
  split at h
  · exact ⟨_, rfl, h.1, h.2⟩
  · exact h.elim
theorem mMax_i {i j : Int} {H : Hp} {Q : VK} (k : Q (.int (if j > i then j else i)) H) : mMax [.int i, .int j] H Q := ⟨i, j, rfl, k⟩
end
end L2
set_option Elab.async false
set_option linter.all false
set_option maxRecDepth 100000
set_option maxHeartbeats 4000000
namespace L2
open PySem PySem.Spec PyProof.Rows
section
variable {X : Cx}
end
end L2
namespace L2
open PySem PySem.Spec PyProof.Rows
section
variable {X : Cx}
noncomputable def rDIn (n : Bool) : R2 := fun x y H Q => ∃ a o, y = .ref a ∧ DGet H a x o ∧ Q (.bl (n ^^ o.isSome)) H
theorem ko_ninD (hu : X.A.units + 1 < cLine) : OpR X (compareOp .NotIn) (rDIn true) := by
  intro pins s σ H x y v u Q I rx ry h
  obtain ⟨a, o, rfl, g, q⟩ := h
  cases ry
  exact d_notIn hu I g rx fun s3 I3 => ⟨.bl _, H, I3, rfl, by simpa using q⟩
end
section
variable {σ : St} {H : Hp} {Q : VK} {D : Ends} {td ty tx tv : TE}
theorem tDGet_i (k : td σ H fun x H1 => ty σ H1 fun y H2 => ∃ a v, x = .ref a ∧ DGet H2 a y (some v) ∧ Q v H2) : tDGet td ty σ H Q := k
theorem tDGet2_i (k : td σ H fun x H1 => ∃ a, x = .ref a ∧ IsD H1 a ∧ ty σ H1 fun y H2 => tx σ H2 fun z H3 => ∃ o, DGet H3 a y o ∧ Q (o.getD z) H3) : tDGet2 td ty tx σ H Q := k
theorem sDPut_i (k : tv σ H fun v H1 => td σ H1 fun x H2 => ty σ H2 fun y H3 => ∃ a H4, x = .ref a ∧ DPut H3 a y v H4 ∧ D.nx σ H4) : sDPut td ty tv D σ H := k
theorem tDisp_i {trs : List (TE × TE)} (k : ∀ p, H p = none → tPairs trs σ (upd H p (.dK [])) fun ps H2 => H2 p = some (.dK []) ∧ ∃ kvs : List (Key × V), ps = kvs.map (fun kv => (kV kv.1, kv.2)) ∧ kvs.length ≤ 15 ∧ Q (.ref p) (upd H2 p (.dK (mergeK [] kvs)))) : tDisp trs σ H Q := k
theorem tPairs_c {tk tv : TE} {r : List (TE × TE)} {R : List (V × V) → Hp → Prop} (k : tk σ H fun x H1 => tv σ H1 fun y H2 => tPairs r σ H2 fun ps H3 => R ((x, y) :: ps) H3) : tPairs ((tk, tv) :: r) σ H R := k
theorem tPairs_n {R : List (V × V) → Hp → Prop} (k : R [] H) : tPairs [] σ H R := k
end
end L2
set_option Elab.async false
set_option linter.all false
set_option maxRecDepth 100000
set_option maxHeartbeats 4000000
namespace L2
open PySem PySem.Spec PyProof.Rows
section
variable {X : Cx}
noncomputable def mIsN (n : Bool) : R2 := fun x y H Q => y = .non ∧ Q (.bl (n ^^ decide (x = .non))) H
theorem isN_non {n : Bool} {H : Hp} {Q : VK} (k : Q (.bl (!n)) H) : mIsN n .non .non H Q := ⟨rfl, by rw [decide_eq_true rfl, Bool.xor_true]; exact k⟩
theorem isN_ref {n : Bool} {a : Addr} {H : Hp} {Q : VK} (k : Q (.bl n) H) : mIsN n (.ref a) .non H Q := ⟨rfl, by rw [decide_eq_false (fun z => by cases z), Bool.xor_false]; exact k⟩
noncomputable def mInt : List V → Hp → VK → Prop := fun vs H Q => match vs with
  | [.int i] => Q (.int i) H
  | [.bl b] => Q (.int (if b then 1 else 0)) H
  | _ => False
theorem mInt_b {b : Bool} {H : Hp} {Q : VK} (k : Q (.int (if b then 1 else 0)) H) : mInt [.bl b] H Q := k
end
noncomputable def But (p : Addr) (H H' : Hp) : Prop := ∀ b o, b ≠ p → H b = some o → H' b = some o
theorem But.refl (p : Addr) (H : Hp) : But p H H := fun _ _ _ h => h
theorem Same.but {p : Addr} {H H' : Hp} (s : Same H H') : But p H H' := fun b o _ h => s b o h
theorem But.trans {p : Addr} {H H1 H2 : Hp} (a : But p H H1) (b : But p H1 H2) : But p H H2 := fun c o n h => b c o n (a c o n h)
theorem but_upd {p : Addr} {H : Hp} (o : HO) : But p H (upd H p o) := fun b u n h => by rw [upd_ne n]; exact h
theorem But.tup {K : PySem.W.Frag} {p : Addr} {H H' : Hp} {ys : List V} (e : But p H H') (hp : H p = some (.lst ys)) {a : Addr} {xs : List V} (h : SqT K H a xs) : SqT K H' a xs := by
  rcases h with (h | ⟨o, h⟩) | h
  · exact .inl (.inl (e _ _ (fun z => by subst z; rw [hp] at h; cases h) h))
  · exact .inl (.inr ⟨o, e _ _ (fun z => by subst z; rw [hp] at h; cases h) h⟩)
  · exact .inr h
theorem But.denL {K : PySem.W.Frag} {p : Addr} {H H' : Hp} {ys : List V} (e : But p H H') (hp : H p = some (.lst ys)) {v : List V} {d : List PyData} (h : DenL K H v d) : DenL K H' v d := h.monoT fun _ _ q => e.tup hp q
theorem cutV_map {α : Type} (f : α → V) (xs : List α) (lo hi : Option Int) : cutV (xs.map f) lo hi = ((xs.drop (HT.sIx xs.length 0 lo)).take (HT.sIx xs.length xs.length hi - HT.sIx xs.length 0 lo)).map f := by
  unfold cutV
  rw [List.length_map, ← List.map_drop, ← List.map_take]
theorem sIx_to (n : Nat) (m : Int) (h : 0 ≤ m) : HT.sIx n n (some m) = min m.toNat n := by
  unfold HT.sIx
  have e : ¬ (m < 0) := by omega
  simp only [e, if_false]
end L2
set_option Elab.async false
set_option linter.all false
set_option maxRecDepth 100000
set_option maxHeartbeats 4000000
namespace L2
open PySem PySem.Spec PyProof.Rows
section
variable {X : Cx} {pins : List (Addr × Obj)} {σ : St} {H : Hp} {s : Shared} {h' : Heap}
end
noncomputable def Ite (K : PySem.W.Frag) (a : Addr) (n : Nat) : It := ⟨fun i H => i < n ∧ ∃ xs, SqL K H a xs ∧ xs.length = n, fun i H v H' => ∃ T x, H T = none ∧ v = .ref T ∧ H' = upd H T (.tup [.int i, x]) ∧ ∀ xs, SqL K H a xs → xs[i]? = some x, fun i H => i = n ∧ ∃ xs, SqL K H a xs ∧ xs.length = n⟩
section
variable {X : Cx}
noncomputable def iEnum (K : PySem.W.Frag) (ta : TA) : TI := fun σ H R => ta σ H fun vs H1 => ∃ a xs, vs = [.ref a] ∧ SqL K H1 a xs ∧ R (Ite K a xs.length) H1
end
theorem iEnum_i {K : PySem.W.Frag} {σ : St} {H : Hp} {ta : TA} {R : It → Hp → Prop} (k : ta σ H fun vs H1 => ∃ a xs, vs = [.ref a] ∧ SqL K H1 a xs ∧ R (Ite K a xs.length) H1) : iEnum K ta σ H R := k
end L2
set_option Elab.async false
set_option linter.all false
set_option maxRecDepth 100000
set_option maxHeartbeats 4000000
namespace L2
open PySem PySem.Spec PyProof.Rows PySem.W
noncomputable def RawD (h : Heap) (a : Addr) (es : Array DictEntry) (ep : Nat) : Prop := ∃ o, h.get? a = some o ∧ o.ExactDict ∧ o.data = .dict es ep
theorem RawD.on {h h' : Heap} {a : Addr} {es : Array DictEntry} {ep : Nat} (x : RawD h a es ep) (k : ∀ o, h.get? a = some o → h'.get? a = some o) : RawD h' a es ep := let ⟨o, p, r⟩ := x; ⟨o, k o p, r⟩
theorem RawD.lt {h : Heap} {a : Addr} {es : Array DictEntry} {ep : Nat} (x : RawD h a es ep) : a < h.objs.size := let ⟨_, p, _⟩ := x; Heap.lt_size p
theorem RawD.ty {s : Shared} {a : Addr} {es : Array DictEntry} {ep : Nat} (x : RawD s.heap a es ep) : s.TypeIs (.ref a) "dict" := let ⟨o, p, c, _⟩ := x; ⟨o, p, c.1⟩
section
variable {prog : Program} {w : World} {A : Around} {E : Value → Shared → Prop} {s : Shared} {d : Addr} {es : Array DictEntry} {ep : Nat}
end
end L2
set_option Elab.async false
set_option linter.all false
set_option maxRecDepth 100000
set_option maxHeartbeats 4000000
namespace L2
open PySem PySem.Spec PyProof.Rows PySem.W
section
variable {X : Cx}
end
end L2
set_option Elab.async false
set_option linter.all false
set_option maxRecDepth 100000
set_option maxHeartbeats 4000000
namespace L2
open PySem PySem.Spec PyProof.Rows PySem.W
open PySem.AutoSeq1 (wpAny_loadPart')
noncomputable def EqIn (prog : Program) (w : World) (A : Around) (s : Shared) (y x : Value) : Prop := ∀ (E : Value → Shared → Prop) (Q : Bool → Shared → Prop), Q true s → wpAny (model prog w) A (eqBool y x) Q E s
section
variable {prog : Program} {w : World} {A : Around} {E : Value → Shared → Prop} {s : Shared}
theorem EqIn.at {y x : Value} (h : SeqAt.EqAt A s y x true) : EqIn prog w A s y x := fun E Q q => h prog w E Q q
variable {K : Type} [DecidableEq K] {knd : HeapKind prog w K}
end
section
variable {X : Cx}
end
end L2
set_option Elab.async false
set_option linter.all false
set_option maxRecDepth 100000
set_option maxHeartbeats 4000000
namespace L2
open PySem PySem.Spec PyProof.Rows PySem.W
section
variable {X : Cx}
theorem kpg_tup (K : PySem.W.Frag) (hK : X.K = K) {pos : Pos} {es : List Expr} {k : Nat} {t : TGs} {n : Nat} (hc : X.calm = true) (h : PGs X es t)
    (hn : (assignEach es X.env).length = n := by rfl) (hst : (assignEach es X.env).findIdx? (·.1) = none := by rfl) : PG X (.Tuple es k pos) (gTup K n t) := hK ▸ pg_tup hc h hn hst
end
section
variable {K : PySem.W.Frag} {σ : St} {H : Hp} {Q : VK} {D : Ends} {a : Addr} {xs : List V} {n : Nat}
theorem gCons_i {t : TG} {u : TGs} {v : V} {r : List V} {N : St → Hp → Prop} (k : t v σ H fun σ' H' => u r σ' H' N) : gCons t u (v :: r) σ H N := ⟨v, r, rfl, k⟩
theorem gNil_i {N : St → Hp → Prop} (k : N σ H) : gNil [] σ H N := ⟨rfl, k⟩
end
end L2
set_option Elab.async false
set_option linter.all false
set_option maxRecDepth 100000
set_option maxHeartbeats 4000000
namespace L2
open PySem PySem.Spec PyProof.Rows PySem.W
section
variable {X : Cx}
theorem eqAt_kV {A : Around} {s : Shared} {a b : Key} {u v : Value} (ra : RelV (kV a) u) (rb : RelV (kV b) v) : SeqAt.EqAt A s u v (decide (a = b)) := by
  cases a with
  | inl i =>
    obtain ⟨t, rfl⟩ := ra
    cases b with
    | inl j =>
      obtain ⟨t', rfl⟩ := rb
      rw [key_ll]
      have := SeqAt.EqAt.int_int (A := A) (s := s) i t j t'
      simpa [PyData.eqv] using this
    | inr y =>
      obtain ⟨t', rfl⟩ := rb
      rw [key_lr]
      exact SeqAt.EqAt.int_str i t y t'
  | inr x =>
    obtain ⟨t, rfl⟩ := ra
    cases b with
    | inl j =>
      obtain ⟨t', rfl⟩ := rb
      rw [key_rl]
      exact SeqAt.EqAt.str_int x t j t'
    | inr y =>
      obtain ⟨t', rfl⟩ := rb
      rw [key_rr]
      have := SeqAt.EqAt.str_str (A := A) (s := s) x t y t'
      have e : (x == y) = decide (x = y) := by
        by_cases h : x = y
        · subst h; simp
        · rw [decide_eq_false h]; exact beq_eq_false_iff_ne.mpr h
      rw [← e]
      simpa [PyData.eqv] using this
end
end L2
set_option Elab.async false
set_option linter.all false
set_option maxRecDepth 100000
set_option maxHeartbeats 4000000
namespace L2
open PySem PySem.Spec PyProof.Rows PySem.W
section
variable {X : Cx} {pos pos' : Pos} {e k v : Expr} {te tk tv : TE} {st : Stmt} {rest : List Stmt} {t u : TS}
end
section
variable {X : Cx} {pos : Pos} {e : Expr} {te : TE}
end
section
variable {X : Cx} {tg : Expr}
noncomputable def iSeq (K : PySem.W.Frag) (tl : TE) : TI := fun σ H R => tl σ H fun x H1 => ∃ a, x = .ref a ∧ ((∃ xs, SqL K H1 a xs ∧ R (Itl K a) H1) ∨ ∃ xs, SqT K H1 a xs ∧ R (Itt K a) H1)
theorem iSeq_i {K : PySem.W.Frag} {σ : St} {H : Hp} {ta : TE} {R : It → Hp → Prop} (k : ta σ H fun x H1 => ∃ a, x = .ref a ∧ ((∃ xs, SqL K H1 a xs ∧ R (Itl K a) H1) ∨ ∃ xs, SqT K H1 a xs ∧ R (Itt K a) H1)) : iSeq K ta σ H R := k
noncomputable def mAbs : List V → Hp → VK → Prop := fun vs H Q => ∃ i, vs = [.int i] ∧ Q (.int (if i < 0 then -i else i)) H
theorem mAbs_i {i : Int} {H : Hp} {Q : VK} (k : Q (.int (if i < 0 then -i else i)) H) : mAbs [.int i] H Q := ⟨i, rfl, k⟩
end
end L2
set_option Elab.async false
set_option linter.all false
set_option maxRecDepth 100000
set_option maxHeartbeats 4000000
namespace L2
open PySem PySem.Spec PyProof.Rows PySem.W
noncomputable def TbIs (h : Heap) (T : Addr) : Prop := ∃ oT ts, h.get? T = some oT ∧ oT.data = .fields ts ∧ ts[3]? = some Value.none
structure Left (fs : List Addr) (ea : Addr) (o : Obj) (ok : Addr → Prop) (h h' : Heap) : Prop where
  keep : ∀ b u, b ≠ ea → ¬ ok b → b ∉ fs → h.get? b = some u → h'.get? b = some u
  slot : ∀ b u, b ≠ ea → ¬ ok b → h.get? b = some u → ∃ sl, h'.get? b = some { u with slots := sl }
  there : ∀ b u, h.get? b = some u → ∃ u', h'.get? b = some u'
  tb : ∃ T, h.objs.size ≤ T ∧ TbIs h' T ∧ h'.get? ea = some (o.mapFields (·.setIfInBounds 1 (.ref T)))
theorem mf_data {o : Obj} {vs : Array Value} (f : Array Value → Array Value) (h : o.data = .fields vs) : (o.mapFields f).data = .fields (f vs) := Obj.data_mapFields h f
theorem mf_dict (o : Obj) (f : Array Value → Array Value) : (o.mapFields f).dict = o.dict := by
  unfold Obj.mapFields
  split <;> rfl
section
variable {M : Model} {A : Around} {E : Value → Shared → Prop}
theorem leave_entry {s : Shared} {base : Heap} {env : Env} {outer : List Env} {L ea : Addr} {o : Obj} {vs : Array Value} {hd0 : Value} {had : Bool} {Q : Unit → Shared → Prop}
    (fr : A.frames = some (env :: outer)) (ff : s.heap.FunFrames base (env :: outer)) (fe : env.frame = some L) (ge : s.heap.get? ea = some o) (gd : o.data = .fields vs) (g1 : 1 < vs.size)
    (q : ∀ h', Left (frs (env :: outer)) ea o (fun _ => False) s.heap h' → Q () { s with heap := h' }) :
    wpAny M A (do let a ← frameOf env; let pl ← entryPlaceOf L had; let b ← EntryCells.newEntry hd0 a .none (rawInt L) .none pl; setField (.ref ea) 1 b) (fun _ s1 => wpAny M A (setFlight (.ref ea) none) Q E s1) E s := by
  have nea : ea ∉ frs (env :: outer) := fun z => by
    obtain ⟨_, u, hu, hn⟩ := ff.mem z
    rw [ge] at hu
    cases hu
    exact hn vs gd
  refine wpAny_bind (wpAny_frameOf_fun fr ff fe fun hA sA => ?_)
  refine wpAny_bind (wpAny_entryPlaceOf fun pl hpl => ?_)
  unfold EntryCells.newEntry newFields
  refine wpAny_bind (wpAny_newObj_type ?_ (hpl.sizeOk5 _ _ _ _ _))
  generalize hob : ({ cls := .type "traceback", dict := none, data := .fields ([hd0, .ref L, .none, rawInt L, .none] ++ (if pl.isEmpty then List.replicate 6 Value.none else pl)).toArray } : Obj) = ob
  have obd : ob.data = .fields ([hd0, .ref L, .none, rawInt L, .none] ++ (if pl.isEmpty then List.replicate 6 Value.none else pl)).toArray := by rw [← hob]
  have eA : hA.get? ea = some o := (sA.2.1 ea nea).trans ge
  have eB := Heap.get?_push_of_some (h := hA) ob eA
  have nT : hA.objs.size ≠ ea := Nat.ne_of_gt (Heap.lt_size eA)
  refine wpAny_setField eB gd g1 ?_
  have dC := mf_data (·.setIfInBounds 1 (Value.ref hA.objs.size)) gd
  have eC := Heap.get?_update_self (Obj.mapFields (·.setIfInBounds 1 (Value.ref hA.objs.size))) eB (Obj.isFreed_of_fields dC)
  have tC := (Heap.get?_update_other (hA.push ob) (Obj.mapFields (·.setIfInBounds 1 (Value.ref hA.objs.size))) (Ne.symm nT)).trans (Heap.get?_push_size hA (by cases ob; cases hob; rfl))
  have sz3 : 3 < ([hd0, .ref L, .none, rawInt L, .none] ++ (if pl.isEmpty then List.replicate 6 Value.none else pl)).toArray.size := by
    simp only [List.size_toArray, List.length_append, List.length_cons, List.length_nil]
    omega
  unfold setFlight
  refine wpAny_bind (wpAny_field eC dC (x := .ref hA.objs.size) (by simp [g1]) ?_)
  rw [if_pos (show (Value.ref hA.objs.size != Value.none) = true from by simp)]
  refine wpAny_setField tC obd sz3 (q _ ?_)
  have kept : ∀ b u, b ≠ ea → hA.get? b = some u → (((hA.push ob).update ea (Obj.mapFields (·.setIfInBounds 1 (Value.ref hA.objs.size)))).update hA.objs.size (Obj.mapFields (·.setIfInBounds 3 ((none : Option Addr).elim Value.none fun f => rawInt f)))).get? b = some u := fun b u hb hu => by
    rw [Heap.get?_update_other _ _ (Nat.ne_of_gt (Heap.lt_size hu)), Heap.get?_update_other _ _ (Ne.symm hb)]
    exact Heap.get?_push_of_some _ hu
  refine ⟨fun b u hb _ hf hu => kept b u hb ((sA.2.1 b hf).trans hu), fun b u hb _ hu => ?_, fun b u hu => ?_, hA.objs.size, ?_, ?_, ?_⟩
  · obtain ⟨sl, e⟩ := sA.2.2 b u hu
    exact ⟨sl, kept b _ hb e⟩
  · by_cases hb : b = ea
    · subst hb
      exact ⟨_, by rw [Heap.get?_update_other _ _ nT]; exact eC⟩
    · obtain ⟨sl, e⟩ := sA.2.2 b u hu
      exact ⟨_, kept b _ hb e⟩
  · rw [sA.1]
    exact Nat.le_refl _
  · exact ⟨_, _, Heap.get?_update_self _ tC (Obj.isFreed_of_fields (mf_data _ obd)), mf_data _ obd, by simp [sz3]⟩
  · rw [Heap.get?_update_other _ _ nT]
    exact eC
theorem leave_any {s : Shared} {base : Heap} {env : Env} {outer : List Env} {L ea : Addr} {o : Obj} {vs : Array Value} {ok : Addr → Prop} {Q : Unit → Shared → Prop}
    (fr : A.frames = some (env :: outer)) (ff : s.heap.FunFrames base (env :: outer)) (fe : env.frame = some L) (ge : s.heap.get? ea = some o) (gd : o.data = .fields vs)
    (tb : vs[1]? = some .none ∨ ∃ T, vs[1]? = some (.ref T) ∧ T ≠ ea ∧ ok T ∧ TbIs s.heap T)
    (q : ∀ h', Left (frs (env :: outer)) ea o ok s.heap h' → Q () { s with heap := h' }) : wpAny M A (noteFrame (.ref ea) env) (fun _ s1 => wpAny M A (setFlight (.ref ea) none) Q E s1) E s := by
  unfold noteFrame
  simp only [fe]
  rcases tb with g | ⟨T, g, nT, kT, oT, ts, hT, dT, t3⟩
  · refine wpAny_bind (wpAny_field ge gd g ?_)
    rw [if_neg (by decide)]
    refine leave_entry fr ff fe ge gd (Array.getElem?_eq_some_iff.mp g).1 fun h' l => q h' ⟨fun b u hb _ => l.keep b u hb id, fun b u hb _ => l.slot b u hb id, l.there, l.tb⟩
  · refine wpAny_bind (wpAny_field ge gd g ?_)
    rw [if_pos (show (Value.ref T != Value.none) = true from by simp)]
    refine wpAny_bind (wpAny_field hT dT t3 ?_)
    rw [if_neg (show ¬ ((Value.none == rawInt L) = true) from by simp [rawInt])]
    refine wpAny_bind (wpAny_setField hT dT (Array.getElem?_eq_some_iff.mp t3).1 ?_)
    have oth : ∀ b, b ≠ T → (s.heap.update T (Obj.mapFields (·.setIfInBounds 3 Value.none))).get? b = s.heap.get? b := fun b hb => Heap.get?_update_other _ _ (Ne.symm hb)
    have self := Heap.get?_update_self (Obj.mapFields (·.setIfInBounds 3 Value.none)) hT (Obj.isFreed_of_fields (mf_data _ dT))
    have nrec : ∀ b u, s.heap.get? b = some u → (∀ ws, u.data ≠ .fields ws) → b ≠ T := fun b u hu hn z => by
      subst z
      rw [hT] at hu
      cases hu
      exact hn ts dT
    refine leave_entry fr (ff.of_keeps fun b u hu hn => ⟨u, (oth b (nrec b u hu hn)).trans hu, rfl⟩) fe ((oth ea (Ne.symm nT)).trans ge) gd (Array.getElem?_eq_some_iff.mp g).1 fun h' l => q h' ⟨fun b u hb hk hf hu => l.keep b u hb id hf ((oth b (fun z => hk (z ▸ kT))).trans hu), fun b u hb hk hu => l.slot b u hb id ((oth b (fun z => hk (z ▸ kT))).trans hu), fun b u hu => ?_, ?_⟩
    · by_cases hb : b = T
      · subst hb
        exact l.there b _ self
      · exact l.there b u ((oth b hb).trans hu)
    · obtain ⟨T2, h1, h2, h3⟩ := l.tb
      exact ⟨T2, by rw [Heap.size_after_update] at h1; exact h1, h2, h3⟩
end
end L2
set_option Elab.async false
set_option linter.all false
set_option maxRecDepth 100000
set_option maxHeartbeats 4000000
namespace L2
open PySem PySem.W
noncomputable abbrev newS : String := "ValueError.__new__"
structure XCls (K : Frag) (C : Addr) (bm : List Value) : Prop where
  obj : ∃ nm q N bs sn sub ab col dd k0 k1 k2 k3 k5, K.lookup C = some (excClassObj nm q C N bs bm true sn sub ab col dd k0 k1 k2 k3 k5 newS)
  hasV : bm.contains (.type "ValueError") = true
  hasB : bm.contains (.type "BaseException") = true
  noA : bm.contains (.type "AttributeError") = false
  noN : bm.contains (.type "NameError") = false
section
variable {prog : Program} {w : World} {A : Around} {E : Value → Shared → Prop} {R : Result → Shared → Prop} {h : Heap} {g : Array GenState} {d : Drawn} {t : Nat} {os : OsState}
variable {nm q : Str} {C N : Addr} {bs bm : List Value} {sn : List Str} {sub : List Value} {ab : Bool} {col : Option Bool} {dd : Option Addr} {k0 k1 k2 k3 k5 : Option Value}
theorem x_check (hV : bm.contains (.type "ValueError") = true) {rest : List Value} {Q : Unit → Shared → Prop} (hC : h.get? C = some (excClassObj nm q C N bs bm true sn sub ab col dd k0 k1 k2 k3 k5 newS)) (hq : Q () ⟨h, g, d, t, os⟩) :
    wpAny (model prog w) A (checkBuiltinCall newS ⟨.ref C :: rest, []⟩) Q E ⟨h, g, d, t, os⟩ := by
  have F := PySem.F.excBase_ValueError
  have hc : (Value.ref C :: bm).contains (.type "ValueError") = true := by rw [List.contains_cons, hV, Bool.or_true]
  have hs := F.noStar
  simp only [checkBuiltinCall, F.newKind, F.newSplit, F.newRow]
  repeat (first | refine wpAny_loadPart_at hC ?_ | (refine wpAny_isSubtype_exc hC ?_; rw [hc]) | refine wpAny_staticBase_exc hC ?_ | refine wpAny_madeBy_exc hC ?_ | simp only [bne_self_eq_false, Bool.false_eq_true, if_false] | wp_step)
  exact hq
theorem x_new (hV : bm.contains (.type "ValueError") = true) (hA : bm.contains (.type "AttributeError") = false) (hN : bm.contains (.type "NameError") = false) {rest : List Value} (hC : h.get? C = some (excClassObj nm q C N bs bm true sn sub ab col dd k0 k1 k2 k3 k5 newS))
    (hq : R (.ok (.ret (.ref (h.objs.size + 1)))) ⟨(h.push { cls := .type "tuple", data := .seq rest.toArray }).push { cls := .ref C, data := .fields #[.ref h.objs.size, .none, .none, .none, .bool false, .none] }, g, d, t, os⟩) (hl : rest.length ≤ sizeLine) :
    codeAny (model prog w) A (.builtin newS ⟨.ref C :: rest, []⟩) R ⟨h, g, d, t, os⟩ := by
  have F := PySem.F.excBase_ValueError
  have he := F.ends
  have c1 : (Value.ref C :: bm).contains (.type "ValueError") = true := by rw [List.contains_cons, hV, Bool.or_true]
  have c2 : (Value.ref C :: bm).contains (.type "AttributeError") = false := by rw [List.contains_cons, hA]; rfl
  have c3 : (Value.ref C :: bm).contains (.type "NameError") = false := by rw [List.contains_cons, hN]; rfl
  refine codeAny_builtinAt F.entry ?_
  unfold Builtin.«BaseException.__new__»
  refine wpAt_bind ?_
  show wpAt _ _ _ (stack >>= _) _ _ _
  refine wpAt_bind (wpAt_stack fun p below => wpAt_of_wpAny ?_)
  wp_walk
  refine wpAt_of_wpAny ?_
  rw [F.owner]
  repeat (first | with_reducible refine wpAny_madeHere_exc F.canon hC ?_ | with_reducible refine wpAny_loadPart_at hC ?_ | (with_reducible refine wpAny_isSubtype_exc hC ?_; first | rw [c1] | rw [c2] | rw [c3]) | wp_step)
  show R _ _
  rw [Heap.size_push]
  exact hq
theorem x_tcall {K : Frag} {fI : Addr} (KX : K.In h) (X : XCls K C bm) (hI : findIn K (.ref C) "__init__" = some (some (.ref fI))) (hf : typeIn K (.ref fI) = some (.type "function")) {rest : List Value} {Q : PySem.Fin → Shared → Prop} (hl : rest.length ≤ sizeLine)
    (hq : wpAny (model prog w) A (call (.ref fI) (.ref (h.objs.size + 1) :: rest)) (fun r s' => r = .none ∧ Q (.done (.ret (.ref (h.objs.size + 1)))) s') E ⟨((h.push { cls := .type "tuple", data := .seq rest.toArray }).push { cls := .ref C, data := .fields #[.ref h.objs.size, .none, .none, .none, .bool false, .none] }), g, d, t, os⟩) :
    wpAny (model prog w) A (Builtin.«type.__call__» ⟨.ref C :: rest, []⟩) Q E ⟨h, g, d, t, os⟩ := by
  obtain ⟨nm, q, N, bs, sn, sub, ab, col, dd, k0, k1, k2, k3, k5, hC'⟩ := X.obj
  have hC := KX _ _ hC'
  have F := PySem.F.excBase_ValueError
  repeat (first | with_reducible refine wpAny_loadPart_at hC ?_ | with_reducible refine wpAny_madeBy_exc hC ?_ | wp_step)
  refine codeAny_call_builtin_code (Code.quiet_builtin _ F.quiet) (x_check X.hasV hC ?_)
  refine x_new X.hasV X.noA X.noN hC ?_ hl
  show wpAny _ _ _ _ _ _
  have kp : ∀ b o, h.get? b = some o → ((h.push { cls := .type "tuple", data := .seq rest.toArray }).push { cls := .ref C, data := .fields #[.ref h.objs.size, .none, .none, .none, .bool false, .none] }).get? b = some o := fun b o e => Heap.get?_push_of_some _ (Heap.get?_push_of_some _ e)
  have hC2 := kp _ _ hC
  have KX2 : K.In ((h.push { cls := .type "tuple", data := .seq rest.toArray }).push { cls := .ref C, data := .fields #[.ref h.objs.size, .none, .none, .none, .bool false, .none] }) := KX.keeps kp
  have hget : ((h.push { cls := .type "tuple", data := .seq rest.toArray }).push { cls := .ref C, data := .fields #[.ref h.objs.size, .none, .none, .none, .bool false, .none] }).get? (h.objs.size + 1) = some { cls := .ref C, data := .fields #[.ref h.objs.size, .none, .none, .none, .bool false, .none] } := by heap_get
  have cC : (Value.ref C :: bm).contains (.ref C) = true := by simp
  unfold isInstance
  repeat (first | with_reducible refine wpAny_loadPart_at hget ?_ | (with_reducible refine wpAny_isSubtype_exc hC2 ?_; rw [cC]) | wp_step)
  show wpAny _ _ (typeLookup (.ref C) _) _ _ _
  refine (looks_findIn KX2 hI).here ?_
  refine wpAny_holding (wpAny_bind ((bind_fn KX2 _ hf).here ?_))
  refine wpAny_bind (wpAny_mono hq (fun r s' hr => ?_) fun _ _ x => x)
  obtain ⟨rfl, hQ⟩ := hr
  wp_walk
  exact hQ
theorem x_call {K : Frag} {fI : Addr} (KX : K.In h) (X : XCls K C bm) (hI : findIn K (.ref C) "__init__" = some (some (.ref fI))) (hf : typeIn K (.ref fI) = some (.type "function")) {rest : List Value} {Q : Value → Shared → Prop} (hl : rest.length ≤ sizeLine)
    (hq : wpAny (model prog w) (A.under (.builtin "type.__call__" ⟨.ref C :: rest, []⟩)) (call (.ref fI) (.ref (h.objs.size + 1) :: rest)) (fun r s' => r = .none ∧ Q (.ref (h.objs.size + 1)) s') E ⟨((h.push { cls := .type "tuple", data := .seq rest.toArray }).push { cls := .ref C, data := .fields #[.ref h.objs.size, .none, .none, .none, .bool false, .none] }), g, d, t, os⟩) :
    wpAny (model prog w) A (call (.ref C) rest) Q E ⟨h, g, d, t, os⟩ := by
  obtain ⟨nm, q, N, bs, sn, sub, ab, col, dd, k0, k1, k2, k3, k5, hC'⟩ := X.obj
  have hC := KX _ _ hC'
  have f1 := tc_lookup
  have f2 := tc_bind (.ref C)
  have hT : (⟨h, g, d, t, os⟩ : Shared).TypeIs (.ref C) "type" := ⟨_, hC, rfl⟩
  refine wpAny_call (codeAny_of_tree ?_)
  show wpAny _ _ (callAny (.ref C) _) _ _ _
  repeat (any_goals (first | assumption | with_reducible refine wpAny_loadPart_at hC ?_ | wp_step))
  refine ⟨rfl, ?_⟩
  exact codeAny_call_builtin_at (Code.quiet_builtin _ (by decide +kernel)) entry_typeCall (wpAny_check_type_call_sub hC (x_tcall KX X hI hf hl hq))
end
end L2
set_option Elab.async false
set_option linter.all false
set_option maxRecDepth 100000
set_option maxHeartbeats 4000000
namespace L2
open PySem PySem.W
section
variable {prog : Program} {w : World} {A : Around} {E : Value → Shared → Prop} {R : Result → Shared → Prop} {h : Heap} {g : Array GenState} {d : Drawn} {t : Nat} {os : OsState} {K : Frag} {C e : Addr} {bm : List Value} {o : Obj} {vs : Array Value}
theorem x_init (KX : K.In h) (X : XCls K C bm) (he : h.get? e = some o) (hc : o.cls = .ref C) (hd : o.data = .fields vs) {t0 : Addr} (h0 : vs[0]? = some (.ref t0)) {v : Value} {Q : Value → Shared → Prop}
    (hq : Q .none ⟨(h.push { cls := .type "tuple", data := .seq [v].toArray }).update e (Obj.mapFields (·.setIfInBounds 0 (.ref h.objs.size))), g, d, t, os⟩) :
    wpAny (model prog w) A (call (.builtin "ValueError.__init__") [.ref e, v]) Q E ⟨h, g, d, t, os⟩ := by
  obtain ⟨nm, q, N, bs, sn, sub, ab, col, dd, k0, k1, k2, k3, k5, hC'⟩ := X.obj
  have hC := KX _ _ hC'
  have F := PySem.F.excBase_ValueError
  have c1 : (Value.ref C :: bm).contains (.type "ValueError") = true := by rw [List.contains_cons, X.hasV, Bool.or_true]
  have hs := F.noStar
  have ck : ∀ Q' : Unit → Shared → Prop, Q' () ⟨h, g, d, t, os⟩ → ∀ A' E', wpAny (model prog w) A' (checkBuiltinCall "ValueError.__init__" ⟨[.ref e, v], []⟩) Q' E' ⟨h, g, d, t, os⟩ := by
    intro Q' hq' A' E'
    simp only [checkBuiltinCall, F.initKind, F.initSplit, F.initRow]
    repeat (first | (with_reducible refine wpAny_loadPart_at he ?_; rw [hc]) | with_reducible refine wpAny_loadPart_at hC ?_ | (with_reducible refine wpAny_isSubtype_exc hC ?_; rw [c1]) | wp_step)
    exact hq'
  refine wpAny_call (codeAny_call_builtin F.init.plain F.initEntry (ck _ ?_ _ _))
  unfold Builtin.«BaseException.__init__»
  dsimp only
  rw [if_neg (by simp)]
  unfold newTuple Builtin.BaseException.bexcPut
  have hz : 0 < vs.size := (Array.getElem?_eq_some_iff.mp h0).1
  have he1 := Heap.get?_push_of_some (h := h) { cls := .type "tuple", data := .seq [v].toArray } he
  refine wpAny_bind (wpAny_newObj_type (wpAny_bind (wpAny_bind (wpAny_field he1 hd h0 (wpAny_bind (wpAny_setField he1 hd hz ?_))))) (by show [v].toArray.size ≤ sizeLine; rw [List.size_toArray, sizeLine_eq]; simp))
  exact wpAny_letGo (wpAny_pure hq)
theorem x_raise {M : Model} {env : Env} {s : Shared} {x : Sem Value} {Q : Flow → Shared → Prop} (hh : A.handled = none)
    (hx : wpAny M A x (fun v s1 => ∃ e o vs C bm, v = .ref e ∧ XCls K C bm ∧ K.In s1.heap ∧ s1.heap.get? e = some o ∧ o.cls = .ref C ∧ o.data = .fields vs ∧ vs[1]? = some .none ∧ E (.ref e) s1) E s) :
    wpAny M A (raiseStmt env (some x) none) Q E s := by
  unfold raiseStmt
  refine wpAny_bind (wpAny_mono hx (fun v s1 h1 => ?_) fun _ _ x => x)
  obtain ⟨e, o, vs, C, bm, rfl, X, KX, he, hc, hd, h1, hE⟩ := h1
  obtain ⟨hp, g, d, tk, os⟩ := s1
  obtain ⟨nm, q, N, bs, sn, sub, ab, col, dd, k0, k1, k2, k3, k5, hC'⟩ := X.obj
  have hC := KX _ _ hC'
  have cB : (Value.ref C :: bm).contains (.type "BaseException") = true := by rw [List.contains_cons, X.hasB, Bool.or_true]
  obtain ⟨oc, od, odt, osl⟩ := o
  dsimp only at hc hd
  subst hc hd
  repeat (first | with_reducible refine wpAny_loadPart_at he ?_ | with_reducible refine wpAny_loadPart_at hC ?_ | (with_reducible refine wpAny_isSubtype_exc hC ?_; rw [cB]) | (with_reducible refine wpAny_field he rfl h1 ?_) | wp_step)
  exact wpAny_raiseNew_none hh hE
theorem x_refuse (self : Value) (what : Str) : ∀ l : List Value, (∀ v ∈ l, ∃ a, v = Value.ref a) → ∀ r, refuseLoop self what (l ++ r) = refuseLoop self what r
  | [], _, _ => rfl
  | v :: l, h, r => by
    obtain ⟨a, rfl⟩ := h v List.mem_cons_self
    rw [List.cons_append, refuseLoop_ref, x_refuse self what l (fun v hv => h v (List.mem_cons_of_mem _ hv)) r]
noncomputable def XUp (bm : List Value) : Prop := ∃ l : List Value, (∀ v ∈ l, ∃ a, v = Value.ref a) ∧ bm = l ++ [.type "ValueError", .type "Exception", .type "BaseException", .type "object"]
theorem x_set (KX : K.In h) (X : XCls K C bm) (U : XUp bm) (sa : findIn K (.ref C) "__setattr__" = some (some (.builtin "object.__setattr__"))) {name : Str} (hn : findIn K (.ref C) name = some none)
    (he : h.get? e = some o) (hc : o.cls = .ref C) (hd : o.data = .fields vs) {mA : Str → Option Value} {ns : List Str} (hw : PySem.Within mA ns) (hz : ns.length ≤ 1000) (hm : (o.dict = none ∧ ∀ n, mA n = none) ∨ ∃ dx, o.dict = some dx ∧ dx ≠ e ∧ h.Ns1 dx mA) {v : Value} {Q : Unit → Shared → Prop}
    (hq : ∀ h' dx tk, (o.dict = some dx ∨ (o.dict = none ∧ h.objs.size ≤ dx)) → h'.get? e = some { o with dict := some dx } → dx ≠ e → h'.Ns1 dx (fun y => if y = name then some v else mA y) → (∀ b u, b ≠ e → b ≠ dx → h.get? b = some u → h'.get? b = some u) → Q () ⟨h', g, d, tk, os⟩) :
    wpAny (model prog w) A (setAttr (.ref e) name v) Q E ⟨h, g, d, t, os⟩ := by
  obtain ⟨nm, q, N, bs, sn, sub, ab, col, dd, k0, k1, k2, k3, k5, hC'⟩ := X.obj
  have hC := KX _ _ hC'
  obtain ⟨l, hl, hbm⟩ := U
  have SF := PySem.F.store_ValueError
  have hpass : refuseLoop (.ref e) "__setattr__" (.ref C :: bm) = pure () := by
    rw [refuseLoop_ref, hbm, x_refuse _ _ l hl]
    exact SF.passes (.ref e)
  have cO : (Value.ref C :: bm).contains (.type "object") = true := by rw [List.contains_cons, hbm]; simp
  obtain ⟨oc, od, odt, osl⟩ := o
  dsimp only at hc hd
  subst hc hd
  have f3 := SF.slot.bind (.ref e)
  have ck : ∀ (Q' : Unit → Shared → Prop) (u : Nat) (nv : Value), Q' () ⟨h, g, d, u, os⟩ → ∀ A' E', wpAny (model prog w) A' (checkBuiltinCall "object.__setattr__" ⟨[.ref e, nv, v], []⟩) Q' E' ⟨h, g, d, u, os⟩ := by
    intro Q' u nv hq' A' E'
    have ha := SF.args (.ref e) nv v
    simp only [checkBuiltinCall, SF.kind, SF.split]
    refine wpAny_bind ?_
    unfold isInstance
    repeat (first | with_reducible refine wpAny_loadPart_at he ?_ | (with_reducible refine wpAny_isSubtype_exc hC ?_; rw [cO]) | wp_step)
    exact hq'
  unfold setAttr callSpecial? specialOf
  repeat (any_goals (first | assumption | with_reducible refine wpAny_loadPart_at he ?_ | with_reducible refine (looks_findIn KX sa).here ?_ | wp_step))
  refine codeAny_call_builtin SF.slot.plain SF.entry (ck _ _ _ ?_ _ _)
  unfold Builtin.«object.__setattr__»
  repeat (first | rw [refuse_eq] | rw [hpass] | with_reducible refine wpAny_loadPart_at he ?_ | with_reducible refine wpAny_mroOf_exc hC ?_ | with_reducible refine (looks_findIn KX hn).here ?_ | wp_step)
  rcases hm with ⟨hdn, hmA⟩ | ⟨dx, hdx, hne, hns⟩
  · dsimp only at hdn
    subst hdn
    dsimp only
    rw [if_neg (by simp [typeHasDict])]
    have he1 : (h.push { cls := .type "dict", data := .dict #[] }).get? e = some ⟨.ref C, none, .fields vs, osl⟩ := Heap.get?_push_of_some _ he
    have nes : e ≠ h.objs.size := Nat.ne_of_lt (Heap.lt_size he)
    refine wpAny_bind (wpAny_alloc' ?_)
    refine wpAny_bind (wpAny_update' he1 ?_)
    refine wpAny_pure ?_
    have gd := (Heap.get?_update_ne (h.push { cls := .type "dict", data := .dict #[] }) h.objs.size e (fun o => { cls := o.cls, dict := some h.objs.size, data := o.data, slots := o.slots }) nes.symm).trans (Heap.get?_push_at rfl rfl)
    have nd : ((h.push { cls := .type "dict", data := .dict #[] }).update e fun o => { cls := o.cls, dict := some h.objs.size, data := o.data, slots := o.slots }).Ns h.objs.size (fun _ => none) := ⟨_, #[], _, gd, rfl, fun _ z => absurd z (by simp), fun _ => rfl⟩
    show wpAny _ _ (Builtin.ObjectAttr.storeInDict h.objs.size (.str name _) name v) _ _ _
    unfold Builtin.ObjectAttr.storeInDict Builtin.ObjectAttr.newKeyGuard
    refine wpAny_bind (wpAny_pure (wpAny_bind (wpAny_nsSet1 (Heap.Ns1.of_empty nd) fun h' hn' hs => ?_)))
    obtain ⟨oD, esD, epD, hoD, hdD, hcD⟩ := hn'.count (PySem.Within.cons name v PySem.Within.nil)
    refine wpAny_bind (wpAny_lookBehind hoD (by rw [hdD]; exact pastItsLine_dict (Nat.le_trans hcD (by rw [List.length_cons, List.length_nil, sizeLine_eq]; omega))) ?_)
    wp_walk
    have ge' : h'.get? e = some ⟨.ref C, some h.objs.size, .fields vs, osl⟩ := (hs.2 e nes).trans (Heap.get?_update_self _ he1 rfl)
    refine hq h' h.objs.size _ (.inr ⟨rfl, Nat.le_refl _⟩) ge' nes.symm ?_ (fun b u hb hbd hu => ?_)
    · obtain ⟨o', es, ep, e1, e2, e3, eu, e4⟩ := hn'
      exact ⟨o', es, ep, e1, e2, e3, eu, fun y => by rw [e4 y]; by_cases hy : y = name <;> simp [hy, hmA]⟩
    · exact (hs.2 b hbd).trans ((Heap.get?_update_ne _ _ _ _ hb).trans (Heap.get?_push_of_some _ hu))
  · dsimp only at hdx
    subst hdx
    dsimp only
    refine wpAny_pure ?_
    show wpAny _ _ (Builtin.ObjectAttr.storeInDict dx (.str name _) name v) _ _ _
    unfold Builtin.ObjectAttr.storeInDict Builtin.ObjectAttr.newKeyGuard
    refine wpAny_bind (wpAny_pure (wpAny_bind (wpAny_nsSet1 hns fun h' hn' hs => ?_)))
    obtain ⟨oD, esD, epD, hoD, hdD, hcD⟩ := hn'.count (PySem.Within.cons name v hw)
    refine wpAny_bind (wpAny_lookBehind hoD (by rw [hdD]; exact pastItsLine_dict (Nat.le_trans hcD (by rw [List.length_cons, sizeLine_eq]; omega))) ?_)
    wp_walk
    exact hq h' dx _ (.inl rfl) ((hs.2 e hne.symm).trans he) hne hn' (fun b u hb hbd hu => (hs.2 b hbd).trans hu)
theorem x_match (KX : K.In h) (X : XCls K C bm) (he : h.get? e = some o) (hc : o.cls = .ref C) {C' : Addr} {bm' : List Value} (X' : XCls K C' bm') {Q : Bool → Shared → Prop} (hq : Q ((Value.ref C :: bm).contains (.ref C')) ⟨h, g, d, t, os⟩) :
    wpAny (model prog w) A (excMatches (.ref e) (.ref C')) Q E ⟨h, g, d, t, os⟩ := by
  obtain ⟨nm, q, N, bs, sn, sub, ab, col, dd, k0, k1, k2, k3, k5, hC'⟩ := X.obj
  have hC := KX _ _ hC'
  obtain ⟨nm', q', N', bs', sn', sub', ab', col', dd', l0, l1, l2, l3, l5, hD'⟩ := X'.obj
  have hD := KX _ _ hD'
  have cB : (Value.ref C' :: bm').contains (.type "BaseException") = true := by rw [List.contains_cons, X'.hasB, Bool.or_true]
  have f := tc_notTuple
  generalize hb : (Value.ref C :: bm).contains (.ref C') = b at hq
  unfold excMatches
  repeat (first | (with_reducible refine wpAny_loadPart_at he ?_; rw [hc]) | with_reducible refine wpAny_loadPart_at hD ?_ | (with_reducible refine wpAny_isSubtype_exc hD ?_; rw [cB]) | (with_reducible refine wpAny_isSubtype_exc hC ?_; rw [hb]) | wp_step)
  cases b <;> (wp_walk; exact hq)
end
end L2
set_option Elab.async false
set_option linter.all false
set_option maxRecDepth 100000
set_option maxHeartbeats 4000000
namespace L2
open PySem PySem.Spec PyProof.Rows PySem.W
noncomputable def XFp (e C : Addr) (dx : Option Addr) (fr : Bool) (h : Heap) : Prop := ∃ o vs t0 x, h.get? e = some o ∧ o.cls = .ref C ∧ o.dict = dx ∧ o.data = .fields vs ∧ vs[0]? = some (Value.ref t0) ∧ vs[1]? = some x ∧ (fr = true → x = .none) ∧ vs[2]? = some Value.none
noncomputable def XF (e C : Addr) (dx : Option Addr) (fr : Bool) : HO := .ext (XFp e C dx fr)
theorem XFp.on {e C : Addr} {dx : Option Addr} {fr : Bool} {h h' : Heap} (x : XFp e C dx fr h) (k : ∀ o, h.get? e = some o → h'.get? e = some o) : XFp e C dx fr h' := by
  obtain ⟨o, vs, t0, y, a, b⟩ := x
  exact ⟨o, vs, t0, y, k o a, b⟩
theorem xf_ok {P : Program} {w : World} {H : Hp} {h : Heap} {e C : Addr} {dx : Option Addr} {fr : Bool} (x : XFp e C dx fr h) : ObjOk P w H h e (XF e C dx fr) := ⟨x, let ⟨o, _, _, _, a, _⟩ := x; ⟨o, a⟩, fun _ _ z k => z.on k⟩
theorem xf_of {P : Program} {w : World} {H : Hp} {h : Heap} {e C : Addr} {dx : Option Addr} {fr : Bool} (ok : HOk P w H h) (a : H e = some (XF e C dx fr)) : XFp e C dx fr h := (ok e _ a).1
theorem upd_self {H : Hp} {a : Addr} {o : HO} (h : H a = some o) : upd H a o = H := by
  funext b
  by_cases e : b = a
  · subst e; rw [upd_same, h]
  · rw [upd_ne e]
noncomputable def TbOf (s : Shared) (ea : Addr) (H' : Hp) (h : Heap) : Prop := ∃ o vs T, h.get? ea = some o ∧ o.data = .fields vs ∧ vs[1]? = some (Value.ref T) ∧ T ≠ ea ∧ s.heap.objs.size ≤ T ∧ H' T = none ∧ TbIs h T
noncomputable def CXo (P : Program) (w : World) : CXT := fun outer H s E e s' => ∃ ea C dx H', e = .ref ea ∧ H' ea = some (XF ea C dx false) ∧ s'.os = s.os ∧ AllBare s'.gens ∧ Un (frs outer) [] H H' s.heap s'.heap ∧ HOk P w H' s'.heap ∧ TbOf s ea H' s'.heap ∧ E (.ref C) (some ea) H'
section
variable {X : Cx} {pins : List (Addr × Obj)} {σ : St} {H : Hp} {s : Shared}
noncomputable def TOk (X : Cx) (pins : List (Addr × Obj)) (H : Hp) (T : Addr) : Prop := X.s₀.heap.objs.size ≤ T ∧ T ≠ X.env.locals ∧ (∀ x c, X.env.cells.lookup x = some c → c ≠ T) ∧ (∀ p ∈ X.pn ++ pins, p.1 ≠ T) ∧ H T = none
theorem inv_left {h' : Heap} {ea C : Addr} {dx : Option Addr} {fr : Bool} {o : Obj} {ok : Addr → Prop} {ch : List Addr} (I : Inv X pins σ H s) (hx : H ea = some (XF ea C dx fr)) (ge : s.heap.get? ea = some o) (l : Left (frs X.stack) ea o ok s.heap h') (hok : ∀ T, ok T → T ∈ ch) (hch : ∀ T ∈ ch, TOk X pins H T) (hnew : fr = false) :
    Inv X pins σ H { s with heap := h' } := by
  subst hnew
  have ntr : ∀ b u, H b = some u → ¬ ok b := fun b u e z => by rw [(hch b (hok b z)).2.2.2.2] at e; cases e
  have nfr : ∀ b u, H b = some u → b ∉ frs X.stack := fun b u e z => by rw [I.stkFree b z] at e; cases e
  have hk : HOk X.prog X.w H h' := fun a u e => by
    by_cases ha : a = ea
    · subst ha
      rw [hx] at e
      cases e
      obtain ⟨o', vs, t0, y, a1, a2, a3, a4, a5, a6, _, a8⟩ := xf_of I.hok hx
      rw [ge] at a1
      cases a1
      obtain ⟨T, _, _, gT⟩ := l.tb
      refine xf_ok ⟨_, _, t0, .ref T, gT, ?_, ?_, mf_data _ a4, ?_, ?_, (fun z => by cases z), ?_⟩
      · rw [Obj.cls_mapFields]; exact a2
      · rw [mf_dict]; exact a3
      · rw [Array.getElem?_setIfInBounds_ne (by decide)]; exact a5
      · have := (Array.getElem?_eq_some_iff.mp a6).1
        simp [this]
      · rw [Array.getElem?_setIfInBounds_ne (by decide)]; exact a8
    · refine (I.hok a u e).stay (fun b v hb q => ?_) (fun _ q => q) fun _ _ q => q
      rcases hb with rfl | hb
      · exact l.keep b v ha (ntr b u e) (nfr b u e) q
      · refine l.keep b v (fun z => ?_) (ntr b _ hb) (nfr b _ hb) q
        rw [z, hx] at hb
        cases hb
  refine I.step (g' := s.gens) (d' := s.drawn) (t' := s.toks) (ch := ch) (fun b hb => ⟨.inr (hch b hb).1, (hch b hb).2.1, (hch b hb).2.2.1, (hch b hb).2.2.2.1⟩) (fun b u hL hf hc e n => ?_) (fun b u hL hf hc e n => ?_) (fun _ _ _ _ n => n) (fun b u hc e => l.there b u e) (fun _ _ e => e) (fun _ _ _ e => e) (fun b ps e => ⟨#[], by rw [e]; simp⟩) (fun m hm => ?_) hk I.bare
  · refine l.keep b u (fun z => by rw [z, hx] at n; cases n) (fun z => hc (hok b z)) (fun z => ?_) e
    rcases List.mem_cons.mp (I.stkSub b z) with z | z
    · exact hL z
    · exact hf z
  · exact l.slot b u (fun z => by rw [z, hx] at n; cases n) (fun z => hc (hok b z)) e
  · obtain ⟨u, es, ep, e, r⟩ := hm
    obtain ⟨sl, e2⟩ := l.slot _ u (fun z => by have := I.free; rw [z, hx] at this; cases this) (fun z => (hch _ (hok _ z)).2.1 rfl) e
    exact ⟨_, es, ep, e2, r⟩
theorem tok_new {T : Addr} (I : Inv X pins σ H s) (h : s.heap.objs.size ≤ T) {H' : Hp} (hn : H' T = none) : TOk X pins H' T := by
  refine ⟨Nat.le_trans I.sz h, fun z => ?_, fun x c e z => ?_, fun p hp z => ?_, hn⟩
  · rw [z] at h; exact absurd I.lt (Nat.not_lt.mpr h)
  · obtain ⟨v, o, ho, _⟩ := I.cell x c e
    rw [z] at ho
    exact absurd (Heap.lt_size ho) (Nat.not_lt.mpr h)
  · obtain ⟨hp1, _⟩ := I.pin p hp
    rw [z] at hp1
    exact absurd (Heap.lt_size hp1) (Nat.not_lt.mpr h)
theorem tb_left {ea : Addr} {o : Obj} {vs : Array Value} {ok : Addr → Prop} {fs : List Addr} {h' : Heap} (I : Inv X pins σ H s) (ge : s.heap.get? ea = some o) (gd : o.data = .fields vs) (g1 : 1 < vs.size) (l : Left fs ea o ok s.heap h') : TbOf s ea H h' := by
  obtain ⟨T, h1, h2, h3⟩ := l.tb
  exact ⟨_, _, T, h3, mf_data _ gd, by simp [g1], fun z => absurd (Heap.lt_size ge) (by rw [← z]; exact Nat.not_lt.mpr h1), h1, I.hok.fresh h1, h2⟩
end
section
variable {P : Program} {w : World} {K : Frag} {mg : Str → Option Value} {base : Heap} {N : List Str} {qual : Str} {scope : Scope} {f : Addr} {cd : Value} {A : Around} {outer : List Env} {s : Shared} {H : Hp} {E : XK}
theorem xe_of {pins : List (Addr × Obj)} {σ : St} {H' : Hp} {s2 : Shared} {ea C : Addr} {dx : Option Addr} (I : Inv (cxOf (CXo P w) P w K mg base N qual scope f cd A outer s H E) pins σ H' s2) (hx : H' ea = some (XF ea C dx false))
    (tb : ∀ vs o, s2.heap.get? ea = some o → o.data = .fields vs → vs[1]? = some .none ∨ ∃ T, vs[1]? = some (.ref T) ∧ T ≠ ea ∧ TOk (cxOf (CXo P w) P w K mg base N qual scope f cd A outer s H E) pins H' T ∧ TbIs s2.heap T) (hE : E (.ref C) (some ea) H') :
    (cxOf (CXo P w) P w K mg base N qual scope f cd A outer s H E).xe (.ref ea) s2 := by
  obtain ⟨o, vs, t0, y, a1, a2, a3, a4, a5, a6, _⟩ := xf_of I.hok hx
  have g1 := (Array.getElem?_eq_some_iff.mp a6).1
  show wpAny _ _ (leaving _ (.ref ea)) _ _ s2
  have fin : ∀ (ok : Addr → Prop) (ch : List Addr) (h' : Heap), (∀ T, ok T → T ∈ ch) → (∀ T ∈ ch, TOk (cxOf (CXo P w) P w K mg base N qual scope f cd A outer s H E) pins H' T) → Left (frs (cxOf (CXo P w) P w K mg base N qual scope f cd A outer s H E).stack) ea o ok s2.heap h' → CXo P w outer H s E (.ref ea) { s2 with heap := h' } := fun ok ch h' hok hch l => by
    have I2 := inv_left I hx a1 l hok hch rfl
    refine ⟨ea, C, dx, H', rfl, hx, I2.os, I2.bare, I2.base, I2.hok, ?_, hE⟩
    obtain ⟨o2, vs2, T, b1, b2, b3, b4, b5, b6, b7⟩ := tb_left I a1 a4 g1 l
    exact ⟨o2, vs2, T, b1, b2, b3, b4, Nat.le_trans I.sz b5, b6, b7⟩
  refine wpAny_bind ?_
  rcases tb vs o a1 a4 with z | ⟨T, z1, z2, z3, z4⟩
  · exact leave_any (ok := fun _ => False) I.ok.frames I.stack rfl a1 a4 (.inl z) fun h' l => fin _ [] h' (fun _ z => z.elim) (fun _ z => absurd z List.not_mem_nil) l
  · exact leave_any (ok := fun b => b = T) I.ok.frames I.stack rfl a1 a4 (.inr ⟨T, z1, z2, rfl, z4⟩) fun h' l => fin _ [T] h' (fun _ z => List.mem_singleton.mpr z) (fun b z => by rw [List.mem_singleton.mp z]; exact z3) l
end
end L2
set_option Elab.async false
set_option linter.all false
set_option maxRecDepth 100000
set_option maxHeartbeats 4000000
namespace L2
open PySem PySem.Spec PyProof.Rows PySem.W
section
variable {X : Cx} {pins : List (Addr × Obj)} {σ : St} {H : Hp} {s : Shared} {pos apos np : Pos} {a b o e value : Expr} {es : List Expr} {t : TA} {te ta tv : TE} {f x : Str}
theorem boot_ValueError : bootBuiltins "ValueError" = some (.type "ValueError") := by rfl
noncomputable def tBInit (K : Frag) (t : TA) : TE := fun σ H Q => t σ H fun vs H2 => ∃ e C dx fr bm y, vs = [.ref e, y] ∧ H2 e = some (XF e C dx fr) ∧ XCls K C bm ∧ Q .non H2
theorem pe_binit {pl : Sem Bool} (hg : Gl X "ValueError") (hm : X.mg "ValueError" = none) (ha : PA X [a, b] t) (hst : starEach [a, b] X.env = (false, eval a X.env) :: starEach [b] X.env := by rfl) (hpl : (backTo pos (starEach [b] X.env)).any (·.1) = false := by rfl)
    (ht : eval (.Call (.Attribute (.Name "ValueError" np) "__init__" apos) [a, b] [] pos) X.env = (do
      let ov ← eval (.Name "ValueError" np) X.env
      standAt apos.atName
      let (f, first) ← holding [ov] (getMethod ov "__init__" pl)
      callWith pos f first (backTo pos (starEach [a, b] X.env)) (backToKw pos (keywordEach [] X.env))) := by rfl) :
    PE X (.Call (.Attribute (.Name "ValueError" np) "__init__" apos) [a, b] [] pos) (tBInit X.K t) := by
  intro pins s σ H Q I h
  refine PySem.W.methodCall_KW (pl := pl) (thn ((pe_bty (X := X) (pos := np) hg hm boot_ValueError) pins s σ H (fun v H1 => v = .ty "ValueError" ∧ H1 = H) I ⟨rfl, rfl⟩) fun u s1 ⟨y, H1, I1, ry, e1, e2⟩ => ?_) ht
  subst e1 e2
  obtain rfl : u = Value.type "ValueError" := ry
  obtain ⟨m, F⟩ := I1.fr
  refine method_type F I1.ok.mod.kin (by kernel_rfl) (by decide +kernel) (v := .builtin "ValueError.__init__") (by kernel_rfl) (by decide +kernel) ?_
  have I2 := I1.tok (s1.toks + 1)
  refine callWith_builtin1 (thn (ha pos pins _ σ H1 _ I2 h) fun us s2 ⟨vs, H2, I3, r, q⟩ => ?_) hst hpl
  obtain ⟨ea, C, dx, fr, bm, y, rfl, hx, Xc, q⟩ := q
  obtain ⟨u1, us1, rfl, r1, r2⟩ : ∃ u1 us1, us = u1 :: us1 ∧ RelV (.ref ea) u1 ∧ Vals [y] us1 := by cases r with | cons p q => exact ⟨_, _, rfl, p, q⟩
  obtain ⟨u2, rfl, r3⟩ := r2.one
  obtain rfl : u1 = Value.ref ea := r1
  obtain ⟨ob, ws, t0, z, a1, a2, a3, a4, a5, a6, a7, a8⟩ := xf_of I3.hok hx
  obtain ⟨hp, g, d, tk, os⟩ := s2
  refine x_init I3.kIn Xc a1 a2 a4 a5 ?_
  refine ⟨.non, H2, ?_, rfl, q⟩
  have k1 : ∀ b u, b ≠ ea → hp.get? b = some u → ((hp.push { cls := .type "tuple", data := .seq [u2].toArray }).update ea (Obj.mapFields (·.setIfInBounds 0 (.ref hp.objs.size)))).get? b = some u := fun b u hb hu => by
    rw [Heap.get?_update_other _ _ (Ne.symm hb)]
    exact Heap.get?_push_of_some _ hu
  have k2 := Heap.get?_update_self (Obj.mapFields (·.setIfInBounds 0 (.ref hp.objs.size))) (Heap.get?_push_of_some { cls := .type "tuple", data := .seq [u2].toArray } a1) (Obj.isFreed_of_fields (mf_data _ a4))
  have sz0 := (Array.getElem?_eq_some_iff.mp a5).1
  have := I3.write (t' := tk) (o := XF ea C dx fr) (x := ea) (e := ea) (by rw [hx]; exact True.intro) (.inl rfl) k1 ⟨_, k2⟩ (xf_ok ⟨_, _, hp.objs.size, z, k2, by rw [Obj.cls_mapFields]; exact a2, by rw [mf_dict]; exact a3, mf_data _ a4, by simp [sz0], by rw [Array.getElem?_setIfInBounds_ne (by decide)]; exact a6, a7, by rw [Array.getElem?_setIfInBounds_ne (by decide)]; exact a8⟩)
  rw [upd_self hx] at this
  exact this
structure XAttr (K : Frag) (C : Addr) : Prop where
  ga : findIn K (.ref C) "__getattribute__" = some (some (.builtin "BaseException.__getattribute__"))
  gx : findIn K (.ref C) "__getattr__" = some none
  sa : findIn K (.ref C) "__setattr__" = some (some (.builtin "object.__setattr__"))
noncomputable def tXSet (K : Frag) (ta tv : TE) (f : Str) : TS := fun D σ H => tv σ H fun y H1 => ta σ H1 fun x H2 => ∃ e C bm fr, x = .ref e ∧ XCls K C bm ∧ XUp bm ∧ XAttr K C ∧ NoAttr K C f ∧
  ((H2 e = some (XF e C none fr) ∧ ∀ dx, H2 dx = none → dx ≠ e → D.nx σ (upd (upd H2 dx (.xd [(f, y)])) e (XF e C (some dx) fr))) ∨ (∃ dx fs, H2 e = some (XF e C (some dx) fr) ∧ H2 dx = some (.xd fs) ∧ fs.length ≤ 900 ∧ D.nx σ (upd H2 dx (.xd (putF f y fs)))))
theorem within_of {mA : Str → Option Value} {fs : List (Str × V)} (h : ∀ f, RelO (fs.lookup f) (mA f)) : PySem.Within mA (fs.map (·.1)) := fun y hy => by
  cases e : fs.lookup y with
  | none =>
    have := h y
    rw [e] at this
    exact absurd (RelO.none_of this) hy
  | some v =>
    have := List.mem_map_of_mem (f := (·.1)) (PySem.mem_of_lookup e)
    exact this
theorem ps_xset (ha : PE X o ta) (hv : PE X value tv) (hs : swapsWith value (some (.Attribute o f apos)) pos.line X.env = pure false := by rfl) : PS X (.Assign [.Attribute o f apos] value pos) (tXSet X.K ta tv f) := by
  intro pins s σ H D I h
  refine plainObj_wpAny_Assign_Attribute (thn (hv pins s σ H _ I h) fun u s1 ⟨y, H1, I1, ry, q⟩ => thn (ha pins s1 σ H1 _ I1 q) fun ov s2 ⟨x, H2, I2, rx, ea, C, bm, fr, ex, Xc, U, Xa, n, q2⟩ => ?_) hs
  subst ex
  obtain rfl : ov = Value.ref ea := rx
  obtain ⟨hp, g, d, tk, os⟩ := s2
  rcases q2 with ⟨hx, q3⟩ | ⟨dx, fs, hx, hd, hl, q3⟩
  · obtain ⟨ob, ws, t0, z, a1, a2, a3, a4, a5, a6, a7⟩ := xf_of I2.hok hx
    refine x_set (mA := fun _ => none) (ns := []) I2.kIn Xc U Xa.sa n a1 a2 a4 (fun y hy => absurd rfl hy) (by simp) (.inl ⟨a3, fun _ => rfl⟩) fun h' dx tk' hdx g1 g2 g3 g4 => ?_
    have hsz : hp.objs.size ≤ dx := by
      rcases hdx with z | z
      · rw [a3] at z; cases z
      · exact z.2
    refine ⟨σ, _, ?_, q3 dx (I2.hok.fresh hsz) g2⟩
    have gg : ∀ b u, b ≠ ea → hp.get? b = some u → h'.get? b = some u := fun b u hb hu => g4 b u hb (Nat.ne_of_lt (Nat.lt_of_lt_of_le (Heap.lt_size hu) hsz)) hu
    have hfree := I2.hok.fresh hsz
    have okd : ObjOk X.prog X.w (upd (upd H2 dx (.xd [(f, y)])) ea (XF ea C (some dx) fr)) h' dx (.xd [(f, y)]) := ⟨_, g3, fun k => by
      by_cases hk : k = f
      · subst hk
        simp only [List.lookup, beq_self_eq_true, if_true]
        exact ry
      · have hb : (k == f) = false := beq_eq_false_iff_ne.mpr hk
        simp only [List.lookup, hb, if_neg hk]
        exact trivial⟩
    have okh : HOk X.prog X.w (upd (upd H2 dx (.xd [(f, y)])) ea (XF ea C (some dx) fr)) h' := fun b v hb => by
      by_cases h1 : b = ea
      · subst h1
        rw [upd_same] at hb
        cases hb
        exact xf_ok ⟨_, ws, t0, z, g1, a2, rfl, a4, a5, a6, a7⟩
      · rw [upd_ne h1] at hb
        by_cases h2 : b = dx
        · subst h2
          rw [upd_same] at hb
          cases hb
          exact okd
        · rw [upd_ne h2] at hb
          have nd : ∀ c u, H2 c = some u → c ≠ dx := fun c u hc z => by rw [z, hfree] at hc; cases hc
          refine (I2.hok b v hb).stay (fun c w' hc qq => gg c w' ?_ qq) (fun c qq => ?_) fun c xs qq => ?_
          · rcases hc with rfl | hc
            · exact h1
            · exact fun zz => by rw [zz, hx] at hc; cases hc
          · rw [upd_ne (fun zz => by rw [zz, hx] at qq; cases qq), upd_ne (nd c _ qq)]; exact qq
          · rw [upd_ne (fun zz => by rw [zz, hx] at qq; cases qq), upd_ne (nd c _ qq)]; exact qq
    refine I2.un (t' := tk') ?_ okh
    refine ⟨fun b u e n hb hx' => gg b u (fun zz => by rw [zz, hx] at n; cases n) e, fun b u e n hb hx' => ⟨u.slots, gg b u (fun zz => by rw [zz, hx] at n; cases n) e⟩, fun b u e n hx' => ?_, fun b u e hx' => ?_, fun b xs e => ?_, fun b u xs e => ?_, fun b ps e => ⟨#[], ?_⟩⟩
    · rw [upd_ne (fun zz => by rw [zz, hx] at n; cases n), upd_ne (Nat.ne_of_lt (Nat.lt_of_lt_of_le (Heap.lt_size e) hsz))]; exact n
    · by_cases h1 : b = ea
      · subst h1; exact ⟨_, g1⟩
      · exact ⟨u, gg b u h1 e⟩
    · rw [upd_ne (fun zz => by rw [zz, hx] at e; cases e), upd_ne (fun zz => by rw [zz, hfree] at e; cases e)]; exact e
    · rw [upd_ne (fun zz => by rw [zz, hx] at e; cases e), upd_ne (fun zz => by rw [zz, hfree] at e; cases e)]; exact e
    · rw [upd_ne (fun zz => by rw [zz, hx] at e; cases e), upd_ne (fun zz => by rw [zz, hfree] at e; cases e), e]; simp
  · obtain ⟨ob, ws, t0, z, a1, a2, a3, a4, a5, a6, a7⟩ := xf_of I2.hok hx
    obtain ⟨mA, hm, hr⟩ := (show ObjOk X.prog X.w H2 hp dx (.xd fs) from I2.hok dx _ hd)
    have hne : dx ≠ ea := fun zz => by rw [zz, hx] at hd; cases hd
    refine x_set (mA := mA) (ns := fs.map (·.1)) I2.kIn Xc U Xa.sa n a1 a2 a4 (within_of hr) (by rw [List.length_map]; omega) (.inr ⟨dx, a3, hne, hm⟩) fun h' dx' tk' hdx g1 g2 g3 g4 => ?_
    obtain rfl : dx' = dx := by
      rcases hdx with z | z
      · rw [a3] at z; exact (Option.some.inj z).symm
      · rw [a3] at z; cases z.1
    refine ⟨σ, _, ?_, q3⟩
    have gg : ∀ b u, b ≠ dx' → hp.get? b = some u → h'.get? b = some u := fun b u hb hu => by
      by_cases h1 : b = ea
      · subst h1
        rw [a1] at hu
        cases hu
        rw [g1, ← a3]
      · exact g4 b u h1 hb hu
    have nw : ObjOk X.prog X.w (upd H2 dx' (.xd (putF f y fs))) h' dx' (.xd (putF f y fs)) := ⟨_, g3, fun k => by
      rw [lookup_putF]
      by_cases hk : k = f
      · rw [if_pos hk, if_pos hk]
        exact ry
      · rw [if_neg hk, if_neg hk]
        exact hr k⟩
    have okh : HOk X.prog X.w (upd H2 dx' (.xd (putF f y fs))) h' := fun b v hb => by
      by_cases h1 : b = dx'
      · subst h1
        rw [upd_same] at hb
        cases hb
        exact nw
      · rw [upd_ne h1] at hb
        refine (I2.hok b v hb).stay (fun c w' hc qq => gg c w' ?_ qq) (fun c qq => ?_) fun c xs qq => ?_
        · rcases hc with rfl | hc
          · exact h1
          · exact fun zz => by rw [zz, hd] at hc; cases hc
        · rw [upd_ne (fun zz => by rw [zz, hd] at qq; cases qq)]; exact qq
        · rw [upd_ne (fun zz => by rw [zz, hd] at qq; cases qq)]; exact qq
    refine I2.un (t' := tk') ?_ okh
    refine ⟨fun b u e n hb hx' => gg b u (fun zz => by rw [zz, hd] at n; cases n) e, fun b u e n hb hx' => ⟨u.slots, gg b u (fun zz => by rw [zz, hd] at n; cases n) e⟩, fun b u e n hx' => ?_, fun b u e hx' => ?_, fun b xs e => ?_, fun b u xs e => ?_, fun b ps e => ⟨#[], ?_⟩⟩
    · rw [upd_ne (fun zz => by rw [zz, hd] at n; cases n)]; exact n
    · by_cases h1 : b = dx'
      · subst h1
        exact let ⟨u, _, _, e, _⟩ := g3; ⟨u, e⟩
      · exact ⟨u, gg b u h1 e⟩
    · rw [upd_ne (fun zz => by rw [zz, hd] at e; cases e)]; exact e
    · rw [upd_ne (fun zz => by rw [zz, hd] at e; cases e)]; exact e
    · rw [upd_ne (fun zz => by rw [zz, hd] at e; cases e), e]; simp
noncomputable def tXGet (K : Frag) (ta : TE) (f : Str) : TE := fun σ H Q => ta σ H fun x H1 => ∃ e C bm dx fs fr v, x = .ref e ∧ H1 e = some (XF e C (some dx) fr) ∧ XCls K C bm ∧ XAttr K C ∧ NoAttr K C f ∧ H1 dx = some (.xd fs) ∧ fs.lookup f = some v ∧ Q v H1
end
end L2
set_option Elab.async false
set_option linter.all false
set_option maxRecDepth 100000
set_option maxHeartbeats 4000000
namespace L2
open PySem PySem.Spec PyProof.Rows PySem.W
section
variable {X : Cx} {CX : CXT} {k : Nat} {f C : Addr} {fd : FuncData} {ps : List Str} {sp : Sp} {dvs : List V} {ds : List Value} {E : XK} {x m : Str} {p pos apos np : Pos} {e o : Expr} {es : List Expr} {ta te : TE} {t : TA} {bm : List Value}
structure XMk (K : Frag) (C : Addr) (bm : List Value) (f : Addr) : Prop where
  cls : XCls K C bm
  init : findIn K (.ref C) "__init__" = some (some (.ref f))
  fn : typeIn K (.ref f) = some (.type "function")
  kp : keepIn K (.ref C) = true
theorem run_exc {pins : List (Addr × Obj)} {σ : St} {H : Hp} {s : Shared} {Q : VK} {us : List Value} {vs : List V} (M : XMk X.K C bm f) (F : FnOk X.prog X.w X.K X.mg X.base CX k f fd ps sp) (hr : Room (k + 1) X.A) (hb : Binds X.K fd ps ds) (hd : Vals dvs ds)
    (hx : Passes CX X E) (I : Inv X pins σ H s) (r : Vals vs us) (hl0 : us.length ≤ 1000)
    (h : ∀ e, H e = none → sp (.ref e :: (vs ++ dvs)) (upd H e (XF e C none true)) (fun v H2 => v = .non ∧ Q (.ref e) H2) E) :
    wpAny (model X.prog X.w) X.A (call (.ref C) us) (EP X pins σ Q) X.xe s := by
  obtain ⟨hp, g, d, tk, os⟩ := s
  have hq := h (hp.objs.size + 1) (I.hok.fresh (Nat.le_succ _))
  have I2 : Inv X pins σ (upd H (hp.objs.size + 1) (XF (hp.objs.size + 1) C none true)) ⟨(hp.push { cls := .type "tuple", data := .seq us.toArray }).push { cls := .ref C, data := .fields #[.ref hp.objs.size, .none, .none, .none, .bool false, .none] }, g, d, tk, os⟩ := by
    refine I.laid (t' := tk) (fun b u e => Heap.get?_push_of_some _ (Heap.get?_push_of_some _ e)) (Nat.le_succ _) (xf_ok ⟨{ cls := .ref C, data := .fields #[.ref hp.objs.size, .none, .none, .none, .bool false, .none] }, #[.ref hp.objs.size, .none, .none, .none, .bool false, .none], hp.objs.size, .none, ?_, rfl, rfl, rfl, rfl, rfl, (fun _ => rfl), rfl⟩)
    heap_get
  have r2 : Vals (V.ref (hp.objs.size + 1) :: (vs ++ dvs)) (Value.ref (hp.objs.size + 1) :: (us ++ ds)) := .cons rfl (r.append hd)
  have hl : (Value.ref (hp.objs.size + 1) :: us ++ ds).length = ps.length := by
    have q := r2.length
    rw [F.len _ _ _ _ hq] at q
    exact q.symm
  refine x_call I.kIn M.cls M.init M.fn (by rw [sizeLine_eq]; omega) (wpAny_call (codeAny_mono (F.run _ X.stack _ _ ⟨Value.ref (hp.objs.size + 1) :: us, []⟩ (Value.ref (hp.objs.size + 1) :: (us ++ ds)) _ _ E (hr.make C us []) (I2.env0.make C us []) (hb _ (Value.ref (hp.objs.size + 1) :: us) I2.kIn hl) r2 hq) fun r s' hq' => ?_))
  cases r with
  | error e => exact hx pins σ _ _ e s' I2 hq'
  | ok fl =>
    cases fl with
    | ret u =>
      obtain ⟨v, H', I3, rv, ev, q3⟩ := I2.after hq'
      subst ev
      exact ⟨rv, ⟨V.ref (hp.objs.size + 1), H', I3, rfl, q3⟩⟩
    | next => exact False.elim hq'
    | brk => exact False.elim hq'
    | cont => exact False.elim hq'
noncomputable def tXMake (C : Addr) (sp : Sp) (dvs : List V) (E : XK) (t : TA) : TE := fun σ H Q => t σ H fun vs H1 => vs.length ≤ 1000 ∧ ∀ e, H1 e = none → sp (.ref e :: (vs ++ dvs)) (upd H1 e (XF e C none true)) (fun v H2 => v = .non ∧ Q (.ref e) H2) E
theorem pe_xmake (M : XMk X.K C bm f) (F : FnOk X.prog X.w X.K X.mg X.base CX k f fd ps sp) (hr : Room (k + 1) X.A) (hg : Gl X x) (hm : X.mg x = some (.ref C)) (hb : Binds X.K fd ps ds) (hd : Vals dvs ds) (hx : Passes CX X E)
    (ha : PA X (e :: es) t) (hdb : (x == ("__debug__" : Str)) = false := by decide) (he : starEach (e :: es) X.env = (false, eval e X.env) :: starEach es X.env := by rfl) (hpl : (backTo pos (starEach es X.env)).any (·.1) = false := by rfl) :
    PE X (.Call (.Name x p) (e :: es) [] pos) (tXMake C sp dvs E t) := by
  intro pins s σ H Q I h
  refine wpAny_Call_Name_kw (ld_glob I hg hm ?_ hdb)
  refine PySem.W.callWith_K (h₀ := X.base) I.ok.mod.kin M.kp (thn (ha pos pins s σ H _ I h) fun us s1 ⟨vs, H1, I1, r, ql, q⟩ => ⟨I1.kIn, ?_⟩) he hpl
  exact run_exc M F hr hb hd hx I1 r (show us.length ≤ 1000 by rw [← r.length]; exact ql) q
noncomputable def XeOk (X : Cx) (EX : XK) : Prop := ∀ (pins : List (Addr × Obj)) (σ : St) (H : Hp) (s : Shared) (ea C : Addr) (dx : Option Addr), Inv X pins σ H s → H ea = some (XF ea C dx false) → (∃ o vs, s.heap.get? ea = some o ∧ o.data = .fields vs ∧ vs[1]? = some Value.none) → EX (.ref C) (some ea) H → X.xe (.ref ea) s
theorem xeOk_cx {P : Program} {w : World} {K : Frag} {mg : Str → Option Value} {base : Heap} {N : List Str} {qual : Str} {scope : Scope} {f : Addr} {cd : Value} {A : Around} {outer : List Env} {s : Shared} {H : Hp} {E : XK} : XeOk (cxOf (CXo P w) P w K mg base N qual scope f cd A outer s H E) E := fun pins σ H' s2 ea C dx I hx ⟨o, vs, g1, g2, g3⟩ hE =>
  xe_of I hx (fun vs' o' c1 c2 => .inl (by rw [g1] at c1; cases c1; rw [g2] at c2; cases c2; exact g3)) hE
noncomputable def tRaise (EX : XK) (K : Frag) (te : TE) : TS := fun _ σ H => te σ H fun v H1 => ∃ e C dx bm, v = .ref e ∧ XCls K C bm ∧ H1 e = some (XF e C dx true) ∧ EX (.ref C) (some e) (upd H1 e (XF e C dx false))
theorem ps_raise {EX : XK} (hc : X.calm = true) (hE : XeOk X EX) (he : PE X e te) : PS X (.Raise (some e) none pos) (tRaise EX X.K te) := by
  intro pins s σ H D I h
  show wpAny _ _ (do standAt pos; raiseStmt X.env (some (do let v ← eval e X.env; standAt pos; pure v)) none) _ _ s
  refine wpAny_bind (wpAny_standAt (x_raise (K := X.K) (I.ok.hd hc) (wpAny_bind (thn (he pins s σ H _ I h) fun v s1 ⟨y, H1, I1, ry, q⟩ => wpAny_bind (wpAny_standAt (wpAny_pure ?_))))))
  obtain ⟨ea, C, dx, bm, rfl, Xc, hx, hq⟩ := q
  obtain rfl : v = Value.ref ea := ry
  obtain ⟨ob, ws, t0, z, a1, a2, a3, a4, a5, a6, a7, a8⟩ := xf_of I1.hok hx
  have a6 : ws[1]? = some Value.none := by rw [a6, a7 rfl]
  refine ⟨ea, ob, ws, C, bm, rfl, Xc, I1.kIn, a1, a2, a4, a6, ?_⟩
  have I2 : Inv X pins σ (upd H1 ea (XF ea C dx false)) s1 := by
    have := I1.write (t' := s1.toks) (h' := s1.heap) (o := XF ea C dx false) (x := ea) (e := ea) (by rw [hx]; exact True.intro) (.inl rfl) (fun _ _ _ z => z) ⟨_, a1⟩ (xf_ok ⟨ob, ws, t0, .none, a1, a2, a3, a4, a5, a6, (fun z => by cases z), a8⟩)
    exact this
  exact hE pins σ _ s1 ea C dx I2 upd_same ⟨ob, ws, a1, a4, a6⟩ hq
end
theorem Fun.okX {P : Program} {w : World} {K : Frag} {mg : Str → Option Value} {base : Heap} {x qual : Str} {st : Stmt} {f : Addr} {fd : FuncData} {N ps : List Str} {k : Nat} {sp : Sp} (F : Fun K x qual st f fd) (S : FnScope N ps (defScope st)) (len : ∀ vs H Q E, sp vs H Q E → vs.length = ps.length)
    (hbody : ∀ (cdv : Value) (A : Around) (outer : List Env) (s : Shared) (H : Hp) (vs : List V) (Q : VK) (E : XK), Room k (A.deeper (envOfC qual (defScope st) s.heap.objs.size f cdv)) → sp vs H Q E →
      ∃ t, PSs (cxOf (CXo P w) P w K mg base N qual (defScope st) f cdv A outer s H E) (defBody st) t ∧ t { nx := fun _ H' => Q .non H', rt := Q } (start N vs) H) : FnOk P w K mg base (CXo P w) (k + 1) f fd ps sp := by
  obtain ⟨oc, od, kV, doc, pm, an, cdv, ct, osl, rfl, lk, hcd⟩ := F.ex
  exact fn_of lk hcd S len fun A outer s H vs Q E hr hsp => hbody cdv A outer s H vs Q E hr hsp
end L2
set_option Elab.async false
set_option linter.all false
set_option maxRecDepth 100000
set_option maxHeartbeats 4000000
namespace L2
open PySem PySem.Spec PyProof.Rows PySem.W
noncomputable def Cx.inX (X : Cx) (ea : Addr) : Cx := { X with A := X.A.mark (some (.ref ea)), calm := false, xe := fun _ _ => False }
section
variable {X : Cx} {pins : List (Addr × Obj)} {σ : St} {H : Hp} {s : Shared} {ea : Addr}
theorem Inv.inX (I : Inv X pins σ H s) (ea : Addr) : Inv (X.inX ea) pins σ H s :=
  ⟨⟨I.ok.mod, I.ok.kind, I.ok.glob, I.ok.blt, I.ok.above, I.ok.inj, I.ok.has, I.ok.cab, (fun z => by cases z), I.ok.frames, I.ok.stk, I.ok.exf, I.ok.bs, I.ok.bsz, I.ok.noex, I.ok.exfs, I.ok.funs, I.ok.frf⟩, I.os, I.bare, I.base, I.loc, I.cell, I.free, I.freeC, I.pin, I.hok, I.len⟩
theorem Inv.outX (ok : X.Ok) (I : Inv (X.inX ea) pins σ H s) : Inv X pins σ H s := ⟨ok, I.os, I.bare, I.base, I.loc, I.cell, I.free, I.freeC, I.pin, I.hok, I.len⟩
theorem SP.outX (ok : X.Ok) {D : Ends} {f : Flow} {s' : Shared} (h : SP (X.inX ea) pins D f s') : SP X pins D f s' := by
  cases f with
  | next => obtain ⟨σ', H', I, q⟩ := h; exact ⟨σ', H', I.outX ok, q⟩
  | brk => obtain ⟨σ', H', I, q⟩ := h; exact ⟨σ', H', I.outX ok, q⟩
  | cont => obtain ⟨σ', H', I, q⟩ := h; exact ⟨σ', H', I.outX ok, q⟩
  | ret u => obtain ⟨v, σ', H', I, r, q⟩ := h; exact ⟨v, σ', H', I.outX ok, r, q⟩
theorem gone_ok {M : Model} {A : Around} {E : Value → Shared → Prop} {n : Nat} {nm : Str} {pos : Pos} {Q : Unit → Shared → Prop} (I : Inv X pins σ H s) (hN : X.N.Nodup) (hn : X.N[n]? = some nm) (hk : X.env.kindOf nm = some .local) (h : ∀ s', Inv X pins (σ.set n none) H s' → Q () s') :
    wpAny M A (do bindName X.env nm .none; unbindBehindTheSuite X.env nm pos) Q E s := by
  obtain ⟨m, hm, hl⟩ := id I.loc
  have hcls : (X.env.scope.kind == .class || (X.env.scope.kind == .module && X.env.locals != X.env.globals)) = false := by rw [I.ok.kind]; rfl
  refine wpAny_nameGoes_keeps hk hm hcls fun h' v hm' hs => h _ ?_
  have ne0 : ∀ b o, X.s₀.heap.get? b = some o → b ≠ X.env.locals := fun b o e => Nat.ne_of_lt (Nat.lt_of_lt_of_le (Heap.lt_size e) I.ok.above)
  refine ⟨I.ok, I.os, I.bare, ⟨fun b o e n hb hx => (hs.2 b (ne0 b o e)).trans (I.base.keep b o e n hb hx), fun b o e n hb hx => ?_, I.base.free, fun b o e hx => ?_, I.base.tups, I.base.frzs, I.base.tbls⟩, ⟨_, hm', fun j y v' e1 e2 e3 => ?_⟩, fun y c e => ?_, I.free, I.freeC, fun p hp => ?_, fun b u e => ?_, by simpa using I.len⟩
  · obtain ⟨sl, e1⟩ := I.base.slot b o e n hb hx
    exact ⟨sl, (hs.2 b (ne0 b o e)).trans e1⟩
  · obtain ⟨o', e1⟩ := I.base.there b o e hx
    exact ⟨o', (hs.2 b (ne0 b o e)).trans e1⟩
  · by_cases hj : j = n
    · subst hj
      have hlt : j < σ.length := by rw [I.len]; exact (List.getElem?_eq_some_iff.mp hn).1
      rw [List.getElem?_set_self hlt] at e2
      cases e2
    · rw [List.getElem?_set_ne (Ne.symm hj)] at e2
      obtain ⟨u', r', q⟩ := hl j y v' e1 e2 e3
      refine ⟨u', r', ?_⟩
      rcases q with ⟨k, e⟩ | ⟨k, c, e, z⟩
      · refine .inl ⟨k, ?_⟩
        have : y ≠ nm := fun e => hj (nodup_ix hN e1 (e ▸ hn))
        simp [this, e]
      · exact .inr ⟨k, c, e, z.sameBut hs (I.cne y c e)⟩
  · obtain ⟨w', z⟩ := I.cell y c e
    exact ⟨w', z.sameBut hs (I.cne y c e)⟩
  · obtain ⟨e, n', ne, nf, d⟩ := I.pin p hp
    exact ⟨(hs.2 p.1 ne).trans e, n', ne, nf, d⟩
  · refine (I.hok b u e).stay (fun c w' hc q => (hs.2 c ?_).trans q) (fun _ q => q) fun _ _ q => q
    rintro rfl
    rcases hc with z | z
    · rw [← z, I.free] at e; cases e
    · rw [I.free] at z; cases z
theorem fly_ok {M : Model} {A : Around} {E : Value → Shared → Prop} {T : Addr} {o : Obj} {vs : Array Value} {Q : Unit → Shared → Prop} (I : Inv X pins σ H s) (ge : s.heap.get? ea = some o) (gd : o.data = .fields vs) (g1 : vs[1]? = some (.ref T)) (hT : TOk X pins H T) (tb : TbIs s.heap T)
    (q : ∀ s', Inv X pins σ H s' → Q () s') : wpAny M A (setFlight (.ref ea) none) Q E s := by
  obtain ⟨oT, ts, h1, h2, h3⟩ := tb
  unfold setFlight
  refine wpAny_bind (wpAny_field ge gd g1 ?_)
  rw [if_pos (show (Value.ref T != Value.none) = true from by simp)]
  refine wpAny_setField h1 h2 (Array.getElem?_eq_some_iff.mp h3).1 (q _ ?_)
  exact I.turned (t' := s.toks) (it := T) (fun b u hb hu => by rw [Heap.get?_update_other _ _ (Ne.symm hb)]; exact hu) hT.2.2.2.2 hT.2.1 (.inr hT.1) hT.2.2.1 hT.2.2.2.1
noncomputable abbrev Ends.gone (D : Ends) (n : Nat) : Ends := { nx := fun σ' H' => D.nx (σ'.set n none) H', rt := D.rt, bk := fun σ' H' => D.bk (σ'.set n none) H', ct := fun σ' H' => D.ct (σ'.set n none) H' }
noncomputable def MetAt (X : Cx) (pins : List (Addr × Obj)) (H : Hp) (ea : Addr) (h : Heap) : Prop := ∃ o vs T, h.get? ea = some o ∧ o.data = .fields vs ∧ vs[1]? = some (Value.ref T) ∧ T ≠ ea ∧ TOk X pins H T ∧ TbIs h T
theorem handle_as {C C' : Addr} {dx : Option Addr} {bm bm' : List Value} {cx nm : Str} {cp hpos : Pos} {n : Nat} {b0 : Stmt} {suite : List Stmt} {ts : TS} {D : Ends} (hst : X.stack = X.env :: X.outer) (hfr : X.env.frame = some X.env.locals) (I : Inv X pins σ H s) (hx : H ea = some (XF ea C dx false)) (tb : MetAt X pins H ea s.heap)
    (Xc : XCls X.K C bm) (Xd : XCls X.K C' bm') (hm : (Value.ref C :: bm).contains (.ref C') = true) (hg : Gl X cx) (hmc : X.mg cx = some (.ref C')) (hdb : (cx == ("__debug__" : Str)) = false) (hN : X.N.Nodup) (hn : X.N[n]? = some nm) (hk : X.env.kindOf nm = some .local) (hloc : Loc X.env.scope nm) (hf : X.fn nm = true ∨ X.env.scope.names.lookup nm = some .local)
    (hs : PSs (X.inX ea) (b0 :: suite) ts) (h : ts (D.gone n) (σ.set n (some (.ref ea))) H) :
    wpAny (model X.prog X.w) X.A (noteFrame (.ref ea) X.env) (fun _ s2 => wpAny (model X.prog X.w) X.A (setFlight (.ref ea) none) (fun _ s3 => wpAny (model X.prog X.w) X.A (handleBy (.ref ea) X.env [.ExceptHandler (some (.Name cx cp)) (some nm) (b0 :: suite) hpos]) (SP X pins D) X.xe s3) X.xe s2) X.xe s := by
  obtain ⟨o, vs, T, a1, a2, a3, a4, a5, a6⟩ := tb
  have frs' : X.A.frames = some (X.env :: X.outer) := by rw [← hst]; exact I.ok.frames
  have ff : s.heap.FunFrames X.base (X.env :: X.outer) := by rw [← hst]; exact I.stack
  refine leave_any (ok := fun b => b = T) frs' ff hfr a1 a2 (.inr ⟨T, a3, a4, rfl, a6⟩) fun h' l => ?_
  rw [← hst] at l
  have I2 := inv_left I hx a1 l (ch := [T]) (fun _ z => List.mem_singleton.mpr z) (fun b z => by rw [List.mem_singleton.mp z]; exact a5) rfl
  obtain ⟨o2, vs2, T2, c1, c2, c3, c4, c5, c6, c7⟩ := tb_left I a1 a2 (Array.getElem?_eq_some_iff.mp a3).1 l
  have c8 : TOk X pins H T2 := tok_new I c5 c6
  generalize hs3 : ({ s with heap := h' } : Shared) = s3 at I2
  have c1 : s3.heap.get? ea = some o2 := by rw [← hs3]; exact c1
  have c7 : TbIs s3.heap T2 := by rw [← hs3]; exact c7
  refine wpAny_handleBy_cons (codeAny_handlers_test (ld_glob (X := X.inX ea) (I2.inX ea) hg hmc ?_ hdb)) (by intro q; cases q)
  obtain ⟨ob, ws, t0, z, d1, d2, d3, d4, d5, d6, d7⟩ := xf_of I2.hok hx
  obtain ⟨hp, g, d, tk, os⟩ := s3
  refine x_match I2.kIn Xc d1 d2 Xd ?_
  rw [hm]
  refine codeAny_handlers_suite_as ?_
  refine fly_ok I2 c1 c2 c3 c8 c7 fun s5 I5 => ?_
  refine store_ok I5 hN hn hloc (v := .ref ea) rfl (fun s6 I6 => ?_) hf
  refine wpAny_mono (hs pins s6 _ H (D.gone n) (I6.inX ea) h) (fun f s7 q7 => ?_) fun _ _ z => z.elim
  have ok := I.ok
  cases f with
  | next => obtain ⟨σ', H', I', q⟩ := q7; exact gone_ok (I'.outX ok) hN hn hk fun s8 I8 => ⟨_, H', I8, q⟩
  | brk => obtain ⟨σ', H', I', q⟩ := q7; exact gone_ok (I'.outX ok) hN hn hk fun s8 I8 => ⟨_, H', I8, q⟩
  | cont => obtain ⟨σ', H', I', q⟩ := q7; exact gone_ok (I'.outX ok) hN hn hk fun s8 I8 => ⟨_, H', I8, q⟩
  | ret u => obtain ⟨v, σ', H', I', r, q⟩ := q7; exact gone_ok (I'.outX ok) hN hn hk fun s8 I8 => ⟨v, _, H', I8, r, q⟩
end
section
variable {X : Cx} {k : Nat} {f C' : Addr} {fd : FuncData} {ps : List Str} {sp : Sp} {dvs : List V} {ds : List Value} {x y nm cx : Str} {p pos apos cp hpos py tpos : Pos} {e : Expr} {es : List Expr} {t : TA} {bm' : List Value} {b0 : Stmt} {suite : List Stmt} {ts : TS} {i n : Nat}
noncomputable def tTry (K : Frag) (C' : Addr) (sp : Sp) (dvs : List V) (t : TA) (ok : Ends → St → V → Hp → Prop) (hd : Ends → St → Addr → Hp → Prop) : TS := fun D σ H => t σ H fun vs H1 => sp (vs ++ dvs) H1 (fun v H2 => ok D σ v H2) (fun c eo H2 => ∀ ea, eo = some ea → ∃ C dx bm, c = .ref C ∧ H2 ea = some (XF ea C dx false) ∧ XCls K C bm ∧ (Value.ref C :: bm).contains (.ref C') = true ∧ hd D σ ea H2)
theorem try_drop {pins : List (Addr × Obj)} {s : Shared} {σ : St} {H : Hp} {D : Ends} {Eh : Value → Shared → Prop} (hs : swapsWith e none pos.line X.env = pure false)
    (h : wpAny (model X.prog X.w) X.A (eval e X.env) (EP X pins σ fun v H2 => D.nx σ H2) Eh s) (I : Inv X pins σ H s) :
    wpAny (model X.prog X.w) X.A (execs [.Expr e pos] X.env) (fun f s1 => match f with | .next => wpAny (model X.prog X.w) X.A (execs [] X.env) (SP X pins D) X.xe s1 | f => SP X pins D f s1) Eh s := by
  refine wpAny_execs_cons (wpAny_Expr_any (thn h fun v s1 ⟨z, H1, I1, r1, q1⟩ => wpAny_execs_nil (wpAny_execs_nil ⟨_, H1, I1, q1⟩)) ?_ hs)
  have := I.ok.kind
  simp [interactive, this]
end
end L2
set_option Elab.async false
set_option linter.all false
set_option maxRecDepth 100000
set_option maxHeartbeats 4000000
namespace L2
open PySem PySem.Spec PyProof.Rows PySem.W
structure FunD (K : Frag) (x qual : Str) (st : Stmt) (f : Addr) (fd : FuncData) (dV : Value) : Prop where
  ex : ∃ (oc : Value) (od : Option Addr) (kV doc pm : Value) (an : Option Addr) (cdv ct : Value) (osl : Array (Option Value)),
    fd = fnOf x qual (defArgs st) (defBody st) (defScope st) dV kV doc pm an cdv ct ∧ K.lookup f = some ⟨oc, od, .func fd, osl⟩ ∧ codeIn K cdv qual = true
  kp : keepIn K (.ref f) = true
section
variable {P : Program} {w : World} {K : Frag} {mg : Str → Option Value} {base : Heap}
theorem FunD.ok {dV : Value} {x qual : Str} {st : Stmt} {f : Addr} {fd : FuncData} {N ps : List Str} {k : Nat} {sp : Sp} (F : FunD K x qual st f fd dV) (S : FnScope N ps (defScope st)) (len : ∀ vs H Q E, sp vs H Q E → vs.length = ps.length)
    (hbody : ∀ (cdv : Value) (A : Around) (outer : List Env) (s : Shared) (H : Hp) (vs : List V) (Q : VK) (E : XK), Room k (A.deeper (envOfC qual (defScope st) s.heap.objs.size f cdv)) → sp vs H Q E →
      ∃ t, PSs (cxOf CX0 P w K mg base N qual (defScope st) f cdv A outer s H E).nox (defBody st) t ∧ t { nx := fun _ H' => Q .non H', rt := Q } (start N vs) H) : FnOk P w K mg base CX0 (k + 1) f fd ps sp := by
  obtain ⟨oc, od, kV, doc, pm, an, cdv, ct, osl, rfl, lk, hcd⟩ := F.ex
  refine fn_of lk hcd S len fun A outer s H vs Q E hr hsp => ?_
  obtain ⟨t, h, q⟩ := hbody cdv A outer s H vs Q E hr hsp
  exact ⟨t, h.nox, q⟩
theorem funD_mk {dV : Value} {x qual : Str} {st : Stmt} {f : Addr} {oc : Value} {od an : Option Addr} {osl : Array (Option Value)} {kV doc pm cdv ct : Value} (l : K.lookup f = some ⟨oc, od, .func (fnOf x qual (defArgs st) (defBody st) (defScope st) dV kV doc pm an cdv ct), osl⟩)
    (c : codeIn K cdv qual = true) (k : keepIn K (.ref f) = true) : FunD K x qual st f (fnOf x qual (defArgs st) (defBody st) (defScope st) dV kV doc pm an cdv ct) dV := ⟨⟨oc, od, kV, doc, pm, an, cdv, ct, osl, rfl, l, c⟩, k⟩
end
end L2
set_option Elab.async false
set_option linter.all false
set_option maxRecDepth 100000
set_option maxHeartbeats 4000000
namespace Att
open PySem PySem.W PySem.Calls PyProof.Rows
end Att
namespace L2
open PySem PySem.Spec PyProof.Rows
end L2
set_option Elab.async false
set_option linter.all false
set_option maxRecDepth 100000
set_option maxHeartbeats 4000000
namespace L2
open PySem PySem.Spec PyProof.Rows PySem.W
section
variable {X : Cx}
end
section
variable {K : Frag} {σ : St} {H : Hp} {Q : VK} {D : Ends} {t : TA} {te ta tv : TE} {f : Str} {sp : Sp} {dvs : List V} {E EX : XK} {C C' : Addr}
theorem tRaise_i (k : te σ H fun v H1 => ∃ e C dx bm, v = .ref e ∧ XCls K C bm ∧ H1 e = some (XF e C dx true) ∧ EX (.ref C) (some e) (upd H1 e (XF e C dx false))) : tRaise EX K te D σ H := k
theorem tXMake_i (k : t σ H fun vs H1 => vs.length ≤ 1000 ∧ ∀ e, H1 e = none → sp (.ref e :: (vs ++ dvs)) (upd H1 e (XF e C none true)) (fun v H2 => v = .non ∧ Q (.ref e) H2) E) : tXMake C sp dvs E t σ H Q := k
theorem tTry_i {ok : Ends → St → V → Hp → Prop} {hd : Ends → St → Addr → Hp → Prop} (k : t σ H fun vs H1 => sp (vs ++ dvs) H1 (fun v H2 => ok D σ v H2) (fun c eo H2 => ∀ ea, eo = some ea → ∃ C dx bm, c = .ref C ∧ H2 ea = some (XF ea C dx false) ∧ XCls K C bm ∧ (Value.ref C :: bm).contains (.ref C') = true ∧ hd D σ ea H2)) : tTry K C' sp dvs t ok hd D σ H := k
theorem tXGet_i (k : ta σ H fun x H1 => ∃ e C bm dx fs fr v, x = .ref e ∧ H1 e = some (XF e C (some dx) fr) ∧ XCls K C bm ∧ XAttr K C ∧ NoAttr K C f ∧ H1 dx = some (.xd fs) ∧ fs.lookup f = some v ∧ Q v H1) : tXGet K ta f σ H Q := k
theorem tBInit_i (k : t σ H fun vs H2 => ∃ e C dx fr bm y, vs = [.ref e, y] ∧ H2 e = some (XF e C dx fr) ∧ XCls K C bm ∧ Q .non H2) : tBInit K t σ H Q := k
theorem tXSet_i (k : tv σ H fun y H1 => ta σ H1 fun x H2 => ∃ e C bm fr, x = .ref e ∧ XCls K C bm ∧ XUp bm ∧ XAttr K C ∧ NoAttr K C f ∧
  ((H2 e = some (XF e C none fr) ∧ ∀ dx, H2 dx = none → dx ≠ e → D.nx σ (upd (upd H2 dx (.xd [(f, y)])) e (XF e C (some dx) fr))) ∨ (∃ dx fs, H2 e = some (XF e C (some dx) fr) ∧ H2 dx = some (.xd fs) ∧ fs.length ≤ 900 ∧ D.nx σ (upd H2 dx (.xd (putF f y fs)))))) : tXSet K ta tv f D σ H := k
end
noncomputable def rowS : Str := Str.ofString "row"
structure Born (H H' : Hp) (e C : Addr) (fr : Bool) (fs : List (Str × V)) : Prop where
  ex : ∃ dx, H dx = none ∧ dx ≠ e ∧ H' e = some (XF e C (some dx) fr) ∧ H' dx = some (.xd fs)
  keep : ∀ b, b ≠ e → ∀ o, H b = some o → H' b = some o
noncomputable def IsX (H : Hp) (ea C : Addr) (fs : List (Str × V)) : Prop := ∃ dx, H ea = some (XF ea C (some dx) false) ∧ H dx = some (.xd fs)
theorem IsX.mono {H H' : Hp} {ea C : Addr} {fs : List (Str × V)} (h : IsX H ea C fs) (s : Same H H') : IsX H' ea C fs := by
  obtain ⟨dx, a, b⟩ := h
  exact ⟨dx, s _ _ a, s _ _ b⟩
noncomputable abbrev sp_TrailError_init (K : Frag) : Sp := fun vs H Q _ => match vs with
  | [.ref e, v, .int r] => ∃ C bm fr, XCls K C bm ∧ XUp bm ∧ XAttr K C ∧ NoAttr K C rowS ∧ H e = some (XF e C none fr) ∧ ∀ H', Born H H' e C fr [(rowS, .int r)] → Q .non H'
  | _ => False
theorem born_raise {H H1 H2 : Hp} {e C : Addr} {fs : List (Str × V)} (hn : H e = none) (s : Same H H1) (h1 : H1 e = none) (b : Born (upd H1 e (XF e C none true)) H2 e C true fs) : ∃ dx, H2 e = some (XF e C dx true) ∧ IsX (upd H2 e (XF e C dx false)) e C fs ∧ Same H (upd H2 e (XF e C dx false)) := by
  obtain ⟨⟨dx, a1, a2, a3, a4⟩, k⟩ := b
  refine ⟨some dx, a3, ⟨dx, upd_same, by rw [upd_ne a2]; exact a4⟩, fun c o hc => ?_⟩
  have hce : c ≠ e := fun z => by rw [z, hn] at hc; cases hc
  rw [upd_ne hce]
  exact k c hce o (by rw [upd_ne hce]; exact s c o hc)
end L2
set_option Elab.async false
set_option linter.all false
set_option maxRecDepth 100000
set_option maxHeartbeats 4000000
namespace L2
open PySem PySem.Spec PyProof.Rows PySem.W
structure RoomN (k : Nat) (A : Around) : Prop where
  dp : A.depth + 3 * k + 5 < recursionLimit
  un : A.units + 16 * k + 200 < cLine
theorem RoomN.mono {j k : Nat} {A : Around} (r : RoomN k A) (h : j ≤ k) : RoomN j A := ⟨by have := r.dp; omega, by have := r.un; omega⟩
theorem RoomN.deeper {k : Nat} {A : Around} (r : RoomN (k + 1) A) (env : Env) : RoomN k (A.deeper env) :=
  ⟨by have := r.dp; show A.depth + 1 + 3 * k + 5 < _; omega, by have := r.un; show A.units + 3 + 16 * k + 200 < _; omega⟩
theorem RoomN.depth {k : Nat} {A : Around} (r : RoomN k A) : A.depth < recursionLimit := by have := r.dp; omega
theorem RoomN.of {k : Nat} {A : Around} (r : Room k A) : RoomN k A := ⟨r.dp, r.un⟩
structure FnOkN (P : Program) (w : World) (K : Frag) (mg : Str → Option Value) (base : Heap) (k : Nat) (f : Addr) (fd : FuncData) (ps : List Str) (sp : Sp) : Prop where
  len : ∀ vs H Q E, sp vs H Q E → vs.length = ps.length
  run : ∀ (A : Around) (outer : List Env) (s : Shared) (H : Hp) (args : Args) (us : List Value) (vs : List V) (Q : VK) (E : XK), RoomN k A → Env0 P w K mg base A outer s H → BindsTo s fd args (ps.zip us) → Vals vs us → sp vs H Q E →
    codeAny (model P w) A (.call (.ref f) args) (CR CX0 outer P w H s Q E) s
theorem FnOkN.fn {P : Program} {w : World} {K : Frag} {mg : Str → Option Value} {base : Heap} {k : Nat} {f : Addr} {fd : FuncData} {ps : List Str} {sp : Sp} (F : FnOkN P w K mg base k f fd ps sp) : FnOk P w K mg base CX0 k f fd ps sp :=
  ⟨F.len, fun A outer s H args us vs Q E hr => F.run A outer s H args us vs Q E (.of hr)⟩
section
variable {P : Program} {w : World} {K : Frag} {mg : Str → Option Value} {base : Heap} {N ps : List Str} {qual : Str} {scope : Scope} {f : Addr} {cd : Value} {A : Around} {outer : List Env} {s s1 : Shared} {H : Hp} {E : XK} {us : List Value} {vs : List V}
end
section
variable {X : Cx} {k : Nat} {f : Addr} {fd : FuncData} {ps : List Str} {sp : Sp} {dvs : List V} {ds : List Value} {x : Str} {p pos : Pos} {e : Expr} {es : List Expr} {t : TA}
end
structure XIs (K : Frag) (C : Addr) : Prop where
  ha : findIn K (.ref C) "__class__" = some (some (.builtin "object.__class__"))
  hn : specialIn K (.builtin "object.__class__") "__get__" = some (some (.builtin "getset_descriptor.__get__"))
  htk : takesIn K (.builtin "object.__class__") = some true
  hm : mroIn K C (.type "object") = some true
section
variable {prog : Program} {w : World} {A : Around} {E : Value → Shared → Prop} {s : Shared} {K : Frag} {C e : Addr} {bm : List Value} {ox od : Obj}
theorem x_class {Q : Option Value → Shared → Prop} (KX : K.In s.heap) (X : XCls K C bm) (XA : XAttr K C) (Z : XIs K C) (J : InstAt s.heap e ox C (some od)) (hq : Q (some (.ref C)) { s with toks := s.toks + 1 }) :
    wpAny (model prog w) A (getAttr? (.ref e) "__class__") Q E s := by
  obtain ⟨h, g, d, t, os⟩ := s
  obtain ⟨oxc, oxd, oxt, oxs⟩ := ox
  have hoc0 : oxc = .ref C := J.cls
  subst hoc0
  have KX : K.In h := KX
  have J : InstAt h e ⟨.ref C, oxd, oxt, oxs⟩ C (some od) := J
  obtain ⟨nm, q, N, bs, sn, sub, ab, col, dd, k0, k1, k2, k3, k5, hC'⟩ := X.obj
  have hC := KX _ _ hC'
  have cB : (Value.ref C :: bm).contains (.type "BaseException") = true := by rw [List.contains_cons, X.hasB, Bool.or_true]
  have FB := PySem.F.excAttr_ValueError
  have he : h.get? e = some ⟨.ref C, oxd, oxt, oxs⟩ := J.at_
  have ga := XA.ga
  have gx := XA.gx
  have f3 := FB.ga.bind (.ref e)
  have hx0 : (false && onTheHeap (Value.builtin "BaseException.__getattribute__")) = false := rfl
  have hx2 : (Value.builtin "BaseException.__getattribute__" == Value.builtin "object.__getattribute__") = false := by decide +kernel
  have hx1 : (onTheHeap (Value.ref C) && Value.builtin "BaseException.__getattribute__" == Value.builtin "object.__getattribute__") = false := by rw [hx2]; rfl
  have L0 := J.type (M := model prog w)
  have hcs : (clsIn K C).isSome = true := by unfold clsIn; rw [show List.lookup C K = _ from hC']; rfl
  have L1 := looks_find (M := model prog w) KX J (findObj_data hcs Z.ha Z.hn Z.htk)
  unfold getAttr? getAttrBy? getAttrBy
  repeat (any_goals (first | assumption | with_reducible refine wpAny_loadPart_at he ?_ | with_reducible refine (looks_findIn KX ga).here ?_ | with_reducible refine (looks_findIn KX gx).here ?_ | wp_step | dsimp only))
  have hk : builtinKind "BaseException.__getattribute__" = some .slot := by decide +kernel
  have hsp : splitId "BaseException.__getattribute__" = some ("BaseException", "__getattribute__") := by decide +kernel
  have hargs := PySem.F.args_bexc_ga (.ref e) (.str "__class__" t)
  have ck : ∀ (Q' : Unit → Shared → Prop) (u : Nat), Q' () ⟨h, g, d, u, os⟩ → ∀ A' E', wpAny (model prog w) A' (checkBuiltinCall "BaseException.__getattribute__" ⟨[.ref e, .str "__class__" t], []⟩) Q' E' ⟨h, g, d, u, os⟩ := by
    intro Q' u hq' A' E'
    simp only [checkBuiltinCall, hk, hsp]
    refine wpAny_bind ?_
    unfold isInstance
    repeat (first | with_reducible refine wpAny_loadPart_at he ?_ | (with_reducible refine wpAny_isSubtype_exc hC ?_; rw [cB]) | wp_step)
    exact hq'
  refine codeAny_call_builtin FB.ga.plain PySem.F.entry_bexc_ga (ck _ _ ?_ _ _)
  unfold Builtin.«object.__getattribute__»
  refine wpAny_bind (wpAny_of_eq (a := (Value.ref e, [Value.str "__class__" t])) rfl ?_)
  refine wpAny_bind (wpAny_pure (wpAny_bind (L0.at (wpAny_bind (L1.at ?_)))))
  show wpAny _ _ (holding [Value.builtin "object.__class__"] (call (.builtin "getset_descriptor.__get__") [.builtin "object.__class__", .ref e, .ref C]) >>= ret) _ _ _
  refine wpAny_bind (wpAny_holding (wpAny_call (class_get (od := some od) KX J Z.hm ?_)))
  refine wpAny_pure ?_
  exact handed_on rfl (wpAny_pure hq)
theorem kitx_x (X : XCls K C bm) (XA : XAttr K C) (Z : XIs K C) : KitX K (.ref e) (.ref C) (fun h => ∃ ox od, InstAt h e ox C (some od)) where
  ty := fun _ _ _ I => by obtain ⟨ox, od, I⟩ := I; exact I.type
  it := fun _ _ KX _ => by
    obtain ⟨nm, q, N, bs, sn, sub, ab, col, dd, k0, k1, k2, k3, k5, hC'⟩ := X.obj
    intro A' Q' E' s' k q
    unfold isType loadHead
    exact wpAny_bind (wpAny_loadPart (k _ _ (KX _ _ hC')) (wpAny_pure q))
  ne := fun h tp dd its n sl KX htp => by
    obtain ⟨nm, q, N, bs, sn, sub, ab, col, dd, k0, k1, k2, k3, k5, hC'⟩ := X.obj
    refine Bool.eq_false_iff.mpr fun q => ?_
    have e : C = tp := Value.ref.inj (beq_iff_eq.mp q)
    subst e
    have z := (KX _ _ hC').symm.trans htp
    exact nomatch (show Data.cls _ = Data.seq its.toArray n from congrArg Obj.data (Option.some.inj z))
  ca := fun KX I k => by obtain ⟨ox, od, I⟩ := I; exact x_class KX X XA Z I k
end
section
variable {X : Cx}
noncomputable def isOf (K : Frag) (C : Addr) (b : Bool) : V → Prop
  | .ref D => kitOne K (.ref C) (.ref D) = some b
  | .ty T => kitOne K (.ref C) (.type T) = some b
  | _ => False
noncomputable def mIsX (K : Frag) : List V → Hp → VK → Prop := fun vs H Q => ∃ ea C dx fr bm fs c b, vs = [.ref ea, c] ∧ H ea = some (XF ea C (some dx) fr) ∧ H dx = some (.xd fs) ∧ XCls K C bm ∧ XAttr K C ∧ XIs K C ∧ isOf K C b c ∧ Q (.bl b) H
theorem kc_isX (K : Frag) (hK : X.K = K) : CallR X (.builtin "isinstance") (mIsX K) := by
  subst hK
  intro pins s σ H xs us Q I r h
  obtain ⟨ea, C, dx, fr, bm, fs, c, b, rfl, hx, hd, Xc, Xa, Z, hc, q⟩ := h
  obtain ⟨u, w', rfl, r1, r2⟩ := vals2 r
  obtain rfl : u = Value.ref ea := r1
  have fin : ∀ tk, EP X pins σ Q (.bool b) { s with toks := tk } := fun tk => ⟨.bl b, H, I.tok _, rfl, q⟩
  obtain ⟨ob, ws, t0, z, a1, a2, a3, a4, a5, a6, a7⟩ := xf_of I.hok hx
  obtain ⟨mA, hm, hr⟩ := (show ObjOk X.prog X.w H s.heap dx (.xd fs) from I.hok dx _ hd)
  obtain ⟨od, hod, hl⟩ := lookIn_ns hm
  obtain ⟨oc, odi, odt, osl⟩ := ob
  dsimp only at a2 a3 a4
  subst a2 a3 a4
  have J : ∃ ox od, InstAt s.heap ea ox C (some od) := ⟨⟨.ref C, some dx, .fields ws, osl⟩, od, a1, rfl, rfl, hod⟩
  cases c with
  | ref D =>
    obtain rfl : w' = Value.ref D := r2
    exact kia_one (kitx_x Xc Xa Z) I.kIn J hc (fun z => nomatch z) fin
  | ty T =>
    obtain rfl : w' = Value.type T := r2
    exact kia_one (kitx_x Xc Xa Z) I.kIn J hc (fun z => nomatch z) fin
  | _ => exact (show False from hc).elim
theorem isX_i {K : Frag} {H : Hp} {Q : VK} {ea C dx : Addr} {fr : Bool} {bm : List Value} {fs : List (Str × V)} {c : V} {b : Bool} (h1 : H ea = some (XF ea C (some dx) fr)) (h2 : H dx = some (.xd fs)) (Xc : XCls K C bm) (Xa : XAttr K C) (Z : XIs K C) (h : isOf K C b c) (k : Q (.bl b) H) : mIsX K [.ref ea, c] H Q :=
  ⟨ea, C, dx, fr, bm, fs, c, b, rfl, h1, h2, Xc, Xa, Z, h, k⟩
theorem tPar_i {i j : Nat} {ta : TA} {D : Ends} {σ : St} {H : Hp} (k : ta σ H fun vs H1 => ∃ v w, vs = [v, w] ∧ D.nx ((σ.set i (some v)).set j (some w)) H1) : tPar i j ta D σ H := k
end
end L2
set_option Elab.async false
set_option linter.all false
set_option maxRecDepth 100000
set_option maxHeartbeats 4000000
namespace L2
open PySem PySem.Spec PyProof.Rows
section
variable {X : Cx} {pins : List (Addr × Obj)} {σ : St} {H : Hp} {s : Shared} {h' : Heap}
end
noncomputable def Izp (K : PySem.W.Frag) (a b : Addr) (n m : Nat) : It := ⟨fun i H => i < min n m ∧ ∃ xs ys, SqL K H a xs ∧ SqL K H b ys ∧ xs.length = n ∧ ys.length = m, fun i H v H' => ∃ T x y, H T = none ∧ v = .ref T ∧ H' = upd H T (.tup [x, y]) ∧ (∀ xs, SqL K H a xs → xs[i]? = some x) ∧ (∀ ys, SqL K H b ys → ys[i]? = some y), fun i H => i = min n m ∧ ∃ xs ys, SqL K H a xs ∧ SqL K H b ys ∧ xs.length = n ∧ ys.length = m⟩
section
variable {X : Cx}
noncomputable def iZip (K : PySem.W.Frag) (ta : TA) : TI := fun σ H R => ta σ H fun vs H1 => ∃ a b xs ys, vs = [.ref a, .ref b] ∧ SqL K H1 a xs ∧ SqL K H1 b ys ∧ R (Izp K a b xs.length ys.length) H1
end
theorem iZip_i {K : PySem.W.Frag} {σ : St} {H : Hp} {ta : TA} {R : It → Hp → Prop} (k : ta σ H fun vs H1 => ∃ a b xs ys, vs = [.ref a, .ref b] ∧ SqL K H1 a xs ∧ SqL K H1 b ys ∧ R (Izp K a b xs.length ys.length) H1) : iZip K ta σ H R := k
end L2
set_option Elab.async false
set_option linter.all false
set_option maxRecDepth 100000
set_option maxHeartbeats 4000000
namespace L2
open PySem PySem.Spec PyProof.Rows
section
variable {X : Cx} {pos : Pos} {e : Expr} {te : TE}
noncomputable def tF3i (te : TE) : TE := fun σ H Q => te σ H fun x H1 => ∃ i : Int, x = .int i ∧ i.natAbs.log2 < 1920 ∧ (Str.ofString (toString i)).length ≤ 100 ∧ ∀ z : Str, Q (.str z) H1
theorem pe_f3i {a b : Str} {j1 j2 p1 p2 p3} (he : PE X e te) (ha : a.length ≤ 1000 := by decide +kernel) (hb : b.length ≤ 1000 := by decide +kernel) : PE X (.JoinedStr [.Constant (.str a) j1 p1, .FormattedValue e (-1) none p2, .Constant (.str b) j2 p3] pos) (tF3i te) := by
  intro pins s σ H Q I h
  have z9 : 100000 ≤ sizeLine := by decide
  refine JoinedStr_many (joinParts_cons (Calls.Constant_str ?_))
  have hz : ∀ {x : Str}, x.length ≤ sizeLine → (Str.empty ++ x).length ≤ sizeLine := fun {x} q => by rw [strLen_append]; show 0 + x.length ≤ _; omega
  have ea : ∀ x : Str, Str.empty ++ x = x := fun x => by apply Str.ext'; show (#[] : Array Nat) ++ x.cps = x.cps; simp
  · refine ⟨hz (by omega), joinParts_cons (FormattedValue_plain (thn (he pins _ σ H _ (I.tok _) h) fun v s1 ⟨x, H1, I1, r1, q1⟩ => ?_))⟩
    obtain ⟨i, rfl, hl, hy, q⟩ := q1
    obtain ⟨t, rfl⟩ := r1
    refine formatField_int_small hl ?_
    rw [ea]
    generalize Str.ofString (toString i) = y at hy ⊢
    refine ⟨by rw [strLen_append]; omega, ?_⟩
    show wpAny _ _ (joinParts (a ++ y) [eval (.Constant (.str b) j2 p3) X.env]) _ _ _
    refine joinParts_cons (Calls.Constant_str ⟨by rw [strLen_append, strLen_append]; omega, joinParts_nil ?_ (by rw [strLen_append, strLen_append]; omega)⟩)
    exact ⟨.str (a ++ y ++ b), H1, ((I1.tok _).tok _).tok _, ⟨_, rfl⟩, q _⟩
theorem tF3i_i {σ : St} {H : Hp} {Q : VK} (k : te σ H fun x H1 => ∃ i : Int, x = .int i ∧ i.natAbs.log2 < 1920 ∧ (Str.ofString (toString i)).length ≤ 100 ∧ ∀ z : Str, Q (.str z) H1) : tF3i te σ H Q := k
end
noncomputable def onX (H : Hp) (C : Addr) (E : XK) : Prop := ∀ ea H', Same H H' → IsX H' ea C [(rowS, .int 0)] → E (.ref C) (some ea) H'
theorem onX.mono {H H1 : Hp} {C : Addr} {E : XK} (h : onX H C E) (s : Same H H1) : onX H1 C E := fun ea H' s' i => h ea H' (s.trans s') i
end L2
set_option Elab.async false
set_option linter.all false
set_option maxRecDepth 100000
set_option maxHeartbeats 4000000
namespace L2
open PySem PySem.Spec PyProof.Rows
section
variable {X : Cx} {es rest : List Expr} {k : Nat} {pos : Pos} {env : Env} {te : TE} {t : TA}
noncomputable def notStar : Expr → Bool
  | .Starred _ _ => false
  | _ => true
theorem star_any {e : Expr} (h : notStar e = true) : starEach (e :: rest) env = (false, eval e env) :: starEach rest env := by
  rw [starEach]
  intro a p z
  rw [z] at h
  cases h
theorem pa_con {e : Expr} (ha : PE X e te) (hr : PA X rest t) (h : notStar e = true := by rfl) : PA X (e :: rest) (tCons te t) := pa_cons ha hr (star_any h)
theorem sw_lst {n : Option Expr} {l : Nat} : swapsWith (.List es pos) n l env = pure false := rfl
theorem sw_bin {a b : Expr} {op : Operator} {n : Option Expr} {l : Nat} : swapsWith (.BinOp a op b pos) n l env = pure false := rfl
theorem sw_sub {a b : Expr} {n : Option Expr} {l : Nat} : swapsWith (.Subscript a b pos) n l env = pure false := rfl
theorem sw_call {a : Expr} {kw : List Keyword} {n : Option Expr} {l : Nat} : swapsWith (.Call a es kw pos) n l env = pure false := rfl
end
section
variable {X : Cx} {a b e : Expr} {es rest : List Expr} {k : Nat} {pos pos' : Pos} {te ta tb : TE} {t : TA} {u v : TS} {st : Stmt} {x : Str}
end
end L2
set_option Elab.async false
set_option linter.all false
set_option maxRecDepth 100000
set_option maxHeartbeats 4000000
namespace L2
open PySem PySem.Spec PyProof.Rows PySem.W
section
variable {X : Cx}
end
theorem passN {P : Program} {w : World} {X : Cx} : Passes (CXo P w) X (fun _ _ _ => False) := fun _ _ _ _ _ _ _ h => by
  obtain ⟨_, _, _, _, _, _, _, _, _, _, _, hE⟩ := h
  exact hE.elim
section
variable {X : Cx} {pos : Pos} {e : Expr} {te : TE}
noncomputable def tFr (te : TE) : TE := fun σ H Q => te σ H fun x H1 => ∃ y, x = .str y ∧ (∀ c ∈ y.cps.toList, c < 16 ^ 8) ∧ y.length ≤ 5000 ∧ ∀ z : Str, Q (.str z) H1
theorem tFr_i {σ : St} {H : Hp} {Q : VK} (k : te σ H fun x H1 => ∃ y, x = .str y ∧ (∀ c ∈ y.cps.toList, c < 16 ^ 8) ∧ y.length ≤ 5000 ∧ ∀ z : Str, Q (.str z) H1) : tFr te σ H Q := k
noncomputable def tF2 (te : TE) : TE := fun σ H Q => te σ H fun x H1 => ∃ y, x = .str y ∧ y.length ≤ 5000 ∧ ∀ z : Str, Q (.str z) H1
theorem tF2_i {σ : St} {H : Hp} {Q : VK} (k : te σ H fun x H1 => ∃ y, x = .str y ∧ y.length ≤ 5000 ∧ ∀ z : Str, Q (.str z) H1) : tF2 te σ H Q := k
end
end L2
set_option Elab.async false
set_option linter.all false
set_option maxRecDepth 100000
set_option maxHeartbeats 4000000
namespace L2
open PySem PySem.Spec PyProof.Rows PySem.W
namespace FD
end FD
section
variable {prog : Program} {w : World} {A : Around} {R : Result → Shared → Prop}
noncomputable def TupsAt {K : Type} [DecidableEq K] (knd : PySem.KeyKind prog w K) (ts : List Addr) (kvs : List (K × Value)) (h : Heap) : Prop := ∀ (i : Nat) (T : Addr), ts[i]? = some T → ∃ (kk : K) (key val : Value), kvs[i]? = some (kk, val) ∧ knd.is kk key = true ∧ IsTup h T #[key, val]
theorem TupsAt.keep {K : Type} [DecidableEq K] {knd : PySem.KeyKind prog w K} {ts : List Addr} {kvs : List (K × Value)} {h h' : Heap} (x : TupsAt knd ts kvs h) (k : ∀ T ∈ ts, ∀ o, h.get? T = some o → h'.get? T = some o) : TupsAt knd ts kvs h' := fun i T e => by
  obtain ⟨kk, key, val, e1, e2, o, ho, r⟩ := x i T e
  exact ⟨kk, key, val, e1, e2, o, k T (List.mem_of_getElem? e) o ho, r⟩
end
section
variable {X : Cx}
end
end L2
set_option Elab.async false
set_option linter.all false
set_option maxRecDepth 100000
set_option maxHeartbeats 4000000
namespace L2
open PySem PySem.Spec PyProof.Rows PySem.W
section
variable {X : Cx}
end
noncomputable abbrev Rws := List (Str × Trm)
noncomputable def PutsOk (K : Frag) (H : Hp) (kvs : List (Key × V)) (rows : Rws) : Prop := Paired (fun (p : Key × V) (q : Str × Trm) => p.1 = Sum.inr q.1 ∧ Den K H p.2 q.2.data) kvs rows
noncomputable def lookR (rows : Rws) (x : Str) : Option Trm := (rows.find? fun r => decide (r.1 = x)).map (·.2)
noncomputable def putR (rows : Rws) (x : Str) (t : Trm) : Rws := if (rows.any fun r => decide (r.1 = x)) = true then rows.map (fun r => if r.1 = x then (r.1, t) else r) else rows ++ [(x, t)]
section
variable {K : Frag} {H H' : Hp} {kvs : List (Key × V)} {rows : Rws}
theorem PutsOk.mono (h : PutsOk K H kvs rows) (s : Same H H') : PutsOk K H' kvs rows := Paired.mapP h fun _ _ z => ⟨z.1, z.2.mono s⟩
theorem PutsOk.monoT (h : PutsOk K H kvs rows) (e : ∀ a xs, SqT K H a xs → SqT K H' a xs) : PutsOk K H' kvs rows := Paired.mapP h fun _ _ z => ⟨z.1, z.2.monoT e⟩
theorem PutsOk.len (h : PutsOk K H kvs rows) : kvs.length = rows.length := Paired.length h
theorem key_inr (a b : Str) : ((Sum.inr a : Key) = Sum.inr b) ↔ a = b := ⟨fun h => Sum.inr.inj h, fun h => by rw [h]⟩
theorem PutsOk.get : ∀ {kvs : List (Key × V)} {rows : Rws}, PutsOk K H kvs rows → ∀ x : Str, (lookR rows x = none ∧ valV kvs (Sum.inr x) = none) ∨ ∃ t v, lookR rows x = some t ∧ valV kvs (Sum.inr x) = some v ∧ Den K H v t.data
  | [], [], _, x => .inl ⟨rfl, rfl⟩
  | (k, v) :: kr, (y, t) :: rr, .cons h r, x => by
    obtain ⟨e1, e2⟩ := h
    have e1 : k = Sum.inr y := e1
    subst e1
    by_cases hx : y = x
    · subst hx
      refine .inr ⟨t, v, ?_, ?_, e2⟩
      · simp [lookR]
      · simp [valV]
    · have ih := PutsOk.get r x
      have n1 : lookR ((y, t) :: rr) x = lookR rr x := by simp [lookR, hx]
      have n2 : valV ((Sum.inr y, v) :: kr) (Sum.inr x) = valV kr (Sum.inr x) := by simp [valV, hx]
      rw [n1, n2]
      exact ih
theorem PutsOk.any : ∀ {kvs : List (Key × V)} {rows : Rws}, PutsOk K H kvs rows → ∀ x : Str, (kvs.any fun kv => decide (kv.1 = Sum.inr x)) = rows.any fun r => decide (r.1 = x)
  | [], [], _, x => rfl
  | (k, v) :: kr, (y, t) :: rr, .cons h r, x => by
    have e1 : k = Sum.inr y := h.1
    subst e1
    rw [List.any_cons, List.any_cons, PutsOk.any r x]
    congr 1
    exact decide_eq_decide.mpr (key_inr y x)
theorem PutsOk.put (h : PutsOk K H kvs rows) {x : Str} {v : V} {t : Trm} (d : Den K H v t.data) : PutsOk K H (putK kvs (Sum.inr x) v) (putR rows x t) := by
  unfold putK putR
  rw [h.any x]
  split
  · rename_i hz0
    clear hz0
    induction kvs generalizing rows with
    | nil => cases rows with | nil => exact .nil | cons _ _ => cases h
    | cons p r ih =>
      cases rows with
      | nil => cases h
      | cons q m =>
        cases h with
        | cons e f =>
          refine .cons ?_ (ih f)
          dsimp only
          obtain ⟨e1, e2⟩ := e
          by_cases hx : q.1 = x
          · rw [if_pos hx, if_pos (by rw [e1, hx])]
            exact ⟨e1, d⟩
          · rw [if_neg hx, if_neg (by rw [e1]; exact fun z => hx (Sum.inr.inj z))]
            exact ⟨e1, e2⟩
  · rename_i hz0
    clear hz0
    induction kvs generalizing rows with
    | nil => cases rows with | nil => exact .cons ⟨rfl, d⟩ .nil | cons _ _ => cases h
    | cons p r ih =>
      cases rows with
      | nil => cases h
      | cons q m =>
        cases h with
        | cons e f => exact .cons e (ih f)
theorem PutsOk.mem : ∀ {kvs : List (Key × V)} {rows : Rws}, PutsOk K H kvs rows → ∀ {k : Key} {v : V}, (k, v) ∈ kvs → ∃ x t, (x, t) ∈ rows ∧ k = Sum.inr x ∧ Den K H v t.data
  | [], [], _, k, v, hm => by simp at hm
  | p :: kr, q :: rr, .cons h r, k, v, hm => by
    rcases List.mem_cons.mp hm with e | e
    · subst e
      exact ⟨q.1, q.2, by simp, h.1, h.2⟩
    · obtain ⟨x, t, h1, h2, h3⟩ := PutsOk.mem r e
      exact ⟨x, t, List.mem_cons_of_mem _ h1, h2, h3⟩
end
end L2
set_option Elab.async false
set_option linter.all false
set_option maxRecDepth 100000
set_option maxHeartbeats 4000000
namespace L2
open PySem PySem.Spec PyProof.Rows PySem.W
mutual
noncomputable def eqb : Trm → Trm → Bool
  | .num a, .num b => decide (a = b)
  | .any x, .any y => decide (x = y)
  | .app s ks, .app r ls => decide (s = r) && eqbL ks ls
  | _, _ => false
noncomputable def eqbL : List Trm → List Trm → Bool
  | [], [] => true
  | a :: r, b :: m => eqb a b && eqbL r m
  | _, _ => false
end
mutual
theorem eqb_iff : ∀ t u : Trm, eqb t u = true ↔ t = u
  | .num a, .num b => by simp [eqb]
  | .num a, .any y => by simp [eqb]
  | .num a, .app _ _ => by simp [eqb]
  | .any x, .num b => by simp [eqb]
  | .any x, .any y => by simp [eqb]
  | .any x, .app _ _ => by simp [eqb]
  | .app _ _, .num b => by simp [eqb]
  | .app _ _, .any y => by simp [eqb]
  | .app s ks, .app r ls => by
    simp only [eqb, Bool.and_eq_true, decide_eq_true_eq, Trm.app.injEq, eqbL_iff ks ls]
theorem eqbL_iff : ∀ t u : List Trm, eqbL t u = true ↔ t = u
  | [], [] => by simp [eqbL]
  | [], _ :: _ => by simp [eqbL]
  | _ :: _, [] => by simp [eqbL]
  | a :: r, b :: m => by simp only [eqbL, Bool.and_eq_true, List.cons.injEq, eqb_iff a b, eqbL_iff r m]
end
theorem eqb_self (t : Trm) : eqb t t = true := (eqb_iff t t).mpr rfl
theorem eqbL_all : ∀ ks ls : List Trm, ((List.range (min ks.length ls.length)).all (fun j => match ks[j]?, ls[j]? with | some a, some b => eqb a b | _, _ => true) && (ks.length == ls.length)) = eqbL ks ls
  | [], [] => by simp [eqbL]
  | [], _ :: _ => by simp [eqbL]
  | _ :: _, [] => by simp [eqbL]
  | a :: r, b :: m => by
    have ih := eqbL_all r m
    simp only [eqbL]
    rw [← ih, List.length_cons, List.length_cons, Nat.succ_min_succ, List.range_succ_eq_map, List.all_cons, List.all_map, Bool.and_assoc]
    congr 1
    congr 1
    · simp
mutual
theorem Trm.data_inj : ∀ {t u : Trm}, t.data = u.data → t = u
  | .num a, .num b, h => by simp [Trm.data] at h; rw [h]
  | .num a, .any y, h => by simp [Trm.data] at h
  | .num a, .app _ _, h => by simp [Trm.data] at h
  | .any x, .num b, h => by simp [Trm.data] at h
  | .any x, .any y, h => by simp [Trm.data] at h; rw [h]
  | .any x, .app _ _, h => by simp [Trm.data] at h
  | .app _ _, .num b, h => by simp [Trm.data] at h
  | .app _ _, .any y, h => by simp [Trm.data] at h
  | .app s ks, .app r ls, h => by
    simp only [Trm.data, PyData.tuple.injEq, List.cons.injEq, PyData.str.injEq, and_true, true_and] at h
    rw [h.1, Trm.dataL_inj h.2]
theorem Trm.dataL_inj : ∀ {t u : List Trm}, Trm.dataL t = Trm.dataL u → t = u
  | [], [], _ => rfl
  | [], _ :: _, h => by simp [Trm.dataL] at h
  | _ :: _, [], h => by simp [Trm.dataL] at h
  | a :: r, b :: m, h => by
    simp only [Trm.dataL, List.cons.injEq] at h
    rw [Trm.data_inj h.1, Trm.dataL_inj h.2]
end
section
variable {X : Cx} {pins : List (Addr × Obj)} {σ : St} {H : Hp} {s : Shared}
mutual
theorem den_inj (I : Inv X pins σ H s) : ∀ {v : V} {d d' : PyData}, Den X.K H v d → Den X.K H v d' → d = d'
  | _, _, _, .non, h => by cases h; rfl
  | _, _, _, .bl b, h => by cases h; rfl
  | _, _, _, .int i, h => by cases h; rfl
  | _, _, _, .str x, h => by cases h; rfl
  | _, _, _, .tup hs hl, h => by
    cases h with
    | tup hs' hl' =>
      have e := I.tuple_inj hs hs'
      subst e
      rw [denL_inj I hl hl']
theorem denL_inj (I : Inv X pins σ H s) : ∀ {v : List V} {d d' : List PyData}, DenL X.K H v d → DenL X.K H v d' → d = d'
  | _, _, _, .nil, h => by cases h; rfl
  | _, _, _, .cons h l, h' => by
    cases h' with
    | cons g m => rw [den_inj I h g, denL_inj I l m]
end
theorem eqAt_tups (I : Inv X pins σ H s) {A : Around} {a b : Addr} {us us' : List V} (hs : SqT X.K H a us) (hs' : SqT X.K H b us') (hab : a ≠ b) (e : Nat → Bool) (hu : A.units + 1 < cLine)
    (items : ∀ j x x' w w', us[j]? = some x → us'[j]? = some x' → RelV x w → RelV x' w' → SeqAt.EqAt A.in1 s w w' (e j)) : SeqAt.EqAt A s (.ref a) (.ref b) ((List.range (min us.length us'.length)).all e && (us.length == us'.length)) := by
  obtain ⟨its, rv, p, _⟩ := I.tuple hs
  obtain ⟨its', rv', p', _⟩ := I.tuple hs'
  have l1 := rv.length
  have l2 := rv'.length
  have key := SeqAt.RcAt.tuples (A := A) (e := e) (show s.heap.IsTuple a its.toArray from p) (show s.heap.IsTuple b its'.toArray from p') (by omega) (fun j h1 h2 => by
    have h1 : j < its.length := by simpa using h1
    have h2 : j < its'.length := by simpa using h2
    have x1 : us[j]? = some us[j] := List.getElem?_eq_getElem (by omega)
    have x2 : us'[j]? = some us'[j] := List.getElem?_eq_getElem (by omega)
    obtain ⟨w1, y1, z1⟩ := rv.get x1
    obtain ⟨w2, y2, z2⟩ := rv'.get x2
    have q1 : its.toArray[j] = w1 := by
      have := List.getElem?_eq_getElem h1
      rw [y1] at this
      simpa using (Option.some.inj this).symm
    have q2 : its'.toArray[j] = w2 := by
      have := List.getElem?_eq_getElem h2
      rw [y2] at this
      simpa using (Option.some.inj this).symm
    rw [q1, q2]
    exact items j _ _ _ _ x1 x2 z1 z2)
  rw [List.size_toArray, List.size_toArray, ← l1, ← l2] at key
  exact SeqAt.EqAt.of_refs hab key
noncomputable def eT (t t' : Trm) : Nat → Bool
  | 0 => match t, t' with | .num _, .num _ => true | .any _, .any _ => true | .app _ _, .app _ _ => true | _, _ => false
  | 1 => match t, t' with | .num a, .num b => decide (a = b) | .any x, .any y => decide (x = y) | .app r _, .app q _ => decide (r = q) | .any x, .app q _ => decide (x = q) | .app r _, .any y => decide (r = y) | _, _ => false
  | 2 => match t, t' with | .app _ ks, .app _ ls => eqbL ks ls | _, _ => true
  | _ => true
noncomputable def lenT : Trm → Nat
  | .app _ _ => 3
  | _ => 2
theorem eT_all (t t' : Trm) : ((List.range (min (lenT t) (lenT t'))).all (eT t t') && (lenT t == lenT t')) = eqb t t' := by
  cases t <;> cases t' <;> simp [lenT, eT, eqb, List.range, List.range.loop]
theorem mem_size {ks : List Trm} {t : Trm} (h : t ∈ ks) : t.size ≤ Trm.sizeL ks := by
  obtain ⟨a, b, rfl⟩ := List.append_of_mem h
  rw [Trm.sizeL_app, Trm.sizeL]
  omega
theorem items_of (I : Inv X pins σ H s) (n : Nat) (ih : ∀ (A : Around) (t t' : Trm) (v v' : V) (u u' : Value), t.size ≤ n → A.units + 2 * n + 4 < cLine → Den X.K H v t.data → Den X.K H v' t'.data → RelV v u → RelV v' u' → SeqAt.EqAt A s u u' (eqb t t'))
    (A : Around) (t t' : Trm) {a a' : Addr} (h : Den X.K H (.ref a) t.data) (h' : Den X.K H (.ref a') t'.data) (hz : t.size ≤ n + 1) (hu : A.units + 2 * (n + 1) + 4 < cLine) :
    ∃ us us', SqT X.K H a us ∧ SqT X.K H a' us' ∧ us.length = lenT t ∧ us'.length = lenT t' ∧ ∀ j x x' w w', us[j]? = some x → us'[j]? = some x' → RelV x w → RelV x' w' → SeqAt.EqAt A.in1 s w w' (eT t t' j) := by
  cases t with
  | num m =>
    obtain ⟨a0, e0, hs⟩ := den_num h
    cases e0
    cases t' with
    | num m' =>
      obtain ⟨a0', e0', hs'⟩ := den_num h'
      cases e0'
      refine ⟨_, _, hs, hs', rfl, rfl, fun j y y' w w' h1 h2 r1 r2 => ?_⟩
      match j, h1, h2 with
        | 0, h1, h2 =>
          simp only [List.getElem?_cons_zero, Option.some.injEq] at h1 h2
          subst h1 h2
          have := eqAt_kV (A := A.in1) (s := s) (a := Sum.inr numS) (b := Sum.inr numS) r1 r2
          rw [show decide ((Sum.inr numS : Key) = Sum.inr numS) = true by decide +kernel] at this
          exact this
        | 1, h1, h2 =>
          simp only [List.getElem?_cons_succ, List.getElem?_cons_zero, Option.some.injEq] at h1 h2
          subst h1 h2
          have := eqAt_kV (A := A.in1) (s := s) (a := Sum.inl m) (b := Sum.inl m') r1 r2
          have e9 : decide ((Sum.inl m : Key) = Sum.inl m') = decide (m = m') := by
            refine decide_eq_decide.mpr ⟨fun h => ?_, fun h => by rw [h]⟩
            injection h
          rw [e9] at this
          exact this
        | j + 2, h1, h2 => simp at h1
    | any x' =>
      obtain ⟨a0', e0', hs'⟩ := den_any h'
      cases e0'
      refine ⟨_, _, hs, hs', rfl, rfl, fun j y y' w w' h1 h2 r1 r2 => ?_⟩
      match j, h1, h2 with
        | 0, h1, h2 =>
          simp only [List.getElem?_cons_zero, Option.some.injEq] at h1 h2
          subst h1 h2
          have := eqAt_kV (A := A.in1) (s := s) (a := Sum.inr numS) (b := Sum.inr anyS) r1 r2
          rw [show decide ((Sum.inr numS : Key) = Sum.inr anyS) = false by decide +kernel] at this
          exact this
        | 1, h1, h2 =>
          simp only [List.getElem?_cons_succ, List.getElem?_cons_zero, Option.some.injEq] at h1 h2
          subst h1 h2
          have := eqAt_kV (A := A.in1) (s := s) (a := Sum.inl m) (b := Sum.inr x') r1 r2
          have e9 : decide ((Sum.inl m : Key) = Sum.inr x') = false := decide_eq_false (fun h => by cases h)
          rw [e9] at this
          exact this
        | j + 2, h1, h2 => simp at h1
    | app sg' ks' =>
      obtain ⟨a0', b', ku', e0', hs', hb', hk'⟩ := den_app h'
      cases e0'
      refine ⟨_, _, hs, hs', rfl, rfl, fun j y y' w w' h1 h2 r1 r2 => ?_⟩
      match j, h1, h2 with
        | 0, h1, h2 =>
          simp only [List.getElem?_cons_zero, Option.some.injEq] at h1 h2
          subst h1 h2
          have := eqAt_kV (A := A.in1) (s := s) (a := Sum.inr numS) (b := Sum.inr appS) r1 r2
          rw [show decide ((Sum.inr numS : Key) = Sum.inr appS) = false by decide +kernel] at this
          exact this
        | 1, h1, h2 =>
          simp only [List.getElem?_cons_succ, List.getElem?_cons_zero, Option.some.injEq] at h1 h2
          subst h1 h2
          have := eqAt_kV (A := A.in1) (s := s) (a := Sum.inl m) (b := Sum.inr sg') r1 r2
          have e9 : decide ((Sum.inl m : Key) = Sum.inr sg') = false := decide_eq_false (fun h => by cases h)
          rw [e9] at this
          exact this
        | j + 2, h1, h2 => simp at h1
  | any x =>
    obtain ⟨a0, e0, hs⟩ := den_any h
    cases e0
    cases t' with
    | num m' =>
      obtain ⟨a0', e0', hs'⟩ := den_num h'
      cases e0'
      refine ⟨_, _, hs, hs', rfl, rfl, fun j y y' w w' h1 h2 r1 r2 => ?_⟩
      match j, h1, h2 with
        | 0, h1, h2 =>
          simp only [List.getElem?_cons_zero, Option.some.injEq] at h1 h2
          subst h1 h2
          have := eqAt_kV (A := A.in1) (s := s) (a := Sum.inr anyS) (b := Sum.inr numS) r1 r2
          rw [show decide ((Sum.inr anyS : Key) = Sum.inr numS) = false by decide +kernel] at this
          exact this
        | 1, h1, h2 =>
          simp only [List.getElem?_cons_succ, List.getElem?_cons_zero, Option.some.injEq] at h1 h2
          subst h1 h2
          have := eqAt_kV (A := A.in1) (s := s) (a := Sum.inr x) (b := Sum.inl m') r1 r2
          have e9 : decide ((Sum.inr x : Key) = Sum.inl m') = false := decide_eq_false (fun h => by cases h)
          rw [e9] at this
          exact this
        | j + 2, h1, h2 => simp at h1
    | any x' =>
      obtain ⟨a0', e0', hs'⟩ := den_any h'
      cases e0'
      refine ⟨_, _, hs, hs', rfl, rfl, fun j y y' w w' h1 h2 r1 r2 => ?_⟩
      match j, h1, h2 with
        | 0, h1, h2 =>
          simp only [List.getElem?_cons_zero, Option.some.injEq] at h1 h2
          subst h1 h2
          have := eqAt_kV (A := A.in1) (s := s) (a := Sum.inr anyS) (b := Sum.inr anyS) r1 r2
          rw [show decide ((Sum.inr anyS : Key) = Sum.inr anyS) = true by decide +kernel] at this
          exact this
        | 1, h1, h2 =>
          simp only [List.getElem?_cons_succ, List.getElem?_cons_zero, Option.some.injEq] at h1 h2
          subst h1 h2
          have := eqAt_kV (A := A.in1) (s := s) (a := Sum.inr x) (b := Sum.inr x') r1 r2
          have e9 : decide ((Sum.inr x : Key) = Sum.inr x') = decide (x = x') := by
            refine decide_eq_decide.mpr ⟨fun h => ?_, fun h => by rw [h]⟩
            injection h
          rw [e9] at this
          exact this
        | j + 2, h1, h2 => simp at h1
    | app sg' ks' =>
      obtain ⟨a0', b', ku', e0', hs', hb', hk'⟩ := den_app h'
      cases e0'
      refine ⟨_, _, hs, hs', rfl, rfl, fun j y y' w w' h1 h2 r1 r2 => ?_⟩
      match j, h1, h2 with
        | 0, h1, h2 =>
          simp only [List.getElem?_cons_zero, Option.some.injEq] at h1 h2
          subst h1 h2
          have := eqAt_kV (A := A.in1) (s := s) (a := Sum.inr anyS) (b := Sum.inr appS) r1 r2
          rw [show decide ((Sum.inr anyS : Key) = Sum.inr appS) = false by decide +kernel] at this
          exact this
        | 1, h1, h2 =>
          simp only [List.getElem?_cons_succ, List.getElem?_cons_zero, Option.some.injEq] at h1 h2
          subst h1 h2
          have := eqAt_kV (A := A.in1) (s := s) (a := Sum.inr x) (b := Sum.inr sg') r1 r2
          have e9 : decide ((Sum.inr x : Key) = Sum.inr sg') = decide (x = sg') := by
            refine decide_eq_decide.mpr ⟨fun h => ?_, fun h => by rw [h]⟩
            injection h
          rw [e9] at this
          exact this
        | j + 2, h1, h2 => simp at h1
  | app sg ks =>
    obtain ⟨a0, b, ku, e0, hs, hb, hk⟩ := den_app h
    cases e0
    cases t' with
    | num m' =>
      obtain ⟨a0', e0', hs'⟩ := den_num h'
      cases e0'
      refine ⟨_, _, hs, hs', rfl, rfl, fun j y y' w w' h1 h2 r1 r2 => ?_⟩
      match j, h1, h2 with
        | 0, h1, h2 =>
          simp only [List.getElem?_cons_zero, Option.some.injEq] at h1 h2
          subst h1 h2
          have := eqAt_kV (A := A.in1) (s := s) (a := Sum.inr appS) (b := Sum.inr numS) r1 r2
          rw [show decide ((Sum.inr appS : Key) = Sum.inr numS) = false by decide +kernel] at this
          exact this
        | 1, h1, h2 =>
          simp only [List.getElem?_cons_succ, List.getElem?_cons_zero, Option.some.injEq] at h1 h2
          subst h1 h2
          have := eqAt_kV (A := A.in1) (s := s) (a := Sum.inr sg) (b := Sum.inl m') r1 r2
          have e9 : decide ((Sum.inr sg : Key) = Sum.inl m') = false := decide_eq_false (fun h => by cases h)
          rw [e9] at this
          exact this
        | j + 2, h1, h2 => simp at h2
    | any x' =>
      obtain ⟨a0', e0', hs'⟩ := den_any h'
      cases e0'
      refine ⟨_, _, hs, hs', rfl, rfl, fun j y y' w w' h1 h2 r1 r2 => ?_⟩
      match j, h1, h2 with
        | 0, h1, h2 =>
          simp only [List.getElem?_cons_zero, Option.some.injEq] at h1 h2
          subst h1 h2
          have := eqAt_kV (A := A.in1) (s := s) (a := Sum.inr appS) (b := Sum.inr anyS) r1 r2
          rw [show decide ((Sum.inr appS : Key) = Sum.inr anyS) = false by decide +kernel] at this
          exact this
        | 1, h1, h2 =>
          simp only [List.getElem?_cons_succ, List.getElem?_cons_zero, Option.some.injEq] at h1 h2
          subst h1 h2
          have := eqAt_kV (A := A.in1) (s := s) (a := Sum.inr sg) (b := Sum.inr x') r1 r2
          have e9 : decide ((Sum.inr sg : Key) = Sum.inr x') = decide (sg = x') := by
            refine decide_eq_decide.mpr ⟨fun h => ?_, fun h => by rw [h]⟩
            injection h
          rw [e9] at this
          exact this
        | j + 2, h1, h2 => simp at h2
    | app sg' ks' =>
      obtain ⟨a0', b', ku', e0', hs', hb', hk'⟩ := den_app h'
      cases e0'
      refine ⟨_, _, hs, hs', rfl, rfl, fun j y y' w w' h1 h2 r1 r2 => ?_⟩
      match j, h1, h2 with
        | 0, h1, h2 =>
          simp only [List.getElem?_cons_zero, Option.some.injEq] at h1 h2
          subst h1 h2
          have := eqAt_kV (A := A.in1) (s := s) (a := Sum.inr appS) (b := Sum.inr appS) r1 r2
          rw [show decide ((Sum.inr appS : Key) = Sum.inr appS) = true by decide +kernel] at this
          exact this
        | 1, h1, h2 =>
          simp only [List.getElem?_cons_succ, List.getElem?_cons_zero, Option.some.injEq] at h1 h2
          subst h1 h2
          have := eqAt_kV (A := A.in1) (s := s) (a := Sum.inr sg) (b := Sum.inr sg') r1 r2
          have e9 : decide ((Sum.inr sg : Key) = Sum.inr sg') = decide (sg = sg') := by
            refine decide_eq_decide.mpr ⟨fun h => ?_, fun h => by rw [h]⟩
            injection h
          rw [e9] at this
          exact this
        | 2, h1, h2 =>
          simp only [List.getElem?_cons_succ, List.getElem?_cons_zero, Option.some.injEq] at h1 h2
          subst h1 h2
          obtain rfl : w = Value.ref b := r1
          obtain rfl : w' = Value.ref b' := r2
          show SeqAt.EqAt A.in1 s (.ref b) (.ref b') (eqbL ks ks')
          by_cases hbb : b = b'
          · subst hbb
            have e1 := I.tuple_inj hb hb'
            subst e1
            have e2 := Trm.dataL_inj (denL_inj I hk hk')
            subst e2
            rw [(eqbL_iff ks ks).mpr rfl]
            exact SeqAt.EqAt.same _
          · have l1 := hk.length
            have l2 := hk'.length
            rw [Trm.dataL_map, List.length_map] at l1 l2
            have := eqAt_tups I (A := A.in1) hb hb' hbb (fun j => match ks[j]?, ks'[j]? with | some a, some b => eqb a b | _, _ => true) (by show A.units + 1 + 1 < cLine; omega) (fun j y y' z z' g1 g2 q1 q2 => by
              obtain ⟨d, e1, d1⟩ := hk.get g1
              obtain ⟨d', e2, d2⟩ := hk'.get g2
              rw [Trm.dataL_map, List.getElem?_map] at e1 e2
              cases f1 : ks[j]? with
              | none => rw [f1] at e1; cases e1
              | some k1 =>
                cases f2 : ks'[j]? with
                | none => rw [f2] at e2; cases e2
                | some k2 =>
                  rw [f1] at e1
                  rw [f2] at e2
                  cases e1
                  cases e2
                  have hs1 := mem_size (List.mem_of_getElem? f1)
                  simp only [Trm.size] at hz
                  exact ih A.in1.in1 k1 k2 y y' z z' (by omega) (by show A.units + 1 + 1 + 2 * n + 4 < cLine; omega) d1 d2 q1 q2)
            rw [l1, l2, eqbL_all] at this
            exact this
        | j + 3, h1, h2 => simp at h1
theorem eqAt_trm (I : Inv X pins σ H s) : ∀ (n : Nat) (A : Around) (t t' : Trm) (v v' : V) (u u' : Value), t.size ≤ n → A.units + 2 * n + 4 < cLine → Den X.K H v t.data → Den X.K H v' t'.data → RelV v u → RelV v' u' → SeqAt.EqAt A s u u' (eqb t t') := by
  intro n
  induction n with
  | zero =>
    intro A t t' v v' u u' hz
    have := t.size_pos
    omega
  | succ n ih =>
    intro A t t' v v' u u' hz hu h h' r r'
    obtain ⟨a, _, _, rfl, _⟩ := den_head h
    obtain ⟨a', _, _, rfl, _⟩ := den_head h'
    obtain rfl : u = Value.ref a := r
    obtain rfl : u' = Value.ref a' := r'
    by_cases hab : a = a'
    · subst hab
      have e1 := Trm.data_inj (den_inj I h h')
      rw [e1, eqb_self]
      exact SeqAt.EqAt.same _
    obtain ⟨us, us', hs, hs', l1, l2, it⟩ := items_of I n ih A t t' h h' hz hu
    have key := eqAt_tups I (A := A) hs hs' hab (eT t t') (by omega) it
    rw [l1, l2, eT_all] at key
    exact key
end
section
variable {X : Cx}
noncomputable def mEqT (K : Frag) (n : Bool) : R2 := fun x y H Q => ∃ (t t' : Trm), Den K H x t.data ∧ Den K H y t'.data ∧ t.size ≤ 70 ∧ Q (.bl (n ^^ eqb t t')) H
theorem ko_neT (K : Frag) (hK : X.K = K) (hu : X.A.units + 150 < cLine) : OpR X (compareOp .NotEq) (mEqT K true) := by
  subst hK
  intro pins s σ H x y v u Q I rx ry h
  obtain ⟨t, t', h, h', hz, k⟩ := h
  obtain ⟨a, _, _, rfl, _⟩ := den_head h
  obtain ⟨a', _, _, rfl, _⟩ := den_head h'
  cases rx
  cases ry
  obtain ⟨us, us', hs, hs', l1, l2, it⟩ := items_of I 69 (eqAt_trm I 69) X.A t t' h h' (by omega) (by omega)
  obtain ⟨its, rv, p1, _⟩ := I.tuple hs
  obtain ⟨its', rv', p2, _⟩ := I.tuple hs'
  have m1 := rv.length
  have m2 := rv'.length
  refine SeqAt.RcNeAt.tuples (e := eT t t') (show s.heap.IsTuple a its.toArray from p1) (show s.heap.IsTuple a' its'.toArray from p2) (by omega) (fun j h1 h2 => ?_) X.prog X.w _ _ ?_
  · have h1 : j < its.length := by simpa using h1
    have h2 : j < its'.length := by simpa using h2
    have x1 : us[j]? = some us[j] := List.getElem?_eq_getElem (by omega)
    have x2 : us'[j]? = some us'[j] := List.getElem?_eq_getElem (by omega)
    obtain ⟨w1, y1, z1⟩ := rv.get x1
    obtain ⟨w2, y2, z2⟩ := rv'.get x2
    have q1 : its.toArray[j] = w1 := by
      have := List.getElem?_eq_getElem h1
      rw [y1] at this
      simpa using (Option.some.inj this).symm
    have q2 : its'.toArray[j] = w2 := by
      have := List.getElem?_eq_getElem h2
      rw [y2] at this
      simpa using (Option.some.inj this).symm
    rw [q1, q2]
    exact it j _ _ _ _ x1 x2 z1 z2
  · rw [List.size_toArray, List.size_toArray, ← m1, ← m2, l1, l2, eT_all]
    rw [Bool.true_xor] at k
    exact ⟨.bl _, H, I, rfl, k⟩
theorem mEqT_i {K : Frag} {H : Hp} {Q : VK} {x y : V} {n : Bool} {t t' : Trm} (h : Den K H x t.data) (h' : Den K H y t'.data) (hz : t.size ≤ 70) (k : Q (.bl (n ^^ eqb t t')) H) : mEqT K n x y H Q := ⟨t, t', h, h', hz, k⟩
end
end L2
set_option Elab.async false
set_option linter.all false
set_option maxRecDepth 100000
set_option maxHeartbeats 4000000
namespace L2
open PySem PySem.Spec PyProof.Rows PySem.W
section
variable {prog : Program} {w : World} {A : Around} {E : Value → Shared → Prop} {s : Shared}
noncomputable abbrev IsZipF (h : Heap) (z TI TO : Addr) (f0 : Value) (f1 : Bool) : Prop :=
  h.get? z = some { cls := .type "zip", dict := none, data := .fields #[f0, .bool f1, .bool false, .ref TI, .ref TO], slots := #[] }
end
end L2
set_option Elab.async false
set_option linter.all false
set_option maxRecDepth 100000
set_option maxHeartbeats 4000000
namespace L2
open PySem PySem.Spec PyProof.Rows PySem.W
section
variable {prog : Program} {w : World} {A : Around} {E : Value → Shared → Prop} {s : Shared}
noncomputable def ZS (h : Heap) (z TI TO i1 i2 t1 t2 S : Addr) (i : Nat) : Prop :=
  ((IsZip h z TI TO .none ∧ ∃ a b, IsPair h TO a b) ∨ ∃ (T : Addr) (f1 : Bool) (o : Obj), IsZipF h z TI TO (rawInt T) f1 ∧ h.get? T = some o ∧ T ≠ z ∧ T ≠ TO ∧ T ≠ i1 ∧ T ≠ i2 ∧ T ≠ S) ∧ IsPair h TI (.ref i1) (.ref i2) ∧ h.IsTupleIter i1 t1 i ∧ h.IsTupleIter i2 t2 i
theorem ZS.keep {h h' : Heap} {z TI TO i1 i2 t1 t2 S : Addr} {i : Nat} (st : ZS h z TI TO i1 i2 t1 t2 S i) (k : ∀ c o, c ≠ S → h.get? c = some o → h'.get? c = some o) (n : S ≠ z ∧ S ≠ TI ∧ S ≠ TO ∧ S ≠ i1 ∧ S ≠ i2) : ZS h' z TI TO i1 i2 t1 t2 S i := by
  obtain ⟨q, hTI, h1, h2⟩ := st
  refine ⟨?_, k _ _ n.2.1.symm hTI, h1.at fun o e => k _ o n.2.2.2.1.symm e, h2.at fun o e => k _ o n.2.2.2.2.symm e⟩
  rcases q with ⟨hz, a, b, hTO⟩ | ⟨T, f1, o, hz, hT, d⟩
  · exact .inl ⟨k _ _ n.1.symm hz, a, b, k _ _ n.2.2.1.symm hTO⟩
  · exact .inr ⟨T, f1, o, k _ _ n.1.symm hz, k _ _ d.2.2.2.2 hT, d⟩
end
section
variable {X : Cx} {pins : List (Addr × Obj)} {σ : St}
end
end L2
set_option Elab.async false
set_option linter.all false
set_option maxRecDepth 100000
set_option maxHeartbeats 4000000
namespace L2
open PySem PySem.Spec PyProof.Rows PySem.W
section
variable {X : Cx}
end
end L2
set_option Elab.async false
set_option linter.all false
set_option maxRecDepth 100000
set_option maxHeartbeats 4000000
namespace L2
open PySem PySem.Spec PyProof.Rows PySem.W
section
variable {X : Cx} {tg : Expr}
end
end L2
set_option Elab.async false
set_option linter.all false
set_option maxRecDepth 100000
set_option maxHeartbeats 4000000
namespace L2
open PySem PySem.Spec PyProof.Rows PySem.W
section
variable {X : Cx}
end
end L2
set_option Elab.async false
set_option linter.all false
set_option maxRecDepth 100000
set_option maxHeartbeats 4000000
namespace L2
open PySem PySem.Spec PyProof.Rows PySem.W
noncomputable def IsRv (h : Heap) (a t : Addr) (i : Int) : Prop := ∃ o, h.get? a = some o ∧ o.cls = .type "reversed" ∧ o.data = .fields #[.ref t, rawInt i]
theorem IsRv.typeIs {s : Shared} {a t : Addr} {i : Int} (x : IsRv s.heap a t i) : s.TypeIs (.ref a) "reversed" := let ⟨o, ho, hc, _⟩ := x; ⟨o, ho, hc⟩
theorem IsRv.at {h h' : Heap} {a l : Addr} {i : Int} (x : IsRv h a l i) (e : ∀ o, h.get? a = some o → h'.get? a = some o) : IsRv h' a l i := let ⟨o, ho, r⟩ := x; ⟨o, e _ ho, r⟩
section
variable {prog : Program} {w : World} {A : Around} {E : Value → Shared → Prop} {s : Shared}
end
end L2
set_option Elab.async false
set_option linter.all false
set_option maxRecDepth 100000
set_option maxHeartbeats 4000000
namespace L2
open PySem PySem.Spec PyProof.Rows PySem.W
section
variable {X : Cx}
end
end L2
set_option Elab.async false
set_option linter.all false
set_option maxRecDepth 100000
set_option maxHeartbeats 4000000
namespace L2
open PySem PySem.Spec PyProof.Rows PySem.W
section
variable {X : Cx} {pos : Pos} {e e2 : Expr} {te te2 : TE}
noncomputable def tF2n (a : Str) (te : TE) : TE := fun σ H Q => te σ H fun x H1 => ∃ i : Int, x = .int i ∧ i.natAbs.log2 < 1920 ∧ (Str.ofString (toString i)).length ≤ 1000 ∧ Q (.str (a ++ Str.ofString (toString i))) H1
theorem pe_f2n {a : Str} {j1 p1 p2} (he : PE X e te) (ha : a.length ≤ 1000 := by decide +kernel) : PE X (.JoinedStr [.Constant (.str a) j1 p1, .FormattedValue e (-1) none p2] pos) (tF2n a te) := by
  intro pins s σ H Q I h
  have z9 : 100000 ≤ sizeLine := by decide
  have ea : ∀ x : Str, Str.empty ++ x = x := fun x => by apply Str.ext'; show (#[] : Array Nat) ++ x.cps = x.cps; simp
  refine JoinedStr_many (joinParts_cons (Calls.Constant_str ?_))
  have hz : (Str.empty ++ a).length ≤ sizeLine := by rw [ea]; omega
  refine ⟨hz, joinParts_cons (FormattedValue_plain (thn (he pins _ σ H _ (I.tok _) h) fun v s1 ⟨x, H1, I1, r1, q1⟩ => ?_))⟩
  rw [ea]
  obtain ⟨i, rfl, hl, hy, q⟩ := q1
  obtain ⟨t, rfl⟩ := r1
  refine formatField_int_small hl ?_
  generalize Str.ofString (toString i) = y at hy q ⊢
  refine ⟨by rw [strLen_append]; omega, ?_⟩
  refine joinParts_nil ?_ (by rw [strLen_append]; omega)
  exact ⟨.str (a ++ y), H1, (I1.tok _).tok _, ⟨_, rfl⟩, q⟩
theorem tF2n_i {a : Str} {σ : St} {H : Hp} {Q : VK} (k : te σ H fun x H1 => ∃ i : Int, x = .int i ∧ i.natAbs.log2 < 1920 ∧ (Str.ofString (toString i)).length ≤ 1000 ∧ Q (.str (a ++ Str.ofString (toString i))) H1) : tF2n a te σ H Q := k
end
section
variable {X : Cx}
end
end L2
set_option Elab.async false
set_option linter.all false
set_option maxRecDepth 100000
set_option maxHeartbeats 4000000
namespace L2
open PySem PySem.Spec PyProof.Rows
section
variable {X : Cx}
end
section
variable {X : Cx}
end
section
variable {K : PySem.W.Frag} {σ : St} {H : Hp} {Q : VK} {D : Ends} {ta tv : TE} {t : TA} {f m : Str} {C : Addr} {sp : Sp} {dvs : List V} {E : XK}
theorem tFld_i (k : ta σ H fun x H1 => ∃ a C dx fs v, x = .ref a ∧ H1 a = some (.ins C dx fs) ∧ Cls K C ∧ NoAttr K C f ∧ fs.lookup f = some v ∧ Q v H1) : tFld K ta f σ H Q := k
theorem sFld_i (k : tv σ H fun y H1 => ta σ H1 fun x H2 => ∃ a C dx fs, x = .ref a ∧ H2 a = some (.ins C dx fs) ∧ Cls K C ∧ NoAttr K C f ∧ fs.length < 1000 ∧ D.nx σ (upd H2 a (.ins C dx (putF f y fs)))) : sFld K ta tv f D σ H := k
theorem tMeth_i (k : ta σ H fun x H1 => ∃ a dx fs, x = .ref a ∧ H1 a = some (.ins C dx fs) ∧ fs.lookup m = none ∧ t σ H1 fun vs H2 => sp (x :: (vs ++ dvs)) H2 Q E) : tMeth C m sp dvs E ta t σ H Q := k
theorem tMake_i (k : t σ H fun vs H1 => ∀ x dx, H1 x = none → H1 dx = none → dx ≠ x → sp (.ref x :: (vs ++ dvs)) (upd (upd H1 dx (.own x)) x (.ins C dx [])) (fun v H2 => v = .non ∧ Q (.ref x) H2) E) : tMake C sp dvs E t σ H Q := k
end
end L2
set_option Elab.async false
set_option linter.all false
set_option maxRecDepth 100000
set_option maxHeartbeats 4000000
namespace L2
open PySem PySem.Spec PyProof.Rows PySem.W
section
variable {X : Cx}
noncomputable def KD (P : Program) (w : World) (K : PySem.W.Frag) (a : Addr) (kvs : List (Key × V)) : Prop := ∀ h : Heap, K.In h → ∃ vs, KV kvs vs ∧ h.DictOf (mixKind P w) a vs
end
end L2
set_option Elab.async false
set_option linter.all false
set_option maxRecDepth 100000
set_option maxHeartbeats 4000000
namespace L2
open PySem PySem.Spec PyProof.Rows PySem.W
section
variable {X : Cx}
end
section
variable {X : Cx} {tg : Expr}
end
section
variable {X : Cx} {pos : Pos} {e e2 : Expr} {te te2 : TE}
end
end L2
set_option Elab.async false
set_option linter.all false
set_option maxRecDepth 100000
set_option maxHeartbeats 4000000
namespace L2
open PySem PySem.Spec PyProof.Rows PySem.W
section
variable {X : Cx} {pins : List (Addr × Obj)} {σ : St} {H : Hp} {s : Shared}
end
section
variable {P : Program} {w : World} {A : Around} {E : Value → Shared → Prop} {s : Shared} {d a : Addr} {o : Obj} {ep : Nat}
end
section
variable {X : Cx}
end
end L2
set_option Elab.async false
set_option linter.all false
set_option maxRecDepth 100000
set_option maxHeartbeats 4000000
namespace L2
open PySem PySem.Spec PyProof.Rows PySem.W
section
variable {X : Cx}
end
section
variable {X : Cx} {e : Expr} {ta : TE} {f : Str} {pos : Pos}
end
end L2
set_option Elab.async false
set_option linter.all false
set_option maxRecDepth 100000
set_option maxHeartbeats 4000000
namespace L2
open PySem PySem.Spec PyProof.Rows PySem.W
section
variable {X : Cx}
end
section
variable {X : Cx}
end
end L2
set_option Elab.async false
set_option linter.all false
set_option maxRecDepth 100000
set_option maxHeartbeats 4000000
namespace L2
open PySem PySem.Spec PyProof.Rows PySem.W
theorem entry_unchain : entryFor table "proto.unchain" = some Builtin.«proto.unchain» := entryFor_of_fast (by kernel_rfl)
theorem next_list_endN {prog : Program} {w : World} {A : Around} {E : Value → Shared → Prop} {s : Shared} {it l ea : Addr} {i : Nat} {items : Array Value} {oe : Obj} {ws : Array Value} {Q : Option Value → Shared → Prop} (hh : A.handled = some (.ref ea)) (he : s.heap.get? ea = some oe) (hw : oe.data = .fields ws) (h2 : ws[2]? = some Value.none) (hne : ea ≠ it)
    (hit : s.heap.IsListIter it l i) (hl : s.heap.IsList l items) (hx : items[i]? = none)
    (hQ : ∀ h', Heap.ExtBut it s.heap h' → Q none { s with heap := h' }) : wpAny (model prog w) A (pyNext (.ref it)) Q E s := by
  obtain ⟨o, ho, hc, hd⟩ := id hit
  obtain ⟨ol, hol, _, nl, hdl⟩ := hl
  unfold pyNext
  refine wpAny_bind (wpAny_attempt (wpAny_callSpecial?_slot (name := Str.ofString "__next__") hit.typeIs slot_listiter_next
    (wpAny_call_entry slot_listiter_next hit.typeIs entry_listiter_next ?_ (args_listiter_next _))))
  show wpAny _ _ (field (.ref it) 0 >>= _) _ _ s
  refine wpAny_bind (wpAny_field ho hd (x := .ref l) rfl ?_)
  show wpAny _ _ (if (Value.ref l == Value.none) = true then _ else _) _ _ s
  rw [if_neg (show ¬ ((Value.ref l == Value.none) = true) from Bool.false_ne_true)]
  show wpAny _ _ (field (.ref it) 1 >>= _) _ _ s
  refine wpAny_bind (wpAny_field ho hd (x := .int i 0) rfl ?_)
  show wpAny _ _ (seqItems? (.ref l) >>= _) _ _ s
  refine wpAny_bind (wpAny_seqItems hol hdl ?_)
  simp only [Int.toNat_natCast, hx]
  refine wpAny_bind (wpAny_rule (wpAny_bind (wpAny_setField ho hd (by simp) ?_)))
  show wpAny _ _ (newExc (.type "StopIteration") [] >>= _) _ _ _
  refine wpAny_bind ?_
  simp only [newExc, newTuple]
  refine wpAny_bind (wpAny_newObj_type ?_ (by size_fits))
  refine wpAny_bind (m := firstArgMember _ _) (wpAny_of_eq (a := Value.none) (by first | rfl | (simp only [firstArgMember]; rfl)) ?_)
  refine wpAny_newObj_type ?_ (by size_fits)
  have hlt : ea < s.heap.objs.size := Heap.lt_size he
  generalize hh1 : s.heap.update it _ = h1
  have he1 : h1.get? ea = some oe := by rw [← hh1, Heap.get?_update_other _ _ (Ne.symm hne)]; exact he
  have hx1 : Heap.ExtBut it s.heap h1 := by rw [← hh1]; exact (Heap.SameBut.update ..).extBut
  simp only [raiseNew]
  refine wpAny_bind (wpAny_handled ?_)
  rw [show A.in1.handled = some (.ref ea) from hh]
  have hs2 : (h1.push { cls := Value.type "tuple", data := Data.seq #[] }).objs.size = h1.objs.size + 1 := by simp [Heap.push]
  have hne2 : ea ≠ (h1.push { cls := Value.type "tuple", data := Data.seq #[] }).objs.size := Nat.ne_of_lt (Nat.lt_of_lt_of_le (Heap.lt_size he1) (by rw [hs2]; exact Nat.le_succ _))
  have hx2 : Heap.ExtBut it s.heap (h1.push { cls := Value.type "tuple", data := Data.seq #[] }) := hx1.push _
  have he2 : (h1.push { cls := Value.type "tuple", data := Data.seq #[] }).get? ea = some oe := Heap.get?_push_of_some _ he1
  have hit2 : (h1.push { cls := Value.type "tuple", data := Data.seq #[] }).objs.size ≠ it := by
    have h3 : h1.objs.size = s.heap.objs.size := by rw [← hh1]; simp [Heap.update]
    exact Ne.symm (Nat.ne_of_lt (Nat.lt_of_lt_of_le (Heap.lt_size ho) (by rw [hs2, h3]; exact Nat.le_succ _)))
  generalize h1.push { cls := Value.type "tuple", data := Data.seq #[] } = h2' at *
  show wpAny _ _ (if (Value.ref ea != Value.ref h2'.objs.size) = true then _ else _) _ _ _
  rw [if_pos (show (Value.ref ea != Value.ref h2'.objs.size) = true by simp [hne2])]
  refine wpAny_bind (wpAny_holding (wpAny_runValue (codeAny_builtin entry_unchain ?_)))
  show wpAny _ _ (field (.ref ea) 2 >>= _) _ _ _
  refine wpAny_bind (wpAny_field (Heap.get?_push_of_some _ he2) hw h2 ?_)
  show wpAny _ _ (if (Value.none == Value.none) = true then _ else _) _ _ _
  rw [if_pos (show (Value.none == Value.none) = true from rfl)]
  refine wpAny_pure ?_
  refine wpAny_bind ?_
  unfold updateField
  refine wpAny_bind (wpAny_load (Heap.get?_push_size _ rfl) ?_)
  show wpAny _ _ (if 2 < (#[Value.ref h1.objs.size, Value.none, Value.none, Value.none, Value.bool false, Value.none] ++ ownMembersOf (Value.type "StopIteration") []).size then _ else _) _ _ _
  rw [if_pos (by rw [Array.size_append]; exact Nat.lt_of_lt_of_le (by decide : 2 < 6) (Nat.le_add_right 6 _))]
  refine wpAny_update (Heap.get?_push_size _ rfl) ?_
  refine wpAny_throw ?_
  refine wpAny_bind (wpAny_isInstance (T := "StopIteration") (b := true) ⟨_, Heap.get?_update_self _ (Heap.get?_push_size _ rfl) rfl, rfl⟩ isSubtype_stop ?_)
  refine wpAny_pure (hQ _ fun b u hb hu => ?_)
  have hb2 : b ≠ h2'.objs.size := Nat.ne_of_lt (Heap.lt_size (hx2 b u hb hu))
  show ((h2'.push _).update h2'.objs.size _).get? b = some u
  rw [Heap.get?_update_other _ _ (Ne.symm hb2)]
  exact Heap.get?_push_of_some _ (hx2 b u hb hu)
section
variable {X : Cx} {ea : Addr} {tg : Expr}
noncomputable def tForN (K : PySem.W.Frag) (ea : Addr) (tl : TE) (g : TG) (tb : TS) : TS := fun D σ H => tl σ H fun v H1 => ∃ a, v = .ref a ∧ (∃ xs, SqL K H1 a xs) ∧ ∃ W : Nat → Nat → St → Hp → Prop, (∃ m, W 0 m σ H1) ∧ ∀ i m σ H, W i m σ H →
  ((Itl K a).stop i H ∧ (∃ C dx fr, H ea = some (XF ea C dx fr)) ∧ D.nx σ H) ∨ ((Itl K a).go i H ∧ ∃ N : St → Hp → Prop, (∀ σ' H', N σ' H' → ∃ m', m' < m ∧ W (i + 1) m' σ' H') ∧ ∀ x H', (Itl K a).yld i H x H' → g x σ H' fun σ2 H2 => tb { D with nx := N, ct := N, bk := D.nx } σ2 H2)
theorem tForN_i {K : PySem.W.Frag} {tl : TE} {g : TG} {tb : TS} {D : Ends} {σ : St} {H : Hp} (k : tl σ H fun v H1 => ∃ a, v = .ref a ∧ (∃ xs, SqL K H1 a xs) ∧ ∃ W : Nat → Nat → St → Hp → Prop, (∃ m, W 0 m σ H1) ∧ ∀ i m σ H, W i m σ H →
  ((Itl K a).stop i H ∧ (∃ C dx fr, H ea = some (XF ea C dx fr)) ∧ D.nx σ H) ∨ ((Itl K a).go i H ∧ ∃ N : St → Hp → Prop, (∀ σ' H', N σ' H' → ∃ m', m' < m ∧ W (i + 1) m' σ' H') ∧ ∀ x H', (Itl K a).yld i H x H' → g x σ H' fun σ2 H2 => tb { D with nx := N, ct := N, bk := D.nx } σ2 H2)) : tForN K ea tl g tb D σ H := k
theorem for_listN {K : PySem.W.Frag} {a : Addr} {xs : List V} {g : TG} {tb : TS} {D : Ends} {σ : St} {H : Hp} (Pv : Nat → St → Hp → Prop) (h0 : Pv 0 σ H) (hl : ∀ i σ H, i ≤ xs.length → Pv i σ H → SqL K H a xs) (hx : ∀ i σ H, Pv i σ H → ∃ C dx fr, H ea = some (XF ea C dx fr))
    (hs : ∀ i x σ H, xs[i]? = some x → Pv i σ H → g x σ H fun σ2 H2 => tb { D with nx := Pv (i + 1), ct := Pv (i + 1), bk := D.nx } σ2 H2) (hd : ∀ σ H, Pv xs.length σ H → D.nx σ H) :
    ∃ W : Nat → Nat → St → Hp → Prop, (∃ m, W 0 m σ H) ∧ ∀ i m σ H, W i m σ H →
      ((Itl K a).stop i H ∧ (∃ C dx fr, H ea = some (XF ea C dx fr)) ∧ D.nx σ H) ∨ ((Itl K a).go i H ∧ ∃ N : St → Hp → Prop, (∀ σ' H', N σ' H' → ∃ m', m' < m ∧ W (i + 1) m' σ' H') ∧ ∀ x H', (Itl K a).yld i H x H' → g x σ H' fun σ2 H2 => tb { D with nx := N, ct := N, bk := D.nx } σ2 H2) := by
  refine ⟨fun i m σ H => m = xs.length - i ∧ i ≤ xs.length ∧ Pv i σ H, ⟨xs.length, by simp, Nat.zero_le _, h0⟩, ?_⟩
  rintro i m σ H ⟨rfl, hi, p⟩
  have q := hl i σ H hi p
  by_cases hlt : i < xs.length
  · refine .inr ⟨⟨xs, xs[i], q, by simp [hlt]⟩, Pv (i + 1), fun σ' H' p' => ⟨xs.length - (i + 1), by omega, rfl, hlt, p'⟩, fun x H' y => ?_⟩
    obtain ⟨e, y⟩ := y
    subst e
    exact hs i x σ _ (y xs q) p
  · have e : i = xs.length := by omega
    subst e
    exact .inl ⟨⟨xs, q, Nat.le_refl _⟩, hx _ _ _ p, hd σ H p⟩
theorem list_itemN {pins : List (Addr × Obj)} {s : Shared} {σ : St} {H : Hp} {E : Value → Shared → Prop} {a it : Addr} {i : Nat} (I : Inv X pins σ H s) (hf : FpOk X pins H it) (st : s.heap.IsListIter it a i) (hg : (Itl X.K a).go i H) :
    wpAny (model X.prog X.w) X.A (pyNext (.ref it)) (fun r s1 => ∃ u, r = some u ∧ wpAny (model X.prog X.w) X.A (letOwnedTupleGo tg (.ref it) u) (fun _ s2 => ∃ x H', Inv X pins σ H' s2 ∧ RelV x u ∧ (Itl X.K a).yld i H x H' ∧ s2.heap.IsListIter it a (i + 1) ∧ H' it = none) E s1) E s := by
  obtain ⟨xs, x, hq, hx⟩ := hg
  obtain ⟨its, rv, p, hz⟩ := I.list hq
  obtain ⟨u, hu, ru⟩ := rv.get hx
  obtain ⟨f0, f1, f2, f3, f4, f5⟩ := hf
  refine wpAny_pyNext_list_item st p.isList (x := u) (by simpa using hu) fun h' st' sb => ?_
  have I1 : Inv X pins σ H { s with heap := h' } := I.turned (t' := s.toks) (fun b o hb e => (sb.2 b hb).trans e) f0 f1 f3 f4 f5
  obtain ⟨o, e, c, d⟩ := id st'
  exact ⟨u, rfl, go_of (s := { s with heap := h' }) e c d (by decide) ⟨x, H, I1, ru, ⟨rfl, fun ys hy => by rw [I.list_inj hy hq]; exact hx⟩, st', f0⟩⟩
theorem list_doneN {pins : List (Addr × Obj)} {s : Shared} {σ : St} {H : Hp} {E : Value → Shared → Prop} {a it : Addr} {i : Nat} (hh : X.A.handled = some (.ref ea)) (I : Inv X pins σ H s) (hf : FpOk X pins H it) (st : s.heap.IsListIter it a i) (hg : (Itl X.K a).stop i H) (hx : ∃ C dx fr, H ea = some (XF ea C dx fr)) :
    wpAny (model X.prog X.w) X.A (pyNext (.ref it)) (fun r s1 => r = none ∧ Inv X pins σ H s1) E s := by
  obtain ⟨xs, hq, hl⟩ := hg
  obtain ⟨C, dx, fr, hx⟩ := hx
  obtain ⟨its, rv, p, hz⟩ := I.list hq
  obtain ⟨f0, f1, f2, f3, f4, f5⟩ := hf
  have hl' := rv.length
  obtain ⟨ob, ws, t0, z, a1, a2, a3, a4, a5, a6, a7, a8⟩ := xf_of I.hok hx
  exact next_list_endN hh a1 a4 a8 (fun z => by rw [z, f0] at hx; cases hx) st p.isList (by simp; omega) fun h' eb => ⟨rfl, I.turned (t' := s.toks) (fun b o hb e => eb b o hb e) f0 f1 f3 f4 f5⟩
theorem ps_forN {iter : Expr} {body : List Stmt} {tl : TE} {g : TG} {tb : TS} {pos : Pos} (hh : X.A.handled = some (.ref ea)) (hp : PassesOwn (model X.prog X.w) X.A X.env X.xe) (hi : PE X iter tl) (hg : PG X tg g) (hb : PSs X body tb)
    (hs : ∀ x, foldedSetIterable iter X.env x = pure x := by intro _; rfl) : PS X (.For tg iter body [] pos) (tForN X.K ea tl g tb) := by
  intro pins s σ H D I h
  refine wpAny_For (thn (hi pins s σ H _ I h) fun v s1 h1 => ?_) hs
  obtain ⟨x, H1, I1, r1, q1⟩ := h1
  obtain ⟨a, e, ⟨xs, hq⟩, W, ⟨m0, w0⟩, turn⟩ := q1
  subst e
  cases r1
  obtain ⟨its, rv, p, hz⟩ := I1.list hq
  refine wpAny_pyIter_list p.isList ?_
  have f2 : FpOk X pins H1 s1.heap.objs.size := I1.fpOk (Nat.le_refl _) (I1.hok.fresh (Nat.le_refl _))
  have I2 : Inv X pins σ H1 { s1 with heap := s1.heap.push { cls := .type "list_iterator", data := .fields #[.ref a, .int 0 0] } } := I1.kept (t' := s1.toks) fun b o e => Heap.get?_push_of_some _ e
  have st2 : Heap.IsListIter (s1.heap.push { cls := .type "list_iterator", data := .fields #[.ref a, .int 0 0] }) s1.heap.objs.size a 0 := ⟨_, Heap.get?_push_size _ rfl, rfl, rfl⟩
  generalize s1.heap.objs.size = it at *
  have stat : ∀ {H' : Hp}, H' it = none → FpOk X pins H' it := fun hn => ⟨hn, f2.2⟩
  have fo : ∀ {h : Heap} {i : Nat}, h.IsListIter it a i → ∃ o, h.get? it = some o ∧ ∀ v, o.data ≠ .cell v := fun st => by
    obtain ⟨o, e, c, d⟩ := st
    exact ⟨o, e, fun v z => by rw [d] at z; cases z⟩
  refine codeAny_forLoop_any (fun n s' => ∃ i σ' H', Inv X pins σ' H' s' ∧ s'.heap.IsListIter it a i ∧ H' it = none ∧ W i n σ' H') ?_ m0 ⟨0, σ, H1, I2, st2, f2.1, w0⟩
  rintro n s3 ⟨i, σ3, H3, I3, st3, fr3, w3⟩
  rcases turn i n σ3 H3 w3 with ⟨stop, hx, qn⟩ | ⟨go, N, hN, step⟩
  · refine wpAny_passesOwn hp (thn (list_doneN (E := X.xe) hh I3 (stat fr3) st3 stop hx) fun r s4 ⟨hr, I4⟩ => ?_)
    subst hr
    exact wpAny_execs_nil ⟨σ3, H3, I4, qn⟩
  · refine wpAny_passesOwn hp (thn (list_itemN (tg := tg) (E := X.xe) I3 (stat fr3) st3 go) fun r s4 ⟨u, hr, h4⟩ => ?_)
    subst hr
    refine wpAny_passesOwn hp (thn h4 fun _ s5 ⟨x, H5, I5, r5, y5, st5, fr5⟩ => ?_)
    have I5' := I5.pinned (fp := [it]) (fun b hb => by rw [List.mem_singleton.mp hb]; exact stat fr5) (fun b hb => by rw [List.mem_singleton.mp hb]; exact fo st5)
    refine wpAny_passesOwn hp (thn (hg _ s5 σ3 H5 x u _ I5' r5 (step x H5 y5)) fun _ s6 ⟨σ6, H6, I6, q6⟩ => ?_)
    refine wpAny_passesOwn hp (thn (hb _ s6 σ6 H6 _ I6 q6) fun f s7 q7 => ?_)
    have again : ∀ {σ7 : St} {H7 : Hp}, Inv X (pins ++ pinsAt [it] s5.heap) σ7 H7 s7 → N σ7 H7 → ∃ m, m < n ∧ ∃ i σ' H', Inv X pins σ' H' s7 ∧ s7.heap.IsListIter it a i ∧ H' it = none ∧ W i m σ' H' := fun {σ7 H7} I7 n7 => by
      obtain ⟨m', hm, w7⟩ := hN σ7 H7 n7
      obtain ⟨o, e, d⟩ := fo st5
      have hp := I7.pin (it, o) (List.mem_append_right _ (List.mem_append_right _ (mem_pinsAt (List.mem_singleton.mpr rfl) e)))
      exact ⟨m', hm, i + 1, σ7, H7, I7.unpinned, st5.at fun o' e' => by rw [e] at e'; cases e'; exact hp.1, hp.2.1, w7⟩
    cases f with
    | next => obtain ⟨σ7, H7, I7, n7⟩ := q7; exact again I7 n7
    | cont => obtain ⟨σ7, H7, I7, n7⟩ := q7; exact again I7 n7
    | brk => obtain ⟨σ7, H7, I7, q7⟩ := q7; exact ⟨σ7, H7, I7.unpinned, q7⟩
    | ret v => obtain ⟨x7, σ7, H7, I7, r7, q7⟩ := q7; exact ⟨x7, σ7, H7, I7.unpinned, r7, q7⟩
end
section
variable {X : Cx} {k : Nat} {f C C' : Addr} {fd : FuncData} {ps : List Str} {sp : Sp} {dvs : List V} {ds : List Value} {m nm cx : Str} {pos apos cp hpos tpos xpos : Pos} {e o : Expr} {es : List Expr} {ta : TE} {t : TA} {bm' : List Value} {b0 : Stmt} {suite : List Stmt} {ts : Addr → TS} {n : Nat}
noncomputable def tTryM (K : Frag) (C C' : Addr) (m : Str) (sp : Sp) (dvs : List V) (ta : TE) (t : TA) (ok : Ends → St → V → Hp → Prop) (hd : Ends → St → Addr → Hp → Prop) : TS := fun D σ H => ta σ H fun x H1 => ∃ a dx fs, x = .ref a ∧ H1 a = some (.ins C dx fs) ∧ fs.lookup m = none ∧
  t σ H1 fun vs H2 => sp (x :: (vs ++ dvs)) H2 (fun v H3 => ok D σ v H3) (fun c eo H3 => ∀ ea, eo = some ea → ∃ C dx bm, c = .ref C ∧ H3 ea = some (XF ea C dx false) ∧ XCls K C bm ∧ (Value.ref C :: bm).contains (.ref C') = true ∧ hd D σ ea H3)
theorem tTryM_i {K : Frag} {ok : Ends → St → V → Hp → Prop} {hd : Ends → St → Addr → Hp → Prop} {D : Ends} {σ : St} {H : Hp} (h : ta σ H fun x H1 => ∃ a dx fs, x = .ref a ∧ H1 a = some (.ins C dx fs) ∧ fs.lookup m = none ∧
  t σ H1 fun vs H2 => sp (x :: (vs ++ dvs)) H2 (fun v H3 => ok D σ v H3) (fun c eo H3 => ∀ ea, eo = some ea → ∃ C dx bm, c = .ref C ∧ H3 ea = some (XF ea C dx false) ∧ XCls K C bm ∧ (Value.ref C :: bm).contains (.ref C') = true ∧ hd D σ ea H3)) : tTryM K C C' m sp dvs ta t ok hd D σ H := h
theorem try_meth {pl : Sem Bool} {pins : List (Addr × Obj)} {s : Shared} {σ : St} {H : Hp} {D : Ends} {ok : Ends → St → V → Hp → Prop} {hd : Ends → St → Addr → Hp → Prop} {Eh : Value → Shared → Prop} (F : FnOk X.prog X.w X.K X.mg X.base (CXo X.prog X.w) k f fd ps sp) (hr : Room k X.A) (he : PE X.nox o ta) (c : Cls X.K C) (hm : Meth X.K C m f) (hb : Binds X.K fd ps ds) (hvd : Vals dvs ds) (ha : PA X.nox (e :: es) t)
    (hE : ∀ ea C dx bm H' s', Inv X pins σ H' s' → H' ea = some (XF ea C dx false) → MetAt X pins H' ea s'.heap → XCls X.K C bm → (Value.ref C :: bm).contains (.ref C') = true → hd D σ ea H' → Eh (.ref ea) s')
    (I : Inv X pins σ H s) (h : tTryM X.K C C' m sp dvs ta t ok hd D σ H) (hst : starEach (e :: es) X.env = (false, eval e X.env) :: starEach es X.env) (hpl : (backTo pos (starEach es X.env)).any (·.1) = false)
    (ht : eval (.Call (.Attribute o m apos) (e :: es) [] pos) X.env = (do
      let ov ← eval o X.env
      standAt apos.atName
      let (f, first) ← holding [ov] (getMethod ov m pl)
      callWith pos f first (backTo pos (starEach (e :: es) X.env)) (backToKw pos (keywordEach [] X.env)))) :
    wpAny (model X.prog X.w) X.A (eval (.Call (.Attribute o m apos) (e :: es) [] pos) X.env) (EP X pins σ (ok D σ)) Eh s := by
  refine PySem.W.methodCall_KW (pl := pl) (wpAny_mono (he pins s σ H _ (I.wish _) h) (fun u s1 ⟨x, H1, I1, rx, a, dx, fs, ex, ea, l, q⟩ => ?_) fun _ _ z => z.elim) ht
  subst ex
  obtain rfl : u = Value.ref a := rx
  have I1 := I1.unwish
  refine getmeth_ok I1 ea c hm l ?_
  refine PySem.W.callWith_K (first := [.ref a]) (h₀ := X.base) I.ok.mod.kin hm.kp (wpAny_mono (ha pos pins s1 σ H1 _ (I1.wish _) q) (fun us s2 ⟨vs, H2, I2, r, q2⟩ => ⟨I2.kIn, ?_⟩) fun _ _ z => z.elim) hst hpl
  have I2 := I2.unwish
  have r2 : Vals (.ref a :: (vs ++ dvs)) (.ref a :: (us ++ ds)) := .cons rfl (r.append hvd)
  have hl : (Value.ref a :: us ++ ds).length = ps.length := by
    have z := r2.length
    rw [F.len _ _ _ _ q2] at z
    exact z.symm
  refine wpAny_call (codeAny_mono (F.run X.A X.stack s2 H2 ⟨Value.ref a :: us, []⟩ (.ref a :: (us ++ ds)) (.ref a :: (vs ++ dvs)) _ _ hr I2.env0 (hb s2 (Value.ref a :: us) I2.kIn hl) r2 q2) fun r s' hq => ?_)
  cases r with
  | error e =>
    obtain ⟨ea', C2, dx2, H', rfl, hx, os, bare, un, hok, tb, hu⟩ := hq
    have I3 := I2.call' (ch := []) os un hok bare (fun _ z => absurd z List.not_mem_nil)
    obtain ⟨o', vs', T, b1, b2, b3, b4, b5, b6, b7⟩ := tb
    obtain ⟨C3, dx3, bm, e1, e2, e3, e4, e5⟩ := hu ea' rfl
    exact hE ea' C3 dx3 bm H' s' I3 e2 ⟨o', vs', T, b1, b2, b3, b4, tok_new I2 b5 b6, b7⟩ e3 e4 e5
  | ok fl =>
    cases fl with
    | ret u => exact I2.after hq
    | next => exact False.elim hq
    | brk => exact False.elim hq
    | cont => exact False.elim hq
theorem ps_trymdo_as {pl : Sem Bool} (hst : X.stack = X.env :: X.outer) (hfr : X.env.frame = some X.env.locals) (F : FnOk X.prog X.w X.K X.mg X.base (CXo X.prog X.w) k f fd ps sp) (hr : Room k X.A) (he : PE X.nox o ta) (c : Cls X.K C) (hm : Meth X.K C m f) (hb : Binds X.K fd ps ds) (hvd : Vals dvs ds) (ha : PA X.nox (e :: es) t)
    (hN : X.N.Nodup) (hgc : Gl X cx) (hmc : X.mg cx = some (.ref C')) (Xd : XCls X.K C' bm') (hn : X.N[n]? = some nm) (hkn : X.env.kindOf nm = some .local) (hlo : Loc X.env.scope nm) (hs : ∀ ea, PSs (X.inX ea) (b0 :: suite) (ts ea))
    (hfn : X.fn nm = true ∨ X.env.scope.names.lookup nm = some .local := by first | exact .inl rfl | exact .inr rfl) (hsw : swapsWith (.Call (.Attribute o m apos) (e :: es) [] pos) none xpos.line X.env = pure false := by rfl) (hdc : (cx == ("__debug__" : Str)) = false := by decide)
    (hse : starEach (e :: es) X.env = (false, eval e X.env) :: starEach es X.env := by rfl) (hpl : (backTo pos (starEach es X.env)).any (·.1) = false := by rfl)
    (ht : eval (.Call (.Attribute o m apos) (e :: es) [] pos) X.env = (do
      let ov ← eval o X.env
      standAt apos.atName
      let (f, first) ← holding [ov] (getMethod ov m pl)
      callWith pos f first (backTo pos (starEach (e :: es) X.env)) (backToKw pos (keywordEach [] X.env))) := by rfl) :
    PS X (.Try [.Expr (.Call (.Attribute o m apos) (e :: es) [] pos) xpos] [.ExceptHandler (some (.Name cx cp)) (some nm) (b0 :: suite) hpos] [] [] tpos) (tTryM X.K C C' m sp dvs ta t (fun D σ v H2 => D.nx σ H2) (fun D σ ea H2 => ts ea (D.gone n) (σ.set n (some (.ref ea))) H2)) := by
  intro pins s σ H D I h
  refine wpAny_Try_except (try_drop hsw (try_meth (D := D) F hr he c hm hb hvd ha (fun ea C dx bm H' s' I' hx tb Xc hc hh => ?_) I h hse hpl ht) I)
  exact handle_as hst hfr I' hx tb Xc Xd hc hgc hmc hdc hN hn hkn hlo hfn (hs ea) hh
end
end L2
set_option Elab.async false
set_option linter.all false
set_option maxRecDepth 100000
set_option maxHeartbeats 4000000
namespace L2
open PySem PySem.Spec PyProof.Rows PySem.W
section
variable {X : Cx}
noncomputable def mEq1S (K : PySem.W.Frag) : R2 := fun x y H Q => ∃ (p q : Addr) (y0 z : Str) (us : List V), x = .ref p ∧ y = .ref q ∧ SqT K H p (.str y0 :: us) ∧ SqT K H q [.str z] ∧ Q (.bl (decide (y0 = z) && us.isEmpty)) H
theorem ko_eq1S (K : PySem.W.Frag) (hK : X.K = K) (hu : X.A.units + 150 < cLine) : OpR X (compareOp .Eq) (mEq1S K) := by
  subst hK
  intro pins s σ H x y v u Q I rx ry h
  obtain ⟨p, q, y0, z, us, rfl, rfl, hp, hq, k⟩ := h
  cases rx
  cases ry
  obtain ⟨its, rv, p1, _⟩ := I.tuple hp
  obtain ⟨its', rv', p2, _⟩ := I.tuple hq
  have l1 := rv.length
  have l2 := rv'.length
  rw [List.length_cons] at l1 l2
  refine SeqAt.eq_tupleAt (e := fun j => decide ((Sum.inr y0 : Key) = Sum.inr z)) (show s.heap.IsTuple p its.toArray from p1) (show s.heap.IsTuple q its'.toArray from p2) (by omega) (fun j h1 h2 => ?_) ?_
  · have g1 : j < its.length := by simpa using h1
    have g2 : j < its'.length := by simpa using h2
    have j0 : j = 0 := by simp at l2; omega
    subst j0
    obtain ⟨w1, y1, z1⟩ := rv.get (show (V.str y0 :: us)[0]? = some (V.str y0) from rfl)
    obtain ⟨w2, y2, z2⟩ := rv'.get (show [V.str z][0]? = some (V.str z) from rfl)
    have q1 : its.toArray[0] = w1 := by
      have := List.getElem?_eq_getElem g1
      rw [y1] at this
      simpa using (Option.some.inj this).symm
    have q2 : its'.toArray[0] = w2 := by
      have := List.getElem?_eq_getElem g2
      rw [y2] at this
      simpa using (Option.some.inj this).symm
    rw [q1, q2]
    exact eqAt_kV (a := Sum.inr y0) (b := Sum.inr z) z1 z2
  · have e : (((List.range (min its.toArray.size its'.toArray.size)).all fun j => decide ((Sum.inr y0 : Key) = Sum.inr z)) && (its.toArray.size == its'.toArray.size)) = (decide (y0 = z) && us.isEmpty) := by
      rw [List.size_toArray, List.size_toArray, ← l1, ← l2, List.length_nil, Nat.min_eq_right (by omega), key_rr]
      cases us with
      | nil => simp
      | cons a r => simp
    rw [e]
    exact ⟨.bl _, H, I, rfl, k⟩
theorem mEq1S_i {K : Frag} {H : Hp} {Q : VK} {p q : Addr} {y0 z : Str} {us : List V} (hp : SqT K H p (.str y0 :: us)) (hq : SqT K H q [.str z]) (k : Q (.bl (decide (y0 = z) && us.isEmpty)) H) : mEq1S K (.ref p) (.ref q) H Q := ⟨p, q, y0, z, us, rfl, rfl, hp, hq, k⟩
end
end L2
set_option Elab.async false
set_option linter.all false
set_option maxRecDepth 100000
set_option maxHeartbeats 4000000
namespace My
open PySem PySem.Spec PyProof.Rows L2
local macro_rules | `(tactic| walk_at "stq") => `(tactic| first | refine tAsg_i ?_ | refine gName_i ?_ | refine tRet_i ?_ | refine tIfS_i ?_ | refine tNext_i ?_ | refine tDrop_i ?_ | refine mTest_i ?_ | refine mTrue_i ?_ | refine mTru_b ?_ | refine mB_i ?_ | refine tOp_i ?_ | refine tUn_i ?_ | refine mUn_i ?_ | refine m20_i ?_ | refine mAdd_i ?_ | refine mEq_i ?_ | refine mEq_s ?_ | refine mEq_b ?_ | refine mInS_i ?_ | (refine' mVar_i ?hv ?_; (case hv => with_unfolding_all rfl)) | refine tC_i ?_ | refine mChain_i ?_ | refine mAndV_i ?_ | refine mOrV_i ?_ | refine mNotV_i ?_ | refine tIf_i ?_ | refine tAnd_i ?_ | refine tOr_i ?_ | refine tNot_i ?_ | refine tCB_i ?_ | refine tCall0_i ?_ | refine tCons_i ?_ | refine tNil_i ?_ | refine tBM_i ?_ | refine tBM0_i ?_ | refine tTup_i ?_ | refine tLst_i ?_ | refine tSl_i ?_ | refine tNoPart_i ?_ | refine mPart_i ?_ | refine mI_i ?_ | refine is_str ?_ | refine is_bool ?_ | refine is_int ?_ | refine is_int_bool ?_ | refine mMin_i ?_ | refine isN_non ?_ | refine isN_ref ?_ | refine mInt_b ?_ | refine mMax_i ?_ | refine tDGet_i ?_ | refine tDGet2_i ?_ | refine sDPut_i ?_ | refine tDisp_i ?_ | refine tPairs_c ?_ | refine tPairs_n ?_ | refine iRng2_i ?_ | refine iRev_i ?_ | refine iEnum_i ?_ | refine iSeq_i ?_ | refine mAbs_i ?_ | refine gCons_i ?_ | refine gNil_i ?_ | refine tWhile_i ?_ | (refine' mAug_i ?hw ?_; (case hw => with_unfolding_all rfl)) | refine mIAdd_i ?_ | refine tFor_i ?_ | refine tRaise_i ?_ | refine tXMake_i ?_ | refine tTry_i ?_ | refine tXGet_i ?_ | refine tBInit_i ?_ | refine tXSet_i ?_ | refine tPar_i ?_ | refine tF3i_i ?_ | refine iZip_i ?_ | refine tMeth_i ?_ | refine tFld_i ?_ | refine sFld_i ?_ | refine tMake_i ?_ | refine tF2n_i ?_ | refine tTryM_i ?_ | refine tForN_i ?_ | refine tFr_i ?_ | refine tF2_i ?_ | refine iSeq_i ?_ | refine iStr_i ?_ | refine iList_i ?_ | refine iTup_i ?_ | refine iRng1_i ?_ | refine tComp_i ?_ | (refine m2_i ?hc ?_; (case hc => first | (show (0 : Int) < _; decide) | exact cdiv_i (by decide) (by decide))))
local macro_rules | `(tactic| walk_at "stp") => `(tactic| repeat (with_reducible first | refine tSeq_i ?_ | walk_at "stq"))
local macro_rules | `(tactic| walk_at "stm") => `(tactic| repeat (with_reducible walk_at "stq"))
noncomputable def top (i : Nat) : Stmt := PySem.Challenge.pw_goaltrail_k50_boxes_told.main.body.getD i (.Pass ⟨0, 0, 0, 0⟩)
noncomputable abbrev s_TrailError_init : Stmt := inClass (top 2) 0
noncomputable abbrev s_Heap_init : Stmt := inClass (top 18) 0
noncomputable abbrev s_Heap_made : Stmt := inClass (top 18) 1
noncomputable abbrev s_Heap_free : Stmt := inClass (top 18) 2
noncomputable abbrev s_Heap_number : Stmt := inClass (top 18) 3
noncomputable abbrev s_Heap_app : Stmt := inClass (top 18) 4
noncomputable abbrev s_Heap_end_of : Stmt := inClass (top 18) 5
noncomputable abbrev s_Heap_look : Stmt := inClass (top 18) 6
noncomputable abbrev s_Heap_parts : Stmt := inClass (top 18) 13
noncomputable abbrev s_Heap_term : Stmt := inClass (top 18) 14
noncomputable abbrev s_Heap_read_out : Stmt := inClass (top 18) 15
noncomputable abbrev s_num : Stmt := top 12
noncomputable abbrev s_unknown : Stmt := top 13
noncomputable abbrev s_app : Stmt := top 14
noncomputable abbrev s_l_whole : Stmt := top 20
noncomputable abbrev s_l_cells : Stmt := top 21
noncomputable abbrev s_l_next : Stmt := top 22
noncomputable abbrev s_l_parts : Stmt := top 23
noncomputable abbrev s_l_term : Stmt := top 24
noncomputable abbrev s_l_put : Stmt := top 25
noncomputable abbrev s_l_read : Stmt := top 26
noncomputable abbrev s_l_parts_right : Stmt := top 27
noncomputable abbrev s_l_seen : Stmt := top 28
noncomputable abbrev s_l_big : Stmt := top 29
noncomputable abbrev s_l_doubled : Stmt := top 30
noncomputable abbrev s_l_great : Stmt := top 31
noncomputable abbrev s_l_edge_right : Stmt := top 32
noncomputable abbrev s_law : Stmt := top 33
theorem sc_TrailError_init : FnScope ["self", "words", "row"] ["self", "words", "row"] (defScope s_TrailError_init) := ⟨rfl, rfl, rfl, by decide +kernel, rfl, by decide +kernel, by decide +kernel⟩
theorem sc_Heap_init : FnScope ["self"] ["self"] (defScope s_Heap_init) := ⟨rfl, rfl, rfl, by decide +kernel, rfl, by decide +kernel, by decide +kernel⟩
theorem sc_Heap_made : FnScope ["self", "box"] ["self", "box"] (defScope s_Heap_made) := ⟨rfl, rfl, rfl, by decide +kernel, rfl, by decide +kernel, by decide +kernel⟩
theorem sc_Heap_free : FnScope ["self"] ["self"] (defScope s_Heap_free) := ⟨rfl, rfl, rfl, by decide +kernel, rfl, by decide +kernel, by decide +kernel⟩
theorem sc_Heap_number : FnScope ["self", "n"] ["self", "n"] (defScope s_Heap_number) := ⟨rfl, rfl, rfl, by decide +kernel, rfl, by decide +kernel, by decide +kernel⟩
theorem sc_Heap_app : FnScope ["self", "sign", "kids"] ["self", "sign", "kids"] (defScope s_Heap_app) := ⟨rfl, rfl, rfl, by decide +kernel, rfl, by decide +kernel, by decide +kernel⟩
theorem sc_Heap_end_of : FnScope ["self", "at", "here"] ["self", "at"] (defScope s_Heap_end_of) := ⟨rfl, rfl, rfl, by decide +kernel, rfl, by decide +kernel, by decide +kernel⟩
theorem sc_Heap_look : FnScope ["self", "at", "here"] ["self", "at"] (defScope s_Heap_look) := ⟨rfl, rfl, rfl, by decide +kernel, rfl, by decide +kernel, by decide +kernel⟩
theorem sc_Heap_parts : FnScope ["self", "at", "most", "count", "todo", "box"] ["self", "at", "most"] (defScope s_Heap_parts) := ⟨rfl, rfl, rfl, by decide +kernel, rfl, by decide +kernel, by decide +kernel⟩
theorem sc_Heap_term : FnScope ["self", "at"] ["self", "at"] (defScope s_Heap_term) := ⟨rfl, rfl, rfl, by decide +kernel, rfl, by decide +kernel, by decide +kernel⟩
theorem sc_Heap_read_out : FnScope ["self", "at", "box", "address"] ["self", "at"] (defScope s_Heap_read_out) := ⟨rfl, rfl, rfl, by decide +kernel, rfl, by decide +kernel, by decide +kernel⟩
theorem sc_num : FnScope ["n"] ["n"] (defScope s_num) := ⟨rfl, rfl, rfl, by decide +kernel, rfl, by decide +kernel, by decide +kernel⟩
theorem sc_unknown : FnScope ["name"] ["name"] (defScope s_unknown) := ⟨rfl, rfl, rfl, by decide +kernel, rfl, by decide +kernel, by decide +kernel⟩
theorem sc_app : FnScope ["sign", "kids"] ["sign", "kids"] (defScope s_app) := ⟨rfl, rfl, rfl, by decide +kernel, rfl, by decide +kernel, by decide +kernel⟩
theorem sc_l_whole : FnScope ["_law_found"] ["_law_found"] (defScope s_l_whole) := ⟨rfl, rfl, rfl, by decide +kernel, rfl, by decide +kernel, by decide +kernel⟩
theorem sc_l_cells : FnScope ["_law_script", "_law_many", "_law_cells_here", "_law_number"] ["_law_script", "_law_many"] (defScope s_l_cells) := ⟨rfl, rfl, rfl, by decide +kernel, rfl, by decide +kernel, by decide +kernel⟩
theorem sc_l_next : FnScope ["_law_left"] ["_law_left"] (defScope s_l_next) := ⟨rfl, rfl, rfl, by decide +kernel, rfl, by decide +kernel, by decide +kernel⟩
theorem sc_l_parts : FnScope ["_law_term_here"] ["_law_term_here"] (defScope s_l_parts) := ⟨rfl, rfl, rfl, by decide +kernel, rfl, by decide +kernel, by decide +kernel⟩
theorem sc_l_term : FnScope ["_law_left", "_law_room", "_law_cell", "_law_way", "_law_many", "_law_kids", "_law_k", "_law_kid"] ["_law_left", "_law_room"] (defScope s_l_term) := ⟨rfl, rfl, rfl, by decide +kernel, rfl, by decide +kernel, by decide +kernel⟩
theorem sc_l_put : FnScope ["_law_heap", "_law_term_here", "_law_known", "_law_kids", "_law_found"] ["_law_heap", "_law_term_here", "_law_known"] (defScope s_l_put) := ⟨rfl, rfl, rfl, by decide +kernel, rfl, by decide +kernel, by decide +kernel⟩
theorem sc_l_read : FnScope ["_law_term_here", "_law_known"] ["_law_term_here", "_law_known"] (defScope s_l_read) := ⟨rfl, rfl, rfl, by decide +kernel, rfl, by decide +kernel, by decide +kernel⟩
theorem sc_l_parts_right : FnScope ["_law_heap", "_law_at", "_law_size", "_law_most", "_law_found"] ["_law_heap", "_law_at", "_law_size", "_law_most"] (defScope s_l_parts_right) := ⟨rfl, rfl, rfl, by decide +kernel, rfl, by decide +kernel, by decide +kernel⟩
theorem sc_l_seen : FnScope ["_law_heap", "_law_at", "_law_term_here", "_law_known", "_law_here", "_law_k"] ["_law_heap", "_law_at", "_law_term_here", "_law_known"] (defScope s_l_seen) := ⟨rfl, rfl, rfl, by decide +kernel, rfl, by decide +kernel, by decide +kernel⟩
theorem sc_l_big : FnScope ["_law_heap", "_law_at", "e", "_law_other"] ["_law_heap", "_law_at"] (defScope s_l_big) := ⟨rfl, rfl, rfl, by decide +kernel, rfl, by decide +kernel, by decide +kernel⟩
theorem sc_l_doubled : FnScope ["_law_heap", "_law_at", "_law_size", "_law_times", "_law_k"] ["_law_heap", "_law_at", "_law_size", "_law_times"] (defScope s_l_doubled) := ⟨rfl, rfl, rfl, by decide +kernel, rfl, by decide +kernel, by decide +kernel⟩
theorem sc_l_great : FnScope ["_law_heap", "_law_term_here", "_law_at", "_law_times", "_law_cell", "_law_there", "_law_size", "_law_most", "_law_found"] ["_law_heap", "_law_term_here", "_law_at", "_law_times", "_law_cell"] (defScope s_l_great) := ⟨rfl, rfl, rfl, by decide +kernel, rfl, by decide +kernel, by decide +kernel⟩
theorem sc_l_edge_right : FnScope ["_law_cell", "_law_heap", "_law_at", "_law_size", "_law_k"] ["_law_cell"] (defScope s_l_edge_right) := ⟨rfl, rfl, rfl, by decide +kernel, rfl, by decide +kernel, by decide +kernel⟩
theorem sc_law : FnScope ["_law_script", "_law_cells_here", "_law_left", "_law_heaps", "_law_knowns", "_law_rows", "_law_k", "_law_side", "_law_term_here", "_law_at", "_law_heap", "_law_most"] ["_law_script"] (defScope s_law) := ⟨rfl, rfl, rfl, by decide +kernel, rfl, by decide +kernel, by decide +kernel⟩
set_option genInjectivity false in
structure Ad where
  k_TrailError : Addr
  k_NoText : Addr
  k_NoSign : Addr
  k_NoRule : Addr
  k_Big : Addr
  k_HasKeep : Addr
  k_NotLayered : Addr
  k_Fault : Addr
  k_Heap : Addr
  a_TrailError_init : Addr
  d_TrailError_init : FuncData
  v_TrailError_init : Addr
  w_TrailError_init_0 : Tok
  a_Heap_init : Addr
  d_Heap_init : FuncData
  a_Heap_made : Addr
  d_Heap_made : FuncData
  a_Heap_free : Addr
  d_Heap_free : FuncData
  a_Heap_number : Addr
  d_Heap_number : FuncData
  a_Heap_app : Addr
  d_Heap_app : FuncData
  a_Heap_end_of : Addr
  d_Heap_end_of : FuncData
  a_Heap_look : Addr
  d_Heap_look : FuncData
  a_Heap_parts : Addr
  d_Heap_parts : FuncData
  a_Heap_term : Addr
  d_Heap_term : FuncData
  a_Heap_read_out : Addr
  d_Heap_read_out : FuncData
  a_num : Addr
  d_num : FuncData
  a_unknown : Addr
  d_unknown : FuncData
  a_app : Addr
  d_app : FuncData
  a_l_whole : Addr
  d_l_whole : FuncData
  a_l_cells : Addr
  d_l_cells : FuncData
  a_l_next : Addr
  d_l_next : FuncData
  a_l_parts : Addr
  d_l_parts : FuncData
  a_l_term : Addr
  d_l_term : FuncData
  a_l_put : Addr
  d_l_put : FuncData
  a_l_read : Addr
  d_l_read : FuncData
  a_l_parts_right : Addr
  d_l_parts_right : FuncData
  a_l_seen : Addr
  d_l_seen : FuncData
  a_l_big : Addr
  d_l_big : FuncData
  a_l_doubled : Addr
  d_l_doubled : FuncData
  a_l_great : Addr
  d_l_great : FuncData
  a_l_edge_right : Addr
  d_l_edge_right : FuncData
  a_law : Addr
  d_law : FuncData
  c_FREE : Addr
  t_MOST_PARTS : Tok
structure Txt (K : PySem.W.Frag) (mg : Str → Option Value) (t : Ad) : Prop where
  m_TrailError : mg "TrailError" = some (.ref t.k_TrailError)
  x_TrailError : XCls K t.k_TrailError [.type "ValueError", .type "Exception", .type "BaseException", .type "object"]
  u_TrailError : XUp [.type "ValueError", .type "Exception", .type "BaseException", .type "object"]
  at_TrailError : XAttr K t.k_TrailError
  no_TrailError_row : NoAttr K t.k_TrailError "row"
  mk_TrailError : XMk K t.k_TrailError [.type "ValueError", .type "Exception", .type "BaseException", .type "object"] t.a_TrailError_init
  m_NoText : mg "NoText" = some (.ref t.k_NoText)
  m_NoSign : mg "NoSign" = some (.ref t.k_NoSign)
  m_NoRule : mg "NoRule" = some (.ref t.k_NoRule)
  m_Big : mg "Big" = some (.ref t.k_Big)
  x_Big : XCls K t.k_Big [.ref t.k_TrailError, .type "ValueError", .type "Exception", .type "BaseException", .type "object"]
  u_Big : XUp [.ref t.k_TrailError, .type "ValueError", .type "Exception", .type "BaseException", .type "object"]
  at_Big : XAttr K t.k_Big
  no_Big_row : NoAttr K t.k_Big "row"
  mk_Big : XMk K t.k_Big [.ref t.k_TrailError, .type "ValueError", .type "Exception", .type "BaseException", .type "object"] t.a_TrailError_init
  is_Big : XIs K t.k_Big
  iz_Big_Fault : PySem.W.kitOne K (.ref t.k_Big) (.ref t.k_Fault) = some false
  iz_Big_HasKeep : PySem.W.kitOne K (.ref t.k_Big) (.ref t.k_HasKeep) = some false
  iz_Big_NoRule : PySem.W.kitOne K (.ref t.k_Big) (.ref t.k_NoRule) = some false
  iz_Big_NoSign : PySem.W.kitOne K (.ref t.k_Big) (.ref t.k_NoSign) = some false
  iz_Big_NotLayered : PySem.W.kitOne K (.ref t.k_Big) (.ref t.k_NotLayered) = some false
  iz_Big_NoText : PySem.W.kitOne K (.ref t.k_Big) (.ref t.k_NoText) = some false
  iz_Big_Big : PySem.W.kitOne K (.ref t.k_Big) (.ref t.k_Big) = some true
  iz_Big_ValueError : PySem.W.kitOne K (.ref t.k_Big) (.type "ValueError") = some true
  m_HasKeep : mg "HasKeep" = some (.ref t.k_HasKeep)
  m_NotLayered : mg "NotLayered" = some (.ref t.k_NotLayered)
  m_Fault : mg "Fault" = some (.ref t.k_Fault)
  m_Heap : mg "Heap" = some (.ref t.k_Heap)
  cl_Heap : Cls K t.k_Heap
  no_Heap_boxes : NoAttr K t.k_Heap "boxes"
  no_Heap_trail : NoAttr K t.k_Heap "trail"
  mk_Heap : Mk K t.k_Heap t.a_Heap_init
  me_Heap_made : Meth K t.k_Heap "made" t.a_Heap_made
  me_Heap_free : Meth K t.k_Heap "free" t.a_Heap_free
  me_Heap_number : Meth K t.k_Heap "number" t.a_Heap_number
  me_Heap_app : Meth K t.k_Heap "app" t.a_Heap_app
  me_Heap_end_of : Meth K t.k_Heap "end_of" t.a_Heap_end_of
  me_Heap_look : Meth K t.k_Heap "look" t.a_Heap_look
  me_Heap_parts : Meth K t.k_Heap "parts" t.a_Heap_parts
  me_Heap_term : Meth K t.k_Heap "term" t.a_Heap_term
  me_Heap_read_out : Meth K t.k_Heap "read_out" t.a_Heap_read_out
  F_TrailError_init : FunD K "__init__" "TrailError.__init__" s_TrailError_init t.a_TrailError_init t.d_TrailError_init (.ref t.v_TrailError_init)
  b_TrailError_init : Binds K t.d_TrailError_init ["self", "words", "row"] []
  bd_TrailError_init : Binds K t.d_TrailError_init ["self", "words", "row"] [.int 0 t.w_TrailError_init_0]
  F_Heap_init : Fun K "__init__" "Heap.__init__" s_Heap_init t.a_Heap_init t.d_Heap_init
  b_Heap_init : Binds K t.d_Heap_init ["self"] []
  F_Heap_made : Fun K "made" "Heap.made" s_Heap_made t.a_Heap_made t.d_Heap_made
  b_Heap_made : Binds K t.d_Heap_made ["self", "box"] []
  F_Heap_free : Fun K "free" "Heap.free" s_Heap_free t.a_Heap_free t.d_Heap_free
  b_Heap_free : Binds K t.d_Heap_free ["self"] []
  F_Heap_number : Fun K "number" "Heap.number" s_Heap_number t.a_Heap_number t.d_Heap_number
  b_Heap_number : Binds K t.d_Heap_number ["self", "n"] []
  F_Heap_app : Fun K "app" "Heap.app" s_Heap_app t.a_Heap_app t.d_Heap_app
  b_Heap_app : Binds K t.d_Heap_app ["self", "sign", "kids"] []
  F_Heap_end_of : Fun K "end_of" "Heap.end_of" s_Heap_end_of t.a_Heap_end_of t.d_Heap_end_of
  b_Heap_end_of : Binds K t.d_Heap_end_of ["self", "at"] []
  F_Heap_look : Fun K "look" "Heap.look" s_Heap_look t.a_Heap_look t.d_Heap_look
  b_Heap_look : Binds K t.d_Heap_look ["self", "at"] []
  F_Heap_parts : Fun K "parts" "Heap.parts" s_Heap_parts t.a_Heap_parts t.d_Heap_parts
  b_Heap_parts : Binds K t.d_Heap_parts ["self", "at", "most"] []
  F_Heap_term : Fun K "term" "Heap.term" s_Heap_term t.a_Heap_term t.d_Heap_term
  b_Heap_term : Binds K t.d_Heap_term ["self", "at"] []
  F_Heap_read_out : Fun K "read_out" "Heap.read_out" s_Heap_read_out t.a_Heap_read_out t.d_Heap_read_out
  b_Heap_read_out : Binds K t.d_Heap_read_out ["self", "at"] []
  F_num : Fun K "num" "num" s_num t.a_num t.d_num
  b_num : Binds K t.d_num ["n"] []
  m_num : mg "num" = some (.ref t.a_num)
  F_unknown : Fun K "unknown" "unknown" s_unknown t.a_unknown t.d_unknown
  b_unknown : Binds K t.d_unknown ["name"] []
  m_unknown : mg "unknown" = some (.ref t.a_unknown)
  F_app : Fun K "app" "app" s_app t.a_app t.d_app
  b_app : Binds K t.d_app ["sign", "kids"] []
  m_app : mg "app" = some (.ref t.a_app)
  F_l_whole : Fun K "_law_whole" "_law_whole" s_l_whole t.a_l_whole t.d_l_whole
  b_l_whole : Binds K t.d_l_whole ["_law_found"] []
  m_l_whole : mg "_law_whole" = some (.ref t.a_l_whole)
  F_l_cells : Fun K "_law_cells" "_law_cells" s_l_cells t.a_l_cells t.d_l_cells
  b_l_cells : Binds K t.d_l_cells ["_law_script", "_law_many"] []
  m_l_cells : mg "_law_cells" = some (.ref t.a_l_cells)
  F_l_next : Fun K "_law_next" "_law_next" s_l_next t.a_l_next t.d_l_next
  b_l_next : Binds K t.d_l_next ["_law_left"] []
  m_l_next : mg "_law_next" = some (.ref t.a_l_next)
  F_l_parts : Fun K "_law_parts" "_law_parts" s_l_parts t.a_l_parts t.d_l_parts
  b_l_parts : Binds K t.d_l_parts ["_law_term_here"] []
  m_l_parts : mg "_law_parts" = some (.ref t.a_l_parts)
  F_l_term : Fun K "_law_term" "_law_term" s_l_term t.a_l_term t.d_l_term
  b_l_term : Binds K t.d_l_term ["_law_left", "_law_room"] []
  m_l_term : mg "_law_term" = some (.ref t.a_l_term)
  F_l_put : Fun K "_law_put" "_law_put" s_l_put t.a_l_put t.d_l_put
  b_l_put : Binds K t.d_l_put ["_law_heap", "_law_term_here", "_law_known"] []
  m_l_put : mg "_law_put" = some (.ref t.a_l_put)
  F_l_read : Fun K "_law_read" "_law_read" s_l_read t.a_l_read t.d_l_read
  b_l_read : Binds K t.d_l_read ["_law_term_here", "_law_known"] []
  m_l_read : mg "_law_read" = some (.ref t.a_l_read)
  F_l_parts_right : Fun K "_law_parts_right" "_law_parts_right" s_l_parts_right t.a_l_parts_right t.d_l_parts_right
  b_l_parts_right : Binds K t.d_l_parts_right ["_law_heap", "_law_at", "_law_size", "_law_most"] []
  m_l_parts_right : mg "_law_parts_right" = some (.ref t.a_l_parts_right)
  F_l_seen : Fun K "_law_seen" "_law_seen" s_l_seen t.a_l_seen t.d_l_seen
  b_l_seen : Binds K t.d_l_seen ["_law_heap", "_law_at", "_law_term_here", "_law_known"] []
  m_l_seen : mg "_law_seen" = some (.ref t.a_l_seen)
  F_l_big : Fun K "_law_big" "_law_big" s_l_big t.a_l_big t.d_l_big
  b_l_big : Binds K t.d_l_big ["_law_heap", "_law_at"] []
  m_l_big : mg "_law_big" = some (.ref t.a_l_big)
  F_l_doubled : Fun K "_law_doubled" "_law_doubled" s_l_doubled t.a_l_doubled t.d_l_doubled
  b_l_doubled : Binds K t.d_l_doubled ["_law_heap", "_law_at", "_law_size", "_law_times"] []
  m_l_doubled : mg "_law_doubled" = some (.ref t.a_l_doubled)
  F_l_great : Fun K "_law_great" "_law_great" s_l_great t.a_l_great t.d_l_great
  b_l_great : Binds K t.d_l_great ["_law_heap", "_law_term_here", "_law_at", "_law_times", "_law_cell"] []
  m_l_great : mg "_law_great" = some (.ref t.a_l_great)
  F_l_edge_right : Fun K "_law_edge_right" "_law_edge_right" s_l_edge_right t.a_l_edge_right t.d_l_edge_right
  b_l_edge_right : Binds K t.d_l_edge_right ["_law_cell"] []
  m_l_edge_right : mg "_law_edge_right" = some (.ref t.a_l_edge_right)
  F_law : Fun K "law" "law" s_law t.a_law t.d_law
  b_law : Binds K t.d_law ["_law_script"] []
  m_law : mg "law" = some (.ref t.a_law)
  m_app_terms : mg "app_terms" = some (.ref t.a_app)
  n_ValueError : mg "ValueError" = none
  n_bool : mg "bool" = none
  n_int : mg "int" = none
  n_isinstance : mg "isinstance" = none
  n_len : mg "len" = none
  n_list : mg "list" = none
  n_min : mg "min" = none
  n_range : mg "range" = none
  n_str : mg "str" = none
  n_sum : mg "sum" = none
  n_tuple : mg "tuple" = none
  m_FREE : mg "FREE" = some (.ref t.c_FREE)
  q_FREE : ∀ H : Hp, SqT K H t.c_FREE [.str (PySem.Str.ofString "free")]
  m_MOST_PARTS : mg "MOST_PARTS" = some (.int 40 t.t_MOST_PARTS)
theorem nil_or_snoc' {α : Type} (l : List α) : l = [] ∨ ∃ r x, l = r ++ [x] := by
  cases l.eq_nil_or_concat with
  | inl h => exact .inl h
  | inr h => obtain ⟨r, x, h⟩ := h; exact .inr ⟨r, x, by simpa using h⟩
theorem int_short {i : Int} (h0 : -(10 ^ 12) < i) (h1 : i < 10 ^ 12) : i.natAbs.log2 < 1920 ∧ (Str.ofString (toString i)).length ≤ 1000 := by
  have hn : i.natAbs < 10 ^ 12 := by omega
  refine ⟨?_, ?_⟩
  · by_cases h : i.natAbs = 0
    · rw [h]; decide
    · exact Nat.lt_trans ((Nat.log2_lt h).mpr (Nat.lt_of_lt_of_le hn (show 10 ^ 12 ≤ 2 ^ 40 by decide))) (by decide)
  · have e := int_text_length_le10 (k := 12) (by decide) hn
    rw [PySem.ofString_length]
    omega
theorem size_get {ls : List Trm} {i : Nat} {l : Trm} (h : ls[i]? = some l) : l.size ≤ Trm.sizeL ls := by
  have hi := (List.getElem?_eq_some_iff.mp h).1
  have e := Trm.sizeL_app (ls.take i) (ls.drop i)
  have hl : ls[i] = l := (List.getElem?_eq_some_iff.mp h).2
  rw [List.take_append_drop, List.drop_eq_getElem_cons hi, Trm.sizeL, hl] at e
  omega
noncomputable abbrev boxesN : Str := Str.ofString "boxes"
noncomputable abbrev trailN : Str := Str.ofString "trail"
noncomputable abbrev freeS : Str := Str.ofString "free"
inductive Bx where
  | free
  | num (n : Int)
  | app (s : Str) (ks : List Nat)
noncomputable abbrev nsV (ks : List Nat) : List V := ks.map fun k : Nat => V.int (k : Int)
noncomputable def Bx.data : Bx → PyData
  | .free => .tuple [.str freeS]
  | .num n => .tuple [.str numS, .int n]
  | .app s ks => .tuple [.str appS, .str s, .tuple (ks.map fun k : Nat => PyData.int (k : Int))]
noncomputable def Bx.seen (a : Nat) : Bx → PyData
  | .free => .tuple [.str freeS, .int a]
  | b => b.data
noncomputable def bnm (a : Nat) : Str := Str.ofString "B" ++ Str.ofString (toString (a : Int))
mutual
noncomputable def Rep (bs : List Bx) (a : Nat) : Trm → Prop
  | .num n => bs[a]? = some (.num n)
  | .any x => bs[a]? = some .free ∧ x = bnm a
  | .app s ts => ∃ ks, bs[a]? = some (.app s ks) ∧ ks.length ≤ 4 ∧ RepL bs ks ts
noncomputable def RepL (bs : List Bx) (ks : List Nat) : List Trm → Prop
  | [] => ks = []
  | t :: ts => ∃ k r, ks = k :: r ∧ Rep bs k t ∧ RepL bs r ts
end
theorem get_app {bs : List Bx} {a : Nat} {b : Bx} (c : List Bx) (h : bs[a]? = some b) : (bs ++ c)[a]? = some b := by
  rw [List.getElem?_append_left (List.getElem?_eq_some_iff.mp h).1]; exact h
mutual
theorem Rep.more {bs : List Bx} (c : List Bx) : ∀ {a : Nat} {t : Trm}, Rep bs a t → Rep (bs ++ c) a t
  | a, .num n, h => by rw [Rep] at h ⊢; exact get_app c h
  | a, .any x, h => by rw [Rep] at h ⊢; exact ⟨get_app c h.1, h.2⟩
  | a, .app s ts, h => by
    rw [Rep] at h ⊢
    obtain ⟨ks, h1, h2, h3⟩ := h
    exact ⟨ks, get_app c h1, h2, RepL.more c h3⟩
theorem RepL.more {bs : List Bx} (c : List Bx) : ∀ {ks : List Nat} {ts : List Trm}, RepL bs ks ts → RepL (bs ++ c) ks ts
  | ks, [], h => by rw [RepL] at h ⊢; exact h
  | ks, t :: ts, h => by
    rw [RepL] at h ⊢
    obtain ⟨k, r, h1, h2, h3⟩ := h
    exact ⟨k, r, h1, Rep.more c h2, RepL.more c h3⟩
end
theorem Rep.lt {bs : List Bx} {a : Nat} : ∀ {t : Trm}, Rep bs a t → a < bs.length
  | .num n, h => by rw [Rep] at h; exact (List.getElem?_eq_some_iff.mp h).1
  | .any x, h => by rw [Rep] at h; exact (List.getElem?_eq_some_iff.mp h.1).1
  | .app s ts, h => by rw [Rep] at h; obtain ⟨ks, h1, _⟩ := h; exact (List.getElem?_eq_some_iff.mp h1).1
theorem RepL.len {bs : List Bx} : ∀ {ks : List Nat} {ts : List Trm}, RepL bs ks ts → ks.length = ts.length
  | ks, [], h => by rw [RepL] at h; rw [h]; rfl
  | ks, t :: ts, h => by
    rw [RepL] at h
    obtain ⟨k, r, rfl, _, h3⟩ := h
    rw [List.length_cons, List.length_cons, RepL.len h3]
theorem RepL.app {bs : List Bx} {l : List Nat} {us : List Trm} (h2 : RepL bs l us) : ∀ {ks : List Nat} {ts : List Trm}, RepL bs ks ts → RepL bs (ks ++ l) (ts ++ us)
  | ks, [], h => by rw [RepL] at h; rw [h]; exact h2
  | ks, t :: ts, h => by
    rw [RepL] at h
    obtain ⟨k, r, rfl, h1, h3⟩ := h
    rw [List.cons_append, List.cons_append, RepL]
    exact ⟨k, r ++ l, rfl, h1, RepL.app h2 h3⟩
theorem RepL.one {bs : List Bx} {k : Nat} {t : Trm} (h : Rep bs k t) : RepL bs [k] [t] := by
  rw [RepL]; exact ⟨k, [], rfl, h, by rw [RepL]⟩
theorem RepL.get {bs : List Bx} : ∀ {ks : List Nat} {ts : List Trm} {i : Nat} {t : Trm}, RepL bs ks ts → ts[i]? = some t → ∃ k, ks[i]? = some k ∧ Rep bs k t
  | ks, [], i, t, h, e => by simp at e
  | ks, u :: ts, 0, t, h, e => by
    rw [RepL] at h
    obtain ⟨k, r, rfl, h1, h3⟩ := h
    simp only [List.getElem?_cons_zero, Option.some.injEq] at e
    subst e
    exact ⟨k, rfl, h1⟩
  | ks, u :: ts, i + 1, t, h, e => by
    rw [RepL] at h
    obtain ⟨k, r, rfl, h1, h3⟩ := h
    obtain ⟨k', e1, e2⟩ := RepL.get (i := i) h3 (by simpa using e)
    exact ⟨k', by simpa using e1, e2⟩
theorem RepL.snoc {bs : List Bx} : ∀ {ks : List Nat} {ts : List Trm} {k : Nat}, RepL bs (ks ++ [k]) ts → ∃ ts' t, ts = ts' ++ [t] ∧ RepL bs ks ts' ∧ Rep bs k t
  | [], [], k, h => by rw [RepL] at h; cases h
  | [], t :: ts, k, h => by
    rw [RepL] at h
    obtain ⟨k', r, e, h1, h3⟩ := h
    rw [List.nil_append] at e
    injection e with e1 e2
    subst e1 e2
    cases ts with
    | nil => exact ⟨[], t, rfl, by rw [RepL], h1⟩
    | cons u ts => rw [RepL] at h3; obtain ⟨_, _, e, _⟩ := h3; cases e
  | a :: ks, [], k, h => by rw [RepL] at h; cases h
  | a :: ks, t :: ts, k, h => by
    rw [RepL] at h
    obtain ⟨k', r, e, h1, h3⟩ := h
    rw [List.cons_append] at e
    injection e with e1 e2
    subst e1 e2
    obtain ⟨ts', u, e, h4, h5⟩ := RepL.snoc h3
    exact ⟨t :: ts', u, by rw [e]; rfl, by rw [RepL]; exact ⟨_, _, rfl, h1, h4⟩, h5⟩
noncomputable def fsH (pb pt : Addr) : List (Str × V) := [(boxesN, .ref pb), (trailN, .ref pt)]
theorem fs_boxes (pb pt : Addr) : (fsH pb pt).lookup (Str.ofString "boxes") = some (.ref pb) := by
  simp only [fsH, List.lookup, show (Str.ofString "boxes" == boxesN) = true by decide +kernel]
theorem fs_no {pb pt : Addr} {m : Str} (h1 : (m == boxesN) = false := by decide +kernel) (h2 : (m == trailN) = false := by decide +kernel) : (fsH pb pt).lookup m = none := by
  simp only [fsH, List.lookup, h1, h2]
noncomputable def HS (K : PySem.W.Frag) (C : Addr) (H : Hp) (x pb : Addr) (bs : List Bx) : Prop := ∃ (dx pt : Addr) (us : List V), H x = some (.ins C dx (fsH pb pt)) ∧ H pb = some (.lst us) ∧ DenL K H us (bs.map Bx.data)
noncomputable def HFr (pb : Addr) (H H' : Hp) : Prop := ∀ b o, b ≠ pb → H b = some o → H' b = some o
theorem HFr.refl (pb : Addr) (H : Hp) : HFr pb H H := fun _ _ _ e => e
theorem HFr.trans {pb : Addr} {H H1 H2 : Hp} (a : HFr pb H H1) (b : HFr pb H1 H2) : HFr pb H H2 := fun c o h e => b c o h (a c o h e)
theorem HFr.of {pb : Addr} {H H' : Hp} (s : Same H H') : HFr pb H H' := fun b o _ e => s b o e
section
variable {K : PySem.W.Frag} {C : Addr} {H H' : Hp} {x pb : Addr} {bs : List Bx}
theorem HS.same (w : HS K C H x pb bs) (s : Same H H') : HS K C H' x pb bs := by
  obtain ⟨dx, pt, us, h1, h2, h3⟩ := w
  exact ⟨dx, pt, us, s _ _ h1, s _ _ h2, h3.mono s⟩
theorem tup_fr {ys : List V} (h : H pb = some (.lst ys)) (f : HFr pb H H') : ∀ a xs, SqT K H a xs → SqT K H' a xs := fun a xs q => by
  rcases q with (q | ⟨o, q⟩) | q
  · exact .inl (.inl (f _ _ (fun z => by rw [z, h] at q; cases q) q))
  · exact .inl (.inr ⟨o, f _ _ (fun z => by rw [z, h] at q; cases q) q⟩)
  · exact .inr q
theorem HS.lst (w : HS K C H x pb bs) : ∃ us, H pb = some (.lst us) := by obtain ⟨dx, pt, us, h1, h2, h3⟩ := w; exact ⟨us, h2⟩
theorem HS.denL (w : HS K C H x pb bs) (f : HFr pb H H') {v : List V} {d : List PyData} (h : DenL K H v d) : DenL K H' v d := by
  obtain ⟨us, h2⟩ := w.lst
  exact h.monoT (tup_fr h2 f)
theorem HS.dk (w : HS K C H x pb bs) (f : HFr pb H H') {a : Addr} {kv : List (Key × V)} (h : H a = some (.dK kv)) : H' a = some (.dK kv) := by
  obtain ⟨us, h2⟩ := w.lst
  exact f _ _ (fun z => by rw [z, h2] at h; cases h) h
theorem HS.put {dx pt : Addr} {us : List V} {v : V} {b : Bx} (h1 : H x = some (.ins C dx (fsH pb pt))) (h2 : H pb = some (.lst us)) (h3 : DenL K H us (bs.map Bx.data)) (hv : Den K H v b.data) : HS K C (upd H pb (.lst (us ++ [v]))) x pb (bs ++ [b]) ∧ HFr pb H (upd H pb (.lst (us ++ [v]))) := by
  have f : HFr pb H (upd H pb (.lst (us ++ [v]))) := fun b o hb e => by rw [upd_ne hb]; exact e
  refine ⟨⟨dx, pt, us ++ [v], f _ _ (fun z => by rw [z, h2] at h1; cases h1) h1, upd_same, ?_⟩, f⟩
  rw [List.map_append]
  exact DenL.append (h3.monoT (tup_fr h2 f)) (.cons (hv.monoT (tup_fr h2 f)) .nil)
theorem HS.at {dx pt : Addr} {us : List V} {n : Nat} {b : Bx} (h3 : DenL K H us (bs.map Bx.data)) (e : bs[n]? = some b) : ∃ u, us[n]? = some u ∧ atI us (n : Int) = some u ∧ Den K H u b.data := by
  have hl : us.length = bs.length := by rw [h3.length, List.length_map]
  have hn := (List.getElem?_eq_some_iff.mp e).1
  obtain ⟨u, e1, e2⟩ := atI_lt (xs := us) (i := (n : Int)) (by omega) (by omega)
  have e2' : us[n]? = some u := by simpa using e2
  obtain ⟨d, e3, e4⟩ := h3.get e2'
  rw [List.getElem?_map, e] at e3
  cases e3
  exact ⟨u, e2', e1, e4⟩
theorem HS.size {us : List V} (h3 : DenL K H us (bs.map Bx.data)) : us.length = bs.length := by rw [h3.length, List.length_map]
end
theorem den_free {K : PySem.W.Frag} {H : Hp} {u : V} (h : Den K H u Bx.free.data) : ∃ a, u = .ref a ∧ SqT K H a [.str freeS] := by
  cases h with
  | tup hs hl =>
    cases hl with
    | cons h1 r => cases h1; cases r; exact ⟨_, rfl, hs⟩
theorem denL_ns {K : PySem.W.Frag} {H : Hp} : ∀ {us : List V} {ks : List Nat}, DenL K H us (ks.map fun k : Nat => PyData.int (k : Int)) → us = nsV ks
  | _, [], h => by cases h; rfl
  | _, k :: ks, h => by
    cases h with
    | cons h1 r => cases h1; rw [denL_ns r]; rfl
theorem den_bapp {K : PySem.W.Frag} {H : Hp} {u : V} {s : Str} {ks : List Nat} (h : Den K H u (Bx.app s ks).data) : ∃ a b, u = .ref a ∧ SqT K H a [.str appS, .str s, .ref b] ∧ SqT K H b (nsV ks) := by
  cases h with
  | tup hs hl =>
    cases hl with
    | cons h1 r =>
      cases h1
      cases r with
      | cons h2 r =>
        cases h2
        cases r with
        | cons h3 r =>
          cases r
          cases h3 with
          | tup hs3 hl3 =>
            rw [denL_ns hl3] at hs3
            exact ⟨_, _, rfl, hs, hs3⟩
theorem den_seenf {K : PySem.W.Frag} {H : Hp} {u : V} {n : Nat} (h : Den K H u (Bx.free.seen n)) : ∃ a, u = .ref a ∧ SqT K H a [.str freeS, .int (n : Int)] := by
  cases h with
  | tup hs hl =>
    cases hl with
    | cons h1 r =>
      cases h1
      cases r with
      | cons h2 r => cases h2; cases r; exact ⟨_, rfl, hs⟩
theorem atI0 {x : V} {r : List V} : atI (x :: r) 0 = some x := by
  obtain ⟨v, e1, e2⟩ := atI_lt (xs := x :: r) (i := 0) (by omega) (by rw [List.length_cons]; omega)
  rw [e1]
  simpa using e2.symm
noncomputable def Bx.kind : Bx → Str
  | .free => freeS
  | .num _ => numS
  | .app _ _ => appS
theorem kind_to : ∀ b : Bx, decide (b.kind = Str.ofString "to") = false
  | .free => by decide +kernel
  | .num _ => show decide (numS = Str.ofString "to") = false by decide +kernel
  | .app _ _ => show decide (appS = Str.ofString "to") = false by decide +kernel
theorem den_kind {K : PySem.W.Frag} {H : Hp} {u : V} : ∀ {b : Bx}, Den K H u b.data → ∃ a us, u = .ref a ∧ SqT K H a (.str b.kind :: us) ∧ (decide (b.kind = freeS) && us.isEmpty) = (match b with | .free => true | _ => false)
  | .free, h => by obtain ⟨a, rfl, hs⟩ := den_free h; exact ⟨a, [], rfl, hs, by decide +kernel⟩
  | .num n, h => by obtain ⟨a, rfl, hs⟩ := den_num (n := n) h; exact ⟨a, _, rfl, hs, by simp⟩
  | .app s ks, h => by obtain ⟨a, b, rfl, hs, _⟩ := den_bapp h; exact ⟨a, _, rfl, hs, by simp⟩
noncomputable abbrev sp_num (K : PySem.W.Frag) : Sp := fun vs H Q _ => match vs with | [.int n] => ∀ (v : V) (H' : Hp), Same H H' → Den K H' v (Trm.num n).data → Q v H' | _ => False
noncomputable abbrev sp_unknown (K : PySem.W.Frag) : Sp := fun vs H Q _ => match vs with | [.str x] => ∀ (v : V) (H' : Hp), Same H H' → Den K H' v (Trm.any x).data → Q v H' | _ => False
noncomputable abbrev sp_app (K : PySem.W.Frag) : Sp := fun vs H Q _ => match vs with | [.str s, .ref p] => ∃ (us : List V) (ts : List Trm), SqL K H p us ∧ DenL K H us (Trm.dataL ts) ∧ ts.length ≤ 1000 ∧ ∀ (v : V) (H' : Hp), Same H H' → Den K H' v (Trm.app s ts).data → Q v H' | _ => False
noncomputable abbrev sp_Heap_init (K : PySem.W.Frag) (C : Addr) : Sp := fun vs H Q _ => match vs with | [.ref x] => ∃ dx, H x = some (.ins C dx []) ∧ ∀ (pb : Addr) (H' : Hp), HS K C H' x pb [] → (∀ b o, b ≠ x → H b = some o → H' b = some o) → H pb = none → Q .non H' | _ => False
noncomputable abbrev sp_Heap_made (K : PySem.W.Frag) (C : Addr) : Sp := fun vs H Q _ => match vs with | [.ref x, v] => ∃ (dx pb pt : Addr) (us : List V), H x = some (.ins C dx (fsH pb pt)) ∧ H pb = some (.lst us) ∧ us.length ≤ 1000 ∧ Q (.int (us.length : Int)) (upd H pb (.lst (us ++ [v]))) | _ => False
noncomputable abbrev sp_Heap_free (K : PySem.W.Frag) (C : Addr) : Sp := fun vs H Q _ => match vs with | [.ref x] => ∃ (pb : Addr) (bs : List Bx), HS K C H x pb bs ∧ bs.length ≤ 900 ∧ ∀ H', HFr pb H H' → HS K C H' x pb (bs ++ [.free]) → Q (.int (bs.length : Int)) H' | _ => False
noncomputable abbrev sp_Heap_number (K : PySem.W.Frag) (C : Addr) : Sp := fun vs H Q _ => match vs with | [.ref x, .int n] => ∃ (pb : Addr) (bs : List Bx), HS K C H x pb bs ∧ bs.length ≤ 900 ∧ ∀ H', HFr pb H H' → HS K C H' x pb (bs ++ [.num n]) → Q (.int (bs.length : Int)) H' | _ => False
noncomputable abbrev sp_Heap_app (K : PySem.W.Frag) (C : Addr) : Sp := fun vs H Q _ => match vs with | [.ref x, .str s, .ref p] => ∃ (pb : Addr) (bs : List Bx) (ks : List Nat), HS K C H x pb bs ∧ bs.length ≤ 900 ∧ ks.length ≤ 4 ∧ (SqL K H p (nsV ks) ∨ SqT K H p (nsV ks)) ∧ ∀ H', HFr pb H H' → HS K C H' x pb (bs ++ [.app s ks]) → Q (.int (bs.length : Int)) H' | _ => False
noncomputable abbrev sp_Heap_end_of (K : PySem.W.Frag) (C : Addr) : Sp := fun vs H Q _ => match vs with | [.ref x, .int a] => ∃ (pb : Addr) (bs : List Bx) (n : Nat), HS K C H x pb bs ∧ a = (n : Int) ∧ n < bs.length ∧ Q (.int (n : Int)) H | _ => False
noncomputable abbrev sp_Heap_look (K : PySem.W.Frag) (C : Addr) : Sp := fun vs H Q _ => match vs with | [.ref x, .int a] => ∃ (pb : Addr) (bs : List Bx) (n : Nat) (b : Bx), HS K C H x pb bs ∧ a = (n : Int) ∧ bs[n]? = some b ∧ ∀ (v : V) (H' : Hp), Same H H' → Den K H' v (b.seen n) → Q v H' | _ => False
noncomputable abbrev sp_Heap_parts (K : PySem.W.Frag) (C : Addr) : Sp := fun vs H Q _ => match vs with | [.ref x, .int a, .int m] => ∃ (pb : Addr) (bs : List Bx) (n mm : Nat) (t : Trm), HS K C H x pb bs ∧ a = (n : Int) ∧ m = (mm : Int) ∧ mm ≤ 400 ∧ Rep bs n t ∧ ∀ H', Same H H' → Q (.int ((min t.size (mm + 1) : Nat) : Int)) H' | _ => False
noncomputable abbrev sp_Heap_read_out (K : PySem.W.Frag) (C : Addr) (n : Nat) : Sp := fun vs H Q _ => match vs with | [.ref x, .int a] => ∃ (pb : Addr) (bs : List Bx) (i : Nat) (t : Trm), HS K C H x pb bs ∧ a = (i : Int) ∧ Rep bs i t ∧ t.size ≤ n ∧ n ≤ 60 ∧ bs.length ≤ 1000 ∧ ∀ (v : V) (H' : Hp), Same H H' → Den K H' v t.data → Q v H' | _ => False
theorem no_Heap_read_out {K : PySem.W.Frag} {C : Addr} {H : Hp} {x : Addr} {a : Int} {R : Addr → List Bx → Nat → Trm → Prop} (h : ∃ (pb : Addr) (bs : List Bx) (i : Nat) (t : Trm), HS K C H x pb bs ∧ a = (i : Int) ∧ Rep bs i t ∧ t.size ≤ 0 ∧ R pb bs i t) : False := by
  obtain ⟨_, _, _, t, _, _, _, z, _⟩ := h
  have := Trm.size_pos t
  omega
noncomputable abbrev sp_Heap_term (K : PySem.W.Frag) (C B : Addr) : Sp := fun vs H Q E => match vs with | [.ref x, .int a] => ∃ (pb : Addr) (bs : List Bx) (n : Nat) (t : Trm), HS K C H x pb bs ∧ a = (n : Int) ∧ Rep bs n t ∧ bs.length ≤ 1000 ∧ (t.size ≤ 40 → ∀ (v : V) (H' : Hp), Same H H' → Den K H' v t.data → Q v H') ∧ (40 < t.size → onX H B E) | _ => False
section
variable {P : Program} {w : World} {K : PySem.W.Frag} {mg : Str → Option Value} {base : Heap} {t : Ad}
theorem ok_TrailError_init (T : Txt K mg t)  : FnOk P w K mg base CX0 1 t.a_TrailError_init t.d_TrailError_init ["self", "words", "row"] (sp_TrailError_init K) := by
  refine T.F_TrailError_init.ok sc_TrailError_init (fun vs H Q E h => ?_) (fun cdv A outer s H vs Q E hr h => ?_)
  · unfold sp_TrailError_init at h
    split at h
    · rfl
    · exact h.elim
  unfold sp_TrailError_init at h
  split at h
  rotate_left
  · exact h.elim
  refine ⟨_, (pss_cons (ps_expr (pe_binit rfl T.n_ValueError (pa_con (mv 0) (pa_con (mv 1) pa_nil)))) (pss_one (ps_xset (mv 0) (mv 2)))), ?_⟩
  rename_i e v r
  obtain ⟨C, bm, fr, Xc, U, Xa, n1, hx, q⟩ := h
  walk_at "stp"
  refine ⟨e, C, none, fr, bm, v, rfl, hx, Xc, ?_⟩
  walk_at "stp"
  refine ⟨e, C, bm, fr, rfl, Xc, U, Xa, n1, .inl ⟨hx, fun dx hdx hne => ?_⟩⟩
  refine q _ ⟨⟨dx, hdx, hne, upd_same, by rw [upd_ne hne]; exact upd_same⟩, fun b hb o ho => ?_⟩
  rw [upd_ne hb, upd_ne (fun z => by rw [z, hdx] at ho; cases ho)]
  exact ho
theorem ok_num (T : Txt K mg t)  : FnOk P w K mg base CX0 1 t.a_num t.d_num ["n"] (sp_num K) := by
  refine T.F_num.ok sc_num (fun vs H Q E h => ?_) (fun cdv A outer s H vs Q E hr h => ?_)
  · unfold sp_num at h
    split at h
    · rfl
    · exact h.elim
  unfold sp_num at h
  split at h
  rotate_left
  · exact h.elim
  refine ⟨_, (pss_one (ps_ret (pe_tup (pa_con pe_str (pa_con (mv 0) pa_nil))))), ?_⟩
  rename_i n
  walk_at "stp"
  refine ⟨ln (by show 2 ≤ 100000; decide), fun p1 hp1 => ?_⟩
  have sp1 : Same H (upd H p1 (.tup [.str (Str.ofString "num"), .int n])) := same_new hp1 _
  have kp1 : (upd H p1 (.tup [.str (Str.ofString "num"), .int n])) p1 = some (.tup [.str (Str.ofString "num"), .int n]) := upd_same
  generalize upd H p1 (.tup [.str (Str.ofString "num"), .int n]) = H1 at sp1 kp1 ⊢
  walk_at "stp"
  exact h _ _ sp1 (.tup (SqT.of kp1) (.cons (.str _) (.cons (.int _) .nil)))
theorem ok_unknown (T : Txt K mg t)  : FnOk P w K mg base CX0 1 t.a_unknown t.d_unknown ["name"] (sp_unknown K) := by
  refine T.F_unknown.ok sc_unknown (fun vs H Q E h => ?_) (fun cdv A outer s H vs Q E hr h => ?_)
  · unfold sp_unknown at h
    split at h
    · rfl
    · exact h.elim
  unfold sp_unknown at h
  split at h
  rotate_left
  · exact h.elim
  refine ⟨_, (pss_one (ps_ret (pe_tup (pa_con pe_str (pa_con (mv 0) pa_nil))))), ?_⟩
  rename_i x
  walk_at "stp"
  refine ⟨ln (by show 2 ≤ 100000; decide), fun p1 hp1 => ?_⟩
  have sp1 : Same H (upd H p1 (.tup [.str (Str.ofString "any"), .str x])) := same_new hp1 _
  have kp1 : (upd H p1 (.tup [.str (Str.ofString "any"), .str x])) p1 = some (.tup [.str (Str.ofString "any"), .str x]) := upd_same
  generalize upd H p1 (.tup [.str (Str.ofString "any"), .str x]) = H1 at sp1 kp1 ⊢
  walk_at "stp"
  exact h _ _ sp1 (.tup (SqT.of kp1) (.cons (.str _) (.cons (.str _) .nil)))
theorem ok_app (T : Txt K mg t)  : FnOk P w K mg base CX0 1 t.a_app t.d_app ["sign", "kids"] (sp_app K) := by
  refine T.F_app.ok sc_app (fun vs H Q E h => ?_) (fun cdv A outer s H vs Q E hr h => ?_)
  · unfold sp_app at h
    split at h
    · rfl
    · exact h.elim
  unfold sp_app at h
  split at h
  rotate_left
  · exact h.elim
  refine ⟨_, (pss_one (ps_ret (pe_tup (pa_con pe_str (pa_con (mv 0) (pa_con (pe_callTy (kc_tuple K rfl) rfl T.n_tuple boot_tuple (pa_con (mv 1) pa_nil)) pa_nil)))))), ?_⟩
  rename_i s p
  obtain ⟨us, ts, hS, hd, hl, q⟩ := h
  walk_at "stp"
  refine mTup_l hS (fun p1 hp1 => ?_)
  have s1 := same_new hp1 (.tup us)
  have k1 : (upd H p1 (.tup us)) p1 = some (.tup us) := upd_same
  generalize upd H p1 (.tup us) = H1 at s1 k1 ⊢
  walk_at "stp"
  refine ⟨ln (by show 3 ≤ 100000; decide), fun p2 hp2 => ?_⟩
  have sp2 : Same H1 (upd H1 p2 (.tup [.str (Str.ofString "app"), .str s, .ref p1])) := same_new hp2 _
  have kp2 : (upd H1 p2 (.tup [.str (Str.ofString "app"), .str s, .ref p1])) p2 = some (.tup [.str (Str.ofString "app"), .str s, .ref p1]) := upd_same
  generalize upd H1 p2 (.tup [.str (Str.ofString "app"), .str s, .ref p1]) = H2 at sp2 kp2 ⊢
  walk_at "stp"
  exact q _ _ (s1.trans sp2) (.tup (SqT.of kp2) (.cons (.str _) (.cons (.str _) (.cons (.tup (SqT.of (sp2 _ _ k1)) (hd.mono (s1.trans sp2))) .nil))))
theorem ok_Heap_init (T : Txt K mg t)  : FnOk P w K mg base CX0 1 t.a_Heap_init t.d_Heap_init ["self"] (sp_Heap_init K t.k_Heap) := by
  refine T.F_Heap_init.ok sc_Heap_init (fun vs H Q E h => ?_) (fun cdv A outer s H vs Q E hr h => ?_)
  · unfold sp_Heap_init at h
    split at h
    · rfl
    · exact h.elim
  unfold sp_Heap_init at h
  split at h
  rotate_left
  · exact h.elim
  refine ⟨_, (pss_cons (ps_fld (mv 0) (pe_lst pa_nil) rfl) (pss_one (ps_fld (mv 0) (pe_lst pa_nil) rfl))), ?_⟩
  rename_i x
  obtain ⟨dx, hx, q⟩ := h
  walk_at "stp"
  refine ⟨ln (by show 0 ≤ 100000; decide), fun pb hpb => ?_⟩
  have spb : Same H (upd H pb (.lst [])) := same_new hpb _
  have kpb : (upd H pb (.lst [])) pb = some (.lst []) := upd_same
  generalize upd H pb (.lst []) = H1 at spb kpb ⊢
  walk_at "stp"
  refine ⟨x, _, dx, _, rfl, spb _ _ hx, T.cl_Heap, T.no_Heap_boxes, by simp, ?_⟩
  have npb : pb ≠ x := fun z => by rw [z, hx] at hpb; cases hpb
  have b2 : But x H1 (upd H1 x (.ins t.k_Heap dx [(boxesN, .ref pb)])) := but_upd _
  have o2 : (upd H1 x (.ins t.k_Heap dx [(boxesN, .ref pb)])) x = some (.ins t.k_Heap dx [(boxesN, .ref pb)]) := upd_same
  have e2 : putF (Str.ofString "boxes") (.ref pb) [] = [(boxesN, V.ref pb)] := rfl
  rw [e2]
  generalize upd H1 x (.ins t.k_Heap dx [(boxesN, .ref pb)]) = H2 at b2 o2 ⊢
  walk_at "stp"
  refine ⟨ln (by show 0 ≤ 100000; decide), fun pt hpt => ?_⟩
  have spt : Same H2 (upd H2 pt (.lst [])) := same_new hpt _
  have kpt : (upd H2 pt (.lst [])) pt = some (.lst []) := upd_same
  generalize upd H2 pt (.lst []) = H3 at spt kpt ⊢
  walk_at "stp"
  refine ⟨x, _, dx, _, rfl, spt _ _ o2, T.cl_Heap, T.no_Heap_trail, by simp, ?_⟩
  have e4 : putF (Str.ofString "trail") (.ref pt) [(boxesN, V.ref pb)] = fsH pb pt := by
    simp only [putF, fsH, show ¬ boxesN = Str.ofString "trail" by decide +kernel, if_false]
  rw [e4]
  have b4 : But x H3 (upd H3 x (.ins t.k_Heap dx (fsH pb pt))) := but_upd _
  walk_at "stp"
  refine q pb _ ⟨dx, pt, [], upd_same, b4 _ _ npb (spt _ _ (b2 _ _ npb kpb)), .nil⟩ (fun b o hb e => b4 _ _ hb (spt _ _ (b2 _ _ hb (spb _ _ e)))) hpb
theorem ok_Heap_made (T : Txt K mg t)  : FnOk P w K mg base CX0 1 t.a_Heap_made t.d_Heap_made ["self", "box"] (sp_Heap_made K t.k_Heap) := by
  refine T.F_Heap_made.ok sc_Heap_made (fun vs H Q E h => ?_) (fun cdv A outer s H vs Q E hr h => ?_)
  · unfold sp_Heap_made at h
    split at h
    · rfl
    · exact h.elim
  unfold sp_Heap_made at h
  split at h
  rotate_left
  · exact h.elim
  refine ⟨_, (pss_cons (ps_expr (ke_bm K rfl PySem.F.plainAttrs_list PySem.F.slot_list_append PySem.F.type_list_append mm_append (pe_fld (mv 0) rfl) (pa_con (mv 1) pa_nil))) (pss_one (ps_ret (pe_op mo_sub (pe_callB (kc_len K rfl) rfl T.n_len PySem.boot_len (pa_con (pe_fld (mv 0) rfl) pa_nil)) pe_int)))), ?_⟩
  rename_i x v
  obtain ⟨dx, pb, pt, us, ho, hb, hl, q⟩ := h
  walk_at "stp"
  refine ⟨x, _, dx, _, _, rfl, ho, T.cl_Heap, T.no_Heap_boxes, fs_boxes _ _, ?_⟩
  refine ⟨.inl ⟨rfl, _, SqL.of hb⟩, ?_⟩
  walk_at "stp"
  refine mAppend_i hb (ln1 (by omega)) ?_
  walk_at "stp"
  have ho2 : (upd H pb (.lst (us ++ [v]))) x = some (.ins t.k_Heap dx (fsH pb pt)) := by rw [upd_ne (fun z => by rw [z, hb] at ho; cases ho)]; exact ho
  refine ⟨x, _, dx, _, _, rfl, ho2, T.cl_Heap, T.no_Heap_boxes, fs_boxes _ _, ?_⟩
  walk_at "stp"
  refine mLen_l (SqL.of upd_same) ?_
  walk_at "stp"
  rw [List.length_append, List.length_singleton, show ((us.length + 1 : Nat) : Int) - 1 = (us.length : Int) by omega]
  exact q
theorem ok_Heap_free (T : Txt K mg t) (G_Heap_made : FnOk P w K mg base CX0 1 t.a_Heap_made t.d_Heap_made ["self", "box"] (sp_Heap_made K t.k_Heap)) : FnOk P w K mg base CX0 2 t.a_Heap_free t.d_Heap_free ["self"] (sp_Heap_free K t.k_Heap) := by
  refine T.F_Heap_free.ok sc_Heap_free (fun vs H Q E h => ?_) (fun cdv A outer s H vs Q E hr h => ?_)
  · unfold sp_Heap_free at h
    split at h
    · rfl
    · exact h.elim
  unfold sp_Heap_free at h
  split at h
  rotate_left
  · exact h.elim
  refine ⟨_, (pss_one (ps_ret (pe_meth (mv 0) T.cl_Heap T.me_Heap_made G_Heap_made (hr.mono (by first | decide | omega)) T.b_Heap_made .nil pass0 (pa_con (pe_glob (v := .ref t.c_FREE) rfl T.m_FREE rfl) pa_nil)))), ?_⟩
  rename_i x
  obtain ⟨pb, bs, ⟨dx, pt, us, ho, hb, hd⟩, hl, q⟩ := h
  walk_at "stp"
  refine ⟨x, dx, _, rfl, ho, fs_no, ?_⟩
  walk_at "stp"
  obtain ⟨w2, f2⟩ := HS.put (v := .ref t.c_FREE) (b := .free) ho hb hd (.tup (T.q_FREE H) (.cons (.str _) .nil))
  have e := HS.size hd
  refine ⟨dx, pb, pt, us, ho, hb, by omega, ?_⟩
  rw [e]
  exact q _ f2 w2
theorem ok_Heap_number (T : Txt K mg t) (G_Heap_made : FnOk P w K mg base CX0 1 t.a_Heap_made t.d_Heap_made ["self", "box"] (sp_Heap_made K t.k_Heap)) : FnOk P w K mg base CX0 2 t.a_Heap_number t.d_Heap_number ["self", "n"] (sp_Heap_number K t.k_Heap) := by
  refine T.F_Heap_number.ok sc_Heap_number (fun vs H Q E h => ?_) (fun cdv A outer s H vs Q E hr h => ?_)
  · unfold sp_Heap_number at h
    split at h
    · rfl
    · exact h.elim
  unfold sp_Heap_number at h
  split at h
  rotate_left
  · exact h.elim
  refine ⟨_, (pss_one (ps_ret (pe_meth (mv 0) T.cl_Heap T.me_Heap_made G_Heap_made (hr.mono (by first | decide | omega)) T.b_Heap_made .nil pass0 (pa_con (pe_tup (pa_con pe_str (pa_con (mv 1) pa_nil))) pa_nil)))), ?_⟩
  rename_i x n
  obtain ⟨pb, bs, ⟨dx, pt, us, ho, hb, hd⟩, hl, q⟩ := h
  walk_at "stp"
  refine ⟨x, dx, _, rfl, ho, fs_no, ?_⟩
  walk_at "stp"
  refine ⟨ln (by show 2 ≤ 100000; decide), fun p1 hp1 => ?_⟩
  have sp1 : Same H (upd H p1 (.tup [.str (Str.ofString "num"), .int n])) := same_new hp1 _
  have kp1 : (upd H p1 (.tup [.str (Str.ofString "num"), .int n])) p1 = some (.tup [.str (Str.ofString "num"), .int n]) := upd_same
  generalize upd H p1 (.tup [.str (Str.ofString "num"), .int n]) = H1 at sp1 kp1 ⊢
  walk_at "stp"
  obtain ⟨w2, f2⟩ := HS.put (v := .ref p1) (b := .num n) (sp1 _ _ ho) (sp1 _ _ hb) (hd.mono sp1) (.tup (SqT.of kp1) (.cons (.str _) (.cons (.int _) .nil)))
  have e := HS.size hd
  refine ⟨dx, pb, pt, us, sp1 _ _ ho, sp1 _ _ hb, by omega, ?_⟩
  rw [e]
  exact q _ ((HFr.of sp1).trans f2) w2
theorem ok_Heap_app (T : Txt K mg t) (G_Heap_made : FnOk P w K mg base CX0 1 t.a_Heap_made t.d_Heap_made ["self", "box"] (sp_Heap_made K t.k_Heap)) : FnOk P w K mg base CX0 2 t.a_Heap_app t.d_Heap_app ["self", "sign", "kids"] (sp_Heap_app K t.k_Heap) := by
  refine T.F_Heap_app.ok sc_Heap_app (fun vs H Q E h => ?_) (fun cdv A outer s H vs Q E hr h => ?_)
  · unfold sp_Heap_app at h
    split at h
    · rfl
    · exact h.elim
  unfold sp_Heap_app at h
  split at h
  rotate_left
  · exact h.elim
  refine ⟨_, (pss_one (ps_ret (pe_meth (mv 0) T.cl_Heap T.me_Heap_made G_Heap_made (hr.mono (by first | decide | omega)) T.b_Heap_made .nil pass0 (pa_con (pe_tup (pa_con pe_str (pa_con (mv 1) (pa_con (pe_callTy (kc_tuple K rfl) rfl T.n_tuple boot_tuple (pa_con (mv 2) pa_nil)) pa_nil)))) pa_nil)))), ?_⟩
  rename_i x s p
  obtain ⟨pb, bs, ks, ⟨dx, pt, us, ho, hb, hd⟩, hl, hk, hS, q⟩ := h
  have e := HS.size hd
  have dk : ∀ H', DenL K H' (nsV ks) (ks.map fun k : Nat => PyData.int (k : Int)) := fun H' => by
    clear hS q hk
    induction ks with
    | nil => exact .nil
    | cons k ks ih => exact .cons (.int _) ih
  have main : ∀ (p1 : Addr) (H1 : Hp), Same H H1 → SqT K H1 p1 (nsV ks) → ∀ (p2 : Addr), H1 p2 = none → sp_Heap_made K t.k_Heap [.ref x, .ref p2] (upd H1 p2 (.tup [.str (Str.ofString "app"), .str s, .ref p1])) Q E := fun p1 H1 s1 k1 p2 hp2 => by
    have s2 : Same H1 (upd H1 p2 (.tup [.str (Str.ofString "app"), .str s, .ref p1])) := same_new hp2 _
    have k2 : (upd H1 p2 (.tup [.str (Str.ofString "app"), .str s, .ref p1])) p2 = some (.tup [.str (Str.ofString "app"), .str s, .ref p1]) := upd_same
    generalize upd H1 p2 (.tup [.str (Str.ofString "app"), .str s, .ref p1]) = H2 at s2 k2 ⊢
    have s02 := s1.trans s2
    obtain ⟨w2, f2⟩ := HS.put (v := .ref p2) (b := .app s ks) (s02 _ _ ho) (s02 _ _ hb) (hd.mono s02) (.tup (SqT.of k2) (.cons (.str _) (.cons (.str _) (.cons (.tup (s2.tup k1) (dk _)) .nil))))
    refine ⟨dx, pb, pt, us, s02 _ _ ho, s02 _ _ hb, by omega, ?_⟩
    rw [e]
    exact q _ ((HFr.of s02).trans f2) w2
  walk_at "stp"
  refine ⟨x, dx, _, rfl, ho, fs_no, ?_⟩
  walk_at "stp"
  rcases hS with hS | hS
  · refine mTup_l hS (fun p1 hp1 => ?_)
    have s1 := same_new hp1 (.tup (nsV ks))
    have k1 : (upd H p1 (.tup (nsV ks))) p1 = some (.tup (nsV ks)) := upd_same
    generalize upd H p1 (.tup (nsV ks)) = H1 at s1 k1 ⊢
    walk_at "stp"
    exact ⟨ln (by show 3 ≤ 100000; decide), fun p2 hp2 => main p1 H1 s1 (SqT.of k1) p2 hp2⟩
  · refine mTup_t hS ?_
    walk_at "stp"
    exact ⟨ln (by show 3 ≤ 100000; decide), fun p2 hp2 => main p H (Same.refl _) hS p2 hp2⟩
end
section
variable {P : Program} {w : World} {K : PySem.W.Frag} {mg : Str → Option Value} {base : Heap} {t : Ad}
theorem ok_Heap_end_of (T : Txt K mg t)  : FnOk P w K mg base CX0 1 t.a_Heap_end_of t.d_Heap_end_of ["self", "at"] (sp_Heap_end_of K t.k_Heap) := by
  refine T.F_Heap_end_of.ok sc_Heap_end_of (fun vs H Q E h => ?_) (fun cdv A outer s H vs Q E hr h => ?_)
  · unfold sp_Heap_end_of at h
    split at h
    · rfl
    · exact h.elim
  unfold sp_Heap_end_of at h
  split at h
  rotate_left
  · exact h.elim
  refine ⟨_, (pss_cons (ps_set (i := 2) sc_Heap_end_of.nd rfl (by first | exact Or.inl rfl | exact Or.inr rfl) (mv 1)) (pss_cons (ps_while PassesOwn.never (mt_cmp mo_eq (pe_ix (ki_seq K rfl) (pe_ix (ki_seq K rfl) (pe_fld (mv 0) rfl) (mv 2) (fun _ _ => rfl)) pe_int (fun _ _ => rfl)) pe_str (nomark _)) (pss_one (ps_set (i := 2) (hs := sw_sub) sc_Heap_end_of.nd rfl (by first | exact Or.inl rfl | exact Or.inr rfl) (pe_ix (ki_seq K rfl) (pe_ix (ki_seq K rfl) (pe_fld (mv 0) rfl) (mv 2) (fun _ _ => rfl)) pe_int (fun _ _ => rfl))))) (pss_one (ps_ret (mv 2))))), ?_⟩
  rename_i x a
  obtain ⟨pb, bs, n, ⟨dx, pt, us, ho, hb, hd⟩, rfl, hn, q⟩ := h
  walk_at "stp"
  refine while_row (fun m σ' H' => σ' = [some (.ref x), some (.int (n : Int)), some (.int (n : Int))] ∧ H' = H) 0 ⟨rfl, rfl⟩ (fun m σ' H' R hP kT kF => ?_)
  obtain ⟨rfl, rfl⟩ := hP
  obtain ⟨u, e1, e2, e3⟩ := HS.at (dx := dx) (pt := pt) hd (List.getElem?_eq_getElem hn)
  obtain ⟨a, us', rfl, hs, _⟩ := den_kind e3
  walk_at "stp"
  refine ⟨x, _, dx, _, _, rfl, ho, T.cl_Heap, T.no_Heap_boxes, fs_boxes _ _, ?_⟩
  walk_at "stp"
  refine mIx_l (SqL.of hb) e2 ?_
  walk_at "stp"
  refine mIx_t hs (v := .str bs[n].kind) atI0 ?_
  walk_at "stp"
  rw [kind_to]
  refine kF _ ?_
  walk_at "stp"
  exact q
theorem ok_Heap_look (T : Txt K mg t) (G_Heap_end_of : FnOk P w K mg base CX0 1 t.a_Heap_end_of t.d_Heap_end_of ["self", "at"] (sp_Heap_end_of K t.k_Heap)) : FnOk P w K mg base CX0 2 t.a_Heap_look t.d_Heap_look ["self", "at"] (sp_Heap_look K t.k_Heap) := by
  refine T.F_Heap_look.ok sc_Heap_look (fun vs H Q E h => ?_) (fun cdv A outer s H vs Q E hr h => ?_)
  · unfold sp_Heap_look at h
    split at h
    · rfl
    · exact h.elim
  unfold sp_Heap_look at h
  split at h
  rotate_left
  · exact h.elim
  refine ⟨_, (pss_cons (ps_set (i := 2) (hs := sw_call) sc_Heap_look.nd rfl (by first | exact Or.inl rfl | exact Or.inr rfl) (pe_meth (mv 0) T.cl_Heap T.me_Heap_end_of G_Heap_end_of (hr.mono (by first | decide | omega)) T.b_Heap_end_of .nil pass0 (pa_con (mv 1) pa_nil))) (pss_one (ps_ret (pe_ifExp (mt_cmp (ko_eq1S K rfl (room150 hr)) (pe_ix (ki_seq K rfl) (pe_fld (mv 0) rfl) (mv 2) (fun _ _ => rfl)) (pe_glob (v := .ref t.c_FREE) rfl T.m_FREE rfl) (nomark _)) (pe_tup (pa_con pe_str (pa_con (mv 2) pa_nil))) (pe_ix (ki_seq K rfl) (pe_fld (mv 0) rfl) (mv 2) (fun _ _ => rfl)))))), ?_⟩
  rename_i x a
  obtain ⟨pb, bs, n, b, w, rfl, hn, q⟩ := h
  obtain ⟨dx, pt, us, ho, hb, hd⟩ := id w
  obtain ⟨u, e1, e2, e3⟩ := HS.at (dx := dx) (pt := pt) hd hn
  obtain ⟨a, us', rfl, hs, e5⟩ := den_kind e3
  walk_at "stp"
  refine ⟨x, dx, _, rfl, ho, fs_no, ?_⟩
  walk_at "stp"
  refine ⟨pb, bs, n, w, rfl, (List.getElem?_eq_some_iff.mp hn).1, ?_⟩
  walk_at "stp"
  refine ⟨x, _, dx, _, _, rfl, ho, T.cl_Heap, T.no_Heap_boxes, fs_boxes _ _, ?_⟩
  walk_at "stp"
  refine mIx_l (SqL.of hb) e2 ?_
  walk_at "stp"
  refine mEq1S_i hs (T.q_FREE H) ?_
  rw [show (Str.ofString "free") = freeS from rfl, e5]
  cases b with
  | free =>
    walk_at "stp"
    refine iteT ?_
    walk_at "stp"
    refine ⟨ln (by show 2 ≤ 100000; decide), fun p1 hp1 => ?_⟩
    have sp1 : Same H (upd H p1 (.tup [.str (Str.ofString "free"), .int (n : Int)])) := same_new hp1 _
    have kp1 : (upd H p1 (.tup [.str (Str.ofString "free"), .int (n : Int)])) p1 = some (.tup [.str (Str.ofString "free"), .int (n : Int)]) := upd_same
    generalize upd H p1 (.tup [.str (Str.ofString "free"), .int (n : Int)]) = H1 at sp1 kp1 ⊢
    walk_at "stp"
    exact q _ _ sp1 (.tup (SqT.of kp1) (.cons (.str _) (.cons (.int _) .nil)))
  | num m =>
    walk_at "stp"
    refine iteF ?_
    walk_at "stp"
    refine ⟨x, _, dx, _, _, rfl, ho, T.cl_Heap, T.no_Heap_boxes, fs_boxes _ _, ?_⟩
    walk_at "stp"
    refine mIx_l (SqL.of hb) e2 ?_
    walk_at "stp"
    exact q _ _ (Same.refl _) e3
  | app s ks =>
    walk_at "stp"
    refine iteF ?_
    walk_at "stp"
    refine ⟨x, _, dx, _, _, rfl, ho, T.cl_Heap, T.no_Heap_boxes, fs_boxes _ _, ?_⟩
    walk_at "stp"
    refine mIx_l (SqL.of hb) e2 ?_
    walk_at "stp"
    exact q _ _ (Same.refl _) e3
theorem ok_Heap_parts (T : Txt K mg t) (G_Heap_look : FnOk P w K mg base CX0 2 t.a_Heap_look t.d_Heap_look ["self", "at"] (sp_Heap_look K t.k_Heap)) : FnOk P w K mg base CX0 3 t.a_Heap_parts t.d_Heap_parts ["self", "at", "most"] (sp_Heap_parts K t.k_Heap) := by
  refine T.F_Heap_parts.ok sc_Heap_parts (fun vs H Q E h => ?_) (fun cdv A outer s H vs Q E hr h => ?_)
  · unfold sp_Heap_parts at h
    split at h
    · rfl
    · exact h.elim
  unfold sp_Heap_parts at h
  split at h
  rotate_left
  · exact h.elim
  refine ⟨_, (pss_cons (ps_set (i := 3) sc_Heap_parts.nd rfl (by first | exact Or.inl rfl | exact Or.inr rfl) pe_int) (pss_cons (ps_set (i := 4) (hs := sw_lst) sc_Heap_parts.nd rfl (by first | exact Or.inl rfl | exact Or.inr rfl) (pe_lst (pa_con (mv 1) pa_nil))) (pss_cons (ps_while PassesOwn.never (kt_tru K rfl (mv 4)) (pss_cons (ps_if (mt_cmp mo_ge (mv 3) (mv 2) (nomark _)) (pss_one (ps_ret (pe_op (ko_add K rfl) (mv 2) pe_int))) pss_nil) (pss_cons (mps_aug (i := 3) sc_Heap_parts.nd rfl (by first | exact Or.inl rfl | exact Or.inr rfl) pe_int mi_add) (pss_cons (ps_set (i := 5) (hs := sw_call) sc_Heap_parts.nd rfl (by first | exact Or.inl rfl | exact Or.inr rfl) (pe_meth (mv 0) T.cl_Heap T.me_Heap_look G_Heap_look (hr.mono (by first | decide | omega)) T.b_Heap_look .nil pass0 (pa_con (ke_bm0 K rfl PySem.F.plainAttrs_list PySem.F.slot_list_pop PySem.F.type_list_pop mm_pop (mv 4)) pa_nil))) (pss_one (ps_if (mt_cmp mo_eq (pe_ix (ki_seq K rfl) (mv 5) pe_int (fun _ _ => rfl)) pe_str (nomark _)) (pss_one (ps_expr (ke_bm K rfl PySem.F.plainAttrs_list PySem.F.slot_list_extend PySem.F.type_list_extend (km_extend K rfl) (mv 4) (pa_con (pe_ix (ki_seq K rfl) (mv 5) pe_int (fun _ _ => rfl)) pa_nil)))) pss_nil)))))) (pss_one (ps_ret (mv 3)))))), ?_⟩
  rename_i x a m
  obtain ⟨pb, bs, n, mm, t0, w, rfl, rfl, hm, hR, q⟩ := h
  walk_at "stp"
  refine ⟨ln (by show 1 ≤ 100000; decide), fun p hp => ?_⟩
  have sp : Same H (upd H p (.lst [.int (n : Int)])) := same_new hp _
  have kp : (upd H p (.lst [.int (n : Int)])) p = some (.lst [.int (n : Int)]) := upd_same
  generalize upd H p (.lst [.int (n : Int)]) = H1 at sp kp ⊢
  walk_at "stp"
  refine while_row (fun k σ' H' => ∃ (ks : List Nat) (ts : List Trm) (c : Nat) (o : Option V), σ' = [some (.ref x), some (.int (n : Int)), some (.int (mm : Int)), some (.int (c : Int)), some (.ref p), o] ∧ H' p = some (.lst (nsV ks)) ∧ RepL bs ks ts ∧ c + Trm.sizeL ts = t0.size ∧ c ≤ mm ∧ ks.length ≤ 1 + 4 * c ∧ k = Trm.sizeL ts ∧ Same H H') t0.size ⟨[n], [t0], 0, none, rfl, kp, RepL.one hR, by simp [Trm.sizeL], by omega, by simp, by simp [Trm.sizeL], sp⟩ (fun k σ' H' R hP kT kF => ?_)
  obtain ⟨ks, ts, c, o, rfl, h1, h2, h3, h4, h5, h6, h7⟩ := hP
  walk_at "stp"
  refine .inl ⟨nsV ks, SqL.of h1, ?_⟩
  rcases nil_or_snoc' ks with rfl | ⟨ks0, k1, rfl⟩
  · have e := h2.len
    have e : ts = [] := List.length_eq_zero_iff.mp e.symm
    subst e
    refine kF H' ?_
    walk_at "stp"
    rw [Trm.sizeL] at h3
    rw [show min t0.size (mm + 1) = c by omega] at q
    exact q H' h7
  · obtain ⟨ts0, t1, rfl, g1, g2⟩ := h2.snoc
    rw [Trm.sizeL_app] at h3 h6
    have s1 : Trm.sizeL [t1] = t1.size := by simp [Trm.sizeL]
    rw [s1] at h3 h6
    have tp := t1.size_pos
    have e : (!(nsV (ks0 ++ [k1])).isEmpty) = true := by simp [nsV]
    rw [e]
    refine kT H' (fun D' e1 e2 hnx hct => ?_)
    walk_at "stp"
    refine iteB (fun e => ?_) (fun e => ?_)
    · have hc := of_decide_eq_true e
      walk_at "stp"
      rw [show min t0.size (mm + 1) = mm + 1 by omega] at q
      rw [e1]
      exact q H' h7
    have hc := of_decide_eq_false e
    rw [List.length_append, List.length_singleton] at h5
    have h1' : H' p = some (.lst (nsV ks0 ++ [.int (k1 : Int)])) := by rw [h1, nsV, List.map_append]; rfl
    obtain ⟨dx, pt, us, ho, hb, hd⟩ := w.same h7
    walk_at "stp"
    refine ⟨x, dx, _, rfl, ho, fs_no, ?_⟩
    walk_at "stp"
    refine ⟨.inl ⟨rfl, _, SqL.of h1'⟩, ?_⟩
    refine mPop_i h1' ?_
    walk_at "stp"
    have f5 : Same H (upd H' p (.lst (nsV ks0))) := same_upd h7 hp
    have k6 : (upd H' p (.lst (nsV ks0))) p = some (.lst (nsV ks0)) := upd_same
    generalize upd H' p (.lst (nsV ks0)) = J at f5 k6 ⊢
    have wJ := w.same f5
    have fin : ∀ (b : Bx) (ks' : List Nat) (ts' : List Trm) (v : V) (J1 : Hp), Same H J1 → RepL bs ks' ts' → ks'.length ≤ 4 → Trm.sizeL ts' + 1 = t1.size → J1 p = some (.lst (nsV (ks0 ++ ks'))) → D'.nx [some (.ref x), some (.int (n : Int)), some (.int (mm : Int)), some (.int ((c : Int) + 1)), some (.ref p), some v] J1 := fun b ks' ts' v J1 s1 r1 l1 z1 k1 =>
      hnx _ _ (Trm.sizeL (ts0 ++ ts')) (by rw [Trm.sizeL_app]; omega) ⟨ks0 ++ ks', ts0 ++ ts', c + 1, some v, rfl, k1, r1.app g1, by rw [Trm.sizeL_app]; omega, by omega, by rw [List.length_append]; omega, rfl, s1⟩
    cases t1 with
    | num m =>
      rw [Rep] at g2
      refine ⟨pb, bs, k1, .num m, wJ, rfl, g2, fun v J1 s1 d1 => ?_⟩
      obtain ⟨a, rfl, hs⟩ := den_num (n := m) d1
      walk_at "stp"
      refine mIx_t hs (v := .str numS) rfl ?_
      walk_at "stp"
      refine iteB (fun e => absurd e (by decide +kernel)) (fun e => ?_)
      walk_at "stp"
      exact fin (.num m) [] [] _ J1 (f5.trans s1) (by rw [RepL]) (by simp) rfl (by rw [List.append_nil]; exact s1 _ _ k6)
    | any y =>
      rw [Rep] at g2
      refine ⟨pb, bs, k1, .free, wJ, rfl, g2.1, fun v J1 s1 d1 => ?_⟩
      obtain ⟨a, rfl, hs⟩ := den_seenf d1
      walk_at "stp"
      refine mIx_t hs (v := .str freeS) rfl ?_
      walk_at "stp"
      refine iteB (fun e => absurd e (by decide +kernel)) (fun e => ?_)
      walk_at "stp"
      exact fin .free [] [] _ J1 (f5.trans s1) (by rw [RepL]) (by simp) rfl (by rw [List.append_nil]; exact s1 _ _ k6)
    | app s0 ts1 =>
      rw [Rep] at g2
      obtain ⟨ks', e6, l6, r6⟩ := g2
      refine ⟨pb, bs, k1, .app s0 ks', wJ, rfl, e6, fun v J1 s1 d1 => ?_⟩
      obtain ⟨a, b', rfl, hs, hs2⟩ := den_bapp d1
      walk_at "stp"
      refine mIx_t hs (v := .str appS) rfl ?_
      walk_at "stp"
      refine iteB (fun e => ?_) (fun e => absurd e (by decide +kernel))
      walk_at "stp"
      refine ⟨.inl ⟨rfl, _, SqL.of (s1 _ _ k6)⟩, ?_⟩
      walk_at "stp"
      refine mIx_t hs (v := .ref b') rfl ?_
      walk_at "stp"
      refine mExt_t (s1 _ _ k6) hs2 (ln (by simp only [nsV, List.length_map]; omega)) ?_
      walk_at "stp"
      refine fin (.app s0 ks') ks' ts1 _ _ (same_upd (f5.trans s1) hp) r6 l6 (by rw [Trm.size]; omega) ?_
      rw [upd_same, nsV, nsV, nsV, List.map_append]
end
section
variable {P : Program} {w : World} {K : PySem.W.Frag} {mg : Str → Option Value} {base : Heap} {t : Ad}
theorem st_Heap_read_out (T : Txt K mg t) (G_Heap_look : FnOk P w K mg base CX0 2 t.a_Heap_look t.d_Heap_look ["self", "at"] (sp_Heap_look K t.k_Heap)) (G_unknown : FnOk P w K mg base CX0 1 t.a_unknown t.d_unknown ["name"] (sp_unknown K)) (G_num : FnOk P w K mg base CX0 1 t.a_num t.d_num ["n"] (sp_num K)) (G_app : FnOk P w K mg base CX0 1 t.a_app t.d_app ["sign", "kids"] (sp_app K)) (n : Nat) (G_Heap_read_out : FnOk P w K mg base CX0 (n + 2) t.a_Heap_read_out t.d_Heap_read_out ["self", "at"] (sp_Heap_read_out K t.k_Heap n)) : FnOk P w K mg base CX0 (n + 2 + 1) t.a_Heap_read_out t.d_Heap_read_out ["self", "at"] (sp_Heap_read_out K t.k_Heap (n + 1)) := by
  refine T.F_Heap_read_out.ok (k := n + 2) sc_Heap_read_out (fun vs H Q E h => ?_) (fun cdv A outer s H vs Q E hr h => ?_)
  · unfold sp_Heap_read_out at h
    split at h
    · rfl
    · exact h.elim
  unfold sp_Heap_read_out at h
  split at h
  rotate_left
  · exact h.elim
  refine ⟨_, (pss_cons (ps_set (i := 2) (hs := sw_call) sc_Heap_read_out.nd rfl (by first | exact Or.inl rfl | exact Or.inr rfl) (pe_meth (mv 0) T.cl_Heap T.me_Heap_look G_Heap_look (hr.mono (by first | decide | omega)) T.b_Heap_look .nil pass0 (pa_con (mv 1) pa_nil))) (pss_cons (ps_if (mt_cmp mo_eq (pe_ix (ki_seq K rfl) (mv 2) pe_int (fun _ _ => rfl)) pe_str (nomark _)) (pss_one (ps_ret (pe_call G_num (hr.mono (by first | decide | omega)) rfl T.m_num T.F_num.kp T.b_num .nil pass0 (pa_con (pe_ix (ki_seq K rfl) (mv 2) pe_int (fun _ _ => rfl)) pa_nil)))) pss_nil) (pss_cons (ps_if (mt_cmp mo_eq (pe_ix (ki_seq K rfl) (mv 2) pe_int (fun _ _ => rfl)) pe_str (nomark _)) (pss_one (ps_ret (pe_call G_app (hr.mono (by first | decide | omega)) rfl T.m_app_terms T.F_app.kp T.b_app .nil pass0 (pa_con (pe_ix (ki_seq K rfl) (mv 2) pe_int (fun _ _ => rfl)) (pa_con (pe_comp rfl (kpi_tup K rfl (pe_ix (ki_seq K rfl) (mv 2) pe_int (fun _ _ => rfl))) (comp_sc (defScope s_Heap_read_out) ["self", "at", "box", "address"] ["self", "at", "box", "address"] rfl rfl (by decide +kernel)) (fun _ _ _ _ _ => pts_nil) (fun _ _ _ _ _ => (pe_meth (mv 1) T.cl_Heap T.me_Heap_read_out G_Heap_read_out (hr.mono (by first | decide | omega)) T.b_Heap_read_out .nil pass0 (pa_con (mv 0) pa_nil)))) pa_nil))))) pss_nil) (pss_cons (ps_set (i := 3) (hs := sw_sub) sc_Heap_read_out.nd rfl (by first | exact Or.inl rfl | exact Or.inr rfl) (pe_ix (ki_seq K rfl) (mv 2) pe_int (fun _ _ => rfl))) (pss_one (ps_ret (pe_call G_unknown (hr.mono (by first | decide | omega)) rfl T.m_unknown T.F_unknown.kp T.b_unknown .nil pass0 (pa_con (pe_f2n (mv 3)) pa_nil)))))))), ?_⟩
  rename_i x a
  obtain ⟨pb, bs, i0, t0, w, rfl, hR, hz, hn, hbl, q⟩ := h
  have tp := t0.size_pos
  obtain ⟨dx, pt, us, ho, hb, hd⟩ := id w
  walk_at "stp"
  refine ⟨x, dx, _, rfl, ho, fs_no, ?_⟩
  walk_at "stp"
  cases t0 with
  | num m =>
    rw [Rep] at hR
    refine ⟨pb, bs, i0, .num m, w, rfl, hR, fun v J1 s1 d1 => ?_⟩
    obtain ⟨a, rfl, hs⟩ := den_num (n := m) d1
    walk_at "stp"
    refine mIx_t hs (v := .str numS) rfl ?_
    walk_at "stp"
    refine iteB (fun e => ?_) (fun e => absurd e (by decide +kernel))
    walk_at "stp"
    refine mIx_t hs (v := .int m) rfl ?_
    walk_at "stp"
    exact fun v J2 s2 d2 => q v J2 (s1.trans s2) d2
  | any y =>
    rw [Rep] at hR
    obtain ⟨hR, rfl⟩ := hR
    refine ⟨pb, bs, i0, .free, w, rfl, hR, fun v J1 s1 d1 => ?_⟩
    obtain ⟨a, rfl, hs⟩ := den_seenf d1
    walk_at "stp"
    refine mIx_t hs (v := .str freeS) rfl ?_
    walk_at "stp"
    refine iteB (fun e => absurd e (by decide +kernel)) (fun e => ?_)
    walk_at "stp"
    refine mIx_t hs (v := .str freeS) rfl ?_
    walk_at "stp"
    refine iteB (fun e => absurd e (by decide +kernel)) (fun e => ?_)
    walk_at "stp"
    refine mIx_t hs (v := .int (i0 : Int)) rfl ?_
    walk_at "stp"
    obtain ⟨z1, z2⟩ := int_short (i := (i0 : Int)) (by omega) (by have := (List.getElem?_eq_some_iff.mp hR).1; omega)
    refine ⟨_, rfl, z1, z2, ?_⟩
    walk_at "stp"
    exact fun v J2 s2 d2 => q v J2 (s1.trans s2) d2
  | app s0 ts1 =>
    rw [Rep] at hR
    obtain ⟨ks, e6, l6, r6⟩ := hR
    refine ⟨pb, bs, i0, .app s0 ks, w, rfl, e6, fun v J1 s1 d1 => ?_⟩
    obtain ⟨a, b, rfl, hs, hs2⟩ := den_bapp d1
    have hkl := r6.len
    rw [Trm.size] at hz
    walk_at "stp"
    refine mIx_t hs (v := .str appS) rfl ?_
    walk_at "stp"
    refine iteB (fun e => absurd e (by decide +kernel)) (fun e => ?_)
    walk_at "stp"
    refine mIx_t hs (v := .str appS) rfl ?_
    walk_at "stp"
    refine iteB (fun e => ?_) (fun e => absurd e (by decide +kernel))
    walk_at "stp"
    refine mIx_t hs (v := .str s0) rfl ?_
    walk_at "stp"
    refine mIx_t hs (v := .ref b) rfl ?_
    refine ⟨b, rfl, ⟨_, hs2⟩, fun D hD => ?_⟩
    refine comp_row (row_tup (xs := nsV ks)) (fun i ys J => Same J1 J ∧ DenL K J ys (Trm.dataL (ts1.take i)) ∧ J D = some (.lst ys)) (ln (by simp only [nsV, List.length_map]; omega)) ⟨same_new hD _, .nil, upd_same⟩ (fun i ys J hP => hP.1.tup hs2) (fun i ys J Q' hi' hl' hP k => ?_) (fun ys J hl' hP => ?_)
    · obtain ⟨g1, g2, g3⟩ := hP
      rw [nsV, List.length_map] at hi'
      have hti : i < ts1.length := by omega
      obtain ⟨k0, e7, r7⟩ := r6.get (List.getElem?_eq_getElem hti)
      have hg : (nsV ks).getD i .non = .int (k0 : Int) := by rw [List.getD_eq_getElem?_getD, nsV, List.getElem?_map, e7]; rfl
      have lz := size_get (List.getElem?_eq_getElem hti)
      have wJ := w.same (s1.trans g1)
      obtain ⟨dx2, pt2, us2, ho2, hb2, hd2⟩ := id wJ
      walk_at "stp"
      rw [hg]
      refine ⟨x, dx2, _, rfl, ho2, fs_no, ?_⟩
      walk_at "stp"
      refine ⟨pb, bs, k0, ts1[i], wJ, rfl, r7, by omega, by omega, hbl, fun v J2 s2 d2 => ?_⟩
      refine k _ _ (s2 _ _ g3) ⟨same_upd (g1.trans s2) hD, ?_, upd_same⟩
      rw [List.take_add_one, List.getElem?_eq_getElem hti, Trm.dataL_map, List.map_append, ← Trm.dataL_map]
      exact ((g2.mono s2).append (.cons d2 .nil)).lst (s2 _ _ g3)
    obtain ⟨g1, g2, g3⟩ := hP
    rw [nsV, List.length_map, List.take_of_length_le (by omega)] at g2
    walk_at "stp"
    exact ⟨ys, ts1, SqL.of g3, g2, by omega, fun v J2 s2 d2 => q v J2 (s1.trans (g1.trans s2)) d2⟩
theorem ok_Heap_read_out (T : Txt K mg t) (G_Heap_look : FnOk P w K mg base CX0 2 t.a_Heap_look t.d_Heap_look ["self", "at"] (sp_Heap_look K t.k_Heap)) (G_unknown : FnOk P w K mg base CX0 1 t.a_unknown t.d_unknown ["name"] (sp_unknown K)) (G_num : FnOk P w K mg base CX0 1 t.a_num t.d_num ["n"] (sp_num K)) (G_app : FnOk P w K mg base CX0 1 t.a_app t.d_app ["sign", "kids"] (sp_app K)) (n : Nat) : FnOk P w K mg base CX0 (n + 2) t.a_Heap_read_out t.d_Heap_read_out ["self", "at"] (sp_Heap_read_out K t.k_Heap n) := by
  induction n with
  | zero =>
    have no : ∀ vs H Q E, (sp_Heap_read_out K t.k_Heap 0) vs H Q E → False := fun vs H Q E h => by
      unfold sp_Heap_read_out at h
      split at h
      · exact no_Heap_read_out h
      · exact h
    exact ⟨fun vs H Q E h => (no vs H Q E h).elim, fun A outer s H args us vs Q E _ _ _ _ h => (no vs H Q E h).elim⟩
  | succ n ih =>
    have e : n + 1 + 2 = n + 2 + 1 := by omega
    rw [e]
    exact st_Heap_read_out T G_Heap_look G_unknown G_num G_app n ih
theorem ok_Heap_term (T : Txt K mg t) (G_Heap_read_out : FnOk P w K mg base CX0 43 t.a_Heap_read_out t.d_Heap_read_out ["self", "at"] (sp_Heap_read_out K t.k_Heap 41)) (G_Heap_parts : FnOk P w K mg base CX0 3 t.a_Heap_parts t.d_Heap_parts ["self", "at", "most"] (sp_Heap_parts K t.k_Heap)) (G_TrailError_init : FnOk P w K mg base CX0 1 t.a_TrailError_init t.d_TrailError_init ["self", "words", "row"] (sp_TrailError_init K)) : FnOk P w K mg base (CXo P w) 46 t.a_Heap_term t.d_Heap_term ["self", "at"] (sp_Heap_term K t.k_Heap t.k_Big) := by
  refine T.F_Heap_term.okX sc_Heap_term (fun vs H Q E h => ?_) (fun cdv A outer s H vs Q E hr h => ?_)
  · unfold sp_Heap_term at h
    split at h
    · rfl
    · exact h.elim
  unfold sp_Heap_term at h
  split at h
  rotate_left
  · exact h.elim
  refine ⟨_, (pss_cons (ps_if (mt_cmp mo_gt (pe_meth (mv 0) T.cl_Heap T.me_Heap_parts G_Heap_parts (hr.mono (by first | decide | omega)) T.b_Heap_parts .nil pass0 (pa_con (mv 1) (pa_con (pe_gint rfl T.m_MOST_PARTS) pa_nil))) (pe_gint rfl T.m_MOST_PARTS) (nomark _)) (pss_one (ps_raise rfl xeOk_cx (pe_xmake T.mk_Big G_TrailError_init (hr.mono (by first | decide | omega)) rfl T.m_Big T.bd_TrailError_init (show Vals [V.int 0] [Value.int 0 t.w_TrailError_init_0] from (.cons ⟨_, rfl⟩ .nil)) pass0 (pa_con (pe_f3i (pe_gint rfl T.m_MOST_PARTS)) pa_nil)))) pss_nil) (pss_one (ps_ret (pe_meth (mv 0) T.cl_Heap T.me_Heap_read_out G_Heap_read_out (hr.mono (by first | decide | omega)) T.b_Heap_read_out .nil pass0 (pa_con (mv 1) pa_nil))))), ?_⟩
  rename_i x a
  obtain ⟨pb, bs, n, t0, w, rfl, hR, hbl, q1, q2⟩ := h
  obtain ⟨dx, pt, us, ho, hb, hd⟩ := id w
  walk_at "stp"
  refine ⟨x, dx, _, rfl, ho, fs_no, ?_⟩
  walk_at "stp"
  refine ⟨pb, bs, n, 40, t0, w, rfl, rfl, by omega, hR, fun H1 s1 => ?_⟩
  walk_at "stp"
  by_cases h40 : t0.size ≤ 40
  · refine iteB (fun e => by have := of_decide_eq_true e; omega) (fun e => ?_)
    walk_at "stp"
    obtain ⟨dx, pt, us, ho, hb, hd⟩ := w.same s1
    refine ⟨x, dx, _, rfl, ho, fs_no, ?_⟩
    walk_at "stp"
    exact ⟨pb, bs, n, t0, w.same s1, rfl, hR, by omega, by omega, hbl, fun v J s2 d => q1 h40 v J (s1.trans s2) d⟩
  · refine iteB (fun e => ?_) (fun e => by have := of_decide_eq_false e; omega)
    walk_at "stp"
    refine ⟨40, rfl, by decide +kernel, by decide +kernel, fun z => ?_⟩
    walk_at "stp"
    refine ⟨by simp, fun ea hea => ?_⟩
    refine ⟨t.k_Big, _, true, T.x_Big, T.u_Big, T.at_Big, T.no_Big_row, upd_same, fun H9 b9 => ⟨rfl, ?_⟩⟩
    obtain ⟨dx9, h91, h92, h93⟩ := born_raise hea (Same.refl _) hea b9
    refine ⟨ea, t.k_Big, dx9, _, rfl, T.x_Big, h91, ?_⟩
    exact q2 (by omega) ea _ (s1.trans h93) h92
end
theorem nil_or_snoc {α : Type} (l : List α) : l = [] ∨ ∃ r x, l = r ++ [x] := nil_or_snoc' l
theorem d1 : decide (numS = appS) = false := by decide +kernel
theorem d2 : decide (anyS = appS) = false := by decide +kernel
theorem d3 : decide (appS = appS) = true := by decide +kernel
mutual
noncomputable def ar4 : Trm → Prop
  | .num _ => True
  | .any _ => True
  | .app _ ks => ks.length ≤ 4 ∧ ar4L ks
noncomputable def ar4L : List Trm → Prop
  | [] => True
  | k :: ks => ar4 k ∧ ar4L ks
end
theorem ar4L_iff : ∀ {ts : List Trm}, ar4L ts ↔ ∀ t ∈ ts, ar4 t
  | [] => by rw [ar4L]; simp
  | k :: ks => by rw [ar4L, ar4L_iff]; simp
theorem but_own {p k : Addr} {H H' : Hp} {o : HO} (e : But p H H') (h : H k = none) : But p H (upd H' k o) := fun b u n q => by rw [upd_ne (ne_of_none q h)]; exact e b u n q
theorem strs_at {ws : List Str} {j : Int} (h0 : 0 ≤ j) (h1 : j < (ws.length : Int)) : ∃ z : Str, atI (ws.map V.str) j = some (.str z) := by
  obtain ⟨v, hv, _⟩ := atI_lt (xs := ws.map V.str) h0 (by rw [List.length_map]; exact h1)
  obtain ⟨z, _, e⟩ := List.mem_map.mp (atI_mem hv)
  exact ⟨z, by rw [hv, e]⟩
noncomputable abbrev sp_l_cells (K : PySem.W.Frag) : Sp := fun vs H Q _ => match vs with
  | [.ref a, .int m] => ∃ ns : List Int, SqL K H a (ns.map V.int) ∧ ns.length ≤ 63 ∧ 0 ≤ m ∧ m ≤ 100 ∧ ∀ (p : Addr) (cs : List Int) (H' : Hp), cs.length = m.toNat → Same H H' → H' p = some (.lst (cs.map V.int)) → Q (.ref p) H'
  | _ => False
noncomputable abbrev sp_l_next : Sp := fun vs H Q _ => match vs with
  | [.ref p] => ∃ ns : List Int, H p = some (.lst (ns.map V.int)) ∧ ∀ (v : Int) (ns' : List Int) (H' : Hp), But p H H' → (∀ b, H' b = none → H b = none) → H' p = some (.lst (ns'.map V.int)) → Q (.int v) H'
  | _ => False
noncomputable abbrev sp_l_whole : Sp := fun vs H Q _ => match vs with | [.int n] => Q (.bl true) H | _ => False
noncomputable abbrev sp_l_parts (K : PySem.W.Frag) (n : Nat) : Sp := fun vs H Q _ => match vs with | [v] => ∃ t : Trm, Den K H v t.data ∧ t.size ≤ n ∧ n ≤ 1000 ∧ ∀ H', Same H H' → Q (.int t.size) H' | _ => False
theorem no_l_parts {K : PySem.W.Frag} {H : Hp} {Q : VK} {v : V} (h : ∃ t : Trm, Den K H v t.data ∧ t.size ≤ 0 ∧ 0 ≤ 1000 ∧ ∀ H', Same H H' → Q (.int t.size) H') : False := by
  obtain ⟨t, _, h, _⟩ := h
  have := t.size_pos
  omega
theorem sum_sizes : ∀ ks : List Trm, (ks.map fun t : Trm => (t.size : Int)).sum = (Trm.sizeL ks : Int)
  | [] => rfl
  | t :: r => by rw [List.map_cons, List.sum_cons, sum_sizes r, Trm.sizeL]; omega
noncomputable abbrev sp_l_term (K : PySem.W.Frag) (n : Nat) : Sp := fun vs H Q _ => match vs with
  | [.ref p, .int room] => ∃ (ns : List Int), H p = some (.lst (ns.map V.int)) ∧ 1 ≤ room ∧ room ≤ (n : Int) ∧ n ≤ 40 ∧
    ∀ (r : Addr) (H' : Hp) (t : Trm) (ns' : List Int), But p H H' → (∀ b, H' b = none → H b = none) → H' p = some (.lst (ns'.map V.int)) → Den K H' (.ref r) t.data → (t.size : Int) ≤ room → ar4 t → Q (.ref r) H'
  | _ => False
theorem no_l_term {H : Hp} {p : Addr} {room : Int} {R : List Int → Prop} (h : ∃ (ns : List Int), H p = some (.lst (ns.map V.int)) ∧ 1 ≤ room ∧ room ≤ ((0 : Nat) : Int) ∧ R ns) : False := by
  obtain ⟨_, _, h1, h2, _⟩ := h
  have h2 : room ≤ (0 : Int) := h2
  omega
noncomputable abbrev Kn := List (Str × Nat)
noncomputable def encP (kn : Kn) : List (Key × V) := kn.map fun r => (Sum.inr r.1, V.int (r.2 : Int))
noncomputable def lkP : Kn → Str → Option Nat
  | [], _ => none
  | r :: kn, x => if r.1 = x then some r.2 else lkP kn x
theorem val_enc (x : Str) : ∀ kn : Kn, valV (encP kn) (Sum.inr x) = (lkP kn x).map fun a => V.int (a : Int)
  | [] => rfl
  | r :: kn => by
    by_cases e : r.1 = x
    · rw [encP, List.map_cons, valV_pos (by rw [e]), lkP, if_pos e]; rfl
    · rw [encP, List.map_cons, valV_neg (fun z => e (Sum.inr.inj z)), lkP, if_neg e]; exact val_enc x kn
theorem lk_app {kn : Kn} {x : Str} {a : Nat} (c : Kn) (h : lkP kn x = some a) : lkP (kn ++ c) x = some a := by
  induction kn with
  | nil => cases h
  | cons r kn ih =>
    rw [List.cons_append, lkP]
    rw [lkP] at h
    by_cases e : r.1 = x
    · rw [if_pos e] at h ⊢; exact h
    · rw [if_neg e] at h ⊢; exact ih h
theorem lk_new {kn : Kn} {x y : Str} {a : Nat} (h : lkP kn x = none) : lkP (kn ++ [(x, a)]) y = if y = x then some a else lkP kn y := by
  induction kn with
  | nil =>
    show (if x = y then some a else none) = _
    by_cases e : x = y
    · rw [if_pos e, if_pos e.symm]
    · rw [if_neg e, if_neg (fun z => e z.symm)]; rfl
  | cons r kn ih =>
    rw [lkP] at h
    by_cases e : r.1 = x
    · rw [if_pos e] at h; cases h
    · rw [if_neg e] at h
      rw [List.cons_append, lkP, lkP, ih h]
      by_cases e2 : r.1 = y
      · rw [if_pos e2, if_pos e2, if_neg (fun z => e (by rw [e2, z]))]
      · rw [if_neg e2, if_neg e2]
theorem put_new {kn : Kn} {x : Str} {a : Nat} (h : lkP kn x = none) : putK (encP kn) (Sum.inr x) (.int (a : Int)) = encP (kn ++ [(x, a)]) := by
  rw [putK_new _ (by rw [val_enc, h]; rfl), encP, encP, List.map_append]; rfl
mutual
noncomputable def vinP (kn : Kn) : Trm → Prop
  | .num _ => True
  | .any x => ∃ a, lkP kn x = some a
  | .app _ ks => vinPL kn ks
noncomputable def vinPL (kn : Kn) : List Trm → Prop
  | [] => True
  | k :: ks => vinP kn k ∧ vinPL kn ks
end
mutual
noncomputable def nm (kn : Kn) : Trm → Trm
  | .num n => .num n
  | .any x => .any (bnm ((lkP kn x).getD 0))
  | .app s ks => .app s (nmL kn ks)
noncomputable def nmL (kn : Kn) : List Trm → List Trm
  | [] => []
  | k :: ks => nm kn k :: nmL kn ks
end
mutual
theorem vin_app {kn : Kn} (c : Kn) : ∀ {t : Trm}, vinP kn t → vinP (kn ++ c) t
  | .num _, _ => by rw [vinP]; trivial
  | .any x, h => by rw [vinP] at h ⊢; obtain ⟨a, e⟩ := h; exact ⟨a, lk_app c e⟩
  | .app _ ks, h => by rw [vinP] at h ⊢; exact vinL_app c h
theorem vinL_app {kn : Kn} (c : Kn) : ∀ {t : List Trm}, vinPL kn t → vinPL (kn ++ c) t
  | [], _ => by rw [vinPL]; trivial
  | k :: ks, h => by rw [vinPL] at h ⊢; exact ⟨vin_app c h.1, vinL_app c h.2⟩
end
mutual
theorem nm_app {kn : Kn} (c : Kn) : ∀ {t : Trm}, vinP kn t → nm (kn ++ c) t = nm kn t
  | .num _, _ => by rw [nm, nm]
  | .any x, h => by rw [vinP] at h; obtain ⟨a, e⟩ := h; rw [nm, nm, lk_app c e, e]
  | .app _ ks, h => by rw [vinP] at h; rw [nm, nm, nmL_app c h]
theorem nmL_app {kn : Kn} (c : Kn) : ∀ {t : List Trm}, vinPL kn t → nmL (kn ++ c) t = nmL kn t
  | [], _ => by rw [nmL, nmL]
  | k :: ks, h => by rw [vinPL] at h; rw [nmL, nmL, nm_app c h.1, nmL_app c h.2]
end
mutual
theorem nm_size (kn : Kn) : ∀ t : Trm, (nm kn t).size = t.size
  | .num _ => by rw [nm]
  | .any x => by rw [nm, Trm.size, Trm.size]
  | .app _ ks => by rw [nm, Trm.size, Trm.size, nmL_size kn ks]
theorem nmL_size (kn : Kn) : ∀ t : List Trm, Trm.sizeL (nmL kn t) = Trm.sizeL t
  | [] => by rw [nmL]
  | k :: ks => by rw [nmL, Trm.sizeL, Trm.sizeL, nm_size kn k, nmL_size kn ks]
end
theorem nmL_map (kn : Kn) : ∀ ts : List Trm, nmL kn ts = ts.map (nm kn)
  | [] => by rw [nmL]; rfl
  | k :: ks => by rw [nmL, nmL_map kn ks]; rfl
theorem vinPL_iff {kn : Kn} : ∀ {ts : List Trm}, vinPL kn ts ↔ ∀ t ∈ ts, vinP kn t
  | [] => by rw [vinPL]; simp
  | k :: ks => by rw [vinPL, vinPL_iff]; simp
noncomputable def KnOk (bs : List Bx) (kn : Kn) : Prop := ∀ x a, lkP kn x = some a → bs[a]? = some .free
theorem KnOk.more {bs : List Bx} {kn : Kn} (c : List Bx) (h : KnOk bs kn) : KnOk (bs ++ c) kn := fun x a e => get_app c (h x a e)
theorem KnOk.add {bs : List Bx} {kn : Kn} {x : Str} (h : KnOk bs kn) (e : lkP kn x = none) : KnOk (bs ++ [.free]) (kn ++ [(x, bs.length)]) := fun y a e2 => by
  rw [lk_new e] at e2
  by_cases z : y = x
  · rw [if_pos z] at e2; cases e2; simp
  · rw [if_neg z] at e2; exact get_app _ (h y a e2)
theorem rep_any {bs : List Bx} {kn : Kn} {x : Str} {a : Nat} (h : KnOk bs kn) (e : lkP kn x = some a) : Rep bs a (nm kn (.any x)) := by
  rw [nm, Rep, e]
  exact ⟨h x a e, rfl⟩
noncomputable def PFr (pb d : Addr) (H H' : Hp) : Prop := ∀ b o, b ≠ pb → b ≠ d → H b = some o → H' b = some o
theorem PFr.trans {pb d : Addr} {H H1 H2 : Hp} (a : PFr pb d H H1) (b : PFr pb d H1 H2) : PFr pb d H H2 := fun c o h1 h2 e => b c o h1 h2 (a c o h1 h2 e)
theorem PFr.of {pb d : Addr} {H H' : Hp} (s : Same H H') : PFr pb d H H' := fun b o _ _ e => s b o e
theorem HFr.pfr {pb d : Addr} {H H' : Hp} (s : HFr pb H H') : PFr pb d H H' := fun b o h _ e => s b o h e
theorem PFr.tup {K : PySem.W.Frag} {pb d : Addr} {H H' : Hp} {ys : List V} {kv : List (Key × V)} (f : PFr pb d H H') (h1 : H pb = some (.lst ys)) (h2 : H d = some (.dK kv)) : ∀ a xs, SqT K H a xs → SqT K H' a xs := fun a xs q => by
  rcases q with (q | ⟨o, q⟩) | q
  · exact .inl (.inl (f _ _ (fun z => by rw [z, h1] at q; cases q) (fun z => by rw [z, h2] at q; cases q) q))
  · exact .inl (.inr ⟨o, f _ _ (fun z => by rw [z, h1] at q; cases q) (fun z => by rw [z, h2] at q; cases q) q⟩)
  · exact .inr q
noncomputable abbrev sp_l_put (K : PySem.W.Frag) (C : Addr) (n : Nat) : Sp := fun vs H Q _ => match vs with | [.ref x, v, .ref d] => ∃ (pb : Addr) (bs : List Bx) (t : Trm) (kn : Kn), HS K C H x pb bs ∧ Den K H v t.data ∧ t.size ≤ n ∧ n ≤ 60 ∧ ar4 t ∧ H d = some (.dK (encP kn)) ∧ KnOk bs kn ∧ bs.length + t.size ≤ 800 ∧ kn.length + t.size ≤ 800 ∧ ∀ (a : Nat) (bs' : List Bx) (kn' : Kn) (H' : Hp), PFr pb d H H' → HS K C H' x pb (bs ++ bs') → H' d = some (.dK (encP (kn ++ kn'))) → KnOk (bs ++ bs') (kn ++ kn') → bs'.length ≤ t.size → kn'.length ≤ t.size → vinP (kn ++ kn') t → Rep (bs ++ bs') a (nm (kn ++ kn') t) → Q (.int (a : Int)) H' | _ => False
theorem no_l_put {K : PySem.W.Frag} {C : Addr} {H : Hp} {x : Addr} {v : V} {R : Addr → List Bx → Trm → Kn → Prop} (h : ∃ (pb : Addr) (bs : List Bx) (t : Trm) (kn : Kn), HS K C H x pb bs ∧ Den K H v t.data ∧ t.size ≤ 0 ∧ R pb bs t kn) : False := by
  obtain ⟨_, _, t, _, _, _, z, _⟩ := h
  have := Trm.size_pos t
  omega
noncomputable abbrev sp_l_read (K : PySem.W.Frag) (n : Nat) : Sp := fun vs H Q _ => match vs with | [v, .ref d] => ∃ (t : Trm) (kn : Kn), Den K H v t.data ∧ t.size ≤ n ∧ n ≤ 60 ∧ H d = some (.dK (encP kn)) ∧ vinP kn t ∧ (∀ x a, lkP kn x = some a → a ≤ 10000) ∧ ∀ (v' : V) (H' : Hp), Same H H' → Den K H' v' (nm kn t).data → Q v' H' | _ => False
theorem no_l_read {K : PySem.W.Frag} {H : Hp} {v : V} {R : Trm → Kn → Prop} (h : ∃ (t : Trm) (kn : Kn), Den K H v t.data ∧ t.size ≤ 0 ∧ R t kn) : False := by
  obtain ⟨t, _, _, z, _⟩ := h
  have := Trm.size_pos t
  omega
noncomputable abbrev sp_l_parts_right (K : PySem.W.Frag) (C : Addr) : Sp := fun vs H Q _ => match vs with | [.ref x, .int a, .int z, .int m] => ∃ (pb : Addr) (bs : List Bx) (n mm : Nat) (t : Trm), HS K C H x pb bs ∧ a = (n : Int) ∧ z = (t.size : Int) ∧ m = (mm : Int) ∧ mm ≤ 400 ∧ Rep bs n t ∧ ∀ H', Same H H' → Q (.bl true) H' | _ => False
noncomputable abbrev sp_l_seen (K : PySem.W.Frag) (C : Addr) (n : Nat) : Sp := fun vs H Q _ => match vs with | [.ref x, .int a, v, .ref d] => ∃ (pb : Addr) (bs : List Bx) (i : Nat) (t : Trm) (kn : Kn), HS K C H x pb bs ∧ a = (i : Int) ∧ Den K H v t.data ∧ t.size ≤ n ∧ n ≤ 60 ∧ H d = some (.dK (encP kn)) ∧ vinP kn t ∧ KnOk bs kn ∧ Rep bs i (nm kn t) ∧ ∀ H', Same H H' → Q (.bl true) H' | _ => False
theorem no_l_seen {K : PySem.W.Frag} {C : Addr} {H : Hp} {x : Addr} {a : Int} {v : V} {R : Addr → List Bx → Nat → Trm → Kn → Prop} (h : ∃ (pb : Addr) (bs : List Bx) (i : Nat) (t : Trm) (kn : Kn), HS K C H x pb bs ∧ a = (i : Int) ∧ Den K H v t.data ∧ t.size ≤ 0 ∧ R pb bs i t kn) : False := by
  obtain ⟨_, _, _, t, _, _, _, _, z, _⟩ := h
  have := Trm.size_pos t
  omega
noncomputable abbrev sp_l_big (K : PySem.W.Frag) (C : Addr) : Sp := fun vs H Q _ => match vs with | [.ref x, .int a] => ∃ (pb : Addr) (bs : List Bx) (n : Nat) (t : Trm), HS K C H x pb bs ∧ a = (n : Int) ∧ Rep bs n t ∧ bs.length ≤ 1000 ∧ 40 < t.size ∧ ∀ H', Same H H' → Q (.bl true) H' | _ => False
noncomputable abbrev sp_l_doubled (K : PySem.W.Frag) (C : Addr) : Sp := fun vs H Q _ => match vs with | [.ref x, .int a, .int z, .int m] => ∃ (pb : Addr) (bs : List Bx) (n tm : Nat) (t : Trm), HS K C H x pb bs ∧ a = (n : Int) ∧ z = (t.size : Int) ∧ m = (tm : Int) ∧ tm ≤ 12 ∧ Rep bs n t ∧ bs.length ≤ 800 ∧ ∀ (p : Addr) (n' : Nat) (t' : Trm) (bs' : List Bx) (H' : Hp), HFr pb H H' → HS K C H' x pb (bs ++ bs') → bs'.length ≤ 24 → Rep (bs ++ bs') n' t' → H' p = some (.tup [.int (n' : Int), .int (t'.size : Int)]) → Q (.ref p) H' | _ => False
noncomputable abbrev sp_l_great (K : PySem.W.Frag) (C : Addr) : Sp := fun vs H Q _ => match vs with | [.ref x, v, .int a, .int m, .int c] => ∃ (pb : Addr) (bs : List Bx) (n tm : Nat) (t0 t : Trm), HS K C H x pb bs ∧ Den K H v t0.data ∧ t0.size ≤ 40 ∧ a = (n : Int) ∧ t.size = t0.size ∧ m = (tm : Int) ∧ tm ≤ 12 ∧ Rep bs n t ∧ bs.length ≤ 800 ∧ ∀ (bs' : List Bx) (H' : Hp), HFr pb H H' → HS K C H' x pb (bs ++ bs') → bs'.length ≤ 24 → Q (.bl true) H' | _ => False
noncomputable abbrev sp_l_edge_right (K : PySem.W.Frag) (C : Addr) : Sp := fun vs H Q _ => match vs with | [.int c] => ∀ H', Same H H' → Q (.bl true) H' | _ => False
noncomputable abbrev sp_law (K : PySem.W.Frag) : Sp := fun vs H Q _ => match vs with | [.ref a] => ∃ ns : List Int, SqL K H a (ns.map V.int) ∧ ns.length ≤ 63 ∧ ∀ H', Q (.bl true) H' | _ => False
section
variable {P : Program} {w : World} {K : PySem.W.Frag} {mg : Str → Option Value} {base : Heap} {t : Ad}
theorem ok_l_whole (T : Txt K mg t)  : FnOk P w K mg base CX0 1 t.a_l_whole t.d_l_whole ["_law_found"] (sp_l_whole) := by
  refine T.F_l_whole.ok sc_l_whole (fun vs H Q E h => ?_) (fun cdv A outer s H vs Q E hr h => ?_)
  · unfold sp_l_whole at h
    split at h
    · rfl
    · exact h.elim
  unfold sp_l_whole at h
  split at h
  rotate_left
  · exact h.elim
  refine ⟨_, (pss_one (ps_ret (me_and (pe_callB (kc_is K rfl) rfl T.n_isinstance boot_isinstance (pa_con (mv 0) (pa_con (pe_bty rfl T.n_int boot_int) pa_nil))) (pe_one (ke_not K rfl (pe_callB (kc_is K rfl) rfl T.n_isinstance boot_isinstance (pa_con (mv 0) (pa_con (pe_bty rfl T.n_bool boot_bool) pa_nil)))))))), ?_⟩
  rename_i n
  walk_at "stp"
  refine iteT ?_
  walk_at "stp"
  exact h
theorem ok_l_cells (T : Txt K mg t)  : FnOk P w K mg base CX0 1 t.a_l_cells t.d_l_cells ["_law_script", "_law_many"] (sp_l_cells K) := by
  refine T.F_l_cells.ok sc_l_cells (fun vs H Q E h => ?_) (fun cdv A outer s H vs Q E hr h => ?_)
  · unfold sp_l_cells at h
    split at h
    · rfl
    · exact h.elim
  unfold sp_l_cells at h
  split at h
  rotate_left
  · exact h.elim
  refine ⟨_, (pss_cons (ps_set (i := 2) (hs := sw_call) sc_l_cells.nd rfl (by first | exact Or.inl rfl | exact Or.inr rfl) (pe_callTy (kc_list K rfl) rfl T.n_list boot_list (pa_con (pe_slice (ks_list K rfl) (mv 0) po_none (mp_some (mv 1))) pa_nil))) (pss_cons (ps_set (i := 3) (hs := sw_bin) sc_l_cells.nd rfl (by first | exact Or.inl rfl | exact Or.inr rfl) (pe_op (ko_add K rfl) pe_int (pe_callB (kc_len K rfl) rfl T.n_len PySem.boot_len (pa_con (mv 0) pa_nil)))) (pss_cons (ps_while PassesOwn.never (mt_cmp mo_lt (pe_callB (kc_len K rfl) rfl T.n_len PySem.boot_len (pa_con (mv 2) pa_nil)) (mv 1) (nomark _)) (pss_cons (ps_if (mt_cmp mo_gt (pe_callB (kc_len K rfl) rfl T.n_len PySem.boot_len (pa_con (mv 0) pa_nil)) pe_int (nomark _)) (pss_one (ps_set (i := 3) (hs := sw_bin) sc_l_cells.nd rfl (by first | exact Or.inl rfl | exact Or.inr rfl) (pe_op (ko_add K rfl) (mv 3) (pe_ix (ki_seq K rfl) (mv 0) (pe_op mo_mod (pe_callB (kc_len K rfl) rfl T.n_len PySem.boot_len (pa_con (mv 2) pa_nil)) (pe_callB (kc_len K rfl) rfl T.n_len PySem.boot_len (pa_con (mv 0) pa_nil))) (fun _ _ => rfl))))) pss_nil) (pss_cons (ps_set (i := 3) (hs := sw_bin) sc_l_cells.nd rfl (by first | exact Or.inl rfl | exact Or.inr rfl) (pe_op mo_mod (pe_op (ko_add K rfl) (pe_op mo_mul (mv 3) pe_int) pe_int) pe_int)) (pss_one (ps_expr (ke_bm K rfl PySem.F.plainAttrs_list PySem.F.slot_list_append PySem.F.type_list_append mm_append (mv 2) (pa_con (pe_op mo_fdiv (mv 3) pe_int) pa_nil))))))) (pss_one (ps_ret (mv 2)))))), ?_⟩
  rename_i a m
  obtain ⟨ns, hS, hn, h0, h1, q⟩ := h
  walk_at "stp"
  refine mSlL_i hS fun p1 hp1 => ?_
  walk_at "stp"
  refine mLst_l (SqL.of upd_same) fun p hp => ?_
  walk_at "stp"
  rw [cutV_map] at hp ⊢
  generalize hc0 : (ns.drop (HT.sIx ns.length 0 none)).take (HT.sIx ns.length ns.length (some m) - HT.sIx ns.length 0 none) = cs0 at hp ⊢
  have hl0 : cs0.length ≤ m.toNat := by
    rw [← hc0, List.length_take, sIx_to _ _ h0]
    omega
  have s1 : Same H (upd H p1 (.lst (cs0.map V.int))) := same_new hp1 _
  have hp0 : H p = none := s1.free hp
  have s2 : Same H (upd (upd H p1 (.lst (cs0.map V.int))) p (.lst (cs0.map V.int))) := s1.trans (same_new hp _)
  have hpp : upd (upd H p1 (.lst (cs0.map V.int))) p (.lst (cs0.map V.int)) p = some (.lst (cs0.map V.int)) := upd_same
  generalize upd (upd H p1 (.lst (cs0.map V.int))) p (.lst (cs0.map V.int)) = H2 at s2 hpp ⊢
  refine mLen_l (s2.seq hS) ?_
  walk_at "stp"
  refine while_row (fun n σ' H' => ∃ (x : Int) (cs : List Int), σ' = [some (.ref a), some (.int m), some (.ref p), some (.int x)] ∧ H' p = some (.lst (cs.map V.int)) ∧ Same H H' ∧ cs.length ≤ m.toNat ∧ n = m.toNat - cs.length) _ ⟨_, cs0, rfl, hpp, s2, hl0, rfl⟩ (fun n σ' H' R hP kT kF => ?_)
  obtain ⟨x, cs, rfl, h2, h3, h4, h5⟩ := hP
  walk_at "stp"
  refine mLen_l (SqL.of h2) ?_
  walk_at "stp"
  by_cases hlt : cs.length < m.toNat
  · have e : decide (((cs.map V.int).length : Int) < m) = true := decide_eq_true (by rw [List.length_map]; omega)
    rw [e]
    refine kT H' (fun D' e1 e2 hnx hct => ?_)
    have rest : ∀ y : Int, (D'.nx) [some (.ref a), some (.int m), some (.ref p), some (.int ((y * 62089911 + 5) % 2147483647))] (upd H' p (.lst (cs.map V.int ++ [V.int ((y * 62089911 + 5) % 2147483647 / 19)]))) := fun y => by
      refine hnx _ _ (m.toNat - (cs.length + 1)) (by omega) ⟨_, cs ++ [(y * 62089911 + 5) % 2147483647 / 19], rfl, by rw [upd_same, List.map_append]; rfl, same_upd h3 hp0, by rw [List.length_append, List.length_singleton]; omega, by rw [List.length_append, List.length_singleton]⟩
    (with_reducible refine seq_rest (fun σ' H1 => ∃ y : Int, σ' = [some (.ref a), some (.int m), some (.ref p), some (.int y)] ∧ H1 = H') (fun σ' H1 hP => ?_) (fun k => ?_))
    rotate_left
    · walk_at "stm"
      refine mLen_l (h3.seq hS) ?_
      walk_at "stm"
      refine iteB (fun e3 => ?_) (fun e3 => ?_)
      · walk_at "stm"
        refine mLen_l (SqL.of h2) ?_
        walk_at "stm"
        refine mLen_l (h3.seq hS) ?_
        have hpos := of_decide_eq_true e3
        refine m2_i (show (0 : Int) < _ from hpos) ?_
        have b1 := Int.emod_nonneg ((cs.map V.int).length : Int) (show ((ns.map V.int).length : Int) ≠ 0 by omega)
        have b2 := Int.emod_lt_of_pos ((cs.map V.int).length : Int) hpos
        obtain ⟨v, hv, hv2⟩ := atI_lt (xs := ns.map V.int) b1 b2
        obtain ⟨z, rfl⟩ := ints_at hv
        refine mIx_l (h3.seq hS) hv ?_
        walk_at "stm"
        exact k _ _ ⟨_, rfl, rfl⟩
      · walk_at "stm"
        exact k _ _ ⟨_, rfl, rfl⟩
    obtain ⟨y, rfl, rfl⟩ := hP
    walk_at "stp"
    refine mMul_i (mulOk_right (by decide)) ?_
    walk_at "stp"
    refine ⟨.inl ⟨rfl, _, SqL.of h2⟩, ?_⟩
    walk_at "stp"
    refine mAppend_i h2 (ln1 (by rw [List.length_map]; omega)) ?_
    exact rest y
  · have e : decide (((cs.map V.int).length : Int) < m) = false := decide_eq_false (by rw [List.length_map]; omega)
    rw [e]
    refine kF H' ?_
    walk_at "stp"
    exact q p cs H' (by omega) h3 h2
theorem ok_l_next (T : Txt K mg t)  : FnOk P w K mg base CX0 1 t.a_l_next t.d_l_next ["_law_left"] (sp_l_next) := by
  refine T.F_l_next.ok sc_l_next (fun vs H Q E h => ?_) (fun cdv A outer s H vs Q E hr h => ?_)
  · unfold sp_l_next at h
    split at h
    · rfl
    · exact h.elim
  unfold sp_l_next at h
  split at h
  rotate_left
  · exact h.elim
  refine ⟨_, (pss_cons (ps_if (mt_cmp mo_eq (pe_callB (kc_len K rfl) rfl T.n_len PySem.boot_len (pa_con (mv 0) pa_nil)) pe_int (nomark _)) (pss_one (ps_ret pe_int)) pss_nil) (pss_one (ps_ret (ke_bm0 K rfl PySem.F.plainAttrs_list PySem.F.slot_list_pop PySem.F.type_list_pop mm_pop (mv 0))))), ?_⟩
  rename_i p
  obtain ⟨ns, hp, q⟩ := h
  walk_at "stp"
  refine mLen_l (SqL.of hp) ?_
  walk_at "stp"
  rcases nil_or_snoc ns with rfl | ⟨ns', x, rfl⟩
  · refine iteT ?_
    walk_at "stp"
    exact q 0 [] H (But.refl _ _) (fun _ h => h) hp
  · have e : (false ^^ decide ((((ns' ++ [x]).map V.int).length : Int) = 0)) = false := by simp; omega
    rw [e]
    refine iteF ?_
    walk_at "stp"
    rw [List.map_append] at hp
    refine ⟨.inl ⟨rfl, _, SqL.of hp⟩, ?_⟩
    refine mPop_i (v := V.int x) hp ?_
    exact q x ns' _ (but_upd _) (fun b h => by
      by_cases z : b = p
      · subst z; rw [upd_same] at h; cases h
      · rwa [upd_ne z] at h) upd_same
theorem st_l_parts (T : Txt K mg t)  (n : Nat) (G_l_parts : FnOk P w K mg base CX0 (n + 1) t.a_l_parts t.d_l_parts ["_law_term_here"] (sp_l_parts K n)) : FnOk P w K mg base CX0 (n + 1 + 1) t.a_l_parts t.d_l_parts ["_law_term_here"] (sp_l_parts K (n + 1)) := by
  refine T.F_l_parts.ok (k := n + 1) sc_l_parts (fun vs H Q E h => ?_) (fun cdv A outer s H vs Q E hr h => ?_)
  · unfold sp_l_parts at h
    split at h
    · rfl
    · exact h.elim
  unfold sp_l_parts at h
  split at h
  rotate_left
  · exact h.elim
  refine ⟨_, (pss_cons (ps_if (mt_cmp mo_eq (pe_ix (ki_seq K rfl) (mv 0) pe_int (fun _ _ => rfl)) pe_str (nomark _)) (pss_one (ps_ret (pe_op (ko_add K rfl) pe_int (pe_callB (kc_sum K rfl rfl) rfl T.n_sum boot_sum (pa_con (pe_comp rfl (kpi_tup K rfl (pe_ix (ki_seq K rfl) (mv 0) pe_int (fun _ _ => rfl))) (comp_sc (defScope s_l_parts) ["_law_term_here"] ["_law_term_here"] rfl rfl (by decide +kernel)) (fun _ _ _ _ _ => pts_nil) (fun _ _ _ _ _ => (pe_call G_l_parts (hr.mono (by first | decide | omega)) rfl T.m_l_parts T.F_l_parts.kp T.b_l_parts .nil pass0 (pa_con (mv 0) pa_nil)))) pa_nil))))) pss_nil) (pss_one (ps_ret pe_int))), ?_⟩
  rename_i v
  obtain ⟨t0, hd, hz, hn, q⟩ := h
  cases t0 with
  | num m =>
    obtain ⟨a, rfl, hs⟩ := den_num hd
    walk_at "stp"
    refine mIx_t hs (v := .str numS) rfl ?_
    walk_at "stp"
    rw [Bool.false_xor, d1]
    refine iteF ?_
    walk_at "stp"
    exact q H (Same.refl H)
  | any m =>
    obtain ⟨a, rfl, hs⟩ := den_any hd
    walk_at "stp"
    refine mIx_t hs (v := .str anyS) rfl ?_
    walk_at "stp"
    rw [Bool.false_xor, d2]
    refine iteF ?_
    walk_at "stp"
    exact q H (Same.refl H)
  | app sg ks =>
    obtain ⟨a, b, us, rfl, hs, hb, hk⟩ := den_app hd
    walk_at "stp"
    refine mIx_t hs (v := .str appS) rfl ?_
    walk_at "stp"
    rw [Bool.false_xor, d3]
    refine iteT ?_
    walk_at "stp"
    refine mIx_t hs (v := .ref b) rfl ?_
    refine ⟨b, rfl, ⟨_, hb⟩, fun D hD => ?_⟩
    simp only [Trm.size] at hz
    have hl := hk.length
    rw [Trm.dataL_map, List.length_map] at hl
    have l4 := Trm.len_le ks
    refine comp_row (row_tup (xs := us)) (fun i ys H' => Same H H' ∧ ys = ((ks.take i).map fun t : Trm => V.int t.size) ∧ H' D = some (.lst ys)) (ln (by omega)) ⟨same_new hD _, rfl, upd_same⟩ (fun i ys H' hP => hP.1.tup hb) (fun i ys H' Q' hi' hl' hP k => ?_) (fun ys H' hl' hP => ?_)
    · obtain ⟨g1, g2, g3⟩ := hP
      have hki : i < ks.length := by omega
      have hx : us[i]? = some us[i] := List.getElem?_eq_getElem hi'
      have hg : us.getD i .non = us[i] := by rw [List.getD_eq_getElem?_getD, hx]; rfl
      obtain ⟨d, e1, e2⟩ := hk.get hx
      rw [Trm.dataL_map, List.getElem?_map, List.getElem?_eq_getElem hki] at e1
      have e1 : ks[i].data = d := Option.some.inj e1
      subst e1
      walk_at "stp"
      rw [hg]
      have hsz : ks[i].size ≤ Trm.sizeL ks := by
        have e := Trm.sizeL_app (ks.take i) (ks.drop i)
        rw [List.take_append_drop, List.drop_eq_getElem_cons hki, Trm.sizeL] at e
        omega
      refine ⟨ks[i], e2.mono g1, by omega, by omega, fun H2 s2 => ?_⟩
      refine k _ _ (s2 _ _ g3) ⟨same_upd (g1.trans s2) hD, ?_, upd_same⟩
      rw [g2, List.take_add_one, List.getElem?_eq_getElem hki, List.map_append]
      rfl
    · obtain ⟨g1, g2, g3⟩ := hP
      have e : ks.take us.length = ks := List.take_of_length_le (by omega)
      rw [e] at g2
      walk_at "stp"
      refine ⟨D, ks.map fun t : Trm => (t.size : Int), rfl, SqL.of (by rw [List.map_map]; exact g2 ▸ g3), fun n hn => ?_, ?_, ?_⟩
      · obtain ⟨t, _, rfl⟩ := List.mem_map.mp hn
        omega
      · rw [sum_sizes]; omega
      · walk_at "stp"
        rw [sum_sizes]
        have e : (1 : Int) + (Trm.sizeL ks : Int) = ((Trm.app sg ks).size : Int) := by simp only [Trm.size]; omega
        rw [e]
        exact q H' g1
theorem ok_l_parts (T : Txt K mg t)  (n : Nat) : FnOk P w K mg base CX0 (n + 1) t.a_l_parts t.d_l_parts ["_law_term_here"] (sp_l_parts K n) := by
  induction n with
  | zero =>
    have no : ∀ vs H Q E, (sp_l_parts K 0) vs H Q E → False := fun vs H Q E h => by
      unfold sp_l_parts at h
      split at h
      · exact no_l_parts h
      · exact h
    exact ⟨fun vs H Q E h => (no vs H Q E h).elim, fun A outer s H args us vs Q E _ _ _ _ h => (no vs H Q E h).elim⟩
  | succ n ih =>
    have e : n + 1 + 1 = n + 1 + 1 := by omega
    rw [e]
    exact st_l_parts T  n ih
end
section
variable {P : Program} {w : World} {K : PySem.W.Frag} {mg : Str → Option Value} {base : Heap} {t : Ad}
theorem st_l_term (T : Txt K mg t) (G_l_next : FnOk P w K mg base CX0 1 t.a_l_next t.d_l_next ["_law_left"] (sp_l_next)) (G_l_parts : FnOk P w K mg base CX0 42 t.a_l_parts t.d_l_parts ["_law_term_here"] (sp_l_parts K 41)) (n : Nat) (G_l_term : FnOk P w K mg base CX0 (n + 45) t.a_l_term t.d_l_term ["_law_left", "_law_room"] (sp_l_term K n)) : FnOk P w K mg base CX0 (n + 45 + 1) t.a_l_term t.d_l_term ["_law_left", "_law_room"] (sp_l_term K (n + 1)) := by
  refine T.F_l_term.ok (k := n + 45) sc_l_term (fun vs H Q E h => ?_) (fun cdv A outer s H vs Q E hr h => ?_)
  · unfold sp_l_term at h
    split at h
    · rfl
    · exact h.elim
  unfold sp_l_term at h
  split at h
  rotate_left
  · exact h.elim
  refine ⟨_, (pss_cons (ps_set (i := 2) (hs := sw_call) sc_l_term.nd rfl (by first | exact Or.inl rfl | exact Or.inr rfl) (pe_call G_l_next (hr.mono (by first | decide | omega)) rfl T.m_l_next T.F_l_next.kp T.b_l_next .nil pass0 (pa_con (mv 0) pa_nil))) (pss_cons (ps_set (i := 3) (hs := sw_bin) sc_l_term.nd rfl (by first | exact Or.inl rfl | exact Or.inr rfl) (pe_op mo_mod (mv 2) pe_int)) (pss_cons (ps_set (i := 2) (hs := sw_bin) sc_l_term.nd rfl (by first | exact Or.inl rfl | exact Or.inr rfl) (pe_op mo_fdiv (mv 2) pe_int)) (pss_cons (ps_if (mt_cmp mo_lt (mv 3) pe_int (nomark _)) (pss_one (ps_ret (pe_tup (pa_con pe_str (pa_con (pe_ix (ki_seq K rfl) (pe_lst (pa_con pe_str (pa_con pe_str (pa_con pe_str (pa_con pe_str pa_nil))))) (pe_op mo_mod (mv 2) pe_int) (fun _ _ => rfl)) pa_nil))))) pss_nil) (pss_cons (ps_if (mt_cmp mo_eq (mv 3) pe_int (nomark _)) (pss_one (ps_ret (pe_tup (pa_con pe_str (pa_con (pe_op mo_sub (pe_op mo_mod (pe_op mo_mul (mv 2) pe_int) (pe_op mo_sub (pe_op mo_mul pe_int (pe_op mo_pow pe_int pe_int)) pe_int)) (pe_op mo_sub (pe_op mo_pow pe_int pe_int) pe_int)) pa_nil))))) pss_nil) (pss_cons (ps_if (PW.pt (pw_or (mt_cmp mo_eq (mv 3) pe_int (nomark _)) (pw_or1 (mt_cmp mo_lt (mv 1) pe_int (nomark _))))) (pss_one (ps_ret (pe_tup (pa_con pe_str (pa_con (pe_ix (ki_seq K rfl) (pe_lst (pa_con pe_str (pa_con pe_str (pa_con pe_str (pa_con pe_str pa_nil))))) (pe_op mo_mod (mv 2) pe_int) (fun _ _ => rfl)) (pa_con (pe_tup pa_nil) pa_nil)))))) pss_nil) (pss_cons (ps_set (i := 4) (hs := sw_call) sc_l_term.nd rfl (by first | exact Or.inl rfl | exact Or.inr rfl) (pe_callB (mc_min rfl) rfl T.n_min boot_min (pa_con (pe_op (ko_add K rfl) pe_int (pe_op mo_mod (mv 2) pe_int)) (pa_con (pe_op mo_sub (mv 1) pe_int) pa_nil)))) (pss_cons (ps_set (i := 5) (hs := sw_lst) sc_l_term.nd rfl (by first | exact Or.inl rfl | exact Or.inr rfl) (pe_lst pa_nil)) (pss_cons (ps_set (i := 1) (hs := sw_bin) sc_l_term.nd rfl (by first | exact Or.inl rfl | exact Or.inr rfl) (pe_op mo_sub (mv 1) pe_int)) (pss_cons (ps_for PassesOwn.never rfl (pi_range1 rfl T.n_range (pa_con (mv 4) pa_nil)) (pg_name (i := 6) sc_l_term.nd rfl (by first | exact Or.inl rfl | exact Or.inr rfl)) (pss_cons (ps_set (i := 7) (hs := sw_call) sc_l_term.nd rfl (by first | exact Or.inl rfl | exact Or.inr rfl) (pe_call G_l_term (hr.mono (by first | decide | omega)) rfl T.m_l_term T.F_l_term.kp T.b_l_term .nil pass0 (pa_con (mv 0) (pa_con (pe_op mo_sub (mv 1) (pe_op mo_sub (pe_op mo_sub (mv 4) pe_int) (mv 6))) pa_nil)))) (pss_cons (ps_set (i := 1) (hs := sw_bin) sc_l_term.nd rfl (by first | exact Or.inl rfl | exact Or.inr rfl) (pe_op mo_sub (mv 1) (pe_call G_l_parts (hr.mono (by first | decide | omega)) rfl T.m_l_parts T.F_l_parts.kp T.b_l_parts .nil pass0 (pa_con (mv 7) pa_nil)))) (pss_one (ps_expr (ke_bm K rfl PySem.F.plainAttrs_list PySem.F.slot_list_append PySem.F.type_list_append mm_append (mv 5) (pa_con (mv 7) pa_nil))))))) (pss_cons (ps_if (mt_cmp mo_eq (mv 4) pe_int (nomark _)) (pss_one (ps_ret (pe_tup (pa_con pe_str (pa_con (pe_ix (ki_seq K rfl) (pe_lst (pa_con pe_str (pa_con pe_str (pa_con pe_str (pa_con pe_str pa_nil))))) (pe_op mo_mod (pe_op mo_fdiv (mv 2) pe_int) pe_int) (fun _ _ => rfl)) (pa_con (pe_callTy (kc_tuple K rfl) rfl T.n_tuple boot_tuple (pa_con (mv 5) pa_nil)) pa_nil)))))) pss_nil) (pss_one (ps_ret (pe_tup (pa_con pe_str (pa_con (pe_ix (ki_seq K rfl) (pe_lst (pa_con pe_str (pa_con pe_str (pa_con pe_str pa_nil)))) (pe_op mo_mod (pe_op mo_fdiv (mv 2) pe_int) pe_int) (fun _ _ => rfl)) (pa_con (pe_callTy (kc_tuple K rfl) rfl T.n_tuple boot_tuple (pa_con (mv 5) pa_nil)) pa_nil))))))))))))))))), ?_⟩
  rename_i p room
  obtain ⟨ns, hp, h1, h2, hn, q⟩ := h
  have hq : (0 : Int) < 2 * 10 ^ (30 : Int).toNat - 1 := by decide +kernel
  walk_at "stp"
  refine ⟨ns, hp, fun v ns1 H1 b1 f1 hp1 => ?_⟩
  walk_at "stp"
  refine iteB (fun e => ?_) (fun e => ?_)
  · walk_at "stp"
    refine ⟨ln (by show 4 ≤ 100000; decide), fun p1 hp1' => ?_⟩
    have t1 : Same H1 (upd H1 p1 (.lst ((["X", "Y", "B0", "U1"].map Str.ofString).map V.str))) := same_new hp1' _
    walk_at "stp"
    have b5 := Int.emod_nonneg (v / 8) (show (4 : Int) ≠ 0 by decide)
    have b6 := Int.emod_lt_of_pos (v / 8) (show (0 : Int) < 4 by decide)
    obtain ⟨z, hz⟩ := strs_at (ws := ["X", "Y", "B0", "U1"].map Str.ofString) b5 (by simpa using b6)
    refine mIx_l (SqL.of upd_same) hz ?_
    walk_at "stp"
    refine ⟨ln (by show 2 ≤ 100000; decide), fun r hr => ?_⟩
    have s3 := t1.trans (same_new hr (.tup [.str anyS, .str z]))
    exact q r _ (.any z) ns1 (b1.trans s3.but) (fun b hb => f1 b (s3.free hb)) (s3 _ _ hp1) (any_den (SqT.of upd_same)) (by simp only [Trm.size]; omega) (by rw [ar4]; trivial)
  walk_at "stp"
  refine iteB (fun e1 => ?_) (fun e1 => ?_)
  · walk_at "stp"
    refine mMul_i (mulOk_right (by decide)) ?_
    walk_at "stp"
    refine m2_i (C := CPow) ⟨by decide, by decide, by decide⟩ ?_
    walk_at "stp"
    refine mMul_i (mulOk_left (by decide)) ?_
    walk_at "stp"
    refine m2_i (C := CPow) ⟨by decide, by decide, by decide⟩ ?_
    walk_at "stp"
    refine ⟨ln (by show 2 ≤ 100000; decide), fun r hr => ?_⟩
    have s3 := same_new hr (.tup [.str numS, .int (v / 8 * 982451653 % (2 * 10 ^ (30 : Int).toNat - 1) - (10 ^ (30 : Int).toNat - 1))])
    exact q r _ (.num _) ns1 (b1.trans s3.but) (fun b hb => f1 b (s3.free hb)) (s3 _ _ hp1) (num_den (SqT.of upd_same)) (by simp only [Trm.size]; omega) (by rw [ar4]; trivial)
  walk_at "stp"
  refine iteB (fun e2 => ?_) (fun e2 => ?_)
  · refine iteT ?_
    walk_at "stp"
    refine ⟨ln (by show 4 ≤ 100000; decide), fun p1 hp1' => ?_⟩
    have t1 : Same H1 (upd H1 p1 (.lst ((["[]", "a", "b", "ab1"].map Str.ofString).map V.str))) := same_new hp1' _
    walk_at "stp"
    have b5 := Int.emod_nonneg (v / 8) (show (4 : Int) ≠ 0 by decide)
    have b6 := Int.emod_lt_of_pos (v / 8) (show (0 : Int) < 4 by decide)
    obtain ⟨z, hz⟩ := strs_at (ws := ["[]", "a", "b", "ab1"].map Str.ofString) b5 (by simpa using b6)
    refine mIx_l (SqL.of upd_same) hz ?_
    walk_at "stp"
    refine ⟨ln (by show 0 ≤ 100000; decide), fun p3 hp3 => ?_⟩
    have t3 := same_new hp3 (.tup [])
    walk_at "stp"
    refine ⟨ln (by show 3 ≤ 100000; decide), fun r hr => ?_⟩
    have s3 := t1.trans (t3.trans (same_new hr (.tup [.str appS, .str z, .ref p3])))
    refine q r _ (.app z []) ns1 (b1.trans s3.but) (fun b hb => f1 b (s3.free hb)) (s3 _ _ hp1) (app_den (SqT.of upd_same) ((same_new hr _).tup (SqT.of upd_same)) .nil) ?_ (by rw [ar4, ar4L]; exact ⟨Nat.zero_le _, trivial⟩)
    simp only [Trm.size, Trm.sizeL]
    omega
  walk_at "stp"
  refine iteB (fun e3 => ?_) (fun e3 => ?_)
  · walk_at "stp"
    refine ⟨ln (by show 4 ≤ 100000; decide), fun p1 hp1' => ?_⟩
    have t1 : Same H1 (upd H1 p1 (.lst ((["[]", "a", "b", "ab1"].map Str.ofString).map V.str))) := same_new hp1' _
    walk_at "stp"
    have b5 := Int.emod_nonneg (v / 8) (show (4 : Int) ≠ 0 by decide)
    have b6 := Int.emod_lt_of_pos (v / 8) (show (0 : Int) < 4 by decide)
    obtain ⟨z, hz⟩ := strs_at (ws := ["[]", "a", "b", "ab1"].map Str.ofString) b5 (by simpa using b6)
    refine mIx_l (SqL.of upd_same) hz ?_
    walk_at "stp"
    refine ⟨ln (by show 0 ≤ 100000; decide), fun p3 hp3 => ?_⟩
    have t3 := same_new hp3 (.tup [])
    walk_at "stp"
    refine ⟨ln (by show 3 ≤ 100000; decide), fun r hr => ?_⟩
    have s3 := t1.trans (t3.trans (same_new hr (.tup [.str appS, .str z, .ref p3])))
    refine q r _ (.app z []) ns1 (b1.trans s3.but) (fun b hb => f1 b (s3.free hb)) (s3 _ _ hp1) (app_den (SqT.of upd_same) ((same_new hr _).tup (SqT.of upd_same)) .nil) ?_ (by rw [ar4, ar4L]; exact ⟨Nat.zero_le _, trivial⟩)
    simp only [Trm.size, Trm.sizeL]
    omega
  have hr2 := of_decide_eq_false e3
  walk_at "stp"
  have b5 := Int.emod_nonneg (v / 8) (show (4 : Int) ≠ 0 by decide)
  have b6 := Int.emod_lt_of_pos (v / 8) (show (0 : Int) < 4 by decide)
  obtain ⟨m, hm, hm1, hm4, hmr⟩ : ∃ m : Int, (if room - 1 < 1 + v / 8 % 4 then room - 1 else 1 + v / 8 % 4) = m ∧ 1 ≤ m ∧ m ≤ 4 ∧ m ≤ room - 1 := ⟨_, rfl, by split <;> omega⟩
  rw [hm]
  refine ⟨ln (by show 0 ≤ 100000; decide), fun pk hpk => ?_⟩
  walk_at "stp"
  refine ⟨m, rfl, by omega, by omega, ?_⟩
  have npk : pk ≠ p := fun z => by subst z; rw [hp1] at hpk; cases hpk
  have sk : Same H1 (upd H1 pk (.lst [])) := same_new hpk _
  refine for_row (row_range 0 m.toNat) (fun i σ' H' => ∃ (o7 o8 : Option V) (us : List V) (ks : List Trm) (ns' : List Int) (rm : Int), σ' = [some (.ref p), some (.int rm), some (.int (v / 8)), some (.int (v % 8)), some (.int m), some (.ref pk), o7, o8] ∧ H' pk = some (.lst us) ∧ DenL K H' us (Trm.dataL ks) ∧ ks.length = i ∧ rm + (Trm.sizeL ks : Int) = room - 1 ∧ m - (i : Int) ≤ rm ∧ H' p = some (.lst (ns'.map V.int)) ∧ But p H1 H' ∧ (∀ b, H' b = none → H1 b = none) ∧ ar4L ks) ⟨none, none, [], [], ns1, _, rfl, upd_same, .nil, rfl, by simp only [Trm.sizeL]; omega, by simpa using hmr, sk _ _ hp1, sk.but, fun b hb => sk.free hb, by rw [ar4L]; trivial⟩ (fun _ _ _ _ => trivial) (fun i σ' H' hi hP => ?_) (fun σ' H' hP => ?_)
  · obtain ⟨o7, o8, us, ks, ns', rm, rfl, j1, j2, j3, j4, j5, j6, j8, j9, ja⟩ := hP
    walk_at "stp"
    refine ⟨ns', j6, by omega, by omega, by omega, fun r H2 t2 ns2 b2 f2 hp2 hd2 hsz ha2 => ?_⟩
    walk_at "stp"
    have tp := t2.size_pos
    refine ⟨t2, hd2, by omega, by decide, fun H3 s3 => ?_⟩
    walk_at "stp"
    have hk3 : H3 pk = some (.lst us) := s3 _ _ (b2 _ _ npk j1)
    refine ⟨.inl ⟨rfl, _, SqL.of hk3⟩, ?_⟩
    walk_at "stp"
    have l1 := j2.length
    rw [Trm.dataL_map, List.length_map] at l1
    refine mAppend_i hk3 (ln1 (by omega)) ?_
    refine ⟨_, _, us ++ [.ref r], ks ++ [t2], ns2, rm - (t2.size : Int), rfl, upd_same, ?_, by rw [List.length_append, j3]; rfl, ?_, ?_, ?_, ?_, ?_, ?_⟩
    · rw [Trm.dataL_map, List.map_append, ← Trm.dataL_map]
      exact (((b2.denL j6 j2).mono s3).append (.cons (hd2.mono s3) .nil)).lst hk3
    · rw [Trm.sizeL_app]
      simp only [Trm.sizeL]
      omega
    · omega
    · rw [upd_ne (Ne.symm npk)]
      exact s3 _ _ hp2
    · exact but_own ((j8.trans b2).trans s3.but) hpk
    · intro b hb
      refine j9 b (f2 b (s3.free ?_))
      by_cases z : b = pk
      · subst z; rw [upd_same] at hb; cases hb
      · rwa [upd_ne z] at hb
    · rw [ar4L_iff] at ja ⊢
      intro t ht
      rcases List.mem_append.mp ht with z | z
      · exact ja t z
      · rw [List.mem_singleton.mp z]; exact ha2
  obtain ⟨o7, o8, us, ks, ns', rm, rfl, j1, j2, j3, j4, j5, j6, j8, j9, ja⟩ := hP
  walk_at "stp"
  refine iteB (fun e5 => ?_) (fun e5 => ?_)
  · walk_at "stp"
    refine ⟨ln (by show 4 ≤ 100000; decide), fun p5 hp5 => ?_⟩
    have s5 := same_new hp5 (.lst [.str (Str.ofString "[|]"), .str (Str.ofString "+"), .str (Str.ofString "f"), .str (Str.ofString "->")])
    walk_at "stp"
    have c5 := Int.emod_nonneg (v / 8 / 4) (show (4 : Int) ≠ 0 by decide)
    have c6 := Int.emod_lt_of_pos (v / 8 / 4) (show (0 : Int) < 4 by decide)
    obtain ⟨z, hz⟩ := strs_at (ws := ["[|]", "+", "f", "->"].map Str.ofString) c5 (by simpa using c6)
    refine mIx_l (SqL.of upd_same) hz ?_
    have k5 : (upd H' p5 (.lst [.str (Str.ofString "[|]"), .str (Str.ofString "+"), .str (Str.ofString "f"), .str (Str.ofString "->")])) pk = some (.lst us) := s5 _ _ j1
    have k5' : (upd H' p5 (.lst [.str (Str.ofString "[|]"), .str (Str.ofString "+"), .str (Str.ofString "f"), .str (Str.ofString "->")])) p = some (.lst (ns'.map V.int)) := s5 _ _ j6
    have d5 := j2.mono s5
    generalize upd H' p5 (.lst [.str (Str.ofString "[|]"), .str (Str.ofString "+"), .str (Str.ofString "f"), .str (Str.ofString "->")]) = H5 at s5 k5 k5' d5 ⊢
    walk_at "stp"
    refine mTup_l (SqL.of k5) fun b hb => ?_
    have s6 := same_new hb (.tup us)
    have k6 : (upd H5 b (.tup us)) b = some (.tup us) := upd_same
    generalize upd H5 b (.tup us) = H6 at s6 k6 ⊢
    walk_at "stp"
    refine ⟨ln (by show 3 ≤ 100000; decide), fun r2 hr2' => ?_⟩
    have s7 := same_new hr2' (.tup [.str appS, .str z, .ref b])
    have s57 := s5.trans (s6.trans s7)
    refine q r2 _ (.app z ks) ns' ((b1.trans j8).trans s57.but) (fun b hb => f1 b (j9 b (s57.free hb))) (s57 _ _ j6) (app_den (SqT.of upd_same) (SqT.of (s7 _ _ k6)) (d5.mono (s6.trans s7))) ?_ (by rw [ar4]; exact ⟨by omega, ja⟩)
    simp only [Trm.size]
    omega
  walk_at "stp"
  refine ⟨ln (by show 3 ≤ 100000; decide), fun p5 hp5 => ?_⟩
  have s5 := same_new hp5 (.lst [.str (Str.ofString "f"), .str (Str.ofString "g"), .str (Str.ofString "gF")])
  walk_at "stp"
  have c5 := Int.emod_nonneg (v / 8 / 4) (show (3 : Int) ≠ 0 by decide)
  have c6 := Int.emod_lt_of_pos (v / 8 / 4) (show (0 : Int) < 3 by decide)
  obtain ⟨z, hz⟩ := strs_at (ws := ["f", "g", "gF"].map Str.ofString) c5 (by simpa using c6)
  refine mIx_l (SqL.of upd_same) hz ?_
  have k5 : (upd H' p5 (.lst [.str (Str.ofString "f"), .str (Str.ofString "g"), .str (Str.ofString "gF")])) pk = some (.lst us) := s5 _ _ j1
  have k5' : (upd H' p5 (.lst [.str (Str.ofString "f"), .str (Str.ofString "g"), .str (Str.ofString "gF")])) p = some (.lst (ns'.map V.int)) := s5 _ _ j6
  have d5 := j2.mono s5
  generalize upd H' p5 (.lst [.str (Str.ofString "f"), .str (Str.ofString "g"), .str (Str.ofString "gF")]) = H5 at s5 k5 k5' d5 ⊢
  walk_at "stp"
  refine mTup_l (SqL.of k5) fun b hb => ?_
  have s6 := same_new hb (.tup us)
  have k6 : (upd H5 b (.tup us)) b = some (.tup us) := upd_same
  generalize upd H5 b (.tup us) = H6 at s6 k6 ⊢
  walk_at "stp"
  refine ⟨ln (by show 3 ≤ 100000; decide), fun r2 hr2' => ?_⟩
  have s7 := same_new hr2' (.tup [.str appS, .str z, .ref b])
  have s57 := s5.trans (s6.trans s7)
  refine q r2 _ (.app z ks) ns' ((b1.trans j8).trans s57.but) (fun b hb => f1 b (j9 b (s57.free hb))) (s57 _ _ j6) (app_den (SqT.of upd_same) (SqT.of (s7 _ _ k6)) (d5.mono (s6.trans s7))) ?_ (by rw [ar4]; exact ⟨by omega, ja⟩)
  simp only [Trm.size]
  omega
theorem ok_l_term (T : Txt K mg t) (G_l_next : FnOk P w K mg base CX0 1 t.a_l_next t.d_l_next ["_law_left"] (sp_l_next)) (G_l_parts : FnOk P w K mg base CX0 42 t.a_l_parts t.d_l_parts ["_law_term_here"] (sp_l_parts K 41)) (n : Nat) : FnOk P w K mg base CX0 (n + 45) t.a_l_term t.d_l_term ["_law_left", "_law_room"] (sp_l_term K n) := by
  induction n with
  | zero =>
    have no : ∀ vs H Q E, (sp_l_term K 0) vs H Q E → False := fun vs H Q E h => by
      unfold sp_l_term at h
      split at h
      · exact no_l_term h
      · exact h
    exact ⟨fun vs H Q E h => (no vs H Q E h).elim, fun A outer s H args us vs Q E _ _ _ _ h => (no vs H Q E h).elim⟩
  | succ n ih =>
    have e : n + 1 + 45 = n + 45 + 1 := by omega
    rw [e]
    exact st_l_term T G_l_next G_l_parts n ih
end
section
variable {P : Program} {w : World} {K : PySem.W.Frag} {mg : Str → Option Value} {base : Heap} {t : Ad}
theorem HS.updD {K : PySem.W.Frag} {C : Addr} {H : Hp} {x pb D : Addr} {bs : List Bx} {ys zs : List V} (w : HS K C H x pb bs) (h : H D = some (.lst ys)) (n : D ≠ pb) : HS K C (upd H D (.lst zs)) x pb bs := by
  obtain ⟨dx, pt, us, ho, hb, hd⟩ := w
  exact ⟨dx, pt, us, by rw [upd_ne (fun z => by rw [z, h] at ho; cases ho)]; exact ho, by rw [upd_ne (Ne.symm n)]; exact hb, hd.lst h⟩
theorem PFr.own {pb d D : Addr} {H J : Hp} {o : HO} (f : PFr pb d H J) (h : H D = none) : PFr pb d H (upd J D o) := fun b u h1 h2 e => by
  rw [upd_ne (fun z => by rw [z, h] at e; cases e)]; exact f b u h1 h2 e
theorem take_sz {ts : List Trm} {i : Nat} (h : i < ts.length) : Trm.sizeL (ts.take (i + 1)) = Trm.sizeL (ts.take i) + ts[i].size := by
  rw [List.take_add_one, List.getElem?_eq_getElem h, Trm.sizeL_app]
  simp [Trm.sizeL]
theorem take_le (ts : List Trm) (i : Nat) : Trm.sizeL (ts.take i) ≤ Trm.sizeL ts := by
  have e := Trm.sizeL_app (ts.take i) (ts.drop i)
  rw [List.take_append_drop] at e
  omega
theorem take_one {ts : List Trm} {i : Nat} (h : i < ts.length) : ts.take (i + 1) = ts.take i ++ [ts[i]] := by
  rw [List.take_add_one, List.getElem?_eq_getElem h]; rfl
theorem lkP_len {kn : Kn} : (encP kn).length = kn.length := by rw [encP, List.length_map]
theorem st_l_put (T : Txt K mg t) (G_Heap_app : FnOk P w K mg base CX0 2 t.a_Heap_app t.d_Heap_app ["self", "sign", "kids"] (sp_Heap_app K t.k_Heap)) (G_Heap_number : FnOk P w K mg base CX0 2 t.a_Heap_number t.d_Heap_number ["self", "n"] (sp_Heap_number K t.k_Heap)) (G_Heap_free : FnOk P w K mg base CX0 2 t.a_Heap_free t.d_Heap_free ["self"] (sp_Heap_free K t.k_Heap)) (n : Nat) (G_l_put : FnOk P w K mg base CX0 (n + 3) t.a_l_put t.d_l_put ["_law_heap", "_law_term_here", "_law_known"] (sp_l_put K t.k_Heap n)) : FnOk P w K mg base CX0 (n + 3 + 1) t.a_l_put t.d_l_put ["_law_heap", "_law_term_here", "_law_known"] (sp_l_put K t.k_Heap (n + 1)) := by
  refine T.F_l_put.ok (k := n + 3) sc_l_put (fun vs H Q E h => ?_) (fun cdv A outer s H vs Q E hr h => ?_)
  · unfold sp_l_put at h
    split at h
    · rfl
    · exact h.elim
  unfold sp_l_put at h
  split at h
  rotate_left
  · exact h.elim
  refine ⟨_, (pss_cons (ps_if (mt_cmp mo_eq (pe_ix (ki_seq K rfl) (mv 1) pe_int (fun _ _ => rfl)) pe_str (nomark _)) (pss_cons (ps_if (mt_cmp (ko_ninD (hu_of hr)) (pe_ix (ki_seq K rfl) (mv 1) pe_int (fun _ _ => rfl)) (mv 2) (by with_unfolding_all rfl)) (pss_one (ps_dput (hu_of hr) (mv 2) (pe_ix (ki_seq K rfl) (mv 1) pe_int (fun _ _ => rfl)) (pe_meth0 (mv 0) T.cl_Heap T.me_Heap_free G_Heap_free (hr.mono (by first | decide | omega)) T.b_Heap_free .nil pass0) rfl)) pss_nil) (pss_one (ps_ret (pe_dget (hu_of hr) (mv 2) (pe_ix (ki_seq K rfl) (mv 1) pe_int (fun _ _ => rfl)) (fun _ _ => rfl))))) pss_nil) (pss_cons (ps_if (mt_cmp mo_eq (pe_ix (ki_seq K rfl) (mv 1) pe_int (fun _ _ => rfl)) pe_str (nomark _)) (pss_one (ps_ret (pe_meth (mv 0) T.cl_Heap T.me_Heap_number G_Heap_number (hr.mono (by first | decide | omega)) T.b_Heap_number .nil pass0 (pa_con (pe_ix (ki_seq K rfl) (mv 1) pe_int (fun _ _ => rfl)) pa_nil)))) pss_nil) (pss_cons (ps_comp (i := 3) sc_l_put.nd rfl (by first | exact Or.inl rfl | exact Or.inr rfl) rfl (kpi_tup K rfl (pe_ix (ki_seq K rfl) (mv 1) pe_int (fun _ _ => rfl))) (comp_sc (defScope s_l_put) ["_law_heap", "_law_term_here", "_law_known", "_law_kids", "_law_found"] ["_law_heap", "_law_term_here", "_law_known", "_law_kids", "_law_found"] rfl rfl (by decide +kernel)) (fun _ _ _ _ _ => pts_nil) (fun _ _ _ _ _ => (pe_call G_l_put (hr.mono (by first | decide | omega)) rfl T.m_l_put T.F_l_put.kp T.b_l_put .nil pass0 (pa_con (mv 1) (pa_con (mv 0) (pa_con (mv 3) pa_nil)))))) (pss_cons (ps_if (mt_cmp mo_eq (pe_op mo_mod (pe_callB (kc_len K rfl) rfl T.n_len PySem.boot_len (pa_con (mv 3) pa_nil)) pe_int) pe_int (nomark _)) (pss_one (ps_ret (pe_meth (mv 0) T.cl_Heap T.me_Heap_app G_Heap_app (hr.mono (by first | decide | omega)) T.b_Heap_app .nil pass0 (pa_con (pe_ix (ki_seq K rfl) (mv 1) pe_int (fun _ _ => rfl)) (pa_con (pe_callTy (kc_tuple K rfl) rfl T.n_tuple boot_tuple (pa_con (mv 3) pa_nil)) pa_nil))))) pss_nil) (pss_cons (ps_set (i := 4) (hs := sw_call) sc_l_put.nd rfl (by first | exact Or.inl rfl | exact Or.inr rfl) (pe_meth (mv 0) T.cl_Heap T.me_Heap_app G_Heap_app (hr.mono (by first | decide | omega)) T.b_Heap_app .nil pass0 (pa_con (pe_ix (ki_seq K rfl) (mv 1) pe_int (fun _ _ => rfl)) (pa_con (mv 3) pa_nil)))) (pss_cons (ps_expr (ke_bm K rfl PySem.F.plainAttrs_list PySem.F.slot_list_append PySem.F.type_list_append mm_append (mv 3) (pa_con (mv 4) pa_nil))) (pss_one (ps_ret (mv 4))))))))), ?_⟩
  rename_i x v d
  obtain ⟨pb, bs, t0, kn, w, hd, hz, hn, ha, hk, ko, hb1, hk1, q⟩ := h
  have tp := t0.size_pos
  obtain ⟨dx, pt, us, ho, hb, hdd⟩ := id w
  walk_at "stp"
  cases t0 with
  | num m =>
    obtain ⟨a, rfl, hs⟩ := den_num hd
    refine mIx_t hs (v := .str numS) rfl ?_
    walk_at "stp"
    refine iteB (fun e => absurd e (by decide +kernel)) (fun e => ?_)
    walk_at "stp"
    refine mIx_t hs (v := .str numS) rfl ?_
    walk_at "stp"
    refine iteB (fun e => ?_) (fun e => absurd e (by decide +kernel))
    walk_at "stp"
    refine ⟨x, dx, _, rfl, ho, fs_no, ?_⟩
    walk_at "stp"
    refine mIx_t hs (v := .int m) rfl ?_
    walk_at "stp"
    refine ⟨pb, bs, w, by omega, fun H' f' w' => ?_⟩
    refine q bs.length [.num m] [] H' f'.pfr w' (by rw [List.append_nil]; exact w.dk f' hk) (by rw [List.append_nil]; exact ko.more _) (by simp [Trm.size]) (by simp) (by rw [vinP]; trivial) ?_
    rw [nm, Rep]
    simp
  | any y =>
    obtain ⟨a, rfl, hs⟩ := den_any hd
    refine mIx_t hs (v := .str anyS) rfl ?_
    walk_at "stp"
    refine iteB (fun e => ?_) (fun e => absurd e (by decide +kernel))
    walk_at "stp"
    have dg : DGet H d (.str y) (valV (encP kn) (Sum.inr y)) := DGet.k (k := Sum.inr y) hk
    rw [val_enc] at dg
    refine mIx_t hs (v := .str y) rfl ?_
    walk_at "stp"
    refine ⟨d, _, rfl, dg, ?_⟩
    walk_at "stp"
    cases hl : lkP kn y with
    | some i0 =>
      rw [hl] at dg
      refine iteB (fun e => absurd e (by simp)) (fun e => ?_)
      walk_at "stp"
      refine mIx_t hs (v := .str y) rfl ?_
      walk_at "stp"
      refine ⟨d, _, rfl, dg, ?_⟩
      walk_at "stp"
      refine q i0 [] [] H (fun _ _ _ _ e => e) (by rw [List.append_nil]; exact w) (by rw [List.append_nil]; exact hk) (by rw [List.append_nil, List.append_nil]; exact ko) (by simp) (by simp) (by rw [vinP, List.append_nil]; exact ⟨_, hl⟩) ?_
      rw [List.append_nil, List.append_nil]
      exact rep_any ko hl
    | none =>
      refine iteB (fun e => ?_) (fun e => absurd e (by simp))
      walk_at "stp"
      refine ⟨x, dx, _, rfl, ho, fs_no, ?_⟩
      walk_at "stp"
      refine ⟨pb, bs, w, by omega, fun H1 f1 w1 => ?_⟩
      walk_at "stp"
      have hs1 := tup_fr hb f1 _ _ hs
      have hk1' := w.dk f1 hk
      refine mIx_t hs1 (v := .str y) rfl ?_
      walk_at "stp"
      refine ⟨d, _, rfl, DPut.k (k := Sum.inr y) hk1' (by rw [lkP_len, sizeLine_eq]; omega), ?_⟩
      rw [put_new hl]
      have f2 : PFr pb d H1 (upd H1 d (.dK (encP (kn ++ [(y, bs.length)])))) := fun b o _ hb2 e => by rw [upd_ne hb2]; exact e
      have k2 : (upd H1 d (.dK (encP (kn ++ [(y, bs.length)])))) d = some (.dK (encP (kn ++ [(y, bs.length)]))) := upd_same
      obtain ⟨dx1, pt1, us1, ho1, hb1', hdd1⟩ := id w1
      have w2 : HS K t.k_Heap (upd H1 d (.dK (encP (kn ++ [(y, bs.length)])))) x pb (bs ++ [.free]) := ⟨dx1, pt1, us1, by rw [upd_ne (fun z => by rw [z, hk1'] at ho1; cases ho1)]; exact ho1, by rw [upd_ne (fun z => by rw [z, hk1'] at hb1'; cases hb1')]; exact hb1', hdd1.monoT (f2.tup hb1' hk1')⟩
      have hs2 := f2.tup hb1' hk1' _ _ hs1
      generalize upd H1 d (.dK (encP (kn ++ [(y, bs.length)]))) = H2 at f2 k2 w2 hs2 ⊢
      have hl2 : lkP (kn ++ [(y, bs.length)]) y = some bs.length := by rw [lk_new hl, if_pos rfl]
      have dg2 : DGet H2 d (.str y) (valV (encP (kn ++ [(y, bs.length)])) (Sum.inr y)) := DGet.k (k := Sum.inr y) k2
      rw [val_enc, hl2] at dg2
      walk_at "stp"
      refine mIx_t hs2 (v := .str y) rfl ?_
      walk_at "stp"
      refine ⟨d, _, rfl, dg2, ?_⟩
      walk_at "stp"
      exact q bs.length [.free] [(y, bs.length)] H2 (f1.pfr.trans f2) w2 k2 (ko.add hl) (by simp [Trm.size]) (by simp [Trm.size]) (by rw [vinP]; exact ⟨_, hl2⟩) (rep_any (ko.add hl) hl2)
  | app s0 ts =>
    obtain ⟨a, b, vs, rfl, hs, hb2, hk2⟩ := den_app hd
    rw [ar4] at ha
    rw [Trm.size] at hz hb1 hk1 q
    have l2 := hk2.length
    rw [Trm.dataL_map, List.length_map] at l2
    refine mIx_t hs (v := .str appS) rfl ?_
    walk_at "stp"
    refine iteB (fun e => absurd e (by decide +kernel)) (fun e => ?_)
    walk_at "stp"
    refine mIx_t hs (v := .str appS) rfl ?_
    walk_at "stp"
    refine iteB (fun e => absurd e (by decide +kernel)) (fun e => ?_)
    walk_at "stp"
    refine mIx_t hs (v := .ref b) rfl ?_
    refine ⟨b, rfl, ⟨_, hb2⟩, fun D hD => ?_⟩
    have nDp : D ≠ pb := fun z => by rw [z, hb] at hD; cases hD
    have nDd : D ≠ d := fun z => by rw [z, hk] at hD; cases hD
    refine comp_row (row_tup (xs := vs)) (fun i ys J => ∃ (ks : List Nat) (bs' : List Bx) (kn' : Kn), ys = nsV ks ∧ J D = some (.lst ys) ∧ PFr pb d H J ∧ HS K t.k_Heap J x pb (bs ++ bs') ∧ J d = some (.dK (encP (kn ++ kn'))) ∧ KnOk (bs ++ bs') (kn ++ kn') ∧ bs'.length ≤ Trm.sizeL (ts.take i) ∧ kn'.length ≤ Trm.sizeL (ts.take i) ∧ vinPL (kn ++ kn') (ts.take i) ∧ RepL (bs ++ bs') ks (nmL (kn ++ kn') (ts.take i))) (ln (by omega)) ⟨[], [], [], rfl, upd_same, PFr.own (fun _ _ _ _ e => e) hD, by rw [List.append_nil]; exact w.same (same_new hD _), by rw [List.append_nil, upd_ne (Ne.symm nDd)]; exact hk, by rw [List.append_nil, List.append_nil]; exact ko, by simp, by simp, by rw [List.take_zero, vinPL]; trivial, by rw [List.take_zero, nmL, RepL]⟩ (fun i ys J hP => by obtain ⟨_, _, _, _, _, f, _⟩ := hP; exact f.tup hb hk _ _ hb2) (fun i ys J Q' hi' hl' hP k => ?_) (fun ys J hl' hP => ?_)
    · obtain ⟨ks, bs', kn', rfl, g1, g2, g3, g4, g5, g6, g7, g8, g9⟩ := hP
      have hti : i < ts.length := by omega
      have hx : vs[i]? = some vs[i] := List.getElem?_eq_getElem hi'
      have hg : vs.getD i .non = vs[i] := by rw [List.getD_eq_getElem?_getD, hx]; rfl
      obtain ⟨dd, e1, e2⟩ := hk2.get hx
      rw [Trm.dataL_map, List.getElem?_map, List.getElem?_eq_getElem hti] at e1
      have e1 : ts[i].data = dd := Option.some.inj e1
      subst e1
      have lz := size_get (List.getElem?_eq_getElem hti)
      have tz := take_sz hti
      have tl := take_le ts (i + 1)
      walk_at "stp"
      rw [hg]
      refine ⟨pb, bs ++ bs', ts[i], kn ++ kn', g3, e2.monoT (g2.tup hb hk), by omega, by omega, ar4L_iff.mp ha.2 _ (List.getElem_mem hti), g4, g5, by rw [List.length_append]; omega, by rw [List.length_append]; omega, fun a2 bs2 kn2 J2 f2 w2 k2 ko2 b2 n2 v2 r2 => ?_⟩
      rw [List.append_assoc] at w2
      rw [List.append_assoc] at k2
      rw [List.append_assoc, List.append_assoc] at ko2
      rw [List.append_assoc] at v2
      rw [List.append_assoc, List.append_assoc] at r2
      have hD2 := f2 _ _ nDp nDd g1
      refine k _ _ hD2 ⟨ks ++ [a2], bs' ++ bs2, kn' ++ kn2, by rw [nsV, nsV, List.map_append]; rfl, upd_same, PFr.own (g2.trans f2) hD, w2.updD hD2 nDp, by rw [upd_ne (Ne.symm nDd)]; exact k2, ko2, by rw [List.length_append]; omega, by rw [List.length_append]; omega, ?_, ?_⟩
      · rw [take_one hti, vinPL_iff]
        intro t ht
        rcases List.mem_append.mp ht with z | z
        · rw [← List.append_assoc]; exact vin_app kn2 (vinPL_iff.mp g8 t z)
        · rw [List.mem_singleton.mp z]; exact v2
      · rw [take_one hti, nmL_map, List.map_append, ← nmL_map]
        refine RepL.app (RepL.one r2) ?_
        rw [← List.append_assoc, ← List.append_assoc, nmL_app kn2 g8]
        exact g9.more bs2
    obtain ⟨ks, bs', kn', rfl, g1, g2, g3, g4, g5, g6, g7, g8, g9⟩ := hP
    rw [l2, List.take_length] at g6 g7 g8 g9
    have lk := g9.len
    rw [nmL_map, List.length_map] at lk
    have fin : ∀ J1, PFr pb d H J1 → HS K t.k_Heap J1 x pb (bs ++ bs' ++ [.app s0 ks]) → J1 d = some (.dK (encP (kn ++ kn'))) → Q (.int ((bs ++ bs').length : Int)) J1 := fun J1 f1 w1 k1 => by
      refine q (bs ++ bs').length (bs' ++ [.app s0 ks]) kn' J1 f1 (by rw [← List.append_assoc]; exact w1) k1 (by rw [← List.append_assoc]; exact g5.more _) (by rw [List.length_append, List.length_singleton]; omega) (by omega) (by rw [vinP]; exact g8) ?_
      rw [nm, Rep, ← List.append_assoc]
      exact ⟨ks, by simp, by omega, g9.more _⟩
    obtain ⟨dx3, pt3, us3, ho3, hb3, hdd3⟩ := id g3
    have hs3 := g2.tup hb hk _ _ hs
    have lbs : (bs ++ bs').length ≤ 900 := by rw [List.length_append]; omega
    walk_at "stp"
    refine mLen_l (SqL.of g1) ?_
    walk_at "stp"
    refine iteB (fun e => ?_) (fun e => ?_)
    · walk_at "stp"
      refine ⟨x, dx3, _, rfl, ho3, fs_no, ?_⟩
      walk_at "stp"
      refine mIx_t hs3 (v := .str s0) rfl ?_
      walk_at "stp"
      refine mTup_l (SqL.of g1) (fun p1 hp1 => ?_)
      have s4 := same_new hp1 (.tup (nsV ks))
      have k4 : (upd J p1 (.tup (nsV ks))) p1 = some (.tup (nsV ks)) := upd_same
      generalize upd J p1 (.tup (nsV ks)) = J4 at s4 k4 ⊢
      walk_at "stp"
      exact ⟨pb, bs ++ bs', ks, g3.same s4, lbs, by omega, .inr (SqT.of k4), fun J5 f5 w5 => fin J5 (g2.trans ((PFr.of s4).trans f5.pfr)) w5 ((g3.same s4).dk f5 (s4 _ _ g4))⟩
    · walk_at "stp"
      refine ⟨x, dx3, _, rfl, ho3, fs_no, ?_⟩
      walk_at "stp"
      refine mIx_t hs3 (v := .str s0) rfl ?_
      walk_at "stp"
      refine ⟨pb, bs ++ bs', ks, g3, lbs, by omega, .inl (SqL.of g1), fun J5 f5 w5 => ?_⟩
      have hD5 := f5 _ _ nDp g1
      walk_at "stp"
      refine ⟨.inl ⟨rfl, _, SqL.of hD5⟩, ?_⟩
      walk_at "stp"
      refine mAppend_i hD5 (ln1 (by rw [nsV, List.length_map]; omega)) ?_
      walk_at "stp"
      exact fin _ (PFr.own (g2.trans f5.pfr) hD) (w5.updD hD5 nDp) (by rw [upd_ne (Ne.symm nDd)]; exact g3.dk f5 g4)
theorem ok_l_put (T : Txt K mg t) (G_Heap_app : FnOk P w K mg base CX0 2 t.a_Heap_app t.d_Heap_app ["self", "sign", "kids"] (sp_Heap_app K t.k_Heap)) (G_Heap_number : FnOk P w K mg base CX0 2 t.a_Heap_number t.d_Heap_number ["self", "n"] (sp_Heap_number K t.k_Heap)) (G_Heap_free : FnOk P w K mg base CX0 2 t.a_Heap_free t.d_Heap_free ["self"] (sp_Heap_free K t.k_Heap)) (n : Nat) : FnOk P w K mg base CX0 (n + 3) t.a_l_put t.d_l_put ["_law_heap", "_law_term_here", "_law_known"] (sp_l_put K t.k_Heap n) := by
  induction n with
  | zero =>
    have no : ∀ vs H Q E, (sp_l_put K t.k_Heap 0) vs H Q E → False := fun vs H Q E h => by
      unfold sp_l_put at h
      split at h
      · exact no_l_put h
      · exact h
    exact ⟨fun vs H Q E h => (no vs H Q E h).elim, fun A outer s H args us vs Q E _ _ _ _ h => (no vs H Q E h).elim⟩
  | succ n ih =>
    have e : n + 1 + 3 = n + 3 + 1 := by omega
    rw [e]
    exact st_l_put T G_Heap_app G_Heap_number G_Heap_free n ih
end
section
variable {P : Program} {w : World} {K : PySem.W.Frag} {mg : Str → Option Value} {base : Heap} {t : Ad}
theorem st_l_read (T : Txt K mg t)  (n : Nat) (G_l_read : FnOk P w K mg base CX0 (n + 1) t.a_l_read t.d_l_read ["_law_term_here", "_law_known"] (sp_l_read K n)) : FnOk P w K mg base CX0 (n + 1 + 1) t.a_l_read t.d_l_read ["_law_term_here", "_law_known"] (sp_l_read K (n + 1)) := by
  refine T.F_l_read.ok (k := n + 1) sc_l_read (fun vs H Q E h => ?_) (fun cdv A outer s H vs Q E hr h => ?_)
  · unfold sp_l_read at h
    split at h
    · rfl
    · exact h.elim
  unfold sp_l_read at h
  split at h
  rotate_left
  · exact h.elim
  refine ⟨_, (pss_cons (ps_if (mt_cmp mo_eq (pe_ix (ki_seq K rfl) (mv 0) pe_int (fun _ _ => rfl)) pe_str (nomark _)) (pss_one (ps_ret (pe_tup (pa_con pe_str (pa_con (pe_op (ko_add K rfl) pe_str (pe_callTy mc_str rfl T.n_str boot_str (pa_con (pe_dget (hu_of hr) (mv 1) (pe_ix (ki_seq K rfl) (mv 0) pe_int (fun _ _ => rfl)) (fun _ _ => rfl)) pa_nil))) pa_nil))))) pss_nil) (pss_cons (ps_if (mt_cmp mo_eq (pe_ix (ki_seq K rfl) (mv 0) pe_int (fun _ _ => rfl)) pe_str (nomark _)) (pss_one (ps_ret (mv 0))) pss_nil) (pss_one (ps_ret (pe_tup (pa_con pe_str (pa_con (pe_ix (ki_seq K rfl) (mv 0) pe_int (fun _ _ => rfl)) (pa_con (pe_callTy (kc_tuple K rfl) rfl T.n_tuple boot_tuple (pa_con (pe_comp rfl (kpi_tup K rfl (pe_ix (ki_seq K rfl) (mv 0) pe_int (fun _ _ => rfl))) (comp_sc (defScope s_l_read) ["_law_term_here", "_law_known"] ["_law_term_here", "_law_known"] rfl rfl (by decide +kernel)) (fun _ _ _ _ _ => pts_nil) (fun _ _ _ _ _ => (pe_call G_l_read (hr.mono (by first | decide | omega)) rfl T.m_l_read T.F_l_read.kp T.b_l_read .nil pass0 (pa_con (mv 0) (pa_con (mv 2) pa_nil))))) pa_nil)) pa_nil)))))))), ?_⟩
  rename_i v d
  obtain ⟨t0, kn, hd, hz, hn, hk, hv, hs9, q⟩ := h
  walk_at "stp"
  cases t0 with
  | num m =>
    obtain ⟨a, rfl, hs⟩ := den_num hd
    refine mIx_t hs (v := .str numS) rfl ?_
    walk_at "stp"
    refine iteB (fun e => absurd e (by decide +kernel)) (fun e => ?_)
    walk_at "stp"
    refine mIx_t hs (v := .str numS) rfl ?_
    walk_at "stp"
    refine iteB (fun e => ?_) (fun e => absurd e (by decide +kernel))
    walk_at "stp"
    exact q _ _ (Same.refl _) (by rw [nm]; exact hd)
  | any y =>
    obtain ⟨a, rfl, hs⟩ := den_any hd
    rw [vinP] at hv
    obtain ⟨i0, hl⟩ := hv
    have dg : DGet H d (.str y) (valV (encP kn) (Sum.inr y)) := DGet.k (k := Sum.inr y) hk
    rw [val_enc, hl] at dg
    refine mIx_t hs (v := .str anyS) rfl ?_
    walk_at "stp"
    refine iteB (fun e => ?_) (fun e => absurd e (by decide +kernel))
    walk_at "stp"
    refine mIx_t hs (v := .str y) rfl ?_
    walk_at "stp"
    refine ⟨d, _, rfl, dg, ?_⟩
    obtain ⟨z1, z2⟩ := int_short (i := (i0 : Int)) (by omega) (by have := hs9 y i0 hl; omega)
    walk_at "stp"
    refine ⟨z1, ?_⟩
    walk_at "stp"
    refine mAdd_s (ln (by show (Str.ofString "B").length + (Str.ofString (toString (i0 : Int))).length ≤ 100000; rw [show (Str.ofString "B").length = 1 by decide +kernel]; omega)) ?_
    walk_at "stp"
    refine ⟨ln (by show 2 ≤ 100000; decide), fun p1 hp1 => ?_⟩
    refine q _ _ (same_new hp1 _) ?_
    rw [nm, hl]
    exact any_den (SqT.of upd_same)
  | app s0 ts =>
    obtain ⟨a, b, vs, rfl, hs, hb2, hk2⟩ := den_app hd
    rw [vinP] at hv
    rw [Trm.size] at hz
    have l2 := hk2.length
    rw [Trm.dataL_map, List.length_map] at l2
    have l3 := Trm.len_le ts
    refine mIx_t hs (v := .str appS) rfl ?_
    walk_at "stp"
    refine iteB (fun e => absurd e (by decide +kernel)) (fun e => ?_)
    walk_at "stp"
    refine mIx_t hs (v := .str appS) rfl ?_
    walk_at "stp"
    refine iteB (fun e => absurd e (by decide +kernel)) (fun e => ?_)
    walk_at "stp"
    refine mIx_t hs (v := .str s0) rfl ?_
    walk_at "stp"
    refine mIx_t hs (v := .ref b) rfl ?_
    refine ⟨b, rfl, ⟨_, hb2⟩, fun D hD => ?_⟩
    refine comp_row (row_tup (xs := vs)) (fun i ys J => Same H J ∧ DenL K J ys (Trm.dataL (nmL kn (ts.take i))) ∧ J D = some (.lst ys)) (ln (by omega)) ⟨same_new hD _, by rw [List.take_zero, nmL]; exact .nil, upd_same⟩ (fun i ys J hP => hP.1.tup hb2) (fun i ys J Q' hi' hl' hP k => ?_) (fun ys J hl' hP => ?_)
    · obtain ⟨g1, g2, g3⟩ := hP
      have hti : i < ts.length := by omega
      have hx : vs[i]? = some vs[i] := List.getElem?_eq_getElem hi'
      have hg : vs.getD i .non = vs[i] := by rw [List.getD_eq_getElem?_getD, hx]; rfl
      obtain ⟨dd, e1, e2⟩ := hk2.get hx
      rw [Trm.dataL_map, List.getElem?_map, List.getElem?_eq_getElem hti] at e1
      have e1 : ts[i].data = dd := Option.some.inj e1
      subst e1
      have lz := size_get (List.getElem?_eq_getElem hti)
      walk_at "stp"
      rw [hg]
      refine ⟨ts[i], kn, e2.mono g1, by omega, by omega, g1 _ _ hk, vinPL_iff.mp hv _ (List.getElem_mem hti), hs9, fun v' J2 s2 d2 => ?_⟩
      refine k _ _ (s2 _ _ g3) ⟨same_upd (g1.trans s2) hD, ?_, upd_same⟩
      rw [take_one hti, nmL_map, List.map_append, ← nmL_map, Trm.dataL_map, List.map_append, ← Trm.dataL_map]
      exact ((g2.mono s2).append (.cons d2 .nil)).lst (s2 _ _ g3)
    obtain ⟨g1, g2, g3⟩ := hP
    rw [l2, List.take_length] at g2
    walk_at "stp"
    refine mTup_l (SqL.of g3) (fun p1 hp1 => ?_)
    have s4 := same_new hp1 (.tup ys)
    have k4 : (upd J p1 (.tup ys)) p1 = some (.tup ys) := upd_same
    generalize upd J p1 (.tup ys) = J4 at s4 k4 ⊢
    walk_at "stp"
    refine ⟨ln (by show 3 ≤ 100000; decide), fun p2 hp2 => ?_⟩
    have s5 := same_new hp2 (.tup [.str appS, .str s0, .ref p1])
    refine q _ _ (g1.trans (s4.trans s5)) ?_
    rw [nm]
    exact app_den (SqT.of upd_same) (SqT.of (s5 _ _ k4)) (g2.mono (s4.trans s5))
theorem ok_l_read (T : Txt K mg t)  (n : Nat) : FnOk P w K mg base CX0 (n + 1) t.a_l_read t.d_l_read ["_law_term_here", "_law_known"] (sp_l_read K n) := by
  induction n with
  | zero =>
    have no : ∀ vs H Q E, (sp_l_read K 0) vs H Q E → False := fun vs H Q E h => by
      unfold sp_l_read at h
      split at h
      · exact no_l_read h
      · exact h
    exact ⟨fun vs H Q E h => (no vs H Q E h).elim, fun A outer s H args us vs Q E _ _ _ _ h => (no vs H Q E h).elim⟩
  | succ n ih =>
    have e : n + 1 + 1 = n + 1 + 1 := by omega
    rw [e]
    exact st_l_read T  n ih
theorem ok_l_parts_right (T : Txt K mg t) (G_Heap_parts : FnOk P w K mg base CX0 3 t.a_Heap_parts t.d_Heap_parts ["self", "at", "most"] (sp_Heap_parts K t.k_Heap)) (G_l_whole : FnOk P w K mg base CX0 1 t.a_l_whole t.d_l_whole ["_law_found"] (sp_l_whole)) : FnOk P w K mg base CX0 4 t.a_l_parts_right t.d_l_parts_right ["_law_heap", "_law_at", "_law_size", "_law_most"] (sp_l_parts_right K t.k_Heap) := by
  refine T.F_l_parts_right.ok sc_l_parts_right (fun vs H Q E h => ?_) (fun cdv A outer s H vs Q E hr h => ?_)
  · unfold sp_l_parts_right at h
    split at h
    · rfl
    · exact h.elim
  unfold sp_l_parts_right at h
  split at h
  rotate_left
  · exact h.elim
  refine ⟨_, (pss_cons (ps_set (i := 4) (hs := sw_call) sc_l_parts_right.nd rfl (by first | exact Or.inl rfl | exact Or.inr rfl) (pe_meth (mv 0) T.cl_Heap T.me_Heap_parts G_Heap_parts (hr.mono (by first | decide | omega)) T.b_Heap_parts .nil pass0 (pa_con (mv 1) (pa_con (mv 3) pa_nil)))) (pss_one (ps_ret (me_and (pe_call G_l_whole (hr.mono (by first | decide | omega)) rfl T.m_l_whole T.F_l_whole.kp T.b_l_whole .nil pass0 (pa_con (mv 4) pa_nil)) (pe_one (pe_cmpR mo_eq (mv 4) (pe_callB (mc_min rfl) rfl T.n_min boot_min (pa_con (mv 2) (pa_con (pe_op (ko_add K rfl) (mv 3) pe_int) pa_nil))) (nomark _))))))), ?_⟩
  rename_i x a z m
  obtain ⟨pb, bs, n, mm, t0, w, rfl, rfl, rfl, hm, hR, q⟩ := h
  obtain ⟨dx, pt, us, ho, hb, hdd⟩ := id w
  walk_at "stp"
  refine ⟨x, dx, _, rfl, ho, fs_no, ?_⟩
  walk_at "stp"
  refine ⟨pb, bs, n, mm, t0, w, rfl, rfl, hm, hR, fun H1 s1 => ?_⟩
  walk_at "stp"
  refine iteT ?_
  walk_at "stp"
  have e : ((min t0.size (mm + 1) : Nat) : Int) = (if (mm : Int) + 1 < (t0.size : Int) then (mm : Int) + 1 else (t0.size : Int)) := by split <;> omega
  rw [decide_eq_true e]
  exact q H1 s1
end
section
variable {P : Program} {w : World} {K : PySem.W.Frag} {mg : Str → Option Value} {base : Heap} {t : Ad}
noncomputable def tn (n : Nat) : Str := ⟨(figsOf n).toArray⟩
theorem figs_inj : ∀ (m n : Nat), figsOf m = figsOf n → m = n := by
  intro m
  induction m using Nat.strongRecOn with
  | ind m ih =>
    intro n h
    by_cases hm : m < 10
    · by_cases hn : n < 10
      · rw [figs_lt hm, figs_lt hn] at h
        have : 48 + m = 48 + n := by simpa using h
        omega
      · rw [figs_lt hm, figs_ge (by omega)] at h
        have e := congrArg List.length h
        obtain ⟨_, x, r, e2, _⟩ := figs_ok (n / 10)
        rw [e2] at e
        simp at e
    · by_cases hn : n < 10
      · rw [figs_lt hn, figs_ge (by omega)] at h
        have e := congrArg List.length h
        obtain ⟨_, x, r, e2, _⟩ := figs_ok (m / 10)
        rw [e2] at e
        simp at e
      · rw [figs_ge (by omega : 10 ≤ m), figs_ge (by omega : 10 ≤ n)] at h
        obtain ⟨e1, e2⟩ := List.append_inj' h rfl
        have e3 := ih (m / 10) (by omega) _ e1
        have e4 : 48 + m % 10 = 48 + n % 10 := by simpa using e2
        omega
theorem tn_inj {m n : Nat} (h : tn m = tn n) : m = n := by
  have : (figsOf m).toArray = (figsOf n).toArray := congrArg Str.cps h
  exact figs_inj m n (by simpa using congrArg Array.toList this)
theorem str_left {a x y : Str} (h : a ++ x = a ++ y) : x = y := by
  have : a.cps ++ x.cps = a.cps ++ y.cps := congrArg Str.cps h
  have := congrArg Array.toList this
  rw [Array.toList_append, Array.toList_append] at this
  exact Str.ext' (Array.ext' (List.append_cancel_left this))
theorem bnm_inj {a b : Nat} (h : bnm a = bnm b) : a = b := by
  have h := str_left (show Str.ofString "B" ++ Str.ofString (toString (a : Int)) = Str.ofString "B" ++ Str.ofString (toString (b : Int)) from h)
  have h2 : tn a = tn b := by
    have e1 := figs_str a
    have e2 := figs_str b
    exact e1.symm.trans (h.trans e2)
  exact tn_inj h2
theorem slT2 {K : PySem.W.Frag} {H : Hp} {a : Addr} {x y z : V} {Q : VK} (h : SqT K H a [x, y, z]) (k : ∀ p, H p = none → Q (.ref p) (upd H p (.tup [x, y]))) : mSlT K (.ref a) none (some 2) H Q :=
  ⟨a, _, rfl, h, fun w => absurd w.2 (show ¬ HT.sIx 3 3 (some 2) = 3 by decide), fun _ p hp => k p hp⟩
theorem st_l_seen (T : Txt K mg t) (G_Heap_look : FnOk P w K mg base CX0 2 t.a_Heap_look t.d_Heap_look ["self", "at"] (sp_Heap_look K t.k_Heap)) (G_l_whole : FnOk P w K mg base CX0 1 t.a_l_whole t.d_l_whole ["_law_found"] (sp_l_whole)) (n : Nat) (G_l_seen : FnOk P w K mg base CX0 (n + 3) t.a_l_seen t.d_l_seen ["_law_heap", "_law_at", "_law_term_here", "_law_known"] (sp_l_seen K t.k_Heap n)) : FnOk P w K mg base CX0 (n + 3 + 1) t.a_l_seen t.d_l_seen ["_law_heap", "_law_at", "_law_term_here", "_law_known"] (sp_l_seen K t.k_Heap (n + 1)) := by
  refine T.F_l_seen.ok (k := n + 3) sc_l_seen (fun vs H Q E h => ?_) (fun cdv A outer s H vs Q E hr h => ?_)
  · unfold sp_l_seen at h
    split at h
    · rfl
    · exact h.elim
  unfold sp_l_seen at h
  split at h
  rotate_left
  · exact h.elim
  refine ⟨_, (pss_cons (ps_if (PW.pt (pw_or (pt_not (kt_tru K rfl (pe_call G_l_whole (hr.mono (by first | decide | omega)) rfl T.m_l_whole T.F_l_whole.kp T.b_l_whole .nil pass0 (pa_con (mv 1) pa_nil)))) (pw_or1 (mt_cmp mo_lt (mv 1) pe_int (nomark _))))) (pss_one (ps_ret pe_bl)) pss_nil) (pss_cons (ps_set (i := 4) (hs := sw_call) sc_l_seen.nd rfl (by first | exact Or.inl rfl | exact Or.inr rfl) (pe_meth (mv 0) T.cl_Heap T.me_Heap_look G_Heap_look (hr.mono (by first | decide | omega)) T.b_Heap_look .nil pass0 (pa_con (mv 1) pa_nil))) (pss_cons (ps_if (pt_not (kt_tru K rfl (pe_callB (kc_is K rfl) rfl T.n_isinstance boot_isinstance (pa_con (mv 4) (pa_con (pe_bty rfl T.n_tuple boot_tuple) pa_nil))))) (pss_one (ps_ret pe_bl)) pss_nil) (pss_cons (ps_if (mt_cmp mo_eq (pe_ix (ki_seq K rfl) (mv 2) pe_int (fun _ _ => rfl)) pe_str (nomark _)) (pss_one (ps_ret (me_and (pe_cmpR (ko_eqD K rfl (room150 hr)) (mv 4) (pe_tup (pa_con pe_str (pa_con (pe_dget (hu_of hr) (mv 3) (pe_ix (ki_seq K rfl) (mv 2) pe_int (fun _ _ => rfl)) (fun _ _ => rfl)) pa_nil))) (nomark _)) (pe_one (pe_cmpR mo_eq (mv 1) (pe_dget (hu_of hr) (mv 3) (pe_ix (ki_seq K rfl) (mv 2) pe_int (fun _ _ => rfl)) (fun _ _ => rfl)) (nomark _)))))) pss_nil) (pss_cons (ps_if (mt_cmp mo_eq (pe_ix (ki_seq K rfl) (mv 2) pe_int (fun _ _ => rfl)) pe_str (nomark _)) (pss_one (ps_ret (me_and (pe_cmpR (ko_eqD K rfl (room150 hr)) (mv 4) (mv 2) (nomark _)) (pe_one (pe_call G_l_whole (hr.mono (by first | decide | omega)) rfl T.m_l_whole T.F_l_whole.kp T.b_l_whole .nil pass0 (pa_con (pe_ix (ki_seq K rfl) (mv 4) pe_int (fun _ _ => rfl)) pa_nil)))))) pss_nil) (pss_cons (ps_if (PW.pt (pw_or (mt_cmp mo_ne (pe_callB (kc_len K rfl) rfl T.n_len PySem.boot_len (pa_con (mv 4) pa_nil)) pe_int (nomark _)) (pw_or (mt_cmp (ko_neD K rfl (room150 hr)) (pe_slice (ks_tup K rfl) (mv 4) po_none (mp_some pe_int)) (pe_slice (ks_tup K rfl) (mv 2) po_none (mp_some pe_int)) (nomark _)) (pw_or (pt_not (kt_tru K rfl (pe_callB (kc_is K rfl) rfl T.n_isinstance boot_isinstance (pa_con (pe_ix (ki_seq K rfl) (mv 4) pe_int (fun _ _ => rfl)) (pa_con (pe_bty rfl T.n_tuple boot_tuple) pa_nil))))) (pw_or1 (mt_cmp mo_ne (pe_callB (kc_len K rfl) rfl T.n_len PySem.boot_len (pa_con (pe_ix (ki_seq K rfl) (mv 4) pe_int (fun _ _ => rfl)) pa_nil)) (pe_callB (kc_len K rfl) rfl T.n_len PySem.boot_len (pa_con (pe_ix (ki_seq K rfl) (mv 2) pe_int (fun _ _ => rfl)) pa_nil)) (nomark _))))))) (pss_one (ps_ret pe_bl)) pss_nil) (pss_cons (ps_for PassesOwn.never rfl (pi_range1 rfl T.n_range (pa_con (pe_callB (kc_len K rfl) rfl T.n_len PySem.boot_len (pa_con (pe_ix (ki_seq K rfl) (mv 2) pe_int (fun _ _ => rfl)) pa_nil)) pa_nil)) (pg_name (i := 5) sc_l_seen.nd rfl (by first | exact Or.inl rfl | exact Or.inr rfl)) (pss_one (ps_if (pt_not (kt_tru K rfl (pe_call G_l_seen (hr.mono (by first | decide | omega)) rfl T.m_l_seen T.F_l_seen.kp T.b_l_seen .nil pass0 (pa_con (mv 0) (pa_con (pe_ix (ki_seq K rfl) (pe_ix (ki_seq K rfl) (mv 4) pe_int (fun _ _ => rfl)) (mv 5) (fun _ _ => rfl)) (pa_con (pe_ix (ki_seq K rfl) (pe_ix (ki_seq K rfl) (mv 2) pe_int (fun _ _ => rfl)) (mv 5) (fun _ _ => rfl)) (pa_con (mv 3) pa_nil))))))) (pss_one (ps_ret pe_bl)) pss_nil))) (pss_one (ps_ret pe_bl))))))))), ?_⟩
  rename_i x a v d
  obtain ⟨pb, bs, i0, t0, kn, w, rfl, hd, hz, hn, hk, hv, ko, hR, q⟩ := h
  obtain ⟨dx, pt, us, ho, hb, hdd⟩ := id w
  walk_at "stp"
  refine iteF ?_
  walk_at "stp"
  refine iteB (fun e => by have := of_decide_eq_true e; omega) (fun e => ?_)
  walk_at "stp"
  refine ⟨x, dx, _, rfl, ho, fs_no, ?_⟩
  walk_at "stp"
  cases t0 with
  | num m =>
    rw [nm, Rep] at hR
    refine ⟨pb, bs, i0, .num m, w, rfl, hR, fun v' H1 s1 d1 => ?_⟩
    obtain ⟨a', rfl, hs1⟩ := den_num (n := m) d1
    obtain ⟨a, rfl, hs⟩ := den_num hd
    have hs := s1.tup hs
    walk_at "stp"
    refine is_tup hs1 ?_
    walk_at "stp"
    refine iteF ?_
    walk_at "stp"
    refine mIx_t hs (v := .str numS) rfl ?_
    walk_at "stp"
    refine iteB (fun e => absurd e (by decide +kernel)) (fun e => ?_)
    walk_at "stp"
    refine mIx_t hs (v := .str numS) rfl ?_
    walk_at "stp"
    refine iteB (fun e => ?_) (fun e => absurd e (by decide +kernel))
    walk_at "stp"
    refine ⟨a', a, _, _, [.str numS, .int m], rfl, rfl, .inl ⟨hs1, hs⟩, .cons (.str _) (.cons (.int _) .nil), .cons (.str _) (.cons (.int _) .nil), by simp [PyData.depthAll, PyData.depth], ?_⟩
    walk_at "stp"
    refine iteT ?_
    walk_at "stp"
    refine mIx_t hs1 (v := .int m) rfl ?_
    walk_at "stp"
    exact q H1 s1
  | any y =>
    rw [vinP] at hv
    obtain ⟨j0, hl⟩ := hv
    rw [nm, Rep, hl] at hR
    obtain ⟨hR, e9⟩ := hR
    have e9 : j0 = i0 := bnm_inj e9
    subst e9
    refine ⟨pb, bs, j0, .free, w, rfl, hR, fun v' H1 s1 d1 => ?_⟩
    obtain ⟨a', rfl, hs1⟩ := den_seenf d1
    obtain ⟨a, rfl, hs⟩ := den_any hd
    have hs := s1.tup hs
    have dg : ∀ H', Same H H' → DGet H' d (.str y) (some (.int (j0 : Int))) := fun H' s' => by
      have dg : DGet H' d (.str y) (valV (encP kn) (Sum.inr y)) := DGet.k (k := Sum.inr y) (s' _ _ hk)
      rw [val_enc, hl] at dg
      exact dg
    walk_at "stp"
    refine is_tup hs1 ?_
    walk_at "stp"
    refine iteF ?_
    walk_at "stp"
    refine mIx_t hs (v := .str anyS) rfl ?_
    walk_at "stp"
    refine iteB (fun e => ?_) (fun e => absurd e (by decide +kernel))
    walk_at "stp"
    refine mIx_t hs (v := .str y) rfl ?_
    walk_at "stp"
    refine ⟨d, _, rfl, dg _ s1, ?_⟩
    walk_at "stp"
    refine ⟨ln (by show 2 ≤ 100000; decide), fun p2 hp2 => ?_⟩
    have sp2 : Same H1 (upd H1 p2 (.tup [.str (Str.ofString "free"), .int (j0 : Int)])) := same_new hp2 _
    have kp2 : (upd H1 p2 (.tup [.str (Str.ofString "free"), .int (j0 : Int)])) p2 = some (.tup [.str (Str.ofString "free"), .int (j0 : Int)]) := upd_same
    generalize upd H1 p2 (.tup [.str (Str.ofString "free"), .int (j0 : Int)]) = H2 at sp2 kp2 ⊢
    walk_at "stp"
    refine ⟨a', p2, _, _, [.str freeS, .int j0], rfl, rfl, .inl ⟨sp2.tup hs1, SqT.of kp2⟩, .cons (.str _) (.cons (.int _) .nil), .cons (.str _) (.cons (.int _) .nil), by simp [PyData.depthAll, PyData.depth], ?_⟩
    walk_at "stp"
    refine iteT ?_
    walk_at "stp"
    refine mIx_t (sp2.tup hs) (v := .str y) rfl ?_
    walk_at "stp"
    refine ⟨d, _, rfl, dg _ (s1.trans sp2), ?_⟩
    walk_at "stp"
    rw [decide_eq_true rfl]
    exact q H2 (s1.trans sp2)
  | app s0 ts =>
    rw [nm, Rep] at hR
    obtain ⟨ks, e6, l6, r6⟩ := hR
    refine ⟨pb, bs, i0, .app s0 ks, w, rfl, e6, fun v' H1 s1 d1 => ?_⟩
    obtain ⟨a', b', rfl, hs1, hs1'⟩ := den_bapp d1
    obtain ⟨a, b, vs, rfl, hs, hb2, hk2⟩ := den_app hd
    have hs := s1.tup hs
    have hb2 := s1.tup hb2
    have hk2 := hk2.mono s1
    rw [vinP] at hv
    rw [Trm.size] at hz
    have l2 := hk2.length
    rw [Trm.dataL_map, List.length_map] at l2
    have l3 := r6.len
    rw [nmL_map, List.length_map] at l3
    walk_at "stp"
    refine is_tup hs1 ?_
    walk_at "stp"
    refine iteF ?_
    walk_at "stp"
    refine mIx_t hs (v := .str appS) rfl ?_
    walk_at "stp"
    refine iteB (fun e => absurd e (by decide +kernel)) (fun e => ?_)
    walk_at "stp"
    refine mIx_t hs (v := .str appS) rfl ?_
    walk_at "stp"
    refine iteB (fun e => absurd e (by decide +kernel)) (fun e => ?_)
    walk_at "stp"
    refine mLen_t hs1 ?_
    walk_at "stp"
    refine iteB (fun e => absurd e (by simp)) (fun e => ?_)
    walk_at "stp"
    refine slT2 hs1 (fun p3 hp3 => ?_)
    have s3 := same_new hp3 (.tup [.str appS, .str s0])
    have k3 : (upd H1 p3 (.tup [.str appS, .str s0])) p3 = some (.tup [.str appS, .str s0]) := upd_same
    generalize upd H1 p3 (.tup [.str appS, .str s0]) = H3 at s3 k3 ⊢
    walk_at "stp"
    refine slT2 (s3.tup hs) (fun p4 hp4 => ?_)
    have s4 := same_new hp4 (.tup [.str appS, .str s0])
    have k4 : (upd H3 p4 (.tup [.str appS, .str s0])) p4 = some (.tup [.str appS, .str s0]) := upd_same
    generalize upd H3 p4 (.tup [.str appS, .str s0]) = H4 at s4 k4 ⊢
    have s34 := s3.trans s4
    have s14 := s1.trans s34
    have hs1 := s34.tup hs1
    have hs1' := s34.tup hs1'
    have hs := s34.tup hs
    have hb2 := s34.tup hb2
    have hk2 := hk2.mono s34
    walk_at "stp"
    refine ⟨p3, p4, _, _, [.str appS, .str s0], rfl, rfl, .inl ⟨SqT.of (s4 _ _ k3), SqT.of k4⟩, .cons (.str _) (.cons (.str _) .nil), .cons (.str _) (.cons (.str _) .nil), by simp [PyData.depthAll, PyData.depth], ?_⟩
    walk_at "stp"
    refine iteF ?_
    walk_at "stp"
    refine mIx_t hs1 (v := .ref b') rfl ?_
    walk_at "stp"
    refine is_tup hs1' ?_
    walk_at "stp"
    refine iteF ?_
    walk_at "stp"
    refine mIx_t hs1 (v := .ref b') rfl ?_
    walk_at "stp"
    refine mLen_t hs1' ?_
    walk_at "stp"
    refine mIx_t hs (v := .ref b) rfl ?_
    walk_at "stp"
    refine mLen_t hb2 ?_
    walk_at "stp"
    refine iteB (fun e => absurd e (by simp [nsV]; omega)) (fun e => ?_)
    walk_at "stp"
    refine mIx_t hs (v := .ref b) rfl ?_
    walk_at "stp"
    refine mLen_t hb2 ?_
    walk_at "stp"
    refine ⟨(vs.length : Int), rfl, by omega, by omega, ?_⟩
    have wk := w.same s14
    refine for_row (row_range 0 vs.length) (fun i σ' J => ∃ o5 : Option V, σ' = [some (.ref x), some (.int (i0 : Int)), some (.ref a), some (.ref d), some (.ref a'), o5] ∧ Same H4 J) ⟨none, rfl, Same.refl _⟩ (fun _ _ _ _ => trivial) (fun i σ' J hi hP => ?_) (fun σ' J hP => ?_)
    · obtain ⟨o5, rfl, s5⟩ := hP
      have hti : i < ts.length := by omega
      have hx : vs[i]? = some vs[i] := List.getElem?_eq_getElem hi
      obtain ⟨dd, e1, e2⟩ := hk2.get hx
      rw [Trm.dataL_map, List.getElem?_map, List.getElem?_eq_getElem hti] at e1
      have e1 : ts[i].data = dd := Option.some.inj e1
      subst e1
      obtain ⟨k0, e7, r7⟩ := r6.get (i := i) (t := nm kn ts[i]) (by rw [nmL_map, List.getElem?_map, List.getElem?_eq_getElem hti]; rfl)
      have lz := size_get (List.getElem?_eq_getElem hti)
      obtain ⟨u1, a1, a2⟩ := atI_lt (xs := vs) (i := 0 + (i : Int)) (by omega) (by omega)
      obtain ⟨u2, a3, a4⟩ := atI_lt (xs := nsV ks) (i := 0 + (i : Int)) (by omega) (by rw [nsV, List.length_map]; omega)
      have e8 : u1 = vs[i] := by
        have : (0 + (i : Int)).toNat = i := by omega
        rw [this, hx] at a2
        exact (Option.some.inj a2).symm
      have e9 : u2 = .int (k0 : Int) := by
        have : (0 + (i : Int)).toNat = i := by omega
        rw [this, nsV, List.getElem?_map, e7] at a4
        exact (Option.some.inj a4).symm
      subst e8 e9
      walk_at "stp"
      refine mIx_t (s5.tup hs1) (v := .ref b') rfl ?_
      walk_at "stp"
      refine mIx_t (s5.tup hs1') a3 ?_
      walk_at "stp"
      refine mIx_t (s5.tup hs) (v := .ref b) rfl ?_
      walk_at "stp"
      refine mIx_t (s5.tup hb2) a1 ?_
      walk_at "stp"
      refine ⟨pb, bs, k0, ts[i], kn, wk.same s5, rfl, e2.mono s5, by omega, by omega, s5 _ _ (s14 _ _ hk), vinPL_iff.mp hv _ (List.getElem_mem hti), ko, r7, fun J2 s6 => ?_⟩
      walk_at "stp"
      refine iteF ?_
      walk_at "stp"
      exact ⟨_, rfl, s5.trans s6⟩
    obtain ⟨o5, rfl, s5⟩ := hP
    walk_at "stp"
    exact q J (s14.trans s5)
theorem ok_l_seen (T : Txt K mg t) (G_Heap_look : FnOk P w K mg base CX0 2 t.a_Heap_look t.d_Heap_look ["self", "at"] (sp_Heap_look K t.k_Heap)) (G_l_whole : FnOk P w K mg base CX0 1 t.a_l_whole t.d_l_whole ["_law_found"] (sp_l_whole)) (n : Nat) : FnOk P w K mg base CX0 (n + 3) t.a_l_seen t.d_l_seen ["_law_heap", "_law_at", "_law_term_here", "_law_known"] (sp_l_seen K t.k_Heap n) := by
  induction n with
  | zero =>
    have no : ∀ vs H Q E, (sp_l_seen K t.k_Heap 0) vs H Q E → False := fun vs H Q E h => by
      unfold sp_l_seen at h
      split at h
      · exact no_l_seen h
      · exact h
    exact ⟨fun vs H Q E h => (no vs H Q E h).elim, fun A outer s H args us vs Q E _ _ _ _ h => (no vs H Q E h).elim⟩
  | succ n ih =>
    have e : n + 1 + 3 = n + 3 + 1 := by omega
    rw [e]
    exact st_l_seen T G_Heap_look G_l_whole n ih
end
section
variable {P : Program} {w : World} {K : PySem.W.Frag} {mg : Str → Option Value} {base : Heap} {t : Ad}
theorem ok_l_big (T : Txt K mg t) (G_Heap_term : FnOk P w K mg base (CXo P w) 46 t.a_Heap_term t.d_Heap_term ["self", "at"] (sp_Heap_term K t.k_Heap t.k_Big)) : FnOk P w K mg base CX0 47 t.a_l_big t.d_l_big ["_law_heap", "_law_at"] (sp_l_big K t.k_Heap) := by
  refine T.F_l_big.ok sc_l_big (fun vs H Q E h => ?_) (fun cdv A outer s H vs Q E hr h => ?_)
  · unfold sp_l_big at h
    split at h
    · rfl
    · exact h.elim
  unfold sp_l_big at h
  split at h
  rotate_left
  · exact h.elim
  refine ⟨_, (pss_cons (ps_trymdo_as (n := 2) rfl rfl G_Heap_term (hr.mono (by first | decide | omega)) (mv 0) T.cl_Heap T.me_Heap_term T.b_Heap_term .nil (pa_con (mv 1) pa_nil) sc_l_big.nd rfl T.m_TrailError T.x_TrailError rfl rfl (by first | exact Or.inl rfl | exact Or.inr rfl) (fun ea => (pss_cons (ps_forN (ea := ea) rfl PassesOwn.never (pe_lst (pa_con (pe_callB (kc_isX K rfl) rfl T.n_isinstance boot_isinstance (pa_con (mv 2) (pa_con (pe_glob (v := .ref t.k_Fault) rfl T.m_Fault rfl) pa_nil))) (pa_con (pe_callB (kc_isX K rfl) rfl T.n_isinstance boot_isinstance (pa_con (mv 2) (pa_con (pe_glob (v := .ref t.k_HasKeep) rfl T.m_HasKeep rfl) pa_nil))) (pa_con (pe_callB (kc_isX K rfl) rfl T.n_isinstance boot_isinstance (pa_con (mv 2) (pa_con (pe_glob (v := .ref t.k_NoRule) rfl T.m_NoRule rfl) pa_nil))) (pa_con (pe_callB (kc_isX K rfl) rfl T.n_isinstance boot_isinstance (pa_con (mv 2) (pa_con (pe_glob (v := .ref t.k_NoSign) rfl T.m_NoSign rfl) pa_nil))) pa_nil))))) (pg_name (i := 3) sc_l_big.nd rfl (by first | exact Or.inl rfl | exact Or.inr rfl)) (pss_one (ps_if (kt_tru K rfl (mv 3)) (pss_one (ps_ret pe_bl)) pss_nil))) (pss_cons (ps_if (PW.pt (pw_or (kt_tru K rfl (pe_callB (kc_isX K rfl) rfl T.n_isinstance boot_isinstance (pa_con (mv 2) (pa_con (pe_glob (v := .ref t.k_NotLayered) rfl T.m_NotLayered rfl) pa_nil)))) (pw_or1 (kt_tru K rfl (pe_callB (kc_isX K rfl) rfl T.n_isinstance boot_isinstance (pa_con (mv 2) (pa_con (pe_glob (v := .ref t.k_NoText) rfl T.m_NoText rfl) pa_nil))))))) (pss_one (ps_ret pe_bl)) pss_nil) (pss_one (ps_ret (me_and (pe_callB (kc_isX K rfl) rfl T.n_isinstance boot_isinstance (pa_con (mv 2) (pa_con (pe_glob (v := .ref t.k_Big) rfl T.m_Big rfl) pa_nil))) (pe_one (pe_callB (kc_isX K rfl) rfl T.n_isinstance boot_isinstance (pa_con (mv 2) (pa_con (pe_bty rfl T.n_ValueError boot_ValueError) pa_nil))))))))))) (pss_one (ps_ret pe_bl))), ?_⟩
  rename_i x a
  obtain ⟨pb, bs, n, t0, w, rfl, hR, hbl, h40, q⟩ := h
  obtain ⟨dx, pt, us, ho, hb, hdd⟩ := id w
  walk_at "stp"
  refine ⟨x, dx, _, rfl, ho, fs_no, ?_⟩
  walk_at "stp"
  refine ⟨pb, bs, n, t0, w, rfl, hR, hbl, fun z => absurd z (by omega), fun _ ea H1 s1 i1 ea' e' => ?_⟩
  cases e'
  obtain ⟨dx1, x1, x2⟩ := i1
  refine ⟨t.k_Big, some dx1, _, rfl, x1, T.x_Big, by simp, ?_⟩
  walk_at "stp"
  refine isX_i (C := t.k_Big) x1 x2 T.x_Big T.at_Big T.is_Big T.iz_Big_Fault ?_
  walk_at "stp"
  refine isX_i (C := t.k_Big) x1 x2 T.x_Big T.at_Big T.is_Big T.iz_Big_HasKeep ?_
  walk_at "stp"
  refine isX_i (C := t.k_Big) x1 x2 T.x_Big T.at_Big T.is_Big T.iz_Big_NoRule ?_
  walk_at "stp"
  refine isX_i (C := t.k_Big) x1 x2 T.x_Big T.at_Big T.is_Big T.iz_Big_NoSign ?_
  walk_at "stp"
  refine ⟨ln (by show 4 ≤ 100000; decide), fun p2 hp2 => ?_⟩
  have sp2 : Same H1 (upd H1 p2 (.lst [.bl false, .bl false, .bl false, .bl false])) := same_new hp2 _
  have kp2 : (upd H1 p2 (.lst [.bl false, .bl false, .bl false, .bl false])) p2 = some (.lst [.bl false, .bl false, .bl false, .bl false]) := upd_same
  generalize upd H1 p2 (.lst [.bl false, .bl false, .bl false, .bl false]) = H2 at sp2 kp2 ⊢
  walk_at "stp"
  refine ⟨p2, rfl, ⟨_, SqL.of kp2⟩, ?_⟩
  refine for_listN (xs := [.bl false, .bl false, .bl false, .bl false]) (fun i σ' J => (∃ o : Option V, σ' = [some (.ref x), some (.int (n : Int)), some (.ref ea), o]) ∧ J = H2) ⟨⟨none, rfl⟩, rfl⟩ (fun i σ' J _ hP => by rw [hP.2]; exact SqL.of kp2) (fun i σ' J hP => by rw [hP.2]; exact ⟨_, _, _, sp2 _ _ x1⟩) (fun i y σ' J hy hP => ?_) (fun σ' J hP => ?_)
  · obtain ⟨⟨o, rfl⟩, rfl⟩ := hP
    have hy : y = .bl false := by
      have := List.mem_of_getElem? hy
      simpa using this
    subst hy
    walk_at "stp"
    refine iteF ?_
    walk_at "stp"
    exact ⟨⟨_, rfl⟩, rfl⟩
  obtain ⟨⟨o, rfl⟩, rfl⟩ := hP
  walk_at "stp"
  refine isX_i (C := t.k_Big) (sp2 _ _ x1) (sp2 _ _ x2) T.x_Big T.at_Big T.is_Big T.iz_Big_NotLayered ?_
  walk_at "stp"
  refine iteF ?_
  walk_at "stp"
  refine isX_i (C := t.k_Big) (sp2 _ _ x1) (sp2 _ _ x2) T.x_Big T.at_Big T.is_Big T.iz_Big_NoText ?_
  walk_at "stp"
  refine iteF ?_
  walk_at "stp"
  refine isX_i (C := t.k_Big) (sp2 _ _ x1) (sp2 _ _ x2) T.x_Big T.at_Big T.is_Big T.iz_Big_Big ?_
  walk_at "stp"
  refine iteT ?_
  walk_at "stp"
  refine isX_i (C := t.k_Big) (sp2 _ _ x1) (sp2 _ _ x2) T.x_Big T.at_Big T.is_Big T.iz_Big_ValueError ?_
  walk_at "stp"
  exact q _ (s1.trans sp2)
theorem ok_l_doubled (T : Txt K mg t) (G_Heap_app : FnOk P w K mg base CX0 2 t.a_Heap_app t.d_Heap_app ["self", "sign", "kids"] (sp_Heap_app K t.k_Heap)) (G_Heap_number : FnOk P w K mg base CX0 2 t.a_Heap_number t.d_Heap_number ["self", "n"] (sp_Heap_number K t.k_Heap)) : FnOk P w K mg base CX0 3 t.a_l_doubled t.d_l_doubled ["_law_heap", "_law_at", "_law_size", "_law_times"] (sp_l_doubled K t.k_Heap) := by
  refine T.F_l_doubled.ok sc_l_doubled (fun vs H Q E h => ?_) (fun cdv A outer s H vs Q E hr h => ?_)
  · unfold sp_l_doubled at h
    split at h
    · rfl
    · exact h.elim
  unfold sp_l_doubled at h
  split at h
  rotate_left
  · exact h.elim
  refine ⟨_, (pss_cons (ps_for PassesOwn.never rfl (pi_range1 rfl T.n_range (pa_con (mv 3) pa_nil)) (pg_name (i := 4) sc_l_doubled.nd rfl (by first | exact Or.inl rfl | exact Or.inr rfl)) (pss_one (ps_if (mt_cmp mo_eq (pe_op mo_mod (mv 4) pe_int) pe_int (nomark _)) (pss_cons (ps_set (i := 1) (hs := sw_call) sc_l_doubled.nd rfl (by first | exact Or.inl rfl | exact Or.inr rfl) (pe_meth (mv 0) T.cl_Heap T.me_Heap_app G_Heap_app (hr.mono (by first | decide | omega)) T.b_Heap_app .nil pass0 (pa_con pe_str (pa_con (pe_lst (pa_con (mv 1) (pa_con (pe_meth (mv 0) T.cl_Heap T.me_Heap_number G_Heap_number (hr.mono (by first | decide | omega)) T.b_Heap_number .nil pass0 (pa_con (mv 4) pa_nil)) (pa_con (mv 1) pa_nil)))) pa_nil)))) (pss_one (ps_set (i := 2) (hs := sw_bin) sc_l_doubled.nd rfl (by first | exact Or.inl rfl | exact Or.inr rfl) (pe_op (ko_add K rfl) (pe_op mo_mul pe_int (mv 2)) pe_int)))) (pss_cons (ps_set (i := 1) (hs := sw_call) sc_l_doubled.nd rfl (by first | exact Or.inl rfl | exact Or.inr rfl) (pe_meth (mv 0) T.cl_Heap T.me_Heap_app G_Heap_app (hr.mono (by first | decide | omega)) T.b_Heap_app .nil pass0 (pa_con pe_str (pa_con (pe_tup (pa_con (mv 1) (pa_con (mv 1) pa_nil))) pa_nil)))) (pss_one (ps_set (i := 2) (hs := sw_bin) sc_l_doubled.nd rfl (by first | exact Or.inl rfl | exact Or.inr rfl) (pe_op (ko_add K rfl) (pe_op mo_mul pe_int (mv 2)) pe_int))))))) (pss_one (ps_ret (pe_tup (pa_con (mv 1) (pa_con (mv 2) pa_nil)))))), ?_⟩
  rename_i x a z m
  obtain ⟨pb, bs, n, tm, t0, w, rfl, rfl, rfl, hm, hR, hbl, q⟩ := h
  walk_at "stp"
  refine ⟨(tm : Int), rfl, by omega, by omega, ?_⟩
  refine for_row (row_range 0 tm) (fun i σ' J => ∃ (n' : Nat) (t' : Trm) (bs' : List Bx) (o4 : Option V), σ' = [some (.ref x), some (.int (n' : Int)), some (.int (t'.size : Int)), some (.int (tm : Int)), o4] ∧ HFr pb H J ∧ HS K t.k_Heap J x pb (bs ++ bs') ∧ bs'.length ≤ 2 * i ∧ Rep (bs ++ bs') n' t') ⟨n, t0, [], none, rfl, HFr.refl _ _, by rw [List.append_nil]; exact w, by simp, by rw [List.append_nil]; exact hR⟩ (fun _ _ _ _ => trivial) (fun i σ' J hi hP => ?_) (fun σ' J hP => ?_)
  · obtain ⟨n', t', bs', o4, rfl, f1, w1, l1, r1⟩ := hP
    obtain ⟨dx, pt, us, ho, hb, hdd⟩ := id w1
    walk_at "stp"
    refine iteB (fun e => ?_) (fun e => ?_)
    · walk_at "stp"
      refine ⟨x, dx, _, rfl, ho, fs_no, ?_⟩
      walk_at "stp"
      refine ⟨x, dx, _, rfl, ho, fs_no, ?_⟩
      walk_at "stp"
      refine ⟨pb, bs ++ bs', w1, by rw [List.length_append]; omega, fun J2 f2 w2 => ?_⟩
      walk_at "stp"
      refine ⟨ln (by show 3 ≤ 100000; decide), fun p3 hp3 => ?_⟩
      have sp3 : Same J2 (upd J2 p3 (.lst [.int (n' : Int), .int ((bs ++ bs').length : Int), .int (n' : Int)])) := same_new hp3 _
      have kp3 : (upd J2 p3 (.lst [.int (n' : Int), .int ((bs ++ bs').length : Int), .int (n' : Int)])) p3 = some (.lst [.int (n' : Int), .int ((bs ++ bs').length : Int), .int (n' : Int)]) := upd_same
      generalize upd J2 p3 (.lst [.int (n' : Int), .int ((bs ++ bs').length : Int), .int (n' : Int)]) = J3 at sp3 kp3 ⊢
      walk_at "stp"
      refine ⟨pb, bs ++ bs' ++ [.num (0 + (i : Int))], [n', (bs ++ bs').length, n'], w2.same sp3, by rw [List.length_append, List.length_append, List.length_singleton]; omega, by simp, .inl (SqL.of kp3), fun J4 f4 w4 => ?_⟩
      walk_at "stp"
      refine mMul_i (mulOk_left (by decide)) ?_
      walk_at "stp"
      generalize ea : (bs ++ bs').length = L at w4 ⊢
      have w5 : HS K t.k_Heap J4 x pb (bs ++ (bs' ++ [Bx.num (0 + (i : Int)), Bx.app (Str.ofString "k") [n', L, n']])) := by
        have e : bs ++ (bs' ++ [Bx.num (0 + (i : Int)), Bx.app (Str.ofString "k") [n', L, n']]) = bs ++ bs' ++ [Bx.num (0 + (i : Int))] ++ [Bx.app (Str.ofString "k") [n', L, n']] := by simp
        rw [e]; exact w4
      have r2 : Rep (bs ++ (bs' ++ [Bx.num (0 + (i : Int)), Bx.app (Str.ofString "k") [n', L, n']])) n' t' := by rw [← List.append_assoc]; exact r1.more _
      have r3 : Rep (bs ++ (bs' ++ [Bx.num (0 + (i : Int)), Bx.app (Str.ofString "k") [n', L, n']])) L (.num (0 + (i : Int))) := by rw [Rep, ← List.append_assoc, List.getElem?_append_right (by omega), ea, Nat.sub_self]; rfl
      have r4 : Rep (bs ++ (bs' ++ [Bx.num (0 + (i : Int)), Bx.app (Str.ofString "k") [n', L, n']])) (L + 1) (.app (Str.ofString "k") [t', .num (0 + (i : Int)), t']) := by
        rw [Rep]
        refine ⟨[n', L, n'], by rw [← List.append_assoc, List.getElem?_append_right (by omega), ea, Nat.add_sub_cancel_left]; rfl, by simp, ?_⟩
        exact RepL.app (RepL.app (RepL.one r2) (RepL.one r3)) (RepL.one r2)
      refine ⟨L + 1, .app (Str.ofString "k") [t', .num (0 + (i : Int)), t'], bs' ++ [Bx.num (0 + (i : Int)), Bx.app (Str.ofString "k") [n', L, n']], some (.int (0 + (i : Int))), ?_, f1.trans (f2.trans ((HFr.of sp3).trans f4)), w5, by simp only [List.length_append, List.length_cons, List.length_nil]; omega, r4⟩
      have e1 : (((bs ++ bs' ++ [Bx.num (0 + (i : Int))]).length : Nat) : Int) = ((L + 1 : Nat) : Int) := by rw [List.length_append, ea]; rfl
      have e2 : (2 : Int) * (t'.size : Int) + 2 = (((Trm.app (Str.ofString "k") [t', .num (0 + (i : Int)), t']).size : Nat) : Int) := by simp only [Trm.size, Trm.sizeL]; omega
      rw [e1, e2]
      rfl
    · walk_at "stp"
      refine ⟨x, dx, _, rfl, ho, fs_no, ?_⟩
      walk_at "stp"
      refine ⟨ln (by show 2 ≤ 100000; decide), fun p3 hp3 => ?_⟩
      have sp3 : Same J (upd J p3 (.tup [.int (n' : Int), .int (n' : Int)])) := same_new hp3 _
      have kp3 : (upd J p3 (.tup [.int (n' : Int), .int (n' : Int)])) p3 = some (.tup [.int (n' : Int), .int (n' : Int)]) := upd_same
      generalize upd J p3 (.tup [.int (n' : Int), .int (n' : Int)]) = J3 at sp3 kp3 ⊢
      walk_at "stp"
      refine ⟨pb, bs ++ bs', [n', n'], w1.same sp3, by rw [List.length_append]; omega, by simp, .inr (SqT.of kp3), fun J4 f4 w4 => ?_⟩
      walk_at "stp"
      refine mMul_i (mulOk_left (by decide)) ?_
      walk_at "stp"
      have r2 : Rep (bs ++ (bs' ++ [Bx.app (Str.ofString "+") [n', n']])) n' t' := by rw [← List.append_assoc]; exact r1.more _
      generalize ea : (bs ++ bs').length = L at ⊢
      have r4 : Rep (bs ++ (bs' ++ [Bx.app (Str.ofString "+") [n', n']])) L (.app (Str.ofString "+") [t', t']) := by
        rw [Rep]
        refine ⟨[n', n'], by rw [← List.append_assoc, List.getElem?_append_right (by omega), ea, Nat.sub_self]; rfl, by simp, ?_⟩
        exact RepL.app (RepL.one r2) (RepL.one r2)
      refine ⟨L, .app (Str.ofString "+") [t', t'], bs' ++ [Bx.app (Str.ofString "+") [n', n']], some (.int (0 + (i : Int))), ?_, f1.trans ((HFr.of sp3).trans f4), by rw [← List.append_assoc]; exact w4, by simp only [List.length_append, List.length_cons, List.length_nil]; omega, r4⟩
      have e2 : (2 : Int) * (t'.size : Int) + 1 = (((Trm.app (Str.ofString "+") [t', t']).size : Nat) : Int) := by simp only [Trm.size, Trm.sizeL]; omega
      rw [e2]
      rfl
  obtain ⟨n', t', bs', o4, rfl, f1, w1, l1, r1⟩ := hP
  walk_at "stp"
  refine ⟨ln (by show 2 ≤ 100000; decide), fun p hp => ?_⟩
  have s2 := same_new hp (.tup [.int (n' : Int), .int (t'.size : Int)])
  exact q p n' t' bs' _ (f1.trans (HFr.of s2)) (w1.same s2) (by omega) r1 upd_same
end
section
variable {P : Program} {w : World} {K : PySem.W.Frag} {mg : Str → Option Value} {base : Heap} {t : Ad}
theorem ok_l_great (T : Txt K mg t) (G_l_doubled : FnOk P w K mg base CX0 3 t.a_l_doubled t.d_l_doubled ["_law_heap", "_law_at", "_law_size", "_law_times"] (sp_l_doubled K t.k_Heap)) (G_Heap_term : FnOk P w K mg base (CXo P w) 46 t.a_Heap_term t.d_Heap_term ["self", "at"] (sp_Heap_term K t.k_Heap t.k_Big)) (G_l_parts : FnOk P w K mg base CX0 42 t.a_l_parts t.d_l_parts ["_law_term_here"] (sp_l_parts K 41)) (G_l_big : FnOk P w K mg base CX0 47 t.a_l_big t.d_l_big ["_law_heap", "_law_at"] (sp_l_big K t.k_Heap)) (G_l_parts_right : FnOk P w K mg base CX0 4 t.a_l_parts_right t.d_l_parts_right ["_law_heap", "_law_at", "_law_size", "_law_most"] (sp_l_parts_right K t.k_Heap)) : FnOk P w K mg base CX0 48 t.a_l_great t.d_l_great ["_law_heap", "_law_term_here", "_law_at", "_law_times", "_law_cell"] (sp_l_great K t.k_Heap) := by
  refine T.F_l_great.ok sc_l_great (fun vs H Q E h => ?_) (fun cdv A outer s H vs Q E hr h => ?_)
  · unfold sp_l_great at h
    split at h
    · rfl
    · exact h.elim
  unfold sp_l_great at h
  split at h
  rotate_left
  · exact h.elim
  refine ⟨_, (pss_cons (ps_asg (pe_call G_l_doubled (hr.mono (by first | decide | omega)) rfl T.m_l_doubled T.F_l_doubled.kp T.b_l_doubled .nil pass0 (pa_con (mv 0) (pa_con (mv 2) (pa_con (pe_call G_l_parts (hr.mono (by first | decide | omega)) rfl T.m_l_parts T.F_l_parts.kp T.b_l_parts .nil pass0 (pa_con (mv 1) pa_nil)) (pa_con (mv 3) pa_nil))))) (kpg_tup K rfl rfl (pgs_cons (pg_name (i := 5) sc_l_great.nd rfl (by first | exact Or.inl rfl | exact Or.inr rfl)) (pgs_cons (pg_name (i := 6) sc_l_great.nd rfl (by first | exact Or.inl rfl | exact Or.inr rfl)) pgs_nil)))) (pss_cons (ps_for PassesOwn.never rfl (kpi_list K rfl (pe_lst (pa_con (pe_op mo_mod (mv 4) pe_int) (pa_con (pe_op (ko_add K rfl) pe_int (pe_op mo_mod (pe_op mo_fdiv (mv 4) pe_int) pe_int)) (pa_con (pe_op mo_mod (pe_op mo_fdiv (mv 4) pe_int) pe_int) pa_nil))))) (pg_name (i := 7) sc_l_great.nd rfl (by first | exact Or.inl rfl | exact Or.inr rfl)) (pss_one (ps_if (pt_not (kt_tru K rfl (pe_call G_l_parts_right (hr.mono (by first | decide | omega)) rfl T.m_l_parts_right T.F_l_parts_right.kp T.b_l_parts_right .nil pass0 (pa_con (mv 0) (pa_con (mv 5) (pa_con (mv 6) (pa_con (mv 7) pa_nil))))))) (pss_one (ps_ret pe_bl)) pss_nil))) (pss_cons (ps_if (mt_cmp mo_gt (mv 6) pe_int (nomark _)) (pss_one (ps_ret (pe_call G_l_big (hr.mono (by first | decide | omega)) rfl T.m_l_big T.F_l_big.kp T.b_l_big .nil pass0 (pa_con (mv 0) (pa_con (mv 5) pa_nil))))) pss_nil) (pss_cons (ps_set (i := 8) (hs := sw_call) sc_l_great.nd rfl (by first | exact Or.inl rfl | exact Or.inr rfl) (pe_meth (mv 0) T.cl_Heap T.me_Heap_term G_Heap_term (hr.mono (by first | decide | omega)) T.b_Heap_term .nil passN (pa_con (mv 5) pa_nil))) (pss_one (ps_ret (me_and (pe_callB (kc_is K rfl) rfl T.n_isinstance boot_isinstance (pa_con (mv 8) (pa_con (pe_bty rfl T.n_tuple boot_tuple) pa_nil))) (pe_one (pe_cmpR mo_eq (pe_call G_l_parts (hr.mono (by first | decide | omega)) rfl T.m_l_parts T.F_l_parts.kp T.b_l_parts .nil pass0 (pa_con (mv 8) pa_nil)) (mv 6) (nomark _)))))))))), ?_⟩
  rename_i x v a m c
  obtain ⟨pb, bs, n, tm, t0, t1, w, hd, hz, rfl, e0, rfl, hm, hR, hbl, q⟩ := h
  obtain ⟨dx, pt, us, ho, hb, hdd⟩ := id w
  walk_at "stp"
  refine ⟨t0, hd, by omega, by decide, fun H1 s1 => ?_⟩
  walk_at "stp"
  refine ⟨pb, bs, n, tm, t1, w.same s1, rfl, by rw [e0], rfl, hm, hR, hbl, fun p n' t' bs' H2 f2 w2 l2 r2 k2 => ?_⟩
  have f2 := (HFr.of s1).trans f2
  walk_at "stp"
  refine ⟨_, _, rfl, SqT.of k2, rfl, ?_⟩
  walk_at "stp"
  refine ⟨ln (by show 3 ≤ 100000; decide), fun p3 hp3 => ?_⟩
  have sp3 : Same H2 (upd H2 p3 (.lst [.int (c % 61), .int (39 + c / 61 % 3), .int (c / 183 % 300)])) := same_new hp3 _
  have kp3 : (upd H2 p3 (.lst [.int (c % 61), .int (39 + c / 61 % 3), .int (c / 183 % 300)])) p3 = some (.lst [.int (c % 61), .int (39 + c / 61 % 3), .int (c / 183 % 300)]) := upd_same
  generalize upd H2 p3 (.lst [.int (c % 61), .int (39 + c / 61 % 3), .int (c / 183 % 300)]) = H3 at sp3 kp3 ⊢
  walk_at "stp"
  have w3 := w2.same sp3
  refine ⟨p3, rfl, ⟨_, SqL.of kp3⟩, ?_⟩
  have hms : ∀ i, i < 3 → ∃ mm : Nat, [V.int (c % 61), .int (39 + c / 61 % 3), .int (c / 183 % 300)].getD i .non = .int (mm : Int) ∧ mm ≤ 400 := fun i hi => by
    match i, hi with
    | 0, _ => exact ⟨(c % 61).toNat, by show V.int _ = _; rw [show (((c % 61).toNat : Nat) : Int) = c % 61 by omega], by omega⟩
    | 1, _ => exact ⟨(39 + c / 61 % 3).toNat, by show V.int _ = _; rw [show (((39 + c / 61 % 3).toNat : Nat) : Int) = 39 + c / 61 % 3 by omega], by omega⟩
    | 2, _ => exact ⟨(c / 183 % 300).toNat, by show V.int _ = _; rw [show (((c / 183 % 300).toNat : Nat) : Int) = c / 183 % 300 by omega], by omega⟩
  refine for_row (row_list (xs := [.int (c % 61), .int (39 + c / 61 % 3), .int (c / 183 % 300)])) (fun i σ' J => ∃ o7 : Option V, σ' = [some (.ref x), some v, some (.int (n : Int)), some (.int (tm : Int)), some (.int c), some (.int (n' : Int)), some (.int (t'.size : Int)), o7, none] ∧ Same H3 J) ⟨none, rfl, Same.refl _⟩ (fun i σ' J hP => by obtain ⟨_, _, s⟩ := hP; exact s.seq (SqL.of kp3)) (fun i σ' J hi hP => ?_) (fun σ' J hP => ?_)
  · obtain ⟨o7, rfl, s4⟩ := hP
    obtain ⟨mm, e5, e6⟩ := hms i hi
    rw [e5]
    walk_at "stp"
    refine ⟨pb, bs ++ bs', n', mm, t', w3.same s4, rfl, rfl, rfl, e6, r2, fun J2 s5 => ?_⟩
    walk_at "stp"
    refine iteF ?_
    walk_at "stp"
    exact ⟨_, rfl, s4.trans s5⟩
  obtain ⟨o7, rfl, s4⟩ := hP
  have w4 := w3.same s4
  have l4 : (bs ++ bs').length ≤ 1000 := by rw [List.length_append]; omega
  have f4 : ∀ {J'}, Same J J' → HFr pb H J' := fun s => f2.trans (HFr.of (sp3.trans (s4.trans s)))
  walk_at "stp"
  refine iteB (fun e => ?_) (fun e => ?_)
  · have h40 := of_decide_eq_true e
    walk_at "stp"
    exact ⟨pb, bs ++ bs', n', t', w4, rfl, r2, l4, by omega, fun J2 s5 => q bs' J2 (f4 s5) (w4.same s5) l2⟩
  have h40 := of_decide_eq_false e
  obtain ⟨dx4, pt4, us4, ho4, hb4, hdd4⟩ := id w4
  walk_at "stp"
  refine ⟨x, dx4, _, rfl, ho4, fs_no, ?_⟩
  walk_at "stp"
  refine ⟨pb, bs ++ bs', n', t', w4, rfl, r2, l4, fun _ v5 J5 s5 d5 => ?_, fun z => absurd z (by omega)⟩
  obtain ⟨a5, us5, rfl, hs5⟩ : ∃ a us, v5 = .ref a ∧ SqT K J5 a us := by
    cases t' with
    | num _ => obtain ⟨a, rfl, h⟩ := den_num d5; exact ⟨a, _, rfl, h⟩
    | any _ => obtain ⟨a, rfl, h⟩ := den_any d5; exact ⟨a, _, rfl, h⟩
    | app _ _ => obtain ⟨a, _, _, rfl, h, _⟩ := den_app d5; exact ⟨a, _, rfl, h⟩
  walk_at "stp"
  refine is_tup hs5 ?_
  walk_at "stp"
  refine iteT ?_
  walk_at "stp"
  refine ⟨t', d5, by omega, by decide, fun J6 s6 => ?_⟩
  walk_at "stp"
  rw [decide_eq_true rfl]
  exact q bs' J6 (f4 (s5.trans s6)) (w4.same (s5.trans s6)) l2
end
section
variable {P : Program} {w : World} {K : PySem.W.Frag} {mg : Str → Option Value} {base : Heap} {t : Ad}
theorem ok_l_edge_right (T : Txt K mg t) (G_Heap_init : FnOk P w K mg base CX0 1 t.a_Heap_init t.d_Heap_init ["self"] (sp_Heap_init K t.k_Heap)) (G_Heap_app : FnOk P w K mg base CX0 2 t.a_Heap_app t.d_Heap_app ["self", "sign", "kids"] (sp_Heap_app K t.k_Heap)) (G_l_parts_right : FnOk P w K mg base CX0 4 t.a_l_parts_right t.d_l_parts_right ["_law_heap", "_law_at", "_law_size", "_law_most"] (sp_l_parts_right K t.k_Heap)) (G_l_big : FnOk P w K mg base CX0 47 t.a_l_big t.d_l_big ["_law_heap", "_law_at"] (sp_l_big K t.k_Heap)) (G_l_parts : FnOk P w K mg base CX0 42 t.a_l_parts t.d_l_parts ["_law_term_here"] (sp_l_parts K 41)) (G_Heap_free : FnOk P w K mg base CX0 2 t.a_Heap_free t.d_Heap_free ["self"] (sp_Heap_free K t.k_Heap)) (G_Heap_number : FnOk P w K mg base CX0 2 t.a_Heap_number t.d_Heap_number ["self", "n"] (sp_Heap_number K t.k_Heap)) (G_Heap_term : FnOk P w K mg base (CXo P w) 46 t.a_Heap_term t.d_Heap_term ["self", "at"] (sp_Heap_term K t.k_Heap t.k_Big)) : FnOk P w K mg base CX0 48 t.a_l_edge_right t.d_l_edge_right ["_law_cell"] (sp_l_edge_right K t.k_Heap) := by
  refine T.F_l_edge_right.ok sc_l_edge_right (fun vs H Q E h => ?_) (fun cdv A outer s H vs Q E hr h => ?_)
  · unfold sp_l_edge_right at h
    split at h
    · rfl
    · exact h.elim
  unfold sp_l_edge_right at h
  split at h
  rotate_left
  · exact h.elim
  refine ⟨_, (pss_cons (ps_set (i := 1) (hs := sw_call) sc_l_edge_right.nd rfl (by first | exact Or.inl rfl | exact Or.inr rfl) (pe_make0 T.mk_Heap G_Heap_init (hr.mono (by first | decide | omega)) rfl T.m_Heap T.b_Heap_init .nil pass0 )) (pss_cons (ps_set (i := 2) (hs := sw_sub) sc_l_edge_right.nd rfl (by first | exact Or.inl rfl | exact Or.inr rfl) (pe_ix (ki_seq K rfl) (pe_lst (pa_con (pe_meth0 (mv 1) T.cl_Heap T.me_Heap_free G_Heap_free (hr.mono (by first | decide | omega)) T.b_Heap_free .nil pass0) (pa_con (pe_meth (mv 1) T.cl_Heap T.me_Heap_number G_Heap_number (hr.mono (by first | decide | omega)) T.b_Heap_number .nil pass0 (pa_con (pe_op mo_mod (mv 0) pe_int) pa_nil)) pa_nil))) (pe_op mo_mod (mv 0) pe_int) (fun _ _ => rfl))) (pss_cons (ps_set (i := 3) (hs := sw_bin) sc_l_edge_right.nd rfl (by first | exact Or.inl rfl | exact Or.inr rfl) (pe_op (ko_add K rfl) pe_int (pe_op mo_mod (pe_op mo_fdiv (mv 0) pe_int) pe_int))) (pss_cons (ps_for PassesOwn.never rfl (pi_range1 rfl T.n_range (pa_con (pe_op mo_sub (mv 3) pe_int) pa_nil)) (pg_name (i := 4) sc_l_edge_right.nd rfl (by first | exact Or.inl rfl | exact Or.inr rfl)) (pss_one (ps_set (i := 2) (hs := sw_call) sc_l_edge_right.nd rfl (by first | exact Or.inl rfl | exact Or.inr rfl) (pe_meth (mv 1) T.cl_Heap T.me_Heap_app G_Heap_app (hr.mono (by first | decide | omega)) T.b_Heap_app .nil pass0 (pa_con (pe_ix (ki_seq K rfl) (pe_lst (pa_con pe_str (pa_con pe_str pa_nil))) (pe_op mo_mod (pe_op mo_fdiv (mv 0) pe_int) pe_int) (fun _ _ => rfl)) (pa_con (pe_lst (pa_con (mv 2) pa_nil)) pa_nil)))))) (pss_cons (ps_if (pt_not (kt_tru K rfl (pe_call G_l_parts_right (hr.mono (by first | decide | omega)) rfl T.m_l_parts_right T.F_l_parts_right.kp T.b_l_parts_right .nil pass0 (pa_con (mv 1) (pa_con (mv 2) (pa_con (mv 3) (pa_con pe_int pa_nil))))))) (pss_one (ps_ret pe_bl)) pss_nil) (pss_cons (ps_if (mt_cmp mo_gt (mv 3) pe_int (nomark _)) (pss_one (ps_ret (pe_call G_l_big (hr.mono (by first | decide | omega)) rfl T.m_l_big T.F_l_big.kp T.b_l_big .nil pass0 (pa_con (mv 1) (pa_con (mv 2) pa_nil))))) pss_nil) (pss_one (ps_ret (pe_cmpR mo_eq (pe_call G_l_parts (hr.mono (by first | decide | omega)) rfl T.m_l_parts T.F_l_parts.kp T.b_l_parts .nil pass0 (pa_con (pe_meth (mv 1) T.cl_Heap T.me_Heap_term G_Heap_term (hr.mono (by first | decide | omega)) T.b_Heap_term .nil passN (pa_con (mv 2) pa_nil)) pa_nil)) (mv 3) (nomark _)))))))))), ?_⟩
  rename_i c
  walk_at "stp"
  intro x dx hx hdx hne
  refine ⟨dx, upd_same, fun pb H1 w1 f1 hpb => ⟨rfl, ?_⟩⟩
  have npx : pb ≠ x := fun z => by rw [z, upd_same] at hpb; cases hpb
  have npd : pb ≠ dx := fun z => by rw [z, upd_ne hne, upd_same] at hpb; cases hpb
  have hpb : H pb = none := by rw [upd_ne npx, upd_ne npd] at hpb; exact hpb
  have s1 : Same H H1 := fun b o e => f1 b o (fun z => by rw [z, hx] at e; cases e) (by rw [upd_ne (fun z => by rw [z, hx] at e; cases e), upd_ne (fun z => by rw [z, hdx] at e; cases e)]; exact e)
  have sam : ∀ {J}, HFr pb H1 J → Same H J := fun f b o e => f b o (fun z => by rw [z, hpb] at e; cases e) (s1 b o e)
  clear f1 npx npd
  obtain ⟨dx1, pt1, us1, ho1, hb1, hdd1⟩ := id w1
  walk_at "stp"
  refine ⟨x, dx1, _, rfl, ho1, fs_no, ?_⟩
  refine ⟨pb, [], w1, by simp, fun H2 f2 w2 => ?_⟩
  obtain ⟨dx2, pt2, us2, ho2, hb2, hdd2⟩ := id w2
  walk_at "stp"
  refine ⟨x, dx2, _, rfl, ho2, fs_no, ?_⟩
  walk_at "stp"
  refine ⟨pb, [] ++ [.free], w2, by simp, fun H3 f3 w3 => ?_⟩
  walk_at "stp"
  refine ⟨ln (by show 2 ≤ 100000; decide), fun p4 hp4 => ?_⟩
  have sp4 : Same H3 (upd H3 p4 (.lst [.int (([] : List Bx).length : Int), .int (([] ++ [Bx.free]).length : Int)])) := same_new hp4 _
  have kp4 : (upd H3 p4 (.lst [.int (([] : List Bx).length : Int), .int (([] ++ [Bx.free]).length : Int)])) p4 = some (.lst [.int (([] : List Bx).length : Int), .int (([] ++ [Bx.free]).length : Int)]) := upd_same
  generalize upd H3 p4 (.lst [.int (([] : List Bx).length : Int), .int (([] ++ [Bx.free]).length : Int)]) = H4 at sp4 kp4 ⊢
  walk_at "stp"
  have w4 := w3.same sp4
  have f4 : HFr pb H1 H4 := f2.trans (f3.trans (HFr.of sp4))
  obtain ⟨n0, t0, a0, r0, z0⟩ : ∃ (n0 : Nat) (t0 : Trm), atI [V.int 0, V.int 1] (c % 2) = some (.int (n0 : Int)) ∧ Rep ([] ++ [Bx.free] ++ [Bx.num (c % 1000)]) n0 t0 ∧ t0.size = 1 := by
    have hi : c % 2 = 0 ∨ c % 2 = 1 := by omega
    rcases hi with z | z <;> rw [z]
    · exact ⟨0, .any (bnm 0), rfl, by rw [Rep]; exact ⟨rfl, rfl⟩, by rw [Trm.size]⟩
    · exact ⟨1, .num (c % 1000), rfl, by rw [Rep]; rfl, by rw [Trm.size]⟩
  refine mIx_l (xs := [V.int 0, V.int 1]) (SqL.of kp4) a0 ?_
  walk_at "stp"
  obtain ⟨S, eS, hS1, hS2⟩ : ∃ S : Nat, 38 + c / 2 % 5 = (S : Int) ∧ 38 ≤ S ∧ S ≤ 42 := ⟨(38 + c / 2 % 5).toNat, by omega, by omega, by omega⟩
  rw [eS]
  refine ⟨(S : Int) - 1, rfl, by omega, by omega, ?_⟩
  have eT : ((S : Int) - 1).toNat = S - 1 := by omega
  rw [eT]
  refine for_row (row_range 0 (S - 1)) (fun i σ' J => ∃ (n' : Nat) (t' : Trm) (bs' : List Bx) (o4 : Option V), σ' = [some (.int c), some (.ref x), some (.int (n' : Int)), some (.int (S : Int)), o4] ∧ HFr pb H1 J ∧ HS K t.k_Heap J x pb bs' ∧ bs'.length ≤ 2 + i ∧ Rep bs' n' t' ∧ t'.size = i + 1) ⟨n0, t0, _, none, rfl, f4, w4, by simp, r0, z0⟩ (fun _ _ _ _ => trivial) (fun i σ' J hi hP => ?_) (fun σ' J hP => ?_)
  · obtain ⟨n', t', bs', o4, rfl, g1, g2, g3, g4, g5⟩ := hP
    obtain ⟨dx5, pt5, us5, ho5, hb5, hdd5⟩ := id g2
    walk_at "stp"
    refine ⟨x, dx5, _, rfl, ho5, fs_no, ?_⟩
    walk_at "stp"
    refine ⟨ln (by show 2 ≤ 100000; decide), fun p5 hp5 => ?_⟩
    have sp5 : Same J (upd J p5 (.lst [.str (Str.ofString "f"), .str (Str.ofString "g")])) := same_new hp5 _
    have kp5 : (upd J p5 (.lst [.str (Str.ofString "f"), .str (Str.ofString "g")])) p5 = some (.lst [.str (Str.ofString "f"), .str (Str.ofString "g")]) := upd_same
    generalize upd J p5 (.lst [.str (Str.ofString "f"), .str (Str.ofString "g")]) = J5 at sp5 kp5 ⊢
    walk_at "stp"
    obtain ⟨z, hz⟩ := strs_at (ws := ["f", "g"].map Str.ofString) (j := c / 10 % 2) (by omega) (by simp; omega)
    refine mIx_l (SqL.of kp5) hz ?_
    walk_at "stp"
    refine ⟨ln (by show 1 ≤ 100000; decide), fun p6 hp6 => ?_⟩
    have sp6 : Same J5 (upd J5 p6 (.lst [.int (n' : Int)])) := same_new hp6 _
    have kp6 : (upd J5 p6 (.lst [.int (n' : Int)])) p6 = some (.lst [.int (n' : Int)]) := upd_same
    generalize upd J5 p6 (.lst [.int (n' : Int)]) = J6 at sp6 kp6 ⊢
    walk_at "stp"
    refine ⟨pb, bs', [n'], g2.same (sp5.trans sp6), by omega, by simp, .inl (SqL.of kp6), fun J7 f7 w7 => ?_⟩
    walk_at "stp"
    refine ⟨bs'.length, .app z [t'], bs' ++ [.app z [n']], some (.int (0 + (i : Int))), rfl, g1.trans ((HFr.of (sp5.trans sp6)).trans f7), w7, by rw [List.length_append, List.length_singleton]; omega, ?_, by simp only [Trm.size, Trm.sizeL]; omega⟩
    rw [Rep]
    exact ⟨[n'], by simp, by simp, RepL.one (g4.more _)⟩
  obtain ⟨n', t', bs', o4, rfl, g1, g2, g3, g4, g5⟩ := hP
  have g6 : t'.size = S := by omega
  walk_at "stp"
  refine ⟨pb, bs', n', 40, t', g2, rfl, by rw [g6], rfl, by omega, g4, fun J2 s2 => ?_⟩
  have w2' := g2.same s2
  have g1 := g1.trans (HFr.of s2)
  walk_at "stp"
  refine iteF ?_
  walk_at "stp"
  refine iteB (fun e => ?_) (fun e => ?_)
  · have h40 := of_decide_eq_true e
    walk_at "stp"
    exact ⟨pb, bs', n', t', w2', rfl, g4, by omega, by omega, fun J3 s3 => h _ ((sam g1).trans s3)⟩
  have h40 := of_decide_eq_false e
  obtain ⟨dx6, pt6, us6, ho6, hb6, hdd6⟩ := id w2'
  walk_at "stp"
  refine ⟨x, dx6, _, rfl, ho6, fs_no, ?_⟩
  walk_at "stp"
  refine ⟨pb, bs', n', t', w2', rfl, g4, by omega, fun _ v5 J5 s5 d5 => ?_, fun z => absurd z (by omega)⟩
  walk_at "stp"
  refine ⟨t', d5, by omega, by decide, fun J6 s6 => ?_⟩
  walk_at "stp"
  rw [g6, decide_eq_true rfl]
  exact h _ ((sam g1).trans (s5.trans s6))
end
section
variable {P : Program} {w : World} {K : PySem.W.Frag} {mg : Str → Option Value} {base : Heap} {t : Ad}
theorem ints_atL' {cs : List Int} {j : Int} (h0 : 0 ≤ j) (h1 : j < (cs.length : Int)) : ∃ x : Int, atI (cs.map V.int) j = some (.int x) := by
  obtain ⟨v, hv, h2⟩ := atI_lt (xs := cs.map V.int) h0 (by rw [List.length_map]; exact h1)
  rw [List.getElem?_map] at h2
  cases hc : cs[j.toNat]? with
  | none => rw [hc] at h2; cases h2
  | some x =>
    rw [hc] at h2
    have h2 : V.int x = v := Option.some.inj h2
    exact ⟨x, by rw [hv, h2]⟩
noncomputable def sI (s : Bool) : Int := if s then 1 else 0
noncomputable def onS {α : Type} (s : Bool) (f : Bool → List α) (c : List α) : Bool → List α := fun r => if r = s then f r ++ c else f r
theorem onS_self {α : Type} {s : Bool} {f : Bool → List α} {c : List α} : onS s f c s = f s ++ c := by rw [onS, if_pos rfl]
theorem onS_ne {α : Type} {r s : Bool} {f : Bool → List α} {c : List α} (h : r ≠ s) : onS s f c r = f r := by rw [onS, if_neg h]
noncomputable def RowOk (K : PySem.W.Frag) (H : Hp) (BS : Bool → List Bx) (KN : Bool → Kn) (u : V) (r : Bool × Trm × Nat) : Prop := ∃ (q : Addr) (v : V), u = .ref q ∧ SqT K H q [.int (sI r.1), v, .int (r.2.2 : Int)] ∧ Den K H v r.2.1.data ∧ r.2.1.size ≤ 36 ∧ vinP (KN r.1) r.2.1 ∧ Rep (BS r.1) r.2.2 (nm (KN r.1) r.2.1)
theorem RowOk.more {K : PySem.W.Frag} {H H' : Hp} {BS : Bool → List Bx} {KN : Bool → Kn} {u : V} {r : Bool × Trm × Nat} (s : Bool) (c : List Bx) (d : Kn) (T : ∀ a xs, SqT K H a xs → SqT K H' a xs) (h : RowOk K H BS KN u r) : RowOk K H' (onS s BS c) (onS s KN d) u r := by
  obtain ⟨q, v, h1, h2, h3, h4, h5, h6⟩ := h
  refine ⟨q, v, h1, T _ _ h2, h3.monoT T, h4, ?_, ?_⟩
  · by_cases e : r.1 = s
    · rw [onS, if_pos e]; exact vin_app d h5
    · rw [onS_ne e]; exact h5
  · by_cases e : r.1 = s
    · rw [onS, if_pos e, onS, if_pos e, nm_app d h5]; exact h6.more c
    · rw [onS_ne e, onS_ne e]; exact h6
theorem RowOk.tup {K : PySem.W.Frag} {H H' : Hp} {BS : Bool → List Bx} {KN : Bool → Kn} {u : V} {r : Bool × Trm × Nat} (T : ∀ a xs, SqT K H a xs → SqT K H' a xs) (h : RowOk K H BS KN u r) : RowOk K H' BS KN u r := by
  obtain ⟨q, v, h1, h2, h3, h4⟩ := h
  exact ⟨q, v, h1, T _ _ h2, h3.monoT T, h4⟩
noncomputable def RowsOk (K : PySem.W.Frag) (H : Hp) (BS : Bool → List Bx) (KN : Bool → Kn) (us : List V) (rs : List (Bool × Trm × Nat)) : Prop := us.length = rs.length ∧ ∀ (i : Nat) (u : V) (r : Bool × Trm × Nat), us[i]? = some u → rs[i]? = some r → RowOk K H BS KN u r
theorem RowsOk.get {K : PySem.W.Frag} {H : Hp} {BS : Bool → List Bx} {KN : Bool → Kn} {us : List V} {rs : List (Bool × Trm × Nat)} {i : Nat} {u : V} (h : RowsOk K H BS KN us rs) (e : us[i]? = some u) : ∃ r, RowOk K H BS KN u r := by
  have hi := (List.getElem?_eq_some_iff.mp e).1
  exact ⟨_, h.2 i u _ e (List.getElem?_eq_getElem (by rw [← h.1]; exact hi))⟩
theorem RowsOk.add {K : PySem.W.Frag} {H H' : Hp} {BS : Bool → List Bx} {KN : Bool → Kn} {us : List V} {rs : List (Bool × Trm × Nat)} {u : V} {r : Bool × Trm × Nat} (s : Bool) (c : List Bx) (d : Kn) (T : ∀ a xs, SqT K H a xs → SqT K H' a xs) (h : RowsOk K H BS KN us rs) (hu : RowOk K H' (onS s BS c) (onS s KN d) u r) : RowsOk K H' (onS s BS c) (onS s KN d) (us ++ [u]) (rs ++ [r]) := by
  refine ⟨by rw [List.length_append, List.length_append, h.1]; rfl, fun i v r' e1 e2 => ?_⟩
  by_cases hi : i < us.length
  · rw [List.getElem?_append_left hi] at e1
    rw [List.getElem?_append_left (by rw [← h.1]; exact hi)] at e2
    exact (h.2 i v r' e1 e2).more s c d T
  · rw [List.getElem?_append_right (by omega)] at e1
    rw [List.getElem?_append_right (by rw [← h.1]; omega), ← h.1] at e2
    have h0 : i - us.length = 0 := by
      have := (List.getElem?_eq_some_iff.mp e1).1
      simp at this
      omega
    rw [h0] at e1 e2
    cases e1
    cases e2
    exact hu
structure EV (K : PySem.W.Frag) (C : Addr) (H : Hp) (X PB KD : Bool → Addr) (BS : Bool → List Bx) (KN : Bool → Kn) (pc pl ph pk : Addr) (cs : List Int) : Prop where
  hs : ∀ s, HS K C H (X s) (PB s) (BS s)
  kd : ∀ s, H (KD s) = some (.dK (encP (KN s)))
  ko : ∀ s, KnOk (BS s) (KN s)
  np : ∀ r s, r ≠ s → PB r ≠ PB s
  nk : ∀ r s, r ≠ s → KD r ≠ KD s
  c : H pc = some (.lst (cs.map V.int))
  l : ∃ zs : List Int, H pl = some (.lst (zs.map V.int))
  h : H ph = some (.lst [.ref (X false), .ref (X true)])
  k : H pk = some (.lst [.ref (KD false), .ref (KD true)])
  n : ∀ s, pc ≠ PB s ∧ pl ≠ PB s ∧ ph ≠ PB s ∧ pk ≠ PB s
  m : pc ≠ pl ∧ ph ≠ pl ∧ pk ≠ pl
section
variable {K : PySem.W.Frag} {C : Addr} {H H' : Hp} {X PB KD : Bool → Addr} {BS : Bool → List Bx} {KN : Bool → Kn} {pc pl ph pk : Addr} {cs : List Int}
theorem EV.same (e : EV K C H X PB KD BS KN pc pl ph pk cs) (s : Same H H') : EV K C H' X PB KD BS KN pc pl ph pk cs := by
  obtain ⟨zs, hz⟩ := e.l
  exact ⟨fun r => (e.hs r).same s, fun r => s _ _ (e.kd r), e.ko, e.np, e.nk, s _ _ e.c, ⟨zs, s _ _ hz⟩, s _ _ e.h, s _ _ e.k, e.n, e.m⟩
theorem EV.but {p : Addr} {ys : List V} (e : EV K C H X PB KD BS KN pc pl ph pk cs) (hp : H p = some (.lst ys)) (n1 : ∀ s, PB s ≠ p) (n2 : pc ≠ p ∧ ph ≠ p ∧ pk ≠ p) (b : But p H H') (hl : ∃ zs : List Int, H' pl = some (.lst (zs.map V.int))) : EV K C H' X PB KD BS KN pc pl ph pk cs := by
  refine ⟨fun r => ?_, fun r => b _ _ (fun z => by have := e.kd r; rw [z, hp] at this; cases this) (e.kd r), e.ko, e.np, e.nk, b _ _ n2.1 e.c, hl, b _ _ n2.2.1 e.h, b _ _ n2.2.2 e.k, e.n, e.m⟩
  obtain ⟨dx, pt, us, ho, hb, hd⟩ := e.hs r
  exact ⟨dx, pt, us, b _ _ (fun z => by rw [z, hp] at ho; cases ho) ho, b _ _ (n1 r) hb, b.denL hp hd⟩
theorem EV.put {s : Bool} {c : List Bx} {d : Kn} (e : EV K C H X PB KD BS KN pc pl ph pk cs) (f : PFr (PB s) (KD s) H H') (h1 : HS K C H' (X s) (PB s) (BS s ++ c)) (h2 : H' (KD s) = some (.dK (encP (KN s ++ d)))) (h3 : KnOk (BS s ++ c) (KN s ++ d)) : EV K C H' X PB KD (onS s BS c) (onS s KN d) pc pl ph pk cs := by
  obtain ⟨us0, hb0⟩ := (e.hs s).lst
  have hk0 := e.kd s
  have li : ∀ {p : Addr} {ys : List V}, p ≠ PB s → H p = some (.lst ys) → H' p = some (.lst ys) := fun hp h => f _ _ hp (fun z => by rw [z, hk0] at h; cases h) h
  obtain ⟨zs, hz⟩ := e.l
  refine ⟨fun r => ?_, fun r => ?_, fun r => ?_, e.np, e.nk, li (e.n s).1 e.c, ⟨zs, li (e.n s).2.1 hz⟩, li (e.n s).2.2.1 e.h, li (e.n s).2.2.2 e.k, e.n, e.m⟩
  · by_cases z : r = s
    · subst z; rw [onS_self]; exact h1
    · rw [onS_ne z]
      obtain ⟨dx, pt, us, ho, hb, hd⟩ := e.hs r
      exact ⟨dx, pt, us, f _ _ (fun q => by rw [q, hb0] at ho; cases ho) (fun q => by rw [q, hk0] at ho; cases ho) ho, li (e.np r s z) hb, hd.monoT (f.tup hb0 hk0)⟩
  · by_cases z : r = s
    · subst z; rw [onS_self]; exact h2
    · rw [onS_ne z]
      have := e.kd r
      exact f _ _ (fun q => by rw [q, hb0] at this; cases this) (e.nk r s z) this
  · by_cases z : r = s
    · subst z; rw [onS_self, onS_self]; exact h3
    · rw [onS_ne z, onS_ne z]; exact e.ko r
theorem EV.tup {s : Bool} (e : EV K C H X PB KD BS KN pc pl ph pk cs) (f : PFr (PB s) (KD s) H H') : ∀ a xs, SqT K H a xs → SqT K H' a xs := by
  obtain ⟨us0, hb0⟩ := (e.hs s).lst
  exact f.tup hb0 (e.kd s)
theorem EV.atX (s : Bool) : atI [V.ref (X false), V.ref (X true)] (sI s) = some (.ref (X s)) := by cases s <;> rfl
end
theorem ne_of_none' {H : Hp} {b p : Addr} {o : HO} (h : H b = some o) (q : H p = none) : p ≠ b := fun z => by rw [z, h] at q; cases q
theorem side_of (c : Int) : ∃ s : Bool, c % 2 = sI s := by
  have : c % 2 = 0 ∨ c % 2 = 1 := by omega
  rcases this with z | z
  · exact ⟨false, z⟩
  · exact ⟨true, z⟩
end
section
variable {P : Program} {w : World} {K : PySem.W.Frag} {mg : Str → Option Value} {base : Heap} {t : Ad}
theorem ok_law (T : Txt K mg t) (G_l_cells : FnOk P w K mg base CX0 1 t.a_l_cells t.d_l_cells ["_law_script", "_law_many"] (sp_l_cells K)) (G_Heap_init : FnOk P w K mg base CX0 1 t.a_Heap_init t.d_Heap_init ["self"] (sp_Heap_init K t.k_Heap)) (G_l_term : FnOk P w K mg base CX0 82 t.a_l_term t.d_l_term ["_law_left", "_law_room"] (sp_l_term K 37)) (G_l_great : FnOk P w K mg base CX0 48 t.a_l_great t.d_l_great ["_law_heap", "_law_term_here", "_law_at", "_law_times", "_law_cell"] (sp_l_great K t.k_Heap)) (G_l_edge_right : FnOk P w K mg base CX0 48 t.a_l_edge_right t.d_l_edge_right ["_law_cell"] (sp_l_edge_right K t.k_Heap)) (G_l_put : FnOk P w K mg base CX0 44 t.a_l_put t.d_l_put ["_law_heap", "_law_term_here", "_law_known"] (sp_l_put K t.k_Heap 41)) (G_Heap_term : FnOk P w K mg base (CXo P w) 46 t.a_Heap_term t.d_Heap_term ["self", "at"] (sp_Heap_term K t.k_Heap t.k_Big)) (G_l_read : FnOk P w K mg base CX0 42 t.a_l_read t.d_l_read ["_law_term_here", "_law_known"] (sp_l_read K 41)) (G_l_seen : FnOk P w K mg base CX0 44 t.a_l_seen t.d_l_seen ["_law_heap", "_law_at", "_law_term_here", "_law_known"] (sp_l_seen K t.k_Heap 41)) (G_l_parts_right : FnOk P w K mg base CX0 4 t.a_l_parts_right t.d_l_parts_right ["_law_heap", "_law_at", "_law_size", "_law_most"] (sp_l_parts_right K t.k_Heap)) (G_l_parts : FnOk P w K mg base CX0 42 t.a_l_parts t.d_l_parts ["_law_term_here"] (sp_l_parts K 41)) : FnOk P w K mg base CX0 90 t.a_law t.d_law ["_law_script"] (sp_law K) := by
  refine T.F_law.ok sc_law (fun vs H Q E h => ?_) (fun cdv A outer s H vs Q E hr h => ?_)
  · unfold sp_law at h
    split at h
    · rfl
    · exact h.elim
  unfold sp_law at h
  split at h
  rotate_left
  · exact h.elim
  refine ⟨_, (pss_cons (ps_set (i := 1) (hs := sw_call) sc_law.nd rfl (by first | exact Or.inl rfl | exact Or.inr rfl) (pe_call G_l_cells (hr.mono (by first | decide | omega)) rfl T.m_l_cells T.F_l_cells.kp T.b_l_cells .nil pass0 (pa_con (mv 0) (pa_con pe_int pa_nil)))) (pss_cons (ps_comp (i := 2) sc_law.nd rfl (by first | exact Or.inl rfl | exact Or.inr rfl) rfl (pi_range1 rfl T.n_range (pa_con pe_int pa_nil)) (comp_sc (defScope s_law) ["_law_script", "_law_cells_here", "_law_left", "_law_heaps", "_law_knowns", "_law_rows", "_law_k", "_law_side", "_law_term_here", "_law_at", "_law_heap", "_law_most"] ["_law_script", "_law_cells_here", "_law_left", "_law_heaps", "_law_knowns", "_law_rows", "%_law_k", "_law_side", "_law_term_here", "_law_at", "_law_heap", "_law_most"] rfl rfl (by decide +kernel)) (fun _ _ _ _ _ => pts_nil) (fun _ _ _ _ _ => (pe_ix (ki_seq K rfl) (mv 2) (pe_op mo_sub pe_int (mv 0)) (fun _ _ => rfl)))) (pss_cons (ps_set (i := 3) (hs := sw_lst) sc_law.nd rfl (by first | exact Or.inl rfl | exact Or.inr rfl) (pe_lst (pa_con (pe_make0 T.mk_Heap G_Heap_init (hr.mono (by first | decide | omega)) rfl T.m_Heap T.b_Heap_init .nil pass0 ) (pa_con (pe_make0 T.mk_Heap G_Heap_init (hr.mono (by first | decide | omega)) rfl T.m_Heap T.b_Heap_init .nil pass0 ) pa_nil)))) (pss_cons (ps_set (i := 4) (hs := sw_lst) sc_law.nd rfl (by first | exact Or.inl rfl | exact Or.inr rfl) (pe_lst (pa_con pe_dnewK (pa_con pe_dnewK pa_nil)))) (pss_cons (ps_set (i := 5) (hs := sw_lst) sc_law.nd rfl (by first | exact Or.inl rfl | exact Or.inr rfl) (pe_lst pa_nil)) (pss_cons (ps_for PassesOwn.never rfl (pi_range1 rfl T.n_range (pa_con (pe_op (ko_add K rfl) pe_int (pe_op mo_mod (pe_ix (ki_seq K rfl) (mv 1) pe_int (fun _ _ => rfl)) pe_int)) pa_nil)) (pg_name (i := 6) sc_law.nd rfl (by first | exact Or.inl rfl | exact Or.inr rfl)) (pss_cons (ps_set (i := 7) (hs := sw_bin) sc_law.nd rfl (by first | exact Or.inl rfl | exact Or.inr rfl) (pe_op mo_mod (pe_ix (ki_seq K rfl) (mv 1) (pe_op (ko_add K rfl) pe_int (mv 6)) (fun _ _ => rfl)) pe_int)) (pss_cons (ps_set (i := 8) (hs := sw_call) sc_law.nd rfl (by first | exact Or.inl rfl | exact Or.inr rfl) (pe_call G_l_term (hr.mono (by first | decide | omega)) rfl T.m_l_term T.F_l_term.kp T.b_l_term .nil pass0 (pa_con (mv 2) (pa_con (pe_op (ko_add K rfl) pe_int (pe_op mo_mod (pe_op mo_fdiv (pe_ix (ki_seq K rfl) (mv 1) (pe_op (ko_add K rfl) pe_int (mv 6)) (fun _ _ => rfl)) pe_int) pe_int)) pa_nil)))) (pss_one (ps_expr (ke_bm K rfl PySem.F.plainAttrs_list PySem.F.slot_list_append PySem.F.type_list_append mm_append (mv 5) (pa_con (pe_tup (pa_con (mv 7) (pa_con (mv 8) (pa_con (pe_call G_l_put (hr.mono (by first | decide | omega)) rfl T.m_l_put T.F_l_put.kp T.b_l_put .nil pass0 (pa_con (pe_ix (ki_seq K rfl) (mv 3) (mv 7) (fun _ _ => rfl)) (pa_con (mv 8) (pa_con (pe_ix (ki_seq K rfl) (mv 4) (mv 7) (fun _ _ => rfl)) pa_nil)))) pa_nil)))) pa_nil))))))) (pss_cons (ps_if (pt_not (kt_tru K rfl (pe_call G_l_great (hr.mono (by first | decide | omega)) rfl T.m_l_great T.F_l_great.kp T.b_l_great .nil pass0 (pa_con (pe_ix (ki_seq K rfl) (mv 3) (pe_ix (ki_seq K rfl) (pe_ix (ki_seq K rfl) (mv 5) pe_int (fun _ _ => rfl)) pe_int (fun _ _ => rfl)) (fun _ _ => rfl)) (pa_con (pe_ix (ki_seq K rfl) (pe_ix (ki_seq K rfl) (mv 5) pe_int (fun _ _ => rfl)) pe_int (fun _ _ => rfl)) (pa_con (pe_ix (ki_seq K rfl) (pe_ix (ki_seq K rfl) (mv 5) pe_int (fun _ _ => rfl)) pe_int (fun _ _ => rfl)) (pa_con (pe_op mo_mod (pe_ix (ki_seq K rfl) (mv 1) pe_int (fun _ _ => rfl)) pe_int) (pa_con (pe_ix (ki_seq K rfl) (mv 1) pe_int (fun _ _ => rfl)) pa_nil)))))))) (pss_one (ps_ret pe_bl)) pss_nil) (pss_cons (ps_if (pt_not (kt_tru K rfl (pe_call G_l_edge_right (hr.mono (by first | decide | omega)) rfl T.m_l_edge_right T.F_l_edge_right.kp T.b_l_edge_right .nil pass0 (pa_con (pe_ix (ki_seq K rfl) (mv 1) pe_int (fun _ _ => rfl)) pa_nil)))) (pss_one (ps_ret pe_bl)) pss_nil) (pss_cons (ps_for PassesOwn.never rfl (kpi_list K rfl (pe_op (ko_add K rfl) (mv 5) (pe_slice (ks_list K rfl) (mv 5) po_none (mp_some pe_int)))) (kpg_tup K rfl rfl (pgs_cons (pg_name (i := 7) sc_law.nd rfl (by first | exact Or.inl rfl | exact Or.inr rfl)) (pgs_cons (pg_name (i := 8) sc_law.nd rfl (by first | exact Or.inl rfl | exact Or.inr rfl)) (pgs_cons (pg_name (i := 9) sc_law.nd rfl (by first | exact Or.inl rfl | exact Or.inr rfl)) pgs_nil)))) (pss_cons (ps_set (i := 10) (hs := sw_sub) sc_law.nd rfl (by first | exact Or.inl rfl | exact Or.inr rfl) (pe_ix (ki_seq K rfl) (mv 3) (mv 7) (fun _ _ => rfl))) (pss_cons (ps_if (PW.pt (pw_or (mt_cmp (ko_neT K rfl (room150 hr)) (pe_meth (mv 10) T.cl_Heap T.me_Heap_term G_Heap_term (hr.mono (by first | decide | omega)) T.b_Heap_term .nil passN (pa_con (mv 9) pa_nil)) (pe_call G_l_read (hr.mono (by first | decide | omega)) rfl T.m_l_read T.F_l_read.kp T.b_l_read .nil pass0 (pa_con (mv 8) (pa_con (pe_ix (ki_seq K rfl) (mv 4) (mv 7) (fun _ _ => rfl)) pa_nil))) (nomark _)) (pw_or1 (pt_not (kt_tru K rfl (pe_call G_l_seen (hr.mono (by first | decide | omega)) rfl T.m_l_seen T.F_l_seen.kp T.b_l_seen .nil pass0 (pa_con (mv 10) (pa_con (mv 9) (pa_con (mv 8) (pa_con (pe_ix (ki_seq K rfl) (mv 4) (mv 7) (fun _ _ => rfl)) pa_nil)))))))))) (pss_one (ps_ret pe_bl)) pss_nil) (pss_one (ps_for PassesOwn.never rfl (kpi_list K rfl (pe_lst (pa_con (pe_op mo_mod (pe_ix (ki_seq K rfl) (mv 1) pe_int (fun _ _ => rfl)) pe_int) (pa_con (pe_op (ko_add K rfl) pe_int (pe_op mo_mod (pe_ix (ki_seq K rfl) (mv 1) pe_int (fun _ _ => rfl)) pe_int)) (pa_con pe_int pa_nil))))) (pg_name (i := 11) sc_law.nd rfl (by first | exact Or.inl rfl | exact Or.inr rfl)) (pss_one (ps_if (pt_not (kt_tru K rfl (pe_call G_l_parts_right (hr.mono (by first | decide | omega)) rfl T.m_l_parts_right T.F_l_parts_right.kp T.b_l_parts_right .nil pass0 (pa_con (mv 10) (pa_con (mv 9) (pa_con (pe_call G_l_parts (hr.mono (by first | decide | omega)) rfl T.m_l_parts T.F_l_parts.kp T.b_l_parts .nil pass0 (pa_con (mv 8) pa_nil)) (pa_con (mv 11) pa_nil))))))) (pss_one (ps_ret pe_bl)) pss_nil))))))) (pss_one (ps_ret pe_bl))))))))))), ?_⟩
  rename_i a
  obtain ⟨ns, hS, hn, q⟩ := h
  walk_at "stp"
  refine ⟨ns, hS, hn, by decide, by decide, fun pc cs H1 hl s1 hc => ?_⟩
  have hcl : cs.length = 80 := hl
  have cx : ∀ j : Int, 0 ≤ j → j < 80 → ∃ x : Int, atI (cs.map V.int) j = some (.int x) := fun j h0 h1 => ints_atL' h0 (by rw [hcl]; exact h1)
  obtain ⟨c0, hc0⟩ := cx 0 (by decide) (by decide)
  obtain ⟨c6, hc6⟩ := cx 6 (by decide) (by decide)
  obtain ⟨c7, hc7⟩ := cx 7 (by decide) (by decide)
  obtain ⟨c8, hc8⟩ := cx 8 (by decide) (by decide)
  obtain ⟨c9, hc9⟩ := cx 9 (by decide) (by decide)
  walk_at "stp"
  refine ⟨70, rfl, by decide, by decide, fun pl hpl => ?_⟩
  refine comp_row (row_range 0 (70 : Int).toNat) (fun i ys H' => Same H1 H' ∧ (∃ zs : List Int, ys = zs.map V.int) ∧ H' pl = some (.lst ys)) (ln (by decide)) ⟨same_new hpl _, ⟨[], rfl⟩, upd_same⟩ (fun _ _ _ _ => trivial) (fun i ys H' Q' hi' hl' hP k => ?_) (fun ys H2 hl' hP => ?_)
  · obtain ⟨g1, ⟨zs, g2⟩, g3⟩ := hP
    have hi' : i < 70 := hi'
    walk_at "stp"
    obtain ⟨x, hx'⟩ := cx (79 - (0 + (i : Int))) (by omega) (by omega)
    refine mIx_l (SqL.of (g1 _ _ hc)) hx' ?_
    exact k _ _ g3 ⟨same_upd g1 hpl, ⟨zs ++ [x], by rw [g2, List.map_append]; rfl⟩, upd_same⟩
  obtain ⟨g1, ⟨zs, rfl⟩, g3⟩ := hP
  have hc2 := g1 _ _ hc
  have ncl : pc ≠ pl := fun z => by rw [z, hpl] at hc; cases hc
  clear hpl g1
  walk_at "stp"
  intro x1 dx1 hx1 hdx1 hne1
  refine ⟨dx1, upd_same, fun pb1 H3 w1 f1 hpb1 => ⟨rfl, ?_⟩⟩
  have npx1 : pb1 ≠ x1 := fun z => by rw [z, upd_same] at hpb1; cases hpb1
  have npd1 : pb1 ≠ dx1 := fun z => by rw [z, upd_ne hne1, upd_same] at hpb1; cases hpb1
  have hpb1 : H2 pb1 = none := by rw [upd_ne npx1, upd_ne npd1] at hpb1; exact hpb1
  have sm1 : Same H2 H3 := fun b o e => f1 b o (fun z => by rw [z, hx1] at e; cases e) (by rw [upd_ne (fun z => by rw [z, hx1] at e; cases e), upd_ne (fun z => by rw [z, hdx1] at e; cases e)]; exact e)
  clear f1 npx1 npd1
  walk_at "stp"
  intro x2 dx2 hx2 hdx2 hne2
  refine ⟨dx2, upd_same, fun pb2 H4 w2 f2 hpb2 => ⟨rfl, ?_⟩⟩
  have npx2 : pb2 ≠ x2 := fun z => by rw [z, upd_same] at hpb2; cases hpb2
  have npd2 : pb2 ≠ dx2 := fun z => by rw [z, upd_ne hne2, upd_same] at hpb2; cases hpb2
  have hpb2 : H3 pb2 = none := by rw [upd_ne npx2, upd_ne npd2] at hpb2; exact hpb2
  have sm2 : Same H3 H4 := fun b o e => f2 b o (fun z => by rw [z, hx2] at e; cases e) (by rw [upd_ne (fun z => by rw [z, hx2] at e; cases e), upd_ne (fun z => by rw [z, hdx2] at e; cases e)]; exact e)
  clear f2 npx2 npd2
  walk_at "stp"
  refine ⟨ln (by show 2 ≤ 100000; decide), fun ph hph => ?_⟩
  have sph : Same H4 (upd H4 ph (.lst [.ref x1, .ref x2])) := same_new hph _
  have kph : (upd H4 ph (.lst [.ref x1, .ref x2])) ph = some (.lst [.ref x1, .ref x2]) := upd_same
  generalize upd H4 ph (.lst [.ref x1, .ref x2]) = H5 at sph kph ⊢
  walk_at "stp"
  intro d1 hd1
  have sd1 := same_new hd1 (.dK [])
  have kd1 : (upd H5 d1 (.dK [])) d1 = some (.dK []) := upd_same
  generalize upd H5 d1 (.dK []) = H6 at sd1 kd1 ⊢
  walk_at "stp"
  intro d2 hd2
  have sd2 := same_new hd2 (.dK [])
  have kd2 : (upd H6 d2 (.dK [])) d2 = some (.dK []) := upd_same
  generalize upd H6 d2 (.dK []) = H7 at sd2 kd2 ⊢
  walk_at "stp"
  refine ⟨ln (by show 2 ≤ 100000; decide), fun pk hpk => ?_⟩
  have spk : Same H7 (upd H7 pk (.lst [.ref d1, .ref d2])) := same_new hpk _
  have kpk : (upd H7 pk (.lst [.ref d1, .ref d2])) pk = some (.lst [.ref d1, .ref d2]) := upd_same
  generalize upd H7 pk (.lst [.ref d1, .ref d2]) = H8 at spk kpk ⊢
  walk_at "stp"
  refine ⟨ln (by show 0 ≤ 100000; decide), fun pr hpr => ?_⟩
  have spr : Same H8 (upd H8 pr (.lst [])) := same_new hpr _
  have kpr : (upd H8 pr (.lst [])) pr = some (.lst []) := upd_same
  generalize upd H8 pr (.lst []) = H9 at spr kpr ⊢
  walk_at "stp"
  have S49 : Same H4 H9 := sph.trans (sd1.trans (sd2.trans (spk.trans spr)))
  have S48 : Same H4 H8 := sph.trans (sd1.trans (sd2.trans spk))
  have S47 : Same H4 H7 := sph.trans (sd1.trans sd2)
  obtain ⟨v1, l1⟩ := w1.lst
  obtain ⟨v2, l2⟩ := w2.lst
  have hc4 := sm2 _ _ (sm1 _ _ hc2)
  have hl4 := sm2 _ _ (sm1 _ _ g3)
  have ev : EV K t.k_Heap H9 (fun s => cond s x2 x1) (fun s => cond s pb2 pb1) (fun s => cond s d2 d1) (fun _ => []) (fun _ => []) pc pl ph pk cs := by
    refine ⟨fun s => ?_, fun s => ?_, fun s x a e => (by cases e), fun r s hrs => ?_, fun r s hrs => ?_, S49 _ _ hc4, ⟨zs, S49 _ _ hl4⟩, (sd1.trans (sd2.trans (spk.trans spr))) _ _ kph, spr _ _ kpk, fun s => ?_, ncl, ne_of_none' hl4 hph, ne_of_none' (S47 _ _ hl4) hpk⟩
    · cases s
      · exact w1.same (sm2.trans S49)
      · exact w2.same S49
    · cases s
      · exact (sd2.trans (spk.trans spr)) _ _ kd1
      · exact (spk.trans spr) _ _ kd2
    · cases r <;> cases s <;> first | exact absurd rfl hrs | exact ne_of_none l1 hpb2 | exact Ne.symm (ne_of_none l1 hpb2)
    · cases r <;> cases s <;> first | exact absurd rfl hrs | exact ne_of_none kd1 hd2 | exact Ne.symm (ne_of_none kd1 hd2)
    · cases s
      · exact ⟨ne_of_none hc2 hpb1, ne_of_none g3 hpb1, Ne.symm (ne_of_none (sm2 _ _ l1) hph), Ne.symm (ne_of_none (S47 _ _ (sm2 _ _ l1)) hpk)⟩
      · exact ⟨ne_of_none (sm1 _ _ hc2) hpb2, ne_of_none (sm1 _ _ g3) hpb2, Ne.symm (ne_of_none l2 hph), Ne.symm (ne_of_none (S47 _ _ l2) hpk)⟩
  have npr : ∀ s, (fun s => cond s pb2 pb1) s ≠ pr := fun s => by
    cases s
    · exact ne_of_none (S48 _ _ (sm2 _ _ l1)) hpr
    · exact ne_of_none (S48 _ _ l2) hpr
  have npr2 : pc ≠ pr ∧ ph ≠ pr ∧ pk ≠ pr := ⟨ne_of_none (S48 _ _ hc4) hpr, ne_of_none ((sd1.trans (sd2.trans spk)) _ _ kph) hpr, ne_of_none kpk hpr⟩
  have npl : pl ≠ pr := ne_of_none (S48 _ _ hl4) hpr
  clear S49 S48 S47 hpb1 hpb2 hph hd1 hd2 hpk hpr l1 l2 hc4 hl4 w1 w2 sm1 sm2 sph sd1 sd2 spk spr kph kd1 kd2 kpk g3 hc2 ncl hx1 hx2 hdx1 hdx2 hne1 hne2
  generalize (fun s => cond s x2 x1) = X at ev
  generalize (fun s => cond s pb2 pb1) = PB at ev npr
  generalize (fun s => cond s d2 d1) = KD at ev
  refine mIx_l (SqL.of ev.c) hc0 ?_
  walk_at "stp"
  obtain ⟨N, eN, hN1, hN2⟩ : ∃ N : Nat, 2 + c0 % 4 = (N : Int) ∧ 2 ≤ N ∧ N ≤ 5 := ⟨(2 + c0 % 4).toNat, by omega, by omega, by omega⟩
  rw [eN]
  refine ⟨(N : Int), rfl, by omega, by omega, ?_⟩
  rw [Int.toNat_natCast]
  refine for_row (row_range 0 N) (fun i σ' J => ∃ (BS : Bool → List Bx) (KN : Bool → Kn) (us : List V) (rs : List (Bool × Trm × Nat)) (o6 o7 o8 : Option V), σ' = [some (.ref a), some (.ref pc), some (.ref pl), some (.ref ph), some (.ref pk), some (.ref pr), o6, o7, o8, none, none, none] ∧ EV K t.k_Heap J X PB KD BS KN pc pl ph pk cs ∧ J pr = some (.lst us) ∧ RowsOk K J BS KN us rs ∧ us.length = i ∧ ∀ s, (BS s).length ≤ 40 * i ∧ (KN s).length ≤ 40 * i) ⟨_, _, [], [], none, none, none, rfl, ev, kpr, ⟨rfl, fun i u r e => by simp at e⟩, rfl, fun s => by simp⟩ (fun _ _ _ _ => trivial) (fun i σ' J hi hP => ?_) (fun σ' J hP => ?_)
  · obtain ⟨BS, KN, us, rs, o6, o7, o8, rfl, e1, kr, ro, ul, bd⟩ := hP
    clear ev
    obtain ⟨ci, hci⟩ := cx (1 + (0 + (i : Int))) (by omega) (by omega)
    obtain ⟨s, eS⟩ := side_of ci
    obtain ⟨zs1, hz1⟩ := e1.l
    walk_at "stp"
    refine mIx_l (SqL.of e1.c) hci ?_
    walk_at "stp"
    rw [eS]
    refine mIx_l (SqL.of e1.c) hci ?_
    walk_at "stp"
    refine ⟨zs1, hz1, by omega, by omega, by omega, fun r J1 t1 zs2 b1 f1 k1 dd1 z1 a1 => ?_⟩
    have e2 := e1.but hz1 (fun s => Ne.symm (e1.n s).2.1) e1.m b1 ⟨zs2, k1⟩
    have kr1 := b1 _ _ (Ne.symm npl) kr
    have tz : t1.size ≤ 36 := by omega
    walk_at "stp"
    refine ⟨.inl ⟨rfl, _, SqL.of kr1⟩, ?_⟩
    walk_at "stp"
    refine mIx_l (SqL.of e2.h) (EV.atX s) ?_
    walk_at "stp"
    refine mIx_l (SqL.of e2.k) (EV.atX (X := KD) s) ?_
    walk_at "stp"
    refine ⟨PB s, BS s, t1, KN s, e2.hs s, dd1, by omega, by omega, a1, e2.kd s, e2.ko s, by have := (bd s).1; omega, by have := (bd s).2; omega, fun n bs' kn' J2 f2 w2 k2 ko2 lb lk v2 r2 => ?_⟩
    have e3 := e2.put f2 w2 k2 ko2
    have kr2 := f2 _ _ (Ne.symm (npr s)) (fun z => by have := e2.kd s; rw [← z, kr1] at this; cases this) kr1
    walk_at "stp"
    refine ⟨ln (by show 3 ≤ 100000; decide), fun p hp => ?_⟩
    have s3 : Same J2 (upd J2 p (.tup [.int (sI s), .ref r, .int (n : Int)])) := same_new hp _
    have k3 : (upd J2 p (.tup [.int (sI s), .ref r, .int (n : Int)])) p = some (.tup [.int (sI s), .ref r, .int (n : Int)]) := upd_same
    generalize upd J2 p (.tup [.int (sI s), .ref r, .int (n : Int)]) = J3 at s3 k3 ⊢
    have kr3 := s3 _ _ kr2
    walk_at "stp"
    refine mAppend_i kr3 (ln1 (by omega)) ?_
    have b4 : But pr J3 (upd J3 pr (.lst (us ++ [.ref p]))) := but_upd _
    have t4 : ∀ a xs, SqT K J3 a xs → SqT K (upd J3 pr (.lst (us ++ [.ref p]))) a xs := tup_lst kr3
    have k4 : (upd J3 pr (.lst (us ++ [.ref p]))) pr = some (.lst (us ++ [.ref p])) := upd_same
    generalize upd J3 pr (.lst (us ++ [.ref p])) = J4 at b4 t4 k4 ⊢
    have e4 := e3.same s3
    obtain ⟨zs4, hz4⟩ := e4.l
    have e5 := e4.but kr3 npr npr2 b4 ⟨zs4, b4 _ _ npl hz4⟩
    have t13 : ∀ a xs, SqT K J1 a xs → SqT K J4 a xs := fun a xs h => t4 _ _ (s3.tup (e2.tup f2 _ _ h))
    refine ⟨_, _, us ++ [.ref p], rs ++ [(s, t1, n)], _, _, _, rfl, e5, k4, RowsOk.add s bs' kn' (fun a xs h => t13 _ _ (b1.tup hz1 h)) ro ⟨p, .ref r, rfl, t4 _ _ (SqT.of k3), dd1.monoT t13, tz, by show vinP (onS s KN kn' s) t1; rw [onS_self]; exact v2, by show Rep (onS s BS bs' s) n (nm (onS s KN kn' s) t1); rw [onS_self, onS_self]; exact r2⟩, by rw [List.length_append, ul]; rfl, fun s' => ?_⟩
    have h1 := bd s'
    by_cases z : s' = s
    · subst z
      rw [onS_self, onS_self, List.length_append, List.length_append]
      omega
    · rw [onS_ne z, onS_ne z]
      omega
  obtain ⟨BS, KN, us, rs, o6, o7, o8, rfl, e1, kr, ro, ul, bd⟩ := hP
  clear ev
  obtain ⟨u0, us', rfl⟩ : ∃ u0 us', us = u0 :: us' := by
    cases us with
    | nil => rw [List.length_nil] at ul; omega
    | cons a b => exact ⟨a, b, rfl⟩
  obtain ⟨⟨s, t0, n⟩, q0, v0, rfl, hs0, hd0, hz0, hv0, hR0⟩ := ro.get (i := 0) (u := u0) rfl
  have hs0 : SqT K J q0 [.int (sI s), v0, .int (n : Int)] := hs0
  have hd0 : Den K J v0 t0.data := hd0
  have hz0 : t0.size ≤ 36 := hz0
  have hR0 : Rep (BS s) n (nm (KN s) t0) := hR0
  walk_at "stp"
  refine mIx_l (SqL.of kr) atI0 ?_
  walk_at "stp"
  refine mIx_t hs0 (v := .int (sI s)) rfl ?_
  walk_at "stp"
  refine mIx_l (SqL.of e1.h) (EV.atX s) ?_
  walk_at "stp"
  refine mIx_l (SqL.of kr) atI0 ?_
  walk_at "stp"
  refine mIx_t hs0 (v := v0) rfl ?_
  walk_at "stp"
  refine mIx_l (SqL.of kr) atI0 ?_
  walk_at "stp"
  refine mIx_t hs0 (v := .int (n : Int)) rfl ?_
  walk_at "stp"
  refine mIx_l (SqL.of e1.c) hc6 ?_
  walk_at "stp"
  refine mIx_l (SqL.of e1.c) hc7 ?_
  walk_at "stp"
  refine ⟨PB s, BS s, n, (c6 % 12).toNat, t0, nm (KN s) t0, e1.hs s, hd0, by omega, rfl, nm_size _ _, by omega, by omega, hR0, by have := (bd s).1; omega, fun bs' J2 f2 w2 lb2 => ?_⟩
  have e2 := e1.put (d := []) f2.pfr w2 (by rw [List.append_nil]; exact (e1.hs s).dk f2 (e1.kd s)) (by rw [List.append_nil]; exact (e1.ko s).more bs')
  have kr2 := f2 _ _ (Ne.symm (npr s)) kr
  have hrow : ∀ u ∈ (V.ref q0 :: us'), ∃ r, RowOk K J2 (onS s BS bs') (onS s KN []) u r := fun u hu => by
    obtain ⟨i, hi⟩ := List.mem_iff_getElem?.mp hu
    obtain ⟨r, hr⟩ := ro.get hi
    exact ⟨r, hr.more s bs' [] (e1.tup f2.pfr)⟩
  have bd2 : ∀ s', (onS s BS bs' s').length ≤ 300 := fun s' => by
    have h1 := (bd s').1
    by_cases z : s' = s
    · subst z; rw [onS_self, List.length_append]; omega
    · rw [onS_ne z]; omega
  clear e1 ro hs0 hd0 hR0 hv0 w2 f2 bd kr
  generalize onS s BS bs' = BS2 at e2 hrow bd2
  generalize onS s KN [] = KN2 at e2 hrow
  walk_at "stp"
  refine iteF ?_
  walk_at "stp"
  refine mIx_l (SqL.of e2.c) hc7 ?_
  walk_at "stp"
  refine fun J3 s3 => ?_
  have e3 := e2.same s3
  have kr3 := s3 _ _ kr2
  walk_at "stp"
  refine iteF ?_
  walk_at "stp"
  refine ⟨pr, _, rfl, SqL.of kr3, fun p4 hp4 => ?_⟩
  have lcut : (cutV (V.ref q0 :: us') none (some 1)).length ≤ 10 := by
    unfold cutV
    rw [List.length_take, List.length_drop]
    omega
  have hcut : ∀ u ∈ cutV (V.ref q0 :: us') none (some 1), u ∈ (V.ref q0 :: us') := fun u hu => by
    unfold cutV at hu
    exact List.mem_of_mem_drop (List.mem_of_mem_take hu)
  generalize cutV (V.ref q0 :: us') none (some 1) = cut at lcut hcut ⊢
  have s4 := same_new hp4 (.lst cut)
  have k4 : (upd J3 p4 (.lst cut)) p4 = some (.lst cut) := upd_same
  generalize upd J3 p4 (.lst cut) = J4 at s4 k4 ⊢
  walk_at "stp"
  refine mAdd_l (s4 _ _ kr3) k4 (ln (by omega)) fun p5 hp5 => ?_
  have hall : ∀ u ∈ (V.ref q0 :: us') ++ cut, ∃ r, RowOk K J2 BS2 KN2 u r := fun u hu => by
    rcases List.mem_append.mp hu with z | z
    · exact hrow u z
    · exact hrow u (hcut u z)
  have lall : ((V.ref q0 :: us') ++ cut).length ≤ 20 := by rw [List.length_append]; omega
  generalize (V.ref q0 :: us') ++ cut = L at hall lall ⊢
  have s5 := same_new hp5 (.lst L)
  have k5 : (upd J4 p5 (.lst L)) p5 = some (.lst L) := upd_same
  generalize upd J4 p5 (.lst L) = J5 at s5 k5 ⊢
  have s25 := s3.trans (s4.trans s5)
  have e5 := e2.same s25
  walk_at "stp"
  refine ⟨p5, rfl, ⟨_, SqL.of k5⟩, ?_⟩
  refine for_row (row_list (xs := L)) (fun i σ' J' => ∃ (o6 o7 o8 o9 o10 o11 : Option V), σ' = [some (.ref a), some (.ref pc), some (.ref pl), some (.ref ph), some (.ref pk), some (.ref pr), o6, o7, o8, o9, o10, o11] ∧ Same J5 J') ⟨_, _, _, _, _, _, rfl, Same.refl _⟩ (fun i σ' J' hP => by obtain ⟨_, _, _, _, _, _, _, s⟩ := hP; exact s.seq (SqL.of k5)) (fun i σ' J' hi hP => ?_) (fun σ' J' hP => ?_)
  · obtain ⟨p6, p7, p8, p9, p10, p11, rfl, s6⟩ := hP
    have hmem : L.getD i .non ∈ L := by rw [List.getD_eq_getElem?_getD, List.getElem?_eq_getElem hi]; exact List.getElem_mem hi
    obtain ⟨⟨s1, t1, n1⟩, q1, v1, eu, hs1, hd1, hz1, hv1, hR1⟩ := hall _ hmem
    have s26 := s25.trans s6
    have hs1 : SqT K J' q1 [.int (sI s1), v1, .int (n1 : Int)] := s26.tup hs1
    have hd1 : Den K J' v1 t1.data := Den.mono s26 hd1
    have hz1 : t1.size ≤ 36 := hz1
    have hv1 : vinP (KN2 s1) t1 := hv1
    have hR1 : Rep (BS2 s1) n1 (nm (KN2 s1) t1) := hR1
    have e6 := e2.same s26
    rw [eu]
    walk_at "stp"
    refine ⟨_, _, rfl, hs1, rfl, ?_⟩
    walk_at "stp"
    refine mIx_l (SqL.of e6.h) (EV.atX s1) ?_
    walk_at "stp"
    obtain ⟨dx6, pt6, us6, ho6, hb6, hdd6⟩ := e6.hs s1
    refine ⟨X s1, dx6, _, rfl, ho6, fs_no, ?_⟩
    walk_at "stp"
    refine ⟨PB s1, BS2 s1, n1, nm (KN2 s1) t1, e6.hs s1, rfl, hR1, by have := bd2 s1; omega, fun _ v7 J7 s7 d7 => ?_, fun z => absurd z (by rw [nm_size]; omega)⟩
    have e7 := e6.same s7
    walk_at "stp"
    refine mIx_l (SqL.of e7.k) (EV.atX (X := KD) s1) ?_
    walk_at "stp"
    refine ⟨t1, KN2 s1, hd1.mono s7, by omega, by omega, e7.kd s1, hv1, fun x a h => by have h1 := (List.getElem?_eq_some_iff.mp (e6.ko s1 x a h)).1; have h2 := bd2 s1; omega, fun v8 J8 s8 d8 => ?_⟩
    have e8 := e7.same s8
    walk_at "stp"
    refine mEqT_i (d7.mono s8) d8 (by rw [nm_size]; omega) ?_
    rw [eqb_self]
    walk_at "stp"
    refine iteF ?_
    walk_at "stp"
    refine mIx_l (SqL.of e8.k) (EV.atX (X := KD) s1) ?_
    walk_at "stp"
    refine ⟨PB s1, BS2 s1, n1, t1, KN2 s1, e8.hs s1, rfl, hd1.mono (s7.trans s8), by omega, by omega, e8.kd s1, hv1, e8.ko s1, hR1, fun J9 s9 => ?_⟩
    have e9 := e8.same s9
    walk_at "stp"
    refine iteF ?_
    walk_at "stp"
    refine mIx_l (SqL.of e9.c) hc8 ?_
    walk_at "stp"
    refine mIx_l (SqL.of e9.c) hc9 ?_
    walk_at "stp"
    refine ⟨ln (by show 3 ≤ 100000; decide), fun pm hpm => ?_⟩
    have spm : Same J9 (upd J9 pm (.lst [.int (c8 % 61), .int (39 + c9 % 3), .int 0])) := same_new hpm _
    have kpm : (upd J9 pm (.lst [.int (c8 % 61), .int (39 + c9 % 3), .int 0])) pm = some (.lst [.int (c8 % 61), .int (39 + c9 % 3), .int 0]) := upd_same
    generalize upd J9 pm (.lst [.int (c8 % 61), .int (39 + c9 % 3), .int 0]) = JA at spm kpm ⊢
    walk_at "stp"
    have eA := e9.same spm
    have s9A := s7.trans (s8.trans (s9.trans spm))
    refine ⟨pm, rfl, ⟨_, SqL.of kpm⟩, ?_⟩
    have hms : ∀ i, i < 3 → ∃ mm : Nat, [V.int (c8 % 61), .int (39 + c9 % 3), .int 0].getD i .non = .int (mm : Int) ∧ mm ≤ 400 := fun i hi => by
      match i, hi with
      | 0, _ => exact ⟨(c8 % 61).toNat, by show V.int _ = _; rw [show (((c8 % 61).toNat : Nat) : Int) = c8 % 61 by omega], by omega⟩
      | 1, _ => exact ⟨(39 + c9 % 3).toNat, by show V.int _ = _; rw [show (((39 + c9 % 3).toNat : Nat) : Int) = 39 + c9 % 3 by omega], by omega⟩
      | 2, _ => exact ⟨0, rfl, by omega⟩
    refine for_row (row_list (xs := [.int (c8 % 61), .int (39 + c9 % 3), .int 0])) (fun i σ' J' => ∃ o11 : Option V, σ' = [some (.ref a), some (.ref pc), some (.ref pl), some (.ref ph), some (.ref pk), some (.ref pr), p6, some (.int (sI s1)), some v1, some (.int (n1 : Int)), some (.ref (X s1)), o11] ∧ Same JA J') ⟨_, rfl, Same.refl _⟩ (fun i σ' J' hP => by obtain ⟨_, _, s⟩ := hP; exact s.seq (SqL.of kpm)) (fun i σ' JB hi hP => ?_) (fun σ' JB hP => ?_)
    · obtain ⟨o11, rfl, sB⟩ := hP
      obtain ⟨mm, e11, e12⟩ := hms i hi
      rw [e11]
      walk_at "stp"
      refine ⟨t1, hd1.mono (s9A.trans sB), by omega, by decide, fun JC sC => ?_⟩
      walk_at "stp"
      refine ⟨PB s1, BS2 s1, n1, mm, nm (KN2 s1) t1, (eA.same (sB.trans sC)).hs s1, rfl, by rw [nm_size], rfl, e12, hR1, fun JD sD => ?_⟩
      walk_at "stp"
      refine iteF ?_
      walk_at "stp"
      exact ⟨_, rfl, sB.trans (sC.trans sD)⟩
    obtain ⟨o11, rfl, sB⟩ := hP
    exact ⟨_, _, _, _, _, _, rfl, s6.trans (s9A.trans sB)⟩
  obtain ⟨p6, p7, p8, p9, p10, p11, rfl, s6⟩ := hP
  walk_at "stp"
  exact q _
end
section
variable {P : Program} {w : World} {K : PySem.W.Frag} {mg : Str → Option Value} {base : Heap} {t : Ad}
theorem ok_all (T : Txt K mg t) : FnOk P w K mg base CX0 90 t.a_law t.d_law ["_law_script"] (sp_law K) := by
  have h_TrailError_init := ok_TrailError_init (P := P) (w := w) (base := base) T
  have h_Heap_init := ok_Heap_init (P := P) (w := w) (base := base) T
  have h_Heap_made := ok_Heap_made (P := P) (w := w) (base := base) T
  have h_Heap_end_of := ok_Heap_end_of (P := P) (w := w) (base := base) T
  have h_num := ok_num (P := P) (w := w) (base := base) T
  have h_unknown := ok_unknown (P := P) (w := w) (base := base) T
  have h_app := ok_app (P := P) (w := w) (base := base) T
  have h_l_whole := ok_l_whole (P := P) (w := w) (base := base) T
  have h_l_cells := ok_l_cells (P := P) (w := w) (base := base) T
  have h_l_next := ok_l_next (P := P) (w := w) (base := base) T
  have h_Heap_free := ok_Heap_free T h_Heap_made
  have h_Heap_number := ok_Heap_number T h_Heap_made
  have h_Heap_app := ok_Heap_app T h_Heap_made
  have h_Heap_look := ok_Heap_look T h_Heap_end_of
  have h_Heap_parts := ok_Heap_parts T h_Heap_look
  have h_l_doubled := ok_l_doubled T h_Heap_app h_Heap_number
  have h_l_parts_right := ok_l_parts_right T h_Heap_parts h_l_whole
  have h_l_parts := ok_l_parts (P := P) (w := w) (base := base) T  41
  have h_l_read := ok_l_read (P := P) (w := w) (base := base) T  41
  have h_Heap_read_out := ok_Heap_read_out T h_Heap_look h_unknown h_num h_app 41
  have h_l_put := ok_l_put T h_Heap_app h_Heap_number h_Heap_free 41
  have h_l_seen := ok_l_seen T h_Heap_look h_l_whole 41
  have h_Heap_term := ok_Heap_term T h_Heap_read_out h_Heap_parts h_TrailError_init
  have h_l_big := ok_l_big T h_Heap_term
  have h_l_great := ok_l_great T h_l_doubled h_Heap_term h_l_parts h_l_big h_l_parts_right
  have h_l_edge_right := ok_l_edge_right T h_Heap_init h_Heap_app h_l_parts_right h_l_big h_l_parts h_Heap_free h_Heap_number h_Heap_term
  have h_l_term := ok_l_term T h_l_next h_l_parts 37
  exact ok_law T h_l_cells h_Heap_init h_l_term h_l_great h_l_edge_right h_l_put h_Heap_term h_l_read h_l_seen h_l_parts_right h_l_parts
end
theorem txt_mk {K : PySem.W.Frag} {h : Heap} {mg : Str → Option Value} (X : K.In h) (G : h.Ns mainGlobals mg)
    {k_TrailError : Addr}
    {nm_TrailError q_TrailError : Str} {N_TrailError : Addr} {bs_TrailError : List Value} {sn_TrailError : List Str} {sub_TrailError : List Value} {ab_TrailError : Bool} {col_TrailError : Option Bool} {dd_TrailError : Option Addr} {k0_TrailError k1_TrailError k2_TrailError k3_TrailError k5_TrailError : Option Value}
    {k_NoText : Addr}
    {k_NoSign : Addr}
    {k_NoRule : Addr}
    {k_Big : Addr}
    {nm_Big q_Big : Str} {N_Big : Addr} {bs_Big : List Value} {sn_Big : List Str} {sub_Big : List Value} {ab_Big : Bool} {col_Big : Option Bool} {dd_Big : Option Addr} {k0_Big k1_Big k2_Big k3_Big k5_Big : Option Value}
    {k_HasKeep : Addr}
    {k_NotLayered : Addr}
    {k_Fault : Addr}
    {k_Heap : Addr}
    {f0 : Addr} {od0 an0 : Option Addr} {sl0 : Array (Option Value)} {oc0 kV0 dc0 pm0 cd0 ct0 : Value}
    {v0 : Addr} {vd0 : Option Addr} {vn0 : Nat} {vs0 : Array (Option Value)} {w0_0 : Tok}
    {f1 : Addr} {od1 an1 : Option Addr} {sl1 : Array (Option Value)} {oc1 kV1 dc1 pm1 cd1 ct1 : Value}
    {f2 : Addr} {od2 an2 : Option Addr} {sl2 : Array (Option Value)} {oc2 kV2 dc2 pm2 cd2 ct2 : Value}
    {f3 : Addr} {od3 an3 : Option Addr} {sl3 : Array (Option Value)} {oc3 kV3 dc3 pm3 cd3 ct3 : Value}
    {f4 : Addr} {od4 an4 : Option Addr} {sl4 : Array (Option Value)} {oc4 kV4 dc4 pm4 cd4 ct4 : Value}
    {f5 : Addr} {od5 an5 : Option Addr} {sl5 : Array (Option Value)} {oc5 kV5 dc5 pm5 cd5 ct5 : Value}
    {f6 : Addr} {od6 an6 : Option Addr} {sl6 : Array (Option Value)} {oc6 kV6 dc6 pm6 cd6 ct6 : Value}
    {f7 : Addr} {od7 an7 : Option Addr} {sl7 : Array (Option Value)} {oc7 kV7 dc7 pm7 cd7 ct7 : Value}
    {f8 : Addr} {od8 an8 : Option Addr} {sl8 : Array (Option Value)} {oc8 kV8 dc8 pm8 cd8 ct8 : Value}
    {f9 : Addr} {od9 an9 : Option Addr} {sl9 : Array (Option Value)} {oc9 kV9 dc9 pm9 cd9 ct9 : Value}
    {f10 : Addr} {od10 an10 : Option Addr} {sl10 : Array (Option Value)} {oc10 kV10 dc10 pm10 cd10 ct10 : Value}
    {f11 : Addr} {od11 an11 : Option Addr} {sl11 : Array (Option Value)} {oc11 kV11 dc11 pm11 cd11 ct11 : Value}
    {f12 : Addr} {od12 an12 : Option Addr} {sl12 : Array (Option Value)} {oc12 kV12 dc12 pm12 cd12 ct12 : Value}
    {f13 : Addr} {od13 an13 : Option Addr} {sl13 : Array (Option Value)} {oc13 kV13 dc13 pm13 cd13 ct13 : Value}
    {f14 : Addr} {od14 an14 : Option Addr} {sl14 : Array (Option Value)} {oc14 kV14 dc14 pm14 cd14 ct14 : Value}
    {f15 : Addr} {od15 an15 : Option Addr} {sl15 : Array (Option Value)} {oc15 kV15 dc15 pm15 cd15 ct15 : Value}
    {f16 : Addr} {od16 an16 : Option Addr} {sl16 : Array (Option Value)} {oc16 kV16 dc16 pm16 cd16 ct16 : Value}
    {f17 : Addr} {od17 an17 : Option Addr} {sl17 : Array (Option Value)} {oc17 kV17 dc17 pm17 cd17 ct17 : Value}
    {f18 : Addr} {od18 an18 : Option Addr} {sl18 : Array (Option Value)} {oc18 kV18 dc18 pm18 cd18 ct18 : Value}
    {f19 : Addr} {od19 an19 : Option Addr} {sl19 : Array (Option Value)} {oc19 kV19 dc19 pm19 cd19 ct19 : Value}
    {f20 : Addr} {od20 an20 : Option Addr} {sl20 : Array (Option Value)} {oc20 kV20 dc20 pm20 cd20 ct20 : Value}
    {f21 : Addr} {od21 an21 : Option Addr} {sl21 : Array (Option Value)} {oc21 kV21 dc21 pm21 cd21 ct21 : Value}
    {f22 : Addr} {od22 an22 : Option Addr} {sl22 : Array (Option Value)} {oc22 kV22 dc22 pm22 cd22 ct22 : Value}
    {f23 : Addr} {od23 an23 : Option Addr} {sl23 : Array (Option Value)} {oc23 kV23 dc23 pm23 cd23 ct23 : Value}
    {f24 : Addr} {od24 an24 : Option Addr} {sl24 : Array (Option Value)} {oc24 kV24 dc24 pm24 cd24 ct24 : Value}
    {f25 : Addr} {od25 an25 : Option Addr} {sl25 : Array (Option Value)} {oc25 kV25 dc25 pm25 cd25 ct25 : Value}
    {f26 : Addr} {od26 an26 : Option Addr} {sl26 : Array (Option Value)} {oc26 kV26 dc26 pm26 cd26 ct26 : Value}
    {f27 : Addr} {od27 an27 : Option Addr} {sl27 : Array (Option Value)} {oc27 kV27 dc27 pm27 cd27 ct27 : Value}
    {c_FREE : Addr} {od_FREE : Option Addr} {n_FREE : Nat} {sl_FREE : Array (Option Value)} {t_FREE_0 : Tok}
    {t_MOST_PARTS : Tok}
    (ac_TrailError : PySem.W.nsIn K mainGlobals "TrailError" = some (some (.ref k_TrailError)))
    (oc_TrailError : K.lookup k_TrailError = some (excClassObj nm_TrailError q_TrailError k_TrailError N_TrailError bs_TrailError [.type "ValueError", .type "Exception", .type "BaseException", .type "object"] true sn_TrailError sub_TrailError ab_TrailError col_TrailError dd_TrailError k0_TrailError k1_TrailError k2_TrailError k3_TrailError k5_TrailError newS))
    (ga_TrailError : PySem.W.findIn K (.ref k_TrailError) "__getattribute__" = some (some (.builtin "BaseException.__getattribute__")))
    (gx_TrailError : PySem.W.findIn K (.ref k_TrailError) "__getattr__" = some none)
    (sa_TrailError : PySem.W.findIn K (.ref k_TrailError) "__setattr__" = some (some (.builtin "object.__setattr__")))
    (na_TrailError_row : PySem.W.findIn K (.ref k_TrailError) "row" = some none)
    (in_TrailError : PySem.W.findIn K (.ref k_TrailError) "__init__" = some (some (.ref f0)))
    (kc_TrailError : PySem.W.keepIn K (.ref k_TrailError) = true)
    (ac_NoText : PySem.W.nsIn K mainGlobals "NoText" = some (some (.ref k_NoText)))
    (ac_NoSign : PySem.W.nsIn K mainGlobals "NoSign" = some (some (.ref k_NoSign)))
    (ac_NoRule : PySem.W.nsIn K mainGlobals "NoRule" = some (some (.ref k_NoRule)))
    (ac_Big : PySem.W.nsIn K mainGlobals "Big" = some (some (.ref k_Big)))
    (oc_Big : K.lookup k_Big = some (excClassObj nm_Big q_Big k_Big N_Big bs_Big [.ref k_TrailError, .type "ValueError", .type "Exception", .type "BaseException", .type "object"] true sn_Big sub_Big ab_Big col_Big dd_Big k0_Big k1_Big k2_Big k3_Big k5_Big newS))
    (ga_Big : PySem.W.findIn K (.ref k_Big) "__getattribute__" = some (some (.builtin "BaseException.__getattribute__")))
    (gx_Big : PySem.W.findIn K (.ref k_Big) "__getattr__" = some none)
    (sa_Big : PySem.W.findIn K (.ref k_Big) "__setattr__" = some (some (.builtin "object.__setattr__")))
    (na_Big_row : PySem.W.findIn K (.ref k_Big) "row" = some none)
    (in_Big : PySem.W.findIn K (.ref k_Big) "__init__" = some (some (.ref f0)))
    (kc_Big : PySem.W.keepIn K (.ref k_Big) = true)
    (ja_Big : PySem.W.findIn K (.ref k_Big) "__class__" = some (some (.builtin "object.__class__")))
    (jn_Big : PySem.W.specialIn K (.builtin "object.__class__") "__get__" = some (some (.builtin "getset_descriptor.__get__")))
    (jt_Big : PySem.W.takesIn K (.builtin "object.__class__") = some true)
    (jm_Big : PySem.W.mroIn K k_Big (.type "object") = some true)
    (ac_HasKeep : PySem.W.nsIn K mainGlobals "HasKeep" = some (some (.ref k_HasKeep)))
    (ac_NotLayered : PySem.W.nsIn K mainGlobals "NotLayered" = some (some (.ref k_NotLayered)))
    (ac_Fault : PySem.W.nsIn K mainGlobals "Fault" = some (some (.ref k_Fault)))
    (ac_Heap : PySem.W.nsIn K mainGlobals "Heap" = some (some (.ref k_Heap)))
    (pg_Heap : PySem.W.plainGet K k_Heap Str.empty = true)
    (hd_Heap : PySem.W.hasDictIn K k_Heap = true)
    (po_Heap : PySem.W.plainOver K k_Heap = true)
    (sa_Heap : PySem.W.findIn K (.ref k_Heap) "__setattr__" = some (some (.builtin "object.__setattr__")))
    (na_Heap_boxes : PySem.W.findIn K (.ref k_Heap) "boxes" = some none)
    (na_Heap_trail : PySem.W.findIn K (.ref k_Heap) "trail" = some none)
    (mk_Heap : PySem.W.makesIn K k_Heap = true)
    (in_Heap : PySem.W.findIn K (.ref k_Heap) "__init__" = some (some (.ref f1)))
    (kc_Heap : PySem.W.keepIn K (.ref k_Heap) = true)
    (am_Heap_made : PySem.W.findIn K (.ref k_Heap) "made" = some (some (.ref f2)))
    (am_Heap_free : PySem.W.findIn K (.ref k_Heap) "free" = some (some (.ref f3)))
    (am_Heap_number : PySem.W.findIn K (.ref k_Heap) "number" = some (some (.ref f4)))
    (am_Heap_app : PySem.W.findIn K (.ref k_Heap) "app" = some (some (.ref f5)))
    (am_Heap_end_of : PySem.W.findIn K (.ref k_Heap) "end_of" = some (some (.ref f6)))
    (am_Heap_look : PySem.W.findIn K (.ref k_Heap) "look" = some (some (.ref f7)))
    (am_Heap_parts : PySem.W.findIn K (.ref k_Heap) "parts" = some (some (.ref f8)))
    (am_Heap_term : PySem.W.findIn K (.ref k_Heap) "term" = some (some (.ref f9)))
    (am_Heap_read_out : PySem.W.findIn K (.ref k_Heap) "read_out" = some (some (.ref f10)))
    (iz_Big_Fault : PySem.W.kitOne K (.ref k_Big) (.ref k_Fault) = some false)
    (iz_Big_HasKeep : PySem.W.kitOne K (.ref k_Big) (.ref k_HasKeep) = some false)
    (iz_Big_NoRule : PySem.W.kitOne K (.ref k_Big) (.ref k_NoRule) = some false)
    (iz_Big_NoSign : PySem.W.kitOne K (.ref k_Big) (.ref k_NoSign) = some false)
    (iz_Big_NotLayered : PySem.W.kitOne K (.ref k_Big) (.ref k_NotLayered) = some false)
    (iz_Big_NoText : PySem.W.kitOne K (.ref k_Big) (.ref k_NoText) = some false)
    (iz_Big_Big : PySem.W.kitOne K (.ref k_Big) (.ref k_Big) = some true)
    (iz_Big_ValueError : PySem.W.kitOne K (.ref k_Big) (.type "ValueError") = some true)
    (l0 : K.lookup f0 = some ⟨oc0, od0, .func (PySem.W.fnOf "__init__" "TrailError.__init__" (defArgs s_TrailError_init) (defBody s_TrailError_init) (defScope s_TrailError_init) (.ref v0) kV0 dc0 pm0 an0 cd0 ct0), sl0⟩)
    (c0 : PySem.W.codeIn K cd0 "TrailError.__init__" = true)
    (k0 : PySem.W.keepIn K (.ref f0) = true)
    (v0_ : K.lookup v0 = some ⟨.type "tuple", vd0, .seq #[.int 0 w0_0] vn0, vs0⟩)
    (fn0 : PySem.W.typeIn K (.ref f0) = some (.type "function"))
    (l1 : K.lookup f1 = some ⟨oc1, od1, .func (PySem.W.fnOf "__init__" "Heap.__init__" (defArgs s_Heap_init) (defBody s_Heap_init) (defScope s_Heap_init) .none kV1 dc1 pm1 an1 cd1 ct1), sl1⟩)
    (c1 : PySem.W.codeIn K cd1 "Heap.__init__" = true)
    (k1 : PySem.W.keepIn K (.ref f1) = true)
    (fn1 : PySem.W.typeIn K (.ref f1) = some (.type "function"))
    (l2 : K.lookup f2 = some ⟨oc2, od2, .func (PySem.W.fnOf "made" "Heap.made" (defArgs s_Heap_made) (defBody s_Heap_made) (defScope s_Heap_made) .none kV2 dc2 pm2 an2 cd2 ct2), sl2⟩)
    (c2 : PySem.W.codeIn K cd2 "Heap.made" = true)
    (k2 : PySem.W.keepIn K (.ref f2) = true)
    (fn2 : PySem.W.typeIn K (.ref f2) = some (.type "function"))
    (l3 : K.lookup f3 = some ⟨oc3, od3, .func (PySem.W.fnOf "free" "Heap.free" (defArgs s_Heap_free) (defBody s_Heap_free) (defScope s_Heap_free) .none kV3 dc3 pm3 an3 cd3 ct3), sl3⟩)
    (c3 : PySem.W.codeIn K cd3 "Heap.free" = true)
    (k3 : PySem.W.keepIn K (.ref f3) = true)
    (fn3 : PySem.W.typeIn K (.ref f3) = some (.type "function"))
    (l4 : K.lookup f4 = some ⟨oc4, od4, .func (PySem.W.fnOf "number" "Heap.number" (defArgs s_Heap_number) (defBody s_Heap_number) (defScope s_Heap_number) .none kV4 dc4 pm4 an4 cd4 ct4), sl4⟩)
    (c4 : PySem.W.codeIn K cd4 "Heap.number" = true)
    (k4 : PySem.W.keepIn K (.ref f4) = true)
    (fn4 : PySem.W.typeIn K (.ref f4) = some (.type "function"))
    (l5 : K.lookup f5 = some ⟨oc5, od5, .func (PySem.W.fnOf "app" "Heap.app" (defArgs s_Heap_app) (defBody s_Heap_app) (defScope s_Heap_app) .none kV5 dc5 pm5 an5 cd5 ct5), sl5⟩)
    (c5 : PySem.W.codeIn K cd5 "Heap.app" = true)
    (k5 : PySem.W.keepIn K (.ref f5) = true)
    (fn5 : PySem.W.typeIn K (.ref f5) = some (.type "function"))
    (l6 : K.lookup f6 = some ⟨oc6, od6, .func (PySem.W.fnOf "end_of" "Heap.end_of" (defArgs s_Heap_end_of) (defBody s_Heap_end_of) (defScope s_Heap_end_of) .none kV6 dc6 pm6 an6 cd6 ct6), sl6⟩)
    (c6 : PySem.W.codeIn K cd6 "Heap.end_of" = true)
    (k6 : PySem.W.keepIn K (.ref f6) = true)
    (fn6 : PySem.W.typeIn K (.ref f6) = some (.type "function"))
    (l7 : K.lookup f7 = some ⟨oc7, od7, .func (PySem.W.fnOf "look" "Heap.look" (defArgs s_Heap_look) (defBody s_Heap_look) (defScope s_Heap_look) .none kV7 dc7 pm7 an7 cd7 ct7), sl7⟩)
    (c7 : PySem.W.codeIn K cd7 "Heap.look" = true)
    (k7 : PySem.W.keepIn K (.ref f7) = true)
    (fn7 : PySem.W.typeIn K (.ref f7) = some (.type "function"))
    (l8 : K.lookup f8 = some ⟨oc8, od8, .func (PySem.W.fnOf "parts" "Heap.parts" (defArgs s_Heap_parts) (defBody s_Heap_parts) (defScope s_Heap_parts) .none kV8 dc8 pm8 an8 cd8 ct8), sl8⟩)
    (c8 : PySem.W.codeIn K cd8 "Heap.parts" = true)
    (k8 : PySem.W.keepIn K (.ref f8) = true)
    (fn8 : PySem.W.typeIn K (.ref f8) = some (.type "function"))
    (l9 : K.lookup f9 = some ⟨oc9, od9, .func (PySem.W.fnOf "term" "Heap.term" (defArgs s_Heap_term) (defBody s_Heap_term) (defScope s_Heap_term) .none kV9 dc9 pm9 an9 cd9 ct9), sl9⟩)
    (c9 : PySem.W.codeIn K cd9 "Heap.term" = true)
    (k9 : PySem.W.keepIn K (.ref f9) = true)
    (fn9 : PySem.W.typeIn K (.ref f9) = some (.type "function"))
    (l10 : K.lookup f10 = some ⟨oc10, od10, .func (PySem.W.fnOf "read_out" "Heap.read_out" (defArgs s_Heap_read_out) (defBody s_Heap_read_out) (defScope s_Heap_read_out) .none kV10 dc10 pm10 an10 cd10 ct10), sl10⟩)
    (c10 : PySem.W.codeIn K cd10 "Heap.read_out" = true)
    (k10 : PySem.W.keepIn K (.ref f10) = true)
    (fn10 : PySem.W.typeIn K (.ref f10) = some (.type "function"))
    (a11 : PySem.W.nsIn K mainGlobals "num" = some (some (.ref f11)))
    (l11 : K.lookup f11 = some ⟨oc11, od11, .func (PySem.W.fnOf "num" "num" (defArgs s_num) (defBody s_num) (defScope s_num) .none kV11 dc11 pm11 an11 cd11 ct11), sl11⟩)
    (c11 : PySem.W.codeIn K cd11 "num" = true)
    (k11 : PySem.W.keepIn K (.ref f11) = true)
    (a12 : PySem.W.nsIn K mainGlobals "unknown" = some (some (.ref f12)))
    (l12 : K.lookup f12 = some ⟨oc12, od12, .func (PySem.W.fnOf "unknown" "unknown" (defArgs s_unknown) (defBody s_unknown) (defScope s_unknown) .none kV12 dc12 pm12 an12 cd12 ct12), sl12⟩)
    (c12 : PySem.W.codeIn K cd12 "unknown" = true)
    (k12 : PySem.W.keepIn K (.ref f12) = true)
    (a13 : PySem.W.nsIn K mainGlobals "app" = some (some (.ref f13)))
    (l13 : K.lookup f13 = some ⟨oc13, od13, .func (PySem.W.fnOf "app" "app" (defArgs s_app) (defBody s_app) (defScope s_app) .none kV13 dc13 pm13 an13 cd13 ct13), sl13⟩)
    (c13 : PySem.W.codeIn K cd13 "app" = true)
    (k13 : PySem.W.keepIn K (.ref f13) = true)
    (a14 : PySem.W.nsIn K mainGlobals "_law_whole" = some (some (.ref f14)))
    (l14 : K.lookup f14 = some ⟨oc14, od14, .func (PySem.W.fnOf "_law_whole" "_law_whole" (defArgs s_l_whole) (defBody s_l_whole) (defScope s_l_whole) .none kV14 dc14 pm14 an14 cd14 ct14), sl14⟩)
    (c14 : PySem.W.codeIn K cd14 "_law_whole" = true)
    (k14 : PySem.W.keepIn K (.ref f14) = true)
    (a15 : PySem.W.nsIn K mainGlobals "_law_cells" = some (some (.ref f15)))
    (l15 : K.lookup f15 = some ⟨oc15, od15, .func (PySem.W.fnOf "_law_cells" "_law_cells" (defArgs s_l_cells) (defBody s_l_cells) (defScope s_l_cells) .none kV15 dc15 pm15 an15 cd15 ct15), sl15⟩)
    (c15 : PySem.W.codeIn K cd15 "_law_cells" = true)
    (k15 : PySem.W.keepIn K (.ref f15) = true)
    (a16 : PySem.W.nsIn K mainGlobals "_law_next" = some (some (.ref f16)))
    (l16 : K.lookup f16 = some ⟨oc16, od16, .func (PySem.W.fnOf "_law_next" "_law_next" (defArgs s_l_next) (defBody s_l_next) (defScope s_l_next) .none kV16 dc16 pm16 an16 cd16 ct16), sl16⟩)
    (c16 : PySem.W.codeIn K cd16 "_law_next" = true)
    (k16 : PySem.W.keepIn K (.ref f16) = true)
    (a17 : PySem.W.nsIn K mainGlobals "_law_parts" = some (some (.ref f17)))
    (l17 : K.lookup f17 = some ⟨oc17, od17, .func (PySem.W.fnOf "_law_parts" "_law_parts" (defArgs s_l_parts) (defBody s_l_parts) (defScope s_l_parts) .none kV17 dc17 pm17 an17 cd17 ct17), sl17⟩)
    (c17 : PySem.W.codeIn K cd17 "_law_parts" = true)
    (k17 : PySem.W.keepIn K (.ref f17) = true)
    (a18 : PySem.W.nsIn K mainGlobals "_law_term" = some (some (.ref f18)))
    (l18 : K.lookup f18 = some ⟨oc18, od18, .func (PySem.W.fnOf "_law_term" "_law_term" (defArgs s_l_term) (defBody s_l_term) (defScope s_l_term) .none kV18 dc18 pm18 an18 cd18 ct18), sl18⟩)
    (c18 : PySem.W.codeIn K cd18 "_law_term" = true)
    (k18 : PySem.W.keepIn K (.ref f18) = true)
    (a19 : PySem.W.nsIn K mainGlobals "_law_put" = some (some (.ref f19)))
    (l19 : K.lookup f19 = some ⟨oc19, od19, .func (PySem.W.fnOf "_law_put" "_law_put" (defArgs s_l_put) (defBody s_l_put) (defScope s_l_put) .none kV19 dc19 pm19 an19 cd19 ct19), sl19⟩)
    (c19 : PySem.W.codeIn K cd19 "_law_put" = true)
    (k19 : PySem.W.keepIn K (.ref f19) = true)
    (a20 : PySem.W.nsIn K mainGlobals "_law_read" = some (some (.ref f20)))
    (l20 : K.lookup f20 = some ⟨oc20, od20, .func (PySem.W.fnOf "_law_read" "_law_read" (defArgs s_l_read) (defBody s_l_read) (defScope s_l_read) .none kV20 dc20 pm20 an20 cd20 ct20), sl20⟩)
    (c20 : PySem.W.codeIn K cd20 "_law_read" = true)
    (k20 : PySem.W.keepIn K (.ref f20) = true)
    (a21 : PySem.W.nsIn K mainGlobals "_law_parts_right" = some (some (.ref f21)))
    (l21 : K.lookup f21 = some ⟨oc21, od21, .func (PySem.W.fnOf "_law_parts_right" "_law_parts_right" (defArgs s_l_parts_right) (defBody s_l_parts_right) (defScope s_l_parts_right) .none kV21 dc21 pm21 an21 cd21 ct21), sl21⟩)
    (c21 : PySem.W.codeIn K cd21 "_law_parts_right" = true)
    (k21 : PySem.W.keepIn K (.ref f21) = true)
    (a22 : PySem.W.nsIn K mainGlobals "_law_seen" = some (some (.ref f22)))
    (l22 : K.lookup f22 = some ⟨oc22, od22, .func (PySem.W.fnOf "_law_seen" "_law_seen" (defArgs s_l_seen) (defBody s_l_seen) (defScope s_l_seen) .none kV22 dc22 pm22 an22 cd22 ct22), sl22⟩)
    (c22 : PySem.W.codeIn K cd22 "_law_seen" = true)
    (k22 : PySem.W.keepIn K (.ref f22) = true)
    (a23 : PySem.W.nsIn K mainGlobals "_law_big" = some (some (.ref f23)))
    (l23 : K.lookup f23 = some ⟨oc23, od23, .func (PySem.W.fnOf "_law_big" "_law_big" (defArgs s_l_big) (defBody s_l_big) (defScope s_l_big) .none kV23 dc23 pm23 an23 cd23 ct23), sl23⟩)
    (c23 : PySem.W.codeIn K cd23 "_law_big" = true)
    (k23 : PySem.W.keepIn K (.ref f23) = true)
    (a24 : PySem.W.nsIn K mainGlobals "_law_doubled" = some (some (.ref f24)))
    (l24 : K.lookup f24 = some ⟨oc24, od24, .func (PySem.W.fnOf "_law_doubled" "_law_doubled" (defArgs s_l_doubled) (defBody s_l_doubled) (defScope s_l_doubled) .none kV24 dc24 pm24 an24 cd24 ct24), sl24⟩)
    (c24 : PySem.W.codeIn K cd24 "_law_doubled" = true)
    (k24 : PySem.W.keepIn K (.ref f24) = true)
    (a25 : PySem.W.nsIn K mainGlobals "_law_great" = some (some (.ref f25)))
    (l25 : K.lookup f25 = some ⟨oc25, od25, .func (PySem.W.fnOf "_law_great" "_law_great" (defArgs s_l_great) (defBody s_l_great) (defScope s_l_great) .none kV25 dc25 pm25 an25 cd25 ct25), sl25⟩)
    (c25 : PySem.W.codeIn K cd25 "_law_great" = true)
    (k25 : PySem.W.keepIn K (.ref f25) = true)
    (a26 : PySem.W.nsIn K mainGlobals "_law_edge_right" = some (some (.ref f26)))
    (l26 : K.lookup f26 = some ⟨oc26, od26, .func (PySem.W.fnOf "_law_edge_right" "_law_edge_right" (defArgs s_l_edge_right) (defBody s_l_edge_right) (defScope s_l_edge_right) .none kV26 dc26 pm26 an26 cd26 ct26), sl26⟩)
    (c26 : PySem.W.codeIn K cd26 "_law_edge_right" = true)
    (k26 : PySem.W.keepIn K (.ref f26) = true)
    (a27 : PySem.W.nsIn K mainGlobals "law" = some (some (.ref f27)))
    (l27 : K.lookup f27 = some ⟨oc27, od27, .func (PySem.W.fnOf "law" "law" (defArgs s_law) (defBody s_law) (defScope s_law) .none kV27 dc27 pm27 an27 cd27 ct27), sl27⟩)
    (c27 : PySem.W.codeIn K cd27 "law" = true)
    (k27 : PySem.W.keepIn K (.ref f27) = true)
    (al_app_terms : PySem.W.nsIn K mainGlobals "app_terms" = some (some (.ref f13)))
    (z0 : PySem.W.nsIn K mainGlobals "ValueError" = some none)
    (z1 : PySem.W.nsIn K mainGlobals "bool" = some none)
    (z2 : PySem.W.nsIn K mainGlobals "int" = some none)
    (z3 : PySem.W.nsIn K mainGlobals "isinstance" = some none)
    (z4 : PySem.W.nsIn K mainGlobals "len" = some none)
    (z5 : PySem.W.nsIn K mainGlobals "list" = some none)
    (z6 : PySem.W.nsIn K mainGlobals "min" = some none)
    (z7 : PySem.W.nsIn K mainGlobals "range" = some none)
    (z8 : PySem.W.nsIn K mainGlobals "str" = some none)
    (z9 : PySem.W.nsIn K mainGlobals "sum" = some none)
    (z10 : PySem.W.nsIn K mainGlobals "tuple" = some none)
    (y0 : PySem.W.nsIn K mainGlobals "FREE" = some (some (.ref c_FREE)))
    (y0_0 : K.lookup c_FREE = some ⟨.type "tuple", od_FREE, .seq #[.str (PySem.Str.ofString "free") t_FREE_0] n_FREE, sl_FREE⟩)
    (y1 : PySem.W.nsIn K mainGlobals "MOST_PARTS" = some (some (.int 40 t_MOST_PARTS)))
    : ∃ t : Ad, Txt K mg t ∧ ∀ (s : Shared) (u : Value), BindsTo s t.d_law ⟨[u], []⟩ [("_law_script", u)] := by
  have F0 := funD_mk (st := s_TrailError_init) l0 c0 k0
  have F1 := fun_mk (st := s_Heap_init) l1 c1 k1
  have F2 := fun_mk (st := s_Heap_made) l2 c2 k2
  have F3 := fun_mk (st := s_Heap_free) l3 c3 k3
  have F4 := fun_mk (st := s_Heap_number) l4 c4 k4
  have F5 := fun_mk (st := s_Heap_app) l5 c5 k5
  have F6 := fun_mk (st := s_Heap_end_of) l6 c6 k6
  have F7 := fun_mk (st := s_Heap_look) l7 c7 k7
  have F8 := fun_mk (st := s_Heap_parts) l8 c8 k8
  have F9 := fun_mk (st := s_Heap_term) l9 c9 k9
  have F10 := fun_mk (st := s_Heap_read_out) l10 c10 k10
  have F11 := fun_mk (st := s_num) l11 c11 k11
  have F12 := fun_mk (st := s_unknown) l12 c12 k12
  have F13 := fun_mk (st := s_app) l13 c13 k13
  have F14 := fun_mk (st := s_l_whole) l14 c14 k14
  have F15 := fun_mk (st := s_l_cells) l15 c15 k15
  have F16 := fun_mk (st := s_l_next) l16 c16 k16
  have F17 := fun_mk (st := s_l_parts) l17 c17 k17
  have F18 := fun_mk (st := s_l_term) l18 c18 k18
  have F19 := fun_mk (st := s_l_put) l19 c19 k19
  have F20 := fun_mk (st := s_l_read) l20 c20 k20
  have F21 := fun_mk (st := s_l_parts_right) l21 c21 k21
  have F22 := fun_mk (st := s_l_seen) l22 c22 k22
  have F23 := fun_mk (st := s_l_big) l23 c23 k23
  have F24 := fun_mk (st := s_l_doubled) l24 c24 k24
  have F25 := fun_mk (st := s_l_great) l25 c25 k25
  have F26 := fun_mk (st := s_l_edge_right) l26 c26 k26
  have F27 := fun_mk (st := s_law) l27 c27 k27
  exact ⟨⟨k_TrailError, k_NoText, k_NoSign, k_NoRule, k_Big, k_HasKeep, k_NotLayered, k_Fault, k_Heap, f0, _, v0, w0_0, f1, _, f2, _, f3, _, f4, _, f5, _, f6, _, f7, _, f8, _, f9, _, f10, _, f11, _, f12, _, f13, _, f14, _, f15, _, f16, _, f17, _, f18, _, f19, _, f20, _, f21, _, f22, _, f23, _, f24, _, f25, _, f26, _, f27, _, c_FREE, t_MOST_PARTS⟩, ⟨PySem.W.mg_of X G ac_TrailError,
    ⟨⟨nm_TrailError, q_TrailError, N_TrailError, bs_TrailError, sn_TrailError, sub_TrailError, ab_TrailError, col_TrailError, dd_TrailError, k0_TrailError, k1_TrailError, k2_TrailError, k3_TrailError, k5_TrailError, oc_TrailError⟩, by simp, by simp, by simp, by simp⟩,
    ⟨[], by simp, rfl⟩,
    ⟨ga_TrailError, gx_TrailError, sa_TrailError⟩,
    na_TrailError_row,
    ⟨⟨⟨nm_TrailError, q_TrailError, N_TrailError, bs_TrailError, sn_TrailError, sub_TrailError, ab_TrailError, col_TrailError, dd_TrailError, k0_TrailError, k1_TrailError, k2_TrailError, k3_TrailError, k5_TrailError, oc_TrailError⟩, by simp, by simp, by simp, by simp⟩, in_TrailError, fn0, kc_TrailError⟩,
    PySem.W.mg_of X G ac_NoText,
    PySem.W.mg_of X G ac_NoSign,
    PySem.W.mg_of X G ac_NoRule,
    PySem.W.mg_of X G ac_Big,
    ⟨⟨nm_Big, q_Big, N_Big, bs_Big, sn_Big, sub_Big, ab_Big, col_Big, dd_Big, k0_Big, k1_Big, k2_Big, k3_Big, k5_Big, oc_Big⟩, by simp, by simp, by simp, by simp⟩,
    ⟨[.ref k_TrailError], by simp, rfl⟩,
    ⟨ga_Big, gx_Big, sa_Big⟩,
    na_Big_row,
    ⟨⟨⟨nm_Big, q_Big, N_Big, bs_Big, sn_Big, sub_Big, ab_Big, col_Big, dd_Big, k0_Big, k1_Big, k2_Big, k3_Big, k5_Big, oc_Big⟩, by simp, by simp, by simp, by simp⟩, in_Big, fn0, kc_Big⟩,
    ⟨ja_Big, jn_Big, jt_Big, jm_Big⟩,
    iz_Big_Fault,
    iz_Big_HasKeep,
    iz_Big_NoRule,
    iz_Big_NoSign,
    iz_Big_NotLayered,
    iz_Big_NoText,
    iz_Big_Big,
    iz_Big_ValueError,
    PySem.W.mg_of X G ac_HasKeep,
    PySem.W.mg_of X G ac_NotLayered,
    PySem.W.mg_of X G ac_Fault,
    PySem.W.mg_of X G ac_Heap,
    ⟨pg_Heap, hd_Heap, po_Heap, sa_Heap⟩,
    na_Heap_boxes,
    na_Heap_trail,
    ⟨mk_Heap, in_Heap, beq_iff_eq.mpr fn1, kc_Heap⟩,
    ⟨am_Heap_made, beq_iff_eq.mpr fn2, k2⟩,
    ⟨am_Heap_free, beq_iff_eq.mpr fn3, k3⟩,
    ⟨am_Heap_number, beq_iff_eq.mpr fn4, k4⟩,
    ⟨am_Heap_app, beq_iff_eq.mpr fn5, k5⟩,
    ⟨am_Heap_end_of, beq_iff_eq.mpr fn6, k6⟩,
    ⟨am_Heap_look, beq_iff_eq.mpr fn7, k7⟩,
    ⟨am_Heap_parts, beq_iff_eq.mpr fn8, k8⟩,
    ⟨am_Heap_term, beq_iff_eq.mpr fn9, k9⟩,
    ⟨am_Heap_read_out, beq_iff_eq.mpr fn10, k10⟩,
    F0,
    fun s us KX hl => by obtain ⟨_, _, _, rfl⟩ := L2.ex3 (show us.length = 3 by simpa using hl); exact .of_defaults (T := v0) rfl (KX _ _ v0_) rfl rfl rfl,
    fun s us KX hl => by obtain ⟨_, _, rfl⟩ := L2.ex2 (show us.length = 2 by simpa using hl); exact .of_defaults (T := v0) rfl (KX _ _ v0_) rfl rfl rfl,
    F1,
    F1.binds (ps := ["self"]) (fun _ _ _ _ _ _ us hl => L2.us1 (P := fun us => bindArgs _ ⟨us, []⟩ = pure ((["self"] : List Str).zip us)) hl fun _ => rfl),
    F2,
    F2.binds (ps := ["self", "box"]) (fun _ _ _ _ _ _ us hl => L2.us2 (P := fun us => bindArgs _ ⟨us, []⟩ = pure ((["self", "box"] : List Str).zip us)) hl fun _ _ => rfl),
    F3,
    F3.binds (ps := ["self"]) (fun _ _ _ _ _ _ us hl => L2.us1 (P := fun us => bindArgs _ ⟨us, []⟩ = pure ((["self"] : List Str).zip us)) hl fun _ => rfl),
    F4,
    F4.binds (ps := ["self", "n"]) (fun _ _ _ _ _ _ us hl => L2.us2 (P := fun us => bindArgs _ ⟨us, []⟩ = pure ((["self", "n"] : List Str).zip us)) hl fun _ _ => rfl),
    F5,
    F5.binds (ps := ["self", "sign", "kids"]) (fun _ _ _ _ _ _ us hl => L2.us3 (P := fun us => bindArgs _ ⟨us, []⟩ = pure ((["self", "sign", "kids"] : List Str).zip us)) hl fun _ _ _ => rfl),
    F6,
    F6.binds (ps := ["self", "at"]) (fun _ _ _ _ _ _ us hl => L2.us2 (P := fun us => bindArgs _ ⟨us, []⟩ = pure ((["self", "at"] : List Str).zip us)) hl fun _ _ => rfl),
    F7,
    F7.binds (ps := ["self", "at"]) (fun _ _ _ _ _ _ us hl => L2.us2 (P := fun us => bindArgs _ ⟨us, []⟩ = pure ((["self", "at"] : List Str).zip us)) hl fun _ _ => rfl),
    F8,
    F8.binds (ps := ["self", "at", "most"]) (fun _ _ _ _ _ _ us hl => L2.us3 (P := fun us => bindArgs _ ⟨us, []⟩ = pure ((["self", "at", "most"] : List Str).zip us)) hl fun _ _ _ => rfl),
    F9,
    F9.binds (ps := ["self", "at"]) (fun _ _ _ _ _ _ us hl => L2.us2 (P := fun us => bindArgs _ ⟨us, []⟩ = pure ((["self", "at"] : List Str).zip us)) hl fun _ _ => rfl),
    F10,
    F10.binds (ps := ["self", "at"]) (fun _ _ _ _ _ _ us hl => L2.us2 (P := fun us => bindArgs _ ⟨us, []⟩ = pure ((["self", "at"] : List Str).zip us)) hl fun _ _ => rfl),
    F11,
    F11.binds (ps := ["n"]) (fun _ _ _ _ _ _ us hl => L2.us1 (P := fun us => bindArgs _ ⟨us, []⟩ = pure ((["n"] : List Str).zip us)) hl fun _ => rfl),
    PySem.W.mg_of X G a11,
    F12,
    F12.binds (ps := ["name"]) (fun _ _ _ _ _ _ us hl => L2.us1 (P := fun us => bindArgs _ ⟨us, []⟩ = pure ((["name"] : List Str).zip us)) hl fun _ => rfl),
    PySem.W.mg_of X G a12,
    F13,
    F13.binds (ps := ["sign", "kids"]) (fun _ _ _ _ _ _ us hl => L2.us2 (P := fun us => bindArgs _ ⟨us, []⟩ = pure ((["sign", "kids"] : List Str).zip us)) hl fun _ _ => rfl),
    PySem.W.mg_of X G a13,
    F14,
    F14.binds (ps := ["_law_found"]) (fun _ _ _ _ _ _ us hl => L2.us1 (P := fun us => bindArgs _ ⟨us, []⟩ = pure ((["_law_found"] : List Str).zip us)) hl fun _ => rfl),
    PySem.W.mg_of X G a14,
    F15,
    F15.binds (ps := ["_law_script", "_law_many"]) (fun _ _ _ _ _ _ us hl => L2.us2 (P := fun us => bindArgs _ ⟨us, []⟩ = pure ((["_law_script", "_law_many"] : List Str).zip us)) hl fun _ _ => rfl),
    PySem.W.mg_of X G a15,
    F16,
    F16.binds (ps := ["_law_left"]) (fun _ _ _ _ _ _ us hl => L2.us1 (P := fun us => bindArgs _ ⟨us, []⟩ = pure ((["_law_left"] : List Str).zip us)) hl fun _ => rfl),
    PySem.W.mg_of X G a16,
    F17,
    F17.binds (ps := ["_law_term_here"]) (fun _ _ _ _ _ _ us hl => L2.us1 (P := fun us => bindArgs _ ⟨us, []⟩ = pure ((["_law_term_here"] : List Str).zip us)) hl fun _ => rfl),
    PySem.W.mg_of X G a17,
    F18,
    F18.binds (ps := ["_law_left", "_law_room"]) (fun _ _ _ _ _ _ us hl => L2.us2 (P := fun us => bindArgs _ ⟨us, []⟩ = pure ((["_law_left", "_law_room"] : List Str).zip us)) hl fun _ _ => rfl),
    PySem.W.mg_of X G a18,
    F19,
    F19.binds (ps := ["_law_heap", "_law_term_here", "_law_known"]) (fun _ _ _ _ _ _ us hl => L2.us3 (P := fun us => bindArgs _ ⟨us, []⟩ = pure ((["_law_heap", "_law_term_here", "_law_known"] : List Str).zip us)) hl fun _ _ _ => rfl),
    PySem.W.mg_of X G a19,
    F20,
    F20.binds (ps := ["_law_term_here", "_law_known"]) (fun _ _ _ _ _ _ us hl => L2.us2 (P := fun us => bindArgs _ ⟨us, []⟩ = pure ((["_law_term_here", "_law_known"] : List Str).zip us)) hl fun _ _ => rfl),
    PySem.W.mg_of X G a20,
    F21,
    F21.binds (ps := ["_law_heap", "_law_at", "_law_size", "_law_most"]) (fun _ _ _ _ _ _ us hl => L2.us4 (P := fun us => bindArgs _ ⟨us, []⟩ = pure ((["_law_heap", "_law_at", "_law_size", "_law_most"] : List Str).zip us)) hl fun _ _ _ _ => rfl),
    PySem.W.mg_of X G a21,
    F22,
    F22.binds (ps := ["_law_heap", "_law_at", "_law_term_here", "_law_known"]) (fun _ _ _ _ _ _ us hl => L2.us4 (P := fun us => bindArgs _ ⟨us, []⟩ = pure ((["_law_heap", "_law_at", "_law_term_here", "_law_known"] : List Str).zip us)) hl fun _ _ _ _ => rfl),
    PySem.W.mg_of X G a22,
    F23,
    F23.binds (ps := ["_law_heap", "_law_at"]) (fun _ _ _ _ _ _ us hl => L2.us2 (P := fun us => bindArgs _ ⟨us, []⟩ = pure ((["_law_heap", "_law_at"] : List Str).zip us)) hl fun _ _ => rfl),
    PySem.W.mg_of X G a23,
    F24,
    F24.binds (ps := ["_law_heap", "_law_at", "_law_size", "_law_times"]) (fun _ _ _ _ _ _ us hl => L2.us4 (P := fun us => bindArgs _ ⟨us, []⟩ = pure ((["_law_heap", "_law_at", "_law_size", "_law_times"] : List Str).zip us)) hl fun _ _ _ _ => rfl),
    PySem.W.mg_of X G a24,
    F25,
    F25.binds (ps := ["_law_heap", "_law_term_here", "_law_at", "_law_times", "_law_cell"]) (fun _ _ _ _ _ _ us hl => L2.us5 (P := fun us => bindArgs _ ⟨us, []⟩ = pure ((["_law_heap", "_law_term_here", "_law_at", "_law_times", "_law_cell"] : List Str).zip us)) hl fun _ _ _ _ _ => rfl),
    PySem.W.mg_of X G a25,
    F26,
    F26.binds (ps := ["_law_cell"]) (fun _ _ _ _ _ _ us hl => L2.us1 (P := fun us => bindArgs _ ⟨us, []⟩ = pure ((["_law_cell"] : List Str).zip us)) hl fun _ => rfl),
    PySem.W.mg_of X G a26,
    F27,
    F27.binds (ps := ["_law_script"]) (fun _ _ _ _ _ _ us hl => L2.us1 (P := fun us => bindArgs _ ⟨us, []⟩ = pure ((["_law_script"] : List Str).zip us)) hl fun _ => rfl),
    PySem.W.mg_of X G a27,
    PySem.W.mg_of X G al_app_terms,
    PySem.W.mg_none_of X G z0,
    PySem.W.mg_none_of X G z1,
    PySem.W.mg_none_of X G z2,
    PySem.W.mg_none_of X G z3,
    PySem.W.mg_none_of X G z4,
    PySem.W.mg_none_of X G z5,
    PySem.W.mg_none_of X G z6,
    PySem.W.mg_none_of X G z7,
    PySem.W.mg_none_of X G z8,
    PySem.W.mg_none_of X G z9,
    PySem.W.mg_none_of X G z10,
    PySem.W.mg_of X G y0,
    fun _ => .inr ⟨_, _, _, y0_0, rfl, rfl, ln (by simp), (.cons ⟨_, rfl⟩ .nil)⟩,
    PySem.W.mg_of X G y1⟩, fun s u => .of_eq rfl⟩
noncomputable def k2 (P : Params) : Obj := .mk .none none (.dict #[] 0) #[]
noncomputable def k3 (P : Params) : Obj := .mk (.type "dict") none (.dict (List.toArray ((.mk (PyData.keyHash P "__name__") (.str "__name__" 165) (.str "law_goaltrail_k50_boxes_told" 546)) :: (.mk (PyData.keyHash P "__doc__") (.str "__doc__" 166) .none) :: (.mk (PyData.keyHash P "__package__") (.str "__package__" 167) .none) :: (.mk (PyData.keyHash P "__loader__") (.str "__loader__" 168) (.builtin "__main__.__loader__#opaque")) :: (.mk (PyData.keyHash P "__spec__") (.str "__spec__" 169) .none) :: (.mk (PyData.keyHash P "__annotations__") (.str "__annotations__" 170) (.ref 6)) :: (.mk (PyData.keyHash P "__builtins__") (.str "__builtins__" 171) (.ref 4)) :: (.mk (PyData.keyHash P "__file__") (.str "__file__" 173) (.str "/claim/cut.py" 172)) :: (.mk (PyData.keyHash P "__cached__") (.str "__cached__" 174) .none) :: (.mk (PyData.keyHash P "_wall") (.str "_wall" 193) (.ref 21)) :: (.mk (PyData.keyHash P "TrailError") (.str "TrailError" 224) (.ref 39)) :: (.mk (PyData.keyHash P "NoText") (.str "NoText" 240) (.ref 52)) :: (.mk (PyData.keyHash P "NoSign") (.str "NoSign" 256) (.ref 64)) :: (.mk (PyData.keyHash P "NoRule") (.str "NoRule" 272) (.ref 76)) :: (.mk (PyData.keyHash P "Big") (.str "Big" 288) (.ref 88)) :: (.mk (PyData.keyHash P "HasKeep") (.str "HasKeep" 304) (.ref 100)) :: (.mk (PyData.keyHash P "NotLayered") (.str "NotLayered" 331) (.ref 120)) :: (.mk (PyData.keyHash P "Fault") (.str "Fault" 358) (.ref 140)) :: (.mk (PyData.keyHash P "MOST_PARTS") (.str "MOST_PARTS" 362) (.int 40 361)) :: (.mk (PyData.keyHash P "num") (.str "num" 369) (.ref 149)) :: (.mk (PyData.keyHash P "unknown") (.str "unknown" 376) (.ref 156)) :: (.mk (PyData.keyHash P "app") (.str "app" 384) (.ref 163)) :: (.mk (PyData.keyHash P "app_terms") (.str "app_terms" 385) (.ref 163)) :: (.mk (PyData.keyHash P "FREE") (.str "FREE" 389) (.ref 164)) :: (.mk (PyData.keyHash P "Heap") (.str "Heap" 545) (.ref 284)) :: (.mk (PyData.keyHash P "_law_whole") (.str "_law_whole" 554) (.ref 295)) :: (.mk (PyData.keyHash P "_law_cells") (.str "_law_cells" 564) (.ref 302)) :: (.mk (PyData.keyHash P "_law_next") (.str "_law_next" 571) (.ref 309)) :: (.mk (PyData.keyHash P "_law_parts") (.str "_law_parts" 577) (.ref 314)) :: (.mk (PyData.keyHash P "_law_term") (.str "_law_term" 591) (.ref 321)) :: (.mk (PyData.keyHash P "_law_put") (.str "_law_put" 597) (.ref 326)) :: (.mk (PyData.keyHash P "_law_read") (.str "_law_read" 603) (.ref 331)) :: (.mk (PyData.keyHash P "_law_parts_right") (.str "_law_parts_right" 614) (.ref 338)) :: (.mk (PyData.keyHash P "_law_seen") (.str "_law_seen" 626) (.ref 345)) :: (.mk (PyData.keyHash P "_law_big") (.str "_law_big" 636) (.ref 352)) :: (.mk (PyData.keyHash P "_law_doubled") (.str "_law_doubled" 647) (.ref 359)) :: (.mk (PyData.keyHash P "_law_great") (.str "_law_great" 662) (.ref 366)) :: (.mk (PyData.keyHash P "_law_edge_right") (.str "_law_edge_right" 673) (.ref 373)) :: (.mk (PyData.keyHash P "law") (.str "law" 679) (.ref 378)) :: [])) 39) #[]
noncomputable def k29 (P : Params) : Obj := .mk (.type "tuple") none (.seq #[(.int 0 208)] 0) #[]
noncomputable def k35 (P : Params) : Obj := .mk (.type "code") none (.fields (List.toArray ((.str "__init__" 209) :: (.str "TrailError.__init__" 210) :: (.str "/claim/cut.py" 211) :: (.int 7 0) :: (.int 3 0) :: (.int 0 0) :: (.int 0 0) :: (.int 3 0) :: (.ref 30) :: (.bool true) :: (.int 181 0) :: (.ref 31) :: .none :: (.ref 32) :: (.ref 33) :: (.ref 34) :: (.int 215 0) :: (.int 7 0) :: (.str "/claim/cut.py" 216) :: []))) #[]
noncomputable def k36 (P : Params) : Obj := .mk (.type "function") none (.func (PySem.W.fnOf "__init__" "TrailError.__init__" (defArgs s_TrailError_init) (defBody s_TrailError_init) (defScope s_TrailError_init) (.ref 29) .none .none (.str "goaltrail.errors" 194) none (.ref 35) .none)) #[]
noncomputable def k38 (P : Params) : Obj := .mk (.type "dict") none (.dict (List.toArray ((.mk (PyData.keyHash P "__module__") (.str "__module__" 203) (.str "goaltrail.errors" 194)) :: (.mk (PyData.keyHash P "__firstlineno__") (.str "__firstlineno__" 207) (.int 5 206)) :: (.mk (PyData.keyHash P "__init__") (.str "__init__" 217) (.ref 36)) :: (.mk (PyData.keyHash P "__static_attributes__") (.str "__static_attributes__" 219) (.ref 37)) :: (.mk (PyData.keyHash P "__weakref__") (.str "__weakref__" 221) (.ref 40)) :: (.mk (PyData.keyHash P "__doc__") (.str "__doc__" 222) .none) :: [])) 3) #[]
noncomputable def k39 (P : Params) : Obj := .mk (.type "type") none (.cls (.mk "TrailError" [(.type "ValueError")] [(.ref 39), (.type "ValueError"), (.type "Exception"), (.type "BaseException"), (.type "object")] 38 "TrailError" Bool.true [] [(.ref 52), (.ref 64), (.ref 76), (.ref 88), (.ref 100), (.ref 120), (.ref 140)] Bool.false none Bool.false)) (List.toArray ((some (.ref 22)) :: none :: (some (.str "TrailError" 196)) :: (some (.str "TrailError" 204)) :: (some (.builtin "ValueError.__new__")) :: (some (.bool true)) :: []))
noncomputable def k40 (P : Params) : Obj := .mk (.type "getset_descriptor") none (.fields #[(.str "__weakref__" 220), (.ref 39), (.builtin "ExceptionGroup.__weakref__"), .none]) #[]
noncomputable def k51 (P : Params) : Obj := .mk (.type "dict") none (.dict #[(.mk (PyData.keyHash P "__module__") (.str "__module__" 232) (.str "goaltrail.errors" 194)), (.mk (PyData.keyHash P "__firstlineno__") (.str "__firstlineno__" 236) (.int 10 235)), (.mk (PyData.keyHash P "__static_attributes__") (.str "__static_attributes__" 237) (.ref 50)), (.mk (PyData.keyHash P "__doc__") (.str "__doc__" 238) .none)] 2) #[]
noncomputable def k52 (P : Params) : Obj := .mk (.type "type") none (.cls (.mk "NoText" [(.ref 39)] [(.ref 52), (.ref 39), (.type "ValueError"), (.type "Exception"), (.type "BaseException"), (.type "object")] 51 "NoText" Bool.true [] [] Bool.false none Bool.false)) (List.toArray ((some (.ref 43)) :: none :: (some (.str "NoText" 225)) :: (some (.str "NoText" 233)) :: (some (.builtin "ValueError.__new__")) :: (some (.bool true)) :: []))
noncomputable def k63 (P : Params) : Obj := .mk (.type "dict") none (.dict #[(.mk (PyData.keyHash P "__module__") (.str "__module__" 248) (.str "goaltrail.errors" 194)), (.mk (PyData.keyHash P "__firstlineno__") (.str "__firstlineno__" 252) (.int 12 251)), (.mk (PyData.keyHash P "__static_attributes__") (.str "__static_attributes__" 253) (.ref 62)), (.mk (PyData.keyHash P "__doc__") (.str "__doc__" 254) .none)] 2) #[]
noncomputable def k64 (P : Params) : Obj := .mk (.type "type") none (.cls (.mk "NoSign" [(.ref 39)] [(.ref 64), (.ref 39), (.type "ValueError"), (.type "Exception"), (.type "BaseException"), (.type "object")] 63 "NoSign" Bool.true [] [] Bool.false none Bool.false)) (List.toArray ((some (.ref 55)) :: none :: (some (.str "NoSign" 241)) :: (some (.str "NoSign" 249)) :: (some (.builtin "ValueError.__new__")) :: (some (.bool true)) :: []))
noncomputable def k75 (P : Params) : Obj := .mk (.type "dict") none (.dict #[(.mk (PyData.keyHash P "__module__") (.str "__module__" 264) (.str "goaltrail.errors" 194)), (.mk (PyData.keyHash P "__firstlineno__") (.str "__firstlineno__" 268) (.int 14 267)), (.mk (PyData.keyHash P "__static_attributes__") (.str "__static_attributes__" 269) (.ref 74)), (.mk (PyData.keyHash P "__doc__") (.str "__doc__" 270) .none)] 2) #[]
noncomputable def k76 (P : Params) : Obj := .mk (.type "type") none (.cls (.mk "NoRule" [(.ref 39)] [(.ref 76), (.ref 39), (.type "ValueError"), (.type "Exception"), (.type "BaseException"), (.type "object")] 75 "NoRule" Bool.true [] [] Bool.false none Bool.false)) (List.toArray ((some (.ref 67)) :: none :: (some (.str "NoRule" 257)) :: (some (.str "NoRule" 265)) :: (some (.builtin "ValueError.__new__")) :: (some (.bool true)) :: []))
noncomputable def k87 (P : Params) : Obj := .mk (.type "dict") none (.dict #[(.mk (PyData.keyHash P "__module__") (.str "__module__" 280) (.str "goaltrail.errors" 194)), (.mk (PyData.keyHash P "__firstlineno__") (.str "__firstlineno__" 284) (.int 16 283)), (.mk (PyData.keyHash P "__static_attributes__") (.str "__static_attributes__" 285) (.ref 86)), (.mk (PyData.keyHash P "__doc__") (.str "__doc__" 286) .none)] 2) #[]
noncomputable def k88 (P : Params) : Obj := .mk (.type "type") none (.cls (.mk "Big" [(.ref 39)] [(.ref 88), (.ref 39), (.type "ValueError"), (.type "Exception"), (.type "BaseException"), (.type "object")] 87 "Big" Bool.true [] [] Bool.false none Bool.false)) (List.toArray ((some (.ref 79)) :: none :: (some (.str "Big" 273)) :: (some (.str "Big" 281)) :: (some (.builtin "ValueError.__new__")) :: (some (.bool true)) :: []))
noncomputable def k99 (P : Params) : Obj := .mk (.type "dict") none (.dict #[(.mk (PyData.keyHash P "__module__") (.str "__module__" 296) (.str "goaltrail.errors" 194)), (.mk (PyData.keyHash P "__firstlineno__") (.str "__firstlineno__" 300) (.int 18 299)), (.mk (PyData.keyHash P "__static_attributes__") (.str "__static_attributes__" 301) (.ref 98)), (.mk (PyData.keyHash P "__doc__") (.str "__doc__" 302) .none)] 2) #[]
noncomputable def k100 (P : Params) : Obj := .mk (.type "type") none (.cls (.mk "HasKeep" [(.ref 39)] [(.ref 100), (.ref 39), (.type "ValueError"), (.type "Exception"), (.type "BaseException"), (.type "object")] 99 "HasKeep" Bool.true [] [] Bool.false none Bool.false)) (List.toArray ((some (.ref 91)) :: none :: (some (.str "HasKeep" 289)) :: (some (.str "HasKeep" 297)) :: (some (.builtin "ValueError.__new__")) :: (some (.bool true)) :: []))
noncomputable def k119 (P : Params) : Obj := .mk (.type "dict") none (.dict (List.toArray ((.mk (PyData.keyHash P "__module__") (.str "__module__" 312) (.str "goaltrail.errors" 194)) :: (.mk (PyData.keyHash P "__firstlineno__") (.str "__firstlineno__" 316) (.int 20 315)) :: (.mk (PyData.keyHash P "__init__") (.str "__init__" 326) (.ref 117)) :: (.mk (PyData.keyHash P "__static_attributes__") (.str "__static_attributes__" 328) (.ref 118)) :: (.mk (PyData.keyHash P "__doc__") (.str "__doc__" 329) .none) :: [])) 2) #[]
noncomputable def k120 (P : Params) : Obj := .mk (.type "type") none (.cls (.mk "NotLayered" [(.ref 39)] [(.ref 120), (.ref 39), (.type "ValueError"), (.type "Exception"), (.type "BaseException"), (.type "object")] 119 "NotLayered" Bool.true [] [] Bool.false none Bool.false)) (List.toArray ((some (.ref 103)) :: none :: (some (.str "NotLayered" 305)) :: (some (.str "NotLayered" 313)) :: (some (.builtin "ValueError.__new__")) :: (some (.bool true)) :: []))
noncomputable def k139 (P : Params) : Obj := .mk (.type "dict") none (.dict (List.toArray ((.mk (PyData.keyHash P "__module__") (.str "__module__" 339) (.str "goaltrail.errors" 194)) :: (.mk (PyData.keyHash P "__firstlineno__") (.str "__firstlineno__" 343) (.int 25 342)) :: (.mk (PyData.keyHash P "__init__") (.str "__init__" 353) (.ref 137)) :: (.mk (PyData.keyHash P "__static_attributes__") (.str "__static_attributes__" 355) (.ref 138)) :: (.mk (PyData.keyHash P "__doc__") (.str "__doc__" 356) .none) :: [])) 2) #[]
noncomputable def k140 (P : Params) : Obj := .mk (.type "type") none (.cls (.mk "Fault" [(.ref 39)] [(.ref 140), (.ref 39), (.type "ValueError"), (.type "Exception"), (.type "BaseException"), (.type "object")] 139 "Fault" Bool.true [] [] Bool.false none Bool.false)) (List.toArray ((some (.ref 123)) :: none :: (some (.str "Fault" 332)) :: (some (.str "Fault" 340)) :: (some (.builtin "ValueError.__new__")) :: (some (.bool true)) :: []))
noncomputable def k148 (P : Params) : Obj := .mk (.type "code") none (.fields (List.toArray ((.str "num" 363) :: (.str "num" 364) :: (.str "/claim/cut.py" 365) :: (.int 32 0) :: (.int 1 0) :: (.int 0 0) :: (.int 0 0) :: (.int 3 0) :: (.ref 143) :: (.bool true) :: (.int 181 0) :: (.ref 144) :: .none :: (.ref 145) :: (.ref 146) :: (.ref 147) :: (.int 367 0) :: (.int 32 0) :: (.str "/claim/cut.py" 368) :: []))) #[]
noncomputable def k149 (P : Params) : Obj := .mk (.type "function") none (.func (PySem.W.fnOf "num" "num" (defArgs s_num) (defBody s_num) (defScope s_num) .none .none .none (.str "goaltrail.terms" 359) none (.ref 148) .none)) #[]
noncomputable def k155 (P : Params) : Obj := .mk (.type "code") none (.fields (List.toArray ((.str "unknown" 370) :: (.str "unknown" 371) :: (.str "/claim/cut.py" 372) :: (.int 34 0) :: (.int 1 0) :: (.int 0 0) :: (.int 0 0) :: (.int 3 0) :: (.ref 150) :: (.bool true) :: (.int 181 0) :: (.ref 151) :: .none :: (.ref 152) :: (.ref 153) :: (.ref 154) :: (.int 374 0) :: (.int 34 0) :: (.str "/claim/cut.py" 375) :: []))) #[]
noncomputable def k156 (P : Params) : Obj := .mk (.type "function") none (.func (PySem.W.fnOf "unknown" "unknown" (defArgs s_unknown) (defBody s_unknown) (defScope s_unknown) .none .none .none (.str "goaltrail.terms" 359) none (.ref 155) .none)) #[]
noncomputable def k162 (P : Params) : Obj := .mk (.type "code") none (.fields (List.toArray ((.str "app" 377) :: (.str "app" 378) :: (.str "/claim/cut.py" 379) :: (.int 36 0) :: (.int 2 0) :: (.int 0 0) :: (.int 0 0) :: (.int 3 0) :: (.ref 157) :: (.bool true) :: (.int 181 0) :: (.ref 158) :: .none :: (.ref 159) :: (.ref 160) :: (.ref 161) :: (.int 382 0) :: (.int 36 0) :: (.str "/claim/cut.py" 383) :: []))) #[]
noncomputable def k163 (P : Params) : Obj := .mk (.type "function") none (.func (PySem.W.fnOf "app" "app" (defArgs s_app) (defBody s_app) (defScope s_app) .none .none .none (.str "goaltrail.terms" 359) none (.ref 162) .none)) #[]
noncomputable def k164 (P : Params) : Obj := .mk (.type "tuple") none (.seq #[(.str "free" 388)] 0) #[]
noncomputable def k177 (P : Params) : Obj := .mk (.type "code") none (.fields (List.toArray ((.str "__init__" 402) :: (.str "Heap.__init__" 403) :: (.str "/claim/cut.py" 404) :: (.int 43 0) :: (.int 1 0) :: (.int 0 0) :: (.int 0 0) :: (.int 3 0) :: (.ref 172) :: (.bool true) :: (.int 181 0) :: (.ref 173) :: .none :: (.ref 174) :: (.ref 175) :: (.ref 176) :: (.int 406 0) :: (.int 43 0) :: (.str "/claim/cut.py" 407) :: []))) #[]
noncomputable def k178 (P : Params) : Obj := .mk (.type "function") none (.func (PySem.W.fnOf "__init__" "Heap.__init__" (defArgs s_Heap_init) (defBody s_Heap_init) (defScope s_Heap_init) .none .none .none (.str "goaltrail.heap" 386) none (.ref 177) .none)) #[]
noncomputable def k184 (P : Params) : Obj := .mk (.type "code") none (.fields (List.toArray ((.str "made" 409) :: (.str "Heap.made" 410) :: (.str "/claim/cut.py" 411) :: (.int 47 0) :: (.int 2 0) :: (.int 0 0) :: (.int 0 0) :: (.int 3 0) :: (.ref 179) :: (.bool true) :: (.int 181 0) :: (.ref 180) :: .none :: (.ref 181) :: (.ref 182) :: (.ref 183) :: (.int 414 0) :: (.int 47 0) :: (.str "/claim/cut.py" 415) :: []))) #[]
noncomputable def k185 (P : Params) : Obj := .mk (.type "function") none (.func (PySem.W.fnOf "made" "Heap.made" (defArgs s_Heap_made) (defBody s_Heap_made) (defScope s_Heap_made) .none .none .none (.str "goaltrail.heap" 386) none (.ref 184) .none)) #[]
noncomputable def k191 (P : Params) : Obj := .mk (.type "code") none (.fields (List.toArray ((.str "free" 417) :: (.str "Heap.free" 418) :: (.str "/claim/cut.py" 419) :: (.int 51 0) :: (.int 1 0) :: (.int 0 0) :: (.int 0 0) :: (.int 3 0) :: (.ref 186) :: (.bool true) :: (.int 181 0) :: (.ref 187) :: .none :: (.ref 188) :: (.ref 189) :: (.ref 190) :: (.int 421 0) :: (.int 51 0) :: (.str "/claim/cut.py" 422) :: []))) #[]
noncomputable def k192 (P : Params) : Obj := .mk (.type "function") none (.func (PySem.W.fnOf "free" "Heap.free" (defArgs s_Heap_free) (defBody s_Heap_free) (defScope s_Heap_free) .none .none .none (.str "goaltrail.heap" 386) none (.ref 191) .none)) #[]
noncomputable def k198 (P : Params) : Obj := .mk (.type "code") none (.fields (List.toArray ((.str "number" 424) :: (.str "Heap.number" 425) :: (.str "/claim/cut.py" 426) :: (.int 54 0) :: (.int 2 0) :: (.int 0 0) :: (.int 0 0) :: (.int 3 0) :: (.ref 193) :: (.bool true) :: (.int 181 0) :: (.ref 194) :: .none :: (.ref 195) :: (.ref 196) :: (.ref 197) :: (.int 429 0) :: (.int 54 0) :: (.str "/claim/cut.py" 430) :: []))) #[]
noncomputable def k199 (P : Params) : Obj := .mk (.type "function") none (.func (PySem.W.fnOf "number" "Heap.number" (defArgs s_Heap_number) (defBody s_Heap_number) (defScope s_Heap_number) .none .none .none (.str "goaltrail.heap" 386) none (.ref 198) .none)) #[]
noncomputable def k205 (P : Params) : Obj := .mk (.type "code") none (.fields (List.toArray ((.str "app" 432) :: (.str "Heap.app" 433) :: (.str "/claim/cut.py" 434) :: (.int 57 0) :: (.int 3 0) :: (.int 0 0) :: (.int 0 0) :: (.int 3 0) :: (.ref 200) :: (.bool true) :: (.int 181 0) :: (.ref 201) :: .none :: (.ref 202) :: (.ref 203) :: (.ref 204) :: (.int 438 0) :: (.int 57 0) :: (.str "/claim/cut.py" 439) :: []))) #[]
noncomputable def k206 (P : Params) : Obj := .mk (.type "function") none (.func (PySem.W.fnOf "app" "Heap.app" (defArgs s_Heap_app) (defBody s_Heap_app) (defScope s_Heap_app) .none .none .none (.str "goaltrail.heap" 386) none (.ref 205) .none)) #[]
noncomputable def k212 (P : Params) : Obj := .mk (.type "code") none (.fields (List.toArray ((.str "end_of" 441) :: (.str "Heap.end_of" 442) :: (.str "/claim/cut.py" 443) :: (.int 60 0) :: (.int 2 0) :: (.int 0 0) :: (.int 0 0) :: (.int 3 0) :: (.ref 207) :: (.bool true) :: (.int 181 0) :: (.ref 208) :: .none :: (.ref 209) :: (.ref 210) :: (.ref 211) :: (.int 447 0) :: (.int 60 0) :: (.str "/claim/cut.py" 448) :: []))) #[]
noncomputable def k213 (P : Params) : Obj := .mk (.type "function") none (.func (PySem.W.fnOf "end_of" "Heap.end_of" (defArgs s_Heap_end_of) (defBody s_Heap_end_of) (defScope s_Heap_end_of) .none .none .none (.str "goaltrail.heap" 386) none (.ref 212) .none)) #[]
noncomputable def k219 (P : Params) : Obj := .mk (.type "code") none (.fields (List.toArray ((.str "look" 450) :: (.str "Heap.look" 451) :: (.str "/claim/cut.py" 452) :: (.int 66 0) :: (.int 2 0) :: (.int 0 0) :: (.int 0 0) :: (.int 3 0) :: (.ref 214) :: (.bool true) :: (.int 181 0) :: (.ref 215) :: .none :: (.ref 216) :: (.ref 217) :: (.ref 218) :: (.int 456 0) :: (.int 66 0) :: (.str "/claim/cut.py" 457) :: []))) #[]
noncomputable def k220 (P : Params) : Obj := .mk (.type "function") none (.func (PySem.W.fnOf "look" "Heap.look" (defArgs s_Heap_look) (defBody s_Heap_look) (defScope s_Heap_look) .none .none .none (.str "goaltrail.heap" 386) none (.ref 219) .none)) #[]
noncomputable def k268 (P : Params) : Obj := .mk (.type "code") none (.fields (List.toArray ((.str "parts" 510) :: (.str "Heap.parts" 511) :: (.str "/claim/cut.py" 512) :: (.int 88 0) :: (.int 3 0) :: (.int 0 0) :: (.int 0 0) :: (.int 3 0) :: (.ref 263) :: (.bool true) :: (.int 181 0) :: (.ref 264) :: .none :: (.ref 265) :: (.ref 266) :: (.ref 267) :: (.int 519 0) :: (.int 88 0) :: (.str "/claim/cut.py" 520) :: []))) #[]
noncomputable def k269 (P : Params) : Obj := .mk (.type "function") none (.func (PySem.W.fnOf "parts" "Heap.parts" (defArgs s_Heap_parts) (defBody s_Heap_parts) (defScope s_Heap_parts) .none .none .none (.str "goaltrail.heap" 386) none (.ref 268) .none)) #[]
noncomputable def k275 (P : Params) : Obj := .mk (.type "code") none (.fields (List.toArray ((.str "term" 522) :: (.str "Heap.term" 523) :: (.str "/claim/cut.py" 524) :: (.int 100 0) :: (.int 2 0) :: (.int 0 0) :: (.int 0 0) :: (.int 3 0) :: (.ref 270) :: (.bool true) :: (.int 181 0) :: (.ref 271) :: .none :: (.ref 272) :: (.ref 273) :: (.ref 274) :: (.int 527 0) :: (.int 100 0) :: (.str "/claim/cut.py" 528) :: []))) #[]
noncomputable def k276 (P : Params) : Obj := .mk (.type "function") none (.func (PySem.W.fnOf "term" "Heap.term" (defArgs s_Heap_term) (defBody s_Heap_term) (defScope s_Heap_term) .none .none .none (.str "goaltrail.heap" 386) none (.ref 275) .none)) #[]
noncomputable def k280 (P : Params) : Obj := .mk (.type "code") none (.fields (List.toArray ((.str "read_out" 530) :: (.str "Heap.read_out" 531) :: (.str "/claim/cut.py" 532) :: (.int 105 0) :: (.int 2 0) :: (.int 0 0) :: (.int 0 0) :: (.int 3 0) :: (.ref 277) :: (.bool true) :: (.int 181 0) :: (.ref 278) :: .none :: .none :: .none :: (.ref 279) :: (.int 533 0) :: (.int 105 0) :: (.str "/claim/cut.py" 534) :: []))) #[]
noncomputable def k281 (P : Params) : Obj := .mk (.type "function") none (.func (PySem.W.fnOf "read_out" "Heap.read_out" (defArgs s_Heap_read_out) (defBody s_Heap_read_out) (defScope s_Heap_read_out) .none .none .none (.str "goaltrail.heap" 386) none (.ref 280) .none)) #[]
noncomputable def k283 (P : Params) : Obj := .mk (.type "dict") none (.dict (List.toArray ((.mk (PyData.keyHash P "__module__") (.str "__module__" 397) (.str "goaltrail.heap" 386)) :: (.mk (PyData.keyHash P "__firstlineno__") (.str "__firstlineno__" 401) (.int 41 400)) :: (.mk (PyData.keyHash P "__init__") (.str "__init__" 408) (.ref 178)) :: (.mk (PyData.keyHash P "made") (.str "made" 416) (.ref 185)) :: (.mk (PyData.keyHash P "free") (.str "free" 423) (.ref 192)) :: (.mk (PyData.keyHash P "number") (.str "number" 431) (.ref 199)) :: (.mk (PyData.keyHash P "app") (.str "app" 440) (.ref 206)) :: (.mk (PyData.keyHash P "end_of") (.str "end_of" 449) (.ref 213)) :: (.mk (PyData.keyHash P "look") (.str "look" 458) (.ref 220)) :: (.mk (PyData.keyHash P "one") (.str "one" 467) (.ref 227)) :: (.mk (PyData.keyHash P "kids_of_one") (.str "kids_of_one" 476) (.ref 234)) :: (.mk (PyData.keyHash P "bind") (.str "bind" 485) (.ref 241)) :: (.mk (PyData.keyHash P "stands_within") (.str "stands_within" 494) (.ref 248)) :: (.mk (PyData.keyHash P "mark") (.str "mark" 501) (.ref 255)) :: (.mk (PyData.keyHash P "back_to") (.str "back_to" 509) (.ref 262)) :: (.mk (PyData.keyHash P "parts") (.str "parts" 521) (.ref 269)) :: (.mk (PyData.keyHash P "term") (.str "term" 529) (.ref 276)) :: (.mk (PyData.keyHash P "read_out") (.str "read_out" 535) (.ref 281)) :: (.mk (PyData.keyHash P "__static_attributes__") (.str "__static_attributes__" 538) (.ref 282)) :: (.mk (PyData.keyHash P "__dict__") (.str "__dict__" 540) (.ref 285)) :: (.mk (PyData.keyHash P "__weakref__") (.str "__weakref__" 542) (.ref 286)) :: (.mk (PyData.keyHash P "__doc__") (.str "__doc__" 543) .none) :: [])) 4) #[]
noncomputable def k284 (P : Params) : Obj := .mk (.type "type") none (.cls (.mk "Heap" [(.type "object")] [(.ref 284), (.type "object")] 283 "Heap" Bool.true [] [] Bool.false none Bool.false)) (List.toArray (none :: none :: (some (.str "Heap" 390)) :: (some (.str "Heap" 398)) :: (some (.builtin "object.__new__")) :: (some (.bool true)) :: []))
noncomputable def k285 (P : Params) : Obj := .mk (.type "getset_descriptor") none (.fields #[(.str "__dict__" 539), (.ref 284), (.builtin "function.__dict__"), (.builtin "function.__dict__#set")]) #[]
noncomputable def k286 (P : Params) : Obj := .mk (.type "getset_descriptor") none (.fields #[(.str "__weakref__" 541), (.ref 284), (.builtin "ExceptionGroup.__weakref__"), .none]) #[]
noncomputable def k294 (P : Params) : Obj := .mk (.type "code") none (.fields (List.toArray ((.str "_law_whole" 548) :: (.str "_law_whole" 549) :: (.str "/claim/cut.py" 550) :: (.int 114 0) :: (.int 1 0) :: (.int 0 0) :: (.int 0 0) :: (.int 3 0) :: (.ref 289) :: (.bool true) :: (.int 181 0) :: (.ref 290) :: .none :: (.ref 291) :: (.ref 292) :: (.ref 293) :: (.int 552 0) :: (.int 114 0) :: (.str "/claim/cut.py" 553) :: []))) #[]
noncomputable def k295 (P : Params) : Obj := .mk (.type "function") none (.func (PySem.W.fnOf "_law_whole" "_law_whole" (defArgs s_l_whole) (defBody s_l_whole) (defScope s_l_whole) .none .none .none (.str "law_goaltrail_k50_boxes_told" 546) none (.ref 294) .none)) #[]
noncomputable def k301 (P : Params) : Obj := .mk (.type "code") none (.fields (List.toArray ((.str "_law_cells" 555) :: (.str "_law_cells" 556) :: (.str "/claim/cut.py" 557) :: (.int 116 0) :: (.int 2 0) :: (.int 0 0) :: (.int 0 0) :: (.int 3 0) :: (.ref 296) :: (.bool true) :: (.int 181 0) :: (.ref 297) :: .none :: (.ref 298) :: (.ref 299) :: (.ref 300) :: (.int 562 0) :: (.int 116 0) :: (.str "/claim/cut.py" 563) :: []))) #[]
noncomputable def k302 (P : Params) : Obj := .mk (.type "function") none (.func (PySem.W.fnOf "_law_cells" "_law_cells" (defArgs s_l_cells) (defBody s_l_cells) (defScope s_l_cells) .none .none .none (.str "law_goaltrail_k50_boxes_told" 546) none (.ref 301) .none)) #[]
noncomputable def k308 (P : Params) : Obj := .mk (.type "code") none (.fields (List.toArray ((.str "_law_next" 565) :: (.str "_law_next" 566) :: (.str "/claim/cut.py" 567) :: (.int 125 0) :: (.int 1 0) :: (.int 0 0) :: (.int 0 0) :: (.int 3 0) :: (.ref 303) :: (.bool true) :: (.int 181 0) :: (.ref 304) :: .none :: (.ref 305) :: (.ref 306) :: (.ref 307) :: (.int 569 0) :: (.int 125 0) :: (.str "/claim/cut.py" 570) :: []))) #[]
noncomputable def k309 (P : Params) : Obj := .mk (.type "function") none (.func (PySem.W.fnOf "_law_next" "_law_next" (defArgs s_l_next) (defBody s_l_next) (defScope s_l_next) .none .none .none (.str "law_goaltrail_k50_boxes_told" 546) none (.ref 308) .none)) #[]
noncomputable def k313 (P : Params) : Obj := .mk (.type "code") none (.fields (List.toArray ((.str "_law_parts" 572) :: (.str "_law_parts" 573) :: (.str "/claim/cut.py" 574) :: (.int 129 0) :: (.int 1 0) :: (.int 0 0) :: (.int 0 0) :: (.int 3 0) :: (.ref 310) :: (.bool true) :: (.int 181 0) :: (.ref 311) :: .none :: .none :: .none :: (.ref 312) :: (.int 575 0) :: (.int 129 0) :: (.str "/claim/cut.py" 576) :: []))) #[]
noncomputable def k314 (P : Params) : Obj := .mk (.type "function") none (.func (PySem.W.fnOf "_law_parts" "_law_parts" (defArgs s_l_parts) (defBody s_l_parts) (defScope s_l_parts) .none .none .none (.str "law_goaltrail_k50_boxes_told" 546) none (.ref 313) .none)) #[]
noncomputable def k320 (P : Params) : Obj := .mk (.type "code") none (.fields (List.toArray ((.str "_law_term" 578) :: (.str "_law_term" 579) :: (.str "/claim/cut.py" 580) :: (.int 133 0) :: (.int 2 0) :: (.int 0 0) :: (.int 0 0) :: (.int 3 0) :: (.ref 315) :: (.bool true) :: (.int 181 0) :: (.ref 316) :: .none :: (.ref 317) :: (.ref 318) :: (.ref 319) :: (.int 589 0) :: (.int 133 0) :: (.str "/claim/cut.py" 590) :: []))) #[]
noncomputable def k321 (P : Params) : Obj := .mk (.type "function") none (.func (PySem.W.fnOf "_law_term" "_law_term" (defArgs s_l_term) (defBody s_l_term) (defScope s_l_term) .none .none .none (.str "law_goaltrail_k50_boxes_told" 546) none (.ref 320) .none)) #[]
noncomputable def k325 (P : Params) : Obj := .mk (.type "code") none (.fields (List.toArray ((.str "_law_put" 592) :: (.str "_law_put" 593) :: (.str "/claim/cut.py" 594) :: (.int 153 0) :: (.int 3 0) :: (.int 0 0) :: (.int 0 0) :: (.int 3 0) :: (.ref 322) :: (.bool true) :: (.int 181 0) :: (.ref 323) :: .none :: .none :: .none :: (.ref 324) :: (.int 595 0) :: (.int 153 0) :: (.str "/claim/cut.py" 596) :: []))) #[]
noncomputable def k326 (P : Params) : Obj := .mk (.type "function") none (.func (PySem.W.fnOf "_law_put" "_law_put" (defArgs s_l_put) (defBody s_l_put) (defScope s_l_put) .none .none .none (.str "law_goaltrail_k50_boxes_told" 546) none (.ref 325) .none)) #[]
noncomputable def k330 (P : Params) : Obj := .mk (.type "code") none (.fields (List.toArray ((.str "_law_read" 598) :: (.str "_law_read" 599) :: (.str "/claim/cut.py" 600) :: (.int 166 0) :: (.int 2 0) :: (.int 0 0) :: (.int 0 0) :: (.int 3 0) :: (.ref 327) :: (.bool true) :: (.int 181 0) :: (.ref 328) :: .none :: .none :: .none :: (.ref 329) :: (.int 601 0) :: (.int 166 0) :: (.str "/claim/cut.py" 602) :: []))) #[]
noncomputable def k331 (P : Params) : Obj := .mk (.type "function") none (.func (PySem.W.fnOf "_law_read" "_law_read" (defArgs s_l_read) (defBody s_l_read) (defScope s_l_read) .none .none .none (.str "law_goaltrail_k50_boxes_told" 546) none (.ref 330) .none)) #[]
noncomputable def k337 (P : Params) : Obj := .mk (.type "code") none (.fields (List.toArray ((.str "_law_parts_right" 604) :: (.str "_law_parts_right" 605) :: (.str "/claim/cut.py" 606) :: (.int 172 0) :: (.int 4 0) :: (.int 0 0) :: (.int 0 0) :: (.int 3 0) :: (.ref 332) :: (.bool true) :: (.int 181 0) :: (.ref 333) :: .none :: (.ref 334) :: (.ref 335) :: (.ref 336) :: (.int 612 0) :: (.int 172 0) :: (.str "/claim/cut.py" 613) :: []))) #[]
noncomputable def k338 (P : Params) : Obj := .mk (.type "function") none (.func (PySem.W.fnOf "_law_parts_right" "_law_parts_right" (defArgs s_l_parts_right) (defBody s_l_parts_right) (defScope s_l_parts_right) .none .none .none (.str "law_goaltrail_k50_boxes_told" 546) none (.ref 337) .none)) #[]
noncomputable def k344 (P : Params) : Obj := .mk (.type "code") none (.fields (List.toArray ((.str "_law_seen" 615) :: (.str "_law_seen" 616) :: (.str "/claim/cut.py" 617) :: (.int 175 0) :: (.int 4 0) :: (.int 0 0) :: (.int 0 0) :: (.int 3 0) :: (.ref 339) :: (.bool true) :: (.int 181 0) :: (.ref 340) :: .none :: (.ref 341) :: (.ref 342) :: (.ref 343) :: (.int 624 0) :: (.int 175 0) :: (.str "/claim/cut.py" 625) :: []))) #[]
noncomputable def k345 (P : Params) : Obj := .mk (.type "function") none (.func (PySem.W.fnOf "_law_seen" "_law_seen" (defArgs s_l_seen) (defBody s_l_seen) (defScope s_l_seen) .none .none .none (.str "law_goaltrail_k50_boxes_told" 546) none (.ref 344) .none)) #[]
noncomputable def k351 (P : Params) : Obj := .mk (.type "code") none (.fields (List.toArray ((.str "_law_big" 627) :: (.str "_law_big" 628) :: (.str "/claim/cut.py" 629) :: (.int 191 0) :: (.int 2 0) :: (.int 0 0) :: (.int 0 0) :: (.int 3 0) :: (.ref 346) :: (.bool true) :: (.int 181 0) :: (.ref 347) :: .none :: (.ref 348) :: (.ref 349) :: (.ref 350) :: (.int 634 0) :: (.int 191 0) :: (.str "/claim/cut.py" 635) :: []))) #[]
noncomputable def k352 (P : Params) : Obj := .mk (.type "function") none (.func (PySem.W.fnOf "_law_big" "_law_big" (defArgs s_l_big) (defBody s_l_big) (defScope s_l_big) .none .none .none (.str "law_goaltrail_k50_boxes_told" 546) none (.ref 351) .none)) #[]
noncomputable def k358 (P : Params) : Obj := .mk (.type "code") none (.fields (List.toArray ((.str "_law_doubled" 637) :: (.str "_law_doubled" 638) :: (.str "/claim/cut.py" 639) :: (.int 202 0) :: (.int 4 0) :: (.int 0 0) :: (.int 0 0) :: (.int 3 0) :: (.ref 353) :: (.bool true) :: (.int 181 0) :: (.ref 354) :: .none :: (.ref 355) :: (.ref 356) :: (.ref 357) :: (.int 645 0) :: (.int 202 0) :: (.str "/claim/cut.py" 646) :: []))) #[]
noncomputable def k359 (P : Params) : Obj := .mk (.type "function") none (.func (PySem.W.fnOf "_law_doubled" "_law_doubled" (defArgs s_l_doubled) (defBody s_l_doubled) (defScope s_l_doubled) .none .none .none (.str "law_goaltrail_k50_boxes_told" 546) none (.ref 358) .none)) #[]
noncomputable def k365 (P : Params) : Obj := .mk (.type "code") none (.fields (List.toArray ((.str "_law_great" 648) :: (.str "_law_great" 649) :: (.str "/claim/cut.py" 650) :: (.int 211 0) :: (.int 5 0) :: (.int 0 0) :: (.int 0 0) :: (.int 3 0) :: (.ref 360) :: (.bool true) :: (.int 181 0) :: (.ref 361) :: .none :: (.ref 362) :: (.ref 363) :: (.ref 364) :: (.int 660 0) :: (.int 211 0) :: (.str "/claim/cut.py" 661) :: []))) #[]
noncomputable def k366 (P : Params) : Obj := .mk (.type "function") none (.func (PySem.W.fnOf "_law_great" "_law_great" (defArgs s_l_great) (defBody s_l_great) (defScope s_l_great) .none .none .none (.str "law_goaltrail_k50_boxes_told" 546) none (.ref 365) .none)) #[]
noncomputable def k372 (P : Params) : Obj := .mk (.type "code") none (.fields (List.toArray ((.str "_law_edge_right" 663) :: (.str "_law_edge_right" 664) :: (.str "/claim/cut.py" 665) :: (.int 220 0) :: (.int 1 0) :: (.int 0 0) :: (.int 0 0) :: (.int 3 0) :: (.ref 367) :: (.bool true) :: (.int 181 0) :: (.ref 368) :: .none :: (.ref 369) :: (.ref 370) :: (.ref 371) :: (.int 671 0) :: (.int 220 0) :: (.str "/claim/cut.py" 672) :: []))) #[]
noncomputable def k373 (P : Params) : Obj := .mk (.type "function") none (.func (PySem.W.fnOf "_law_edge_right" "_law_edge_right" (defArgs s_l_edge_right) (defBody s_l_edge_right) (defScope s_l_edge_right) .none .none .none (.str "law_goaltrail_k50_boxes_told" 546) none (.ref 372) .none)) #[]
noncomputable def k377 (P : Params) : Obj := .mk (.type "code") none (.fields (List.toArray ((.str "law" 674) :: (.str "law" 675) :: (.str "/claim/cut.py" 676) :: (.int 231 0) :: (.int 1 0) :: (.int 0 0) :: (.int 0 0) :: (.int 3 0) :: (.ref 374) :: (.bool true) :: (.int 181 0) :: (.ref 375) :: .none :: .none :: .none :: (.ref 376) :: (.int 677 0) :: (.int 231 0) :: (.str "/claim/cut.py" 678) :: []))) #[]
noncomputable def k378 (P : Params) : Obj := .mk (.type "function") none (.func (PySem.W.fnOf "law" "law" (defArgs s_law) (defBody s_law) (defScope s_law) .none .none .none (.str "law_goaltrail_k50_boxes_told" 546) none (.ref 377) .none)) #[]
noncomputable def KK : Params → PySem.W.Frag := fun P => (nat_lit 2, k2 P) :: (nat_lit 3, k3 P) :: (nat_lit 29, k29 P) :: (nat_lit 35, k35 P) :: (nat_lit 36, k36 P) :: (nat_lit 38, k38 P) :: (nat_lit 39, k39 P) :: (nat_lit 40, k40 P) :: (nat_lit 51, k51 P) :: (nat_lit 52, k52 P) :: (nat_lit 63, k63 P) :: (nat_lit 64, k64 P) :: (nat_lit 75, k75 P) :: (nat_lit 76, k76 P) :: (nat_lit 87, k87 P) :: (nat_lit 88, k88 P) :: (nat_lit 99, k99 P) :: (nat_lit 100, k100 P) :: (nat_lit 119, k119 P) :: (nat_lit 120, k120 P) :: (nat_lit 139, k139 P) :: (nat_lit 140, k140 P) :: (nat_lit 148, k148 P) :: (nat_lit 149, k149 P) :: (nat_lit 155, k155 P) :: (nat_lit 156, k156 P) :: (nat_lit 162, k162 P) :: (nat_lit 163, k163 P) :: (nat_lit 164, k164 P) :: (nat_lit 177, k177 P) :: (nat_lit 178, k178 P) :: (nat_lit 184, k184 P) :: (nat_lit 185, k185 P) :: (nat_lit 191, k191 P) :: (nat_lit 192, k192 P) :: (nat_lit 198, k198 P) :: (nat_lit 199, k199 P) :: (nat_lit 205, k205 P) :: (nat_lit 206, k206 P) :: (nat_lit 212, k212 P) :: (nat_lit 213, k213 P) :: (nat_lit 219, k219 P) :: (nat_lit 220, k220 P) :: (nat_lit 268, k268 P) :: (nat_lit 269, k269 P) :: (nat_lit 275, k275 P) :: (nat_lit 276, k276 P) :: (nat_lit 280, k280 P) :: (nat_lit 281, k281 P) :: (nat_lit 283, k283 P) :: (nat_lit 284, k284 P) :: (nat_lit 285, k285 P) :: (nat_lit 286, k286 P) :: (nat_lit 294, k294 P) :: (nat_lit 295, k295 P) :: (nat_lit 301, k301 P) :: (nat_lit 302, k302 P) :: (nat_lit 308, k308 P) :: (nat_lit 309, k309 P) :: (nat_lit 313, k313 P) :: (nat_lit 314, k314 P) :: (nat_lit 320, k320 P) :: (nat_lit 321, k321 P) :: (nat_lit 325, k325 P) :: (nat_lit 326, k326 P) :: (nat_lit 330, k330 P) :: (nat_lit 331, k331 P) :: (nat_lit 337, k337 P) :: (nat_lit 338, k338 P) :: (nat_lit 344, k344 P) :: (nat_lit 345, k345 P) :: (nat_lit 351, k351 P) :: (nat_lit 352, k352 P) :: (nat_lit 358, k358 P) :: (nat_lit 359, k359 P) :: (nat_lit 365, k365 P) :: (nat_lit 366, k366 P) :: (nat_lit 372, k372 P) :: (nat_lit 373, k373 P) :: (nat_lit 377, k377 P) :: (nat_lit 378, k378 P) :: []
noncomputable def prog : Program := PySem.Challenge.pw_goaltrail_k50_boxes_told
noncomputable def Q : Program := PySem.W.view prog [0, 2, 3, 4, 5, 6, 7, 8, 9, 11, 12, 13, 14, 15, 17, 18, 20, 21, 22, 23, 24, 25, 26, 27, 28, 29, 30, 31, 32, 33]
noncomputable def loose : List Str := ["TrailError", "NotLayered", "Fault", "app_terms"]
noncomputable def Xt (s : Shared) : Bool := PySem.W.xlAt Q [] s && PySem.W.recOk [] s
lay_quick prog Q loose Xt KK
noncomputable def ads : List Addr := [2, 3, 29, 35, 36, 38, 39, 40, 51, 52, 63, 64, 75, 76, 87, 88, 99, 100, 119, 120, 139, 140, 148, 149, 155, 156, 162, 163, 164, 177, 178, 184, 185, 191, 192, 198, 199, 205, 206, 212, 213, 219, 220, 268, 269, 275, 276, 280, 281, 283, 284, 285, 286, 294, 295, 301, 302, 308, 309, 313, 314, 320, 321, 325, 326, 330, 331, 337, 338, 344, 345, 351, 352, 358, 359, 365, 366, 372, 373, 377, 378]
theorem run1 : ∀ w : World, (fun os => (PySem.W.segRunT treeTable prog w 11 (some (.ref 6)) 0 3137 (bootS w os) (PySem.W.topStub prog)).map fun r => looks prog Q loose Xt (fun s => ads.map s.heap.get?) true (PySem.W.boot_heap w.params) r.2.1.abs) = fun _ => some (true, PySem.W.openGood Q loose, (KK w.params).map fun p => some p.2) := by
  intro w
  rw [PySem.W.Fast.te10110043849684766642, PySem.W.Fast.te14364793385576792824, PySem.W.Fast.te2530740449226627131, PySem.W.Fast.te3486900944545009338, PySem.W.Fast.te10845986317416049621, PySem.W.Fast.te5655336392911312201, PySem.W.Fast.te2269092192922489660, PySem.W.Fast.te11443658404787768991, PySem.W.Fast.te8497152684455178732, PySem.W.Fast.te18048671565189718596, PySem.W.Fast.te6894247980046229166]
  kernel_rfl
theorem left1 : PySem.W.LeftO prog Q loose Xt (fun s => ads.map s.heap.get?) (fun w => (KK w.params).map fun p => some p.2) 3137 := left_of (by kernel_rfl) (by decide) (fun _ => by kernel_rfl) boot_size (by decide) run1
theorem walk {l : PySem.W.OpenLaw} {q : Program} {loose : List Str} {XP : (Str → Option Value) → Heap → Prop} {YP : World → Heap → Prop} {d : DefRec} {K : Params → PySem.W.Frag} (hn : l.most = some 63) (hdf : d.params.defaults = [])
    (hY : ∀ (w : World) (h : Heap), YP w h → (K w.params).In h)
    (F : ∀ (w : World) (mg : Str → Option Value) (fa : Addr) (h : Heap), (K w.params).In h → h.Ns mainGlobals mg → mg d.name = some (.ref fa) →
      ∃ fd : FuncData, (∀ (s : Shared) (u : Value), BindsTo s fd ⟨[u], []⟩ [("_law_script", u)]) ∧ ∀ base : Heap, (K w.params).In base → base.Ns mainGlobals mg → FnOk l.prog w (K w.params) mg base CX0 90 fa fd ["_law_script"] (sp_law (K w.params))) :
    PySem.W.WalkO q loose XP YP l.row.toRowW d [] (fun f vs => PySem.call f vs) :=
  L2.walk_of (n := 63) (k := 90) (x := "_law_script") (CX := fun _ => CX0) (sp := fun w => sp_law (K w.params)) hn (by decide) hdf ⟨rfl, by decide, by decide⟩ hY F (fun _ _ a ns hl hO hS => ⟨ns, hS, hl, fun _ => rfl⟩) fun _ _ _ _ _ z => z
end My
open PySem PySem.W PyProof.Rows
set_option maxRecDepth 100000 in
set_option maxHeartbeats 0 in
theorem PySem.Challenge.cw_goaltrail_k50_boxes_told_holds : PySem.Challenge.rw_goaltrail_k50_boxes_told.Holds := by
  w_on; o_law
  refine PySem.W.holds_open (q := My.Q) (loose := My.loose) (Xt := My.Xt) (XP := PySem.W.XL My.Q []) (Yf := fun s => My.ads.map s.heap.get?) (Ya := fun w => (My.KK w.params).map fun (p : Addr × Obj) => some p.2) (YP := PySem.W.InK My.KK) (N := 3137) My.left1 (PySem.W.InK.of (fun _ => by kernel_rfl)) PySem.W.InK.keeps (fun s e => PySem.W.xl_of s (Bool.and_eq_true_iff.mp e).1) PySem.W.XL.keeps (by rfl) (by rfl) (by rfl) (fun s e => PySem.W.recFacts_of (Bool.and_eq_true_iff.mp e).2) (by rfl) (by assumption) (by decide +kernel) ⟨rfl, rfl, rfl, rfl, rfl, by decide +kernel⟩ ?hw ?hc
  (case hw => w_witness2)
  k_fill
  refine My.walk (l := PySem.Challenge.rw_goaltrail_k50_boxes_told) rfl rfl (fun w h Y => Y) ?F
  case F =>
    intro w mg fa h KX G hmg
    have TT : ∃ t : My.Ad, My.Txt (L2.KOf KX) mg t ∧ ∀ (s : Shared) (u : Value), BindsTo s t.d_law ⟨[u], []⟩ [("_law_script", u)] := by
      dsimp only [L2.KOf]
      refine' My.txt_mk KX G ?ac_TrailError ?oc_TrailError ?ga_TrailError ?gx_TrailError ?sa_TrailError ?na_TrailError_row ?in_TrailError ?kc_TrailError ?ac_NoText ?ac_NoSign ?ac_NoRule ?ac_Big ?oc_Big ?ga_Big ?gx_Big ?sa_Big ?na_Big_row ?in_Big ?kc_Big ?ja_Big ?jn_Big ?jt_Big ?jm_Big ?ac_HasKeep ?ac_NotLayered ?ac_Fault ?ac_Heap ?pg_Heap ?hd_Heap ?po_Heap ?sa_Heap ?na_Heap_boxes ?na_Heap_trail ?mk_Heap ?in_Heap ?kc_Heap ?am_Heap_made ?am_Heap_free ?am_Heap_number ?am_Heap_app ?am_Heap_end_of ?am_Heap_look ?am_Heap_parts ?am_Heap_term ?am_Heap_read_out ?iz_Big_Fault ?iz_Big_HasKeep ?iz_Big_NoRule ?iz_Big_NoSign ?iz_Big_NotLayered ?iz_Big_NoText ?iz_Big_Big ?iz_Big_ValueError ?l0 ?c0 ?k0 ?v0_ ?fn0 ?l1 ?c1 ?k1 ?fn1 ?l2 ?c2 ?k2 ?fn2 ?l3 ?c3 ?k3 ?fn3 ?l4 ?c4 ?k4 ?fn4 ?l5 ?c5 ?k5 ?fn5 ?l6 ?c6 ?k6 ?fn6 ?l7 ?c7 ?k7 ?fn7 ?l8 ?c8 ?k8 ?fn8 ?l9 ?c9 ?k9 ?fn9 ?l10 ?c10 ?k10 ?fn10 ?a11 ?l11 ?c11 ?k11 ?a12 ?l12 ?c12 ?k12 ?a13 ?l13 ?c13 ?k13 ?a14 ?l14 ?c14 ?k14 ?a15 ?l15 ?c15 ?k15 ?a16 ?l16 ?c16 ?k16 ?a17 ?l17 ?c17 ?k17 ?a18 ?l18 ?c18 ?k18 ?a19 ?l19 ?c19 ?k19 ?a20 ?l20 ?c20 ?k20 ?a21 ?l21 ?c21 ?k21 ?a22 ?l22 ?c22 ?k22 ?a23 ?l23 ?c23 ?k23 ?a24 ?l24 ?c24 ?k24 ?a25 ?l25 ?c25 ?k25 ?a26 ?l26 ?c26 ?k26 ?a27 ?l27 ?c27 ?k27 ?al_app_terms ?z0 ?z1 ?z2 ?z3 ?z4 ?z5 ?z6 ?z7 ?z8 ?z9 ?z10 ?y0 ?y0_0 ?y1
      (case ac_TrailError => k_is)
      (case oc_TrailError => k_is)
      (case ga_TrailError => k_is)
      (case gx_TrailError => k_is)
      (case sa_TrailError => k_is)
      (case na_TrailError_row => k_is)
      (case in_TrailError => k_is)
      (case kc_TrailError => k_is)
      (case ac_NoText => k_is)
      (case ac_NoSign => k_is)
      (case ac_NoRule => k_is)
      (case ac_Big => k_is)
      (case oc_Big => k_is)
      (case ga_Big => k_is)
      (case gx_Big => k_is)
      (case sa_Big => k_is)
      (case na_Big_row => k_is)
      (case in_Big => k_is)
      (case kc_Big => k_is)
      (case ja_Big => k_is)
      (case jn_Big => k_is)
      (case jt_Big => k_is)
      (case jm_Big => k_is)
      (case ac_HasKeep => k_is)
      (case ac_NotLayered => k_is)
      (case ac_Fault => k_is)
      (case ac_Heap => k_is)
      (case pg_Heap => k_is)
      (case hd_Heap => k_is)
      (case po_Heap => k_is)
      (case sa_Heap => k_is)
      (case na_Heap_boxes => k_is)
      (case na_Heap_trail => k_is)
      (case mk_Heap => k_is)
      (case in_Heap => k_is)
      (case kc_Heap => k_is)
      (case am_Heap_made => k_is)
      (case am_Heap_free => k_is)
      (case am_Heap_number => k_is)
      (case am_Heap_app => k_is)
      (case am_Heap_end_of => k_is)
      (case am_Heap_look => k_is)
      (case am_Heap_parts => k_is)
      (case am_Heap_term => k_is)
      (case am_Heap_read_out => k_is)
      (case iz_Big_Fault => kit_is)
      (case iz_Big_HasKeep => kit_is)
      (case iz_Big_NoRule => kit_is)
      (case iz_Big_NoSign => kit_is)
      (case iz_Big_NotLayered => kit_is)
      (case iz_Big_NoText => kit_is)
      (case iz_Big_Big => kit_is)
      (case iz_Big_ValueError => kit_is)
      (case l0 => k_is)
      (case c0 => k_is)
      (case k0 => k_is)
      (case v0_ => k_is)
      (case fn0 => k_is)
      (case l1 => k_is)
      (case c1 => k_is)
      (case k1 => k_is)
      (case fn1 => k_is)
      (case l2 => k_is)
      (case c2 => k_is)
      (case k2 => k_is)
      (case fn2 => k_is)
      (case l3 => k_is)
      (case c3 => k_is)
      (case k3 => k_is)
      (case fn3 => k_is)
      (case l4 => k_is)
      (case c4 => k_is)
      (case k4 => k_is)
      (case fn4 => k_is)
      (case l5 => k_is)
      (case c5 => k_is)
      (case k5 => k_is)
      (case fn5 => k_is)
      (case l6 => k_is)
      (case c6 => k_is)
      (case k6 => k_is)
      (case fn6 => k_is)
      (case l7 => k_is)
      (case c7 => k_is)
      (case k7 => k_is)
      (case fn7 => k_is)
      (case l8 => k_is)
      (case c8 => k_is)
      (case k8 => k_is)
      (case fn8 => k_is)
      (case l9 => k_is)
      (case c9 => k_is)
      (case k9 => k_is)
      (case fn9 => k_is)
      (case l10 => k_is)
      (case c10 => k_is)
      (case k10 => k_is)
      (case fn10 => k_is)
      (case a11 => k_is)
      (case l11 => k_is)
      (case c11 => k_is)
      (case k11 => k_is)
      (case a12 => k_is)
      (case l12 => k_is)
      (case c12 => k_is)
      (case k12 => k_is)
      (case a13 => k_is)
      (case l13 => k_is)
      (case c13 => k_is)
      (case k13 => k_is)
      (case a14 => k_is)
      (case l14 => k_is)
      (case c14 => k_is)
      (case k14 => k_is)
      (case a15 => k_is)
      (case l15 => k_is)
      (case c15 => k_is)
      (case k15 => k_is)
      (case a16 => k_is)
      (case l16 => k_is)
      (case c16 => k_is)
      (case k16 => k_is)
      (case a17 => k_is)
      (case l17 => k_is)
      (case c17 => k_is)
      (case k17 => k_is)
      (case a18 => k_is)
      (case l18 => k_is)
      (case c18 => k_is)
      (case k18 => k_is)
      (case a19 => k_is)
      (case l19 => k_is)
      (case c19 => k_is)
      (case k19 => k_is)
      (case a20 => k_is)
      (case l20 => k_is)
      (case c20 => k_is)
      (case k20 => k_is)
      (case a21 => k_is)
      (case l21 => k_is)
      (case c21 => k_is)
      (case k21 => k_is)
      (case a22 => k_is)
      (case l22 => k_is)
      (case c22 => k_is)
      (case k22 => k_is)
      (case a23 => k_is)
      (case l23 => k_is)
      (case c23 => k_is)
      (case k23 => k_is)
      (case a24 => k_is)
      (case l24 => k_is)
      (case c24 => k_is)
      (case k24 => k_is)
      (case a25 => k_is)
      (case l25 => k_is)
      (case c25 => k_is)
      (case k25 => k_is)
      (case a26 => k_is)
      (case l26 => k_is)
      (case c26 => k_is)
      (case k26 => k_is)
      (case a27 => k_is)
      (case l27 => k_is)
      (case c27 => k_is)
      (case k27 => k_is)
      (case al_app_terms => k_is)
      (case z0 => k_is)
      (case z1 => k_is)
      (case z2 => k_is)
      (case z3 => k_is)
      (case z4 => k_is)
      (case z5 => k_is)
      (case z6 => k_is)
      (case z7 => k_is)
      (case z8 => k_is)
      (case z9 => k_is)
      (case z10 => k_is)
      (case y0 => k_is)
      (case y0_0 => k_is)
      (case y1 => k_is)
    obtain ⟨t, T, e1⟩ := TT
    have e0 := hmg.symm.trans T.m_law
    cases e0
    exact ⟨t.d_law, e1, fun base kb nb => My.ok_all T⟩
