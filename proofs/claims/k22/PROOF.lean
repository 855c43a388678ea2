import PyProof.Rows.All
import PyProof.StrBlock2
import PyProof.Rows.StrIntSpec
import KE.KItemsList
import KE.KDictLaws
import PyProof.SumWalkG
import KE.KRevIter
import PyProof.ListRange
import Wide.All
import OpenK.AllK
import Wide.FinOn
import Lean
import PyProof.EqAt
import PyProof.EqKinds
import PyProof.TupleCall
import PyProof.NeKinds
import PyProof.DictUpdate
import KE.KDictList
import KE.KEqDict
import PyProof.Draws
import PyProof.Rows.EnumRows
import PyProof.StationsW
import PyProof.ExcClass3
import PyProof.RulesAs
import PyProof.ExcBaseAll.ValueError
import PyProof.InstStoreFacts
import PyProof.ExcArgsOwn
import PyProof.NsDelKeeps
import KE.RegKIsAll
import PyProof.Rows.LoopZipPat
import PyProof.StrLawsRepr
import KE.KDictOf
import PyProof.WalksS
import PyProof.AttrMissHeap
import PySem.Challenge.RW_goaltrail_k22_names_told_anew
set_option Elab.async false
set_option linter.all false
set_option maxRecDepth 100000
set_option genSizeOf false
set_option compiler.extract_closed false
namespace L2
open PySem PySem.Spec PyProof.Rows
theorem us0 {us : List Value} {P : List Value → Prop} (hl : us.length = 0) (h : P []) : P us := by cases us with | nil => exact h | cons a r => cases hl
theorem us1 {us : List Value} {P : List Value → Prop} (hl : us.length = 1) (h : ∀ a, P [a]) : P us := by cases us with | nil => cases hl | cons a r => exact us0 (P := fun r => P (a :: r)) (Nat.succ.inj hl) (h a)
theorem us2 {us : List Value} {P : List Value → Prop} (hl : us.length = 2) (h : ∀ a b, P [a, b]) : P us := by cases us with | nil => cases hl | cons a r => exact us1 (P := fun r => P (a :: r)) (Nat.succ.inj hl) (h a)
theorem us3 {us : List Value} {P : List Value → Prop} (hl : us.length = 3) (h : ∀ a b c, P [a, b, c]) : P us := by cases us with | nil => cases hl | cons a r => exact us2 (P := fun r => P (a :: r)) (Nat.succ.inj hl) (h a)
theorem us4 {us : List Value} {P : List Value → Prop} (hl : us.length = 4) (h : ∀ a b c d, P [a, b, c, d]) : P us := by cases us with | nil => cases hl | cons a r => exact us3 (P := fun r => P (a :: r)) (Nat.succ.inj hl) (h a)
theorem us5 {us : List Value} {P : List Value → Prop} (hl : us.length = 5) (h : ∀ a b c d e, P [a, b, c, d, e]) : P us := by cases us with | nil => cases hl | cons a r => exact us4 (P := fun r => P (a :: r)) (Nat.succ.inj hl) (h a)
theorem us6 {us : List Value} {P : List Value → Prop} (hl : us.length = 6) (h : ∀ a b c d e f, P [a, b, c, d, e, f]) : P us := by cases us with | nil => cases hl | cons a r => exact us5 (P := fun r => P (a :: r)) (Nat.succ.inj hl) (h a)
theorem ex1 {us : List Value} (hl : us.length = 1) : ∃ a, us = [a] := us1 (P := fun us => ∃ a', us = [a']) hl fun a => ⟨a, rfl⟩
theorem ex2 {us : List Value} (hl : us.length = 2) : ∃ a b, us = [a, b] := us2 (P := fun us => ∃ a' b', us = [a', b']) hl fun a b => ⟨a, b, rfl⟩
theorem ex3 {us : List Value} (hl : us.length = 3) : ∃ a b c, us = [a, b, c] := us3 (P := fun us => ∃ a' b' c', us = [a', b', c']) hl fun a b c => ⟨a, b, c, rfl⟩
theorem ex4 {us : List Value} (hl : us.length = 4) : ∃ a b c d, us = [a, b, c, d] := us4 (P := fun us => ∃ a' b' c' d', us = [a', b', c', d']) hl fun a b c d => ⟨a, b, c, d, rfl⟩
theorem ex5 {us : List Value} (hl : us.length = 5) : ∃ a b c d e, us = [a, b, c, d, e] := us5 (P := fun us => ∃ a' b' c' d' e', us = [a', b', c', d', e']) hl fun a b c d e => ⟨a, b, c, d, e, rfl⟩
theorem ex6 {us : List Value} (hl : us.length = 6) : ∃ a b c d e f, us = [a, b, c, d, e, f] := us6 (P := fun us => ∃ a' b' c' d' e' f', us = [a', b', c', d', e', f']) hl fun a b c d e f => ⟨a, b, c, d, e, f, rfl⟩
noncomputable abbrev Key := Sum Int Str
noncomputable def keyIs : Key → Value → Bool
  | .inl k, v => Value.isInt k v
  | .inr x, v => Value.isStrOf x v
noncomputable def keyH (w : World) : Key → Int
  | .inl k => hashInt k
  | .inr x => hashStr w x
theorem keyIs_shape : ∀ {k : Key} {v : Value}, keyIs k v = true → (∃ i t, k = Sum.inl i ∧ v = Value.int i t) ∨ (∃ x t, k = Sum.inr x ∧ v = Value.str x t)
  | .inl i, v, h => by
    obtain ⟨t, e⟩ := Value.isInt_shape (k := i) (v := v) h
    exact .inl ⟨i, t, rfl, e⟩
  | .inr x, v, h => by
    obtain ⟨t, e⟩ := Value.isStrOf_shape (x := x) (v := v) h
    exact .inr ⟨x, t, rfl, e⟩
theorem keyIs_int (i : Int) (t : Tok) : keyIs (.inl i) (.int i t) = true := by simp [keyIs, Value.isInt]
theorem keyIs_str (x : Str) (t : Tok) : keyIs (.inr x) (.str x t) = true := by simp [keyIs, Value.isStrOf]
theorem key_ll (a b : Int) : decide ((Sum.inl a : Key) = Sum.inl b) = (a == b) := by
  by_cases e : a = b
  · subst e; simp
  · have h : ¬ (Sum.inl a : Key) = Sum.inl b := fun q => e (Sum.inl.inj q)
    rw [decide_eq_false h]
    exact (beq_eq_false_iff_ne.mpr e).symm
theorem key_rr (a b : Str) : decide ((Sum.inr a : Key) = Sum.inr b) = decide (a = b) := by
  by_cases e : a = b
  · subst e; simp
  · have h : ¬ (Sum.inr a : Key) = Sum.inr b := fun q => e (Sum.inr.inj q)
    rw [decide_eq_false h, decide_eq_false e]
theorem key_lr (a : Int) (b : Str) : decide ((Sum.inl a : Key) = Sum.inr b) = false := decide_eq_false (fun q => nomatch q)
theorem key_rl (a : Str) (b : Int) : decide ((Sum.inr a : Key) = Sum.inl b) = false := decide_eq_false (fun q => nomatch q)
noncomputable def mixKind (prog : Program) (w : World) : PySem.KeyKind prog w Key where
  is := keyIs
  hash := keyH w
  inj := fun v a b ha hb => by
    rcases keyIs_shape ha with ⟨i, t, rfl, rfl⟩ | ⟨x, t, rfl, rfl⟩
    · rcases keyIs_shape hb with ⟨j, u, rfl, e⟩ | ⟨y, u, rfl, e⟩
      · injection e with e1 _; rw [e1]
      · exact nomatch e
    · rcases keyIs_shape hb with ⟨j, u, rfl, e⟩ | ⟨y, u, rfl, e⟩
      · exact nomatch e
      · injection e with e1 _; rw [e1]
  byValue := fun k v h => by
    rcases keyIs_shape h with ⟨i, t, rfl, rfl⟩ | ⟨x, t, rfl, rfl⟩ <;> rfl
  pyHash := fun hv h => by
    rcases keyIs_shape hv with ⟨i, t, rfl, rfl⟩ | ⟨x, t, rfl, rfl⟩
    · exact wpAny_pyHash_int h
    · exact wpAny_pyHash_str h
  eqBool := fun hu hv h => by
    rcases keyIs_shape hu with ⟨i, t, rfl, rfl⟩ | ⟨x, t, rfl, rfl⟩
    · rcases keyIs_shape hv with ⟨j, u, rfl, rfl⟩ | ⟨y, u, rfl, rfl⟩
      · rw [key_ll] at h; exact wpAny_eqBool_int h
      · rw [key_lr] at h; exact SeqAt.EqAt.int_str i t y u _ _ _ _ h
    · rcases keyIs_shape hv with ⟨j, u, rfl, rfl⟩ | ⟨y, u, rfl, rfl⟩
      · rw [key_rl] at h; exact SeqAt.EqAt.str_int x t j u _ _ _ _ h
      · rw [key_rr] at h; exact wpAny_eqBool_str h
  «strs» := fun k x t v h => by
    rcases keyIs_shape h with ⟨i, u, rfl, e⟩ | ⟨y, u, rfl, e⟩
    · exact nomatch e
    · injection e with e1 _
      subst e1
      cases v <;> rfl
theorem mixKind_int (prog : Program) (w : World) (i : Int) (t : Tok) : (mixKind prog w).is (.inl i) (.int i t) = true := keyIs_int i t
theorem mixKind_str (prog : Program) (w : World) (x : Str) (t : Tok) : (mixKind prog w).is (.inr x) (.str x t) = true := keyIs_str x t
end L2
namespace L2
open PySem PySem.Spec PyProof.Rows
inductive V where
  | non | bl (b : Bool) | int (i : Int) | str (x : Str) | byt (b : Array UInt8) | flt (b : UInt64) | ref (a : Addr) | ty (n : String)
  deriving DecidableEq
noncomputable def RelV : V → Value → Prop
  | .non, u => u = Value.none
  | .bl b, u => u = Value.bool b
  | .int i, u => ∃ t, u = Value.int i t
  | .str x, u => ∃ t, u = Value.str x t
  | .byt b, u => ∃ t, u = Value.bytes b t
  | .flt b, u => ∃ t, u = Value.float b t
  | .ref a, u => u = Value.ref a
  | .ty n, u => u = Value.type n
noncomputable abbrev Vals : List V → List Value → Prop := Paired RelV
theorem Vals.length {xs : List V} {us : List Value} (r : Vals xs us) : xs.length = us.length := Paired.length r
theorem Vals.get : ∀ {xs : List V} {us : List Value} {i : Nat} {x : V}, Vals xs us → xs[i]? = some x → ∃ u, us[i]? = some u ∧ RelV x u
  | _, _, _, _, .nil, e => by simp at e
  | _, _, 0, _, .cons r _, e => by simp at e; subst e; exact ⟨_, rfl, r⟩
  | _, _, i + 1, x, .cons _ t, e => by
    obtain ⟨u, h1, h2⟩ := Vals.get (i := i) (x := x) t (by simpa using e)
    exact ⟨u, by simpa using h1, h2⟩
theorem Vals.set {x : V} {u : Value} (r : RelV x u) : ∀ {xs : List V} {us : List Value} (i : Nat), Vals xs us → Vals (xs.set i x) (us.set i u)
  | _, _, _, .nil => .nil
  | _, _, 0, .cons _ t => .cons r t
  | _, _, i + 1, .cons q t => .cons q (Vals.set r i t)
theorem Vals.append : ∀ {xs ys : List V} {us ws : List Value}, Vals xs us → Vals ys ws → Vals (xs ++ ys) (us ++ ws)
  | _, _, _, _, .nil, s => s
  | _, _, _, _, .cons r t, s => .cons r (Vals.append t s)
theorem Vals.take : ∀ {xs : List V} {us : List Value} (n : Nat), Vals xs us → Vals (xs.take n) (us.take n)
  | _, _, 0, _ => .nil
  | _, _, _ + 1, .nil => .nil
  | _, _, n + 1, .cons r t => .cons r (Vals.take n t)
theorem Vals.drop : ∀ {xs : List V} {us : List Value} (n : Nat), Vals xs us → Vals (xs.drop n) (us.drop n)
  | _, _, 0, r => r
  | _, _, _ + 1, .nil => .nil
  | _, _, n + 1, .cons _ t => Vals.drop n t
noncomputable def RelO : Option V → Option Value → Prop
  | some v, some u => RelV v u
  | none, none => True
  | _, _ => False
noncomputable def KV {κ : Type} : List (κ × V) → List (κ × Value) → Prop := Paired fun (p : κ × V) (q : κ × Value) => p.1 = q.1 ∧ RelV p.2 q.2
noncomputable def kV : Key → V
  | .inl i => .int i
  | .inr x => .str x
inductive HO where
  | lst (xs : List V)
  | tup (xs : List V)
  | dK (kvs : List (Key × V)) | dT (kvs : List (List Key × V))
  | set (S : Int → Bool) (n : Nat)
  | ins (C dx : Addr) (fs : List (Str × V))
  | own (x : Addr)
  | xd (fs : List (Str × V))
  | met (f x : Addr)
  | rng (lo hi : Int)
  | frz (o : Obj) (u : HO)
  | tbl (ps : Array Value)
  | ext (φ : Heap → Prop)
noncomputable abbrev Hp := Addr → Option HO
noncomputable def upd (H : Hp) (a : Addr) (o : HO) : Hp := fun b => if b = a then some o else H b
theorem upd_same {H : Hp} {a : Addr} {o : HO} : upd H a o a = some o := by unfold upd; rw [if_pos rfl]
theorem upd_ne {H : Hp} {a b : Addr} {o : HO} (h : b ≠ a) : upd H a o b = H b := by unfold upd; rw [if_neg h]
theorem ne_of {H : Hp} {a b : Addr} {o u : HO} (h : H a = some o) (h' : H b = some u) (d : o ≠ u) : a ≠ b := by
  intro e; subst e; rw [h] at h'; exact d (Option.some.inj h')
theorem ne_of_none {H : Hp} {a b : Addr} {o : HO} (h : H a = some o) (h' : H b = none) : a ≠ b := by
  intro e; subst e; rw [h] at h'; cases h'
section
variable (P : Program) (w : World)
noncomputable def ObjOk (H : Hp) (h : Heap) (a : Addr) : HO → Prop
  | .lst xs => xs.length ≤ sizeLine ∧ ∃ (its : List Value) (n : Nat), Vals xs its ∧ h.get? a = some { cls := .type "list", data := .seq its.toArray n }
  | .tup xs => xs.length ≤ sizeLine ∧ ∃ its : List Value, Vals xs its ∧ IsTup h a its.toArray
  | .dK kvs => kvs.length ≤ sizeLine ∧ (a == sysModules) = false ∧ ∃ vs, KV kvs vs ∧ h.DictOf (mixKind P w) a vs
  | .dT kvs => kvs.length ≤ sizeLine ∧ (a == sysModules) = false ∧ ∃ xs : List (List Key × Addr × Value),
      Paired (fun (p : List Key × V) (q : List Key × Addr × Value) => p.1 = q.1 ∧ H q.2.1 = some (.tup (p.1.map kV)) ∧ RelV p.2 q.2.2) kvs xs ∧
      ∃ o es ep, h.get? a = some o ∧ o.ExactDict ∧ o.data = .dict es ep ∧ es.toList = xs.map (entryOfKey (tupleKind (mixKind P w))) ∧ (xs.map (·.1)).Nodup
  | .set S n => h.SetOf (intKind P w) a S n
  | .ins C dx fs => H dx = some (.own a) ∧ fs.length ≤ 1000 ∧ dx ≠ a ∧ h.get? a = some (PySem.W.instObj C dx) ∧
      ∃ mA, h.Ns1 dx mA ∧ (∀ f, RelO (fs.lookup f) (mA f)) ∧ PySem.Within mA (fs.map (·.1))
  | .own _ => ∃ o, h.get? a = some o
  | .xd fs => ∃ mA, h.Ns1 a mA ∧ ∀ f, RelO (fs.lookup f) (mA f)
  | .rng lo hi => ∃ t u v, h.get? a = some { cls := .type "range", data := .fields #[.int lo t, .int hi u, .int 1 v] }
  | .frz o u => h.get? a = some o ∧ ObjOk H h a u
  | .tbl ps => h.get? a = some { cls := .none, data := .fields ps }
  | .met f x => h.get? a = some (PySem.W.methodObj (.ref f) (.ref x))
  | .ext φ => φ h ∧ (∃ o, h.get? a = some o) ∧ ∀ h1 h2 : Heap, φ h1 → (∀ o, h1.get? a = some o → h2.get? a = some o) → φ h2
noncomputable def HOk (H : Hp) (h : Heap) : Prop := ∀ a o, H a = some o → ObjOk P w H h a o
end
section
variable {P : Program} {w : World} {H H' : Hp} {h h' : Heap} {a : Addr} {o : HO}
theorem ObjOk.lt (x : ObjOk P w H h a o) : a < h.objs.size := by
  cases o with
  | lst xs => obtain ⟨_, _, _, _, e⟩ := x; exact Heap.lt_size e
  | tup xs => obtain ⟨_, _, _, p⟩ := x; exact p.lt
  | dK kvs => obtain ⟨_, _, _, _, o, _, _, e, _⟩ := x; exact Heap.lt_size e
  | dT kvs => obtain ⟨_, _, _, _, o, _, _, e, _⟩ := x; exact Heap.lt_size e
  | set S n => obtain ⟨o, _, _, _, e, _⟩ := x; exact Heap.lt_size e
  | ins C dx fs => obtain ⟨_, _, _, e, _⟩ := x; exact Heap.lt_size e
  | own y => obtain ⟨_, e⟩ := x; exact Heap.lt_size e
  | xd fs => obtain ⟨_, ⟨_, _, _, e, _⟩, _⟩ := x; exact Heap.lt_size e
  | rng lo hi => obtain ⟨_, _, _, e⟩ := x; exact Heap.lt_size e
  | frz ob u => obtain ⟨e, _⟩ := x; exact Heap.lt_size e
  | tbl ps => exact Heap.lt_size (show h.get? a = some _ from x)
  | met f y => exact Heap.lt_size (show h.get? a = some _ from x)
  | ext φ => obtain ⟨_, ⟨_, e⟩, _⟩ := x; exact Heap.lt_size e
theorem Paired.mapP {α β : Type} {F G : α → β → Prop} : ∀ {l₁ : List α} {l₂ : List β}, Paired F l₁ l₂ → (∀ a b, F a b → G a b) → Paired G l₁ l₂
  | _, _, .nil, _ => .nil
  | _, _, .cons r t, f => .cons (f _ _ r) (Paired.mapP t f)
theorem ObjOk.stay (x : ObjOk P w H h a o) (k : ∀ b u, (b = a ∨ H b = some (.own a)) → h.get? b = some u → h'.get? b = some u)
    (ho : ∀ b, H b = some (.own a) → H' b = some (.own a)) (ht : ∀ b xs, H b = some (.tup xs) → H' b = some (.tup xs)) : ObjOk P w H' h' a o := by
  induction o with
  | lst xs => obtain ⟨z, its, n, r, e⟩ := x; exact ⟨z, its, n, r, k _ _ (.inl rfl) e⟩
  | tup xs => obtain ⟨z, its, r, ob, e, c⟩ := x; exact ⟨z, its, r, ob, k _ _ (.inl rfl) e, c⟩
  | dK kvs => obtain ⟨z, y, vs, r, ob, es, ep, e, c⟩ := x; exact ⟨z, y, vs, r, ob, es, ep, k _ _ (.inl rfl) e, c⟩
  | dT kvs =>
    obtain ⟨z, y, xs, r, ob, es, ep, e, c⟩ := x
    exact ⟨z, y, xs, Paired.mapP r fun p q z => ⟨z.1, ht _ _ z.2.1, z.2.2⟩, ob, es, ep, k _ _ (.inl rfl) e, c⟩
  | set S n => obtain ⟨ob, es, ep, t, e, c⟩ := x; exact ⟨ob, es, ep, t, k _ _ (.inl rfl) e, c⟩
  | ins C dx fs =>
    obtain ⟨d, z, ne, e, mA, ⟨od, es, ep, e2, c⟩, r⟩ := x
    exact ⟨ho _ d, z, ne, k _ _ (.inl rfl) e, mA, ⟨od, es, ep, k _ _ (.inr d) e2, c⟩, r⟩
  | own y => obtain ⟨ob, e⟩ := x; exact ⟨ob, k _ _ (.inl rfl) e⟩
  | xd fs => obtain ⟨mA, ⟨od, es, ep, e, c⟩, r⟩ := x; exact ⟨mA, ⟨od, es, ep, k _ _ (.inl rfl) e, c⟩, r⟩
  | rng lo hi => obtain ⟨t, u, v, e⟩ := x; exact ⟨t, u, v, k _ _ (.inl rfl) e⟩
  | frz ob u ih => obtain ⟨e, q⟩ := x; exact ⟨k _ _ (.inl rfl) e, ih q⟩
  | tbl ps =>
    have e : h.get? a = some { cls := .none, data := .fields ps } := x
    show h'.get? a = some { cls := .none, data := .fields ps }
    exact k a _ (.inl rfl) e
  | met f y =>
    have e : h.get? a = some (PySem.W.methodObj (.ref f) (.ref y)) := x
    show h'.get? a = some (PySem.W.methodObj (.ref f) (.ref y))
    exact k a _ (.inl rfl) e
  | ext φ => obtain ⟨p, ⟨o, e⟩, st⟩ := x; exact ⟨st _ _ p fun o q => k _ _ (.inl rfl) q, ⟨o, k _ _ (.inl rfl) e⟩, st⟩
theorem HOk.lt (x : HOk P w H h) (e : H a = some o) : a < h.objs.size := (x a o e).lt
theorem HOk.fresh (x : HOk P w H h) (e : h.objs.size ≤ a) : H a = none := by
  cases q : H a with
  | none => rfl
  | some u => exact absurd (Nat.lt_of_lt_of_le (x.lt q) e) (Nat.lt_irrefl _)
theorem HOk.kept (x : HOk P w H h) (k : ∀ b u, h.get? b = some u → h'.get? b = some u) : HOk P w H h' := fun a o e =>
  (x a o e).stay (fun b u _ q => k b u q) (fun _ q => q) fun _ _ q => q
theorem HOk.laid (x : HOk P w H h) (k : ∀ b u, h.get? b = some u → h'.get? b = some u) (hp : h.objs.size ≤ a) (new : ObjOk P w (upd H a o) h' a o) : HOk P w (upd H a o) h' := fun b u e => by
  have hn := x.fresh hp
  by_cases hb : b = a
  · subst hb; rw [upd_same] at e; cases e; exact new
  · rw [upd_ne hb] at e
    exact (x b u e).stay (fun c v _ q => k c v q) (fun c q => by rw [upd_ne (ne_of_none q hn)]; exact q) fun c xs q => by rw [upd_ne (ne_of_none q hn)]; exact q
end
noncomputable def Rd (H : Hp) (a : Addr) (u : HO) : Prop := H a = some u ∨ ∃ o, H a = some (.frz o u)
theorem Rd.of {H : Hp} {a : Addr} {u : HO} (h : H a = some u) : Rd H a u := .inl h
theorem Rd.ok {P : Program} {w : World} {H : Hp} {h : Heap} {a : Addr} {u : HO} (r : Rd H a u) (x : HOk P w H h) : ObjOk P w H h a u := by
  rcases r with r | ⟨o, r⟩
  · exact x a u r
  · obtain ⟨_, q⟩ := x a _ r
    exact q
noncomputable def Mut : Option HO → Prop
  | some (.lst _) => True
  | some (.dK _) => True
  | some (.dT _) => True
  | some (.set _ _) => True
  | some (.ins _ _ _) => True
  | some (.ext _) => True
  | _ => False
section
variable {P : Program} {w : World} {H : Hp} {h h' : Heap} {x e : Addr} {o' : HO}
theorem HOk.write (ok : HOk P w H h) (mu : Mut (H x)) (he : e = x ∨ H e = some (.own x)) (k : ∀ b u, b ≠ e → h.get? b = some u → h'.get? b = some u) (heo : ∃ u, h'.get? e = some u)
    (new : ObjOk P w (upd H x o') h' x o') : HOk P w (upd H x o') h' := fun b u q => by
  have nown : ∀ c y, H c = some (.own y) → c ≠ x := fun c y r z => by subst z; rw [r] at mu; exact mu
  have ntup : ∀ c xs, H c = some (.tup xs) → c ≠ x := fun c xs r z => by subst z; rw [r] at mu; exact mu
  by_cases hb : b = x
  · subst hb; rw [upd_same] at q; cases q; exact new
  · rw [upd_ne hb] at q
    by_cases hbe : b = e
    · have q' : H b = some (.own x) := by
        rcases he with z | z
        · exact absurd (hbe.trans z) hb
        · rw [hbe]; exact z
      rw [q] at q'; cases q'
      obtain ⟨v, hv⟩ := heo
      exact ⟨v, by rw [hbe]; exact hv⟩
    · refine (ok b u q).stay (fun c v hc r => k c v ?_ r) (fun c r => by rw [upd_ne (nown c b r)]; exact r) fun c xs r => by rw [upd_ne (ntup c xs r)]; exact r
      rcases hc with rfl | hc
      · exact hbe
      · rintro rfl
        rcases he with z | z
        · exact nown c b hc z
        · rw [hc] at z; cases z; exact hb rfl
end
structure Un (fs ex : List Addr) (H H' : Hp) (h h' : Heap) : Prop where
  keep : ∀ b o, h.get? b = some o → H b = none → b ∉ fs → b ∉ ex → h'.get? b = some o
  slot : ∀ b o, h.get? b = some o → H b = none → b ∈ fs → b ∉ ex → ∃ sl, h'.get? b = some { o with slots := sl }
  free : ∀ b o, h.get? b = some o → H b = none → b ∉ ex → H' b = none
  there : ∀ b o, h.get? b = some o → b ∉ ex → ∃ o', h'.get? b = some o'
  tups : ∀ b xs, H b = some (.tup xs) → H' b = some (.tup xs)
  frzs : ∀ b o u, H b = some (.frz o u) → H' b = some (.frz o u)
  tbls : ∀ b ps, H b = some (.tbl ps) → ∃ more, H' b = some (.tbl (ps ++ more))
section
variable {fs fs' ex ex' : List Addr} {H H1 H2 : Hp} {h h1 h2 h' : Heap} {a x e : Addr} {o : HO}
theorem Un.any (u : Un fs ex H H1 h h1) {b : Addr} {ob : Obj} (q : h.get? b = some ob) (n : H b = none) (hx : b ∉ ex) : ∃ sl, h1.get? b = some { ob with slots := sl } := by
  by_cases hb : b ∈ fs
  · exact u.slot b ob q n hb hx
  · exact ⟨ob.slots, u.keep b ob q n hb hx⟩
theorem Un.trans (a : Un fs ex H H1 h h1) (b : Un fs ex H1 H2 h1 h2) : Un fs ex H H2 h h2 where
  keep := fun c ob q n hc hx => b.keep c ob (a.keep c ob q n hc hx) (a.free c ob q n hx) hc hx
  slot := fun c ob q n hc hx => by
    obtain ⟨sl, e1⟩ := a.slot c ob q n hc hx
    obtain ⟨sl', e2⟩ := b.slot c _ e1 (a.free c ob q n hx) hc hx
    exact ⟨sl', e2⟩
  free := fun c ob q n hx => by
    obtain ⟨o', e1⟩ := a.there c ob q hx
    exact b.free c o' e1 (a.free c ob q n hx) hx
  there := fun c ob q hx => by
    obtain ⟨o', e1⟩ := a.there c ob q hx
    exact b.there c o' e1 hx
  tups := fun c xs q => b.tups c xs (a.tups c xs q)
  frzs := fun c ob xs q => b.frzs c ob xs (a.frzs c ob xs q)
  tbls := fun c ps q => by
    obtain ⟨m1, e1⟩ := a.tbls c ps q
    obtain ⟨m2, e2⟩ := b.tbls c _ e1
    exact ⟨m1 ++ m2, by rw [e2, Array.append_assoc]⟩
theorem Un.kept (k : ∀ b u, h.get? b = some u → h'.get? b = some u) : Un fs ex H H h h' :=
  ⟨fun b ob q _ _ _ => k b ob q, fun b ob q _ _ _ => ⟨ob.slots, k b ob q⟩, fun _ _ _ n _ => n, fun b ob q _ => ⟨ob, k b ob q⟩, fun _ _ q => q, fun _ _ _ q => q, fun _ ps q => ⟨#[], by rw [q]; simp⟩⟩
theorem Un.refl : Un fs ex H H h h := Un.kept fun _ _ q => q
theorem Un.laid (k : ∀ b u, h.get? b = some u → h'.get? b = some u) (hp : h.objs.size ≤ a) (hn : H a = none) : Un fs ex H (upd H a o) h h' where
  keep := fun b u q _ _ _ => k b u q
  slot := fun b u q _ _ _ => ⟨u.slots, k b u q⟩
  free := fun b u q n _ => by rw [upd_ne (Nat.ne_of_lt (Nat.lt_of_lt_of_le (Heap.lt_size q) hp))]; exact n
  there := fun b u q _ => ⟨u, k b u q⟩
  tups := fun b xs q => by rw [upd_ne (ne_of_none q hn)]; exact q
  frzs := fun b u xs q => by rw [upd_ne (ne_of_none q hn)]; exact q
  tbls := fun b ps q => ⟨#[], by rw [upd_ne (ne_of_none q hn), q]; simp⟩
theorem Un.write (mu : Mut (H x)) (he : e = x ∨ H e = some (.own x)) (k : ∀ b u, b ≠ e → h.get? b = some u → h'.get? b = some u) (heo : ∃ u, h'.get? e = some u) : Un fs ex H (upd H x o) h h' := by
  have hx : ∀ b, H b = none → b ≠ x := fun b n z => by subst z; rw [n] at mu; exact mu
  have hb : ∀ b, H b = none → b ≠ e := fun b n z => by
    subst z
    rcases he with r | r
    · exact hx b n r
    · rw [n] at r; cases r
  have hm : ∀ b u, H b = some u → ¬ Mut (some u) → b ≠ x := fun b u q nm z => by subst z; rw [q] at mu; exact nm mu
  refine ⟨fun b u q n _ _ => k b u (hb b n) q, fun b u q n _ _ => ⟨u.slots, k b u (hb b n) q⟩, fun b u q n _ => by rw [upd_ne (hx b n)]; exact n, fun b u q _ => ?_,
    fun b xs q => by rw [upd_ne (hm b _ q fun z => z)]; exact q, fun b u xs q => by rw [upd_ne (hm b _ q fun z => z)]; exact q, fun b ps q => ⟨#[], by rw [upd_ne (hm b _ q fun z => z), q]; simp⟩⟩
  by_cases hbe : b = e
  · subst hbe; exact heo
  · exact ⟨u, k b u hbe q⟩
theorem Un.mono (u : Un fs ex H H1 h h1) (hs : ∀ b ∈ fs, b ∈ fs') (hx : ∀ b ∈ ex, b ∈ ex') : Un fs' ex' H H1 h h1 :=
  ⟨fun b ob q n hb he => u.keep b ob q n (fun z => hb (hs b z)) fun z => he (hx b z), fun _ _ q n _ he => u.any q n fun z => he (hx _ z), fun b ob q n he => u.free b ob q n fun z => he (hx b z), fun b ob q he => u.there b ob q fun z => he (hx b z), u.tups, u.frzs, u.tbls⟩
end
noncomputable def trk (h : Heap) (H : Hp) : List Addr := (List.range h.objs.size).filter fun a => (H a).isSome
noncomputable def hidT (h : Heap) (H : Hp) : Heap := PySem.W.hideAll h (trk h H)
theorem hidT_size (h : Heap) (H : Hp) : (hidT h H).objs.size = h.objs.size := PySem.W.hideAll_size _ _
theorem hidT_get {h : Heap} {H : Hp} {b : Addr} {o : Obj} (e : h.get? b = some o) (n : H b = none) : (hidT h H).get? b = some o :=
  PySem.W.hideAll_get _ e fun hm => by
    have q : (H b).isSome = true := (List.mem_filter.mp hm).2
    rw [n] at q; simp at q
theorem of_hidT {h : Heap} {H : Hp} {b : Addr} {o : Obj} (e : (hidT h H).get? b = some o) : h.get? b = some o ∧ H b = none := by
  have e' : h.get? b = some o := PySem.W.of_hideAll (trk h H) e
  refine ⟨e', ?_⟩
  cases q : H b with
  | none => rfl
  | some x =>
    have hm : b ∈ trk h H := List.mem_filter.mpr ⟨List.mem_range.mpr (Heap.lt_size e'), by simp [q]⟩
    have z : (hidT h H).get? b = none := PySem.W.hideAll_none (trk h H) hm
    rw [z] at e; cases e
noncomputable def allNews (g h : Heap) (L : Addr) : List (Addr × Obj) := (List.range h.objs.size).filterMap fun a => if a = L ∨ (g.get? a).isSome = true then none else (h.get? a).map fun o => (a, o)
noncomputable def rest (g h : Heap) (L d : Addr) : List (Addr × Obj) := (allNews g h L).filter fun p => decide (p.1 ≠ d)
end L2
namespace L2
open PySem PySem.Spec PyProof.Rows
structure Mod (K : PySem.W.Frag) (mg : Str → Option Value) (base : Heap) : Prop where
  kin : K.In base
  glob : base.Ns mainGlobals mg
  blt : ∃ mb, base.Ns builtinsNs mb ∧ ∀ x : Str, x ≠ "__name__" → mb x = bootBuiltins x
  nolimit : base.NoLimit
structure Cx where
  prog : Program
  w : World
  K : PySem.W.Frag
  mg : Str → Option Value
  base : Heap
  A : Around
  N : List Str
  s₀ : Shared
  H₀ : Hp
  env : Env
  outer : List Env
  stack : List Env
  ex : List Addr
  fn : Str → Bool
  calm : Bool
  pn : List (Addr × Obj)
  xe : Value → Shared → Prop
noncomputable def frs (l : List Env) : List Addr := l.filterMap (·.frame)
noncomputable abbrev Cx.fs (X : Cx) : List Addr := frs X.outer
noncomputable def Vis (sc : Scope) (x : Str) : Prop := sc.names.lookup x = some .local ∨ sc.names.lookup x = some .cell ∨ sc.names.lookup x = some .free
noncomputable def Loc (sc : Scope) (x : Str) : Prop := sc.names.lookup x = some .local ∨ sc.names.lookup x = some .cell
noncomputable def Look (env : Env) (h : Heap) (m : Str → Option Value) (x : Str) (u : Value) : Prop :=
  (env.kindOf x = some .local ∧ m x = some u) ∨ ((env.kindOf x = some .cell ∨ env.kindOf x = some .free) ∧ ∃ c, env.cells.lookup x = some c ∧ h.IsCell c (some u))
structure Cx.Ok (X : Cx) : Prop where
  mod : Mod X.K X.mg X.base
  kind : X.env.scope.kind = .function
  glob : X.env.globals = mainGlobals
  blt : X.env.builtins = builtinsNs
  above : X.s₀.heap.objs.size ≤ X.env.locals
  inj : ∀ x y c, X.env.cells.lookup x = some c → X.env.cells.lookup y = some c → x = y
  has : ∀ x, (X.env.kindOf x = some .cell ∨ X.env.kindOf x = some .free) → ∃ c, X.env.cells.lookup x = some c
  cab : ∀ x c, X.fn x = true → X.env.cells.lookup x = some c → X.s₀.heap.objs.size ≤ c
  hd : X.calm = true → X.A.handled = none
  frames : X.A.frames = some X.stack
  stk : X.stack = X.outer ∨ (X.stack = X.env :: X.outer ∧ X.env.frame = some X.env.locals)
  exf : ∀ b ∈ X.ex, b ≠ X.env.locals ∧ ∀ x c, X.env.cells.lookup x = some c → c ≠ b
  bs : ∀ b o, X.base.get? b = some o → X.s₀.heap.get? b = some o ∧ X.H₀ b = none
  bsz : X.base.objs.size ≤ X.s₀.heap.objs.size
  noex : ∀ b o, X.base.get? b = some o → b ∉ X.ex
  exfs : ∀ b ∈ X.ex, b ∉ X.fs
  funs : X.s₀.heap.FunFrames X.base X.outer
  frf : ∀ b ∈ X.fs, X.H₀ b = none
structure Inv (X : Cx) (pins : List (Addr × Obj)) (σ : List (Option V)) (H : Hp) (s : Shared) : Prop where
  ok : X.Ok
  os : s.os = X.s₀.os
  bare : AllBare s.gens
  base : Un X.fs X.ex X.H₀ H X.s₀.heap s.heap
  loc : ∃ m, s.heap.Ns X.env.locals m ∧ ∀ (i : Nat) (x : Str) (v : V), X.N[i]? = some x → σ[i]? = some (some v) → Vis X.env.scope x → ∃ u, RelV v u ∧ Look X.env s.heap m x u
  cell : ∀ x c, X.env.cells.lookup x = some c → ∃ v, s.heap.IsCell c v
  free : H X.env.locals = none
  freeC : ∀ x c, X.env.cells.lookup x = some c → H c = none
  pin : ∀ p ∈ X.pn ++ pins, s.heap.get? p.1 = some p.2 ∧ H p.1 = none ∧ p.1 ≠ X.env.locals ∧ p.1 ∉ X.fs ∧ ∀ v, p.2.data ≠ .cell v
  hok : HOk X.prog X.w H s.heap
  len : σ.length = X.N.length
section
variable {X : Cx} {pins : List (Addr × Obj)} {σ : List (Option V)} {H H' : Hp} {s : Shared} {h' : Heap}
theorem Cx.Ok.nofr (ok : X.Ok) {b : Addr} {o : Obj} (e : X.base.get? b = some o) : b ∉ X.fs := fun hb => by
  have := (ok.funs.mem hb).1
  rw [e] at this; cases this
theorem Inv.bs (I : Inv X pins σ H s) : ∀ b o, X.base.get? b = some o → s.heap.get? b = some o ∧ H b = none := fun b o e =>
  ⟨I.base.keep b o (I.ok.bs b o e).1 (I.ok.bs b o e).2 (I.ok.nofr e) (I.ok.noex b o e), I.base.free b o (I.ok.bs b o e).1 (I.ok.bs b o e).2 (I.ok.noex b o e)⟩
theorem Inv.bk (I : Inv X pins σ H s) : ∀ b o, X.base.get? b = some o → s.heap.get? b = some o := fun b o e => (I.bs b o e).1
theorem Inv.mod (I : Inv X pins σ H s) : Mod X.K X.mg X.base := I.ok.mod
theorem Inv.kIn (I : Inv X pins σ H s) : X.K.In s.heap := I.ok.mod.kin.keeps I.bk
theorem Inv.nolimit (I : Inv X pins σ H s) : s.heap.NoLimit := I.ok.mod.nolimit.keeps I.bk
theorem Inv.fr (I : Inv X pins σ H s) : ∃ m, Fr X.base X.env.locals s.heap m :=
  let ⟨m, hn, _⟩ := I.loc
  ⟨m, hn, I.bk, Nat.le_trans I.ok.bsz I.ok.above⟩
theorem Inv.lt (I : Inv X pins σ H s) : X.env.locals < s.heap.objs.size := let ⟨_, hn, _⟩ := I.loc; hn.lt
theorem Inv.sz (I : Inv X pins σ H s) : X.s₀.heap.objs.size ≤ s.heap.objs.size := Nat.le_trans I.ok.above (Nat.le_of_lt I.lt)
theorem Inv.nofs (I : Inv X pins σ H s) {a : Addr} (h : s.heap.objs.size ≤ a) : a ∉ X.fs := fun hb => by
  obtain ⟨_, o, ho, _⟩ := I.ok.funs.mem hb
  exact absurd (Nat.lt_of_lt_of_le (Heap.lt_size ho) (Nat.le_trans I.sz h)) (Nat.lt_irrefl _)
theorem Inv.cne (I : Inv X pins σ H s) : ∀ x c, X.env.cells.lookup x = some c → c ≠ X.env.locals := fun x c e z => by
  obtain ⟨v, o, ho, hd⟩ := I.cell x c e
  obtain ⟨m, ⟨o', es, ep, ho', hd', _⟩, _⟩ := I.loc
  rw [z, ho'] at ho; cases ho; rw [hd'] at hd; cases hd
theorem Inv.funs (I : Inv X pins σ H s) : s.heap.FunFrames X.base X.outer := by
  have all : ∀ (l : List Env), (∀ b ∈ frs l, b ∈ X.fs) → X.s₀.heap.FunFrames X.base l → s.heap.FunFrames X.base l := by
    intro l
    induction l with
    | nil => intro _ _; trivial
    | cons env r ih =>
      intro hs hl
      obtain ⟨hk, ⟨L, o, hf, hn, ho, hd⟩, hr⟩ := hl
      have hL : L ∈ X.fs := hs L (by unfold frs; rw [List.filterMap_cons, hf]; exact List.mem_cons_self)
      obtain ⟨sl, e⟩ := I.base.slot L o ho (I.ok.frf L hL) hL fun z => I.ok.exfs L z hL
      exact ⟨hk, ⟨L, _, hf, hn, e, hd⟩, ih (fun b hb => hs b (by unfold frs; rw [List.filterMap_cons, hf]; exact List.mem_cons_of_mem _ hb)) hr⟩
  exact all X.outer (fun _ hb => hb) I.ok.funs
theorem Inv.stack (I : Inv X pins σ H s) : s.heap.FunFrames X.base X.stack := by
  rcases I.ok.stk with e | ⟨e, hf⟩
  · rw [e]; exact I.funs
  · rw [e]
    obtain ⟨m, hn, _⟩ := I.loc
    refine .cons (by rw [I.ok.kind]; decide) hf hn ?_ I.funs
    exact Heap.get?_none_of_le (Nat.le_trans I.ok.bsz I.ok.above)
theorem Inv.stkSub (I : Inv X pins σ H s) : ∀ b ∈ frs X.stack, b ∈ X.env.locals :: X.fs := fun b hb => by
  rcases I.ok.stk with e | ⟨e, hf⟩
  · rw [e] at hb; exact List.mem_cons_of_mem _ hb
  · rw [e] at hb
    unfold frs at hb
    rw [List.filterMap_cons, hf] at hb
    exact hb
theorem Inv.stkFree (I : Inv X pins σ H s) : ∀ b ∈ frs X.stack, H b = none := fun b hb => by
  rcases List.mem_cons.mp (I.stkSub b hb) with e | hb
  · rw [e]; exact I.free
  · obtain ⟨_, o, ho, _⟩ := I.ok.funs.mem hb
    exact I.base.free b o ho (I.ok.frf b hb) fun z => I.ok.exfs b z hb
theorem Inv.step {g' : Array GenState} {t' : Nat} {d' : Drawn} {ch : List Addr} (I : Inv X pins σ H s)
    (hch : ∀ b ∈ ch, (b ∈ X.ex ∨ X.s₀.heap.objs.size ≤ b) ∧ b ≠ X.env.locals ∧ (∀ x c, X.env.cells.lookup x = some c → c ≠ b) ∧ ∀ p ∈ X.pn ++ pins, p.1 ≠ b)
    (keep : ∀ b o, b ≠ X.env.locals → b ∉ X.fs → b ∉ ch → s.heap.get? b = some o → H b = none → h'.get? b = some o)
    (slot : ∀ b o, b ≠ X.env.locals → b ∈ X.fs → b ∉ ch → s.heap.get? b = some o → H b = none → ∃ sl, h'.get? b = some { o with slots := sl }) (free : ∀ b o, b ∉ ch → s.heap.get? b = some o → H b = none → H' b = none)
    (there : ∀ b o, b ∉ ch → s.heap.get? b = some o → ∃ o', h'.get? b = some o')
    (tups : ∀ b xs, H b = some (.tup xs) → H' b = some (.tup xs)) (frzs : ∀ b o u, H b = some (.frz o u) → H' b = some (.frz o u)) (tbls : ∀ b ps, H b = some (.tbl ps) → ∃ more, H' b = some (.tbl (ps ++ more)))
    (ns : ∀ m, s.heap.Ns X.env.locals m → h'.Ns X.env.locals m) (hok : HOk X.prog X.w H' h') (hg : AllBare g') :
    Inv X pins σ H' { s with heap := h', gens := g', drawn := d', toks := t' } := by
  have neL : ∀ b o, X.s₀.heap.get? b = some o → b ≠ X.env.locals := fun b o e => Nat.ne_of_lt (Nat.lt_of_lt_of_le (Heap.lt_size e) I.ok.above)
  have neC : ∀ b o, X.s₀.heap.get? b = some o → b ∉ X.ex → b ∉ ch := fun b o e hx hb => by
    rcases (hch b hb).1 with z | z
    · exact hx z
    · exact absurd (Nat.lt_of_lt_of_le (Heap.lt_size e) z) (Nat.lt_irrefl _)
  have cellK : ∀ x c, X.env.cells.lookup x = some c → ∀ v, s.heap.IsCell c v → h'.IsCell c v := fun x c e v ⟨o, ho, hd⟩ => by
    have nch : c ∉ ch := fun z => (hch c z).2.2.1 x c e rfl
    by_cases hc : c ∈ X.fs
    · obtain ⟨sl, q⟩ := slot c o (I.cne x c e) hc nch ho (I.freeC x c e)
      exact ⟨_, q, hd⟩
    · exact ⟨o, keep c o (I.cne x c e) hc nch ho (I.freeC x c e), hd⟩
  refine ⟨I.ok, I.os, hg, ⟨fun b o e n hb hx => ?_, fun b o e n hb hx => ?_, fun b o e n hx => ?_, fun b o e hx => ?_, fun b xs e => tups b xs (I.base.tups b xs e), fun b o xs e => frzs b o xs (I.base.frzs b o xs e), fun b ps e => ?_⟩, ?_, fun x c e => ?_, ?_, fun x c e => ?_, fun p hp => ?_, hok, I.len⟩
  · exact keep b o (neL b o e) hb (neC b o e hx) (I.base.keep b o e n hb hx) (I.base.free b o e n hx)
  · obtain ⟨sl, e1⟩ := I.base.slot b o e n hb hx
    obtain ⟨sl', e2⟩ := slot b _ (neL b o e) hb (neC b o e hx) e1 (I.base.free b o e n hx)
    exact ⟨sl', e2⟩
  · obtain ⟨o', e1⟩ := I.base.there b o e hx
    exact free b o' (neC b o e hx) e1 (I.base.free b o e n hx)
  · obtain ⟨o', e1⟩ := I.base.there b o e hx
    exact there b o' (neC b o e hx) e1
  · obtain ⟨m1, e1⟩ := I.base.tbls b ps e
    obtain ⟨m2, e2⟩ := tbls b _ e1
    exact ⟨m1 ++ m2, by rw [e2, Array.append_assoc]⟩
  · obtain ⟨m, hn, hl⟩ := I.loc
    refine ⟨m, ns m hn, fun i x v e1 e2 e3 => ?_⟩
    obtain ⟨u, r, l⟩ := hl i x v e1 e2 e3
    refine ⟨u, r, ?_⟩
    rcases l with l | ⟨k, c, e, z⟩
    · exact .inl l
    · exact .inr ⟨k, c, e, cellK x c e _ z⟩
  · obtain ⟨v, z⟩ := I.cell x c e
    exact ⟨v, cellK x c e v z⟩
  · obtain ⟨m, ⟨o, _, _, ho, _⟩, _⟩ := I.loc
    exact free _ o (fun z => (hch _ z).2.1 rfl) ho I.free
  · obtain ⟨v, o, ho, hd⟩ := I.cell x c e
    exact free c o (fun z => (hch c z).2.2.1 x c e rfl) ho (I.freeC x c e)
  · obtain ⟨e, n, ne, nf, d⟩ := I.pin p hp
    have nch : p.1 ∉ ch := fun z => (hch p.1 z).2.2.2 p hp rfl
    exact ⟨keep p.1 p.2 ne nf nch e n, free p.1 p.2 nch e n, ne, nf, d⟩
theorem Inv.un {t' : Nat} (I : Inv X pins σ H s) (u : Un X.fs [] H H' s.heap h') (hok : HOk X.prog X.w H' h') : Inv X pins σ H' { s with heap := h', toks := t' } := by
  obtain ⟨m, ⟨o, es, ep, ho, r⟩, _⟩ := id I.loc
  obtain ⟨sl, hL⟩ := u.any ho I.free (by simp)
  exact I.step (g' := s.gens) (d' := s.drawn) (ch := []) (fun _ z => nomatch z) (fun b o _ hb _ e n => u.keep b o e n hb (by simp)) (fun b o _ hb _ e n => u.slot b o e n hb (by simp)) (fun b o _ e n => u.free b o e n (by simp)) (fun b o _ e => u.there b o e (by simp)) u.tups u.frzs u.tbls (fun m' hm => by
    obtain ⟨o', es', ep', ho', r'⟩ := hm
    rw [ho] at ho'; cases ho'
    exact ⟨_, es', ep', hL, r'⟩) hok I.bare
theorem Inv.call {g' : Array GenState} {t' : Nat} {d' : Drawn} {ch : List Addr} (I : Inv X pins σ H s) (u : Un (frs X.stack) ch H H' s.heap h') (hok : HOk X.prog X.w H' h') (hg : AllBare g')
    (hch : ∀ b ∈ ch, (b ∈ X.ex ∨ X.s₀.heap.objs.size ≤ b) ∧ b ≠ X.env.locals ∧ (∀ x c, X.env.cells.lookup x = some c → c ≠ b) ∧ ∀ p ∈ X.pn ++ pins, p.1 ≠ b) :
    Inv X pins σ H' { s with heap := h', gens := g', drawn := d', toks := t' } := by
  obtain ⟨m, ⟨o, es, ep, ho, r⟩, _⟩ := id I.loc
  obtain ⟨sl, hL⟩ := u.any ho I.free fun z => (hch _ z).2.1 rfl
  exact I.step (ch := ch) hch (fun b o hL hb hc e n => u.keep b o e n (fun z => (List.mem_cons.mp (I.stkSub b z)).elim hL hb) hc) (fun b o _ _ hc e n => u.any e n hc) (fun b o hc e n => u.free b o e n hc) (fun b o hc e => u.there b o e hc) u.tups u.frzs u.tbls (fun m' hm => by
    obtain ⟨o', es', ep', ho', r'⟩ := hm
    rw [ho] at ho'; cases ho'
    exact ⟨_, es', ep', hL, r'⟩) hok hg
theorem Inv.turned {t' : Nat} {it : Addr} (I : Inv X pins σ H s) (k : ∀ b o, b ≠ it → s.heap.get? b = some o → h'.get? b = some o) (hn : H it = none) (hL : it ≠ X.env.locals)
    (h1 : it ∈ X.ex ∨ X.s₀.heap.objs.size ≤ it) (h2 : ∀ x c, X.env.cells.lookup x = some c → c ≠ it) (h3 : ∀ p ∈ X.pn ++ pins, p.1 ≠ it) : Inv X pins σ H { s with heap := h', toks := t' } := by
  have nit : ∀ b u, H b = some u → b ≠ it := fun b u e z => by rw [z, hn] at e; cases e
  refine I.step (g' := s.gens) (d' := s.drawn) (ch := [it]) (fun b hb => ?_) (fun b o _ _ hc e _ => k b o (fun z => hc (by simp [z])) e) (fun b o _ _ hc e _ => ⟨o.slots, k b o (fun z => hc (by simp [z])) e⟩) (fun _ _ _ _ n => n)
    (fun b o hc e => ⟨o, k b o (fun z => hc (by simp [z])) e⟩) (fun _ _ e => e) (fun _ _ _ e => e) (fun b ps e => ⟨#[], by rw [e]; simp⟩) (fun m hm => ?_) (fun b u e => ?_) I.bare
  · have e : b = it := by simpa using hb
    subst e
    exact ⟨h1, hL, h2, h3⟩
  · obtain ⟨o, es, ep, ho, r⟩ := hm
    exact ⟨o, es, ep, k _ o (Ne.symm hL) ho, r⟩
  · refine (I.hok b u e).stay (fun c v hc q => k c v ?_ q) (fun _ q => q) fun _ _ q => q
    rcases hc with z | z
    · rw [z]; exact nit b u e
    · exact nit c _ z
theorem Inv.tok (I : Inv X pins σ H s) (t : Nat) : Inv X pins σ H { s with toks := t } := I.un (h' := s.heap) (t' := t) Un.refl I.hok
theorem Inv.kept {t' : Nat} (I : Inv X pins σ H s) (k : ∀ b u, s.heap.get? b = some u → h'.get? b = some u) : Inv X pins σ H { s with heap := h', toks := t' } := I.un (Un.kept k) (I.hok.kept k)
theorem Inv.laid {a : Addr} {o : HO} {t' : Nat} (I : Inv X pins σ H s) (k : ∀ b u, s.heap.get? b = some u → h'.get? b = some u) (hp : s.heap.objs.size ≤ a) (new : ObjOk X.prog X.w (upd H a o) h' a o) :
    Inv X pins σ (upd H a o) { s with heap := h', toks := t' } := I.un (Un.laid k hp (I.hok.fresh hp)) (I.hok.laid k hp new)
theorem Inv.write {x e : Addr} {o : HO} {t' : Nat} (I : Inv X pins σ H s) (mu : Mut (H x)) (he : e = x ∨ H e = some (.own x)) (k : ∀ b u, b ≠ e → s.heap.get? b = some u → h'.get? b = some u) (heo : ∃ u, h'.get? e = some u)
    (new : ObjOk X.prog X.w (upd H x o) h' x o) : Inv X pins σ (upd H x o) { s with heap := h', toks := t' } := I.un (Un.write mu he k heo) (I.hok.write mu he k heo new)
theorem Inv.pins_of {pins' : List (Addr × Obj)} (I : Inv X pins σ H s) (h : ∀ p ∈ pins', s.heap.get? p.1 = some p.2 ∧ H p.1 = none ∧ p.1 ≠ X.env.locals ∧ p.1 ∉ X.fs ∧ ∀ v, p.2.data ≠ .cell v) : Inv X pins' σ H s :=
  ⟨I.ok, I.os, I.bare, I.base, I.loc, I.cell, I.free, I.freeC, fun p hp => (List.mem_append.mp hp).elim (fun z => I.pin p (List.mem_append_left _ z)) (h p), I.hok, I.len⟩
theorem nodup_ix {N : List Str} (hN : N.Nodup) {i j : Nat} {x : Str} (a : N[i]? = some x) (b : N[j]? = some x) : i = j := by
  obtain ⟨h1, e1⟩ := List.getElem?_eq_some_iff.mp a
  obtain ⟨h2, e2⟩ := List.getElem?_eq_some_iff.mp b
  exact (List.getElem_inj hN).mp (e1.trans e2.symm)
theorem store_ok2 {M : Model} {A : Around} {E : Value → Shared → Prop} {i : Nat} {x : Str} {v : V} {u : Value} {Q : Unit → Shared → Prop} (I : Inv X pins σ H s) (hN : X.N.Nodup) (hi : X.N[i]? = some x) (hx : Loc X.env.scope x) (r : RelV v u)
    (h : ∀ s', Inv X pins (σ.set i (some v)) H s' → (∃ a, Heap.SameBut a s.heap s'.heap ∧ (a = X.env.locals ∨ X.env.cells.lookup x = some a)) → Q () s') (hf : X.fn x = true ∨ X.env.scope.names.lookup x = some .local := by first | exact .inl rfl | exact .inr rfl | assumption) : wpAny M A (storeName X.env x u) Q E s := by
  obtain ⟨m, hn, hl⟩ := id I.loc
  have hcls : (X.env.scope.kind == .class || (X.env.scope.kind == .module && X.env.locals != X.env.globals)) = false := by rw [I.ok.kind]; rfl
  have hiσ : i < σ.length := by rw [I.len]; exact (List.getElem?_eq_some_iff.mp hi).1
  have cne := I.cne
  have tracked : ∀ {a : Addr} {h' : Heap}, (∃ o, s.heap.get? a = some o ∧ H a = none) → Heap.SameBut a s.heap h' → HOk X.prog X.w H h' := fun {a h'} ha hs b ob e => by
    obtain ⟨_, _, hfree⟩ := ha
    refine (I.hok b ob e).stay (fun c w' hc q => (hs.2 c ?_).trans q) (fun _ q => q) fun _ _ q => q
    rintro rfl
    rcases hc with rfl | hc
    · rw [hfree] at e; cases e
    · rw [hfree] at hc; cases hc
  rcases hx with hk | hk
  · refine wpAny_storeName_local hk hn (fun h' hn' hs => ?_) hcls
    obtain ⟨oL, _, _, hoL, _⟩ := id hn
    refine h _ ⟨I.ok, I.os, I.bare, ⟨fun b o e n hb hx => ?_, fun b o e n hb hx => ?_, I.base.free, fun b o e hx => ?_, I.base.tups, I.base.frzs, I.base.tbls⟩, ⟨_, hn', fun j y v' e1 e2 e3 => ?_⟩, fun y c e => ?_, I.free, I.freeC, fun p hp => ?_, tracked ⟨oL, hoL, I.free⟩ hs, by simpa using I.len⟩ ⟨_, hs, .inl rfl⟩
    · exact (hs.2 b (Nat.ne_of_lt (Nat.lt_of_lt_of_le (Heap.lt_size e) I.ok.above))).trans (I.base.keep b o e n hb hx)
    · obtain ⟨sl, e1⟩ := I.base.slot b o e n hb hx
      exact ⟨sl, (hs.2 b (Nat.ne_of_lt (Nat.lt_of_lt_of_le (Heap.lt_size e) I.ok.above))).trans e1⟩
    · obtain ⟨o', e1⟩ := I.base.there b o e hx
      exact ⟨o', (hs.2 b (Nat.ne_of_lt (Nat.lt_of_lt_of_le (Heap.lt_size e) I.ok.above))).trans e1⟩
    · by_cases hj : j = i
      · subst hj
        rw [hi] at e1; cases e1
        rw [List.getElem?_set_self hiσ] at e2
        cases e2
        exact ⟨u, r, .inl ⟨hk, by simp⟩⟩
      · rw [List.getElem?_set_ne (Ne.symm hj)] at e2
        obtain ⟨u', r', q⟩ := hl j y v' e1 e2 e3
        refine ⟨u', r', ?_⟩
        rcases q with ⟨k, e⟩ | ⟨k, c, e, z⟩
        · refine .inl ⟨k, ?_⟩
          have : y ≠ x := fun e => hj (nodup_ix hN e1 (e ▸ hi))
          simp [this, e]
        · exact .inr ⟨k, c, e, z.sameBut hs (cne y c e)⟩
    · obtain ⟨w', z⟩ := I.cell y c e
      exact ⟨w', z.sameBut hs (cne y c e)⟩
    · obtain ⟨e, n, ne, nf, d⟩ := I.pin p hp
      exact ⟨(hs.2 p.1 ne).trans e, n, ne, nf, d⟩
  · have hfn : X.fn x = true := by
      rcases hf with z | z
      · exact z
      · rw [z] at hk; cases hk
    obtain ⟨c, hc⟩ := I.ok.has x (.inl hk)
    obtain ⟨w', z⟩ := I.cell x c hc
    refine wpAny_storeName_cell I.ok.kind hk hc z (fun h' hc' hs => ?_)
    obtain ⟨oc, hoc, hocd⟩ := id z
    refine h { s with heap := h' } ⟨I.ok, I.os, I.bare, ⟨fun b o e n hb hx => ?_, fun b o e n hb hx => ?_, I.base.free, fun b o e hx => ?_, I.base.tups, I.base.frzs, I.base.tbls⟩, ⟨m, hn.sameBut hs (Ne.symm (cne x c hc)), fun j y v' e1 e2 e3 => ?_⟩, fun y c' e => ?_, I.free, I.freeC, fun p hp => ?_, tracked ⟨oc, hoc, I.freeC x c hc⟩ hs, by simpa using I.len⟩ ⟨c, hs, .inr hc⟩
    · exact (hs.2 b (Nat.ne_of_lt (Nat.lt_of_lt_of_le (Heap.lt_size e) (I.ok.cab x c hfn hc)))).trans (I.base.keep b o e n hb hx)
    · obtain ⟨sl, e1⟩ := I.base.slot b o e n hb hx
      exact ⟨sl, (hs.2 b (Nat.ne_of_lt (Nat.lt_of_lt_of_le (Heap.lt_size e) (I.ok.cab x c hfn hc)))).trans e1⟩
    · obtain ⟨o', e1⟩ := I.base.there b o e hx
      exact ⟨o', (hs.2 b (Nat.ne_of_lt (Nat.lt_of_lt_of_le (Heap.lt_size e) (I.ok.cab x c hfn hc)))).trans e1⟩
    · by_cases hj : j = i
      · subst hj
        rw [hi] at e1; cases e1
        rw [List.getElem?_set_self hiσ] at e2
        cases e2
        exact ⟨u, r, .inr ⟨.inl hk, c, hc, hc'⟩⟩
      · rw [List.getElem?_set_ne (Ne.symm hj)] at e2
        obtain ⟨u', r', q⟩ := hl j y v' e1 e2 e3
        refine ⟨u', r', ?_⟩
        rcases q with q | ⟨k, c', e, z'⟩
        · exact .inl q
        · refine .inr ⟨k, c', e, z'.sameBut hs ?_⟩
          rintro rfl
          exact hj (nodup_ix hN e1 (I.ok.inj _ _ _ e hc ▸ hi))
    · by_cases hcc : c' = c
      · subst hcc; exact ⟨_, hc'⟩
      · obtain ⟨w2, z2⟩ := I.cell y c' e
        exact ⟨w2, z2.sameBut hs hcc⟩
    · obtain ⟨e, n, ne, nf, d⟩ := I.pin p hp
      refine ⟨(hs.2 p.1 ?_).trans e, n, ne, nf, d⟩
      intro q
      rw [q, hoc] at e
      have q' : oc = p.2 := Option.some.inj e
      exact d w' (by rw [← q']; exact hocd)
theorem store_ok {M : Model} {A : Around} {E : Value → Shared → Prop} {i : Nat} {x : Str} {v : V} {u : Value} {Q : Unit → Shared → Prop} (I : Inv X pins σ H s) (hN : X.N.Nodup) (hi : X.N[i]? = some x) (hx : Loc X.env.scope x) (r : RelV v u)
    (h : ∀ s', Inv X pins (σ.set i (some v)) H s' → Q () s') (hf : X.fn x = true ∨ X.env.scope.names.lookup x = some .local := by first | exact .inl rfl | exact .inr rfl | assumption) : wpAny M A (storeName X.env x u) Q E s :=
  store_ok2 I hN hi hx r (fun s' I' _ => h s' I') hf
theorem Inv.call' {s' : Shared} {ch : List Addr} (I : Inv X pins σ H s) (ho : s'.os = s.os) (u : Un (frs X.stack) ch H H' s.heap s'.heap) (hok : HOk X.prog X.w H' s'.heap) (hg : AllBare s'.gens)
    (hch : ∀ b ∈ ch, (b ∈ X.ex ∨ X.s₀.heap.objs.size ≤ b) ∧ b ≠ X.env.locals ∧ (∀ x c, X.env.cells.lookup x = some c → c ≠ b) ∧ ∀ p ∈ X.pn ++ pins, p.1 ≠ b) : Inv X pins σ H' s' := by
  obtain ⟨h', g', d', t', o'⟩ := s'
  have e : o' = s.os := ho
  subst e
  exact I.call (g' := g') (t' := t') (d' := d') u hok hg hch
end
noncomputable abbrev XK := Value → Option Addr → Hp → Prop
noncomputable abbrev St := List (Option V)
noncomputable abbrev VK := V → Hp → Prop
noncomputable abbrev TE := St → Hp → VK → Prop
noncomputable abbrev TT := St → Hp → (Bool → Hp → Prop) → Prop
noncomputable abbrev TA := St → Hp → (List V → Hp → Prop) → Prop
structure Ends where
  nx : St → Hp → Prop
  rt : VK
  bk : St → Hp → Prop := fun _ _ => False
  ct : St → Hp → Prop := fun _ _ => False
noncomputable abbrev TS := Ends → St → Hp → Prop
noncomputable def EP (X : Cx) (pins : List (Addr × Obj)) (σ : St) (Q : VK) (u : Value) (s' : Shared) : Prop := ∃ v H', Inv X pins σ H' s' ∧ RelV v u ∧ Q v H'
noncomputable def TP (X : Cx) (pins : List (Addr × Obj)) (σ : St) (Q : Bool → Hp → Prop) (b : Bool) (s' : Shared) : Prop := ∃ H', Inv X pins σ H' s' ∧ Q b H'
noncomputable def AP (X : Cx) (pins : List (Addr × Obj)) (σ : St) (Q : List V → Hp → Prop) (us : List Value) (s' : Shared) : Prop := ∃ vs H', Inv X pins σ H' s' ∧ Vals vs us ∧ Q vs H'
noncomputable def SP (X : Cx) (pins : List (Addr × Obj)) (D : Ends) (f : Flow) (s' : Shared) : Prop :=
  match f with
  | .next => ∃ σ' H', Inv X pins σ' H' s' ∧ D.nx σ' H'
  | .brk => ∃ σ' H', Inv X pins σ' H' s' ∧ D.bk σ' H'
  | .cont => ∃ σ' H', Inv X pins σ' H' s' ∧ D.ct σ' H'
  | .ret u => ∃ v σ' H', Inv X pins σ' H' s' ∧ RelV v u ∧ D.rt v H'
noncomputable def PE (X : Cx) (e : Expr) (t : TE) : Prop :=
  ∀ (pins : List (Addr × Obj)) (s : Shared) (σ : St) (H : Hp) (Q : VK), Inv X pins σ H s → t σ H Q → wpAny (model X.prog X.w) X.A (eval e X.env) (EP X pins σ Q) X.xe s
noncomputable def PT (X : Cx) (e : Expr) (t : TT) : Prop :=
  ∀ (pins : List (Addr × Obj)) (s : Shared) (σ : St) (H : Hp) (Q : Bool → Hp → Prop), Inv X pins σ H s → t σ H Q → wpAny (model X.prog X.w) X.A (isTrue e X.env (eval e X.env)) (TP X pins σ Q) X.xe s
noncomputable def PW (X : Cx) (e : Expr) (t : TT) : Prop :=
  ∀ (whole : Sem Value) (pins : List (Addr × Obj)) (s : Shared) (σ : St) (H : Hp) (Q : Bool → Hp → Prop), Inv X pins σ H s → t σ H Q → wpAny (model X.prog X.w) X.A (isTrue e X.env whole) (TP X pins σ Q) X.xe s
theorem PW.pt {X : Cx} {e : Expr} {t : TT} (h : PW X e t) : PT X e t := h _
noncomputable def PA (X : Cx) (es : List Expr) (t : TA) : Prop :=
  ∀ (pos : Pos) (pins : List (Addr × Obj)) (s : Shared) (σ : St) (H : Hp) (Q : List V → Hp → Prop), Inv X pins σ H s → t σ H Q → wpAny (model X.prog X.w) X.A (spliced (backTo pos (starEach es X.env))) (AP X pins σ Q) X.xe s
noncomputable def PS (X : Cx) (st : Stmt) (t : TS) : Prop :=
  ∀ (pins : List (Addr × Obj)) (s : Shared) (σ : St) (H : Hp) (D : Ends), Inv X pins σ H s → t D σ H → wpAny (model X.prog X.w) X.A (exec st X.env) (SP X pins D) X.xe s
noncomputable def PSs (X : Cx) (st : List Stmt) (t : TS) : Prop :=
  ∀ (pins : List (Addr × Obj)) (s : Shared) (σ : St) (H : Hp) (D : Ends), Inv X pins σ H s → t D σ H → wpAny (model X.prog X.w) X.A (execs st X.env) (SP X pins D) X.xe s
theorem thn {α : Type} {t : Sem α} {Q Q' : α → Shared → Prop} {M : Model} {A : Around} {E : Value → Shared → Prop} {s : Shared} (h : wpAny M A t Q E s) (hQ : ∀ a s, Q a s → Q' a s) : wpAny M A t Q' E s := wpAny_mono h hQ fun _ _ x => x
end L2
namespace L2
open PySem PySem.Spec PyProof.Rows
section
variable {X : Cx}
noncomputable def tVar (i : Nat) : TE := fun σ H Q => ∃ v, σ[i]? = some (some v) ∧ Q v H
noncomputable def tC (v : V) : TE := fun _ H Q => Q v H
theorem pe_var {i : Nat} {x : Str} {pos : Pos} (hN : X.N[i]? = some x) (hv : Vis X.env.scope x) (hd : (x == ("__debug__" : Str)) = false := by decide) (hcd : (x == ("__classdict__" : Str)) = false := by decide) : PE X (.Name x pos) (tVar i) := by
  intro pins s σ H Q I h
  obtain ⟨v, e, h⟩ := h
  obtain ⟨m, hn, hl⟩ := I.loc
  obtain ⟨u, r, l⟩ := hl i x v hN e hv
  have fin : EP X pins σ Q u s := ⟨v, H, I, r, h⟩
  rcases l with ⟨hk, hm⟩ | ⟨hk, c, hc, hcell⟩
  · exact wpAny_Name (wpAny_loadName_local I.ok.kind hk hn hm fin) hd
  · rcases hk with hk | hk
    · exact wpAny_Name (wpAny_loadName_cell I.ok.kind hk hc hcell fin) hd
    · exact wpAny_Name (wpAny_loadName_free I.ok.kind hk hc hcell fin hcd) hd
theorem pe_int {i j pos} : PE X (.Constant (.int i) j pos) (tC (.int i)) := fun _ _ _ H _ I h => wpAny_Constant_int ⟨.int i, H, I.tok _, ⟨_, rfl⟩, h⟩
theorem pe_bl {b j pos} : PE X (.Constant (.bool b) j pos) (tC (.bl b)) := fun _ _ _ H _ I h => Constant_bool ⟨.bl b, H, I, rfl, h⟩
theorem pe_str {x j pos} : PE X (.Constant (.str x) j pos) (tC (.str x)) := fun _ _ _ H _ I h => Calls.Constant_str ⟨.str x, H, I.tok _, ⟨_, rfl⟩, h⟩
noncomputable def Gl (X : Cx) (x : Str) : Prop := X.env.kindOf x = some .globalImplicit
theorem ld_glob {E : Value → Shared → Prop} {pins : List (Addr × Obj)} {s : Shared} {σ : St} {H : Hp} {x : Str} {u : Value} {pos : Pos} {Q : Value → Shared → Prop} (I : Inv X pins σ H s) (hg : Gl X x) (hm : X.mg x = some u) (h : Q u s)
    (hd : (x == ("__debug__" : Str)) = false := by decide) : wpAny (model X.prog X.w) X.A (eval (.Name x pos) X.env) Q E s :=
  Calls.Name_function_global I.ok.kind hg (Calls.loadGlobal_global (by rw [I.ok.glob]; exact I.mod.glob.keeps I.bk) hm h) hd
theorem ld_blt {E : Value → Shared → Prop} {pins : List (Addr × Obj)} {s : Shared} {σ : St} {H : Hp} {x : Str} {u : Value} {pos : Pos} {Q : Value → Shared → Prop} (I : Inv X pins σ H s) (hg : Gl X x) (hm : X.mg x = none) (hv : bootBuiltins x = some u) (h : Q u s)
    (hn : x ≠ "__name__" := by decide) (hd : (x == ("__debug__" : Str)) = false := by decide) : wpAny (model X.prog X.w) X.A (eval (.Name x pos) X.env) Q E s := by
  obtain ⟨mb, h1, h2⟩ := I.mod.blt
  exact Calls.Name_function_global I.ok.kind hg (Calls.loadGlobal_builtin (by rw [I.ok.glob]; exact I.mod.glob.keeps I.bk) hm (by rw [I.ok.blt]; exact h1.keeps I.bk) ((h2 x hn).trans hv) h) hd
theorem pe_bltn {x : Str} {v : V} {u : Value} {pos : Pos} (hg : Gl X x) (hm : X.mg x = none) (hv : bootBuiltins x = some u) (r : RelV v u) (hn : x ≠ "__name__" := by decide) (hd : (x == ("__debug__" : Str)) = false := by decide) : PE X (.Name x pos) (tC v) :=
  fun _ _ _ H _ I h => ld_blt I hg hm hv ⟨v, H, I, r, h⟩ hn hd
variable {a b : Expr} {ta tb : TE} {pos : Pos}
variable {tA tB' : TT} {rest : List Expr}
noncomputable def tAnd (t u : TT) : TT := fun σ H Q => t σ H fun c H1 => if c = true then u σ H1 Q else Q false H1
noncomputable def tOr (t u : TT) : TT := fun σ H Q => t σ H fun c H1 => if c = true then Q true H1 else u σ H1 Q
noncomputable def tNot (t : TT) : TT := fun σ H Q => t σ H fun c H1 => Q (!c) H1
theorem pw_and1 (ha : PT X a tA) : PW X (.BoolOp .And [a] pos) tA := by
  intro wh pins s σ H Q I h
  refine isTrue_and (thn (ha pins s σ H Q I h) fun c s1 e => ?_)
  cases c with
  | true => exact isTrue_and_nil e
  | false => exact e
theorem pw_or1 (ha : PT X a tA) : PW X (.BoolOp .Or [a] pos) tA := by
  intro wh pins s σ H Q I h
  refine isTrue_or (thn (ha pins s σ H Q I h) fun c s1 e => ?_)
  cases c with
  | false => exact isTrue_or_nil e
  | true => exact e
theorem pw_and (ha : PT X a tA) (hb : PW X (.BoolOp .And (b :: rest) pos) tB') : PW X (.BoolOp .And (a :: b :: rest) pos) (tAnd tA tB') := by
  intro wh pins s σ H Q I h
  refine isTrue_and (thn (ha pins s σ H _ I h) fun c s1 ⟨H1, I1, q1⟩ => ?_)
  cases c with
  | true => exact hb wh pins s1 σ H1 Q I1 q1
  | false => exact ⟨H1, I1, q1⟩
theorem pw_or (ha : PT X a tA) (hb : PW X (.BoolOp .Or (b :: rest) pos) tB') : PW X (.BoolOp .Or (a :: b :: rest) pos) (tOr tA tB') := by
  intro wh pins s σ H Q I h
  refine isTrue_or (thn (ha pins s σ H _ I h) fun c s1 ⟨H1, I1, q1⟩ => ?_)
  cases c with
  | true => exact ⟨H1, I1, q1⟩
  | false => exact hb wh pins s1 σ H1 Q I1 q1
theorem pt_not (ha : PT X a tA) : PT X (.UnaryOp .Not a pos) (tNot tA) := by
  intro pins s σ H Q I h
  exact isTrue_not (ha pins s σ H (fun c H1 => Q (!c) H1) I h)
noncomputable def tAndV (ta tb : TE) : TE := fun σ H Q => ta σ H fun x H1 => ∃ c, x = .bl c ∧ if c = true then tb σ H1 Q else Q (.bl false) H1
theorem pe_one {op} {t : TE} (h : PE X a t) : PE X (.BoolOp op [a] pos) t := fun pins s σ H Q I hw => BoolOp_one (h pins s σ H Q I hw)
theorem pe_and (ha : PE X a ta) (hb : PE X (.BoolOp .And (b :: rest) pos) tb) : PE X (.BoolOp .And (a :: b :: rest) pos) (tAndV ta tb) := by
  intro pins s σ H Q I h
  refine BoolOp_and (thn (ha pins s σ H _ I h) fun v s1 ⟨x, H1, I1, r1, q1⟩ => ?_)
  obtain ⟨c, rfl, q1⟩ := q1
  cases r1
  refine wpAny_truthy_bool ?_
  cases c with
  | true => exact hb pins s1 σ H1 Q I1 q1
  | false => exact ⟨.bl false, H1, I1, rfl, q1⟩
noncomputable def tIf (t : TT) (ta tb : TE) : TE := fun σ H Q => t σ H fun c H1 => if c = true then ta σ H1 Q else tb σ H1 Q
theorem pe_ifExp {c : Expr} (hc : PT X c tA) (ha : PE X a ta) (hb : PE X b tb) : PE X (.IfExp c a b pos) (tIf tA ta tb) := by
  intro pins s σ H Q I h
  refine wpAny_IfExp (thn (hc pins s σ H _ I h) fun d s1 ⟨H1, I1, q1⟩ => ?_)
  cases d with
  | true => exact ha pins s1 σ H1 Q I1 q1
  | false => exact hb pins s1 σ H1 Q I1 q1
end
end L2
namespace L2
open PySem PySem.Spec PyProof.Rows
noncomputable def SqL (K : PySem.W.Frag) (H : Hp) (a : Addr) (xs : List V) : Prop :=
  Rd H a (.lst xs) ∨
    ∃ (o : Obj) (its : Array Value) (n : Nat), K.lookup a = some o ∧ o.cls = .type "list" ∧ o.dict = none ∧ o.data = .seq its n ∧ its.size ≤ sizeLine ∧ Vals xs its.toList
noncomputable def SqT (K : PySem.W.Frag) (H : Hp) (a : Addr) (xs : List V) : Prop :=
  Rd H a (.tup xs) ∨
    ∃ (o : Obj) (its : Array Value) (n : Nat), K.lookup a = some o ∧ o.cls = .type "tuple" ∧ o.data = .seq its n ∧ its.size ≤ sizeLine ∧ Vals xs its.toList
noncomputable def absV : Value → Option V
  | .none => some .non
  | .bool b => some (.bl b)
  | .int i _ => some (.int i)
  | .str x _ => some (.str x)
  | .bytes b _ => some (.byt b)
  | .float b _ => some (.flt b)
  | .ref a => some (.ref a)
  | .type n => some (.ty n)
  | _ => none
theorem RelV.abs {x : V} {u : Value} (r : RelV x u) : absV u = some x := by
  cases x with
  | non => cases r; rfl
  | bl _ => cases r; rfl
  | int _ => obtain ⟨t, rfl⟩ := r; rfl
  | str _ => obtain ⟨t, rfl⟩ := r; rfl
  | byt _ => obtain ⟨t, rfl⟩ := r; rfl
  | flt _ => obtain ⟨t, rfl⟩ := r; rfl
  | ref _ => cases r; rfl
  | ty _ => cases r; rfl
theorem RelV.inj {x y : V} {u : Value} (r : RelV x u) (q : RelV y u) : x = y := Option.some.inj (r.abs.symm.trans q.abs)
theorem Vals.inj : ∀ {xs ys : List V} {us : List Value}, Vals xs us → Vals ys us → xs = ys
  | _, _, _, .nil, .nil => rfl
  | _, _, _, .cons r t, .cons r' t' => by rw [r.inj r', Vals.inj t t']
section
variable {X : Cx} {pins : List (Addr × Obj)} {σ : St} {H : Hp} {s : Shared} {a : Addr} {xs ys : List V}
theorem SqL.of {K : PySem.W.Frag} (h : H a = some (.lst xs)) : SqL K H a xs := .inl (.inl h)
theorem SqT.of {K : PySem.W.Frag} (h : H a = some (.tup xs)) : SqT K H a xs := .inl (.inl h)
theorem Inv.list (I : Inv X pins σ H s) (h : SqL X.K H a xs) : ∃ its : List Value, Vals xs its ∧ PlainL s.heap a its.toArray ∧ xs.length ≤ sizeLine := by
  rcases h with h | ⟨o, its, n, hk, hc, hd, hs, hz, r⟩
  · obtain ⟨z, its, n, r, e⟩ := h.ok I.hok
    exact ⟨its, r, ⟨_, n, e, rfl, rfl, rfl⟩, z⟩
  · refine ⟨its.toList, r, ⟨o, n, I.kIn a o hk, hc, hd, by simpa using hs⟩, ?_⟩
    have e := r.length
    simp only [Array.length_toList] at e
    omega
theorem Inv.tuple (I : Inv X pins σ H s) (h : SqT X.K H a xs) : ∃ its : List Value, Vals xs its ∧ IsTup s.heap a its.toArray ∧ xs.length ≤ sizeLine := by
  rcases h with h | ⟨o, its, n, hk, hc, hs, hz, r⟩
  · obtain ⟨z, its, r, p⟩ := h.ok I.hok
    exact ⟨its, r, p, z⟩
  · refine ⟨its.toList, r, ⟨o, I.kIn a o hk, hc, n, by simpa using hs⟩, ?_⟩
    have e := r.length
    simp only [Array.length_toList] at e
    omega
theorem Inv.list_inj (I : Inv X pins σ H s) (h : SqL X.K H a xs) (h' : SqL X.K H a ys) : xs = ys := by
  obtain ⟨its, r, ⟨o, n, e, _, _, d⟩, _⟩ := I.list h
  obtain ⟨its', r', ⟨o', n', e', _, _, d'⟩, _⟩ := I.list h'
  rw [e] at e'; cases e'
  rw [d] at d'
  injection d' with d1 _
  have : its = its' := by simpa using congrArg Array.toList d1
  subst this
  exact r.inj r'
theorem Inv.tuple_inj (I : Inv X pins σ H s) (h : SqT X.K H a xs) (h' : SqT X.K H a ys) : xs = ys := by
  obtain ⟨its, r, ⟨o, e, _, n, d⟩, _⟩ := I.tuple h
  obtain ⟨its', r', ⟨o', e', _, n', d'⟩, _⟩ := I.tuple h'
  rw [e] at e'; cases e'
  rw [d] at d'
  injection d' with d1 _
  have : its = its' := by simpa using congrArg Array.toList d1
  subst this
  exact r.inj r'
end
noncomputable abbrev Cx.wish (X : Cx) (E : Value → Shared → Prop) : Cx := { X with xe := E }
noncomputable abbrev Cx.nox (X : Cx) : Cx := X.wish fun _ _ => False
theorem Cx.Ok.wish {X : Cx} (ok : X.Ok) (E : Value → Shared → Prop) : (X.wish E).Ok :=
  ⟨ok.mod, ok.kind, ok.glob, ok.blt, ok.above, ok.inj, ok.has, ok.cab, ok.hd, ok.frames, ok.stk, ok.exf, ok.bs, ok.bsz, ok.noex, ok.exfs, ok.funs, ok.frf⟩
theorem Cx.Ok.unwish {X : Cx} {E : Value → Shared → Prop} (ok : (X.wish E).Ok) : X.Ok :=
  ⟨ok.mod, ok.kind, ok.glob, ok.blt, ok.above, ok.inj, ok.has, ok.cab, ok.hd, ok.frames, ok.stk, ok.exf, ok.bs, ok.bsz, ok.noex, ok.exfs, ok.funs, ok.frf⟩
section
variable {X : Cx} {pins : List (Addr × Obj)} {σ : St} {H : Hp} {s : Shared} {E : Value → Shared → Prop}
theorem Inv.wish (I : Inv X pins σ H s) (E : Value → Shared → Prop) : Inv (X.wish E) pins σ H s := ⟨I.ok.wish E, I.os, I.bare, I.base, I.loc, I.cell, I.free, I.freeC, I.pin, I.hok, I.len⟩
theorem Inv.unwish (I : Inv (X.wish E) pins σ H s) : Inv X pins σ H s := ⟨I.ok.unwish, I.os, I.bare, I.base, I.loc, I.cell, I.free, I.freeC, I.pin, I.hok, I.len⟩
theorem SP.unwish {D : Ends} {f : Flow} {s' : Shared} (h : SP (X.wish E) pins D f s') : SP X pins D f s' := by
  cases f with
  | next => obtain ⟨σ', H', I, q⟩ := h; exact ⟨σ', H', I.unwish, q⟩
  | brk => obtain ⟨σ', H', I, q⟩ := h; exact ⟨σ', H', I.unwish, q⟩
  | cont => obtain ⟨σ', H', I, q⟩ := h; exact ⟨σ', H', I.unwish, q⟩
  | ret u => obtain ⟨v, σ', H', I, r, q⟩ := h; exact ⟨v, σ', H', I.unwish, r, q⟩
theorem PE.nox {e : Expr} {t : TE} (h : PE X.nox e t) : PE X e t := fun pins s σ H Q I hw =>
  wpAny_mono (h pins s σ H Q (I.wish _) hw) (fun _ _ ⟨v, H', I', r, q⟩ => ⟨v, H', I'.unwish, r, q⟩) fun _ _ z => False.elim z
theorem PT.nox {e : Expr} {t : TT} (h : PT X.nox e t) : PT X e t := fun pins s σ H Q I hw =>
  wpAny_mono (h pins s σ H Q (I.wish _) hw) (fun _ _ ⟨H', I', q⟩ => ⟨H', I'.unwish, q⟩) fun _ _ z => False.elim z
theorem PSs.nox {st : List Stmt} {t : TS} (h : PSs X.nox st t) : PSs X st t := fun pins s σ H D I hw =>
  wpAny_mono (h pins s σ H D (I.wish _) hw) (fun _ _ q => q.unwish) fun _ _ z => False.elim z
end
section
variable {X : Cx} {st : Stmt} {rest : List Stmt} {t u : TS} {e : Expr} {te : TE} {pos : Pos}
noncomputable def tNext : TS := fun D σ H => D.nx σ H
noncomputable def tSeq (t u : TS) : TS := fun D σ H => t { D with nx := u D } σ H
theorem pss_nil : PSs X [] tNext := fun _ _ σ H _ I h => wpAny_execs_nil ⟨σ, H, I, h⟩
theorem pss_cons (h1 : PS X st t) (h2 : PSs X rest u) : PSs X (st :: rest) (tSeq t u) := by
  intro pins s σ H D I h
  refine wpAny_execs_cons (thn (h1 pins s σ H { D with nx := u D } I h) fun f s1 q => ?_)
  cases f with
  | next =>
    obtain ⟨σ', H', I', q⟩ := q
    exact h2 pins s1 σ' H' D I' q
  | ret v => exact q
  | brk => exact q
  | cont => exact q
theorem pss_one (h1 : PS X st t) : PSs X [st] t := by
  intro pins s σ H D I h
  refine wpAny_execs_cons (thn (h1 pins s σ H D I h) fun f s1 q => ?_)
  cases f with
  | next => exact wpAny_execs_nil q
  | ret v => exact q
  | brk => exact q
  | cont => exact q
theorem Inv.quiet {pins : List (Addr × Obj)} {σ : St} {H : Hp} {s : Shared} (I : Inv X pins σ H s) : interactive X.env = false := by simp [interactive, I.ok.kind]
noncomputable def tDrop (te : TE) : TS := fun D σ H => te σ H fun _ H1 => D.nx σ H1
theorem ps_expr (he : PE X e te) (hs : swapsWith e none pos.line X.env = pure false := by rfl) : PS X (.Expr e pos) (tDrop te) := by
  intro pins s σ H D I h
  exact wpAny_Expr_any (thn (he pins s σ H _ I h) fun v s1 ⟨x, H1, I1, r1, q1⟩ => ⟨σ, H1, I1, q1⟩) I.quiet hs
noncomputable def tRet (te : TE) : TS := fun D σ H => te σ H D.rt
theorem ps_ret (he : PE X e te) : PS X (.Return (some e) pos) (tRet te) := by
  intro pins s σ H D I h
  exact wpAny_Return_some (thn (he pins s σ H _ I h) fun v s1 ⟨x, H1, I1, r1, q1⟩ => ⟨x, σ, H1, I1, r1, q1⟩)
noncomputable def tIfS (c : TT) (t u : TS) : TS := fun D σ H => c σ H fun b H1 => if b = true then t D σ H1 else u D σ H1
theorem ps_if {c : Expr} {a b : List Stmt} {tc : TT} (hc : PT X c tc) (ha : PSs X a t) (hb : PSs X b u) : PS X (.If c a b pos) (tIfS tc t u) := by
  intro pins s σ H D I h
  refine wpAny_If (thn (hc pins s σ H _ I h) fun d s1 ⟨H1, I1, q1⟩ => ?_)
  cases d with
  | true => exact ha pins s1 σ H1 D I1 q1
  | false => exact hb pins s1 σ H1 D I1 q1
end
noncomputable abbrev TG := V → St → Hp → (St → Hp → Prop) → Prop
noncomputable abbrev TGs := List V → St → Hp → (St → Hp → Prop) → Prop
noncomputable def PG (X : Cx) (target : Expr) (t : TG) : Prop :=
  ∀ (pins : List (Addr × Obj)) (s : Shared) (σ : St) (H : Hp) (v : V) (u : Value) (Q : St → Hp → Prop), Inv X pins σ H s → RelV v u → t v σ H Q →
    wpAny (model X.prog X.w) X.A (assign target X.env u) (fun _ s' => ∃ σ' H', Inv X pins σ' H' s' ∧ Q σ' H') X.xe s
noncomputable abbrev TSet := V → V → V → Hp → (Hp → Prop) → Prop
noncomputable def PSet (X : Cx) (t : TSet) : Prop :=
  ∀ (pins : List (Addr × Obj)) (s : Shared) (σ : St) (H : Hp) (o i v : V) (ov iv u : Value) (Q : Hp → Prop), Inv X pins σ H s → RelV o ov → RelV i iv → RelV v u → t o i v H Q →
    wpAny (model X.prog X.w) X.A (setItem ov iv u) (fun _ s' => ∃ H', Inv X pins σ H' s' ∧ Q H') X.xe s
noncomputable abbrev TIp := V → V → Hp → VK → Prop
section
variable {X : Cx} {pos : Pos}
noncomputable def gName (i : Nat) : TG := fun v σ H Q => Q (σ.set i (some v)) H
theorem pg_name {i : Nat} {x : Str} (hN : X.N.Nodup) (hi : X.N[i]? = some x) (hx : Loc X.env.scope x) (hf : X.fn x = true ∨ X.env.scope.names.lookup x = some .local := by first | exact .inl rfl | exact .inr rfl | assumption) : PG X (.Name x pos) (gName i) := by
  intro pins s σ H v u Q I r h
  exact wpAny_assign_Name (store_ok I hN hi hx r (fun s' I' => ⟨_, H, I', h⟩) hf)
noncomputable def gNil : TGs := fun vs σ H Q => vs = [] ∧ Q σ H
noncomputable def gCons (t : TG) (u : TGs) : TGs := fun vs σ H Q => ∃ v r, vs = v :: r ∧ t v σ H fun σ' H' => u r σ' H' Q
noncomputable def gSub (to ti : TE) (t : TSet) : TG := fun v σ H Q => to σ H fun o H1 => ti σ H1 fun i H2 => t o i v H2 fun H3 => Q σ H3
theorem pg_sub {o i : Expr} {to ti : TE} {t : TSet} (ho : PE X o to) (hi : PE X i ti) (hs : PSet X t)
    (ha : ∀ v, assign (.Subscript o i pos) X.env v = (do
      let ov ← holding [v] (eval o X.env)
      let iv ← holding [v, ov] (eval i X.env)
      standAt pos
      holding [v, ov, iv] (setItem ov iv v)
      release [v, ov, iv] []) := by intro _; rfl) : PG X (.Subscript o i pos) (gSub to ti t) := by
  intro pins s σ H v u Q I r h
  rw [ha]
  refine wpAny_bind (wpAny_holding (thn (ho pins s σ H _ I h) fun ov s1 ⟨x, H1, I1, r1, q1⟩ => ?_))
  refine wpAny_bind (wpAny_holding (thn (hi pins s1 σ H1 _ I1 q1) fun iv s2 ⟨y, H2, I2, r2, q2⟩ => ?_))
  refine wpAny_bind (wpAny_standAt (wpAny_bind (wpAny_holding (thn (hs pins s2 σ H2 x y v ov iv u _ I2 r1 r2 r q2) fun _ s3 ⟨H3, I3, q3⟩ => ?_))))
  exact wpAny_release ⟨σ, H3, I3, q3⟩
noncomputable def tAsg (te : TE) (g : TG) : TS := fun D σ H => te σ H fun x H1 => g x σ H1 D.nx
theorem ps_asg {tg e : Expr} {te : TE} {g : TG} (he : PE X e te) (hg : PG X tg g) (hs : swapsWithSole [tg] e pos.line X.env = pure false := by rfl) (hw : swappedStores [tg] e X.env = pure none := by rfl)
    (h1 : (assignEach [tg] X.env).map (·.2) = [assign tg X.env] := by rfl) : PS X (.Assign [tg] e pos) (tAsg te g) := by
  intro pins s σ H D I h
  refine wpAny_Assign_stores (thn (he pins s σ H _ I h) fun v s1 ⟨x, H1, I1, r1, q1⟩ => ?_) hs hw
  rw [h1]
  exact thn (hg pins s1 σ H1 x v _ I1 r1 q1) fun _ s2 q => q
theorem ps_set {i : Nat} {x : Str} {e : Expr} {te : TE} {pos' : Pos} (hN : X.N.Nodup) (hi : X.N[i]? = some x) (hx : Loc X.env.scope x) (he : PE X e te) (hs : swapsWith e (some (.Name x pos')) pos.line X.env = pure false := by rfl) (hf : X.fn x = true ∨ X.env.scope.names.lookup x = some .local := by first | exact .inl rfl | exact .inr rfl | assumption) :
    PS X (.Assign [.Name x pos'] e pos) (tAsg te (gName i)) := by
  intro pins s σ H D I h
  refine wpAny_Assign_Name (thn (he pins s σ H _ I h) fun v s1 ⟨y, H1, I1, r1, q1⟩ => ?_) hs
  exact store_ok I1 hN hi hx r1 (fun s2 I2 => ⟨_, H1, I2, q1⟩) hf
noncomputable def tPar (i j : Nat) (ta : TA) : TS := fun D σ H => ta σ H fun vs H1 => ∃ v w, vs = [v, w] ∧ D.nx ((σ.set i (some v)).set j (some w)) H1
end
section
variable {X : Cx} {pos : Pos}
noncomputable def tWhile (c : TT) (tb : TS) : TS := fun D σ H => ∃ W : Nat → St → Hp → Prop, (∃ m, W m σ H) ∧ ∀ m σ H, W m σ H →
  c σ H fun b H1 => if b = true then ∃ N : St → Hp → Prop, (∀ σ' H', N σ' H' → ∃ m', m' < m ∧ W m' σ' H') ∧ tb { D with nx := N, ct := N, bk := D.nx } σ H1 else D.nx σ H1
theorem ps_while {c : Expr} {body : List Stmt} {tc : TT} {tb : TS} (hp : PassesOwn (model X.prog X.w) X.A X.env X.xe) (hc : PT X c tc) (hb : PSs X body tb) : PS X (.While c body [] pos) (tWhile tc tb) := by
  intro pins s σ H D I h
  obtain ⟨W, ⟨m0, w0⟩, turn⟩ := h
  refine wpAny_While (codeAny_whileLoop (fun n s' => ∃ σ' H', Inv X pins σ' H' s' ∧ W n σ' H') ?_ m0 ⟨σ, H, I, w0⟩)
  rintro n s1 ⟨σ1, H1, I1, w1⟩
  refine wpAny_passesOwn hp (thn (hc pins s1 σ1 H1 _ I1 (turn n σ1 H1 w1)) fun b s2 ⟨H2, I2, q2⟩ => ?_)
  cases b with
  | true =>
    obtain ⟨N, hN, q2⟩ := q2
    rw [if_pos rfl]
    refine wpAny_passesOwn hp (thn (hb pins s2 σ1 H2 _ I2 q2) fun f s3 q3 => ?_)
    cases f with
    | next =>
      obtain ⟨σ3, H3, I3, n3⟩ := q3
      obtain ⟨m', hm, w3⟩ := hN σ3 H3 n3
      exact ⟨m', hm, σ3, H3, I3, w3⟩
    | cont =>
      obtain ⟨σ3, H3, I3, n3⟩ := q3
      obtain ⟨m', hm, w3⟩ := hN σ3 H3 n3
      exact ⟨m', hm, σ3, H3, I3, w3⟩
    | brk => exact q3
    | ret v => exact q3
  | false =>
    rw [if_neg Bool.false_ne_true]
    exact wpAny_execs_nil ⟨σ1, H2, I2, q2⟩
end
structure It where
  go : Nat → Hp → Prop
  yld : Nat → Hp → V → Hp → Prop
  stop : Nat → Hp → Prop
noncomputable def FpOk (X : Cx) (pins : List (Addr × Obj)) (H : Hp) (b : Addr) : Prop :=
  H b = none ∧ b ≠ X.env.locals ∧ b ∉ X.fs ∧ (b ∈ X.ex ∨ X.s₀.heap.objs.size ≤ b) ∧ (∀ x c, X.env.cells.lookup x = some c → c ≠ b) ∧ ∀ p ∈ X.pn ++ pins, p.1 ≠ b
theorem Inv.fpOk {X : Cx} {pins : List (Addr × Obj)} {σ : St} {H H' : Hp} {s : Shared} {b : Addr} (I : Inv X pins σ H s) (hb : s.heap.objs.size ≤ b) (hn : H' b = none) : FpOk X pins H' b := by
  refine ⟨hn, Nat.ne_of_gt (Nat.lt_of_lt_of_le I.lt hb), I.nofs hb, .inr (Nat.le_trans I.sz hb), fun x c e z => ?_, fun p hp z => ?_⟩
  · obtain ⟨v, q⟩ := I.cell x c e
    exact absurd (Nat.lt_of_lt_of_le q.lt (by rw [z]; exact hb)) (Nat.lt_irrefl _)
  · exact absurd (Nat.lt_of_lt_of_le (Heap.lt_size (I.pin p hp).1) (by rw [z]; exact hb)) (Nat.lt_irrefl _)
structure Turn (P : Program) (w : World) (K : PySem.W.Frag) (tg : Expr) (J : It) (fp : List Addr) (it : Addr) (tn : Nat → Heap → Prop) : Prop where
  mem : it ∈ fp
  obj : ∀ i h, tn i h → ∀ b ∈ fp, ∃ o, h.get? b = some o ∧ ∀ v, o.data ≠ .cell v
  keep : ∀ i h h', tn i h → (∀ b ∈ fp, ∀ o, h.get? b = some o → h'.get? b = some o) → tn i h'
  item : ∀ (X : Cx), X.prog = P → X.w = w → X.K = K → X.calm = true → ∀ (i : Nat) (pins : List (Addr × Obj)) (s : Shared) (σ : St) (H : Hp) (E : Value → Shared → Prop), Inv X pins σ H s → (∀ b ∈ fp, FpOk X pins H b) → tn i s.heap → J.go i H →
    wpAny (model P w) X.A (pyNext (.ref it)) (fun r s1 => ∃ u, r = some u ∧
      wpAny (model P w) X.A (letOwnedTupleGo tg (.ref it) u) (fun _ s2 => ∃ x H', Inv X pins σ H' s2 ∧ RelV x u ∧ J.yld i H x H' ∧ tn (i + 1) s2.heap ∧ ∀ b ∈ fp, H' b = none) E s1) E s
  done : ∀ (X : Cx), X.prog = P → X.w = w → X.K = K → X.calm = true → ∀ (i : Nat) (pins : List (Addr × Obj)) (s : Shared) (σ : St) (H : Hp) (E : Value → Shared → Prop), Inv X pins σ H s → (∀ b ∈ fp, FpOk X pins H b) → tn i s.heap → J.stop i H →
    wpAny (model P w) X.A (pyNext (.ref it)) (fun r s1 => r = none ∧ Inv X pins σ H s1) E s
  self : ∀ (A : Around) (i : Nat) (s : Shared) (Q : Value → Shared → Prop) (E : Value → Shared → Prop), tn i s.heap → Q (.ref it) s → wpAny (model P w) A (pyIter (.ref it)) Q E s
noncomputable abbrev TI := St → Hp → (It → Hp → Prop) → Prop
noncomputable def PIE (X : Cx) (pins : List (Addr × Obj)) (σ : St) (tg : Expr) (R : It → Hp → Prop) (itv : Value) (s2 : Shared) : Prop :=
  ∃ (it : Addr) (fp : List Addr) (tn : Nat → Heap → Prop) (J : It) (H' : Hp), itv = .ref it ∧ Inv X pins σ H' s2 ∧ Turn X.prog X.w X.K tg J fp it tn ∧ tn 0 s2.heap ∧ (∀ b ∈ fp, FpOk X pins H' b) ∧ R J H'
noncomputable def PI (X : Cx) (tg iter : Expr) (wi : TI) : Prop :=
  ∀ (pins : List (Addr × Obj)) (s : Shared) (σ : St) (H : Hp) (R : It → Hp → Prop), Inv X pins σ H s → wi σ H R →
    wpAny (model X.prog X.w) X.A (eval iter X.env) (fun v s1 => wpAny (model X.prog X.w) X.A (pyIter v) (PIE X pins σ tg R) X.xe s1) X.xe s
theorem go_of {M : Model} {A : Around} {E : Value → Shared → Prop} {s : Shared} {tg : Expr} {it : Addr} {u : Value} {o : Obj} {n : String} {vs : Array Value} {Q : Unit → Shared → Prop} (ho : s.heap.get? it = some o) (hc : o.cls = .type n) (hd : o.data = .fields vs)
    (hn : ["enumerate", "zip", "dict_itemiterator", "dict_reverseitemiterator", "odict_iterator", "itertools.zip_longest", "itertools.pairwise"].contains n = false) (hQ : Q () s) : wpAny M A (letOwnedTupleGo tg (.ref it) u) Q E s := by
  unfold letOwnedTupleGo
  cases tg <;> first
    | exact wpAny_pure hQ
    | (cases u <;> first
        | exact wpAny_pure hQ
        | (refine wpAny_bind (wpAny_load ho ?_)
           rw [hc, hd]
           show wpAny M A (if (["enumerate", "zip", "dict_itemiterator", "dict_reverseitemiterator", "odict_iterator", "itertools.zip_longest", "itertools.pairwise"].contains n && vs[0]? == some (rawInt _)) = true then _ else _) Q E s
           rw [if_neg (by intro h; rw [hn, Bool.false_and] at h; cases h)]
           exact wpAny_pure hQ))
noncomputable def Itl (K : PySem.W.Frag) (a : Addr) : It :=
  ⟨fun i H => ∃ xs x, SqL K H a xs ∧ xs[i]? = some x, fun i H x H' => H' = H ∧ ∀ xs, SqL K H a xs → xs[i]? = some x, fun i H => ∃ xs, SqL K H a xs ∧ xs.length ≤ i⟩
noncomputable def Itt (K : PySem.W.Frag) (a : Addr) : It :=
  ⟨fun i H => ∃ xs x, SqT K H a xs ∧ xs[i]? = some x, fun i H x H' => H' = H ∧ ∀ xs, SqT K H a xs → xs[i]? = some x, fun i H => ∃ xs, SqT K H a xs ∧ xs.length ≤ i⟩
noncomputable def Itr (lo : Int) (n : Nat) : It := ⟨fun i _ => i < n, fun i H x H' => H' = H ∧ x = .int (lo + i), fun i _ => n ≤ i⟩
theorem turn_list {P : Program} {w : World} {K : PySem.W.Frag} {tg : Expr} (a it : Addr) : Turn P w K tg (Itl K a) [it] it (fun i h => h.IsListIter it a i) where
  mem := by simp
  obj := fun i h st b hb => by
    have e : b = it := by simpa using hb
    subst e
    obtain ⟨o, e, c, d⟩ := st
    exact ⟨o, e, fun v z => by rw [d] at z; cases z⟩
  keep := fun i h h' st k => st.at fun o e => k it (by simp) o e
  item := by
    intro X hP hw hK hc i pins s σ H E I hf st hg
    subst hP hw hK
    obtain ⟨xs, x, hq, hx⟩ := hg
    obtain ⟨its, rv, p, hz⟩ := I.list hq
    obtain ⟨u, hu, ru⟩ := rv.get hx
    obtain ⟨f0, f1, f2, f3, f4, f5⟩ := hf it (by simp)
    refine wpAny_pyNext_list_item st p.isList (x := u) (by simpa using hu) fun h' st' sb => ?_
    have I1 : Inv X pins σ H { s with heap := h' } := I.turned (t' := s.toks) (fun b o hb e => (sb.2 b hb).trans e) f0 f1 f3 f4 f5
    obtain ⟨o, e, c, d⟩ := id st'
    exact ⟨u, rfl, go_of (s := { s with heap := h' }) e c d (by decide) ⟨x, H, I1, ru, ⟨rfl, fun ys hy => by rw [I.list_inj hy hq]; exact hx⟩, st', fun b hb => (hf b hb).1⟩⟩
  done := by
    intro X hP hw hK hc i pins s σ H E I hf st hg
    subst hP hw hK
    obtain ⟨xs, hq, hx⟩ := hg
    obtain ⟨its, rv, p, hz⟩ := I.list hq
    obtain ⟨f0, f1, f2, f3, f4, f5⟩ := hf it (by simp)
    have hl := rv.length
    exact wpAny_pyNext_list_end (I.ok.hd hc) st p.isList (by simp; omega) fun h' eb => ⟨rfl, I.turned (t' := s.toks) (fun b o hb e => eb b o hb e) f0 f1 f3 f4 f5⟩
  self := fun _ _ _ _ _ st h => wpAny_pyIter_listiter st h
theorem turn_tuple {P : Program} {w : World} {K : PySem.W.Frag} {tg : Expr} (a it : Addr) : Turn P w K tg (Itt K a) [it] it (fun i h => h.IsTupleIter it a i) where
  mem := by simp
  obj := fun i h st b hb => by
    have e : b = it := by simpa using hb
    subst e
    obtain ⟨o, e, c, d⟩ := st
    exact ⟨o, e, fun v z => by rw [d] at z; cases z⟩
  keep := fun i h h' st k => st.at fun o e => k it (by simp) o e
  item := by
    intro X hP hw hK hc i pins s σ H E I hf st hg
    subst hP hw hK
    obtain ⟨xs, x, hq, hx⟩ := hg
    obtain ⟨its, rv, p, hz⟩ := I.tuple hq
    obtain ⟨u, hu, ru⟩ := rv.get hx
    obtain ⟨f0, f1, f2, f3, f4, f5⟩ := hf it (by simp)
    refine wpAny_pyNext_tuple_item st (show s.heap.IsTuple a its.toArray from p) (x := u) (by simpa using hu) fun h' st' sb => ?_
    have I1 : Inv X pins σ H { s with heap := h' } := I.turned (t' := s.toks) (fun b o hb e => (sb.2 b hb).trans e) f0 f1 f3 f4 f5
    obtain ⟨o, e, c, d⟩ := id st'
    exact ⟨u, rfl, go_of (s := { s with heap := h' }) e c d (by decide) ⟨x, H, I1, ru, ⟨rfl, fun ys hy => by rw [I.tuple_inj hy hq]; exact hx⟩, st', fun b hb => (hf b hb).1⟩⟩
  done := by
    intro X hP hw hK hc i pins s σ H E I hf st hg
    subst hP hw hK
    obtain ⟨xs, hq, hx⟩ := hg
    obtain ⟨its, rv, p, hz⟩ := I.tuple hq
    obtain ⟨f0, f1, f2, f3, f4, f5⟩ := hf it (by simp)
    have hl := rv.length
    exact wpAny_pyNext_tuple_end (I.ok.hd hc) st (show s.heap.IsTuple a its.toArray from p) (by simp; omega) fun h' eb => ⟨rfl, I.turned (t' := s.toks) (fun b o hb e => eb b o hb e) f0 f1 f3 f4 f5⟩
  self := fun _ _ _ _ _ st h => wpAny_pyIter_tupleiter st h
theorem turn_range {P : Program} {w : World} {K : PySem.W.Frag} {tg : Expr} (it : Addr) (lo : Int) (n : Nat) : Turn P w K tg (Itr lo n) [it] it (fun i h => IsRangeIter h it (lo + (i : Nat) * 1) ((n : Int) - (i : Nat)) 1) where
  mem := by simp
  obj := fun i h st b hb => by
    have e : b = it := by simpa using hb
    subst e
    exact ⟨_, st, fun v z => by
      have z' : Data.fields _ = Data.cell v := z
      cases z'⟩
  keep := fun i h h' st k => k it (by simp) _ st
  item := by
    intro X hP hw hK hc i pins s σ H E I hf st hg
    subst hP hw hK
    obtain ⟨f0, f1, f2, f3, f4, f5⟩ := hf it (by simp)
    have W := Walks.range (prog := X.prog) (w := X.w) (I.ok.hd hc) it lo 1 n
    refine W.item i s _ _ hg st fun v h' tk hv st' kk => ?_
    obtain ⟨t, rfl⟩ := hv
    have I1 : Inv X pins σ H { s with heap := h', toks := tk } := I.turned (fun b o hb e => kk b o (by simpa using hb) e) f0 f1 f3 f4 f5
    refine ⟨_, rfl, go_of (s := { s with heap := h', toks := tk }) (n := "range_iterator") st' rfl rfl (by decide) ⟨.int (lo + i), H, I1, ⟨t, ?_⟩, ⟨rfl, rfl⟩, st', fun b hb => (hf b hb).1⟩⟩
    rw [Int.mul_one]
  done := by
    intro X hP hw hK hc i pins s σ H E I hf st hg
    subst hP hw hK
    obtain ⟨f0, f1, f2, f3, f4, f5⟩ := hf it (by simp)
    exact wpAny_pyNext_range_end (I.ok.hd hc) st (by have : n ≤ i := hg; omega) fun h' eb => ⟨rfl, I.turned (t' := s.toks) (fun b o hb e => eb b o hb e) f0 f1 f3 f4 f5⟩
  self := fun _ _ _ _ _ st h => wpAny_pyIter_rangeiter st h
end L2
namespace L2
open PySem PySem.Spec PyProof.Rows
section
variable {X : Cx} {tg : Expr}
noncomputable def iList (K : PySem.W.Frag) (tl : TE) : TI := fun σ H R => tl σ H fun x H1 => ∃ a, x = .ref a ∧ (∃ xs, SqL K H1 a xs) ∧ R (Itl K a) H1
noncomputable def iTup (K : PySem.W.Frag) (tl : TE) : TI := fun σ H R => tl σ H fun x H1 => ∃ a, x = .ref a ∧ (∃ xs, SqT K H1 a xs) ∧ R (Itt K a) H1
theorem pi_list {l : Expr} {tl : TE} (hl : PE X l tl) : PI X tg l (iList X.K tl) := by
  intro pins s σ H R I h
  refine thn (hl pins s σ H _ I h) fun v s1 ⟨x, H1, I1, r1, q1⟩ => ?_
  obtain ⟨a, e, ⟨xs, hq⟩, q⟩ := q1
  subst e
  cases r1
  obtain ⟨its, rv, p, hz⟩ := I1.list hq
  refine wpAny_pyIter_list p.isList ?_
  refine ⟨s1.heap.objs.size, [s1.heap.objs.size], _, _, H1, rfl, I1.kept (t' := s1.toks) fun b o e => Heap.get?_push_of_some _ e, turn_list a _, ⟨_, Heap.get?_push_size _ rfl, rfl, rfl⟩, fun b hb => ?_, q⟩
  have e : b = s1.heap.objs.size := by simpa using hb
  subst e
  exact I1.fpOk (Nat.le_refl _) (I1.hok.fresh (Nat.le_refl _))
theorem pi_tup {l : Expr} {tl : TE} (hl : PE X l tl) : PI X tg l (iTup X.K tl) := by
  intro pins s σ H R I h
  refine thn (hl pins s σ H _ I h) fun v s1 ⟨x, H1, I1, r1, q1⟩ => ?_
  obtain ⟨a, e, ⟨xs, hq⟩, q⟩ := q1
  subst e
  cases r1
  obtain ⟨its, rv, p, hz⟩ := I1.tuple hq
  refine wpAny_pyIter_tuple (show s1.heap.IsTuple a its.toArray from p) ?_
  refine ⟨s1.heap.objs.size, [s1.heap.objs.size], _, _, H1, rfl, I1.kept (t' := s1.toks) fun b o e => Heap.get?_push_of_some _ e, turn_tuple a _, ⟨_, Heap.get?_push_size _ rfl, rfl, rfl⟩, fun b hb => ?_, q⟩
  have e : b = s1.heap.objs.size := by simpa using hb
  subst e
  exact I1.fpOk (Nat.le_refl _) (I1.hok.fresh (Nat.le_refl _))
theorem range_it {pins : List (Addr × Obj)} {σ : St} {H : Hp} {s : Shared} {R : It → Hp → Prop} {E : Value → Shared → Prop} {lo hi : Int} {t u v : Tok} {tk : Nat} (I : Inv X pins σ H s) (h1 : -(2 ^ 62) ≤ lo) (h2 : lo < 2 ^ 62) (h3 : -(2 ^ 62) ≤ hi) (h4 : hi < 2 ^ 62)
    (q : R (Itr lo (hi - lo).toNat) H) : wpAny (model X.prog X.w) X.A (pyIter (.ref s.heap.objs.size)) (PIE X pins σ tg R) E { s with heap := s.heap.push { cls := .type "range", data := .fields #[.int lo t, .int hi u, .int 1 v] }, toks := tk } := by
  refine wpAny_pyIter_range (IsRange.new ..) (small_one h1 h2 h3 h4) ?_
  have I1 : Inv X pins σ H { s with heap := s.heap.push { cls := .type "range", data := .fields #[.int lo t, .int hi u, .int 1 v] }, toks := tk } := I.kept fun b o e => Heap.get?_push_of_some _ e
  refine ⟨(s.heap.push { cls := .type "range", data := .fields #[.int lo t, .int hi u, .int 1 v] }).objs.size, [(s.heap.push { cls := .type "range", data := .fields #[.int lo t, .int hi u, .int 1 v] }).objs.size], _, _, H, rfl,
    I1.kept (t' := tk) fun b o e => Heap.get?_push_of_some _ e, turn_range _ lo (hi - lo).toNat, ?_, fun b hb => ?_, q⟩
  · have e1 : lo + ((0 : Nat) : Int) * 1 = lo := by simp
    have e2 : (((hi - lo).toNat : Nat) : Int) - ((0 : Nat) : Int) = Builtin.Range.rangeSize lo hi 1 := by rw [rangeSize_one]; split <;> omega
    show IsRangeIter _ _ (lo + ((0 : Nat) : Int) * 1) ((((hi - lo).toNat : Nat) : Int) - ((0 : Nat) : Int)) 1
    rw [e1, e2]
    exact Heap.get?_push_size _ rfl
  · have e : b = (s.heap.push { cls := .type "range", data := .fields #[.int lo t, .int hi u, .int 1 v] }).objs.size := by simpa using hb
    subst e
    exact I1.fpOk (Nat.le_refl _) (I1.hok.fresh (Nat.le_refl _))
noncomputable def iRng1 (ta : TA) : TI := fun σ H R => ta σ H fun vs H1 => ∃ j : Int, vs = [.int j] ∧ -(2 ^ 62) ≤ j ∧ j < 2 ^ 62 ∧ R (Itr 0 j.toNat) H1
noncomputable def iRng2 (ta : TA) : TI := fun σ H R => ta σ H fun vs H1 => ∃ i j : Int, vs = [.int i, .int j] ∧ (-(2 ^ 62) ≤ i ∧ i < 2 ^ 62 ∧ -(2 ^ 62) ≤ j ∧ j < 2 ^ 62) ∧ R (Itr i (j - i).toNat) H1
theorem pi_range1 {a : Expr} {ta : TA} {p pos : Pos} (hg : Gl X "range") (hm : X.mg "range" = none) (ha : PA X [a] ta) (hs : starEach [a] X.env = [(false, eval a X.env)] := by rfl) : PI X tg (.Call (.Name "range" p) [a] [] pos) (iRng1 ta) := by
  intro pins s σ H R I h
  refine Call_ (ld_blt I hg hm boot_range (PyProof.Rows.callWith_type1 (thn (ha pos pins s σ H _ I h) fun us s1 ⟨vs, H1, I1, r1, q1⟩ => ?_) hs rfl))
  obtain ⟨j, e, q1, q2, q⟩ := q1
  subst e
  cases r1 with
  | cons r rr =>
    cases rr
    obtain ⟨t, rfl⟩ := r
    exact call_range_1 (range_it I1 (by omega) (by omega) q1 q2 (by simpa using q))
noncomputable def tFor (wi : TI) (g : TG) (tb : TS) : TS := fun D σ H => wi σ H fun J H1 => ∃ W : Nat → Nat → St → Hp → Prop, (∃ m, W 0 m σ H1) ∧ ∀ i m σ H, W i m σ H →
  (J.stop i H ∧ D.nx σ H) ∨ (J.go i H ∧ ∃ N : St → Hp → Prop, (∀ σ' H', N σ' H' → ∃ m', m' < m ∧ W (i + 1) m' σ' H') ∧ ∀ x H', J.yld i H x H' → g x σ H' fun σ2 H2 => tb { D with nx := N, ct := N, bk := D.nx } σ2 H2)
noncomputable def pinsAt (fp : List Addr) (h : Heap) : List (Addr × Obj) := fp.filterMap fun b => (h.get? b).map fun o => (b, o)
theorem mem_pinsAt {fp : List Addr} {h : Heap} {b : Addr} {o : Obj} (hb : b ∈ fp) (e : h.get? b = some o) : (b, o) ∈ pinsAt fp h := List.mem_filterMap.mpr ⟨b, hb, by rw [e]; rfl⟩
theorem of_pinsAt {fp : List Addr} {h : Heap} {p : Addr × Obj} (hp : p ∈ pinsAt fp h) : p.1 ∈ fp ∧ h.get? p.1 = some p.2 := by
  obtain ⟨b, hb, e⟩ := List.mem_filterMap.mp hp
  cases q : h.get? b with
  | none => rw [q] at e; cases e
  | some o =>
    rw [q] at e
    have e' : (b, o) = p := Option.some.inj e
    subst e'
    exact ⟨hb, q⟩
theorem Inv.pinned {pins : List (Addr × Obj)} {σ : St} {H : Hp} {s : Shared} {fp : List Addr} (I : Inv X pins σ H s) (hf : ∀ b ∈ fp, FpOk X pins H b) (ho : ∀ b ∈ fp, ∃ o, s.heap.get? b = some o ∧ ∀ v, o.data ≠ .cell v) : Inv X (pins ++ pinsAt fp s.heap) σ H s :=
  I.pins_of fun p hp => (List.mem_append.mp hp).elim (fun z => I.pin p (List.mem_append_right _ z)) fun z => by
    obtain ⟨hb, e⟩ := of_pinsAt z
    obtain ⟨f0, f1, f2, _⟩ := hf p.1 hb
    obtain ⟨o, e', d⟩ := ho p.1 hb
    rw [e] at e'; cases e'
    exact ⟨e, f0, f1, f2, d⟩
theorem Inv.unpinned {pins pl : List (Addr × Obj)} {σ : St} {H : Hp} {s : Shared} (I : Inv X (pins ++ pl) σ H s) : Inv X pins σ H s := I.pins_of fun p hp => I.pin p (List.mem_append_right _ (List.mem_append_left _ hp))
theorem ps_for {iter : Expr} {body : List Stmt} {wi : TI} {g : TG} {tb : TS} {pos : Pos} (hp : PassesOwn (model X.prog X.w) X.A X.env X.xe) (hc : X.calm = true) (hi : PI X tg iter wi) (hg : PG X tg g) (hb : PSs X body tb)
    (hs : ∀ x, foldedSetIterable iter X.env x = pure x := by intro _; rfl) : PS X (.For tg iter body [] pos) (tFor wi g tb) := by
  intro pins s σ H D I h
  refine wpAny_For (thn (hi pins s σ H _ I h) fun v s1 h1 => thn h1 fun itv s2 h2 => ?_) hs
  obtain ⟨it, fp, tn, J, H2, e, I2, T, st2, f2, W, ⟨m0, w0⟩, turn⟩ := h2
  subst e
  have stat : ∀ {H' : Hp}, (∀ b ∈ fp, H' b = none) → ∀ b ∈ fp, FpOk X pins H' b := fun hn b hb => ⟨hn b hb, (f2 b hb).2⟩
  refine codeAny_forLoop_any (fun n s' => ∃ i σ' H', Inv X pins σ' H' s' ∧ tn i s'.heap ∧ (∀ b ∈ fp, H' b = none) ∧ W i n σ' H') ?_ m0 ⟨0, σ, H2, I2, st2, fun b hb => (f2 b hb).1, w0⟩
  rintro n s3 ⟨i, σ3, H3, I3, st3, fr3, w3⟩
  rcases turn i n σ3 H3 w3 with ⟨stop, qn⟩ | ⟨go, N, hN, step⟩
  · refine wpAny_passesOwn hp (thn (T.done X rfl rfl rfl hc i pins s3 σ3 H3 X.xe I3 (stat fr3) st3 stop) fun r s4 ⟨hr, I4⟩ => ?_)
    subst hr
    exact wpAny_execs_nil ⟨σ3, H3, I4, qn⟩
  · refine wpAny_passesOwn hp (thn (T.item X rfl rfl rfl hc i pins s3 σ3 H3 X.xe I3 (stat fr3) st3 go) fun r s4 ⟨u, hr, h4⟩ => ?_)
    subst hr
    refine wpAny_passesOwn hp (thn h4 fun _ s5 ⟨x, H5, I5, r5, y5, st5, fr5⟩ => ?_)
    have I5' := I5.pinned (stat fr5) (T.obj _ _ st5)
    refine wpAny_passesOwn hp (thn (hg _ s5 σ3 H5 x u _ I5' r5 (step x H5 y5)) fun _ s6 ⟨σ6, H6, I6, q6⟩ => ?_)
    refine wpAny_passesOwn hp (thn (hb _ s6 σ6 H6 _ I6 q6) fun f s7 q7 => ?_)
    have again : ∀ {σ7 : St} {H7 : Hp}, Inv X (pins ++ pinsAt fp s5.heap) σ7 H7 s7 → N σ7 H7 → ∃ m, m < n ∧ ∃ i σ' H', Inv X pins σ' H' s7 ∧ tn i s7.heap ∧ (∀ b ∈ fp, H' b = none) ∧ W i m σ' H' := fun {σ7 H7} I7 n7 => by
      obtain ⟨m', hm, w7⟩ := hN σ7 H7 n7
      refine ⟨m', hm, i + 1, σ7, H7, I7.unpinned, T.keep _ _ _ st5 fun b hb o e => (I7.pin (b, o) (List.mem_append_right _ (List.mem_append_right _ (mem_pinsAt hb e)))).1, fun b hb => ?_, w7⟩
      obtain ⟨o, e, d⟩ := T.obj _ _ st5 b hb
      exact (I7.pin (b, o) (List.mem_append_right _ (List.mem_append_right _ (mem_pinsAt hb e)))).2.1
    cases f with
    | next => obtain ⟨σ7, H7, I7, n7⟩ := q7; exact again I7 n7
    | cont => obtain ⟨σ7, H7, I7, n7⟩ := q7; exact again I7 n7
    | brk => obtain ⟨σ7, H7, I7, q7⟩ := q7; exact ⟨σ7, H7, I7.unpinned, q7⟩
    | ret v => obtain ⟨x7, σ7, H7, I7, r7, q7⟩ := q7; exact ⟨x7, σ7, H7, I7.unpinned, r7, q7⟩
end
end L2
namespace L2
open PySem PySem.Spec PyProof.Rows
noncomputable abbrev R2 := V → V → Hp → VK → Prop
noncomputable def OpR (X : Cx) (f : Value → Value → Sem Value) (r : R2) : Prop :=
  ∀ (pins : List (Addr × Obj)) (s : Shared) (σ : St) (H : Hp) (x y : V) (v u : Value) (Q : VK), Inv X pins σ H s → RelV x v → RelV y u → r x y H Q →
    wpAny (model X.prog X.w) X.A (f v u) (EP X pins σ Q) X.xe s
noncomputable def UnR (X : Cx) (f : Value → Sem Value) (r : V → Hp → VK → Prop) : Prop :=
  ∀ (pins : List (Addr × Obj)) (s : Shared) (σ : St) (H : Hp) (x : V) (v : Value) (Q : VK), Inv X pins σ H s → RelV x v → r x H Q →
    wpAny (model X.prog X.w) X.A (f v) (EP X pins σ Q) X.xe s
noncomputable def CallR (X : Cx) (f : Value) (r : List V → Hp → VK → Prop) : Prop :=
  ∀ (pins : List (Addr × Obj)) (s : Shared) (σ : St) (H : Hp) (xs : List V) (us : List Value) (Q : VK), Inv X pins σ H s → Vals xs us → r xs H Q →
    wpAny (model X.prog X.w) X.A (call f us) (EP X pins σ Q) X.xe s
noncomputable def TruR (X : Cx) (r : V → Hp → (Bool → Hp → Prop) → Prop) : Prop :=
  ∀ (pins : List (Addr × Obj)) (s : Shared) (σ : St) (H : Hp) (x : V) (v : Value) (Q : Bool → Hp → Prop), Inv X pins σ H s → RelV x v → r x H Q →
    wpAny (model X.prog X.w) X.A (truthy v) (TP X pins σ Q) X.xe s
noncomputable def tOp (r : R2) (ta tb : TE) : TE := fun σ H Q => ta σ H fun x H1 => tb σ H1 fun y H2 => r x y H2 Q
noncomputable def tUn (r : V → Hp → VK → Prop) (ta : TE) : TE := fun σ H Q => ta σ H fun x H1 => r x H1 Q
noncomputable def rI (C : Int → Int → Prop) (g : Int → Int → V) : R2 := fun x y H Q => ∃ i j, x = .int i ∧ y = .int j ∧ C i j ∧ Q (g i j) H
noncomputable def rI0 (g : Int → Int → V) : R2 := fun x y H Q => ∃ i j, x = .int i ∧ y = .int j ∧ Q (g i j) H
noncomputable def rU (g : Int → V) : V → Hp → VK → Prop := fun x H Q => ∃ i, x = .int i ∧ Q (g i) H
section
variable {X : Cx} {a b c : Expr} {ta tb tc : TE} {pos : Pos}
theorem binT (ha : PE X a ta) (hb : PE X b tb) {pins : List (Addr × Obj)} {s : Shared} {σ : St} {H : Hp} {R : V → V → Hp → Prop} (I : Inv X pins σ H s)
    (h : ta σ H fun x H1 => tb σ H1 fun y H2 => R x y H2) {Q : Value → Shared → Prop} {f : Value → Value → Sem Value}
    (hf : ∀ v u s2 x y H2, Inv X pins σ H2 s2 → RelV x v → RelV y u → R x y H2 → wpAny (model X.prog X.w) X.A (f v u) Q X.xe s2) :
    wpAny (model X.prog X.w) X.A (eval a X.env) (fun v s₁ => wpAny (model X.prog X.w) X.A (eval b X.env) (fun u s₂ => wpAny (model X.prog X.w) X.A (f v u) Q X.xe s₂) X.xe s₁) X.xe s := by
  refine thn (ha pins s σ H _ I h) fun v s1 ⟨x, H1, I1, r1, q1⟩ => ?_
  refine thn (hb pins s1 σ H1 _ I1 q1) fun u s2 ⟨y, H2, I2, r2, q2⟩ => ?_
  exact hf v u s2 x y H2 I2 r1 r2 q2
theorem pe_op {op : Operator} {r : R2} (ho : OpR X (binaryOp op) r) (ha : PE X a ta) (hb : PE X b tb) : PE X (.BinOp a op b pos) (tOp r ta tb) := by
  intro pins s σ H Q I h
  exact wpAny_BinOp (binT ha hb I h fun v u s2 x y H2 I2 rx ry q => ho pins s2 σ H2 x y v u Q I2 rx ry q)
theorem pe_un {op : UnaryOp} {r : V → Hp → VK → Prop} (ho : UnR X (unaryOp op) r) (ha : PE X a ta) : PE X (.UnaryOp op a pos) (tUn r ta) := by
  intro pins s σ H Q I h
  exact UnaryOp_ (thn (ha pins s σ H _ I h) fun v s1 ⟨x, H1, I1, r1, q1⟩ => ho pins s1 σ H1 x v Q I1 r1 q1)
theorem opI {f : Value → Value → Sem Value} {C : Int → Int → Prop} {g : Int → Int → Int}
    (rule : ∀ (i j : Int) (t u : Tok) (s : Shared) (Q : Value → Shared → Prop) (E : Value → Shared → Prop), C i j → Q (.int (g i j) s.toks) { s with toks := s.toks + 1 } → wpAny (model X.prog X.w) X.A (f (.int i t) (.int j u)) Q E s) :
    OpR X f (rI C fun i j => .int (g i j)) := by
  intro pins s σ H x y v u Q I rx ry h
  obtain ⟨i, j, rfl, rfl, hc, q⟩ := h
  obtain ⟨t, rfl⟩ := rx
  obtain ⟨t', rfl⟩ := ry
  exact rule i j t t' s _ _ hc ⟨.int (g i j), H, I.tok _, ⟨_, rfl⟩, q⟩
theorem opI0 {f : Value → Value → Sem Value} {g : Int → Int → Int}
    (rule : ∀ (i j : Int) (t u : Tok) (s : Shared) (Q : Value → Shared → Prop) (E : Value → Shared → Prop), Q (.int (g i j) s.toks) { s with toks := s.toks + 1 } → wpAny (model X.prog X.w) X.A (f (.int i t) (.int j u)) Q E s) :
    OpR X f (rI0 fun i j => .int (g i j)) := by
  intro pins s σ H x y v u Q I rx ry h
  obtain ⟨i, j, rfl, rfl, q⟩ := h
  obtain ⟨t, rfl⟩ := rx
  obtain ⟨t', rfl⟩ := ry
  exact rule i j t t' s _ _ ⟨.int (g i j), H, I.tok _, ⟨_, rfl⟩, q⟩
theorem opB0 {f : Value → Value → Sem Value} {g : Int → Int → Bool}
    (rule : ∀ (i j : Int) (t u : Tok) (s : Shared) (Q : Value → Shared → Prop) (E : Value → Shared → Prop), Q (.bool (g i j)) s → wpAny (model X.prog X.w) X.A (f (.int i t) (.int j u)) Q E s) :
    OpR X f (rI0 fun i j => .bl (g i j)) := by
  intro pins s σ H x y v u Q I rx ry h
  obtain ⟨i, j, rfl, rfl, q⟩ := h
  obtain ⟨t, rfl⟩ := rx
  obtain ⟨t', rfl⟩ := ry
  exact rule i j t t' s _ _ ⟨.bl (g i j), H, I, rfl, q⟩
noncomputable def CDiv (i j : Int) : Prop := 0 < j ∧ j < 1073741824
noncomputable def CPow (i j : Int) : Prop := 0 ≤ j ∧ j ≤ 1000000 ∧ i.natAbs < 2 ^ 64
noncomputable def CMul (i j : Int) : Prop := (-(2 ^ 64) < i ∧ i < 2 ^ 64) ∨ (-(2 ^ 64) < j ∧ j < 2 ^ 64)
theorem CMul.ok {i j : Int} (h : CMul i j) : IntMulOk i j := by
  rcases h with ⟨h1, h2⟩ | ⟨h1, h2⟩
  · exact .of_left (intBits_le_64 h1 h2)
  · exact .of_right (intBits_le_64 h1 h2)
theorem op_add : OpR X (binaryOp .Add) (rI0 fun i j => .int (i + j)) := opI0 fun _ _ _ _ _ _ _ q => add_int q
theorem op_sub : OpR X (binaryOp .Sub) (rI0 fun i j => .int (i - j)) := opI0 fun _ _ _ _ _ _ _ q => sub_int q
theorem op_fdiv : OpR X (binaryOp .FloorDiv) (rI CDiv fun i j => .int (i / j)) := opI fun i j _ _ _ _ _ hc q => by
  have h1 : (0 : Int) < j := hc.1
  have h2 : j < 1073741824 := hc.2
  exact floordiv_int (by omega) (by rw [Int.fdiv_eq_ediv_of_nonneg i (by omega)]; exact q) (.inl (PyProof.noPylong_small (by omega)))
theorem op_mod : OpR X (binaryOp .Mod) (rI (fun _ j => 0 < j) fun i j => .int (i % j)) := opI fun i j _ _ _ _ _ hc q => by
  have h1 : (0 : Int) < j := hc
  exact mod_int' (by omega) (by rw [Int.fmod_eq_emod_of_nonneg i (by omega)]; exact q)
theorem op_pow : OpR X (binaryOp .Pow) (rI CPow fun i j => .int (i ^ j.toNat)) := opI fun _ _ _ _ _ _ _ hc q => pow_int_small hc.1 hc.2.1 hc.2.2 q
theorem unI {f : Value → Sem Value} {g : Int → Int}
    (rule : ∀ (i : Int) (t : Tok) (s : Shared) (Q : Value → Shared → Prop) (E : Value → Shared → Prop), Q (.int (g i) s.toks) { s with toks := s.toks + 1 } → wpAny (model X.prog X.w) X.A (f (.int i t)) Q E s) :
    UnR X f (rU fun i => .int (g i)) := by
  intro pins s σ H x v Q I rx h
  obtain ⟨i, rfl, q⟩ := h
  obtain ⟨t, rfl⟩ := rx
  exact rule i t s _ _ ⟨.int (g i), H, I.tok _, ⟨_, rfl⟩, q⟩
theorem un_neg : UnR X (unaryOp .USub) (rU fun i => .int (-i)) := unI fun _ _ _ _ _ q => neg_int q
end
noncomputable def scal : V → V → Bool
  | .non, .non => true | .non, .int _ => true | .int _, .non => true | .non, .bl _ => true | .bl _, .non => true | .non, .str _ => true | .str _, .non => true
  | .int _, .int _ => true | .bl _, .bl _ => true | .str _, .str _ => true | .byt _, .byt _ => true
  | .int _, .str _ => true | .str _, .int _ => true | .bl _, .str _ => true | .str _, .bl _ => true
  | _, _ => false
noncomputable def rEq : R2 := fun x y H Q => scal x y = true ∧ Q (.bl (decide (x = y))) H
noncomputable def rNe : R2 := fun x y H Q => scal x y = true ∧ Q (.bl (!decide (x = y))) H
theorem dec_int {i j : Int} : decide (V.int i = V.int j) = (i == j) := by
  rw [Bool.eq_iff_iff]
  simp
theorem dec_bl {i j : Bool} : decide (V.bl i = V.bl j) = (i == j) := by
  rw [Bool.eq_iff_iff]
  simp
theorem dec_str {i j : Str} : decide (V.str i = V.str j) = (i == j) := by
  rw [Bool.eq_iff_iff]
  simp
theorem dec_byt {i j : Array UInt8} : decide (V.byt i = V.byt j) = (i.toList == j.toList) := by
  rw [Bool.eq_iff_iff]
  cases i
  cases j
  simp
section
variable {X : Cx} {a b c : Expr} {ta tb tc : TE} {pos : Pos}
theorem fin_bl {pins : List (Addr × Obj)} {σ : St} {H : Hp} {s : Shared} {Q : VK} {k k' : Bool} (I : Inv X pins σ H s) (q : Q (.bl k) H) (e : k = k') : EP X pins σ Q (.bool k') s := by
  subst e
  exact ⟨.bl k, H, I, rfl, q⟩
theorem op_eq : OpR X (compareOp .Eq) rEq := by
  intro pins s σ H x y v u Q I rx ry h
  obtain ⟨hs, q⟩ := h
  cases x with
  | non =>
    cases rx
    cases y with
    | non => cases ry; exact PySem.EqNone.eq_none_none (fin_bl I q (by simp))
    | bl j => cases ry; exact PySem.EqNone.eq_none_bool (fin_bl I q (by simp))
    | int j => obtain ⟨t', rfl⟩ := ry; exact PySem.EqNone.eq_none_int (fin_bl I q (by simp))
    | str j => obtain ⟨t', rfl⟩ := ry; exact PySem.EqNone.eq_none_str (fin_bl I q (by simp))
    | _ => exact absurd (show false = true from hs) Bool.false_ne_true
  | bl i =>
    cases rx
    cases y with
    | non => cases ry; exact PySem.EqNone.eq_bool_none (fin_bl I q (by simp))
    | bl j => cases ry; exact eq_bool (fin_bl I q dec_bl)
    | str j => obtain ⟨t', rfl⟩ := ry; exact PySem.EqMixed.eq_bool_str (fin_bl I q (by simp))
    | _ => exact absurd (show false = true from hs) Bool.false_ne_true
  | int i =>
    obtain ⟨t, rfl⟩ := rx
    cases y with
    | non => cases ry; exact PySem.EqNone.eq_int_none (fin_bl I q (by simp))
    | int j => obtain ⟨t', rfl⟩ := ry; exact eq_int (fin_bl I q dec_int)
    | str j => obtain ⟨t', rfl⟩ := ry; exact PySem.EqMixed.eq_int_str (fin_bl I q (by simp))
    | _ => exact absurd (show false = true from hs) Bool.false_ne_true
  | str i =>
    obtain ⟨t, rfl⟩ := rx
    cases y with
    | non => cases ry; exact PySem.EqNone.eq_str_none (fin_bl I q (by simp))
    | bl j => cases ry; exact PySem.EqMixed.eq_str_bool (fin_bl I q (by simp))
    | int j => obtain ⟨t', rfl⟩ := ry; exact PySem.EqMixed.eq_str_int (fin_bl I q (by simp))
    | str j => obtain ⟨t', rfl⟩ := ry; exact eq_str (fin_bl I q dec_str)
    | _ => exact absurd (show false = true from hs) Bool.false_ne_true
  | byt i =>
    obtain ⟨t, rfl⟩ := rx
    cases y with
    | byt j => obtain ⟨t', rfl⟩ := ry; exact PySem.W.eq_bytes (fin_bl I q dec_byt)
    | _ => exact absurd (show false = true from hs) Bool.false_ne_true
  | _ => cases y <;> exact absurd (show false = true from hs) Bool.false_ne_true
theorem op_ne : OpR X (compareOp .NotEq) rNe := by
  intro pins s σ H x y v u Q I rx ry h
  obtain ⟨hs, q⟩ := h
  cases x with
  | non =>
    cases rx
    cases y with
    | non => cases ry; exact PySem.EqNone.ne_none_none (fin_bl I q (by simp))
    | bl j => cases ry; exact PySem.EqNone.ne_none_bool (fin_bl I q (by simp))
    | int j => obtain ⟨t', rfl⟩ := ry; exact PySem.EqNone.ne_none_int (fin_bl I q (by simp))
    | str j => obtain ⟨t', rfl⟩ := ry; exact PySem.EqNone.ne_none_str (fin_bl I q (by simp))
    | _ => exact absurd (show false = true from hs) Bool.false_ne_true
  | bl i =>
    cases rx
    cases y with
    | non => cases ry; exact PySem.EqNone.ne_bool_none (fin_bl I q (by simp))
    | bl j => cases ry; exact ne_bool (fin_bl I q (congrArg not dec_bl))
    | str j => obtain ⟨t', rfl⟩ := ry; exact PySem.EqMixed.ne_bool_str (fin_bl I q (by simp))
    | _ => exact absurd (show false = true from hs) Bool.false_ne_true
  | int i =>
    obtain ⟨t, rfl⟩ := rx
    cases y with
    | non => cases ry; exact PySem.EqNone.ne_int_none (fin_bl I q (by simp))
    | int j => obtain ⟨t', rfl⟩ := ry; exact ne_int (fin_bl I q (congrArg not dec_int))
    | str j => obtain ⟨t', rfl⟩ := ry; exact PySem.EqMixed.ne_int_str (fin_bl I q (by simp))
    | _ => exact absurd (show false = true from hs) Bool.false_ne_true
  | str i =>
    obtain ⟨t, rfl⟩ := rx
    cases y with
    | non => cases ry; exact PySem.EqNone.ne_str_none (fin_bl I q (by simp))
    | bl j => cases ry; exact PySem.EqMixed.ne_str_bool (fin_bl I q (by simp))
    | int j => obtain ⟨t', rfl⟩ := ry; exact PySem.EqMixed.ne_str_int (fin_bl I q (by simp))
    | str j => obtain ⟨t', rfl⟩ := ry; exact ne_str (fin_bl I q (congrArg not dec_str))
    | _ => exact absurd (show false = true from hs) Bool.false_ne_true
  | byt i =>
    obtain ⟨t, rfl⟩ := rx
    cases y with
    | byt j => obtain ⟨t', rfl⟩ := ry; exact PySem.W.ne_bytes (fin_bl I q (congrArg not dec_byt))
    | _ => exact absurd (show false = true from hs) Bool.false_ne_true
  | _ => cases y <;> exact absurd (show false = true from hs) Bool.false_ne_true
theorem op_lt : OpR X (compareOp .Lt) (rI0 fun i j => .bl (decide (i < j))) := opB0 fun _ _ _ _ _ _ _ q => lt_int q
theorem op_gt : OpR X (compareOp .Gt) (rI0 fun i j => .bl (decide (j < i))) := opB0 fun _ _ _ _ _ _ _ q => gt_int q
theorem OpR.or {f : Value → Value → Sem Value} {r r' : R2} (h : OpR X f r) (h' : OpR X f r') : OpR X f (fun x y H Q => r x y H Q ∨ r' x y H Q) := by
  intro pins s σ H x y v u Q I rx ry q
  rcases q with q | q
  · exact h pins s σ H x y v u Q I rx ry q
  · exact h' pins s σ H x y v u Q I rx ry q
theorem nomark (b : Expr) {op : CmpOp} (h : op ≠ .In := by decide) (h2 : op ≠ .NotIn := by decide) : behindInMarks op b = false := by
  have e1 : (op == CmpOp.In) = false := by cases op <;> first | rfl | exact absurd rfl h
  have e2 : (op == CmpOp.NotIn) = false := by cases op <;> first | rfl | exact absurd rfl h2
  cases b <;> simp [behindInMarks, e1, e2]
theorem pe_cmpR {op : CmpOp} {r : R2} (ho : OpR X (compareOp op) r) (ha : PE X a ta) (hb : PE X b tb) (hm : behindInMarks op b = false) : PE X (.Compare a [op] [b] pos) (tOp r ta tb) := by
  intro pins s σ H Q I h
  exact wpAny_Compare1 (binT ha hb I h fun v u s2 x y H2 I2 rx ry q => ho pins s2 σ H2 x y v u Q I2 rx ry q) hm
noncomputable def tTest (t : TE) : TT := fun σ H Q => t σ H fun x H' => ∃ k, x = .bl k ∧ Q k H'
theorem pt_cmpR {op : CmpOp} {r : R2} (ho : OpR X (compareOp op) r) (ha : PE X a ta) (hb : PE X b tb) (hm : behindInMarks op b = false) : PT X (.Compare a [op] [b] pos) (tTest (tOp r ta tb)) := by
  intro pins s σ H Q I h
  refine wpAny_isTrue_Compare1 (thn (ha pins s σ H _ I h) fun v s1 ⟨x, H1, I1, r1, q1⟩ => thn (hb pins s1 σ H1 _ I1 q1) fun u s2 ⟨y, H2, I2, r2, q2⟩ =>
    thn (ho pins s2 σ H2 x y v u _ I2 r1 r2 q2) fun c s3 ⟨z, H3, I3, r3, k, e, q3⟩ => ?_) hm
  subst e
  cases r3
  exact wpAny_truthy_bool ⟨H3, I3, q3⟩
noncomputable def TruV (K : PySem.W.Frag) (x : V) (H : Hp) (k : Bool) : Prop :=
  match x with
  | .non => k = false
  | .bl b => k = b
  | .int i => k = (i != 0)
  | .str y => y.length ≤ sizeLine ∧ k = ((y.length : Int) != 0)
  | .byt y => y.size ≤ sizeLine ∧ k = ((y.size : Int) != 0)
  | .ref p => (∃ xs, SqL K H p xs ∧ k = !xs.isEmpty) ∨ (∃ xs, SqT K H p xs ∧ k = !xs.isEmpty) ∨ ∃ kvs, H p = some (.dK kvs) ∧ k = !kvs.isEmpty
  | _ => False
theorem isEmpty_kv {κ : Type} {kvs : List (κ × V)} {vs : List (κ × Value)} (r : KV kvs vs) : (!vs.isEmpty) = !kvs.isEmpty := by
  cases r <;> rfl
theorem isEmpty_of {xs : List V} {its : List Value} (r : Vals xs its) : (!its.toArray.isEmpty) = !xs.isEmpty := by
  cases r <;> simp
theorem line63 : (sizeLine : Nat) < 2 ^ 63 := by rw [sizeLine_eq]; decide
theorem tru_ok : TruR X (fun x H Q => ∃ k, TruV X.K x H k ∧ Q k H) := by
  intro pins s σ H x v Q I rx h
  obtain ⟨k, e, q⟩ := h
  have hl := line63
  have hs : sizeLine = 16777216 := sizeLine_eq
  cases x with
  | non =>
    cases rx
    have e' : k = false := e
    subst e'
    exact truthy_none ⟨H, I, q⟩
  | bl b =>
    cases rx
    have e' : k = b := e
    subst e'
    exact wpAny_truthy_bool ⟨H, I, q⟩
  | int i =>
    obtain ⟨t, rfl⟩ := rx
    have e' : k = (i != 0) := e
    subst e'
    exact PySem.P.truthy_int ⟨H, I, q⟩
  | str y =>
    obtain ⟨t, rfl⟩ := rx
    obtain ⟨hy, e'⟩ : y.length ≤ sizeLine ∧ k = ((y.length : Int) != 0) := e
    subst e'
    exact PySem.P.truthy_str (by omega) ⟨H, I.tok _, q⟩
  | byt y =>
    obtain ⟨t, rfl⟩ := rx
    obtain ⟨hy, e'⟩ : y.size ≤ sizeLine ∧ k = ((y.size : Int) != 0) := e
    subst e'
    exact PySem.W.truthy_bytes (by omega) ⟨H, I.tok _, q⟩
  | ref p =>
    cases rx
    have e' : (∃ xs, SqL X.K H p xs ∧ k = !xs.isEmpty) ∨ (∃ xs, SqT X.K H p xs ∧ k = !xs.isEmpty) ∨ ∃ kvs, H p = some (.dK kvs) ∧ k = !kvs.isEmpty := e
    rcases e' with ⟨xs, hx, e'⟩ | ⟨xs, hx, e'⟩ | ⟨kvs, hx, e'⟩
    · subst e'
      obtain ⟨its, r, pl, hz⟩ := I.list hx
      have hlen := r.length
      exact wpAny_truthy_list pl.isList (by simp only [List.size_toArray]; omega) ⟨H, I.tok _, by rw [isEmpty_of r]; exact q⟩
    · subst e'
      obtain ⟨its, r, pl, hz⟩ := I.tuple hx
      have hlen := r.length
      exact truthy_tuple pl (by simp only [List.size_toArray]; omega) ⟨H, I.tok _, by rw [isEmpty_of r]; exact q⟩
    · subst e'
      obtain ⟨hz, hS, vs, r, m⟩ : kvs.length ≤ sizeLine ∧ (p == sysModules) = false ∧ ∃ vs, KV kvs vs ∧ s.heap.DictOf (mixKind X.prog X.w) p vs := I.hok p _ hx
      have hlen : kvs.length = vs.length := Paired.length r
      exact wpAny_truthy_dict hS m (by omega) ⟨H, I.tok _, by rw [isEmpty_kv r]; exact q⟩
  | _ => exact (show False from e).elim
theorem op_add_str : OpR X (binaryOp .Add) (fun x y H Q => ∃ i j, x = .str i ∧ y = .str j ∧ i.length + j.length ≤ sizeLine ∧ Q (.str (i ++ j)) H) := by
  intro pins s σ H x y v u Q I rx ry h
  obtain ⟨i, j, rfl, rfl, hz, q⟩ := h
  obtain ⟨t, rfl⟩ := rx
  obtain ⟨t', rfl⟩ := ry
  exact add_str (fun t' tk => ⟨.str (i ++ j), H, I.tok _, ⟨_, rfl⟩, q⟩) hz
theorem vals1 {x : V} {us : List Value} (r : Vals [x] us) : ∃ u, us = [u] ∧ RelV x u := by
  cases r with
  | cons r1 r2 => cases r2; exact ⟨_, rfl, r1⟩
theorem vals2 {x y : V} {us : List Value} (r : Vals [x, y] us) : ∃ u w', us = [u, w'] ∧ RelV x u ∧ RelV y w' := by
  cases r with
  | cons r1 r2 =>
    cases r2 with
    | cons r3 r4 => cases r4; exact ⟨_, _, rfl, r1, r3⟩
theorem call_min2 (hc : X.calm = true) : CallR X (.builtin "min") (fun xs H Q => ∃ i j, xs = [.int i, .int j] ∧ Q (.int (if j < i then j else i)) H) := by
  intro pins s σ H xs us Q I r h
  obtain ⟨i, j, rfl, q⟩ := h
  obtain ⟨u, w', rfl, ⟨t, rfl⟩, ⟨t', rfl⟩⟩ := vals2 r
  refine min_two_ints (I.ok.hd hc) fun h' tk k => ⟨_, H, I.kept k, ?_, q⟩
  by_cases hj : j < i
  · rw [if_pos hj, if_pos hj]; exact ⟨_, rfl⟩
  · rw [if_neg hj, if_neg hj]; exact ⟨_, rfl⟩
theorem call_int1 : CallR X (.type "int") (fun xs H Q => (∃ i, xs = [.int i] ∧ Q (.int i) H) ∨ ∃ k, xs = [.bl k] ∧ Q (.int (if k then 1 else 0)) H) := by
  intro pins s σ H xs us Q I r h
  rcases h with ⟨i, rfl, q⟩ | ⟨k, rfl, q⟩
  · obtain ⟨u, rfl, t, rfl⟩ := vals1 r
    exact call_int_int ⟨.int i, H, I, ⟨_, rfl⟩, q⟩
  · obtain ⟨u, rfl, r1⟩ := vals1 r
    cases r1
    exact call_int_bool ⟨.int (if k then 1 else 0), H, I.tok _, ⟨_, rfl⟩, q⟩
theorem call_str_int : CallR X (.type "str") (fun xs H Q => ∃ i, xs = [.int i] ∧ i.natAbs.log2 < 1920 ∧ Q (.str (toString i)) H) := by
  intro pins s σ H xs us Q I r h
  obtain ⟨i, rfl, hz, q⟩ := h
  obtain ⟨u, rfl, t, rfl⟩ := vals1 r
  exact PySem.P.str_of_int hz ⟨.str _, H, I.tok _, ⟨_, rfl⟩, q⟩
noncomputable def LenV (K : PySem.W.Frag) (x : V) (H : Hp) (n : Nat) : Prop :=
  match x with
  | .str y => y.length ≤ sizeLine ∧ n = y.length
  | .byt y => y.size ≤ sizeLine ∧ n = y.size
  | .ref p => (∃ xs, SqL K H p xs ∧ n = xs.length) ∨ ∃ xs, SqT K H p xs ∧ n = xs.length
  | _ => False
theorem call_len : CallR X (.builtin "len") (fun xs H Q => ∃ x n, xs = [x] ∧ LenV X.K x H n ∧ Q (.int n) H) := by
  intro pins s σ H xs us Q I r h
  obtain ⟨x, n, rfl, e, q⟩ := h
  obtain ⟨u, rfl, rx⟩ := vals1 r
  have hl := line63
  have hs : sizeLine = 16777216 := sizeLine_eq
  cases x with
  | str y =>
    obtain ⟨t, rfl⟩ := rx
    obtain ⟨hy, e'⟩ : y.length ≤ sizeLine ∧ n = y.length := e
    subst e'
    exact len_str (by omega) ⟨.int _, H, I.tok _, ⟨_, rfl⟩, q⟩
  | byt y =>
    obtain ⟨t, rfl⟩ := rx
    obtain ⟨hy, e'⟩ : y.size ≤ sizeLine ∧ n = y.size := e
    subst e'
    exact PySem.W.len_bytes (by omega) ⟨.int _, H, I.tok _, ⟨_, rfl⟩, q⟩
  | ref p =>
    cases rx
    have e' : (∃ xs, SqL X.K H p xs ∧ n = xs.length) ∨ ∃ xs, SqT X.K H p xs ∧ n = xs.length := e
    rcases e' with ⟨xs, hx, e'⟩ | ⟨xs, hx, e'⟩
    · subst e'
      obtain ⟨its, r', pl, hz⟩ := I.list hx
      have hlen := r'.length
      exact Calls.call_len_list pl.isList (by simp only [List.size_toArray]; omega) ⟨.int xs.length, H, I.tok _, ⟨_, by simp only [List.size_toArray]; rw [hlen]⟩, q⟩
    · subst e'
      obtain ⟨its, r', pl, hz⟩ := I.tuple hx
      have hlen := r'.length
      exact len_tuple pl (by simp only [List.size_toArray]; omega) ⟨.int xs.length, H, I.tok _, ⟨_, by simp only [List.size_toArray]; rw [hlen]⟩, q⟩
  | _ => exact (show False from e).elim
end
end L2
namespace L2
open PySem PySem.Spec PyProof.Rows
structure ObjM (h : Heap) (x dx C : Addr) (mA : Str → Option Value) : Prop where
  obj : h.get? x = some (PySem.W.instObj C dx)
  ns : h.Ns1 dx mA
  ne : dx ≠ x
theorem lookIn_ns {h : Heap} {dx : Addr} {mA : Str → Option Value} (n : h.Ns1 dx mA) : ∃ od, h.get? dx = some od ∧ ∀ name, PySem.W.lookIn name od = some (mA name) := by
  obtain ⟨o, es, ep, ho, hd, hk, _, hm⟩ := n
  refine ⟨o, ho, fun name => ?_⟩
  have e := hm name
  unfold nsFind findBy at e
  rw [← Array.find?_toList] at e
  unfold PySem.W.lookIn
  rw [hd]
  dsimp only
  split
  · rename_i y q
    rw [q] at e
    exact congrArg some e
  · rename_i q
    rw [q] at e
    have a : es.toList.any (·.refKey) = false := by
      rw [List.any_eq_false]
      intro y hy
      obtain ⟨z, t, hkey⟩ := hk y (Array.mem_toList_iff.mp hy)
      simp [DictEntry.refKey, hkey]
    have a' : ¬ es.toList.any (·.refKey) = true := by rw [a]; exact Bool.false_ne_true
    rw [if_neg a']
    exact congrArg some e
theorem ObjM.look {h : Heap} {x dx C : Addr} {mA : Str → Option Value} (I : ObjM h x dx C mA) : ∃ od, PySem.W.InstAt h x (PySem.W.instObj C dx) C (some od) ∧ ∀ name, PySem.W.lookIn name od = some (mA name) :=
  let ⟨od, ho, hl⟩ := lookIn_ns I.ns
  ⟨od, ⟨I.obj, rfl, rfl, ho⟩, hl⟩
section
variable {prog : Program} {w : World} {A : Around} {E : Value → Shared → Prop} {s : Shared} {K : PySem.W.Frag} {x dx C f : Addr} {mA : Str → Option Value} {name : Str} {v : Value}
end
noncomputable def putF (f : Str) (v : V) : List (Str × V) → List (Str × V)
  | [] => [(f, v)]
  | (g, x) :: r => if g = f then (g, v) :: r else (g, x) :: putF f v r
theorem RelO.some_of {v : V} {o : Option Value} (r : RelO (some v) o) : ∃ u, o = some u ∧ RelV v u := by
  cases o with
  | none => exact (show False from r).elim
  | some u => exact ⟨u, rfl, r⟩
section
variable {P : Program} {w : World} {H H' : Hp} {h h' : Heap} {a C dx : Addr} {fs fs' : List (Str × V)}
theorem ins_get (hok : HOk P w H h) (e : H a = some (.ins C dx fs)) : ∃ mA, ObjM h a dx C mA ∧ (∀ f, RelO (fs.lookup f) (mA f)) ∧ PySem.Within mA (fs.map (·.1)) ∧ fs.length ≤ 1000 ∧ H dx = some (.own a) := by
  obtain ⟨d, z, ne, ob, mA, n, r, q⟩ := (show ObjOk P w H h a (.ins C dx fs) from hok a _ e)
  exact ⟨mA, ⟨ob, n, ne⟩, r, q, z, d⟩
end
structure Cls (K : PySem.W.Frag) (C : Addr) : Prop where
  pg : PySem.W.plainGet K C Str.empty = true
  hd : PySem.W.hasDictIn K C = true
  po : PySem.W.plainOver K C = true
  sa : PySem.W.findIn K (.ref C) "__setattr__" = some (some (.builtin "object.__setattr__"))
theorem Cls.get {K : PySem.W.Frag} {C : Addr} (c : Cls K C) (f : Str) : PySem.W.plainGet K C f = true := c.pg
noncomputable def NoAttr (K : PySem.W.Frag) (C : Addr) (f : Str) : Prop := PySem.W.findIn K (.ref C) f = some none
section
variable {X : Cx} {pins : List (Addr × Obj)} {σ : St} {H : Hp} {s : Shared} {a C dx : Addr} {fs : List (Str × V)} {f : Str} {v : V} {A : Around} {E : Value → Shared → Prop}
end
section
variable {X : Cx} {o e value : Expr} {f : Str} {pos pos' tpos : Pos} {ta tv : TE}
end
section
variable {X : Cx} {pins : List (Addr × Obj)} {σ : St} {H : Hp} {s : Shared} {A : Around} {E : Value → Shared → Prop} {Q : Value → Shared → Prop} {c : Value} {b : Bool}
inductive TyOf (K : PySem.W.Frag) (H : Hp) : V → Value → Prop where
  | non : TyOf K H .non (.type "NoneType")
  | bl (x : Bool) : TyOf K H (.bl x) (.type "bool")
  | int (i : Int) : TyOf K H (.int i) (.type "int")
  | str (x : Str) : TyOf K H (.str x) (.type "str")
  | flt (x : UInt64) : TyOf K H (.flt x) (.type "float")
  | lst {a : Addr} {xs : List V} (e : H a = some (.lst xs)) : TyOf K H (.ref a) (.type "list")
  | frz {a : Addr} {o : Obj} {xs : List V} (e : H a = some (.frz o (.lst xs))) : TyOf K H (.ref a) (.type "list")
  | tup {a : Addr} {xs : List V} (e : H a = some (.tup xs)) : TyOf K H (.ref a) (.type "tuple")
  | dK {a : Addr} {kvs : List (Key × V)} (e : H a = some (.dK kvs)) : TyOf K H (.ref a) (.type "dict")
  | dT {a : Addr} {kvs : List (List Key × V)} (e : H a = some (.dT kvs)) : TyOf K H (.ref a) (.type "dict")
  | ins {a C dx : Addr} {fs : List (Str × V)} (e : H a = some (.ins C dx fs)) (cl : Cls K C) (ha : PySem.W.findIn K (.ref C) "__class__" = some (some (.builtin "object.__class__")))
      (hn : PySem.W.specialIn K (.builtin "object.__class__") "__get__" = some (some (.builtin "getset_descriptor.__get__"))) (htk : PySem.W.takesIn K (.builtin "object.__class__") = some true)
      (hm : PySem.W.mroIn K C (.type "object") = some true) : TyOf K H (.ref a) (.ref C)
theorem isinst_ok {x : V} {u t : Value} (I : Inv X pins σ H s) (rx : RelV x u) (ty : TyOf X.K H x t) (e : PySem.W.kitOne X.K t c = some b) (h : ∀ tk, Q (.bool b) { s with toks := tk }) :
    wpAny (model X.prog X.w) A (call (.builtin "isinstance") [u, c]) Q E s := by
  cases ty with
  | non => cases (show u = Value.none from rx); exact PySem.W.kia_one PySem.W.kitx_none I.kIn True.intro e (fun z => nomatch z) h
  | bl y => cases (show u = Value.bool y from rx); exact PySem.W.kia_one PySem.W.kitx_bool I.kIn True.intro e (fun z => nomatch z) h
  | int i => obtain ⟨t, q⟩ := (show ∃ t, u = Value.int i t from rx); cases q; exact PySem.W.kia_one PySem.W.kitx_int I.kIn True.intro e (fun z => nomatch z) h
  | str y => obtain ⟨t, q⟩ := (show ∃ t, u = Value.str y t from rx); cases q; exact PySem.W.kia_one PySem.W.kitx_str I.kIn True.intro e (fun z => nomatch z) h
  | flt y => obtain ⟨t, q⟩ := (show ∃ t, u = Value.float y t from rx); cases q; exact PySem.W.kia_one PySem.W.kitx_float I.kIn True.intro e (fun z => nomatch z) h
  | @lst a xs ea =>
    cases (show u = Value.ref a from rx)
    obtain ⟨_, _, n, _, h1⟩ := (show ObjOk X.prog X.w H s.heap a (.lst xs) from I.hok a _ ea)
    exact PySem.W.kia_one PySem.W.kitx_list I.kIn ⟨_, h1, rfl⟩ e (fun z => nomatch z) h
  | @frz a ob xs ea =>
    cases (show u = Value.ref a from rx)
    obtain ⟨_, _, _, n, _, h1⟩ := (show ObjOk X.prog X.w H s.heap a (.frz ob (.lst xs)) from I.hok a _ ea)
    exact PySem.W.kia_one PySem.W.kitx_list I.kIn ⟨_, h1, rfl⟩ e (fun z => nomatch z) h
  | @tup a xs ea =>
    cases (show u = Value.ref a from rx)
    obtain ⟨_, _, _, p⟩ := (show ObjOk X.prog X.w H s.heap a (.tup xs) from I.hok a _ ea)
    obtain ⟨o, h1, h2, _⟩ := p
    exact PySem.W.kia_one PySem.W.kitx_tuple I.kIn ⟨o, h1, h2⟩ e (fun z => nomatch z) h
  | @dK a kvs ea =>
    cases (show u = Value.ref a from rx)
    obtain ⟨_, _, vs, _, p⟩ := (show ObjOk X.prog X.w H s.heap a (.dK kvs) from I.hok a _ ea)
    obtain ⟨o, es, ep, h1, h2, _⟩ := p
    exact PySem.W.kia_one PySem.W.kitx_dict I.kIn ⟨o, h1, h2.1⟩ e (fun z => nomatch z) h
  | @dT a kvs ea =>
    cases (show u = Value.ref a from rx)
    obtain ⟨_, _, xs, _, o, es, ep, h1, h2, _⟩ := (show ObjOk X.prog X.w H s.heap a (.dT kvs) from I.hok a _ ea)
    exact PySem.W.kia_one PySem.W.kitx_dict I.kIn ⟨o, h1, h2.1⟩ e (fun z => nomatch z) h
  | @ins a C dx fs ea cl ha hn htk hm =>
    cases (show u = Value.ref a from rx)
    obtain ⟨mA, O, _⟩ := ins_get I.hok ea
    obtain ⟨od, J, _⟩ := O.look
    exact PySem.W.kia_one (PySem.W.kitx_own (cl.get _) cl.hd ha hn htk hm) I.kIn J e (fun z => nomatch z) h
end
end L2
namespace L2
open PySem PySem.Spec PyProof.Rows
structure Room (k : Nat) (A : Around) : Prop where
  hd : A.handled = none
  dp : A.depth + 3 * k + 5 < recursionLimit
  un : A.units + 16 * k + 200 < cLine
theorem Room.mono {j k : Nat} {A : Around} (r : Room k A) (h : j ≤ k) : Room j A := ⟨r.hd, by have := r.dp; omega, by have := r.un; omega⟩
theorem Room.deeper {k : Nat} {A : Around} (r : Room (k + 1) A) (env : Env) : Room k (A.deeper env) :=
  ⟨r.hd, by have := r.dp; show A.depth + 1 + 3 * k + 5 < _; omega, by have := r.un; show A.units + 3 + 16 * k + 200 < _; omega⟩
theorem Room.in1 {k : Nat} {A : Around} (r : Room (k + 1) A) : Room k A.in1 :=
  ⟨r.hd, by have := r.dp; show A.depth + 3 * k + 5 < _; omega, by have := r.un; show A.units + 1 + 16 * k + 200 < _; omega⟩
theorem Room.depth {k : Nat} {A : Around} (r : Room k A) : A.depth < recursionLimit := by have := r.dp; omega
theorem Room.units {k : Nat} {A : Around} (r : Room k A) : A.units + 64 < cLine := by have := r.un; omega
noncomputable def tNil : TA := fun _ H Q => Q [] H
noncomputable def tCons (ta : TE) (tr : TA) : TA := fun σ H Q => ta σ H fun x H1 => tr σ H1 fun xs H2 => Q (x :: xs) H2
section
variable {X : Cx} {e : Expr} {es : List Expr} {te : TE} {t : TA} {pos : Pos}
theorem pa_nil : PA X [] tNil := fun _ _ _ _ H Q I h => Calls.spliced_nil ⟨[], H, I, .nil, h⟩
theorem pa_cons (ha : PE X e te) (hr : PA X es t) (hs : starEach (e :: es) X.env = (false, eval e X.env) :: starEach es X.env := by rfl) : PA X (e :: es) (tCons te t) := by
  intro pos pins s σ H Q I h
  rw [hs]
  show wpAny _ _ (spliced ((false, eval e X.env) :: backTo pos (starEach es X.env))) _ _ s
  refine Calls.spliced_cons (thn (ha pins s σ H _ I h) fun u s1 ⟨x, H1, I1, r1, q1⟩ => ?_)
  exact thn (hr pos pins s1 σ H1 _ I1 q1) fun us s2 ⟨xs, H2, I2, r2, q2⟩ => ⟨x :: xs, H2, I2, .cons r1 r2, q2⟩
noncomputable def tTup (t : TA) : TE := fun σ H Q => t σ H fun xs H1 => xs.length ≤ sizeLine ∧ ∀ p, H1 p = none → Q (.ref p) (upd H1 p (.tup xs))
noncomputable def tLst (t : TA) : TE := fun σ H Q => t σ H fun xs H1 => xs.length ≤ sizeLine ∧ ∀ p, H1 p = none → Q (.ref p) (upd H1 p (.lst xs))
theorem pe_tup {x1} (h : PA X es t) : PE X (.Tuple es x1 pos) (tTup t) := by
  intro pins s σ H Q I hq
  refine wpAny_Tuple_spliced (thn (h pos pins s σ H _ I hq) fun us s1 ⟨xs, H1, I1, r, z, q⟩ => ⟨by rw [← r.length]; exact z, ?_⟩)
  have hf : H1 s1.heap.objs.size = none := I1.hok.fresh (Nat.le_refl _)
  refine ⟨.ref s1.heap.objs.size, upd H1 s1.heap.objs.size (.tup xs), I1.laid (t' := s1.toks) (fun b u e => Heap.get?_push_of_some _ e) (Nat.le_refl _) ?_, rfl, q _ hf⟩
  exact ⟨z, us, r, ⟨_, Heap.get?_push_size _ rfl, rfl, _, rfl⟩⟩
theorem pe_lst (h : PA X es t) : PE X (.List es pos) (tLst t) := by
  intro pins s σ H Q I hq
  refine wpAny_List_spliced (thn (h pos pins s σ H _ I hq) fun us s1 ⟨xs, H1, I1, r, z, q⟩ => ⟨by rw [← r.length]; exact z, ?_⟩)
  have hf : H1 s1.heap.objs.size = none := I1.hok.fresh (Nat.le_refl _)
  refine ⟨.ref s1.heap.objs.size, upd H1 s1.heap.objs.size (.lst xs), I1.laid (t' := s1.toks) (fun b u e => Heap.get?_push_of_some _ e) (Nat.le_refl _) ?_, rfl, q _ hf⟩
  exact ⟨z, us, 0, r, Heap.get?_push_size _ rfl⟩
end
noncomputable abbrev Sp := List V → Hp → VK → XK → Prop
noncomputable abbrev CXT := List Env → Hp → Shared → XK → Value → Shared → Prop
structure Env0 (P : Program) (w : World) (K : PySem.W.Frag) (mg : Str → Option Value) (base : Heap) (A : Around) (outer : List Env) (s : Shared) (H : Hp) : Prop where
  frames : A.frames = some outer
  mod : Mod K mg base
  bs : ∀ b o, base.get? b = some o → s.heap.get? b = some o ∧ H b = none
  bsz : base.objs.size ≤ s.heap.objs.size
  funs : s.heap.FunFrames base outer
  frf : ∀ b ∈ frs outer, H b = none
  hok : HOk P w H s.heap
  bare : AllBare s.gens
noncomputable def CE (outer : List Env) (P : Program) (w : World) (H : Hp) (s : Shared) (Q : VK) (u : Value) (s' : Shared) : Prop :=
  ∃ v H', s'.os = s.os ∧ AllBare s'.gens ∧ Un (frs outer) [] H H' s.heap s'.heap ∧ HOk P w H' s'.heap ∧ RelV v u ∧ Q v H'
noncomputable def CR (CX : CXT) (outer : List Env) (P : Program) (w : World) (H : Hp) (s : Shared) (Q : VK) (E : XK) (r : Result) (s' : Shared) : Prop :=
  match r with
  | .ok (.ret u) => CE outer P w H s Q u s'
  | .ok _ => False
  | .error e => CX outer H s E e s'
structure FnOk (P : Program) (w : World) (K : PySem.W.Frag) (mg : Str → Option Value) (base : Heap) (CX : CXT) (k : Nat) (f : Addr) (fd : FuncData) (ps : List Str) (sp : Sp) : Prop where
  len : ∀ vs H Q E, sp vs H Q E → vs.length = ps.length
  run : ∀ (A : Around) (outer : List Env) (s : Shared) (H : Hp) (args : Args) (us : List Value) (vs : List V) (Q : VK) (E : XK), Room k A → Env0 P w K mg base A outer s H → BindsTo s fd args (ps.zip us) → Vals vs us → sp vs H Q E →
    codeAny (model P w) A (.call (.ref f) args) (CR CX outer P w H s Q E) s
theorem FnOk.mono {P : Program} {w : World} {K : PySem.W.Frag} {mg : Str → Option Value} {base : Heap} {CX : CXT} {j k : Nat} {f : Addr} {fd : FuncData} {ps : List Str} {sp : Sp} (F : FnOk P w K mg base CX j f fd ps sp) (h : j ≤ k) :
    FnOk P w K mg base CX k f fd ps sp := ⟨F.len, fun A outer s H args us vs Q E hr => F.run A outer s H args us vs Q E (hr.mono h)⟩
theorem FnOk.imp {P : Program} {w : World} {K : PySem.W.Frag} {mg : Str → Option Value} {base : Heap} {CX : CXT} {k : Nat} {f : Addr} {fd : FuncData} {ps : List Str} {sp sp' : Sp} (F : FnOk P w K mg base CX k f fd ps sp)
    (h : ∀ vs H Q E, sp' vs H Q E → sp vs H Q E) : FnOk P w K mg base CX k f fd ps sp' :=
  ⟨fun vs H Q E q => F.len vs H Q E (h _ _ _ _ q), fun A outer s H args us vs Q E hr he hb hv hs => F.run A outer s H args us vs Q E hr he hb hv (h _ _ _ _ hs)⟩
theorem Env0.in1 {P : Program} {w : World} {K : PySem.W.Frag} {mg : Str → Option Value} {base : Heap} {A : Around} {outer : List Env} {s : Shared} {H : Hp} (e : Env0 P w K mg base A outer s H) :
    Env0 P w K mg base A.in1 outer s H := ⟨e.frames, e.mod, e.bs, e.bsz, e.funs, e.frf, e.hok, e.bare⟩
section
variable {X : Cx} {pins : List (Addr × Obj)} {σ : St} {H : Hp} {s s' : Shared}
theorem Inv.env0 (I : Inv X pins σ H s) : Env0 X.prog X.w X.K X.mg X.base X.A X.stack s H :=
  ⟨I.ok.frames, I.ok.mod, I.bs, Nat.le_trans I.ok.bsz I.sz, I.stack, I.stkFree, I.hok, I.bare⟩
theorem Inv.after {Q : VK} {u : Value} (I : Inv X pins σ H s) (h : CE X.stack X.prog X.w H s Q u s') : EP X pins σ Q u s' := by
  obtain ⟨v, H', os, bare, un, hok, r, q⟩ := h
  obtain ⟨hh, g, d, t, os'⟩ := s'
  obtain rfl : os' = s.os := os
  exact ⟨v, H', I.call (h' := hh) (g' := g) (d' := d) (t' := t) (ch := []) un hok bare (fun b z => absurd z (by simp)), r, q⟩
end
noncomputable def tCall (sp : Sp) (dvs : List V) (E : XK) (t : TA) : TE := fun σ H Q => t σ H fun vs H1 => sp (vs ++ dvs) H1 Q E
noncomputable def Binds (K : PySem.W.Frag) (fd : FuncData) (ps : List Str) (ds : List Value) : Prop :=
  ∀ (s : Shared) (us : List Value), K.In s.heap → (us ++ ds).length = ps.length → BindsTo s fd ⟨us, []⟩ (ps.zip (us ++ ds))
theorem Binds.all {K : PySem.W.Frag} {fd : FuncData} {ps : List Str} (h : ∀ us : List Value, us.length = ps.length → bindArgs fd ⟨us, []⟩ = pure (ps.zip us)) : Binds K fd ps [] := fun s us _ hl => by
  rw [List.append_nil] at hl ⊢
  exact .of_eq (h us hl)
noncomputable def Passes (CX : CXT) (X : Cx) (E : XK) : Prop := ∀ (pins : List (Addr × Obj)) (σ : St) (H : Hp) (s : Shared) (e : Value) (s' : Shared), Inv X pins σ H s → CX X.stack H s E e s' → X.xe e s'
section
variable {X : Cx} {CX : CXT} {k : Nat} {f C : Addr} {fd : FuncData} {ps : List Str} {sp : Sp} {dvs : List V} {ds : List Value} {E : XK} {x m : Str} {p pos apos : Pos} {e o : Expr} {es : List Expr} {ta : TE} {t : TA}
theorem run_fn {pins : List (Addr × Obj)} {σ : St} {H : Hp} {s : Shared} {Q : VK} {us : List Value} {vs : List V} (F : FnOk X.prog X.w X.K X.mg X.base CX k f fd ps sp) (hr : Room k X.A) (hb : Binds X.K fd ps ds) (hd : Vals dvs ds) (hx : Passes CX X E)
    (I : Inv X pins σ H s) (r : Vals vs us) (h : sp (vs ++ dvs) H Q E) : wpAny (model X.prog X.w) X.A (call (.ref f) us) (EP X pins σ Q) X.xe s := by
  have r2 : Vals (vs ++ dvs) (us ++ ds) := r.append hd
  have hl : (us ++ ds).length = ps.length := by rw [← r2.length]; exact F.len _ _ _ _ h
  refine wpAny_call (codeAny_mono (F.run X.A X.stack s H ⟨us, []⟩ (us ++ ds) (vs ++ dvs) Q E hr I.env0 (hb s us I.kIn hl) r2 h) fun r s' hq => ?_)
  cases r with
  | error e => exact hx pins σ H s e s' I hq
  | ok fl =>
    cases fl with
    | ret u => exact I.after hq
    | next => exact False.elim hq
    | brk => exact False.elim hq
    | cont => exact False.elim hq
theorem pe_call (F : FnOk X.prog X.w X.K X.mg X.base CX k f fd ps sp) (hr : Room k X.A) (hg : Gl X x) (hm : X.mg x = some (.ref f)) (hk : PySem.W.keepIn X.K (.ref f) = true) (hb : Binds X.K fd ps ds) (hd : Vals dvs ds) (hx : Passes CX X E)
    (ha : PA X (e :: es) t) (hdb : (x == ("__debug__" : Str)) = false := by decide) (he : starEach (e :: es) X.env = (false, eval e X.env) :: starEach es X.env := by rfl) (hpl : (backTo pos (starEach es X.env)).any (·.1) = false := by rfl) :
    PE X (.Call (.Name x p) (e :: es) [] pos) (tCall sp dvs E t) := by
  intro pins s σ H Q I h
  refine wpAny_Call_Name_kw (ld_glob I hg hm ?_ hdb)
  refine PySem.W.callWith_K (h₀ := X.base) I.ok.mod.kin hk (thn (ha pos pins s σ H _ I h) fun us s1 ⟨vs, H1, I1, r, q⟩ => ⟨I1.kIn, ?_⟩) he hpl
  exact run_fn F hr hb hd hx I1 r q
end
section
variable {X : Cx} {CX : CXT} {k : Nat} {f C : Addr} {fd : FuncData} {ps ks : List Str} {sp : Sp} {E : XK} {x m : Str} {p pos apos kpos : Pos} {e o : Expr} {es : List Expr} {kws : List Keyword} {te ta : TE} {t tk : TA} {nm : Option Str}
variable {g : List Value → List Value → List Value} {gV : List V → List V → List V}
end
structure FnScope (N P : List Str) (sc : Scope) : Prop where
  kind : sc.kind = .function
  co : sc.isCoroutine = false
  gen : sc.isGenerator = false
  nd : N.Nodup
  pre : N.take P.length = P
  par : ∀ x ∈ P, sc.names.lookup x = some .local ∨ sc.names.lookup x = some .cell
  nofree : ∀ y ∈ sc.names, y.2 ≠ .free
theorem bindL_out {kindOf : Str → Option NameKind} {x : Str} : ∀ {binds : List (Str × Value)} {m : Str → Option Value}, (∀ v, (x, v) ∉ binds) → bindL kindOf binds m x = m x
  | [], _, _ => rfl
  | (n, v) :: r, m, h => by
    unfold bindL
    rw [bindL_out fun w hw => h w (List.mem_cons_of_mem _ hw)]
    split
    · have : x ≠ n := by rintro rfl; exact h v List.mem_cons_self
      simp [this]
    · rfl
theorem bindC_out {kindOf : Str → Option NameKind} {x : Str} : ∀ {binds : List (Str × Value)} {m : Str → Option Value}, (∀ v, (x, v) ∉ binds) → bindC kindOf binds m x = m x
  | [], _, _ => rfl
  | (n, v) :: r, m, h => by
    unfold bindC
    rw [bindC_out fun w hw => h w (List.mem_cons_of_mem _ hw)]
    split
    · rfl
    · have : x ≠ n := by rintro rfl; exact h v List.mem_cons_self
      simp [this]
theorem bindL_get {kindOf : Str → Option NameKind} {x : Str} {v : Value} : ∀ {P : List Str} {vs : List Value} {i : Nat} {m : Str → Option Value}, P.Nodup → P[i]? = some x → vs[i]? = some v → kindOf x = some .local →
    bindL kindOf (P.zip vs) m x = some v
  | [], _, _, _, _, h, _, _ => by simp at h
  | _ :: _, [], _, _, _, _, h, _ => by simp at h
  | p :: P, w :: vs, 0, m, nd, h1, h2, hk => by
    simp at h1 h2; subst h1; subst h2
    show bindL kindOf ((p, w) :: P.zip vs) m p = _
    unfold bindL
    rw [bindL_out fun v hv => (List.nodup_cons.mp nd).1 (List.of_mem_zip hv).1, if_pos hk]
    simp
  | p :: P, w :: vs, i + 1, m, nd, h1, h2, hk => by
    show bindL kindOf ((p, w) :: P.zip vs) m x = _
    unfold bindL
    exact bindL_get (i := i) (List.nodup_cons.mp nd).2 (by simpa using h1) (by simpa using h2) hk
theorem bindC_get {kindOf : Str → Option NameKind} {x : Str} {v : Value} : ∀ {P : List Str} {vs : List Value} {i : Nat} {m : Str → Option Value}, P.Nodup → P[i]? = some x → vs[i]? = some v → kindOf x ≠ some .local →
    bindC kindOf (P.zip vs) m x = some v
  | [], _, _, _, _, h, _, _ => by simp at h
  | _ :: _, [], _, _, _, _, h, _ => by simp at h
  | p :: P, w :: vs, 0, m, nd, h1, h2, hk => by
    simp at h1 h2; subst h1; subst h2
    show bindC kindOf ((p, w) :: P.zip vs) m p = _
    unfold bindC
    rw [bindC_out fun v hv => (List.nodup_cons.mp nd).1 (List.of_mem_zip hv).1, if_neg hk]
    simp
  | p :: P, w :: vs, i + 1, m, nd, h1, h2, hk => by
    show bindC kindOf ((p, w) :: P.zip vs) m x = _
    unfold bindC
    exact bindC_get (i := i) (List.nodup_cons.mp nd).2 (by simpa using h1) (by simpa using h2) hk
noncomputable def start (N : List Str) (vs : List V) : St := vs.map some ++ List.replicate (N.length - vs.length) none
noncomputable def cxOf (CX : CXT) (P : Program) (w : World) (K : PySem.W.Frag) (mg : Str → Option Value) (base : Heap) (N : List Str) (qual : Str) (scope : Scope) (f : Addr) (cd : Value) (A : Around) (outer : List Env) (s : Shared) (H : Hp) (E : XK) : Cx where
  prog := P
  w := w
  K := K
  mg := mg
  base := base
  A := A.deeper (envOfC qual scope s.heap.objs.size f cd)
  N := N
  s₀ := s
  H₀ := H
  env := envOfC qual scope s.heap.objs.size f cd
  outer := outer
  stack := envOfC qual scope s.heap.objs.size f cd :: outer
  ex := []
  calm := true
  fn := fun _ => true
  pn := []
  xe := fun e s' => wpAny (model P w) (A.deeper (envOfC qual scope s.heap.objs.size f cd)) (leaving (envOfC qual scope s.heap.objs.size f cd) e) (fun _ s'' => CX outer H s E e s'') (fun e' s'' => CX outer H s E e' s'') s'
theorem cell_has {sc : Scope} {n : Nat} {x : Str} (h : sc.names.lookup x = some .cell) : ∃ c, (cellsFrom n sc.names []).lookup x = some c := by
  have q := PySem.W.cellsFrom_some sc.names n [] (.inl h)
  exact Option.isSome_iff_exists.mp q
theorem inv_start {CX : CXT} {P : Program} {w : World} {K : PySem.W.Frag} {mg : Str → Option Value} {base : Heap} {N ps : List Str} {qual : Str} {scope : Scope} {f : Addr} {cd : Value} {A : Around} {outer : List Env} {s s1 : Shared} {H : Hp} {E : XK} {us : List Value} {vs : List V}
    (S : FnScope N ps scope) (hd : A.handled = none) (e0 : Env0 P w K mg base A outer s H) (hl : vs.length = ps.length) (r : Vals vs us)
    (x : InCallC s s.heap.objs.size (bindL (envOfC qual scope s.heap.objs.size f cd).kindOf (ps.zip us) fun _ => none) (cellsFrom (s.heap.objs.size + 1) scope.names []) (bindC (envOfC qual scope s.heap.objs.size f cd).kindOf (ps.zip us) fun _ => none) s1) :
    Inv (cxOf CX P w K mg base N qual scope f cd A outer s H E) [] (start N vs) H s1 := by
  have hpl : ps.length ≤ N.length := by have := congrArg List.length S.pre; rw [List.length_take] at this; omega
  obtain ⟨h1, tk, rfl, hk⟩ := x.done
  have noA : ∀ b : Addr, b ∉ (cxOf CX P w K mg base N qual scope f cd A outer s H E).ex := fun b z => absurd (show b ∈ ([] : List Addr) from z) (by simp)
  refine ⟨⟨e0.mod, S.kind, rfl, rfl, Nat.le_refl _, fun y z c h1 h2 => ?_, fun y hy => ?_, fun y c _ h => ?_, fun _ => hd, Around.frames_deeper e0.frames, .inr ⟨rfl, rfl⟩, fun b z => absurd z (noA b), e0.bs, e0.bsz, fun b _ _ => noA b, fun b z => absurd z (noA b), e0.funs, e0.frf⟩,
    rfl, e0.bare, Un.kept hk, ⟨_, x.toInCall.ns, fun i y v h1 h2 h3 => ?_⟩, fun y c h => ⟨_, x.cell y c h⟩, e0.hok.fresh (Nat.le_refl _), fun y c h => ?_, fun p hp => absurd (show p ∈ ([] : List (Addr × Obj)) from hp) (by simp), e0.hok.kept hk, ?_⟩
  · exact name_of_addr x.apart (PySem.mem_of_lookup h1) (PySem.mem_of_lookup h2)
  · have hy : scope.names.lookup y = some .cell ∨ scope.names.lookup y = some .free := hy
    rcases hy with hy | hy
    · exact cell_has hy
    · exact absurd rfl (S.nofree _ (PySem.mem_of_lookup hy))
  · exact Nat.le_of_lt (x.above y c (PySem.mem_of_lookup h))
  · have hi : i < vs.length := by
      unfold start at h2
      by_cases hi : i < vs.length
      · exact hi
      · rw [List.getElem?_append_right (by simpa using hi)] at h2
        rw [List.getElem?_replicate] at h2
        split at h2 <;> cases h2
    have ha : vs[i]? = some v := by
      unfold start at h2
      rw [List.getElem?_append_left (by simpa using hi), List.getElem?_map] at h2
      cases e : vs[i]? with
      | none => rw [e] at h2; cases h2
      | some a => rw [e] at h2; cases h2; rfl
    obtain ⟨u, hu, rv⟩ := r.get ha
    have hp : ps[i]? = some y := by
      rw [← S.pre, List.getElem?_take_of_lt (by omega)]; exact h1
    have ndP : ps.Nodup := by rw [← S.pre]; exact S.nd.sublist (List.take_sublist _ _)
    refine ⟨u, rv, ?_⟩
    rcases S.par y (List.mem_of_getElem? hp) with k | k
    · exact .inl ⟨k, bindL_get ndP hp hu k⟩
    · obtain ⟨c, e⟩ := cell_has (n := s.heap.objs.size + 1) k
      refine .inr ⟨.inl k, c, e, ?_⟩
      have q := x.cell y c e
      rw [bindC_get ndP hp hu (by show scope.names.lookup y ≠ _; rw [k]; decide)] at q
      exact q
  · exact e0.hok.fresh (Nat.le_of_lt (x.above y c (PySem.mem_of_lookup h)))
  · unfold start
    show _ = N.length
    rw [List.length_append, List.length_map, List.length_replicate]
    omega
theorem fn_of {CX : CXT} {P : Program} {w : World} {K : PySem.W.Frag} {mg : Str → Option Value} {base : Heap} {k : Nat} {f : Addr} {name qual : Str} {params : Arguments} {body : List Stmt} {scope : Scope} {dV kV doc pm cdv ct oc : Value} {an od : Option Addr}
    {osl : Array (Option Value)} {N ps : List Str} {sp : Sp} (lk : K.lookup f = some ⟨oc, od, .func (PySem.W.fnOf name qual params body scope dV kV doc pm an cdv ct), osl⟩) (hcd : PySem.W.codeIn K cdv qual = true) (S : FnScope N ps scope)
    (len : ∀ vs H Q E, sp vs H Q E → vs.length = ps.length)
    (hbody : ∀ (A : Around) (outer : List Env) (s : Shared) (H : Hp) (vs : List V) (Q : VK) (E : XK), Room k (A.deeper (envOfC qual scope s.heap.objs.size f cdv)) → sp vs H Q E →
      ∃ t, PSs (cxOf CX P w K mg base N qual scope f cdv A outer s H E) body t ∧ t { nx := fun _ H' => Q .non H', rt := Q } (start N vs) H) :
    FnOk P w K mg base CX (k + 1) f (PySem.W.fnOf name qual params body scope dV kV doc pm an cdv ct) ps sp := by
  refine ⟨len, fun A outer s H args us vs Q E hr e0 hb r hsp => ?_⟩
  have hl := len _ _ _ _ hsp
  have KX : K.In s.heap := e0.mod.kin.keeps fun b o e => (e0.bs b o e).1
  have lim : s.heap.NoLimit := e0.mod.nolimit.keeps fun b o e => (e0.bs b o e).1
  have hkind : ∀ y ∈ ps.zip us, scope.names.lookup y.1 = some .local ∨ (scope.names.lookup y.1 = some .cell ∧ ((cellsFrom (s.heap.objs.size + 1) scope.names []).lookup y.1).isSome = true) := fun ⟨n, v⟩ hy => by
    rcases S.par n (List.of_mem_zip hy).1 with q | q
    · exact .inl q
    · exact .inr ⟨q, PySem.W.cellsFrom_some _ _ _ (.inl q)⟩
  refine codeAny_call_function hr.depth (KX _ _ lk) rfl S.co S.gen rfl (PySem.W.codeRec_of KX hcd) (hb _ _ _ _ ?_)
  refine wpAny_newFunctionEnv_cells S.kind hkind fun env he s1 x => ?_
  subst he
  refine ⟨lim.keeps x.toInCall.keep, codeAny_func ?_⟩
  obtain ⟨t, ht, hq⟩ := hbody A outer s H vs Q E (hr.deeper _) hsp
  have I : Inv (cxOf CX P w K mg base N qual scope f cdv A outer s H E) [] (start N vs) H s1 := inv_start S hr.hd e0 hl r x
  refine wpAny_mono (ht [] s1 (start N vs) H _ I hq) (fun fl s' hs => ?_) fun e s' hs => hs
  have fin : ∀ {σ' : St} {H' : Hp} {v : V} {u : Value}, Inv (cxOf CX P w K mg base N qual scope f cdv A outer s H E) [] σ' H' s' → RelV v u → Q v H' → CE outer P w H s Q u s' :=
    fun {σ' H' v u} J rv q => ⟨v, H', J.os, J.bare, J.base, J.hok, rv, q⟩
  cases fl with
  | ret u =>
    obtain ⟨v, σ', H', J, rv, q⟩ := hs
    exact fin J rv q
  | next =>
    obtain ⟨σ', H', J, q⟩ := hs
    exact fin (v := V.non) (u := Value.none) J rfl q
  | brk =>
    obtain ⟨_, _, _, q⟩ := hs
    exact False.elim q
  | cont =>
    obtain ⟨_, _, _, q⟩ := hs
    exact False.elim q
end L2
namespace L2
open PySem PySem.Spec PyProof.Rows
section
variable {X : Cx} {x : Str} {p pos : Pos} {e : Expr} {es : List Expr} {t : TA} {id T : String} {r : List V → Hp → VK → Prop}
noncomputable def tCB (r : List V → Hp → VK → Prop) (t : TA) : TE := fun σ H Q => t σ H fun vs H1 => r vs H1 Q
theorem pe_callB (hc : CallR X (.builtin id) r) (hg : Gl X x) (hm : X.mg x = none) (hv : bootBuiltins x = some (.builtin id)) (ha : PA X (e :: es) t) (hn : x ≠ "__name__" := by decide) (hdb : (x == ("__debug__" : Str)) = false := by decide)
    (he : starEach (e :: es) X.env = (false, eval e X.env) :: starEach es X.env := by rfl) (hpl : (backTo pos (starEach es X.env)).any (·.1) = false := by rfl) : PE X (.Call (.Name x p) (e :: es) [] pos) (tCB r t) := by
  intro pins s σ H Q I h
  refine wpAny_Call_Name_kw (ld_blt I hg hm hv ?_ hn hdb)
  exact PyProof.Rows.callWith_builtin1 (thn (ha pos pins s σ H _ I h) fun us s1 ⟨vs, H1, I1, r1, q1⟩ => hc pins s1 σ H1 vs us Q I1 r1 q1) he hpl
theorem pe_callTy (hc : CallR X (.type T) r) (hg : Gl X x) (hm : X.mg x = none) (hv : bootBuiltins x = some (.type T)) (ha : PA X (e :: es) t) (hn : x ≠ "__name__" := by decide) (hdb : (x == ("__debug__" : Str)) = false := by decide)
    (he : starEach (e :: es) X.env = (false, eval e X.env) :: starEach es X.env := by rfl) (hpl : (backTo pos (starEach es X.env)).any (·.1) = false := by rfl) : PE X (.Call (.Name x p) (e :: es) [] pos) (tCB r t) := by
  intro pins s σ H Q I h
  refine wpAny_Call_Name_kw (ld_blt I hg hm hv ?_ hn hdb)
  exact PyProof.Rows.callWith_type1 (thn (ha pos pins s σ H _ I h) fun us s1 ⟨vs, H1, I1, r1, q1⟩ => hc pins s1 σ H1 vs us Q I1 r1 q1) he hpl
end
end L2
namespace HT
open PySem PyProof.Rows
section
open PySem.SeqAt
open PySem.AutoSeq1 (wpAny_loadPart')
open PySem.MeetsSeq PySem.MeetsSeq2 PySem.MeetsSeq3
end
section
variable {prog : Program} {w : World} {A : Around} {E : Value → Shared → Prop} {s : Shared}
theorem cat_tup {t b : Addr} {vs ws : List Value} {Q : Value → Shared → Prop} (ht : IsTup s.heap t vs.toArray) (hb : IsTup s.heap b ws.toArray) (hv : vs ≠ [])
    (h1 : ws = [] → Q (.ref t) s) (h2 : ws ≠ [] → Q (.ref s.heap.objs.size) { s with heap := s.heap.push { cls := .type "tuple", data := .seq (vs ++ ws).toArray } })
    (hsz : vs.length + ws.length ≤ sizeLine) : wpAny (model prog w) A (binaryOp .Add (.ref t) (.ref b)) Q E s := by
  obtain ⟨⟨cls, dd, data, sl⟩, ho, hc, n, hd⟩ := id ht
  obtain ⟨⟨cls2, dd2, data2, sl2⟩, ho2, hc2, n2, hd2⟩ := id hb
  simp only at hc hd hc2 hd2
  subst hc hd hc2 hd2
  have e : vs.toArray ++ ws.toArray = (vs ++ ws).toArray := by simp
  by_cases hw : ws = []
  · exact concat_meets ⟨_, ho, rfl⟩ ⟨_, ho2, rfl⟩ noFill_tuple_add seq_tuple_add PySem.F.slot_tuple_add PySem.F.entry_tuple_add (PySem.F.args_tuple_add_2 _ _)
      (tuple_addW1 t b vs.toArray ws.toArray n n2 dd dd2 sl sl2 (by simpa using hv) (by simp [hw])) ⟨ho, ho2, h1 hw⟩
  · refine concat_meets ⟨_, ho, rfl⟩ ⟨_, ho2, rfl⟩ noFill_tuple_add seq_tuple_add PySem.F.slot_tuple_add PySem.F.entry_tuple_add (PySem.F.args_tuple_add_2 _ _)
      (tuple_addW2 t b vs.toArray ws.toArray n n2 dd dd2 sl sl2 (by simpa using hv) (by simpa using hw) (by rw [List.size_toArray, List.size_toArray]; exact hsz)) ⟨ho, ho2, ?_⟩
    rw [e]
    exact h2 hw
noncomputable def sIx (n d : Nat) : Option Int → Nat
  | none => d
  | some v => if v < 0 then (v + (n : Int)).toNat else min v.toNat n
theorem sIx_none (n d : Nat) : sIx n d none = d := rfl
end
end HT
namespace L2
open PySem PySem.Spec PyProof.Rows
noncomputable abbrev TO := St → Hp → (Option Int → Hp → Prop) → Prop
noncomputable def PO (X : Cx) (e : Option Expr) (t : TO) : Prop :=
  ∀ (pins : List (Addr × Obj)) (s : Shared) (σ : St) (H : Hp) (Q : Option Int → Hp → Prop), Inv X pins σ H s → t σ H Q →
    wpAny (model X.prog X.w) X.A (evalPart e X.env) (fun u s' => ∃ o H', Inv X pins σ H' s' ∧ IsPart u o ∧ Q o H') X.xe s
noncomputable def tNoPart : TO := fun _ H Q => Q none H
noncomputable def tPart (t : TE) : TO := fun σ H Q => t σ H fun x H1 => ∃ i, x = .int i ∧ Q (some i) H1
section
variable {X : Cx} {e : Expr} {te : TE} {lo hi : Option Expr} {tl th : TO} {pos p2 : Pos}
theorem po_none : PO X none tNoPart := by
  intro pins s σ H Q I h
  rw [evalPart_none]
  exact wpAny_pure ⟨none, H, I, .none, h⟩
theorem po_some (h : PE X e te) : PO X (some e) (tPart te) := by
  intro pins s σ H Q I hw
  rw [evalPart_some]
  refine thn (h pins s σ H _ I hw) fun u s1 ⟨x, H1, I1, r1, q1⟩ => ?_
  obtain ⟨i, rfl, q⟩ := q1
  obtain ⟨t, rfl⟩ := r1
  exact ⟨some i, H1, I1, .int i t, q⟩
noncomputable def SlR (X : Cx) (r : V → Option Int → Option Int → Hp → VK → Prop) : Prop :=
  ∀ (pins : List (Addr × Obj)) (s : Shared) (σ : St) (H : Hp) (x : V) (v vl vu : Value) (lo hi : Option Int) (sl : Addr) (Q : VK), Inv X pins σ H s → RelV x v → s.heap.IsSliceOf sl vl vu .none → IsPart vl lo → IsPart vu hi → r x lo hi H Q →
    ∃ T id, typeLookup (.type T) "__getitem__" = pure (some (.builtin id)) ∧ s.TypeIs v T ∧ wpAny (model X.prog X.w) X.A (getItem v (.ref sl)) (EP X pins σ Q) X.xe s
theorem SlR.or {r r' : V → Option Int → Option Int → Hp → VK → Prop} (h : SlR X r) (h' : SlR X r') : SlR X (fun x lo hi H Q => r x lo hi H Q ∨ r' x lo hi H Q) := by
  intro pins s σ H x v vl vu lo hi sl Q I rx hs pl pu q
  rcases q with q | q
  · exact h pins s σ H x v vl vu lo hi sl Q I rx hs pl pu q
  · exact h' pins s σ H x v vl vu lo hi sl Q I rx hs pl pu q
noncomputable def tSl (r : V → Option Int → Option Int → Hp → VK → Prop) (te : TE) (tl th : TO) : TE := fun σ H Q => te σ H fun x H1 => tl σ H1 fun l H2 => th σ H2 fun u H3 => r x l u H3 Q
theorem pe_slice {r : V → Option Int → Option Int → Hp → VK → Prop} (hr : SlR X r) (he : PE X e te) (hl : PO X lo tl) (hu : PO X hi th) : PE X (.Subscript e (.Slice lo hi none p2) pos) (tSl r te tl th) := by
  intro pins s σ H Q I h
  refine Subscript_ (thn (he pins s σ H _ I h) fun v s1 ⟨x, H1, I1, r1, q1⟩ => ?_)
  refine wpAny_Slice (thn (hl pins s1 σ H1 _ I1 q1) fun vl s2 ⟨l, H2, I2, pl, q2⟩ => thn (hu pins s2 σ H2 _ I2 q2) fun vu s3 ⟨u, H3, I3, pu, q3⟩ => ?_)
  rw [evalPart_none]
  refine wpAny_pure ?_
  have I4 : Inv X pins σ H3 { s3 with heap := s3.heap.push { cls := .type "slice", data := .fields #[vl, vu, .none] } } := I3.kept (t' := s3.toks) fun b ob q => Heap.get?_push_of_some _ q
  obtain ⟨T, id, hT, ht, hg⟩ := hr pins { s3 with heap := s3.heap.push { cls := .type "slice", data := .fields #[vl, vu, .none] } } σ H3 x v vl vu l u s3.heap.objs.size Q I4 r1 (Heap.IsSliceOf.new ..) pl pu q3
  show wpAny (model X.prog X.w) X.A (subscriptTail e (.Slice lo hi none p2) v (.ref s3.heap.objs.size)) (EP X pins σ Q) X.xe { s3 with heap := s3.heap.push { cls := .type "slice", data := .fields #[vl, vu, .none] } }
  exact tail_any (ops := [.ref s3.heap.objs.size, v]) ht hT hg (by with_unfolding_all rfl)
noncomputable def cutV (xs : List V) (lo hi : Option Int) : List V := (xs.drop (HT.sIx xs.length 0 lo)).take (HT.sIx xs.length xs.length hi - HT.sIx xs.length 0 lo)
theorem cutV_length (xs : List V) (lo hi : Option Int) : (cutV xs lo hi).length ≤ xs.length := by
  unfold cutV
  rw [List.length_take, List.length_drop]
  omega
noncomputable def rCatT (K : PySem.W.Frag) : R2 := fun x y H Q => ∃ a b xs ys, x = .ref a ∧ y = .ref b ∧ SqT K H a xs ∧ SqT K H b ys ∧ xs ≠ [] ∧ xs.length + ys.length ≤ sizeLine ∧
  (ys = [] → Q (.ref a) H) ∧ (ys ≠ [] → ∀ p, H p = none → Q (.ref p) (upd H p (.tup (xs ++ ys))))
theorem Vals.nil_iff {xs : List V} {us : List Value} (r : Vals xs us) : us = [] ↔ xs = [] := by
  cases r with
  | nil => simp
  | cons _ _ => simp
theorem op_catT : OpR X (binaryOp .Add) (rCatT X.K) := by
  intro pins s σ H x y v u Q I rx ry h
  obtain ⟨a, b, xs, ys, rfl, rfl, ha, hb, hx, hz, q1, q2⟩ := h
  cases rx
  cases ry
  obtain ⟨its, r1, p1, _⟩ := I.tuple ha
  obtain ⟨its2, r2, p2, _⟩ := I.tuple hb
  refine HT.cat_tup p1 p2 (fun z => hx (r1.nil_iff.mp z)) (fun z => ⟨.ref a, H, I, rfl, q1 (r2.nil_iff.mp z)⟩) (fun z => ?_) (by rw [← r1.length, ← r2.length]; exact hz)
  refine ⟨.ref s.heap.objs.size, _, I.laid (t' := s.toks) (o := .tup (xs ++ ys)) (fun b ob q => Heap.get?_push_of_some _ q) (Nat.le_refl _) ?_, rfl, q2 (fun w => z (r2.nil_iff.mpr w)) _ (I.hok.fresh (Nat.le_refl _))⟩
  exact ⟨by rw [List.length_append]; exact hz, _, r1.append r2, IsTup.new _ _⟩
end
end L2
namespace L2
open PySem PySem.Spec PyProof.Rows
noncomputable def ixN (n : Nat) (i : Int) : Option Nat := if 0 ≤ i then (if i < n then some i.toNat else none) else if -(n : Int) ≤ i then some (i + n).toNat else none
noncomputable def atI {α : Type} (xs : List α) (i : Int) : Option α := (ixN xs.length i).bind fun j => xs[j]?
theorem ixN_seq {n : Nat} {i : Int} {j : Nat} (h : ixN n i = some j) : seqIndex? i n = some j ∧ j < n ∧ -(n : Int) ≤ i ∧ i < n := by
  unfold ixN at h
  by_cases h0 : 0 ≤ i
  · rw [if_pos h0] at h
    by_cases h1 : i < n
    · rw [if_pos h1] at h
      have e : i.toNat = j := Option.some.inj h
      exact ⟨by rw [seqIndex_of h0 h1, e], by omega, by omega, h1⟩
    · rw [if_neg h1] at h; cases h
  · rw [if_neg h0] at h
    by_cases h1 : -(n : Int) ≤ i
    · rw [if_pos h1] at h
      have e : (i + n).toNat = j := Option.some.inj h
      exact ⟨by rw [seqIndex_neg (by omega) h1, e], by omega, h1, by omega⟩
    · rw [if_neg h1] at h; cases h
theorem atI_get {α : Type} {xs : List α} {i : Int} {v : α} (h : atI xs i = some v) : ∃ j, seqIndex? i xs.length = some j ∧ xs[j]? = some v ∧ j < xs.length ∧ -(xs.length : Int) ≤ i ∧ i < xs.length := by
  unfold atI at h
  cases e : ixN xs.length i with
  | none => rw [e] at h; cases h
  | some j =>
    rw [e] at h
    obtain ⟨h1, h2, h3, h4⟩ := ixN_seq e
    exact ⟨j, h1, h, h2, h3, h4⟩
theorem atI_nat {α : Type} {xs : List α} {j : Nat} {v : α} (h : xs[j]? = some v) : atI xs (j : Int) = some v := by
  have hj : j < xs.length := (List.getElem?_eq_some_iff.mp h).1
  have e : ixN xs.length (j : Int) = some j := by
    unfold ixN
    rw [if_pos (by omega), if_pos (by omega)]; simp
  unfold atI; rw [e]; exact h
theorem atI_last {α : Type} (xs : List α) (v : α) : atI (xs ++ [v]) (-1) = some v := by
  have hl : (xs ++ [v]).length = xs.length + 1 := by simp
  have e : ixN (xs ++ [v]).length (-1) = some xs.length := by
    unfold ixN
    rw [hl, if_neg (by decide), if_pos (by omega)]
    congr 1
    omega
  unfold atI
  rw [e]
  show (xs ++ [v])[xs.length]? = some v
  simp
noncomputable def PlainIx (b : Expr) : Prop := ∀ o i, subscripted b false o i = operate [o, i] (getItem o i)
noncomputable def IxR (X : Cx) (r : R2) : Prop :=
  ∀ (value slice : Expr) (pins : List (Addr × Obj)) (s : Shared) (σ : St) (H : Hp) (x y : V) (v u : Value) (Q : VK), Inv X pins σ H s → RelV x v → RelV y u → r x y H Q →
    subscripted slice false v u = operate [v, u] (getItem v u) → wpAny (model X.prog X.w) X.A (subscriptTail value slice v u) (EP X pins σ Q) X.xe s
noncomputable def MtR (X : Cx) (id : String) (r : V → List V → Hp → VK → Prop) : Prop :=
  ∀ (pins : List (Addr × Obj)) (s : Shared) (σ : St) (H : Hp) (x : V) (xs : List V) (v : Value) (us : List Value) (Q : VK), Inv X pins σ H s → RelV x v → Vals xs us → r x xs H Q →
    wpAny (model X.prog X.w) X.A (call (.builtin id) (v :: us)) (EP X pins σ Q) X.xe s
section
variable {X : Cx} {a b : Expr} {ta tb : TE} {pos : Pos}
theorem IxR.or {r r' : R2} (h : IxR X r) (h' : IxR X r') : IxR X (fun x y H Q => r x y H Q ∨ r' x y H Q) := by
  intro value slice pins s σ H x y v u Q I rx ry q hs
  rcases q with q | q
  · exact h value slice pins s σ H x y v u Q I rx ry q hs
  · exact h' value slice pins s σ H x y v u Q I rx ry q hs
theorem MtR.or {id : String} {r r' : V → List V → Hp → VK → Prop} (h : MtR X id r) (h' : MtR X id r') : MtR X id (fun x xs H Q => r x xs H Q ∨ r' x xs H Q) := by
  intro pins s σ H x xs v us Q I rx rs q
  rcases q with q | q
  · exact h pins s σ H x xs v us Q I rx rs q
  · exact h' pins s σ H x xs v us Q I rx rs q
theorem pe_ix {r : R2} (hr : IxR X r) (ha : PE X a ta) (hb : PE X b tb) (hs : PlainIx b) : PE X (.Subscript a b pos) (tOp r ta tb) := by
  intro pins s σ H Q I h
  exact Subscript_ (binT ha hb I h fun v u s2 x y H2 I2 rx ry q => hr a b pins s2 σ H2 x y v u Q I2 rx ry q (hs _ _))
noncomputable def rIxL (K : PySem.W.Frag) : R2 := fun x y H Q => ∃ p xs i v, x = .ref p ∧ y = .int i ∧ SqL K H p xs ∧ atI xs i = some v ∧ Q v H
noncomputable def rIxT (K : PySem.W.Frag) : R2 := fun x y H Q => ∃ p xs i v, x = .ref p ∧ y = .int i ∧ SqT K H p xs ∧ atI xs i = some v ∧ Q v H
noncomputable def rIxS : R2 := fun x y H Q => ∃ z i c, x = .str z ∧ y = .int i ∧ z.length ≤ sizeLine ∧ atI z.cps.toList i = some c ∧ Q (.str ⟨#[c]⟩) H
theorem ix_list : IxR X (rIxL X.K) := by
  intro value slice pins s σ H x y v u Q I rx ry h hs
  obtain ⟨p, xs, i, z, rfl, rfl, hq, he, q⟩ := h
  cases rx
  obtain ⟨t, rfl⟩ := ry
  obtain ⟨its, r, pl, hz⟩ := I.list hq
  obtain ⟨j, h1, h2, h3, h4, h5⟩ := atI_get he
  obtain ⟨w, ew, rw'⟩ := r.get h2
  have hl := r.length
  have hn := line63
  have fin : EP X pins σ Q w s := ⟨z, H, I, rw', q⟩
  by_cases h0 : 0 ≤ i
  · have hj : i.toNat = j := by
      rw [seqIndex_of h0 h5] at h1
      exact Option.some.inj h1
    exact item_listR pl.isList h0 (by omega) (by rw [hj]; simpa using ew) fin hs
  · have hj : (i + (its.toArray.size : Int)).toNat = j := by
      rw [seqIndex_neg (by omega) h4] at h1
      rw [List.size_toArray, ← hl]
      exact Option.some.inj h1
    exact subscriptTail_builtinR (x := w) pl.isList.typeIs slot_list_getitem.lookup
      (wpAny_getItem_list_neg (Q := fun r s' => r = w ∧ EP X pins σ Q r s') pl.isList (by omega) (by rw [List.size_toArray] <;> omega) (by omega) (by rw [hj]; simpa using ew) ⟨rfl, fin⟩) hs
theorem ix_tup : IxR X (rIxT X.K) := by
  intro value slice pins s σ H x y v u Q I rx ry h hs
  obtain ⟨p, xs, i, z, rfl, rfl, hq, he, q⟩ := h
  cases rx
  obtain ⟨t, rfl⟩ := ry
  obtain ⟨its, r, pl, hz⟩ := I.tuple hq
  obtain ⟨j, h1, h2, h3, h4, h5⟩ := atI_get he
  obtain ⟨w, ew, rw'⟩ := r.get h2
  have hl := r.length
  have hn := line63
  have fin : EP X pins σ Q w s := ⟨z, H, I, rw', q⟩
  exact subscriptTail_builtinR (x := w) pl.typeIs slot_tuple_getitem.lookup
    (getItem_tuple (j := j) (Q := fun r s' => r = w ∧ EP X pins σ Q r s') pl (by omega) (by omega) (by rw [List.size_toArray, ← hl]; exact h1) (by simpa using ew) ⟨rfl, fin⟩) hs
theorem ix_str : IxR X rIxS := by
  intro value slice pins s σ H x y v u Q I rx ry h hs
  obtain ⟨z, i, c, rfl, rfl, hz, he, q⟩ := h
  obtain ⟨t, rfl⟩ := rx
  obtain ⟨t', rfl⟩ := ry
  obtain ⟨j, h1, h2, h3, h4, h5⟩ := atI_get he
  have hl : z.cps.toList.length = z.length := by simp [Str.length]
  rw [hl] at h1 h4 h5
  have hn := line63
  exact tail_any (typeIs_str s z t) slot_str_getitem.lookup (getItem_str (c := c) (by
    have e1 : decide (i < -(2 ^ 63 : Int)) = false := decide_eq_false (by omega)
    have e2 : decide (i ≥ 2 ^ 63) = false := decide_eq_false (by omega)
    rw [e1, e2, Bool.or_false]) (by rw [h1]; simpa using h2) ⟨.str ⟨#[c]⟩, H, I.tok _, ⟨_, rfl⟩, q⟩) hs
noncomputable def rIx (K : PySem.W.Frag) : R2 := fun x y H Q => rIxL K x y H Q ∨ rIxT K x y H Q ∨ rIxS x y H Q
theorem ix_seq : IxR X (rIx X.K) := ix_list.or (ix_tup.or ix_str)
theorem mapSeq_set (its : List Value) (n j : Nat) (u : Value) : Obj.mapSeq (·.setIfInBounds j u) { cls := .type "list", data := .seq its.toArray n } = { cls := .type "list", data := .seq (its.set j u).toArray n } := by
  simp [Obj.mapSeq]
theorem Inv.lst {pins : List (Addr × Obj)} {σ : St} {H : Hp} {s : Shared} {p : Addr} {xs : List V} (I : Inv X pins σ H s) (h : H p = some (.lst xs)) :
    ∃ (its : List Value) (n : Nat), Vals xs its ∧ s.heap.get? p = some { cls := .type "list", data := .seq its.toArray n } ∧ xs.length ≤ sizeLine := by
  obtain ⟨z, its, n, r, e⟩ := I.hok p _ h
  exact ⟨its, n, r, e, z⟩
theorem Inv.lstUpd {pins : List (Addr × Obj)} {σ : St} {H : Hp} {s : Shared} {p : Addr} {xs ys : List V} {its its' : List Value} {n n' : Nat} {f : Obj → Obj} (I : Inv X pins σ H s) (h : H p = some (.lst xs))
    (ho : s.heap.get? p = some { cls := .type "list", data := .seq its.toArray n }) (hf : f { cls := .type "list", data := .seq its.toArray n } = { cls := .type "list", data := .seq its'.toArray n' }) (r : Vals ys its') (hz : ys.length ≤ sizeLine) (t : Nat) :
    Inv X pins σ (upd H p (.lst ys)) { s with heap := s.heap.update p f, toks := t } := by
  have e : (s.heap.update p f).get? p = some { cls := .type "list", data := .seq its'.toArray n' } := by
    rw [Heap.get?_update_self f ho (by rw [hf] <;> rfl), hf]
  refine I.write (x := p) (e := p) (by rw [h]; trivial) (.inl rfl) (fun b u hb q => (Heap.get?_update_other _ _ (Ne.symm hb)).trans q) ⟨_, e⟩ ?_
  exact ⟨hz, its', n', r, e⟩
noncomputable def rSetL : V → V → V → Hp → (Hp → Prop) → Prop := fun o i v H Q => ∃ p xs k j, o = .ref p ∧ i = .int k ∧ H p = some (.lst xs) ∧ ixN xs.length k = some j ∧ Q (upd H p (.lst (xs.set j v)))
theorem set_list : PSet X rSetL := by
  intro pins s σ H o i v ov iv u Q I ro ri rv h
  obtain ⟨p, xs, k, j, rfl, rfl, hp, hj, q⟩ := h
  cases ro
  obtain ⟨t, rfl⟩ := ri
  obtain ⟨its, n, r, ho, hz⟩ := I.lst hp
  obtain ⟨h1, h2, h3, h4⟩ := ixN_seq hj
  have hl := r.length
  have hn := line63
  have I' : Inv X pins σ (upd H p (.lst (xs.set j v))) { s with heap := s.heap.update p (Obj.mapSeq (·.setIfInBounds j u)) } :=
    I.lstUpd hp ho (mapSeq_set its n j u) (r.set rv j) (by rw [List.length_set]; exact hz) s.toks
  by_cases h0 : 0 ≤ k
  · have hk : k.toNat = j := by
      rw [seqIndex_of h0 h4] at h1
      exact Option.some.inj h1
    exact PySem.W.ki_setAt ho h0 (by omega) (by rw [List.size_toArray, ← hl]; exact h4) (by rw [hk]; exact ⟨_, I', q⟩)
  · have hk : (k + (its.toArray.size : Int)).toNat = j := by
      rw [seqIndex_neg (by omega) h3] at h1
      rw [List.size_toArray, ← hl]
      exact Option.some.inj h1
    exact PySem.W.ki_setBack ho (by omega) (by rw [List.size_toArray, ← hl]; exact h3) (by omega) (by rw [hk]; exact ⟨_, I', q⟩)
theorem slice_bounds (lo hi : Option Int) (n : Nat) : (sliceBounds lo hi none n).1 = ((HT.sIx n 0 lo : Nat) : Int) ∧ (sliceBounds lo hi none n).2.1 = ((HT.sIx n n hi : Nat) : Int) ∧ (sliceBounds lo hi none n).2.2 = 1 := by
  refine ⟨?_, ?_, rfl⟩
  · cases lo with
    | none => simp [sliceBounds, HT.sIx]
    | some i =>
      simp only [sliceBounds, HT.sIx, Option.getD_none, show (1 : Int) > 0 by decide, if_true]
      by_cases h : i < 0
      · simp only [h, if_true] <;> omega
      · simp only [h, if_false] <;> omega
  · cases hi with
    | none => simp [sliceBounds, HT.sIx]
    | some i =>
      simp only [sliceBounds, HT.sIx, Option.getD_none, show (1 : Int) > 0 by decide, if_true]
      by_cases h : i < 0
      · simp only [h, if_true] <;> omega
      · simp only [h, if_false] <;> omega
theorem slicePick_cut (its : List Value) (lo hi : Option Int) : slicePick its.toArray lo hi none = ((its.drop (HT.sIx its.length 0 lo)).take (HT.sIx its.length its.length hi - HT.sIx its.length 0 lo)).toArray := by
  obtain ⟨h1, h2, h3⟩ := slice_bounds lo hi its.toArray.size
  unfold slicePick
  rw [h1, h2, h3]
  simp only [sliceRange_one, pick_run, List.size_toArray] <;> rfl
noncomputable def rSlL (K : PySem.W.Frag) : V → Option Int → Option Int → Hp → VK → Prop := fun x lo hi H Q => ∃ a xs, x = .ref a ∧ SqL K H a xs ∧ ∀ p, H p = none → Q (.ref p) (upd H p (.lst (cutV xs lo hi)))
theorem sl_list : SlR X (rSlL X.K) := by
  intro pins s σ H x v vl vu lo hi sl Q I rx hs pl pu h
  obtain ⟨a, xs, rfl, hx, q⟩ := h
  cases rx
  obtain ⟨its, r, ht, hz⟩ := I.list hx
  have hlen := r.length
  refine ⟨"list", _, slot_list_getitem.lookup, ht.isList.typeIs, ?_⟩
  refine wpAny_getItem_list_slice ht.isList hs pl pu .none (by simp) ?_ (by rw [List.size_toArray] <;> omega)
  rw [slicePick_cut, ← hlen]
  refine ⟨.ref s.heap.objs.size, _, I.laid (t' := s.toks) (o := .lst (cutV xs lo hi)) (fun b ob q => Heap.get?_push_of_some _ q) (Nat.le_refl _) ?_, rfl, q _ (I.hok.fresh (Nat.le_refl _))⟩
  exact ⟨Nat.le_trans (cutV_length xs lo hi) hz, _, 0, (r.drop (HT.sIx xs.length 0 lo)).take (HT.sIx xs.length xs.length hi - HT.sIx xs.length 0 lo), Heap.get?_push_size _ rfl⟩
noncomputable def flatV : V → Bool
  | .non => true
  | .bl _ => true
  | .int _ => true
  | .str _ => true
  | _ => false
noncomputable def eqV : V → V → Bool
  | .non, .non => true
  | .bl a, .bl b => a == b
  | .bl a, .int b => (if a then 1 else 0) == b
  | .int a, .bl b => a == (if b then 1 else 0)
  | .int a, .int b => a == b
  | .str a, .str b => a == b
  | _, _ => false
theorem eqAt_V {A : Around} {s : Shared} {y x : V} {u v : Value} (ry : RelV y u) (rx : RelV x v) (fy : flatV y = true) (fx : flatV x = true) : SeqAt.EqAt A s u v (eqV y x) := by
  cases y with
  | non =>
    cases ry
    cases x with
    | non => cases rx; exact SeqAt.EqAt.same _
    | bl b => cases rx; exact SeqAt.EqAt.none_bool b
    | int b => obtain ⟨t, rfl⟩ := rx; exact SeqAt.EqAt.none_int b t
    | str b => obtain ⟨t, rfl⟩ := rx; exact SeqAt.EqAt.none_str b t
    | _ => exact absurd (show false = true from fx) Bool.false_ne_true
  | bl a =>
    cases ry
    cases x with
    | non => cases rx; exact SeqAt.EqAt.bool_none a
    | bl b => cases rx; exact SeqAt.EqAt.bool_bool a b
    | int b => obtain ⟨t, rfl⟩ := rx; exact SeqAt.EqAt.bool_int a b t
    | str b => obtain ⟨t, rfl⟩ := rx; exact SeqAt.EqAt.bool_str a b t
    | _ => exact absurd (show false = true from fx) Bool.false_ne_true
  | int a =>
    obtain ⟨t', rfl⟩ := ry
    cases x with
    | non => cases rx; exact SeqAt.EqAt.int_none a t'
    | bl b => cases rx; exact SeqAt.EqAt.int_bool a t' b
    | int b => obtain ⟨t, rfl⟩ := rx; exact SeqAt.EqAt.int_int a t' b t
    | str b => obtain ⟨t, rfl⟩ := rx; exact SeqAt.EqAt.int_str a t' b t
    | _ => exact absurd (show false = true from fx) Bool.false_ne_true
  | str a =>
    obtain ⟨t', rfl⟩ := ry
    cases x with
    | non => cases rx; exact SeqAt.EqAt.str_none a t'
    | bl b => cases rx; exact SeqAt.EqAt.str_bool a t' b
    | int b => obtain ⟨t, rfl⟩ := rx; exact SeqAt.EqAt.str_int a t' b t
    | str b => obtain ⟨t, rfl⟩ := rx; exact SeqAt.EqAt.str_str a t' b t
    | _ => exact absurd (show false = true from fx) Bool.false_ne_true
  | _ => exact absurd (show false = true from fy) Bool.false_ne_true
noncomputable def eqU (x : V) (u : Value) : Bool := match u with
  | .none => eqV .non x
  | .bool b => eqV (.bl b) x
  | .int i _ => eqV (.int i) x
  | .str z _ => eqV (.str z) x
  | _ => false
theorem eqU_of {x y : V} {u : Value} (r : RelV y u) (f : flatV y = true) : eqU x u = eqV y x := by
  cases y with
  | non => cases r; rfl
  | bl b => cases r; rfl
  | int i => obtain ⟨t, rfl⟩ := r; rfl
  | str z => obtain ⟨t, rfl⟩ := r; rfl
  | _ => exact absurd (show false = true from f) Bool.false_ne_true
theorem any_eqU {x : V} : ∀ {xs : List V} {us : List Value}, Vals xs us → xs.all flatV = true → us.any (eqU x) = xs.any fun y => eqV y x
  | _, _, .nil, _ => rfl
  | y :: xs, u :: us, .cons r t, f => by
    rw [List.all_cons, Bool.and_eq_true] at f
    rw [List.any_cons, List.any_cons, eqU_of r f.1, any_eqU t f.2]
theorem mem_eqAt {A : Around} {s : Shared} {x : V} {v : Value} (rx : RelV x v) (fx : flatV x = true) : ∀ {xs : List V} {us : List Value}, Vals xs us → xs.all flatV = true → ∀ u ∈ us, SeqAt.EqAt A s u v (eqU x u)
  | _, _, .nil, _ => fun u hu => by cases hu
  | y :: xs, u :: us, .cons r t, f => fun u' hu => by
    rw [List.all_cons, Bool.and_eq_true] at f
    rcases List.mem_cons.mp hu with rfl | hu
    · rw [eqU_of r f.1]; exact eqAt_V r rx f.1 fx
    · exact mem_eqAt rx fx t f.2 u' hu
noncomputable def inV (x : V) (xs : List V) : Bool := xs.any fun y => eqV y x
noncomputable def rIn (K : PySem.W.Frag) (neg : Bool) : R2 := fun x y H Q => ∃ p xs, y = .ref p ∧ (SqL K H p xs ∨ SqT K H p xs) ∧ flatV x = true ∧ xs.all flatV = true ∧ Q (.bl (if neg then !inV x xs else inV x xs)) H
theorem op_notIn_seq : OpR X (compareOp .NotIn) (rIn X.K true) := by
  intro pins s σ H x y v u Q I rx ry h
  obtain ⟨p, xs, rfl, hq, fx, fs, q⟩ := h
  cases ry
  rcases hq with hq | hq
  · obtain ⟨its, r, pl, hz⟩ := I.list hq
    refine SeqAt.notIn_listAt (eqU x) pl.isList (fun w hw => mem_eqAt rx fx r fs w (by simpa using hw)) ⟨.bl _, H, I, rfl, ?_⟩
    rw [show its.toArray.any (eqU x) = its.any (eqU x) by simp, any_eqU r fs]
    exact q
  · obtain ⟨its, r, pl, hz⟩ := I.tuple hq
    refine SeqAt.notIn_tupleAt (eqU x) pl (fun w hw => mem_eqAt rx fx r fs w (by simpa using hw)) ⟨.bl _, H, I, rfl, ?_⟩
    rw [show its.toArray.any (eqU x) = its.any (eqU x) by simp, any_eqU r fs]
    exact q
theorem CallR.or {f : Value} {r r' : List V → Hp → VK → Prop} (h : CallR X f r) (h' : CallR X f r') : CallR X f (fun xs H Q => r xs H Q ∨ r' xs H Q) := by
  intro pins s σ H xs us Q I rs q
  rcases q with q | q
  · exact h pins s σ H xs us Q I rs q
  · exact h' pins s σ H xs us Q I rs q
theorem call_list_of : CallR X (.type "list") (fun xs H Q => ∃ p ys, xs = [.ref p] ∧ (SqL X.K H p ys ∨ SqT X.K H p ys) ∧ ∀ l, H l = none → Q (.ref l) (upd H l (.lst ys))) := by
  intro pins s σ H xs us Q I r h
  obtain ⟨p, ys, rfl, hq, q⟩ := h
  obtain ⟨u, rfl, rx⟩ := vals1 r
  cases rx
  have fin : ∀ (its : List Value), Vals ys its → ys.length ≤ sizeLine → ∀ (h' : Heap) (c' : Nat), (∀ b o', s.heap.get? b = some o' → h'.get? b = some o') →
      h'.get? s.heap.objs.size = some { cls := .type "list", dict := none, data := .seq its.toArray c', slots := #[] } → EP X pins σ Q (.ref s.heap.objs.size) { s with heap := h' } := fun its r' hz h' c' kp e =>
    ⟨.ref s.heap.objs.size, _, I.laid (t' := s.toks) kp (Nat.le_refl _) (show ObjOk X.prog X.w _ h' _ (.lst ys) from ⟨hz, its, c', r', e⟩), rfl, q _ (I.hok.fresh (Nat.le_refl _))⟩
  rcases hq with hq | hq
  · obtain ⟨its, r', pl, hz⟩ := I.list hq
    have hlen := r'.length
    obtain ⟨o, ho, hc, n, hd⟩ := pl.isList
    exact call_list_seq p (.inl rfl) ho hc hd (fun h' c' kp e => fin its r' hz h' c' kp e) (by simp only [List.size_toArray] <;> omega)
  · obtain ⟨its, r', pl, hz⟩ := I.tuple hq
    have hlen := r'.length
    obtain ⟨o, ho, hc, n, hd⟩ := pl
    exact call_list_seq p (.inr rfl) ho hc hd (fun h' c' kp e => fin its r' hz h' c' kp e) (by simp only [List.size_toArray] <;> omega)
theorem call_tuple_of : CallR X (.type "tuple") (fun xs H Q => ∃ p ys, xs = [.ref p] ∧ ((SqL X.K H p ys ∧ ∀ l, H l = none → Q (.ref l) (upd H l (.tup ys))) ∨ (SqT X.K H p ys ∧ Q (.ref p) H))) := by
  intro pins s σ H xs us Q I r h
  obtain ⟨p, ys, rfl, h⟩ := h
  obtain ⟨u, rfl, rx⟩ := vals1 r
  cases rx
  rcases h with ⟨hq, q⟩ | ⟨hq, q⟩
  · obtain ⟨its, r', pl, hz⟩ := I.list hq
    have hlen := r'.length
    refine call_tuple_list pl.isList (fun h' kp => ?_) (by simp only [List.size_toArray] <;> omega)
    have I1 : Inv X pins σ H { s with heap := h' } := I.kept (t' := s.toks) kp
    have I2 : Inv X pins σ (upd H h'.objs.size (.tup ys)) { s with heap := h'.push { cls := .type "tuple", data := .seq its.toArray } } :=
      I1.laid (t' := s.toks) (fun b o e => Heap.get?_push_of_some _ e) (Nat.le_refl _) (show ObjOk X.prog X.w _ _ _ (.tup ys) from ⟨hz, its, r', IsTup.new _ _⟩)
    exact ⟨.ref h'.objs.size, _, I2, rfl, q _ (I1.hok.fresh (Nat.le_refl _))⟩
  · obtain ⟨its, r', pl, hz⟩ := I.tuple hq
    exact call_tuple_same pl ⟨.ref p, H, I, rfl, q⟩
noncomputable def tyV (K : PySem.W.Frag) (T : String) (x : V) (H : Hp) : Prop := match x with
  | .str _ => T = "str"
  | .int _ => T = "int"
  | .ref p => (T = "list" ∧ ∃ xs, SqL K H p xs) ∨ (T = "tuple" ∧ ∃ o, K.lookup p = some o ∧ o.cls = .type "tuple" ∧ o.dict = none) ∨
      (T = "dict" ∧ ((∃ kvs, H p = some (.dK kvs)) ∨ ∃ kvs, H p = some (.dT kvs))) ∨ (T = "set" ∧ ∃ S n, H p = some (.set S n))
  | _ => False
theorem tyV_is {pins : List (Addr × Obj)} {σ : St} {H : Hp} {s : Shared} {T : String} {x : V} {v : Value} (I : Inv X pins σ H s) (r : RelV x v) (ty : tyV X.K T x H) :
    s.TypeIs v T ∧ ∀ a, v = .ref a → ∃ ob, s.heap.get? a = some ob ∧ ob.dict = none := by
  cases x with
  | str z =>
    obtain ⟨t, rfl⟩ := r
    cases (show T = "str" from ty)
    exact ⟨typeIs_str s z t, fun _ e => nomatch e⟩
  | int i =>
    obtain ⟨t, rfl⟩ := r
    cases (show T = "int" from ty)
    exact ⟨typeIs_int s i t, fun _ e => nomatch e⟩
  | ref p =>
    cases r
    rcases ty with ⟨rfl, xs, hq⟩ | ⟨rfl, o, hk, hc, hd⟩ | ⟨rfl, hk⟩ | ⟨rfl, S, n, hk⟩
    · obtain ⟨its, _, pl, _⟩ := I.list hq
      refine ⟨pl.isList.typeIs, fun a e => ?_⟩
      cases e
      obtain ⟨o, n, e, c, hd, _⟩ := pl
      exact ⟨o, e, hd⟩
    · refine ⟨⟨o, I.kIn p o hk, hc⟩, fun a e => ?_⟩
      cases e
      exact ⟨o, I.kIn _ o hk, hd⟩
    · have z : ∃ o, s.heap.get? p = some o ∧ o.ExactDict := by
        rcases hk with ⟨kvs, hk⟩ | ⟨kvs, hk⟩
        · obtain ⟨_, _, _, _, o, _, _, e, ex, _⟩ := I.hok p _ hk
          exact ⟨o, e, ex⟩
        · obtain ⟨_, _, _, _, o, _, _, e, ex, _⟩ := I.hok p _ hk
          exact ⟨o, e, ex⟩
      obtain ⟨o, e, ex⟩ := z
      refine ⟨⟨o, e, ex.1⟩, fun a e2 => ?_⟩
      cases e2
      exact ⟨o, e, ex.2.1⟩
    · obtain ⟨o, _, _, _, e, ex, _⟩ := I.hok p _ hk
      refine ⟨⟨o, e, ex.1⟩, fun a e2 => ?_⟩
      cases e2
      exact ⟨o, e, ex.2.1⟩
  | _ => exact False.elim ty
noncomputable def tBM0 (K : PySem.W.Frag) (T : String) (r : V → List V → Hp → VK → Prop) (to : TE) : TE := fun σ H Q => to σ H fun x H1 => tyV K T x H1 ∧ r x [] H1 Q
noncomputable def tBM (K : PySem.W.Frag) (T : String) (r : V → List V → Hp → VK → Prop) (to : TE) (t : TA) : TE := fun σ H Q => to σ H fun x H1 => tyV K T x H1 ∧ t σ H1 fun xs H2 => r x xs H2 Q
variable {o e : Expr} {es : List Expr} {to : TE} {t : TA} {name : Str} {apos cpos : Pos} {T id : String} {r : V → List V → Hp → VK → Prop}
theorem pe_bm0 (pa : PlainAttrs T) (slot : Slot T name id) (hty : typeOf (.builtin id) = pure (.type "method_descriptor")) (hm : MtR X id r) (ho : PE X o to)
    (hbase : attributeBase o name X.env (eval o X.env) = eval o X.env := by rfl) (hline : (apos.endLine == cpos.line) = true := by rfl) : PE X (.Call (.Attribute o name apos) [] [] cpos) (tBM0 X.K T r to) := by
  intro pins s σ H Q I h
  refine wpAny_Call_method0_late hbase hline (thn (ho pins s σ H _ I h) fun v s1 ⟨x, H1, I1, r1, ty, q1⟩ => ?_)
  obtain ⟨h1, h2⟩ := tyV_is I1 r1 ty
  exact ⟨T, id, pa, slot, hty, h1, h2, Calls.callWith_builtin rfl (PySem.evalArgs_none (hm pins s1 σ H1 x [] v [] Q I1 r1 .nil q1))⟩
theorem pe_bm (pa : PlainAttrs T) (slot : Slot T name id) (hty : typeOf (.builtin id) = pure (.type "method_descriptor")) (hm : MtR X id r) (ho : PE X o to) (ha : PA X (e :: es) t)
    (hbase : attributeBase o name X.env (eval o X.env) = eval o X.env := by rfl)
    (hfew : ((backTo cpos (starEach (e :: es) X.env)).all (fun x => !x.1) && (backToKw cpos (keywordEach [] X.env)).all (fun x => x.1.isSome)
      && decide ((e :: es).length + ([] : List Keyword).length + (if ([] : List Keyword).isEmpty then 0 else 1) < 30)) = true := by rfl)
    (hline : (apos.endLine == cpos.line) = true := by rfl) (hs : starEach (e :: es) X.env = (false, eval e X.env) :: starEach es X.env := by rfl) (hplain : (backTo cpos (starEach es X.env)).any (·.1) = false := by rfl) :
    PE X (.Call (.Attribute o name apos) (e :: es) [] cpos) (tBM X.K T r to t) := by
  intro pins s σ H Q I h
  refine wpAny_Call_method_late hbase hfew hline rfl (thn (ho pins s σ H _ I h) fun v s1 ⟨x, H1, I1, r1, ty, q1⟩ => ?_)
  obtain ⟨h1, h2⟩ := tyV_is I1 r1 ty
  refine ⟨T, id, pa, slot, hty, h1, h2, ?_⟩
  have hA := ha cpos pins s1 σ H1 _ I1 q1
  rw [hs] at hA ⊢
  refine Calls.callWith_builtin (by show (false || (backTo cpos (starEach es X.env)).any (·.1)) = false; rw [hplain] <;> rfl) (Calls.evalArgs_plain ?_)
  exact thn hA fun us s2 ⟨vs, H2, I2, r2, q2⟩ => hm pins s2 σ H2 x vs v us Q I2 r1 r2 q2
end
end L2
namespace L2
open PySem PySem.Spec PyProof.Rows
noncomputable def MtM (X : Cx) (id : String) (r : V → List V → Hp → VK → Prop) : Prop :=
  ∀ (pins : List (Addr × Obj)) (s : Shared) (σ : St) (H : Hp) (x : V) (xs : List V) (v : Value) (us : List Value) (Q : VK), Inv X pins σ H s → RelV x v → Vals xs us → r x xs H Q →
    wpAny (model X.prog X.w) X.A (call (.builtin id) (v :: us)) (EP X pins σ Q) X.xe s
theorem Vals.one : ∀ {x : V} {us : List Value}, Vals [x] us → ∃ u, us = [u] ∧ RelV x u
  | _, _, .cons r .nil => ⟨_, rfl, r⟩
theorem Vals.zero : ∀ {us : List Value}, Vals [] us → us = []
  | _, .nil => rfl
theorem Vals.dropLast {xs : List V} {us : List Value} (h : Vals xs us) : Vals xs.dropLast us.dropLast := by
  induction h with
  | nil => exact .nil
  | cons r t ih =>
    cases t with
    | nil => exact .nil
    | cons q t' => exact .cons r ih
theorem Vals.eraseIdx : ∀ {xs : List V} {us : List Value} (i : Nat), Vals xs us → Vals (xs.eraseIdx i) (us.eraseIdx i)
  | _, _, _, .nil => .nil
  | _, _, 0, .cons _ t => t
  | _, _, i + 1, .cons r t => .cons r (Vals.eraseIdx i t)
theorem Vals.reverse {xs : List V} {us : List Value} (h : Vals xs us) : Vals xs.reverse us.reverse := by
  induction h with
  | nil => exact .nil
  | cons r t ih => rw [List.reverse_cons, List.reverse_cons]; exact Vals.append ih (.cons r .nil)
theorem Vals.rep {xs : List V} {us : List Value} (h : Vals xs us) : ∀ k : Nat, Vals (List.replicate k xs).flatten (List.replicate k us).flatten
  | 0 => .nil
  | k + 1 => by
    rw [List.replicate_succ, List.replicate_succ, List.flatten_cons, List.flatten_cons]
    exact Vals.append h (Vals.rep h k)
theorem erase_last {α : Type} (l : List α) : l.eraseIdx (l.length - 1) = l.dropLast := by
  induction l with
  | nil => rfl
  | cons a r ih =>
    cases r with
    | nil => rfl
    | cons b r =>
      have e : (a :: b :: r).length - 1 = ((b :: r).length - 1) + 1 := by
        have h1 : (a :: b :: r).length = r.length + 2 := rfl
        have h2 : (b :: r).length = r.length + 1 := rfl
        omega
      rw [e, List.eraseIdx_cons_succ, ih]
      all_goals rfl
theorem foldl_rep (its : List Value) : ∀ (k : Nat) (acc : List Value),
    List.foldl (fun x1 x2 => x1 ++ x2) acc.toArray (List.replicate k its.toArray) = (acc ++ (List.replicate k its).flatten).toArray
  | 0, acc => by simp
  | k + 1, acc => by
    have e : acc.toArray ++ its.toArray = (acc ++ its).toArray := by simp
    have e2 : (acc ++ its) ++ (List.replicate k its).flatten = acc ++ (List.replicate (k + 1) its).flatten := by
      rw [List.replicate_succ, List.flatten_cons, List.append_assoc]
    rw [← e2, ← foldl_rep its k (acc ++ its), ← e, List.replicate_succ, List.foldl_cons]
section
variable {X : Cx} {pins : List (Addr × Obj)} {σ : St} {H : Hp} {s : Shared} {l b : Addr} {xs ys zs : List V}
theorem Inv.lset {its its' : List Value} {n : Nat} {f : Array Value → Array Value} {t' : Nat} (I : Inv X pins σ H s) (hH : H l = some (.lst xs))
    (e : s.heap.get? l = some { cls := .type "list", data := .seq its.toArray n }) (hf : f its.toArray = its'.toArray) (hv : Vals ys its') (hz : ys.length ≤ sizeLine) :
    Inv X pins σ (upd H l (.lst ys)) { s with heap := s.heap.update l (Obj.mapSeq f), toks := t' } := by
  have q := PySem.IsL.update e f
  rw [hf] at q
  refine I.write (x := l) (e := l) (by rw [hH]; exact trivial) (.inl rfl) (fun b' u hb hu => (Heap.get?_update_other s.heap (Obj.mapSeq f) (Ne.symm hb)).trans hu) ⟨_, q⟩ ?_
  exact ⟨hz, its', _, hv, q⟩
theorem Inv.lnew {its : List Value} {t' : Nat} (I : Inv X pins σ H s) (hv : Vals ys its) (hz : ys.length ≤ sizeLine) :
    Inv X pins σ (upd H s.heap.objs.size (.lst ys)) { s with heap := s.heap.push { cls := .type "list", data := .seq its.toArray }, toks := t' } :=
  I.laid (fun _ _ q => Heap.get?_push_of_some _ q) (Nat.le_refl _) ⟨hz, its, 0, hv, Heap.get?_push_size _ rfl⟩
theorem Inv.fresh (I : Inv X pins σ H s) : H s.heap.objs.size = none := I.hok.fresh (Nat.le_refl _)
theorem Inv.lstM (I : Inv X pins σ H s) (hH : H l = some (.lst xs)) : xs.length ≤ sizeLine ∧ ∃ (its : List Value) (n : Nat), Vals xs its ∧ xs.length = its.length ∧ s.heap.get? l = some { cls := .type "list", data := .seq its.toArray n } := by
  obtain ⟨z, its, n, r, e⟩ := I.hok l _ hH
  exact ⟨z, its, n, r, r.length, e⟩
theorem notLongL {n : Nat} (h : n ≤ sizeLine) : Builtin.List.listTooLong n = false := by
  unfold Builtin.List.listTooLong
  exact decide_eq_false (by omega)
end
section
variable {X : Cx}
noncomputable def rAppend : V → List V → Hp → VK → Prop := fun x vs H Q => ∃ l xs y, x = .ref l ∧ vs = [y] ∧ H l = some (.lst xs) ∧ xs.length < sizeLine ∧ Q .non (upd H l (.lst (xs ++ [y])))
theorem mt_append : MtM X "list.append" rAppend := by
  intro pins s σ H x vs v us Q I rx rv h
  obtain ⟨l, xs, y, rfl, rfl, hH, hz, q⟩ := h
  cases rx
  obtain ⟨u, rfl, ru⟩ := rv.one
  obtain ⟨z, its, n, r, hl, e⟩ := I.lstM hH
  refine call_meets F.slot_list_append ⟨_, e, rfl⟩ F.entry_list_append (F.args_list_append_2 _ _) (PySem.list_append l its.toArray n u (by rw [List.size_toArray]; omega)) ⟨e, ?_⟩
  refine ⟨.non, _, I.lset (its' := its ++ [u]) hH e (by simp) (r.append (.cons ru .nil)) ?_, rfl, q⟩
  rw [List.length_append, List.length_singleton]
  omega
noncomputable def rExtend : V → List V → Hp → VK → Prop := fun x vs H Q => ∃ l b xs zs, x = .ref l ∧ vs = [.ref b] ∧ H l = some (.lst xs) ∧ H b = some (.lst zs) ∧ xs.length + zs.length ≤ sizeLine ∧ Q .non (upd H l (.lst (xs ++ zs)))
theorem mt_extend : MtM X "list.extend" rExtend := by
  intro pins s σ H x vs v us Q I rx rv h
  obtain ⟨l, b, xs, zs, rfl, rfl, hH, hB, hz, q⟩ := h
  cases rx
  obtain ⟨u, rfl, ru⟩ := rv.one
  cases ru
  obtain ⟨z, its, n, r, hl, e⟩ := I.lstM hH
  obtain ⟨z2, its2, n2, r2, hl2, e2⟩ := I.lstM hB
  have hsz : its.toArray.size + its2.toArray.size ≤ sizeLine := by rw [List.size_toArray, List.size_toArray]; omega
  have hlong : ¬ (!its.toArray.isEmpty && Builtin.List.listTooLong (its.toArray.size + its2.toArray.size)) = true := by
    rw [notLongL hsz, Bool.and_false]
    exact Bool.false_ne_true
  refine call_meets F.slot_list_extend ⟨_, e, rfl⟩ F.entry_list_extend (F.args_list_extend_2 _ _)
    (AutoSeq1.list_extend_list_list_0 l its.toArray n b its2.toArray n2 hlong (by rw [List.size_toArray]; omega) (by omega)) ⟨e, e2, ?_⟩
  refine ⟨.non, _, I.lset (its' := its ++ its2) hH e (by simp) (r.append r2) ?_, rfl, q⟩
  rw [List.length_append]
  omega
noncomputable def rPop : V → List V → Hp → VK → Prop := fun x vs H Q => ∃ l xs y, x = .ref l ∧ vs = [] ∧ H l = some (.lst xs) ∧ xs[xs.length - 1]? = some y ∧ Q y (upd H l (.lst xs.dropLast))
theorem mt_pop : MtM X "list.pop" rPop := by
  intro pins s σ H x vs v us Q I rx rv h
  obtain ⟨l, xs, y, rfl, rfl, hH, hy, q⟩ := h
  cases rx
  have hus := rv.zero
  subst hus
  obtain ⟨z, its, n, r, hl, e⟩ := I.lstM hH
  obtain ⟨u, hu, ru⟩ := r.get hy
  have hy' : its.toArray[its.toArray.size - 1]? = some u := by
    show its.toArray[its.length - 1]? = some u
    rw [← Array.getElem?_toList, ← hl]
    exact hu
  refine call_meets F.slot_list_pop ⟨_, e, rfl⟩ F.entry_list_pop (F.args_list_pop_1 _) (MeetsSeq.list_pop_last l its.toArray n u hy' (by rw [List.size_toArray]; omega)) ⟨e, ?_⟩
  refine ⟨y, _, I.lset (its' := its.dropLast) hH e ?_ r.dropLast ?_, ru, q⟩
  · show its.toArray.eraseIdxIfInBounds (its.toArray.size - 1) = its.dropLast.toArray
    rw [List.size_toArray, List.eraseIdxIfInBounds_toArray, erase_last]
  · rw [List.length_dropLast]
    omega
noncomputable def rClear : V → List V → Hp → VK → Prop := fun x vs H Q => ∃ l xs, x = .ref l ∧ vs = [] ∧ H l = some (.lst xs) ∧ Q .non (upd H l (.lst []))
theorem mt_clear : MtM X "list.clear" rClear := by
  intro pins s σ H x vs v us Q I rx rv h
  obtain ⟨l, xs, rfl, rfl, hH, q⟩ := h
  cases rx
  have hus := rv.zero
  subst hus
  obtain ⟨z, its, n, r, hl, e⟩ := I.lstM hH
  refine call_meets F.slot_list_clear ⟨_, e, rfl⟩ F.entry_list_clear (F.args_list_clear_1 _) (AutoSeq1.list_clear_list_0 l its.toArray n (by rw [List.size_toArray]; omega)) ⟨e, ?_⟩
  exact ⟨.non, _, I.lset (its' := []) (ys := []) hH e rfl .nil (Nat.zero_le _), rfl, q⟩
noncomputable def rCat : R2 := fun x y H Q => ∃ l b xs zs, x = .ref l ∧ y = .ref b ∧ H l = some (.lst xs) ∧ H b = some (.lst zs) ∧ xs.length + zs.length ≤ sizeLine ∧ ∀ p, H p = none → Q (.ref p) (upd H p (.lst (xs ++ zs)))
theorem op_cat : OpR X (binaryOp .Add) rCat := by
  intro pins s σ H x y v u Q I rx ry h
  obtain ⟨l, b, xs, zs, rfl, rfl, hH, hB, hz, q⟩ := h
  cases rx
  cases ry
  obtain ⟨z, its, n, r, hl, e⟩ := I.lstM hH
  obtain ⟨z2, its2, n2, r2, hl2, e2⟩ := I.lstM hB
  refine PySem.P.add_list e e2 ?_ (by rw [List.size_toArray, List.size_toArray]; omega)
  have ea : its.toArray ++ its2.toArray = (its ++ its2).toArray := by simp
  rw [ea]
  exact ⟨.ref _, _, I.lnew (t' := s.toks) (r.append r2) (by rw [List.length_append]; omega), rfl, q _ I.fresh⟩
noncomputable def rRep : R2 := fun x y H Q => ∃ l k xs, x = .ref l ∧ y = .int k ∧ H l = some (.lst xs) ∧ -(2 ^ 63) ≤ k ∧ k < 2 ^ 63 ∧ xs.length * k.toNat ≤ sizeLine ∧
  ∀ p, H p = none → Q (.ref p) (upd H p (.lst (List.replicate k.toNat xs).flatten))
theorem len_rep {α : Type} (xs : List α) (k : Nat) : (List.replicate k xs).flatten.length = k * xs.length := by
  induction k with
  | zero => simp
  | succ k ih => rw [List.replicate_succ, List.flatten_cons, List.length_append, ih, Nat.succ_mul, Nat.add_comm]
theorem op_rep : OpR X (binaryOp .Mult) rRep := by
  intro pins s σ H x y v u Q I rx ry h
  obtain ⟨l, k, xs, rfl, rfl, hH, h1, h2, hz, q⟩ := h
  cases rx
  obtain ⟨t, rfl⟩ := ry
  obtain ⟨z, its, n, r, hl, e⟩ := I.lstM hH
  have hlen : its.toArray.size * k.toNat ≤ sizeLine := by rw [List.size_toArray, ← hl]; exact hz
  have hcap : ¬ its.toArray.size * k.toNat > (2 ^ 63 - 1) / 8 := by
    have : (sizeLine : Nat) ≤ (2 ^ 63 - 1) / 8 := by decide
    omega
  have hfit : ¬ (!Builtin.List.listFitsIndex k) = true := by
    rw [fitsIndex_both h1 h2]
    exact Bool.false_ne_true
  have hlong : ¬ Builtin.List.listTooLong (its.toArray.size * k.toNat) = true := by
    rw [notLongL hlen]
    exact Bool.false_ne_true
  have hnew : List.foldl (fun x1 x2 => x1 ++ x2) #[] (List.replicate (if its.toArray.isEmpty = true then 0 else k.toNat) its.toArray) = (List.replicate k.toNat its).flatten.toArray := by
    have f0 : ∀ m : Nat, List.foldl (fun x1 x2 => x1 ++ x2) #[] (List.replicate m its.toArray) = (List.replicate m its).flatten.toArray := fun m => by
      have := foldl_rep its m []
      rw [List.nil_append] at this
      exact this
    rw [f0]
    cases its with
    | nil => simp
    | cons a r' => rw [if_neg (by simp)]
  refine wpAny_binaryOp_repeat_ref (T := "list") (U := "int") (by decide) ⟨_, e, rfl⟩ (fun s' => typeIs_int s' k t) noFill_list_mul F.fills_int_mul F.slot_int_rmul repeat_list F.slot_int_index.lookup
    (call_meets F.slot_int_rmul (typeIs_int s k t) F.entry_int_rmul (F.args_int_rmul_2 _ _) (int___rmul___int_list k t l its.toArray n)
      ⟨e, rfl, ⟨_, e, rfl⟩, call_meets F.slot_list_mul ⟨_, e, rfl⟩ F.entry_list_mul (F.args_list_mul_2 _ _) (AutoListH.list___mul___list_int_3 l its.toArray n k t hfit hcap hlong) ⟨e, ?_⟩⟩)
  rw [hnew]
  exact ⟨.ref _, _, I.lnew (t' := s.toks) (r.rep k.toNat) (by rw [len_rep, Nat.mul_comm]; exact hz), rfl, q _ I.fresh⟩
end
section
variable {prog : Program} {w : World} {A : Around} {E : Value → Shared → Prop} {s : Shared}
end
section
variable {X : Cx}
end
end L2
namespace L2
open PySem PySem.Spec PyProof.Rows
section
variable {κ : Type} [DecidableEq κ]
noncomputable def valV (kvs : List (κ × V)) (k : κ) : Option V := (kvs.find? fun kv => decide (kv.1 = k)).map (·.2)
noncomputable def putK (kvs : List (κ × V)) (k : κ) (v : V) : List (κ × V) :=
  if (kvs.any fun kv => decide (kv.1 = k)) = true then kvs.map (fun kv => if kv.1 = k then (kv.1, v) else kv) else kvs ++ [(k, v)]
noncomputable def dropK (kvs : List (κ × V)) (k : κ) : List (κ × V) := kvs.filter fun kv => decide (kv.1 ≠ k)
theorem valV_pos {p : κ × V} {r : List (κ × V)} {k : κ} (e : p.1 = k) : valV (p :: r) k = some p.2 := by simp [valV, List.find?_cons, e]
theorem valV_neg {p : κ × V} {r : List (κ × V)} {k : κ} (e : ¬ p.1 = k) : valV (p :: r) k = valV r k := by simp [valV, List.find?_cons, e]
theorem valV_any (k : κ) : ∀ kvs : List (κ × V), (kvs.any fun kv => decide (kv.1 = k)) = (valV kvs k).isSome
  | [] => rfl
  | p :: r => by
    rw [List.any_cons]
    by_cases e : p.1 = k
    · simp only [valV_pos e, decide_eq_true e, Bool.true_or, Option.isSome_some]
    · rw [valV_neg e, decide_eq_false e, Bool.false_or]; exact valV_any k r
theorem length_putK (kvs : List (κ × V)) (k : κ) (v : V) : (putK kvs k v).length ≤ kvs.length + 1 := by
  unfold putK
  split
  · rw [List.length_map]; omega
  · rw [List.length_append, List.length_cons, List.length_nil]; omega
theorem putK_new {kvs : List (κ × V)} {k : κ} (v : V) (h : valV kvs k = none) : putK kvs k v = kvs ++ [(k, v)] := by
  unfold putK
  rw [valV_any, h]
  exact if_neg (by decide)
theorem RelO.isSome_eq {o : Option V} {u : Option Value} (r : RelO o u) : o.isSome = u.isSome := by
  cases o with
  | none => cases u with
    | none => rfl
    | some _ => exact (show False from r).elim
  | some _ => cases u with
    | none => exact (show False from r).elim
    | some _ => rfl
theorem RelO.getD {o : Option V} {u : Option Value} {d : V} {d' : Value} (r : RelO o u) (rd : RelV d d') : RelV (o.getD d) (u.getD d') := by
  cases o with
  | none => cases u with
    | none => exact rd
    | some _ => exact (show False from r).elim
  | some _ => cases u with
    | none => exact (show False from r).elim
    | some _ => exact r
theorem KV.val {kvs : List (κ × V)} {vs : List (κ × Value)} (r : KV kvs vs) (k : κ) : RelO (valV kvs k) (valueAt vs k) := by
  unfold KV at r
  induction r with
  | nil => exact True.intro
  | @cons p q ps qs h t ih =>
    obtain ⟨h1, h2⟩ := h
    by_cases e : p.1 = k
    · have e' : q.1 = k := h1.symm.trans e
      have b : valueAt (q :: qs) k = some q.2 := by simp [valueAt, List.find?_cons, e']
      rw [valV_pos e, b]; exact h2
    · have e' : ¬ q.1 = k := fun z => e (h1.trans z)
      have b : valueAt (q :: qs) k = valueAt qs k := by simp [valueAt, List.find?_cons, e']
      rw [valV_neg e, b]; exact ih
theorem KV.any {kvs : List (κ × V)} {vs : List (κ × Value)} (r : KV kvs vs) (k : κ) : (kvs.any fun kv => decide (kv.1 = k)) = vs.any fun kv => decide (kv.1 = k) := by
  unfold KV at r
  induction r with
  | nil => rfl
  | cons h t ih => rw [List.any_cons, List.any_cons, ih, h.1]
theorem KV.repl {kvs : List (κ × V)} {vs : List (κ × Value)} (r : KV kvs vs) (k : κ) {y : V} {u : Value} (ry : RelV y u) :
    KV (kvs.map fun kv => if kv.1 = k then (kv.1, y) else kv) (vs.map fun kv => if kv.1 = k then (kv.1, u) else kv) := by
  unfold KV at r ⊢
  induction r with
  | nil => exact .nil
  | @cons p q ps qs h t ih =>
    rw [List.map_cons, List.map_cons]
    refine .cons ?_ ih
    obtain ⟨h1, h2⟩ := h
    by_cases e : p.1 = k
    · rw [if_pos e, if_pos (h1.symm.trans e)]; exact ⟨h1, ry⟩
    · rw [if_neg e, if_neg (fun z => e (h1.trans z))]; exact ⟨h1, h2⟩
theorem KV.put {kvs : List (κ × V)} {vs : List (κ × Value)} (r : KV kvs vs) (k : κ) {y : V} {u : Value} (ry : RelV y u) : KV (putK kvs k y) (stored vs k u) := by
  unfold putK stored
  rw [r.any k]
  by_cases e : (vs.any fun kv => decide (kv.1 = k)) = true
  · rw [if_pos e, if_pos e]; exact r.repl k ry
  · rw [if_neg e, if_neg e]; exact Paired.snoc r ⟨rfl, ry⟩
theorem KV.drop {kvs : List (κ × V)} {vs : List (κ × Value)} (r : KV kvs vs) (k : κ) : KV (dropK kvs k) (without vs k) := by
  unfold KV at r ⊢
  unfold dropK without
  induction r with
  | nil => exact .nil
  | @cons p q ps qs h t ih =>
    obtain ⟨h1, h2⟩ := h
    rw [List.filter_cons, List.filter_cons]
    by_cases e : p.1 = k
    · have a : ¬ decide (p.1 ≠ k) = true := by simp [e]
      have b : ¬ decide (q.1 ≠ k) = true := by simp [h1.symm.trans e]
      rw [if_neg a, if_neg b]; exact ih
    · have e' : ¬ q.1 = k := fun z => e (h1.trans z)
      have a : decide (p.1 ≠ k) = true := by simp [e]
      have b : decide (q.1 ≠ k) = true := by simp [e']
      rw [if_pos a, if_pos b]; exact .cons ⟨h1, h2⟩ ih
theorem KV.keys {kvs : List (κ × V)} {vs : List (κ × Value)} (r : KV kvs vs) : kvs.map (·.1) = vs.map (·.1) := by
  unfold KV at r
  induction r with
  | nil => rfl
  | cons h t ih => rw [List.map_cons, List.map_cons, ih, h.1]
theorem KV.length {kvs : List (κ × V)} {vs : List (κ × Value)} (r : KV kvs vs) : kvs.length = vs.length := Paired.length r
end
theorem kV_is {P : Program} {w : World} {k : Key} {u : Value} (r : RelV (kV k) u) : (mixKind P w).is k u = true := by
  cases k with
  | inl i => obtain ⟨t, e⟩ := (show ∃ t, u = Value.int i t from r); subst e; exact mixKind_int P w i t
  | inr x => obtain ⟨t, e⟩ := (show ∃ t, u = Value.str x t from r); subst e; exact mixKind_str P w x t
theorem items_are {P : Program} {w : World} : ∀ {ks : List Key} {us : List Value}, Vals (ks.map kV) us → ItemsAre (mixKind P w) ks us
  | [], _, r => by rw [List.map_nil] at r; cases r; exact .nil
  | k :: ks, _, r => by
    rw [List.map_cons] at r
    cases r with
    | cons h t => exact .cons (kV_is h) (items_are t)
noncomputable abbrev KT (H : Hp) : List (List Key × V) → List (List Key × Addr × Value) → Prop := Paired fun p q => p.1 = q.1 ∧ H q.2.1 = some (.tup (p.1.map kV)) ∧ RelV p.2 q.2.2
theorem KT.val {H : Hp} {kvs : List (List Key × V)} {xs : List (List Key × Addr × Value)} (r : KT H kvs xs) (k : List Key) : RelO (valV kvs k) ((atKey xs k).map (·.2)) := by
  induction r with
  | nil => exact True.intro
  | @cons p q ps qs h t ih =>
    obtain ⟨h1, _, h2⟩ := h
    by_cases e : p.1 = k
    · have e' : q.1 = k := h1.symm.trans e
      have b : atKey (q :: qs) k = some q.2 := by simp [atKey, List.find?_cons, e']
      rw [valV_pos e, b]; exact h2
    · have e' : ¬ q.1 = k := fun z => e (h1.trans z)
      have b : atKey (q :: qs) k = atKey qs k := by simp [atKey, List.find?_cons, e']
      rw [valV_neg e, b]; exact ih
theorem KT.repl {H : Hp} {kvs : List (List Key × V)} {xs : List (List Key × Addr × Value)} (r : KT H kvs xs) (k : List Key) {y : V} {u : Value} (ry : RelV y u) :
    KT H (kvs.map fun kv => if kv.1 = k then (kv.1, y) else kv) (xs.map (putAt k u)) := by
  induction r with
  | nil => exact .nil
  | @cons p q ps qs h t ih =>
    rw [List.map_cons, List.map_cons]
    refine .cons ?_ ih
    obtain ⟨h1, h2, h3⟩ := h
    unfold putAt
    by_cases e : p.1 = k
    · rw [if_pos e, if_pos (h1.symm.trans e)]; exact ⟨h1, h2, ry⟩
    · rw [if_neg e, if_neg (fun z => e (h1.trans z))]; exact ⟨h1, h2, h3⟩
theorem KT.put {H : Hp} {kvs : List (List Key × V)} {xs : List (List Key × Addr × Value)} (r : KT H kvs xs) (k : List Key) {b : Addr} {y : V} {u : Value} (hb : H b = some (.tup (k.map kV))) (ry : RelV y u) :
    KT H (putK kvs k y) (storedH xs k b u) := by
  have e : (kvs.any fun kv => decide (kv.1 = k)) = (atKey xs k).isSome := by
    rw [valV_any, (r.val k).isSome_eq, Option.isSome_map]
  unfold putK storedH
  rw [e]
  by_cases q : (atKey xs k).isSome = true
  · rw [if_pos q, if_pos q]; exact r.repl k ry
  · rw [if_neg q, if_neg q]; exact Paired.snoc r ⟨rfl, hb, ry⟩
theorem KT.keeps {H H' : Hp} {kvs : List (List Key × V)} {xs : List (List Key × Addr × Value)} (r : KT H kvs xs) (ht : ∀ b ys, H b = some (.tup ys) → H' b = some (.tup ys)) : KT H' kvs xs :=
  Paired.mapP r fun _ _ z => ⟨z.1, ht _ _ z.2.1, z.2.2⟩
section
variable {P : Program} {w : World} {H : Hp} {h : Heap} {a : Addr}
theorem rd_of {u : HO} (ok : HOk P w H h) (e : Rd H a u) : ObjOk P w H h a u := e.ok ok
theorem dk_rd {kvs : List (Key × V)} (ok : HOk P w H h) (e : Rd H a (.dK kvs)) : kvs.length ≤ sizeLine ∧ (a == sysModules) = false ∧ ∃ vs, KV kvs vs ∧ h.DictOf (mixKind P w) a vs :=
  show ObjOk P w H h a (.dK kvs) from rd_of ok e
theorem dk_of {kvs : List (Key × V)} (ok : HOk P w H h) (e : H a = some (.dK kvs)) : kvs.length ≤ sizeLine ∧ (a == sysModules) = false ∧ ∃ vs, KV kvs vs ∧ h.DictOf (mixKind P w) a vs := dk_rd ok (.inl e)
theorem key_of {ks : List Key} (ok : HOk P w H h) (e : H a = some (.tup (ks.map kV))) : (tupleKind (mixKind P w)).is h ks a := by
  obtain ⟨_, its, r, o, h1, h2, n, h3⟩ := (show ObjOk P w H h a (.tup (ks.map kV)) from ok a _ e)
  exact ⟨o, its.toArray, n, h1, h2, h3, by simpa using items_are r⟩
theorem dt_rd {kvs : List (List Key × V)} (ok : HOk P w H h) (e : Rd H a (.dT kvs)) : kvs.length ≤ sizeLine ∧ (a == sysModules) = false ∧
    ∃ xs, KT H kvs xs ∧ h.DictOfH (tupleKind (mixKind P w)) a xs := by
  obtain ⟨z, y, xs, r, o, es, ep, h1, h2, h3, h4, h5⟩ := (show ObjOk P w H h a (.dT kvs) from rd_of ok e)
  refine ⟨z, y, xs, r, o, es, ep, h1, h2, h3, h4, fun x hx => ?_, h5⟩
  have all : ∀ {l : List (List Key × V)} {m : List (List Key × Addr × Value)}, KT H l m → ∀ x ∈ m, (tupleKind (mixKind P w)).is h x.1 x.2.1 := by
    intro l m q
    induction q with
    | nil => intro x hx; exact nomatch hx
    | @cons p q ps qs hq t ih =>
      intro x hx
      rcases List.mem_cons.mp hx with e | hx
      · subst e
        exact key_of ok (by rw [← hq.1]; exact hq.2.1)
      · exact ih x hx
  exact all r x hx
theorem dt_of {kvs : List (List Key × V)} (ok : HOk P w H h) (e : H a = some (.dT kvs)) : kvs.length ≤ sizeLine ∧ (a == sysModules) = false ∧
    ∃ xs, KT H kvs xs ∧ h.DictOfH (tupleKind (mixKind P w)) a xs := dt_rd ok (.inl e)
end
noncomputable def DGet (H : Hp) (a : Addr) (y : V) (r : Option V) : Prop :=
  (∃ kvs k, Rd H a (.dK kvs) ∧ y = kV k ∧ r = valV kvs k) ∨ ∃ kvs k b, Rd H a (.dT kvs) ∧ y = .ref b ∧ H b = some (.tup (k.map kV)) ∧ r = valV kvs k
noncomputable def DPut (H : Hp) (a : Addr) (y v : V) (H' : Hp) : Prop :=
  (∃ kvs k, H a = some (.dK kvs) ∧ y = kV k ∧ kvs.length < sizeLine ∧ H' = upd H a (.dK (putK kvs k v))) ∨
  ∃ kvs k b, H a = some (.dT kvs) ∧ y = .ref b ∧ H b = some (.tup (k.map kV)) ∧ kvs.length < sizeLine ∧ H' = upd H a (.dT (putK kvs k v))
theorem DGet.k {H : Hp} {a : Addr} {kvs : List (Key × V)} {k : Key} (e : H a = some (.dK kvs)) : DGet H a (kV k) (valV kvs k) := .inl ⟨kvs, k, .inl e, rfl, rfl⟩
theorem DGet.t {H : Hp} {a b : Addr} {kvs : List (List Key × V)} {k : List Key} (e : H a = some (.dT kvs)) (eb : H b = some (.tup (k.map kV))) : DGet H a (.ref b) (valV kvs k) := .inr ⟨kvs, k, b, .inl e, rfl, eb, rfl⟩
theorem DPut.k {H : Hp} {a : Addr} {kvs : List (Key × V)} {k : Key} {v : V} (e : H a = some (.dK kvs)) (hl : kvs.length < sizeLine) : DPut H a (kV k) v (upd H a (.dK (putK kvs k v))) := .inl ⟨kvs, k, e, rfl, hl, rfl⟩
theorem DPut.t {H : Hp} {a b : Addr} {kvs : List (List Key × V)} {k : List Key} {v : V} (e : H a = some (.dT kvs)) (eb : H b = some (.tup (k.map kV))) (hl : kvs.length < sizeLine) :
    DPut H a (.ref b) v (upd H a (.dT (putK kvs k v))) := .inr ⟨kvs, k, b, e, rfl, eb, hl, rfl⟩
section
variable {X : Cx} {pins : List (Addr × Obj)} {σ : St} {H : Hp} {s : Shared} {a : Addr} {y v : V} {u r : Value} {o : Option V} {A : Around} {E : Value → Shared → Prop}
theorem Inv.big (I : Inv X pins σ H s) : sysModules < s.heap.objs.size := by
  have h : mainGlobals < s.heap.objs.size := (I.mod.glob.keeps I.bk).lt
  exact Nat.lt_trans (by decide) h
theorem d_getItem {Q : Value → Shared → Prop} (hu : A.units + 1 < cLine) (I : Inv X pins σ H s) (g : DGet H a y (some v)) (ry : RelV y u) (h : ∀ w' s', Inv X pins σ H s' → RelV v w' → Q w' s') :
    wpAny (model X.prog X.w) A (getItem (.ref a) u) Q E s := by
  rcases g with ⟨kvs, k, e, ey, l⟩ | ⟨kvs, k, b, e, ey, eb, l⟩
  · subst ey
    obtain ⟨z, hd, vs, rel, dd⟩ := dk_rd I.hok e
    obtain ⟨w', hw, rw'⟩ := RelO.some_of (v := v) (o := valueAt vs k) (by rw [l]; exact rel.val k)
    exact wpAny_getItem_of (kV_is ry) dd.mapOf hw (h w' _ (I.tok _) rw')
  · subst ey
    cases (show u = Value.ref b from ry)
    obtain ⟨z, hd, xs, rel, dd⟩ := dt_rd I.hok e
    obtain ⟨w', hw, rw'⟩ := RelO.some_of (v := v) (o := (atKey xs k).map (·.2)) (by rw [l]; exact rel.val k)
    obtain ⟨p, hp, hp2⟩ := Option.map_eq_some_iff.mp hw
    refine wpAny_getItem_heap (tupleKind_room_in1 hu) (key_of I.hok eb) dd hp ?_
    rw [hp2]
    exact h w' _ (I.tok _) rw'
theorem d_write {h' : Heap} {t' : Nat} {ob : HO} (I : Inv X pins σ H s) (mu : Mut (H a)) (hs : Heap.SameBut a s.heap h') (he : ∃ q, h'.get? a = some q) (new : ObjOk X.prog X.w (upd H a ob) h' a ob) :
    Inv X pins σ (upd H a ob) { s with heap := h', toks := t' } :=
  I.write (x := a) (e := a) mu (.inl rfl) (fun b q hb z => (hs.2 b hb).trans z) he new
theorem dk_new {P : Program} {w : World} {H' : Hp} {h' : Heap} {kvs : List (Key × V)} {vs : List (Key × Value)} (z : kvs.length ≤ sizeLine) (hd : (a == sysModules) = false) (rel : KV kvs vs) (dd : h'.DictOf (mixKind P w) a vs) :
    ObjOk P w H' h' a (.dK kvs) := ⟨z, hd, vs, rel, dd⟩
theorem d_setItem {H' : Hp} {Q : Unit → Shared → Prop} (hu : A.units + 1 < cLine) (I : Inv X pins σ H s) (g : DPut H a y v H') (ry : RelV y u) (rv : RelV v r) (h : ∀ s', Inv X pins σ H' s' → Q () s') :
    wpAny (model X.prog X.w) A (setItem (.ref a) u r) Q E s := by
  rcases g with ⟨kvs, k, e, ey, l, eH⟩ | ⟨kvs, k, b, e, ey, eb, l, eH⟩
  · subst ey eH
    obtain ⟨z, hd, vs, rel, dd⟩ := dk_of I.hok e
    have hz : vs.length ≤ sizeLine := by rw [← rel.length]; exact z
    have hl : (putK kvs k v).length ≤ sizeLine := by have := length_putK kvs k v; omega
    refine wpAny_setItem_pairs (hsz := hz) (kV_is ry) dd fun h' dd' hs => h _ ?_
    have he : ∃ q, h'.get? a = some q := let ⟨q, _, _, hq, _⟩ := dd'; ⟨q, hq⟩
    exact d_write I (by rw [e]; exact True.intro) hs he (dk_new hl hd (rel.put k rv) dd')
  · subst ey eH
    cases (show u = Value.ref b from ry)
    obtain ⟨z, hd, xs, rel, dd⟩ := dt_of I.hok e
    have hz : xs.length ≤ sizeLine := by rw [← Paired.length rel]; exact z
    have hl : (putK kvs k v).length ≤ sizeLine := by have := length_putK kvs k v; omega
    refine wpAny_setItem_heap (hsz := hz) (tupleKind_room_in1 hu) (key_of I.hok eb) dd fun h' dd' hs => h _ ?_
    obtain ⟨q, es, ep, hq, h2, h3, h4, _, h5⟩ := dd'
    refine d_write I (by rw [e]; exact True.intro) hs ⟨q, hq⟩ ⟨hl, hd, _, (rel.put k eb rv).keeps fun c ys ec => ?_, q, es, ep, hq, h2, h3, h4, h5⟩
    rw [upd_ne (ne_of ec e (fun z => nomatch z))]
    exact ec
end
section
variable {X : Cx} {pins : List (Addr × Obj)} {σ : St} {H : Hp} {s : Shared} {a : Addr} {kvs : List (Key × V)} {k : Key} {u : Value} {A : Around} {E : Value → Shared → Prop}
theorem d_len {Q : Value → Shared → Prop} (I : Inv X pins σ H s) (e : Rd H a (.dK kvs)) (h : ∀ t s', Inv X pins σ H s' → Q (.int kvs.length t) s') : wpAny (model X.prog X.w) A (call (.builtin "len") [.ref a]) Q E s := by
  obtain ⟨z, hd, vs, rel, dd⟩ := dk_rd I.hok e
  refine call_len_dict hd dd (by rw [← rel.length]; rw [sizeLine_eq] at z; omega) ?_
  rw [← rel.length]
  exact h _ _ (I.tok _)
end
noncomputable def NoSl (i : Expr) : Prop := ∀ ov iv, subscripted i false ov iv = operate [ov, iv] (getItem ov iv)
theorem subD_of {prog : Program} {w : World} {A : Around} {E : Value → Shared → Prop} {s : Shared} {env : Env} {value slice : Expr} {pos : Pos} {T id : String} {Q : Value → Shared → Prop}
    (hl : typeLookup (.type T) "__getitem__" = pure (some (.builtin id))) (hs : NoSl slice)
    (h : wpAny (model prog w) A (eval value env) (fun o s₁ => wpAny (model prog w) A (eval slice env) (fun i s₂ => s₂.TypeIs o T ∧ wpAny (model prog w) A (getItem o i) Q E s₂) E s₁) E s) :
    wpAny (model prog w) A (eval (.Subscript value slice pos) env) Q E s := by
  refine Subscript_ (wpAny_mono h (fun o s₁ h₁ => wpAny_mono h₁ (fun i s₂ h₂ => ?_) fun _ _ x => x) fun _ _ x => x)
  obtain ⟨hT, h₂⟩ := h₂
  unfold subscriptTail
  refine wpAny_bind ?_
  rw [getitemInPython_of_ne hT.not_modules]
  refine wpAny_bind (wpAny_specialOf hT hl ?_)
  have fin : wpAny (model prog w) A (subscripted slice false o i) (fun r s₃ => wpAny (model prog w) A (letTemporaryGo value o r >>= fun _ => pure r) Q E s₃) E s₂ := by
    rw [hs o i]
    exact wpAny_operating (wpAny_mono h₂ (fun r s₃ h₃ => wpAny_bind (wpAny_letTemporaryGo (wpAny_pure h₃))) fun _ _ x => x)
  first
    | exact wpAny_pure (wpAny_bind fin)
    | exact wpAny_bind (wpAny_pure (wpAny_bind fin))
    | exact wpAny_bind fin
theorem dict_typeIs {X : Cx} {pins : List (Addr × Obj)} {σ : St} {H : Hp} {s : Shared} {a : Addr} {y : V} {o : Option V} (I : Inv X pins σ H s) (g : DGet H a y o) : s.TypeIs (.ref a) "dict" := by
  rcases g with ⟨kvs, k, e, _, _⟩ | ⟨kvs, k, b, e, _, _, _⟩
  · obtain ⟨_, _, vs, _, dd⟩ := dk_rd I.hok e
    exact dd.typeIs
  · obtain ⟨_, _, xs, _, dd⟩ := dt_rd I.hok e
    exact dd.typeIs
noncomputable def tDGet (td ty : TE) : TE := fun σ H Q => td σ H fun x H1 => ty σ H1 fun y H2 => ∃ a v, x = .ref a ∧ DGet H2 a y (some v) ∧ Q v H2
noncomputable def sDPut (td ty tv : TE) : TS := fun D σ H => tv σ H fun v H1 => td σ H1 fun x H2 => ty σ H2 fun y H3 => ∃ a H4, x = .ref a ∧ DPut H3 a y v H4 ∧ D.nx σ H4
section
variable {X : Cx} {o i e value : Expr} {pos pos' tpos : Pos} {td ty tv : TE}
theorem pe_dget (hu : X.A.units + 1 < cLine) (ho : PE X o td) (hi : PE X i ty) (hs : NoSl i) : PE X (.Subscript o i pos) (tDGet td ty) := by
  intro pins s σ H Q I h
  refine subD_of PySem.F.slot_dict_getitem.lookup hs (thn (ho pins s σ H _ I h) fun u s1 ⟨x, H1, I1, rx, q1⟩ => thn (hi pins s1 σ H1 _ I1 q1) fun iv s2 ⟨y, H2, I2, ry, a, v, ex, g, q2⟩ => ?_)
  subst ex
  obtain rfl : u = Value.ref a := rx
  exact ⟨dict_typeIs I2 g, d_getItem hu I2 g ry fun w' s3 I3 rw' => ⟨v, H2, I3, rw', q2⟩⟩
theorem ps_dput (hu : X.A.units + 1 < cLine) (ho : PE X o td) (hi : PE X i ty) (hv : PE X value tv) (hs : swapsWith value (some (.Subscript o i pos')) pos.line X.env = pure false) :
    PS X (.Assign [.Subscript o i pos'] value pos) (sDPut td ty tv) := by
  intro pins s σ H D I h
  refine wpAny_Assign_Subscript (thn (hv pins s σ H _ I h) fun r s1 ⟨v, H1, I1, rv, q1⟩ => thn (ho pins s1 σ H1 _ I1 q1) fun u s2 ⟨x, H2, I2, rx, q2⟩ => thn (hi pins s2 σ H2 _ I2 q2) fun iv s3 ⟨y, H3, I3, ry, a, H4, ex, g, q3⟩ => ?_) hs
  subst ex
  obtain rfl : u = Value.ref a := rx
  exact d_setItem hu I3 g ry rv fun s4 I4 => ⟨σ, H4, I4, q3⟩
end
theorem dk_empty {P : Program} {w : World} {H : Hp} (h : Heap) (hb : sysModules < h.objs.size) : ObjOk P w H (h.push { cls := .type "dict", data := .dict #[] }) h.objs.size (.dK []) :=
  ⟨Nat.zero_le _, beq_eq_false_iff_ne.mpr (Ne.symm (Nat.ne_of_lt hb)), [], .nil, Heap.DictOf.new h⟩
noncomputable def tDNewK : TE := fun _ H Q => ∀ p, H p = none → Q (.ref p) (upd H p (.dK []))
section
variable {X : Cx} {pos : Pos}
theorem pe_dnewK : PE X (.Dict [] [] pos) tDNewK := fun pins s σ H Q I h =>
  wpAny_Dict_empty ⟨.ref s.heap.objs.size, _, I.laid (a := s.heap.objs.size) (o := .dK []) (t' := s.toks) (fun _ _ q => Heap.get?_push_of_some _ q) (Nat.le_refl _) (dk_empty s.heap I.big), rfl, h _ (I.hok.fresh (Nat.le_refl _))⟩
end
noncomputable def tPairs : List (TE × TE) → St → Hp → (List (V × V) → Hp → Prop) → Prop
  | [], _, H, Q => Q [] H
  | (tk, tv) :: r, σ, H, Q => tk σ H fun x H1 => tv σ H1 fun y H2 => tPairs r σ H2 fun ps H3 => Q ((x, y) :: ps) H3
noncomputable abbrev VV : List (V × V) → List (Value × Value) → Prop := Paired fun p q => RelV p.1 q.1 ∧ RelV p.2 q.2
noncomputable def PPs (X : Cx) (pos : Pos) (keys : List (Option Expr)) (values : List Expr) (trs : List (TE × TE)) : Prop :=
  ∀ (pins : List (Addr × Obj)) (s : Shared) (σ : St) (H : Hp) (Q : List (V × V) → Hp → Prop), Inv X pins σ H s → tPairs trs σ H Q →
    wpAny (model X.prog X.w) X.A (evalPairs (pairTrees keys values X.env pos)) (fun vs s' => ∃ ps H', Inv X pins σ H' s' ∧ VV ps vs ∧ Q ps H') X.xe s
theorem pps_nil {X : Cx} {pos : Pos} : PPs X pos [] [] [] := fun pins s σ H Q I h => pairTrees_nil_walk ⟨[], H, I, .nil, h⟩
theorem pps_cons {X : Cx} {pos : Pos} {k v : Expr} {ks : List (Option Expr)} {vs : List Expr} {tk tv : TE} {trs : List (TE × TE)} (hk : PE X k tk) (hv : PE X v tv) (hr : PPs X pos ks vs trs) :
    PPs X pos (some k :: ks) (v :: vs) ((tk, tv) :: trs) := fun pins s σ H Q I h =>
  pairTrees_cons_walk (thn (hk pins s σ H _ I h) fun u s1 ⟨x, H1, I1, rx, q1⟩ => thn (hv pins s1 σ H1 _ I1 q1) fun w2 s2 ⟨y, H2, I2, ry, q2⟩ =>
    thn (hr pins s2 σ H2 _ I2 q2) fun ws s3 ⟨ps, H3, I3, rel, q3⟩ => ⟨(x, y) :: ps, H3, I3, .cons ⟨rx, ry⟩ rel, q3⟩)
noncomputable def mergeK (kvs more : List (Key × V)) : List (Key × V) := more.foldl (fun acc kv => putK acc kv.1 kv.2) kvs
theorem KV.merge : ∀ {more : List (Key × V)} {rs : List (Key × Value)} {kvs : List (Key × V)} {vs : List (Key × Value)}, KV more rs → KV kvs vs → KV (mergeK kvs more) (merged vs rs) := by
  intro more rs kvs vs r
  unfold KV at r
  induction r generalizing kvs vs with
  | nil => intro q; exact q
  | @cons p q ps qs h t ih =>
    intro r0
    have e : KV (putK kvs p.1 p.2) (stored vs q.1 q.2) := by
      have := r0.put p.1 h.2
      rw [← h.1]; exact this
    exact ih e
theorem length_mergeK : ∀ (more kvs : List (Key × V)), (mergeK kvs more).length ≤ kvs.length + more.length
  | [], kvs => by show kvs.length ≤ kvs.length + 0; omega
  | p :: r, kvs => by
    have h1 := length_mergeK r (putK kvs p.1 p.2)
    have h2 := length_putK kvs p.1 p.2
    show (mergeK (putK kvs p.1 p.2) r).length ≤ _
    rw [List.length_cons]; omega
theorem carries_of {P : Program} {w : World} : ∀ {kvs : List (Key × V)} {ws : List (Value × Value)}, VV (kvs.map fun kv => (kV kv.1, kv.2)) ws → ∃ rs, Carries (mixKind P w) ws rs ∧ KV kvs rs
  | [], _, r => by rw [List.map_nil] at r; cases r; exact ⟨[], True.intro, .nil⟩
  | p :: kvs, _, r => by
    rw [List.map_cons] at r
    cases r with
    | @cons a b as bs h t =>
      obtain ⟨rs, c, q⟩ := carries_of (P := P) (w := w) t
      obtain ⟨b1, b2⟩ := b
      exact ⟨(p.1, b2) :: rs, ⟨kV_is h.1, rfl, c⟩, .cons ⟨rfl, h.2⟩ q⟩
noncomputable def tDisp (trs : List (TE × TE)) : TE := fun σ H Q => ∀ p, H p = none → tPairs trs σ (upd H p (.dK [])) fun ps H2 => H2 p = some (.dK []) ∧ ∃ kvs : List (Key × V), ps = kvs.map (fun kv => (kV kv.1, kv.2)) ∧ kvs.length ≤ 15 ∧ Q (.ref p) (upd H2 p (.dK (mergeK [] kvs)))
theorem pe_disp {X : Cx} {pos : Pos} {keys : List (Option Expr)} {values : List Expr} {trs : List (TE × TE)} (h : PPs X pos keys values trs) (hall : keys.all (·.isSome) = true) (hl : keys.length = values.length) (h0 : keys ≠ [])
    (h15 : keys.length ≤ 15) : PE X (.Dict keys values pos) (tDisp trs) := by
  intro pins s σ H Q I q
  have hn := I.hok.fresh (Nat.le_refl s.heap.objs.size)
  have I1 := I.laid (a := s.heap.objs.size) (o := .dK []) (h' := s.heap.push { cls := .type "dict", data := .dict #[] }) (t' := s.toks) (fun _ _ q => Heap.get?_push_of_some _ q) (Nat.le_refl _) (dk_empty s.heap I.big)
  refine wpAny_Dict_walk (knd := mixKind X.prog X.w) hall hl h0 h15 (thn (h pins _ σ _ _ I1 (q _ hn)) fun ws s2 ⟨ps, H2, I2, rel, e, kvs, ep, lk, q2⟩ => ?_)
  subst ep
  obtain ⟨rs, c, rk⟩ := carries_of (P := X.prog) (w := X.w) rel
  obtain ⟨z, hd, vs0, r0, dd⟩ := dk_of I2.hok e
  cases r0
  refine ⟨rs, c, dd, fun h' dd' hs => ⟨.ref s.heap.objs.size, _, ?_, rfl, q2⟩⟩
  have hz : (mergeK [] kvs).length ≤ sizeLine := by
    have h1 := length_mergeK kvs []
    rw [List.length_nil] at h1
    rw [sizeLine_eq]; omega
  have he : ∃ q, h'.get? s.heap.objs.size = some q := let ⟨q, _, _, hq, _⟩ := dd'; ⟨q, hq⟩
  exact d_write I2 (by rw [e]; exact True.intro) hs he (dk_new hz hd (rk.merge .nil) dd')
structure M1 (X : Cx) (o : Expr) (m : Str) (apos : Pos) (e : Expr) (cpos : Pos) : Prop where
  base : attributeBase o m X.env (eval o X.env) = eval o X.env
  few : ((backTo cpos (starEach [e] X.env)).all (fun x => !x.1) && (backToKw cpos (keywordEach [] X.env)).all (fun x => x.1.isSome)
    && decide (([e] : List Expr).length + ([] : List Keyword).length + (if ([] : List Keyword).isEmpty then 0 else 1) < 30)) = true
  line : (apos.endLine == cpos.line) = true
  trees : backTo cpos (starEach [e] X.env) = [(false, eval e X.env)]
structure M2 (X : Cx) (o : Expr) (m : Str) (apos : Pos) (e f : Expr) (cpos : Pos) : Prop where
  base : attributeBase o m X.env (eval o X.env) = eval o X.env
  few : ((backTo cpos (starEach [e, f] X.env)).all (fun x => !x.1) && (backToKw cpos (keywordEach [] X.env)).all (fun x => x.1.isSome)
    && decide (([e, f] : List Expr).length + ([] : List Keyword).length + (if ([] : List Keyword).isEmpty then 0 else 1) < 30)) = true
  line : (apos.endLine == cpos.line) = true
  trees : backTo cpos (starEach [e, f] X.env) = [(false, eval e X.env), (false, eval f X.env)]
noncomputable def IsD (H : Hp) (a : Addr) : Prop := (∃ kvs, Rd H a (.dK kvs)) ∨ ∃ kvs, Rd H a (.dT kvs)
theorem isD_at {X : Cx} {pins : List (Addr × Obj)} {σ : St} {H : Hp} {s : Shared} {a : Addr} (I : Inv X pins σ H s) (d : IsD H a) :
    s.TypeIs (.ref a) "dict" ∧ (∀ b, Value.ref a = .ref b → ∃ ob, s.heap.get? b = some ob ∧ ob.dict = none) ∧ (a == sysModules) = false := by
  rcases d with ⟨kvs, e⟩ | ⟨kvs, e⟩
  · obtain ⟨_, hd, vs, _, dd⟩ := dk_rd I.hok e
    refine ⟨dd.typeIs, fun b q => ?_, hd⟩
    cases q
    obtain ⟨ob, _, _, h1, h2, _⟩ := dd
    exact ⟨ob, h1, h2.2.1⟩
  · obtain ⟨_, hd, xs, _, dd⟩ := dt_rd I.hok e
    refine ⟨dd.typeIs, fun b q => ?_, hd⟩
    cases q
    obtain ⟨ob, _, _, h1, h2, _⟩ := dd
    exact ⟨ob, h1, h2.2.1⟩
section
variable {X : Cx} {pins : List (Addr × Obj)} {σ : St} {H : Hp} {s : Shared} {a : Addr} {y d : V} {u r : Value} {o : Option V} {A : Around} {E : Value → Shared → Prop}
theorem d_get2 {Q : Value → Shared → Prop} (hu : A.units + 1 < cLine) (I : Inv X pins σ H s) (g : DGet H a y o) (ry : RelV y u) (rd : RelV d r) (h : ∀ w' s', Inv X pins σ H s' → RelV (o.getD d) w' → Q w' s') :
    wpAny (model X.prog X.w) A (call (.builtin "dict.get") [.ref a, u, r]) Q E s := by
  rcases g with ⟨kvs, k, e, ey, l⟩ | ⟨kvs, k, b, e, ey, eb, l⟩
  · subst ey
    obtain ⟨z, hd, vs, rel, dd⟩ := dk_rd I.hok e
    refine call_meetsIn PySem.F.slot_dict_get dd.typeIs PySem.F.entry_dict_get (PySem.F.args_dict_get_3 _ _ _) (meets_dict_get_default (mixKind X.prog X.w) a (kV_is ry) hd r) ⟨_, dd.mapOf, h _ _ (I.tok _) ?_⟩
    rw [l]
    exact (rel.val k).getD rd
  · subst ey
    cases (show u = Value.ref b from ry)
    obtain ⟨z, hd, xs, rel, dd⟩ := dt_rd I.hok e
    refine call_meetsIn PySem.F.slot_dict_get dd.typeIs PySem.F.entry_dict_get (PySem.F.args_dict_get_3 _ _ _) (meetsH_dict_get_default (tupleKind (mixKind X.prog X.w)) a b hd r) ⟨tupleKind_room_in1 hu, k, xs, key_of I.hok eb, dd, h _ _ (I.tok _) ?_⟩
    rw [l]
    exact (rel.val k).getD rd
end
noncomputable def tDGet2 (td ty tx : TE) : TE := fun σ H Q => td σ H fun x H1 => ∃ a, x = .ref a ∧ IsD H1 a ∧ ty σ H1 fun y H2 => tx σ H2 fun z H3 => ∃ o, DGet H3 a y o ∧ Q (o.getD z) H3
section
variable {X : Cx} {o e f : Expr} {apos cpos : Pos} {td ty tx : TE}
theorem pe_dget2 (hu : X.A.units + 1 < cLine) (ho : PE X o td) (he : PE X e ty) (hf : PE X f tx) (m : M2 X o "get" apos e f cpos) : PE X (.Call (.Attribute o "get" apos) [e, f] [] cpos) (tDGet2 td ty tx) := by
  intro pins s σ H Q I h
  refine wpAny_Call_method m.base m.few m.line PySem.F.plainAttrs_dict PySem.F.slot_dict_get PySem.F.type_dict_get (thn (ho pins s σ H _ I h) fun u s1 ⟨x, H1, I1, rx, a, ex, d, q1⟩ => ?_)
  subst ex
  obtain rfl : u = Value.ref a := rx
  obtain ⟨t1, t2, _⟩ := isD_at I1 d
  refine ⟨t1, t2, ?_⟩
  rw [m.trees]
  refine Calls.callWith_builtin rfl (Calls.evalArgs_plain (Calls.spliced_cons (thn (he pins s1 σ H1 _ I1 q1) fun iv s2 ⟨y, H2, I2, ry, q2⟩ =>
    Calls.spliced_cons (thn (hf pins s2 σ H2 _ I2 q2) fun fv s3 ⟨z, H3, I3, rz, ov, g, q3⟩ => Calls.spliced_nil ?_))))
  exact d_get2 hu I3 g ry rz fun w' s4 I4 rw' => ⟨_, H3, I4, rw', q3⟩
end
section
variable {X : Cx} {pins : List (Addr × Obj)} {σ : St} {H : Hp} {s : Shared} {a : Addr} {kvs : List (Key × V)} {A : Around} {E : Value → Shared → Prop}
end
section
variable {X : Cx} {pins : List (Addr × Obj)} {σ : St} {H : Hp} {s : Shared} {a : Addr} {y : V} {u : Value} {A : Around} {E : Value → Shared → Prop}
end
end L2
namespace Att
open PySem PySem.W PySem.Calls PyProof.Rows
theorem ints_of_wellAll {P : Params} {h : Heap} : ∀ (ns : List Int) (vs : List Value), WellAll P h vs (ns.map WData.int) → IntsAre vs ns := by
  intro ns
  induction ns with
  | nil =>
    intro vs w
    rw [List.map_nil] at w
    cases w
    exact .nil
  | cons n ns ih =>
    intro vs w
    rw [List.map_cons] at w
    cases w with
    | cons a b =>
      cases a
      exact .cons _ _ (ih _ b)
theorem script_of {l : OpenLaw} {n : Nat} (hn : l.most = some n) {P : Params} {h : Heap} {args : List WData} {vals : List Value}
    (hpre : l.row.toRowW.claim.pre args = true) (hwl : WellAll P h vals args) :
    ∃ a vs ns, vals = [Value.ref a] ∧ args = [WData.list (ns.map WData.int)] ∧ h.get? a = some { cls := .type "list", data := .seq vs.toArray } ∧ IntsAre vs ns ∧ ns.length ≤ n := by
  have hsh : WShape.hasAll [] args [.list .int] = true := (pre_splitW hpre).1
  have hc : l.pre.holds [] { args := args } = true := (pre_splitW hpre).2
  obtain ⟨d, r, rfl, h1, h2⟩ := hasAllW_cons hsh
  obtain rfl := hasAllW_nil h2
  obtain ⟨xs, rfl, h3⟩ := hasW_list h1
  obtain ⟨ns, rfl⟩ := items_int h3
  have hlen : ns.length ≤ n := by
    unfold OpenLaw.pre at hc
    have h4 : (WTm.not (.lt (.lit (.int (n : Int))) (.len (.arg 0)))).holds [] { args := [.list (ns.map .int)] } = true := by
      have h4 := (holds_andW hc).1
      rw [hn] at h4
      exact h4
    have h5 := condW_of h4 (w_not (w_lt w_lit (w_len_list (w_arg rfl))))
    rw [List.length_map] at h5
    refine Nat.le_of_not_lt fun q => ?_
    have q' : (n : Int) < ((ns.length : Nat) : Int) := by omega
    first
      | (rw [decide_eq_true q'] at h5; exact absurd h5 (by decide))
      | (simp at h5; omega)
  cases hwl with
  | cons w1 w2 =>
    cases w2
    cases w1 with
    | list ho hall => exact ⟨_, _, ns, rfl, rfl, ho, ints_of_wellAll ns _ hall, hlen⟩
theorem post_true (l : OpenLaw) (args : List WData) : l.row.toRowW.claim.post args (.bool true) args = true :=
  postW_of (r := l.row.toRowW) (X := (true == true))
    (show WShape.has [] (.bool true) .bool = true by first | rfl | decide | simp [WShape.has, WShape.arms, WShape.armsAll])
    (show (WTm.eq .res (.lit (.bool true))).value [] { args := args, res := some (.bool true), after := args } = some (.bool (true == true)) from w_eq_bool (w_res rfl) w_lit) rfl
section
variable {prog : Program} {w : World} {A : Around} {E : Value → Shared → Prop} {s : Shared} {K : Frag}
end
end Att
namespace L2
open PySem PySem.Spec PyProof.Rows
theorem vals_ints : ∀ {vs : List Value} {ns : List Int}, IntsAre vs ns → Vals (ns.map V.int) vs
  | _, _, .nil => .nil
  | _, _, .cons n t h => .cons ⟨t, rfl⟩ (vals_ints h)
noncomputable def Only (H : Hp) : Prop := ∀ b, H b = none ∨ ∃ o xs, H b = some (.frz o (.lst xs))
theorem law_call {P : Program} {w : World} {K : PySem.W.Frag} {mg mb : Str → Option Value} {CX : CXT} {k : Nat} {fa a : Addr} {fd : FuncData} {x : Str} {sp : Sp} {s₁ : Shared} {vs : List Value} {ns : List Int}
    (KX : K.In s₁.heap) (hns : s₁.heap.Ns mainGlobals mg) (hb : s₁.heap.Ns builtinsNs mb) (hbb : ∀ x : Str, x ≠ "__name__" → mb x = bootBuiltins x) (hlim : s₁.heap.NoLimit) (hg : s₁.gens = #[])
    (ha : s₁.heap.get? a = some { cls := .type "list", data := .seq vs.toArray }) (hi : IntsAre vs ns) (hl : ns.length ≤ sizeLine) (hr : Room k callerA)
    (F : ∀ base : Heap, K.In base → base.Ns mainGlobals mg → FnOk P w K mg base CX k fa fd [x] sp) (hbind : ∀ (s : Shared) (u : Value), BindsTo s fd ⟨[u], []⟩ [(x, u)])
    (hsp : ∀ H : Hp, Only H → SqL K H a (ns.map V.int) → sp [.ref a] H (fun v _ => v = .bl true) fun _ _ _ => False)
    (hCX : ∀ H e s', CX [] H s₁ (fun _ _ _ => False) e s' → False) :
    codeAny (model P w) callerA (.call (.ref fa) ⟨[.ref a], []⟩) (fun r s' => r = .ok (.ret (.bool true)) ∧ OldK s₁.heap s'.heap ∧ s'.os = s₁.os ∧ AllBare s'.gens) s₁ := by
  have rv := vals_ints hi
  have lenV := hi.length
  have core : ∀ H : Hp, Only H → SqL K H a (ns.map V.int) → HOk P w H s₁.heap → (∀ b, H b ≠ none → b = a) → (H a ≠ none → K.lookup a = none) →
      codeAny (model P w) callerA (.call (.ref fa) ⟨[.ref a], []⟩) (fun r s' => r = .ok (.ret (.bool true)) ∧ OldK s₁.heap s'.heap ∧ s'.os = s₁.os ∧ AllBare s'.gens) s₁ := by
    intro H hO hS hok hA hK
    have base_of : ∀ {b : Addr} {o : Obj}, s₁.heap.get? b = some o → H b = none → (hidT s₁.heap H).get? b = some o := fun e n => hidT_get e n
    have noA : ∀ {b : Addr} {o : Obj} {es : Array DictEntry} {ep : Nat}, s₁.heap.get? b = some o → o.data = .dict es ep → H b = none := fun {b o es ep} e d => by
      cases q : H b with
      | none => rfl
      | some u =>
        have e' : b = a := hA b (by rw [q]; simp)
        subst e'
        rw [ha] at e; cases e
        have d' : Data.seq vs.toArray _ = Data.dict es ep := d
        cases d'
    have nsK : ∀ {b : Addr} {m : Str → Option Value}, s₁.heap.Ns b m → (hidT s₁.heap H).Ns b m := fun {b m} ⟨o, es, ep, e, d, r⟩ => ⟨o, es, ep, base_of e (noA e d), d, r⟩
    have hKb : K.In (hidT s₁.heap H) := fun b o e => base_of (KX b o e) (by
      cases q : H b with
      | none => rfl
      | some u =>
        have e' : b = a := hA b (by rw [q]; simp)
        subst e'
        rw [hK (by rw [q]; simp)] at e; cases e)
    have hM : Mod K mg (hidT s₁.heap H) := ⟨hKb, nsK hns, ⟨mb, nsK hb, hbb⟩, let ⟨mc, h1, h2⟩ := hlim; ⟨mc, nsK h1, h2⟩⟩
    have e0 : Env0 P w K mg (hidT s₁.heap H) callerA [] s₁ H := ⟨rfl, hM, fun b o e => of_hidT e, Nat.le_of_eq (hidT_size _ _), trivial, fun b hb => absurd (show b ∈ ([] : List Addr) from hb) (by simp), hok, .of_eq hg⟩
    refine codeAny_mono ((F _ hKb (nsK hns)).run callerA [] s₁ H ⟨[.ref a], []⟩ [.ref a] [.ref a] _ _ hr e0 (hbind s₁ (.ref a)) (.cons rfl .nil) (hsp H hO hS)) fun r s' h => ?_
    cases r with
    | error e => exact (hCX H e s' h).elim
    | ok fl =>
      cases fl with
      | next => exact False.elim h
      | brk => exact False.elim h
      | cont => exact False.elim h
      | ret u =>
        obtain ⟨v, H', os, bare, un, hok', r', q⟩ := h
        have q' : v = .bl true := q
        subst q'
        obtain rfl : u = Value.bool true := r'
        refine ⟨rfl, OldK.of_keep fun b o e => ?_, os, bare⟩
        cases q : H b with
        | none => exact un.keep b o e q (by intro z; exact absurd (show b ∈ ([] : List Addr) from z) (by simp)) (by simp)
        | some u =>
          rcases hO b with z | ⟨ob, xs, z⟩
          · rw [q] at z; cases z
          · have z2 := un.frzs b ob _ z
            obtain ⟨e1, _⟩ := hok b _ z
            obtain ⟨e2, _⟩ := hok' b _ z2
            rw [e] at e1; cases e1
            exact e2
  cases hk : K.lookup a with
  | some o =>
    have e := KX a o hk
    rw [ha] at e
    cases e
    refine core (fun _ => none) (fun _ => .inl rfl) (.inr ⟨_, vs.toArray, _, hk, rfl, rfl, rfl, by rw [List.size_toArray, lenV]; exact hl, by simpa using rv⟩) (fun b u z => by have z' : (none : Option HO) = some u := z; cases z') (fun b z => absurd rfl z) fun z => absurd rfl z
  | none =>
    refine core (fun b => if b = a then some (.frz { cls := .type "list", data := .seq vs.toArray } (.lst (ns.map V.int))) else none) (fun b => ?_) (.inl (.inr ⟨{ cls := .type "list", data := .seq vs.toArray }, if_pos rfl⟩)) (fun b u z => ?_) (fun b z => ?_) fun _ => hk
    · by_cases hb : b = a
      · exact .inr ⟨_, _, if_pos hb⟩
      · exact .inl (if_neg hb)
    · by_cases hb : b = a
      · have z' := (if_pos hb).symm.trans z
        cases z'
        subst hb
        exact ⟨ha, by rw [List.length_map]; exact hl, vs, _, rv, ha⟩
      · have z' := (if_neg hb).symm.trans z
        cases z'
    · by_cases hb : b = a
      · exact hb
      · exact absurd (if_neg hb) z
end L2
namespace L2
open PySem PySem.Spec PyProof.Rows
noncomputable abbrev KOf {K : PySem.W.Frag} {h : Heap} (_ : K.In h) : PySem.W.Frag := K
end L2
namespace L2
open PySem PySem.Spec PyProof.Rows
noncomputable def defArgs (s : Stmt) : Arguments := match s with
  | .FunctionDef _ a _ _ _ _ _ _ _ _ => a
  | _ => { posonlyargs := [], args := [], vararg := none, kwonlyargs := [], kw_defaults := [], kwarg := none, defaults := [] }
noncomputable def defBody (s : Stmt) : List Stmt := match s with
  | .FunctionDef _ _ b _ _ _ _ _ _ _ => b
  | _ => []
noncomputable def defScope (s : Stmt) : Scope := match s with
  | .FunctionDef _ _ _ _ _ _ sc _ _ _ => sc
  | _ => { kind := .function, names := [], isGenerator := false, isCoroutine := false }
noncomputable abbrev CX0 : CXT := fun _ _ _ _ _ _ => False
noncomputable abbrev E0 : XK := fun _ _ _ => False
theorem pass0 {X : Cx} : Passes CX0 X E0 := fun _ _ _ _ _ _ _ h => h.elim
structure Fun (K : PySem.W.Frag) (x qual : Str) (st : Stmt) (f : Addr) (fd : FuncData) : Prop where
  ex : ∃ (oc : Value) (od : Option Addr) (kV doc pm : Value) (an : Option Addr) (cdv ct : Value) (osl : Array (Option Value)),
    fd = PySem.W.fnOf x qual (defArgs st) (defBody st) (defScope st) .none kV doc pm an cdv ct ∧ K.lookup f = some ⟨oc, od, .func fd, osl⟩ ∧ PySem.W.codeIn K cdv qual = true
  kp : PySem.W.keepIn K (.ref f) = true
section
variable {P : Program} {w : World} {K : PySem.W.Frag} {mg : Str → Option Value} {base : Heap}
theorem Fun.ok {x qual : Str} {st : Stmt} {f : Addr} {fd : FuncData} {N ps : List Str} {k : Nat} {sp : Sp} (F : Fun K x qual st f fd) (S : FnScope N ps (defScope st)) (len : ∀ vs H Q E, sp vs H Q E → vs.length = ps.length)
    (hbody : ∀ (cdv : Value) (A : Around) (outer : List Env) (s : Shared) (H : Hp) (vs : List V) (Q : VK) (E : XK), Room k (A.deeper (envOfC qual (defScope st) s.heap.objs.size f cdv)) → sp vs H Q E →
      ∃ t, PSs (cxOf CX0 P w K mg base N qual (defScope st) f cdv A outer s H E).nox (defBody st) t ∧ t { nx := fun _ H' => Q .non H', rt := Q } (start N vs) H) : FnOk P w K mg base CX0 (k + 1) f fd ps sp := by
  obtain ⟨oc, od, kV, doc, pm, an, cdv, ct, osl, rfl, lk, hcd⟩ := F.ex
  refine fn_of lk hcd S len fun A outer s H vs Q E hr hsp => ?_
  obtain ⟨t, h, q⟩ := hbody cdv A outer s H vs Q E hr hsp
  exact ⟨t, h.nox, q⟩
theorem Fun.binds {x qual : Str} {st : Stmt} {f : Addr} {fd : FuncData} {ps : List Str} (F : Fun K x qual st f fd)
    (h : ∀ (kV doc pm : Value) (an : Option Addr) (cdv ct : Value) (us : List Value), us.length = ps.length → bindArgs (PySem.W.fnOf x qual (defArgs st) (defBody st) (defScope st) .none kV doc pm an cdv ct) ⟨us, []⟩ = pure (ps.zip us)) : Binds K fd ps [] := by
  obtain ⟨oc, od, kV, doc, pm, an, cdv, ct, osl, rfl, lk, hcd⟩ := F.ex
  exact .all (h kV doc pm an cdv ct)
theorem fun_mk {x qual : Str} {st : Stmt} {f : Addr} {oc : Value} {od an : Option Addr} {osl : Array (Option Value)} {kV doc pm cdv ct : Value} (l : K.lookup f = some ⟨oc, od, .func (PySem.W.fnOf x qual (defArgs st) (defBody st) (defScope st) .none kV doc pm an cdv ct), osl⟩)
    (c : PySem.W.codeIn K cdv qual = true) (k : PySem.W.keepIn K (.ref f) = true) : Fun K x qual st f (PySem.W.fnOf x qual (defArgs st) (defBody st) (defScope st) .none kV doc pm an cdv ct) := ⟨⟨oc, od, kV, doc, pm, an, cdv, ct, osl, rfl, l, c⟩, k⟩
end
theorem hu_of {A : Around} {k : Nat} (hr : Room k A) : A.units + 1 < cLine := Nat.lt_of_le_of_lt (Nat.add_le_add_left (by decide : 1 ≤ 64) _) hr.units
section
variable {X : Cx}
end
theorem iteF {A B : Prop} (h : B) : if false = true then A else B := by
  rw [if_neg Bool.false_ne_true]
  exact h
theorem iteT {A B : Prop} (h : A) : if true = true then A else B := by
  rw [if_pos rfl]
  exact h
noncomputable def Same (H H' : Hp) : Prop := ∀ b o, H b = some o → H' b = some o
theorem Same.refl (H : Hp) : Same H H := fun _ _ h => h
theorem Same.trans {H H1 H2 : Hp} (a : Same H H1) (b : Same H1 H2) : Same H H2 := fun c o h => b c o (a c o h)
theorem Same.free {H H' : Hp} (e : Same H H') {l : Addr} (h : H' l = Option.none) : H l = Option.none := by
  cases q : H l with
  | none => rfl
  | some o =>
    rw [e l o q] at h
    cases h
theorem Same.seq {K : PySem.W.Frag} {H H' : Hp} {a : Addr} {xs : List V} (e : Same H H') (h : SqL K H a xs) : SqL K H' a xs := by
  rcases h with (h | ⟨o, h⟩) | h
  · exact .inl (.inl (e _ _ h))
  · exact .inl (.inr ⟨o, e _ _ h⟩)
  · exact .inr h
section
variable {X : Cx}
theorem call_lenD : CallR X (.builtin "len") (fun xs H Q => ∃ a kvs, xs = [V.ref a] ∧ H a = some (.dK kvs) ∧ Q (.int kvs.length) H) := by
  intro pins s σ H xs us Q I r h
  obtain ⟨a, kvs, rfl, ha, q⟩ := h
  obtain ⟨u, rfl, ru⟩ := vals1 r
  cases ru
  exact d_len I (.inl ha) fun t s' I' => ⟨.int kvs.length, H, I', ⟨t, rfl⟩, q⟩
end
section
variable {κ : Type} [DecidableEq κ]
end
end L2
set_option Elab.async false
set_option linter.all false
set_option maxRecDepth 100000
set_option maxHeartbeats 4000000
namespace L2
open PySem PySem.Spec PyProof.Rows
noncomputable def clOf (env : Env) : List (Str × NameKind) → List (Str × Addr) → List (Str × Addr)
  | [], acc => acc
  | (n, k) :: r, acc => if k = .free then clOf env r ((n, (env.cells.lookup n).getD 0) :: acc) else clOf env r acc
theorem forIn_cl {env : Env} (f : (Str × NameKind) → List (Str × Addr) → Sem (ForInStep (List (Str × Addr))))
    (h1 : ∀ n r c, env.cells.lookup n = some c → f (n, .free) r = pure (.yield ((n, c) :: r))) (h2 : ∀ n k r, k ≠ .free → f (n, k) r = pure (.yield r)) :
    ∀ (l : List (Str × NameKind)) (acc : List (Str × Addr)), (∀ y ∈ l, y.2 = .free → ∃ c, env.cells.lookup y.1 = some c) → forIn l acc f = pure (clOf env l acc)
  | [], acc, _ => by rw [List.forIn_nil]; rfl
  | (n, k) :: r, acc, h => by
    have hr : ∀ y ∈ r, y.2 = .free → ∃ c, env.cells.lookup y.1 = some c := fun y hy => h y (List.mem_cons_of_mem _ hy)
    rw [List.forIn_cons]
    by_cases hk : k = .free
    · subst hk
      obtain ⟨c, hc⟩ := h _ List.mem_cons_self rfl
      have hc : env.cells.lookup n = some c := hc
      rw [h1 n acc c hc]
      have ih := forIn_cl f h1 h2 r ((n, c) :: acc) hr
      show (forIn r ((n, c) :: acc) f) = _
      rw [ih]
      unfold clOf
      rw [if_pos rfl, hc]
      rw [← clOf.eq_def]
      rfl
    · rw [h2 n k acc hk]
      have ih := forIn_cl f h1 h2 r acc hr
      show (forIn r acc f) = _
      rw [ih]
      conv => rhs; unfold clOf
      rw [if_neg hk]
theorem closure_of {scope : Scope} {env : Env} (h : ∀ y ∈ scope.names, y.2 = .free → ∃ c, env.cells.lookup y.1 = some c) : closureFor scope env = pure (clOf env scope.names []) := by
  unfold closureFor
  have e := forIn_cl (env := env) (fun x r => if x.2 == NameKind.free then do let c ← cellOf env x.1; pure (ForInStep.yield ((x.1, c) :: r)) else pure (ForInStep.yield r))
    (fun n r c hc => by
      have e : cellOf env n = pure c := by unfold cellOf; rw [hc]
      show (if (NameKind.free == NameKind.free) = true then _ else _) = _
      rw [if_pos (by decide), e]
      rfl)
    (fun n k r hk => by
      show (if (k == NameKind.free) = true then _ else _) = _
      rw [if_neg (by intro z; exact hk (eq_of_beq z))]) scope.names [] h
  exact (congrArg (fun m => m >>= fun cs => (pure cs : Sem (List (Str × Addr)))) e)
theorem clOf_mem {env : Env} : ∀ (l : List (Str × NameKind)) (acc : List (Str × Addr)) (y : Str) (c : Addr), (∀ y ∈ l, y.2 = .free → ∃ c, env.cells.lookup y.1 = some c) → (∀ y c, acc.lookup y = some c → env.cells.lookup y = some c) →
    (clOf env l acc).lookup y = some c → env.cells.lookup y = some c
  | [], acc, y, c, _, ha, e => ha y c e
  | (n, k) :: r, acc, y, c, h, ha, e => by
    have hr : ∀ y ∈ r, y.2 = .free → ∃ c, env.cells.lookup y.1 = some c := fun y hy => h y (List.mem_cons_of_mem _ hy)
    unfold clOf at e
    by_cases hk : k = .free
    · rw [if_pos hk] at e
      refine clOf_mem r _ y c hr (fun z d q => ?_) e
      rw [List.lookup_cons] at q
      cases hz : z == n with
      | true =>
        rw [hz] at q
        have q' : (env.cells.lookup n).getD 0 = d := Option.some.inj q
        obtain ⟨c', hc'⟩ := h _ List.mem_cons_self hk
        have hc' : env.cells.lookup n = some c' := hc'
        rw [hc'] at q'
        have q' : c' = d := q'
        rw [eq_of_beq hz, hc', q']
      | false =>
        rw [hz] at q
        exact ha z d q
    · rw [if_neg hk] at e
      exact clOf_mem r acc y c hr ha e
theorem clOf_acc {env : Env} : ∀ (l : List (Str × NameKind)) (acc : List (Str × Addr)) (y : Str), (∃ c, acc.lookup y = some c) → ∃ c, (clOf env l acc).lookup y = some c
  | [], _, _, h => h
  | (n, k) :: r, acc, y, h => by
    unfold clOf
    by_cases hk : k = .free
    · rw [if_pos hk]
      refine clOf_acc r _ y ?_
      rw [List.lookup_cons]
      cases hz : y == n with
      | true => exact ⟨_, rfl⟩
      | false => exact h
    · rw [if_neg hk]
      exact clOf_acc r acc y h
theorem clOf_has {env : Env} : ∀ (l : List (Str × NameKind)) (acc : List (Str × Addr)) (y : Str), (y, NameKind.free) ∈ l → ∃ c, (clOf env l acc).lookup y = some c
  | [], _, _, h => by simp at h
  | (n, k) :: r, acc, y, h => by
    unfold clOf
    by_cases hk : k = .free
    · rw [if_pos hk]
      rcases List.mem_cons.mp h with e | e
      · refine clOf_acc r _ y ?_
        have e1 : y = n := congrArg Prod.fst e
        rw [List.lookup_cons, e1]
        simp
      · exact clOf_has r _ y e
    · rw [if_neg hk]
      rcases List.mem_cons.mp h with e | e
      · exact absurd (congrArg Prod.snd e).symm hk
      · exact clOf_has r acc y e
theorem relabel_lookup (scope : Scope) (env : Env) (y : Str) : (relabel scope env).names.lookup y = (scope.names.lookup y).map fun k => if (k == NameKind.free && env.scope.kind == .function && env.kindOf y == some .cell) = true then .cell else k := by
  show (scope.names.map _).lookup y = _
  induction scope.names with
  | nil => rfl
  | cons p r ih =>
    obtain ⟨n, k⟩ := p
    rw [List.map_cons, List.lookup_cons (a := y) (k := n) (b := k)]
    cases hz : y == n with
    | true =>
      have e : y = n := eq_of_beq hz
      subst e
      show List.lookup y ((if (k == NameKind.free && env.scope.kind == .function && env.kindOf y == some .cell) = true then (y, NameKind.cell) else (y, k)) :: _) = some (if _ then _ else _)
      by_cases hc : (k == NameKind.free && env.scope.kind == .function && env.kindOf y == some .cell) = true
      · rw [if_pos hc, if_pos hc]; simp
      · rw [if_neg hc, if_neg hc]; simp
    | false =>
      show List.lookup y ((if (k == NameKind.free && env.scope.kind == .function && env.kindOf n == some .cell) = true then (n, NameKind.cell) else (n, k)) :: _) = _
      by_cases hc : (k == NameKind.free && env.scope.kind == .function && env.kindOf n == some .cell) = true
      · rw [if_pos hc, List.lookup_cons, hz]; exact ih
      · rw [if_neg hc, List.lookup_cons, hz]; exact ih
noncomputable def cxComp (X : Cx) (scope : Scope) (x : Str) (N' : List Str) (C : Addr) (s : Shared) (H : Hp) (fp : List Addr) (pn : List (Addr × Obj)) : Cx where
  prog := X.prog
  w := X.w
  K := X.K
  mg := X.mg
  base := X.base
  A := X.A
  N := x :: N'
  s₀ := s
  H₀ := H
  env := compEnvC scope (clOf X.env scope.names []) C X.env
  outer := X.stack
  stack := X.stack
  ex := fp
  fn := fun _ => false
  calm := X.calm
  pn := pn
  xe := fun _ _ => False
section
variable {X : Cx} {pins : List (Addr × Obj)} {σ : St} {H : Hp} {s : Shared}
structure CompSc (X : Cx) (scope : Scope) (x : Str) (N' : List Str) : Prop where
  loc : scope.names.lookup x = some .local
  nocell : ∀ y ∈ scope.names, y.2 ≠ .cell
  kind : scope.kind = .function
  names : ∀ y ∈ scope.names, y.2 = .local → scope.names.lookup y.1 = some .local
  free : ∀ y ∈ scope.names, y.2 = .free → X.env.kindOf y.1 = some .cell ∨ X.env.kindOf y.1 = some .free
  nin : x ∉ N'
  nd : N'.Nodup
  len : N'.length = X.N.length
  sub : ∀ (i : Nat) (y : Str), N'[i]? = some y → X.N[i]? = some y ∨ scope.names.lookup y = none
  only : ∀ y ∈ scope.names, y.2 = .local → y.1 = x ∨ y.1 ∉ N'
theorem Inv.compIn {scope : Scope} {x : Str} {N' : List Str} {fp : List Addr} {h1 : Heap} {tk : Nat} {m : Str → Option Value} (S : CompSc X scope x N') (I : Inv X pins σ H s) (hf : ∀ b ∈ fp, FpOk X pins H b) (hfl : ∀ b ∈ fp, b < s.heap.objs.size)
    (hn : h1.Ns s.heap.objs.size m) (hsb : ∀ b o, s.heap.get? b = some o → h1.get? b = some o) :
    Inv (cxComp X scope x N' s.heap.objs.size s H fp (X.pn ++ pins)) [] (none :: σ) H { s with heap := h1, toks := tk } := by
  have hcells : ∀ y ∈ scope.names, y.2 = .free → ∃ c, X.env.cells.lookup y.1 = some c := fun y hy hk => I.ok.has y.1 (S.free y hy hk)
  have sub : ∀ y c, (clOf X.env scope.names []).lookup y = some c → X.env.cells.lookup y = some c := fun y c e => clOf_mem _ _ y c hcells (fun z d q => by simp at q) e
  have lk : ∀ (y : Str) (k : NameKind), (relabel scope X.env).names.lookup y = some k → k = .cell ∨ k = .free → scope.names.lookup y = some .free := fun y k e hk => by
    rw [relabel_lookup] at e
    cases q : scope.names.lookup y with
    | none => rw [q] at e; cases e
    | some k0 =>
      rw [q] at e
      have e' : (if (k0 == NameKind.free && X.env.scope.kind == .function && X.env.kindOf y == some .cell) = true then NameKind.cell else k0) = k := Option.some.inj e
      by_cases hc : (k0 == NameKind.free && X.env.scope.kind == .function && X.env.kindOf y == some .cell) = true
      · simp only [Bool.and_eq_true] at hc
        rw [eq_of_beq hc.1.1]
      · rw [if_neg hc] at e'
        subst e'
        rcases hk with hk | hk
        · exact absurd hk (S.nocell _ (PySem.mem_of_lookup q))
        · rw [hk]
  have lt : ∀ {b : Addr} {o : Obj}, s.heap.get? b = some o → b ≠ s.heap.objs.size := fun e => Nat.ne_of_lt (Heap.lt_size e)
  refine ⟨⟨I.ok.mod, by show (relabel scope X.env).kind = _; exact S.kind, I.ok.glob, I.ok.blt, Nat.le_refl _, fun y z c e1 e2 => I.ok.inj y z c (sub y c e1) (sub z c e2), fun y hy => ?_, fun y c hz => (by cases hz), I.ok.hd, I.ok.frames, .inl rfl,
    fun b hb => ⟨Nat.ne_of_lt (hfl b hb), fun y c e => (hf b hb).2.2.2.2.1 y c (sub y c e)⟩, I.bs, Nat.le_trans I.ok.bsz I.sz, fun b o e hb => ?_, fun b hb hz => ?_, I.stack, I.stkFree⟩,
    rfl, I.bare, Un.kept hsb, ⟨m, hn, fun i y v h1 h2 h3 => ?_⟩, fun y c e => ?_, I.hok.fresh (Nat.le_refl _), fun y c e => I.freeC y c (sub y c e), fun p hp => ?_, I.hok.kept hsb, ?_⟩
  · have hy : (relabel scope X.env).names.lookup y = some .cell ∨ (relabel scope X.env).names.lookup y = some .free := hy
    have q : scope.names.lookup y = some .free := hy.elim (fun z => lk y _ z (.inl rfl)) fun z => lk y _ z (.inr rfl)
    exact clOf_has _ _ y (PySem.mem_of_lookup q)
  · obtain ⟨_, _, _, f3, _, _⟩ := hf b hb
    rcases f3 with f3 | f3
    · exact I.ok.noex b o e f3
    · exact absurd (Nat.lt_of_lt_of_le (Heap.lt_size e) (Nat.le_trans I.ok.bsz f3)) (Nat.lt_irrefl _)
  · have hz : b ∈ frs X.stack := hz
    obtain ⟨_, f1, f2, _⟩ := hf b hb
    rcases List.mem_cons.mp (I.stkSub b hz) with z | z
    · exact f1 z
    · exact f2 z
  · cases i with
    | zero => simp at h2
    | succ i =>
      have h1 : N'[i]? = some y := by simpa [cxComp] using h1
      have h2 : σ[i]? = some (some v) := by simpa using h2
      have hne : N'[i]? ≠ some x := fun z => S.nin (List.mem_of_getElem? z)
      have h3 : Vis (relabel scope X.env) y := h3
      obtain ⟨m', hn', hl'⟩ := I.loc
      have q : scope.names.lookup y = some .free := by
        rcases h3 with z | z | z
        · exfalso
          rw [relabel_lookup] at z
          cases q : scope.names.lookup y with
          | none => rw [q] at z; cases z
          | some k0 =>
            rw [q] at z
            have e' : (if (k0 == NameKind.free && X.env.scope.kind == .function && X.env.kindOf y == some .cell) = true then NameKind.cell else k0) = .local := Option.some.inj z
            by_cases hc : (k0 == NameKind.free && X.env.scope.kind == .function && X.env.kindOf y == some .cell) = true
            · rw [if_pos hc] at e'; cases e'
            · rw [if_neg hc] at e'
              subst e'
              rcases S.only _ (PySem.mem_of_lookup q) rfl with w | w
              · exact hne (by rw [h1]; exact congrArg some w)
              · exact w (List.mem_of_getElem? h1)
        · exact lk y _ z (.inl rfl)
        · exact lk y _ z (.inr rfl)
      obtain ⟨c, hc⟩ := clOf_has (env := X.env) scope.names [] y (PySem.mem_of_lookup q)
      have hk : X.env.kindOf y = some .cell ∨ X.env.kindOf y = some .free := S.free _ (PySem.mem_of_lookup q) rfl
      have h1' : X.N[i]? = some y := (S.sub i y h1).resolve_right fun z => by rw [q] at z; cases z
      obtain ⟨u, r, l⟩ := hl' i y v h1' h2 (.inr hk)
      refine ⟨u, r, ?_⟩
      have kd : (compEnvC scope (clOf X.env scope.names []) s.heap.objs.size X.env).kindOf y = some .cell ∨ (compEnvC scope (clOf X.env scope.names []) s.heap.objs.size X.env).kindOf y = some .free := by
        rcases h3 with z | z | z
        · exfalso
          rw [relabel_lookup, q] at z
          have e' : (if (NameKind.free == NameKind.free && X.env.scope.kind == .function && X.env.kindOf y == some .cell) = true then NameKind.cell else NameKind.free) = .local := Option.some.inj z
          by_cases hc : (NameKind.free == NameKind.free && X.env.scope.kind == .function && X.env.kindOf y == some .cell) = true
          · rw [if_pos hc] at e'; cases e'
          · rw [if_neg hc] at e'; cases e'
        · exact .inl z
        · exact .inr z
      rcases l with ⟨a, _⟩ | ⟨_, c', hc', ic⟩
      · rcases hk with k | k <;> (rw [k] at a; cases a)
      · have e : X.env.cells.lookup y = some c := sub y c hc
        rw [e] at hc'
        cases hc'
        obtain ⟨o, ho, hd⟩ := ic
        exact .inr ⟨kd, c, hc, ⟨o, hsb _ _ ho, hd⟩⟩
  · obtain ⟨v, o, ho, hd⟩ := I.cell y c (sub y c e)
    exact ⟨v, o, hsb _ _ ho, hd⟩
  · have hp : p ∈ X.pn ++ pins := by
      have hp : p ∈ (X.pn ++ pins) ++ [] := hp
      rwa [List.append_nil] at hp
    obtain ⟨e, n, ne, nf, d⟩ := I.pin p hp
    refine ⟨hsb _ _ e, n, lt e, fun hz => ?_, d⟩
    have hz : p.1 ∈ frs X.stack := hz
    rcases List.mem_cons.mp (I.stkSub _ hz) with z | z
    · exact ne z
    · exact nf z
  · show (none :: σ).length = (x :: N').length
    rw [List.length_cons, List.length_cons, I.len, S.len]
noncomputable def PTs (X : Cx) (ifs : List Expr) (t : TT) : Prop :=
  ∀ (pins : List (Addr × Obj)) (s : Shared) (σ : St) (H : Hp) (Q : Bool → Hp → Prop) (E : Value → Shared → Prop), Inv X pins σ H s → t σ H Q →
    wpAny (model X.prog X.w) X.A (forIn ifs true fun c r => if r = true then do let ok ← isTrue c X.env (eval c X.env); pure (ForInStep.yield ok) else pure (ForInStep.yield r)) (TP X pins σ Q) E s
noncomputable def tYes : TT := fun _ H Q => Q true H
theorem pts_nil : PTs X [] tYes := fun _ _ _ H _ _ I h => wpAny_tests_nil ⟨H, I, h⟩
theorem comp_loop {prog : Program} {w : World} {A : Around} {R : Result → Shared → Prop} {s : Shared} {elt target iter : Expr} {ifs : List Expr} {scope : Scope} {pos : Pos} {it acc : Value} {env : Env} (J : Nat → Shared → Prop)
    (turn : ∀ n s, J n s → wpAny (model prog w) A (pyNext it) (fun r s1 => match r with
      | none => R (.ok .next) s1
      | some v => wpAny (model prog w) A (letOwnedTupleGo target it v) (fun _ s2 => wpAny (model prog w) A (assign target env v) (fun _ s3 =>
          wpAny (model prog w) A (forIn ifs true fun c r => if r = true then do let ok ← isTrue c env (eval c env); pure (ForInStep.yield ok) else pure (ForInStep.yield r)) (fun ok s4 =>
            if ok = true then wpAny (model prog w) A (eval elt env) (fun y s5 => wpAny (model prog w) A (call (.builtin "list.append") [acc, y]) (fun _ s6 => ∃ m, m < n ∧ J m s6) (fun _ _ => False) s5) (fun _ _ => False) s4
            else ∃ m, m < n ∧ J m s4) (fun _ _ => False) s3) (fun _ _ => False) s2) (fun _ _ => False) s1) (fun _ _ => False) s)
    (n : Nat) (h : J n s) : codeAny (model prog w) A (.compLoop (.ListComp elt [⟨target, iter, ifs, 0⟩] scope pos) 0 it acc env) R s := by
  have no : ∀ {α : Type} {t : Sem α} {Q : α → Shared → Prop} {E : Value → Shared → Prop} {s : Shared}, wpAny (model prog w) A t Q (fun _ _ => False) s → wpAny (model prog w) A t Q E s :=
    fun q => wpAny_mono q (fun _ _ z => z) fun _ _ z => z.elim
  refine codeAny_loop rfl J (fun n s hJ => ?_) n h
  refine wpAny_noted (m := compTurn (.ListComp elt [⟨target, iter, ifs, 0⟩] scope pos) 0 it acc env) ?_
  rw [compTurn_list]
  refine wpAny_bind (wpAny_standAt (wpAny_bind (no (thn (turn n s hJ) fun r s1 q1 => ?_))))
  cases r with
  | none => exact wpAny_pure q1
  | some v =>
    refine no ?_
    refine wpAny_bind (thn q1 fun _ s2 q2 => wpAny_bind (thn q2 fun _ s3 q3 => wpAny_bind (thn q3 fun ok s4 q4 => ?_)))
    cases ok with
    | false => exact wpAny_pure ⟨rfl, q4⟩
    | true => exact wpAny_bind (wpAny_bind (thn q4 fun y s5 q5 => wpAny_bind (thn q5 fun _ s6 q6 => wpAny_pure (wpAny_pure ⟨rfl, q6⟩))))
noncomputable def CompW (J : It) (tt : TT) (te : TE) (σ : St) (Q : VK) (D : Addr) (H1 : Hp) : Prop := ∃ W : Nat → Nat → List V → Hp → Prop, (∃ m, W 0 m [] (upd H1 D (.lst []))) ∧
  ∀ i m ys H', W i m ys H' → (J.stop i H' ∧ Q (.ref D) H') ∨ (J.go i H' ∧ ∀ v H2, J.yld i H' v H2 → tt (some v :: σ) H2 fun b H3 =>
    if b = true then te (some v :: σ) H3 fun y H4 => H4 D = some (.lst ys) ∧ ys.length < sizeLine ∧ ∃ m', m' < m ∧ W (i + 1) m' (ys ++ [y]) (upd H4 D (.lst (ys ++ [y])))
    else ∃ m', m' < m ∧ W (i + 1) m' ys H3)
noncomputable def tComp (wi : TI) (tt : TT) (te : TE) : TE := fun σ H Q => wi σ H fun J H1 => ∀ D, H1 D = none → CompW J tt te σ Q D H1
theorem comp_core {elt iter : Expr} {x : Str} {N' : List Str} {px : Pos} {ifs : List Expr} {scope : Scope} {pos : Pos} {tt : TT} {te : TE} (hc : X.calm = true) (S : CompSc X scope x N')
    (ht : ∀ C s H fp pn, PTs (cxComp X scope x N' C s H fp pn) ifs tt) (he : ∀ C s H fp pn, PE (cxComp X scope x N' C s H fp pn) elt te) {Q : VK} {itv : Value} {s2 : Shared} {RR : Value → Addr → Result → Shared → Prop}
    (h2 : PIE X pins σ (.Name x px) (fun J H1 => ∀ D, H1 D = none → CompW J tt te σ Q D H1) itv s2)
    (hend : ∀ (D C : Addr) (H6 : Hp) (s7 : Shared) (m7 : Str → Option Value), Inv X pins σ H6 s7 → s7.heap.Ns C m7 → FpOk X pins H6 C → Q (.ref D) H6 → RR (.ref D) C (.ok .next) s7) :
    wpAny (model X.prog X.w) X.A (newList []) (fun acc s3 => wpAny (model X.prog X.w) X.A (newFunctionEnv scope X.env.globals (clOf X.env scope.names []) [] X.env.qual none .none (some X.env)) (fun cenv s4 =>
      codeAny (model X.prog X.w) X.A (.compStart (.ListComp elt [⟨.Name x px, iter, ifs, 0⟩] scope pos) 0 itv acc { cenv with scope := relabel scope X.env }) (RR acc cenv.locals) s4) X.xe s3) X.xe s2 := by
  obtain ⟨it, fp, tn, J, H2, e, I2, T, st2, f2, hW⟩ := h2
  subst e
  have hlt : ∀ b ∈ fp, b < s2.heap.objs.size := fun b hb => by
    obtain ⟨o, ho, _⟩ := T.obj _ _ st2 b hb
    exact Heap.lt_size ho
  obtain ⟨W, ⟨m0, w0⟩, hturn⟩ := hW s2.heap.objs.size (I2.hok.fresh (Nat.le_refl _))
  refine wpAny_newObj_type ?_ (by show 0 ≤ sizeLine; exact Nat.zero_le _)
  have I3 : Inv X pins σ (upd H2 s2.heap.objs.size (.lst [])) { s2 with heap := s2.heap.push { cls := .type "list", data := .seq ([] : List Value).toArray } } := I2.lnew (t' := s2.toks) .nil (Nat.zero_le _)
  have f3 : ∀ b ∈ fp, FpOk X pins (upd H2 s2.heap.objs.size (.lst [])) b := fun b hb => by
    obtain ⟨g0, g⟩ := f2 b hb
    exact ⟨by rw [upd_ne (Nat.ne_of_lt (hlt b hb))]; exact g0, g⟩
  have st3 : tn 0 (s2.heap.push { cls := .type "list", data := .seq ([] : List Value).toArray }) := T.keep _ _ _ st2 fun b _ o e => Heap.get?_push_of_some _ e
  have hlt3 : ∀ b ∈ fp, b < (s2.heap.push { cls := .type "list", data := .seq ([] : List Value).toArray }).objs.size := fun b hb => by rw [Heap.size_push]; exact Nat.lt_succ_of_lt (hlt b hb)
  generalize hs3 : ({ s2 with heap := s2.heap.push { cls := .type "list", data := .seq ([] : List Value).toArray } } : Shared) = s3 at I3
  have eh : s3.heap = s2.heap.push { cls := .type "list", data := .seq ([] : List Value).toArray } := by rw [← hs3]
  rw [← eh] at st3 hlt3
  show wpAny _ _ (newFunctionEnv scope X.env.globals (clOf X.env scope.names []) [] X.env.qual none .none (some X.env)) _ _ _
  refine wpAny_newFunctionEnv S.nocell (by intro y hy; simp at hy) (fun h4 hns4 hsb4 => ?_) S.kind
  have hk4 : ∀ b o, s3.heap.get? b = some o → h4.get? b = some o := fun b o e => (hsb4.2 b (Nat.ne_of_lt (Heap.lt_size e))).trans (Heap.get?_push_of_some _ e)
  have I4 := Inv.compIn (tk := s3.toks + ([] : List (Str × Value)).length) S I3 f3 hlt3 hns4 hk4
  have st4 : tn 0 h4 := T.keep _ _ _ st3 fun b _ o e => hk4 b o e
  have fx : ∀ {H' : Hp}, (∀ b ∈ fp, H' b = none) → ∀ b ∈ fp, FpOk (cxComp X scope x N' s3.heap.objs.size s3 (upd H2 s2.heap.objs.size (.lst [])) fp (X.pn ++ pins)) [] H' b := fun {H'} hn b hb => by
    obtain ⟨_, g1, g2, g3, g4, g5⟩ := f3 b hb
    refine ⟨hn b hb, Nat.ne_of_lt (hlt3 b hb), I4.ok.exfs b hb, .inl hb, fun y c e => (I4.ok.exf b hb).2 y c e, fun p hp => g5 p ?_⟩
    have hp : p ∈ (X.pn ++ pins) ++ [] := hp
    rwa [List.append_nil] at hp
  have loop : ∀ s5 : Shared, (∃ (i n : Nat) (o : Option V) (ys : List V) (H5 : Hp), Inv (cxComp X scope x N' s3.heap.objs.size s3 (upd H2 s2.heap.objs.size (.lst [])) fp (X.pn ++ pins)) [] (o :: σ) H5 s5 ∧ tn i s5.heap ∧ (∀ b ∈ fp, H5 b = none) ∧ W i n ys H5) →
      codeAny (model X.prog X.w) X.A (.compLoop (.ListComp elt [⟨.Name x px, iter, ifs, 0⟩] scope pos) 0 (.ref it) (.ref s2.heap.objs.size) (compEnvC scope (clOf X.env scope.names []) s3.heap.objs.size X.env))
        (RR (.ref s2.heap.objs.size) s3.heap.objs.size) s5 := by
    rintro s5 ⟨i5, n5, o5, ys5, H5, I5, st5, fr5, w5⟩
    refine comp_loop (fun n s' => ∃ (i : Nat) (o : Option V) (ys : List V) (H5 : Hp), Inv (cxComp X scope x N' s3.heap.objs.size s3 (upd H2 s2.heap.objs.size (.lst [])) fp (X.pn ++ pins)) [] (o :: σ) H5 s' ∧ tn i s'.heap ∧ (∀ b ∈ fp, H5 b = none) ∧ W i n ys H5) ?_ n5 ⟨i5, o5, ys5, H5, I5, st5, fr5, w5⟩
    rintro n s6 ⟨i, o, ys, H6, I6, st6, fr6, w6⟩
    rcases hturn i n ys H6 w6 with ⟨stop, qn⟩ | ⟨go, step⟩
    · refine thn (T.done (cxComp X scope x N' s3.heap.objs.size s3 (upd H2 s2.heap.objs.size (.lst [])) fp (X.pn ++ pins)) rfl rfl rfl hc i [] s6 _ H6 _ I6 (fx fr6) st6 stop) fun r s7 ⟨hr, I7⟩ => ?_
      subst hr
      obtain ⟨m7, hn7, _⟩ := id I7.loc
      have I8 : Inv X pins σ H6 s7 := I3.call' I7.os I7.base I7.hok I7.bare fun b hb => by
        obtain ⟨_, g1, g2, g3, g4, g5⟩ := f3 b hb
        exact ⟨g3, g1, g4, g5⟩
      have f8 : FpOk X pins H6 s3.heap.objs.size := I3.fpOk (Nat.le_refl _) I7.free
      exact hend _ _ H6 s7 m7 I8 hn7 f8 qn
    · refine thn (T.item (cxComp X scope x N' s3.heap.objs.size s3 (upd H2 s2.heap.objs.size (.lst [])) fp (X.pn ++ pins)) rfl rfl rfl hc i [] s6 _ H6 _ I6 (fx fr6) st6 go) fun r s7 ⟨u, hr, h7⟩ => ?_
      subst hr
      refine thn h7 fun _ s8 ⟨v, H8, I8, r8, y8, st8, fr8⟩ => ?_
      have I8' := I8.pinned (fx fr8) (T.obj _ _ st8)
      refine wpAny_assign_Name (store_ok I8' (i := 0) (List.nodup_cons.mpr ⟨S.nin, S.nd⟩) rfl (.inl (lookup_relabel_local S.loc)) r8 (fun s9 I9 => ?_) (.inr (lookup_relabel_local S.loc)))
      have I9 : Inv (cxComp X scope x N' s3.heap.objs.size s3 (upd H2 s2.heap.objs.size (.lst [])) fp (X.pn ++ pins)) ([] ++ pinsAt fp s8.heap) (some v :: σ) H8 s9 := I9
      refine thn (ht _ _ _ _ _ _ s9 (some v :: σ) H8 _ _ I9 (step v H8 y8)) fun b s10 ⟨H10, I10, q10⟩ => ?_
      have back : ∀ {s' : Shared} {H' : Hp} {ys' : List V} {m' : Nat}, Inv (cxComp X scope x N' s3.heap.objs.size s3 (upd H2 s2.heap.objs.size (.lst [])) fp (X.pn ++ pins)) ([] ++ pinsAt fp s8.heap) (some v :: σ) H' s' → W (i + 1) m' ys' H' →
          ∃ (i : Nat) (o : Option V) (ys : List V) (H5 : Hp), Inv (cxComp X scope x N' s3.heap.objs.size s3 (upd H2 s2.heap.objs.size (.lst [])) fp (X.pn ++ pins)) [] (o :: σ) H5 s' ∧ tn i s'.heap ∧ (∀ b ∈ fp, H5 b = none) ∧ W i m' ys H5 := fun {s' H' ys' m'} I' w' => by
        refine ⟨i + 1, some v, ys', H', I'.unpinned, T.keep _ _ _ st8 fun b hb o e => (I'.pin (b, o) (List.mem_append_right _ (List.mem_append_right _ (mem_pinsAt hb e)))).1, fun b hb => ?_, w'⟩
        obtain ⟨o, e, d⟩ := T.obj _ _ st8 b hb
        exact (I'.pin (b, o) (List.mem_append_right _ (List.mem_append_right _ (mem_pinsAt hb e)))).2.1
      cases b with
      | false =>
        rw [if_neg Bool.false_ne_true] at q10 ⊢
        obtain ⟨m', hm, w'⟩ := q10
        exact ⟨m', hm, back I10 w'⟩
      | true =>
        rw [if_pos rfl] at q10 ⊢
        refine thn (he _ _ _ _ _ _ s10 (some v :: σ) H10 _ I10 q10) fun y s11 ⟨yv, H11, I11, r11, hD, hz, m', hm, w'⟩ => ?_
        have ap := mt_append (X := cxComp X scope x N' s3.heap.objs.size s3 (upd H2 s2.heap.objs.size (.lst [])) fp (X.pn ++ pins)) _ s11 (some v :: σ) H11 (.ref s2.heap.objs.size) [yv] (.ref s2.heap.objs.size) [y] (fun _ H' => W (i + 1) m' (ys ++ [yv]) H') I11 rfl (.cons r11 .nil) ⟨_, ys, yv, rfl, rfl, hD, hz, w'⟩
        exact thn ap fun _ s12 ⟨_, H12, I12, _, w12⟩ => ⟨m', hm, back I12 w12⟩
  have l4 := loop { s3 with heap := h4, toks := s3.toks + ([] : List (Str × Value)).length } ⟨0, m0, none, [], _, I4, st4, fun b hb => (f3 b hb).1, w0⟩
  exact codeAny_compStart_list l4 (T.self _ _ _ _ _ st4 l4)
theorem pe_comp {elt iter : Expr} {x : Str} {N' : List Str} {px : Pos} {ifs : List Expr} {scope : Scope} {pos : Pos} {wi : TI} {tt : TT} {te : TE} (hc : X.calm = true) (hi : PI X (.Name x px) iter wi) (S : CompSc X scope x N')
    (ht : ∀ C s H fp pn, PTs (cxComp X scope x N' C s H fp pn) ifs tt) (he : ∀ C s H fp pn, PE (cxComp X scope x N' C s H fp pn) elt te) (hs : ∀ x, foldedSetIterable iter X.env x = pure x := by intro _; rfl) :
    PE X (.ListComp elt [⟨.Name x px, iter, ifs, 0⟩] scope pos) (tComp wi tt te) := by
  intro pins s σ H Q I h
  have hcells : ∀ y ∈ scope.names, y.2 = .free → ∃ c, X.env.cells.lookup y.1 = some c := fun y hy hk => I.ok.has y.1 (S.free y hy hk)
  rw [eval_ListComp]
  refine wpAny_comprehension_free (use := none) rfl hs (closure_of hcells) S.kind S.names (thn (hi pins s σ H _ I h) fun xv s1 h1 => thn h1 fun itv s2 h2 => ?_)
  refine comp_core (RR := fun acc C => compPost (model X.prog X.w) X.A X.xe none (EP X pins σ Q) acc C) hc S ht he h2 fun D C H6 s7 m7 I8 hn7 f8 qn => ?_
  refine ⟨m7, hn7, fun h' hs' => ?_⟩
  obtain ⟨g0, g1, g2, g3, g4, g5⟩ := f8
  exact ⟨.ref D, H6, I8.turned (t' := s7.toks) (fun b o hb e => (hs'.2 b hb).trans e) g0 g1 g3 g4 g5, rfl, qn⟩
theorem ps_comp {elt iter : Expr} {x y : Str} {N' : List Str} {i : Nat} {px py : Pos} {ifs : List Expr} {scope : Scope} {pos spos : Pos} {wi : TI} {tt : TT} {te : TE} (hN : X.N.Nodup) (hiy : X.N[i]? = some y) (hy : Loc X.env.scope y) (hc : X.calm = true) (hi : PI X (.Name x px) iter wi) (S : CompSc X scope x N')
    (ht : ∀ C s H fp pn, PTs (cxComp X scope x N' C s H fp pn) ifs tt) (he : ∀ C s H fp pn, PE (cxComp X scope x N' C s H fp pn) elt te)
    (hsw : swapsWith (.ListComp elt [⟨.Name x px, iter, ifs, 0⟩] scope pos) (some (.Name y py)) spos.line X.env = pure true := by rfl) (hs : ∀ x, foldedSetIterable iter X.env x = pure x := by intro _; rfl)
    (hf : X.fn y = true ∨ X.env.scope.names.lookup y = some .local := by first | exact .inl rfl | exact .inr rfl | assumption) :
    PS X (.Assign [.Name y py] (.ListComp elt [⟨.Name x px, iter, ifs, 0⟩] scope pos) spos) (tAsg (tComp wi tt te) (gName i)) := by
  intro pins s σ H D I h
  have hcells : ∀ y ∈ scope.names, y.2 = .free → ∃ c, X.env.cells.lookup y.1 = some c := fun y hy hk => I.ok.has y.1 (S.free y hy hk)
  rw [exec_Assign_Name_used _ _ _ _ hsw]
  refine wpAny_bind (wpAny_standAt (wpAny_bind ?_))
  show wpAny _ X.A (do let _ ← comprehension (.ListComp elt [⟨.Name x px, iter, ifs, 0⟩] scope pos) scope X.env _ (newList []) false (eval iter X.env) (some (assign (.Name y py) X.env))) _ _ s
  refine wpAny_bind (thn (wpAny_comprehension_free (use := some (assign (.Name y py) X.env)) (Q := fun _ s' => SP X pins D .next s') rfl hs (closure_of hcells) S.kind S.names
    (thn (hi pins s σ H _ I h) fun xv s1 h1 => thn h1 fun itv s2 h2 => ?_)) fun _ s' hq => wpAny_pure (wpAny_pure hq))
  refine comp_core (RR := fun acc C => compPost (model X.prog X.w) X.A X.xe (some (assign (.Name y py) X.env)) (fun _ s' => SP X pins D .next s') acc C) hc S ht he h2 fun L C H6 s7 m7 I8 hn7 f8 qn => ?_
  obtain ⟨g0, g1, g2, g3, g4, g5⟩ := f8
  show wpAny _ X.A (assign (.Name y py) X.env (.ref L)) _ _ _
  refine wpAny_assign_Name (store_ok2 I8 hN hiy hy (v := .ref L) (u := .ref L) rfl (fun s8 I9 hch => ?_) hf)
  obtain ⟨a, hsb, ha⟩ := hch
  have hCa : C ≠ a := by
    rcases ha with z | z
    · rw [z]; exact g1
    · exact fun w => g4 _ _ z w.symm
  refine ⟨m7, hn7.sameBut hsb hCa, fun h' hs' => ?_⟩
  exact ⟨_, H6, I9.turned (t' := s8.toks) (fun b o hb e => (hs'.2 b hb).trans e) g0 g1 g3 g4 g5, qn⟩
end
end L2
set_option Elab.async false
set_option linter.all false
set_option maxRecDepth 100000
set_option maxHeartbeats 4000000
namespace L2
open PySem PySem.Spec PyProof.Rows
noncomputable def compOk (sc scope : Scope) (N N' : List Str) (x : Str) : Bool :=
  decide (scope.names.lookup x = some .local) && scope.names.all (fun y => decide (y.2 ≠ .cell)) && decide (scope.kind = .function) && scope.names.all (fun y => decide (y.2 = .local → scope.names.lookup y.1 = some .local)) &&
  scope.names.all (fun y => decide (y.2 = .free → sc.names.lookup y.1 = some .cell ∨ sc.names.lookup y.1 = some .free)) && decide (x ∉ N') && decide N'.Nodup && decide (N'.length = N.length) &&
  (List.range N'.length).all (fun i => match N'[i]? with | some y => decide (N[i]? = some y ∨ scope.names.lookup y = none) | none => true) && scope.names.all (fun y => decide (y.2 = .local → y.1 = x ∨ y.1 ∉ N'))
theorem comp_sc {X : Cx} {scope : Scope} {x : Str} (sc : Scope) (N N' : List Str) (hsc : X.env.scope = sc) (hN : X.N = N) (h : compOk sc scope N N' x = true) : CompSc X scope x N' := by
  subst hsc hN
  unfold compOk at h
  simp only [Bool.and_eq_true, List.all_eq_true, decide_eq_true_eq] at h
  obtain ⟨⟨⟨⟨⟨⟨⟨⟨⟨h1, h2⟩, h3⟩, h4⟩, h5⟩, h6⟩, h7⟩, h7'⟩, h8'⟩, h8⟩ := h
  refine ⟨h1, h2, h3, h4, h5, h6, h7, h7', fun i y e => ?_, h8⟩
  have hi : i < N'.length := (List.getElem?_eq_some_iff.mp e).1
  have z := h8' i (List.mem_range.mpr hi)
  rw [e] at z
  exact of_decide_eq_true z
noncomputable def Its (x : Str) : It := ⟨fun i _ => i < x.cps.size, fun i H v H' => H' = H ∧ ∃ c, x.cps[i]? = some c ∧ v = .str ⟨#[c]⟩, fun i _ => x.cps.size = i⟩
section
variable {X : Cx} {tg : Expr}
noncomputable def iStr (tl : TE) : TI := fun σ H R => tl σ H fun v H1 => ∃ x, v = .str x ∧ R (Its x) H1
end
structure Row (J : It) (n : Nat) (vs : Nat → V) (Ok : Hp → Prop) : Prop where
  go : ∀ i H, i < n → Ok H → J.go i H
  yld : ∀ i H v H', i < n → Ok H → J.yld i H v H' → H' = H ∧ v = vs i
  stop : ∀ H, Ok H → J.stop n H
theorem row_range (lo : Int) (n : Nat) : Row (Itr lo n) n (fun i => .int (lo + i)) (fun _ => True) := ⟨fun i H h _ => h, fun i H v H' _ _ h => h, fun H _ => Nat.le_refl n⟩
theorem row_list {K : PySem.W.Frag} {a : Addr} {xs : List V} : Row (Itl K a) xs.length (fun i => xs.getD i .non) (fun H => SqL K H a xs) := ⟨fun i H h q => ⟨xs, xs[i], q, by simp [h]⟩, fun i H v H' hi q h => by
  obtain ⟨e, y⟩ := h
  refine ⟨e, ?_⟩
  have := y xs q
  rw [List.getD_eq_getElem?_getD, this]; rfl, fun H q => ⟨xs, q, Nat.le_refl _⟩⟩
theorem row_tup {K : PySem.W.Frag} {a : Addr} {xs : List V} : Row (Itt K a) xs.length (fun i => xs.getD i .non) (fun H => SqT K H a xs) := ⟨fun i H h q => ⟨xs, xs[i], q, by simp [h]⟩, fun i H v H' hi q h => by
  obtain ⟨e, y⟩ := h
  refine ⟨e, ?_⟩
  have := y xs q
  rw [List.getD_eq_getElem?_getD, this]; rfl, fun H q => ⟨xs, q, Nat.le_refl _⟩⟩
noncomputable def ForW (J : It) (g : TG) (tb : TS) (D : Ends) (σ : St) (H : Hp) : Prop := ∃ W : Nat → Nat → St → Hp → Prop, (∃ m, W 0 m σ H) ∧ ∀ i m σ H, W i m σ H →
      (J.stop i H ∧ D.nx σ H) ∨ (J.go i H ∧ ∃ N : St → Hp → Prop, (∀ σ' H', N σ' H' → ∃ m', m' < m ∧ W (i + 1) m' σ' H') ∧ ∀ x H', J.yld i H x H' → g x σ H' fun σ2 H2 => tb { D with nx := N, ct := N, bk := D.nx } σ2 H2)
theorem for_row {J : It} {n : Nat} {vs : Nat → V} {Ok : Hp → Prop} (R : Row J n vs Ok) {g : TG} {tb : TS} {D : Ends} {σ : St} {H : Hp} (Pv : Nat → St → Hp → Prop) (h0 : Pv 0 σ H) (hok : ∀ i σ H, Pv i σ H → Ok H)
    (hs : ∀ i σ H, i < n → Pv i σ H → g (vs i) σ H fun σ2 H2 => tb { D with nx := Pv (i + 1), ct := Pv (i + 1), bk := D.nx } σ2 H2) (hd : ∀ σ H, Pv n σ H → D.nx σ H) :
    ForW J g tb D σ H := by
  refine ⟨fun i m σ H => m = n - i ∧ i ≤ n ∧ Pv i σ H, ⟨n, by simp, Nat.zero_le _, h0⟩, ?_⟩
  rintro i m σ H ⟨rfl, hi, p⟩
  by_cases hlt : i < n
  · refine .inr ⟨R.go i H hlt (hok i σ H p), Pv (i + 1), fun σ' H' p' => ⟨n - (i + 1), by omega, rfl, hlt, p'⟩, fun x H' y => ?_⟩
    obtain ⟨e1, e2⟩ := R.yld i H x H' hlt (hok i σ H p) y
    subst e1 e2
    exact hs i σ _ hlt p
  · have e : i = n := by omega
    subst e
    exact .inl ⟨R.stop H (hok i σ H p), hd σ H p⟩
theorem comp_row {J : It} {n : Nat} {vs : Nat → V} {Ok : Hp → Prop} (R : Row J n vs Ok) {te : TE} {Q : VK} {σ : St} {H1 : Hp} {D : Addr} (Pv : Nat → List V → Hp → Prop) (hn : n ≤ sizeLine) (h0 : Pv 0 [] (upd H1 D (.lst []))) (hok : ∀ i ys H, Pv i ys H → Ok H)
    (hs : ∀ i ys H (Q' : VK), i < n → ys.length = i → Pv i ys H → (∀ y H4, H4 D = some (.lst ys) → Pv (i + 1) (ys ++ [y]) (upd H4 D (.lst (ys ++ [y]))) → Q' y H4) → te (some (vs i) :: σ) H Q')
    (hd : ∀ ys H, ys.length = n → Pv n ys H → Q (.ref D) H) :
    CompW J tYes te σ Q D H1 := by
  refine ⟨fun i m ys H => m = n - i ∧ i ≤ n ∧ ys.length = i ∧ Pv i ys H, ⟨n, by simp, Nat.zero_le _, rfl, h0⟩, ?_⟩
  rintro i m ys H ⟨rfl, hi, hl, p⟩
  by_cases hlt : i < n
  · refine .inr ⟨R.go i H hlt (hok i ys H p), fun v H2 y => ?_⟩
    obtain ⟨e1, e2⟩ := R.yld i H v H2 hlt (hok i ys H p) y
    subst e1 e2
    exact hs i ys _ _ hlt hl p fun v H4 q1 q2 => ⟨q1, by omega, n - (i + 1), by omega, rfl, hlt, by simp [hl], q2⟩
  · have e : i = n := by omega
    subst e
    exact .inl ⟨R.stop H (hok _ ys H p), hd ys H hl p⟩
end L2
set_option Elab.async false
set_option linter.all false
set_option maxRecDepth 100000
set_option maxHeartbeats 4000000
namespace L2
open PySem PySem.Spec PyProof.Rows
noncomputable def mVar (i : Nat) : TE := fun σ H Q => match σ[i]? with | some (some v) => Q v H | _ => False
noncomputable def mB (Q : Bool → Hp → Prop) : VK := fun z H' => match z with | .bl k => Q k H' | _ => False
theorem mB_eq (Q : Bool → Hp → Prop) : mB Q = fun z H' => ∃ k, z = .bl k ∧ Q k H' := by
  funext z H'
  cases z <;> simp [mB]
section
variable {X : Cx} {a b c e : Expr} {ta tb tc te : TE} {pos : Pos}
theorem mv (i : Nat) {x : Str} {pos : Pos} (hN : X.N[i]? = some x := by rfl) (hv : Vis X.env.scope x := by first | exact Or.inl rfl | exact Or.inr (Or.inl rfl) | exact Or.inr (Or.inr rfl)) (hd : (x == ("__debug__" : Str)) = false := by decide)
    (hcd : (x == ("__classdict__" : Str)) = false := by decide) : PE X (.Name x pos) (mVar i) := by
  intro pins s σ H Q I h
  refine pe_var hN hv hd hcd pins s σ H Q I ?_
  unfold mVar at h
  split at h
  · rename_i v q; exact ⟨v, q, h⟩
  · exact h.elim
noncomputable def m2 (C : Int → Int → Prop) (g : Int → Int → V) : R2 := fun x y H Q => match x, y with
  | .int i, .int j => C i j ∧ Q (g i j) H
  | _, _ => False
noncomputable def m20 (g : Int → Int → V) : R2 := fun x y H Q => match x, y with
  | .int i, .int j => Q (g i j) H
  | _, _ => False
theorem m2_to {C : Int → Int → Prop} {g : Int → Int → V} {x y : V} {H : Hp} {Q : VK} (h : m2 C g x y H Q) : rI C g x y H Q := by
  cases x <;> cases y <;> first | exact (show False from h).elim | exact ⟨_, _, rfl, rfl, h⟩
theorem m20_to {g : Int → Int → V} {x y : V} {H : Hp} {Q : VK} (h : m20 g x y H Q) : rI0 g x y H Q := by
  cases x <;> cases y <;> first | exact (show False from h).elim | exact ⟨_, _, rfl, rfl, h⟩
theorem OpR.imp {f : Value → Value → Sem Value} {r r' : R2} (h : OpR X f r) (k : ∀ x y H Q, r' x y H Q → r x y H Q) : OpR X f r' := fun pins s σ H x y v u Q I rx ry q => h pins s σ H x y v u Q I rx ry (k x y H Q q)
noncomputable def mAdd (K : PySem.W.Frag) : R2 := fun x y H Q => match x, y with
  | .int i, .int j => Q (.int (i + j)) H
  | .str i, .str j => i.length + j.length ≤ sizeLine ∧ Q (.str (i ++ j)) H
  | .ref p, .ref q => (∃ xs ys, H p = some (.lst xs) ∧ H q = some (.lst ys) ∧ xs.length + ys.length ≤ sizeLine ∧ ∀ d, H d = none → Q (.ref d) (upd H d (.lst (xs ++ ys)))) ∨
      ∃ xs ys, SqT K H p xs ∧ SqT K H q ys ∧ xs ≠ [] ∧ xs.length + ys.length ≤ sizeLine ∧ (ys = [] → Q (.ref p) H) ∧ (ys ≠ [] → ∀ d, H d = none → Q (.ref d) (upd H d (.tup (xs ++ ys))))
  | _, _ => False
theorem mo_add : OpR X (binaryOp .Add) (mAdd X.K) := by
  refine (op_add.or (op_add_str.or (op_cat.or op_catT))).imp fun x y H Q h => ?_
  cases x <;> cases y <;> first
    | exact (show False from h).elim
    | exact .inl ⟨_, _, rfl, rfl, h⟩
    | exact .inr (.inl ⟨_, _, rfl, rfl, h⟩)
    | (rcases h with ⟨xs, ys, h1, h2, h3, h4⟩ | ⟨xs, ys, h1, h2, h3, h4, h5⟩
       · exact .inr (.inr (.inl ⟨_, _, xs, ys, rfl, rfl, h1, h2, h3, h4⟩))
       · exact .inr (.inr (.inr ⟨_, _, xs, ys, rfl, rfl, h1, h2, h3, h4, h5⟩)))
theorem mo_sub : OpR X (binaryOp .Sub) (m20 fun i j => .int (i - j)) := op_sub.imp fun _ _ _ _ h => m20_to h
noncomputable def mMul : R2 := fun x y H Q => match x, y with
  | .int i, .int j => IntMulOk i j ∧ Q (.int (i * j)) H
  | .ref l, .int k => ∃ xs, H l = some (.lst xs) ∧ -(2 ^ 63) ≤ k ∧ k < 2 ^ 63 ∧ xs.length * k.toNat ≤ sizeLine ∧ ∀ p, H p = none → Q (.ref p) (upd H p (.lst (List.replicate k.toNat xs).flatten))
  | _, _ => False
theorem op_mulW : OpR X (binaryOp .Mult) (rI (fun i j => IntMulOk i j) fun i j => .int (i * j)) := opI fun _ _ _ _ _ _ _ hc q => mul_int q hc
theorem mo_mul : OpR X (binaryOp .Mult) mMul := by
  refine (op_mulW.or op_rep).imp fun x y H Q h => ?_
  cases x <;> cases y <;> first
    | exact (show False from h).elim
    | exact .inl ⟨_, _, rfl, rfl, h⟩
    | (obtain ⟨xs, h1, h2, h3, h4, h5⟩ := h; exact .inr ⟨_, _, xs, rfl, rfl, h1, h2, h3, h4, h5⟩)
theorem mo_fdiv : OpR X (binaryOp .FloorDiv) (m2 CDiv fun i j => .int (i / j)) := op_fdiv.imp fun _ _ _ _ h => m2_to h
theorem mo_mod : OpR X (binaryOp .Mod) (m2 (fun _ j => 0 < j) fun i j => .int (i % j)) := op_mod.imp fun _ _ _ _ h => m2_to h
theorem mo_pow : OpR X (binaryOp .Pow) (m2 CPow fun i j => .int (i ^ j.toNat)) := op_pow.imp fun _ _ _ _ h => m2_to h
theorem mo_lt : OpR X (compareOp .Lt) (m20 fun i j => .bl (decide (i < j))) := op_lt.imp fun _ _ _ _ h => m20_to h
theorem mo_gt : OpR X (compareOp .Gt) (m20 fun i j => .bl (decide (j < i))) := op_gt.imp fun _ _ _ _ h => m20_to h
noncomputable def mEq (n : Bool) : R2 := fun x y H Q => match x, y with
  | .int i, .int j => Q (.bl (n ^^ decide (i = j))) H
  | .str i, .str j => Q (.bl (n ^^ decide (i = j))) H
  | .bl i, .bl j => Q (.bl (n ^^ decide (i = j))) H
  | .non, .non => Q (.bl (n ^^ true)) H
  | .non, .int _ => Q (.bl n) H
  | .non, .str _ => Q (.bl n) H
  | .non, .bl _ => Q (.bl n) H
  | .int _, .non => Q (.bl n) H
  | .str _, .non => Q (.bl n) H
  | .bl _, .non => Q (.bl n) H
  | .int _, .str _ => Q (.bl n) H
  | .str _, .int _ => Q (.bl n) H
  | .bl _, .str _ => Q (.bl n) H
  | .str _, .bl _ => Q (.bl n) H
  | _, _ => False
theorem mo_eq : OpR X (compareOp .Eq) (mEq false) := by
  refine op_eq.imp fun x y H Q h => ?_
  cases x <;> cases y <;> first
    | exact (show False from h).elim
    | exact ⟨rfl, by simpa [mEq] using h⟩
theorem mo_ne : OpR X (compareOp .NotEq) (mEq true) := by
  refine op_ne.imp fun x y H Q h => ?_
  cases x <;> cases y <;> first
    | exact (show False from h).elim
    | exact ⟨rfl, by simpa [mEq] using h⟩
noncomputable def mTest (t : TE) : TT := fun σ H Q => t σ H (mB Q)
theorem mTest_eq (t : TE) : mTest t = tTest t := by
  funext σ H Q
  show t σ H (mB Q) = t σ H _
  rw [mB_eq]
theorem mt_cmp {op : CmpOp} {r : R2} (ho : OpR X (compareOp op) r) (ha : PE X a ta) (hb : PE X b tb) (hm : behindInMarks op b = false) : PT X (.Compare a [op] [b] pos) (mTest (tOp r ta tb)) := by
  rw [mTest_eq]; exact pt_cmpR ho ha hb hm
noncomputable def mChain (r r' : R2) (ta tb tc : TE) : TE := fun σ H Q => ta σ H fun x H1 => tb σ H1 fun y H2 => r x y H2 (mB fun k H3 => if k = true then tc σ H3 fun w' H4 => r' y w' H4 Q else Q (.bl false) H3)
noncomputable def mTru (K : PySem.W.Frag) (Q : Bool → Hp → Prop) : VK := fun x H => match x with
  | .non => Q false H
  | .bl b => Q b H
  | .int i => Q (decide (i ≠ 0)) H
  | .str y => y.length ≤ sizeLine ∧ Q (decide (y.length ≠ 0)) H
  | .ref p => (∃ xs, SqL K H p xs ∧ Q (!xs.isEmpty) H) ∨ (∃ xs, SqT K H p xs ∧ Q (!xs.isEmpty) H) ∨ ∃ kvs, H p = some (.dK kvs) ∧ Q (!kvs.isEmpty) H
  | _ => False
theorem mTru_to {K : PySem.W.Frag} {Q : Bool → Hp → Prop} {x : V} {H : Hp} (h : mTru K Q x H) : ∃ k, TruV K x H k ∧ Q k H := by
  cases x with
  | non => exact ⟨_, rfl, h⟩
  | bl b => exact ⟨_, rfl, h⟩
  | int i =>
    have h : Q (decide (i ≠ 0)) H := h
    refine ⟨i != 0, rfl, ?_⟩
    have e : (i != 0) = decide (i ≠ 0) := by
      rw [Bool.eq_iff_iff]; simp
    rw [e]; exact h
  | str y =>
    obtain ⟨h1, h⟩ : y.length ≤ sizeLine ∧ Q (decide (y.length ≠ 0)) H := h
    refine ⟨((y.length : Int) != 0), ⟨h1, rfl⟩, ?_⟩
    have e : ((y.length : Int) != 0) = decide (y.length ≠ 0) := by
      rw [Bool.eq_iff_iff]; simp
    rw [e]; exact h
  | ref p =>
    rcases h with ⟨xs, h1, h2⟩ | ⟨xs, h1, h2⟩ | ⟨xs, h1, h2⟩
    · exact ⟨_, .inl ⟨xs, h1, rfl⟩, h2⟩
    · exact ⟨_, .inr (.inl ⟨xs, h1, rfl⟩), h2⟩
    · exact ⟨_, .inr (.inr ⟨xs, h1, rfl⟩), h2⟩
  | _ => exact (show False from h).elim
noncomputable def mTrue (K : PySem.W.Frag) (ta : TE) : TT := fun σ H Q => ta σ H (mTru K Q)
theorem mt_tru (ha : PE X a ta) (he : ∀ whole, isTrue a X.env whole = (do let v ← whole; standAt a.pos; holding [v] (truthy v)) := by intro _; rfl) : PT X a (mTrue X.K ta) := by
  intro pins s σ H Q I h
  exact isTrue_plain (thn (ha pins s σ H _ I h) fun v s1 ⟨x, H1, I1, r1, q1⟩ => tru_ok pins s1 σ H1 x v Q I1 r1 (mTru_to q1)) (he _)
noncomputable def mAndV (ta tb : TE) : TE := fun σ H Q => ta σ H (mB fun c H1 => if c = true then tb σ H1 Q else Q (.bl false) H1)
noncomputable def mOrV (ta tb : TE) : TE := fun σ H Q => ta σ H (mB fun c H1 => if c = true then Q (.bl true) H1 else tb σ H1 Q)
variable {rest : List Expr}
theorem me_and (ha : PE X a ta) (hb : PE X (.BoolOp .And (b :: rest) pos) tb) : PE X (.BoolOp .And (a :: b :: rest) pos) (mAndV ta tb) := by
  have e : mAndV ta tb = tAndV ta tb := by funext σ H Q; unfold mAndV tAndV; rw [mB_eq]
  rw [e]; exact pe_and ha hb
noncomputable def mIx (K : PySem.W.Frag) : R2 := fun x y H Q => match x, y with
  | .ref p, .int i => (∃ xs v, SqL K H p xs ∧ atI xs i = some v ∧ Q v H) ∨ ∃ xs v, SqT K H p xs ∧ atI xs i = some v ∧ Q v H
  | .str z, .int i => z.length ≤ sizeLine ∧ ∃ c, atI z.cps.toList i = some c ∧ Q (.str ⟨#[c]⟩) H
  | _, _ => False
theorem mi_seq : IxR X (mIx X.K) := by
  intro value slice pins s σ H x y v u Q I rx ry h hs
  refine ix_seq value slice pins s σ H x y v u Q I rx ry ?_ hs
  cases x <;> cases y <;> first
    | exact (show False from h).elim
    | (rcases h with ⟨xs, v, h1, h2, h3⟩ | ⟨xs, v, h1, h2, h3⟩
       · exact .inl ⟨_, xs, _, v, rfl, rfl, h1, h2, h3⟩
       · exact .inr (.inl ⟨_, xs, _, v, rfl, rfl, h1, h2, h3⟩))
    | (obtain ⟨h1, c, h2, h3⟩ := h; exact .inr (.inr ⟨_, _, c, rfl, rfl, h1, h2, h3⟩))
noncomputable def inS (i j : Str) : Bool := !(Builtin.Str.occurrences j i 0 j.length 1).isEmpty
noncomputable def mInS (n : Bool) : R2 := fun x y H Q => match x, y with
  | .str i, .str j => Q (.bl (n ^^ inS i j)) H
  | _, _ => False
noncomputable def mI (R : Option Int → Hp → Prop) : VK := fun x H1 => match x with | .int i => R (some i) H1 | _ => False
noncomputable def mPart (t : TE) : TO := fun σ H Q => t σ H (mI Q)
theorem mp_some (h : PE X e te) : PO X (some e) (mPart te) := by
  have q : mPart te = tPart te := by
    funext σ H Q
    unfold mPart tPart
    congr 1
    funext x H1
    cases x <;> simp [mI]
  rw [q]; exact po_some h
noncomputable def mLen (K : PySem.W.Frag) : List V → Hp → VK → Prop := fun vs H Q => match vs with
  | [.str y] => y.length ≤ sizeLine ∧ Q (.int y.length) H
  | [.ref p] => (∃ xs, SqL K H p xs ∧ Q (.int xs.length) H) ∨ ∃ xs, SqT K H p xs ∧ Q (.int xs.length) H
  | _ => False
theorem mc_len : CallR X (.builtin "len") (mLen X.K) := by
  intro pins s σ H xs us Q I r h
  refine call_len pins s σ H xs us Q I r ?_
  unfold mLen at h
  split at h
  · exact ⟨_, _, rfl, ⟨h.1, rfl⟩, h.2⟩
  · rcases h with ⟨ys, h1, h2⟩ | ⟨ys, h1, h2⟩
    · exact ⟨_, _, rfl, .inl ⟨ys, h1, rfl⟩, h2⟩
    · exact ⟨_, _, rfl, .inr ⟨ys, h1, rfl⟩, h2⟩
  · exact h.elim
theorem kit_same (K : PySem.W.Frag) (t : Value) : PySem.W.kitOne K t t = some true := by
  unfold PySem.W.kitOne
  rw [if_pos (by simp)]
end
end L2
set_option Elab.async false
set_option linter.all false
set_option maxRecDepth 100000
set_option maxHeartbeats 4000000
namespace L2
open PySem PySem.Spec PyProof.Rows
section
variable {X : Cx} {a b c e : Expr} {ta tb tc te : TE} {pos : Pos}
noncomputable def mNotV (K : PySem.W.Frag) (ta : TE) : TE := fun σ H Q => ta σ H (mTru K fun b H' => Q (.bl (!b)) H')
noncomputable def mAppend : V → List V → Hp → VK → Prop := fun x vs H Q => match x, vs with
  | .ref l, [y] => ∃ xs, H l = some (.lst xs) ∧ xs.length < sizeLine ∧ Q .non (upd H l (.lst (xs ++ [y])))
  | _, _ => False
theorem mm_append : MtR X "list.append" mAppend := by
  intro pins s σ H x xs v us Q I rx rs h
  refine mt_append pins s σ H x xs v us Q I rx rs ?_
  unfold mAppend at h
  split at h
  · obtain ⟨ys, h1, h2, h3⟩ := h
    exact ⟨_, ys, _, rfl, rfl, h1, h2, h3⟩
  · exact h.elim
noncomputable def mPop : V → List V → Hp → VK → Prop := fun x vs H Q => match x, vs with
  | .ref l, [] => ∃ xs y, H l = some (.lst (xs ++ [y])) ∧ Q y (upd H l (.lst xs))
  | _, _ => False
theorem mm_pop : MtR X "list.pop" mPop := by
  intro pins s σ H x xs v us Q I rx rs h
  refine mt_pop pins s σ H x xs v us Q I rx rs ?_
  unfold mPop at h
  split at h
  · obtain ⟨ys, y, h1, h2⟩ := h
    exact ⟨_, _, y, rfl, rfl, h1, by simp, by rw [List.dropLast_concat]; exact h2⟩
  · exact h.elim
noncomputable def mUn (g : Int → Int) : V → Hp → VK → Prop := fun x H Q => match x with | .int i => Q (.int (g i)) H | _ => False
theorem mu_neg : UnR X (unaryOp .USub) (mUn fun i => -i) := by
  intro pins s σ H x v Q I rx h
  refine un_neg pins s σ H x v Q I rx ?_
  cases x <;> first | exact (show False from h).elim | exact ⟨_, rfl, h⟩
end
section
variable {X : Cx}
end
section
variable {X : Cx} {a b c e o : Expr} {es : List Expr} {ta tb tc te to : TE} {t : TA} {pos : Pos} {tg l : Expr} {tl : TE}
theorem pe_bty {x : Str} {n : String} {pos : Pos} (hg : Gl X x) (hm : X.mg x = none) (hv : bootBuiltins x = some (.type n)) (hn : x ≠ "__name__" := by decide) (hd : (x == ("__debug__" : Str)) = false := by decide) : PE X (.Name x pos) (tC (.ty n)) := pe_bltn hg hm hv rfl hn hd
theorem ko_add (K : PySem.W.Frag) (h : X.K = K) : OpR X (binaryOp .Add) (mAdd K) := h ▸ mo_add
theorem kt_tru (K : PySem.W.Frag) (h : X.K = K) (ha : PE X a ta) (he : ∀ whole, isTrue a X.env whole = (do let v ← whole; standAt a.pos; holding [v] (truthy v)) := by intro _; rfl) : PT X a (mTrue K ta) := h ▸ mt_tru ha he
theorem ki_seq (K : PySem.W.Frag) (h : X.K = K) : IxR X (mIx K) := h ▸ mi_seq
theorem kc_len (K : PySem.W.Frag) (h : X.K = K) : CallR X (.builtin "len") (mLen K) := h ▸ mc_len
theorem kpi_list (K : PySem.W.Frag) (h : X.K = K) (hl : PE X l tl) : PI X tg l (iList K tl) := h ▸ pi_list hl
theorem kpi_tup (K : PySem.W.Frag) (h : X.K = K) (hl : PE X l tl) : PI X tg l (iTup K tl) := h ▸ pi_tup hl
theorem ke_bm0 (K : PySem.W.Frag) (h : X.K = K) {name : Str} {apos cpos : Pos} {T id : String} {r : V → List V → Hp → VK → Prop} (pa : PlainAttrs T) (slot : Slot T name id) (hty : typeOf (.builtin id) = pure (.type "method_descriptor")) (hm : MtR X id r) (ho : PE X o to)
    (hbase : attributeBase o name X.env (eval o X.env) = eval o X.env := by rfl) (hline : (apos.endLine == cpos.line) = true := by rfl) : PE X (.Call (.Attribute o name apos) [] [] cpos) (tBM0 K T r to) := h ▸ pe_bm0 pa slot hty hm ho hbase hline
theorem ke_bm (K : PySem.W.Frag) (h : X.K = K) {name : Str} {apos cpos : Pos} {T id : String} {r : V → List V → Hp → VK → Prop} (pa : PlainAttrs T) (slot : Slot T name id) (hty : typeOf (.builtin id) = pure (.type "method_descriptor")) (hm : MtR X id r) (ho : PE X o to) (ha : PA X (e :: es) t)
    (hbase : attributeBase o name X.env (eval o X.env) = eval o X.env := by rfl)
    (hfew : ((backTo cpos (starEach (e :: es) X.env)).all (fun x => !x.1) && (backToKw cpos (keywordEach [] X.env)).all (fun x => x.1.isSome)
      && decide ((e :: es).length + ([] : List Keyword).length + (if ([] : List Keyword).isEmpty then 0 else 1) < 30)) = true := by rfl)
    (hline : (apos.endLine == cpos.line) = true := by rfl) (hs : starEach (e :: es) X.env = (false, eval e X.env) :: starEach es X.env := by rfl) (hplain : (backTo cpos (starEach es X.env)).any (·.1) = false := by rfl) :
    PE X (.Call (.Attribute o name apos) (e :: es) [] cpos) (tBM K T r to t) := h ▸ pe_bm pa slot hty hm ho ha hbase hfew hline hs hplain
theorem xor_n {b c : Bool} (h : (false ^^ b) = c) : b = c := by cases b <;> exact h
end
theorem atI_lt {α : Type} {xs : List α} {i : Int} (h0 : 0 ≤ i) (h1 : i < (xs.length : Int)) : ∃ v, atI xs i = some v ∧ xs[i.toNat]? = some v := by
  have hk : i.toNat < xs.length := by omega
  have ek : i = ((i.toNat : Nat) : Int) := by omega
  have q : xs[i.toNat]? = some xs[i.toNat] := List.getElem?_eq_getElem hk
  refine ⟨xs[i.toNat], ?_, q⟩
  have := atI_nat q
  rw [← ek] at this
  exact this
theorem same_new {H : Hp} {p : Addr} (h : H p = none) (o : HO) : Same H (upd H p o) := fun b u q => by rw [upd_ne (ne_of_none q h)]; exact q
theorem same_upd {H H' : Hp} {p : Addr} {o : HO} (e : Same H H') (h : H p = none) : Same H (upd H' p o) := fun b u q => by rw [upd_ne (ne_of_none q h)]; exact e b u q
theorem Same.tup {K : PySem.W.Frag} {H H' : Hp} {a : Addr} {xs : List V} (e : Same H H') (h : SqT K H a xs) : SqT K H' a xs := by
  rcases h with (h | ⟨o, h⟩) | h
  · exact .inl (.inl (e _ _ h))
  · exact .inl (.inr ⟨o, e _ _ h⟩)
  · exact .inr h
theorem cdiv_i {i j : Int} (h1 : 0 < j) (h2 : j < 1073741824) : CDiv i j := ⟨h1, h2⟩
theorem mulOk_right {i j : Int} (h : -(2 ^ 64) < j ∧ j < 2 ^ 64) : IntMulOk i j := CMul.ok (.inr h)
theorem mulOk_left {i j : Int} (h : -(2 ^ 64) < i ∧ i < 2 ^ 64) : IntMulOk i j := CMul.ok (.inl h)
section
variable {K : PySem.W.Frag} {σ : St} {H : Hp} {Q : VK} {D : Ends} {ta tb tc te : TE} {t u : TS} {A B : TT} {P : Bool → Hp → Prop} {v x y : V} {i j : Int} {n : Nat} {b : Bool} {p q : Str}
theorem mVar_i (h : σ[n]? = some (some v)) (k : Q v H) : mVar n σ H Q := by unfold mVar; rw [h]; exact k
theorem tC_i (k : Q v H) : tC v σ H Q := k
theorem tOp_i {r : R2} (k : ta σ H fun x H1 => tb σ H1 fun y H2 => r x y H2 Q) : tOp r ta tb σ H Q := k
theorem tUn_i {r : V → Hp → VK → Prop} (k : ta σ H fun x H1 => r x H1 Q) : tUn r ta σ H Q := k
theorem mUn_i {g : Int → Int} (k : Q (.int (g i)) H) : mUn g (.int i) H Q := k
theorem m20_i {g : Int → Int → V} (k : Q (g i j) H) : m20 g (.int i) (.int j) H Q := k
theorem m2_i {C : Int → Int → Prop} {g : Int → Int → V} (c : C i j) (k : Q (g i j) H) : m2 C g (.int i) (.int j) H Q := ⟨c, k⟩
theorem mAdd_i (k : Q (.int (i + j)) H) : mAdd K (.int i) (.int j) H Q := k
theorem mAdd_s (c : p.length + q.length ≤ sizeLine) (k : Q (.str (p ++ q)) H) : mAdd K (.str p) (.str q) H Q := ⟨c, k⟩
theorem mMul_i (c : IntMulOk i j) (k : Q (.int (i * j)) H) : mMul (.int i) (.int j) H Q := ⟨c, k⟩
theorem mEq_i (k : Q (.bl (b ^^ decide (i = j))) H) : mEq b (.int i) (.int j) H Q := k
theorem mEq_s (k : Q (.bl (b ^^ decide (p = q))) H) : mEq b (.str p) (.str q) H Q := k
theorem mEq_b {c d : Bool} (k : Q (.bl (b ^^ decide (c = d))) H) : mEq b (.bl c) (.bl d) H Q := k
theorem mInS_i (k : Q (.bl (b ^^ inS p q)) H) : mInS b (.str p) (.str q) H Q := k
theorem mB_i (k : P b H) : mB P (.bl b) H := k
theorem mTest_i (k : ta σ H (mB P)) : mTest ta σ H P := k
theorem mTrue_i (k : ta σ H (mTru K P)) : mTrue K ta σ H P := k
theorem mTru_b (k : P b H) : mTru K P (.bl b) H := k
theorem mChain_i {r r' : R2} (k : ta σ H fun x H1 => tb σ H1 fun y H2 => r x y H2 (mB fun k H3 => if k = true then tc σ H3 fun w' H4 => r' y w' H4 Q else Q (.bl false) H3)) : mChain r r' ta tb tc σ H Q := k
theorem mAndV_i (k : ta σ H (mB fun c H1 => if c = true then tb σ H1 Q else Q (.bl false) H1)) : mAndV ta tb σ H Q := k
theorem mOrV_i (k : ta σ H (mB fun c H1 => if c = true then Q (.bl true) H1 else tb σ H1 Q)) : mOrV ta tb σ H Q := k
theorem mNotV_i (k : ta σ H (mTru K fun b H' => Q (.bl (!b)) H')) : mNotV K ta σ H Q := k
theorem tIf_i (k : A σ H fun c H1 => if c = true then ta σ H1 Q else tb σ H1 Q) : tIf A ta tb σ H Q := k
theorem tAnd_i (k : A σ H fun c H1 => if c = true then B σ H1 P else P false H1) : tAnd A B σ H P := k
theorem tOr_i (k : A σ H fun c H1 => if c = true then P true H1 else B σ H1 P) : tOr A B σ H P := k
theorem tNot_i (k : A σ H fun c H1 => P (!c) H1) : tNot A σ H P := k
theorem tSeq_i (k : t { D with nx := u D } σ H) : tSeq t u D σ H := k
theorem tNext_i (k : D.nx σ H) : tNext D σ H := k
theorem tRet_i (k : te σ H D.rt) : tRet te D σ H := k
theorem tIfS_i (k : A σ H fun b H1 => if b = true then t D σ H1 else u D σ H1) : tIfS A t u D σ H := k
theorem tAsg_i {g : TG} (k : te σ H fun x H1 => g x σ H1 D.nx) : tAsg te g D σ H := k
theorem tDrop_i (k : te σ H fun _ H1 => D.nx σ H1) : tDrop te D σ H := k
theorem gName_i {N : St → Hp → Prop} (k : N (σ.set n (some v)) H) : gName n v σ H N := k
theorem tCB_i {r : List V → Hp → VK → Prop} {a : TA} (k : a σ H fun vs H1 => r vs H1 Q) : tCB r a σ H Q := k
theorem tCons_i {a : TA} {R : List V → Hp → Prop} (k : ta σ H fun x H1 => a σ H1 fun xs H2 => R (x :: xs) H2) : tCons ta a σ H R := k
theorem tNil_i {R : List V → Hp → Prop} (k : R [] H) : tNil σ H R := k
theorem tBM_i {T : String} {r : V → List V → Hp → VK → Prop} {a : TA} (k : ta σ H fun x H1 => tyV K T x H1 ∧ a σ H1 fun xs H2 => r x xs H2 Q) : tBM K T r ta a σ H Q := k
theorem tBM0_i {T : String} {r : V → List V → Hp → VK → Prop} (k : ta σ H fun x H1 => tyV K T x H1 ∧ r x [] H1 Q) : tBM0 K T r ta σ H Q := k
theorem tTup_i {a : TA} (k : a σ H fun xs H1 => xs.length ≤ sizeLine ∧ ∀ p, H1 p = none → Q (.ref p) (upd H1 p (.tup xs))) : tTup a σ H Q := k
theorem tLst_i {a : TA} (k : a σ H fun xs H1 => xs.length ≤ sizeLine ∧ ∀ p, H1 p = none → Q (.ref p) (upd H1 p (.lst xs))) : tLst a σ H Q := k
theorem tSl_i {r : V → Option Int → Option Int → Hp → VK → Prop} {tl th : TO} (k : te σ H fun x H1 => tl σ H1 fun l H2 => th σ H2 fun u H3 => r x l u H3 Q) : tSl r te tl th σ H Q := k
theorem tNoPart_i {R : Option Int → Hp → Prop} (k : R none H) : tNoPart σ H R := k
theorem mPart_i {R : Option Int → Hp → Prop} (k : te σ H (mI R)) : mPart te σ H R := k
theorem mI_i {R : Option Int → Hp → Prop} (k : R (some i) H) : mI R (.int i) H := k
theorem mLen_l {a : Addr} {xs : List V} (c : SqL K H a xs) (k : Q (.int xs.length) H) : mLen K [.ref a] H Q := .inl ⟨xs, c, k⟩
theorem mLen_t {a : Addr} {xs : List V} (c : SqT K H a xs) (k : Q (.int xs.length) H) : mLen K [.ref a] H Q := .inr ⟨xs, c, k⟩
theorem mIx_l {a : Addr} {xs : List V} (c : SqL K H a xs) (e : atI xs i = some v) (k : Q v H) : mIx K (.ref a) (.int i) H Q := .inl ⟨xs, v, c, e, k⟩
theorem mIx_t {a : Addr} {xs : List V} (c : SqT K H a xs) (e : atI xs i = some v) (k : Q v H) : mIx K (.ref a) (.int i) H Q := .inr ⟨xs, v, c, e, k⟩
theorem mIx_s {c : Nat} (z : p.length ≤ sizeLine) (e : atI p.cps.toList i = some c) (k : Q (.str ⟨#[c]⟩) H) : mIx K (.str p) (.int i) H Q := ⟨z, c, e, k⟩
theorem mAppend_i {a : Addr} {xs : List V} (e : H a = some (.lst xs)) (c : xs.length < sizeLine) (k : Q .non (upd H a (.lst (xs ++ [v])))) : mAppend (.ref a) [v] H Q := ⟨xs, e, c, k⟩
theorem iteB {c d : Prop} (h1 : b = true → c) (h2 : b = false → d) : if b = true then c else d := by
  cases b with
  | true => exact h1 rfl
  | false => exact h2 rfl
theorem tCall0_i {sp : Sp} {E : XK} {a : TA} (k : a σ H fun vs H1 => sp vs H1 Q E) : tCall sp [] E a σ H Q := by
  unfold tCall
  have e : (fun (vs : List V) (H1 : Hp) => sp (vs ++ []) H1 Q E) = fun vs H1 => sp vs H1 Q E := by funext vs H1; rw [List.append_nil]
  rw [e]; exact k
theorem tFor_i {wi : TI} {g : TG} (k : wi σ H fun J H1 => ForW J g t D σ H1) : tFor wi g t D σ H := k
theorem iStr_i {R : It → Hp → Prop} (k : ta σ H fun v H1 => ∃ x, v = .str x ∧ R (Its x) H1) : iStr ta σ H R := k
theorem iList_i {R : It → Hp → Prop} (k : ta σ H fun x H1 => ∃ a, x = .ref a ∧ (∃ xs, SqL K H1 a xs) ∧ R (Itl K a) H1) : iList K ta σ H R := k
theorem iTup_i {R : It → Hp → Prop} (k : ta σ H fun x H1 => ∃ a, x = .ref a ∧ (∃ xs, SqT K H1 a xs) ∧ R (Itt K a) H1) : iTup K ta σ H R := k
theorem iRng1_i {a : TA} {R : It → Hp → Prop} (k : a σ H fun vs H1 => ∃ j : Int, vs = [.int j] ∧ -(2 ^ 62) ≤ j ∧ j < 2 ^ 62 ∧ R (Itr 0 j.toNat) H1) : iRng1 a σ H R := k
theorem tComp_i {wi : TI} {tt : TT} (k : wi σ H fun J H1 => ∀ D, H1 D = none → CompW J tt te σ Q D H1) : tComp wi tt te σ H Q := k
theorem ix_str_lt {z : Str} {i : Int} (h0 : 0 ≤ i) (h1 : i < (z.length : Int)) : ∃ c, atI z.cps.toList i = some c := by
  obtain ⟨c, hc, _⟩ := atI_lt (xs := z.cps.toList) h0 (by simp only [Array.length_toList]; exact h1)
  exact ⟨c, hc⟩
end
end L2
set_option Elab.async false
set_option linter.all false
set_option maxRecDepth 100000
set_option maxHeartbeats 4000000
namespace L2
open PySem PySem.Spec PyProof.Rows
mutual
inductive Den (K : PySem.W.Frag) (H : Hp) : V → PyData → Prop
  | non : Den K H .non .none
  | bl (b : Bool) : Den K H (.bl b) (.bool b)
  | int (i : Int) : Den K H (.int i) (.int i)
  | str (x : Str) : Den K H (.str x) (.str x)
  | tup {a : Addr} {us : List V} {ds : List PyData} : SqT K H a us → DenL K H us ds → Den K H (.ref a) (.tuple ds)
inductive DenL (K : PySem.W.Frag) (H : Hp) : List V → List PyData → Prop
  | nil : DenL K H [] []
  | cons {u : V} {us : List V} {d : PyData} {ds : List PyData} : Den K H u d → DenL K H us ds → DenL K H (u :: us) (d :: ds)
end
mutual
theorem Den.monoT {K : PySem.W.Frag} {H H' : Hp} (e : ∀ a xs, SqT K H a xs → SqT K H' a xs) : ∀ {v : V} {d : PyData}, Den K H v d → Den K H' v d
  | _, _, .non => .non
  | _, _, .bl b => .bl b
  | _, _, .int i => .int i
  | _, _, .str x => .str x
  | _, _, .tup h l => .tup (e _ _ h) (DenL.monoT e l)
theorem DenL.monoT {K : PySem.W.Frag} {H H' : Hp} (e : ∀ a xs, SqT K H a xs → SqT K H' a xs) : ∀ {v : List V} {d : List PyData}, DenL K H v d → DenL K H' v d
  | _, _, .nil => .nil
  | _, _, .cons h l => .cons (Den.monoT e h) (DenL.monoT e l)
end
theorem Den.mono {K : PySem.W.Frag} {H H' : Hp} (e : Same H H') {v : V} {d : PyData} (h : Den K H v d) : Den K H' v d := h.monoT fun _ _ q => e.tup q
theorem DenL.mono {K : PySem.W.Frag} {H H' : Hp} (e : Same H H') {v : List V} {d : List PyData} (h : DenL K H v d) : DenL K H' v d := h.monoT fun _ _ q => e.tup q
theorem tup_lst {K : PySem.W.Frag} {H : Hp} {p : Addr} {ys : List V} {o : HO} (h : H p = some (.lst ys)) : ∀ a xs, SqT K H a xs → SqT K (upd H p o) a xs := fun a xs q => by
  rcases q with (q | ⟨o', q⟩) | q
  · exact .inl (.inl (by rw [upd_ne (ne_of q h (fun z => by cases z))]; exact q))
  · exact .inl (.inr ⟨o', by rw [upd_ne (ne_of q h (fun z => by cases z))]; exact q⟩)
  · exact .inr q
theorem Den.lst {K : PySem.W.Frag} {H : Hp} {p : Addr} {ys : List V} {o : HO} (h : H p = some (.lst ys)) {v : V} {d : PyData} (q : Den K H v d) : Den K (upd H p o) v d := q.monoT (tup_lst h)
theorem DenL.lst {K : PySem.W.Frag} {H : Hp} {p : Addr} {ys : List V} {o : HO} (h : H p = some (.lst ys)) {v : List V} {d : List PyData} (q : DenL K H v d) : DenL K (upd H p o) v d := q.monoT (tup_lst h)
section
variable {K : PySem.W.Frag} {H : Hp}
theorem DenL.length : ∀ {us : List V} {ds : List PyData}, DenL K H us ds → us.length = ds.length
  | _, _, .nil => rfl
  | _, _, .cons _ l => by rw [List.length_cons, List.length_cons, DenL.length l]
theorem DenL.get : ∀ {us : List V} {ds : List PyData} {i : Nat} {u : V}, DenL K H us ds → us[i]? = some u → ∃ d, ds[i]? = some d ∧ Den K H u d
  | _, _, _, _, .nil, e => by simp at e
  | _, _, 0, _, .cons h _, e => by simp at e; subst e; exact ⟨_, rfl, h⟩
  | _, _, i + 1, u, .cons _ l, e => by
    obtain ⟨d, h1, h2⟩ := DenL.get (i := i) (u := u) l (by simpa using e)
    exact ⟨d, by simpa using h1, h2⟩
theorem DenL.append : ∀ {us vs : List V} {ds es : List PyData}, DenL K H us ds → DenL K H vs es → DenL K H (us ++ vs) (ds ++ es)
  | _, _, _, _, .nil, l => l
  | _, _, _, _, .cons h t, l => .cons h (DenL.append t l)
theorem DenL.take : ∀ {us : List V} {ds : List PyData} (n : Nat), DenL K H us ds → DenL K H (us.take n) (ds.take n)
  | _, _, 0, _ => .nil
  | _, _, _ + 1, .nil => .nil
  | _, _, n + 1, .cons h t => .cons h (DenL.take n t)
theorem DenL.drop : ∀ {us : List V} {ds : List PyData} (n : Nat), DenL K H us ds → DenL K H (us.drop n) (ds.drop n)
  | _, _, 0, l => l
  | _, _, _ + 1, .nil => .nil
  | _, _, n + 1, .cons _ t => DenL.drop n t
end
section
variable {X : Cx} {pins : List (Addr × Obj)} {σ : St} {H : Hp} {s : Shared}
theorem depthAll_get : ∀ {ds : List PyData} {i : Nat} {d : PyData}, ds[i]? = some d → d.depth ≤ PyData.depthAll ds
  | [], _, _, e => by simp at e
  | x :: r, 0, d, e => by simp at e; subst e; unfold PyData.depthAll; omega
  | x :: r, i + 1, d, e => by
    have := depthAll_get (ds := r) (i := i) (d := d) (by simpa using e)
    unfold PyData.depthAll; omega
theorem eq_same (I : Inv X pins σ H s) : ∀ (n : Nat) (A : Around) (d : PyData) (v v' : V) (u u' : Value), d.depth ≤ n → A.units + n < cLine → Den X.K H v d → Den X.K H v' d → RelV v u → RelV v' u' → SeqAt.EqAt A s u u' true := by
  intro n
  induction n with
  | zero =>
    intro A d v v' u u' hd hu h h' r r'
    cases h with
    | non => cases h'; cases r; cases r'; exact SeqAt.EqAt.same _
    | bl b => cases h'; cases r; cases r'; exact SeqAt.EqAt.same _
    | int i =>
      cases h'
      obtain ⟨t, rfl⟩ := r
      obtain ⟨t', rfl⟩ := r'
      have := SeqAt.EqAt.int_int (A := A) (s := s) i t i t'
      simpa using this
    | str x =>
      cases h'
      obtain ⟨t, rfl⟩ := r
      obtain ⟨t', rfl⟩ := r'
      have := SeqAt.EqAt.str_str (A := A) (s := s) x t x t'
      simpa using this
    | tup _ _ => simp [PyData.depth] at hd
  | succ n ih =>
    intro A d v v' u u' hd hu h h' r r'
    cases h with
    | non => cases h'; cases r; cases r'; exact SeqAt.EqAt.same _
    | bl b => cases h'; cases r; cases r'; exact SeqAt.EqAt.same _
    | int i =>
      cases h'
      obtain ⟨t, rfl⟩ := r
      obtain ⟨t', rfl⟩ := r'
      have := SeqAt.EqAt.int_int (A := A) (s := s) i t i t'
      simpa using this
    | str x =>
      cases h'
      obtain ⟨t, rfl⟩ := r
      obtain ⟨t', rfl⟩ := r'
      have := SeqAt.EqAt.str_str (A := A) (s := s) x t x t'
      simpa using this
    | @tup a us ds hs hl =>
      cases h' with
      | @tup b us' _ hs' hl' =>
        cases r
        cases r'
        by_cases e : a = b
        · subst e; exact SeqAt.EqAt.same _
        · obtain ⟨its, rv, p, _⟩ := I.tuple hs
          obtain ⟨its', rv', p', _⟩ := I.tuple hs'
          have l1 := rv.length
          have l2 := rv'.length
          have l3 := hl.length
          have l4 := hl'.length
          have hd' : PyData.depthAll ds ≤ n := by simp only [PyData.depth] at hd; omega
          have key := SeqAt.RcAt.tuples (A := A) (e := fun _ => true) (show s.heap.IsTuple a its.toArray from p) (show s.heap.IsTuple b its'.toArray from p') (by omega) (fun j h1 h2 => by
            have h1 : j < its.length := by simpa using h1
            have h2 : j < its'.length := by simpa using h2
            have x1 : us[j]? = some us[j] := List.getElem?_eq_getElem (by omega)
            have x2 : us'[j]? = some us'[j] := List.getElem?_eq_getElem (by omega)
            obtain ⟨d, e1, d1⟩ := hl.get x1
            obtain ⟨d', e2, d2⟩ := hl'.get x2
            rw [e1] at e2; cases e2
            obtain ⟨w1, y1, z1⟩ := rv.get x1
            obtain ⟨w2, y2, z2⟩ := rv'.get x2
            have q1 : its.toArray[j] = w1 := by
              have := List.getElem?_eq_getElem h1
              rw [y1] at this
              simpa using (Option.some.inj this).symm
            have q2 : its'.toArray[j] = w2 := by
              have := List.getElem?_eq_getElem h2
              rw [y2] at this
              simpa using (Option.some.inj this).symm
            rw [q1, q2]
            exact ih A.in1 d _ _ _ _ (Nat.le_trans (depthAll_get e1) hd') (by show A.units + 1 + n < cLine; omega) d1 d2 z1 z2)
          have e3 : its.toArray.size = its'.toArray.size := by simp only [List.size_toArray]; omega
          rw [e3] at key
          have e4 : ((List.range (min its'.toArray.size its'.toArray.size)).all (fun _ => true) && its'.toArray.size == its'.toArray.size) = true := by simp
          rw [e4] at key
          exact SeqAt.EqAt.of_refs e key
end
section
variable {X : Cx} {a b c e : Expr} {ta tb tc te : TE} {pos : Pos} {tg l : Expr} {tl : TE}
noncomputable def dEq (K : PySem.W.Frag) (n : Bool) : R2 := fun x y H Q => ∃ (p q : Addr) (us us' : List V) (ds : List PyData), x = .ref p ∧ y = .ref q ∧ ((SqT K H p us ∧ SqT K H q us') ∨ (SqL K H p us ∧ SqL K H q us')) ∧ DenL K H us ds ∧ DenL K H us' ds ∧ PyData.depthAll ds ≤ 149 ∧ Q (.bl (!n)) H
theorem items_eq {pins : List (Addr × Obj)} {σ : St} {H : Hp} {s : Shared} (I : Inv X pins σ H s) {A : Around} {us us' : List V} {ds : List PyData} {its its' : List Value} (hl : DenL X.K H us ds) (hl' : DenL X.K H us' ds) (rv : Vals us its) (rv' : Vals us' its') (hd : PyData.depthAll ds ≤ 149) (hu : A.units + 150 < cLine) :
    ∀ j (h1 : j < its.toArray.size) (h2 : j < its'.toArray.size), SeqAt.EqAt A.in1 s its.toArray[j] its'.toArray[j] true := fun j h1 h2 => by
  have l1 := rv.length
  have l2 := rv'.length
  have l3 := hl.length
  have l4 := hl'.length
  have h1 : j < its.length := by simpa using h1
  have h2 : j < its'.length := by simpa using h2
  have x1 : us[j]? = some us[j] := List.getElem?_eq_getElem (by omega)
  have x2 : us'[j]? = some us'[j] := List.getElem?_eq_getElem (by omega)
  obtain ⟨d, e1, d1⟩ := hl.get x1
  obtain ⟨d', e2, d2⟩ := hl'.get x2
  rw [e1] at e2; cases e2
  obtain ⟨w1, y1, z1⟩ := rv.get x1
  obtain ⟨w2, y2, z2⟩ := rv'.get x2
  have q1 : its.toArray[j] = w1 := by
    have := List.getElem?_eq_getElem h1
    rw [y1] at this
    simpa using (Option.some.inj this).symm
  have q2 : its'.toArray[j] = w2 := by
    have := List.getElem?_eq_getElem h2
    rw [y2] at this
    simpa using (Option.some.inj this).symm
  rw [q1, q2]
  exact eq_same I 149 A.in1 d _ _ _ _ (Nat.le_trans (depthAll_get e1) hd) (by show A.units + 1 + 149 < cLine; omega) d1 d2 z1 z2
theorem ko_eqD (K : PySem.W.Frag) (hK : X.K = K) (hu : X.A.units + 150 < cLine) : OpR X (compareOp .Eq) (dEq K false) := by
  subst hK
  intro pins s σ H x y v u Q I rx ry h
  obtain ⟨p, q, us, us', ds, rfl, rfl, h, hl, hl', hd, k⟩ := h
  cases rx
  cases ry
  rcases h with ⟨hs, hs'⟩ | ⟨hs, hs'⟩
  · obtain ⟨its, rv, p1, _⟩ := I.tuple hs
    obtain ⟨its', rv', p2, _⟩ := I.tuple hs'
    have e3 : its.toArray.size = its'.toArray.size := by simp only [List.size_toArray]; rw [← rv.length, ← rv'.length, hl.length, hl'.length]
    refine SeqAt.eq_tupleAt (e := fun _ => true) (show s.heap.IsTuple p its.toArray from p1) (show s.heap.IsTuple q its'.toArray from p2) (by omega) (items_eq I hl hl' rv rv' hd hu) ?_
    rw [e3]
    exact ⟨.bl true, H, I, by simp [RelV], k⟩
  · obtain ⟨its, rv, p1, _⟩ := I.list hs
    obtain ⟨its', rv', p2, _⟩ := I.list hs'
    have e3 : its.toArray.size = its'.toArray.size := by simp only [List.size_toArray]; rw [← rv.length, ← rv'.length, hl.length, hl'.length]
    refine SeqAt.eq_listAt (e := fun _ => true) p1.isList p2.isList e3 (by omega) (items_eq I hl hl' rv rv' hd hu) ?_
    exact ⟨.bl true, H, I, by simp [RelV], k⟩
theorem ko_neD (K : PySem.W.Frag) (hK : X.K = K) (hu : X.A.units + 150 < cLine) : OpR X (compareOp .NotEq) (dEq K true) := by
  subst hK
  intro pins s σ H x y v u Q I rx ry h
  obtain ⟨p, q, us, us', ds, rfl, rfl, h, hl, hl', hd, k⟩ := h
  cases rx
  cases ry
  rcases h with ⟨hs, hs'⟩ | ⟨hs, hs'⟩
  · obtain ⟨its, rv, p1, _⟩ := I.tuple hs
    obtain ⟨its', rv', p2, _⟩ := I.tuple hs'
    have e3 : its.toArray.size = its'.toArray.size := by simp only [List.size_toArray]; rw [← rv.length, ← rv'.length, hl.length, hl'.length]
    refine SeqAt.RcNeAt.tuples (e := fun _ => true) (show s.heap.IsTuple p its.toArray from p1) (show s.heap.IsTuple q its'.toArray from p2) (by omega) (items_eq I hl hl' rv rv' hd hu) X.prog X.w _ _ ?_
    rw [e3]
    exact ⟨.bl false, H, I, by simp [RelV], k⟩
  · obtain ⟨its, rv, p1, _⟩ := I.list hs
    obtain ⟨its', rv', p2, _⟩ := I.list hs'
    have e3 : its.toArray.size = its'.toArray.size := by simp only [List.size_toArray]; rw [← rv.length, ← rv'.length, hl.length, hl'.length]
    refine SeqAt.RcNeAt.lists (e := fun _ => true) p1.isList p2.isList e3 (by omega) (items_eq I hl hl' rv rv' hd hu) X.prog X.w _ _ ?_
    exact ⟨.bl false, H, I, by simp [RelV], k⟩
theorem room150 {k : Nat} {A : Around} (hr : Room k A) : A.units + 150 < cLine := by have := hr.un; omega
noncomputable def mSlL (K : PySem.W.Frag) : V → Option Int → Option Int → Hp → VK → Prop := fun x lo hi H Q => ∃ a xs, x = .ref a ∧ SqL K H a xs ∧ ∀ p, H p = none → Q (.ref p) (upd H p (.lst (cutV xs lo hi)))
theorem ks_list (K : PySem.W.Frag) (h : X.K = K) : SlR X (mSlL K) := h ▸ sl_list
noncomputable def mTup (K : PySem.W.Frag) : List V → Hp → VK → Prop := fun vs H Q => ∃ p ys, vs = [.ref p] ∧ ((SqL K H p ys ∧ ∀ l, H l = none → Q (.ref l) (upd H l (.tup ys))) ∨ (SqT K H p ys ∧ Q (.ref p) H))
theorem kc_tuple (K : PySem.W.Frag) (h : X.K = K) : CallR X (.type "tuple") (mTup K) := h ▸ call_tuple_of
noncomputable def mLst (K : PySem.W.Frag) : List V → Hp → VK → Prop := fun vs H Q => ∃ p ys, vs = [.ref p] ∧ (SqL K H p ys ∨ SqT K H p ys) ∧ ∀ l, H l = none → Q (.ref l) (upd H l (.lst ys))
theorem kc_list (K : PySem.W.Frag) (h : X.K = K) : CallR X (.type "list") (mLst K) := h ▸ call_list_of
noncomputable def mMin : List V → Hp → VK → Prop := fun vs H Q => ∃ i j, vs = [.int i, .int j] ∧ Q (.int (if j < i then j else i)) H
theorem mc_min (hc : X.calm = true) : CallR X (.builtin "min") mMin := call_min2 hc
noncomputable def mMax : List V → Hp → VK → Prop := fun vs H Q => ∃ i j, vs = [.int i, .int j] ∧ Q (.int (if j > i then j else i)) H
end
open PySem.AutoSeq1 in
open PySem.MeetsSeq PySem.MeetsSeq2 PySem.MeetsSeq3 in
theorem extend_tup (l : Addr) (items : Array Value) (n : Nat) (b : Addr) (items2 : Array Value) (n2 : Nat) (dd : Option Addr) (sl : Array (Option Value)) (hs0 : ¬(!items.isEmpty && Builtin.List.listTooLong (items.size + items2.size)) = true) (hs1 : items.size ≤ sizeLine) (hs2 : items.size + items2.size ≤ sizeLine + 1) :
    Meets (Builtin.«list.extend» ⟨[.ref l, .ref b], []⟩) (fun _ R s => s.heap.get? l = some { cls := .type "list", dict := none, data := .seq items n, slots := #[] } ∧ s.heap.get? b = some { cls := .type "tuple", dict := dd, data := .seq items2 n2, slots := sl } ∧
      R (.ok (.ret Value.none)) { s with heap := s.heap.update l (Obj.mapSeq fun x => x ++ items2), toks := s.toks }) :=
  .of_wp fun prog w A R s h => by
    obtain ⟨hp, g, d, tk, os⟩ := s
    obtain ⟨hl, hb, h⟩ := h
    have f1 := idx_int
    have f2 := PySem.AutoSeq1.sub_tuple_tuple
    have f3 := PySem.AutoSeq1.sub_list_list
    have f4 := PySem.AutoSeq1.sub_tuple_list
    have f5 := PySem.AutoSeq1.sub_list_tuple
    have hz' : (items ++ items2).size ≤ sizeLine + 1 := by rw [Array.size_append]; exact hs2
    wp_walk using (wpAny_updateSeq hl rfl (hz := hs1) (_hz' := hz')), wpAny_loadPart' hl, wpAny_loadPart' hb
    exact ⟨_, rfl, h⟩
section
variable {X : Cx}
noncomputable def mExt (K : PySem.W.Frag) : V → List V → Hp → VK → Prop := fun x vs H Q => ∃ l b xs zs, x = .ref l ∧ vs = [.ref b] ∧ H l = some (.lst xs) ∧ (H b = some (.lst zs) ∨ SqT K H b zs) ∧ xs.length + zs.length ≤ sizeLine ∧ Q .non (upd H l (.lst (xs ++ zs)))
theorem km_extend (K : PySem.W.Frag) (hK : X.K = K) : MtR X "list.extend" (mExt K) := by
  subst hK
  intro pins s σ H x vs v us Q I rx rv h
  obtain ⟨l, b, xs, zs, e1, e2, hH, hB, hz, q⟩ := h
  rcases hB with hB | hB
  · exact mt_extend pins s σ H x vs v us Q I rx rv ⟨l, b, xs, zs, e1, e2, hH, hB, hz, q⟩
  · subst e1 e2
    cases rx
    obtain ⟨u, rfl, ru⟩ := rv.one
    cases ru
    obtain ⟨z, its, n, r, hl, e⟩ := I.lstM hH
    obtain ⟨its2, r2, pl, z2⟩ := I.tuple hB
    obtain ⟨⟨cls, dd, data, sl⟩, ho, hc, n2, hd⟩ := pl
    simp only at hc hd
    subst hc hd
    have hl2 := r2.length
    have hsz : its.toArray.size + its2.toArray.size ≤ sizeLine := by rw [List.size_toArray, List.size_toArray]; omega
    have hlong : ¬ (!its.toArray.isEmpty && Builtin.List.listTooLong (its.toArray.size + its2.toArray.size)) = true := by
      rw [notLongL hsz, Bool.and_false]
      exact Bool.false_ne_true
    refine call_meets F.slot_list_extend ⟨_, e, rfl⟩ F.entry_list_extend (F.args_list_extend_2 _ _) (extend_tup l its.toArray n b its2.toArray n2 dd sl hlong (by rw [List.size_toArray]; omega) (by omega)) ⟨e, ho, ?_⟩
    refine ⟨.non, _, I.lset (its' := its ++ its2) hH e (by simp) (r.append r2) ?_, rfl, q⟩
    rw [List.length_append]
    omega
end
section
variable {prog : Program} {w : World} {A : Around} {E : Value → Shared → Prop} {s : Shared}
end
section
variable {X : Cx}
end
section
variable {σ : St} {H : Hp} {D : Ends} {t : TS} {c : TT}
noncomputable def WhileW (c : TT) (t : TS) (D : Ends) (σ : St) (H : Hp) : Prop := tWhile c t D σ H
theorem tWhile_i (k : WhileW c t D σ H) : tWhile c t D σ H := k
theorem while_row (Pv : Nat → St → Hp → Prop) (n : Nat) (h0 : Pv n σ H)
    (hs : ∀ n σ H (R : Bool → Hp → Prop), Pv n σ H → (∀ H1, (∀ (D' : Ends), D'.rt = D.rt → D'.bk = D.nx → (∀ σ' H' m, m < n → Pv m σ' H' → D'.nx σ' H') → (∀ σ' H' m, m < n → Pv m σ' H' → D'.ct σ' H') → t D' σ H1) → R true H1) → (∀ H1, D.nx σ H1 → R false H1) → c σ H R) : WhileW c t D σ H := by
  refine ⟨Pv, ⟨n, h0⟩, fun m σ H p => ?_⟩
  refine hs m σ H _ p (fun H1 k => ?_) (fun H1 k => k)
  exact ⟨fun σ' H' => ∃ m', m' < m ∧ Pv m' σ' H', fun _ _ h => h, k _ rfl rfl (fun _ _ m' hm hp => ⟨m', hm, hp⟩) (fun _ _ m' hm hp => ⟨m', hm, hp⟩)⟩
end
end L2
set_option Elab.async false
set_option linter.all false
set_option maxRecDepth 100000
set_option maxHeartbeats 4000000
namespace L2
open PySem PySem.Spec PyProof.Rows
theorem kit_ty {K : PySem.W.Frag} {T n : String} {b : Bool} (h : (if (Value.type T == Value.type n) = true then some true else if PySem.W.kitMeta n = true then (fastBuiltinMro T).map (·.contains (.type n)) else none) = some b) : PySem.W.kitOne K (.type T) (.type n) = some b := h
section
variable {X : Cx} {a : Expr} {ta : TE}
noncomputable def tyN (K : PySem.W.Frag) (H : Hp) : V → String → Prop
  | .non, T => T = "NoneType"
  | .bl _, T => T = "bool"
  | .int _, T => T = "int"
  | .str _, T => T = "str"
  | .ref p, T => (T = "list" ∧ ∃ xs, SqL K H p xs) ∨ (T = "tuple" ∧ ∃ xs, SqT K H p xs) ∨ (T = "dict" ∧ ∃ kvs, H p = some (.dK kvs))
  | _, _ => False
noncomputable def mIs (K : PySem.W.Frag) : List V → Hp → VK → Prop := fun vs H Q => ∃ x n T b, vs = [x, .ty n] ∧ tyN K H x T ∧ (∀ K' : PySem.W.Frag, PySem.W.kitOne K' (.type T) (.type n) = some b) ∧ Q (.bl b) H
theorem kc_is (K : PySem.W.Frag) (hK : X.K = K) : CallR X (.builtin "isinstance") (mIs K) := by
  subst hK
  intro pins s σ H xs us Q I r h
  obtain ⟨x, n, T, b, rfl, ht, hk, q⟩ := h
  obtain ⟨u, w', rfl, r1, r2⟩ := vals2 r
  cases r2
  have fin : ∀ tk, EP X pins σ Q (.bool b) { s with toks := tk } := fun tk => ⟨.bl b, H, I.tok _, rfl, q⟩
  cases x with
  | non => cases ht; exact isinst_ok I r1 .non (hk _) fin
  | bl y => cases ht; exact isinst_ok I r1 (.bl y) (hk _) fin
  | int i => cases ht; exact isinst_ok I r1 (.int i) (hk _) fin
  | str z => cases ht; exact isinst_ok I r1 (.str z) (hk _) fin
  | ref p =>
    cases r1
    rcases ht with ⟨rfl, xs, hs⟩ | ⟨rfl, xs, hs⟩ | ⟨rfl, kvs, hs⟩
    · obtain ⟨its, _, ⟨o, n', h1, h2, _⟩, _⟩ := I.list hs
      exact PySem.W.kia_one PySem.W.kitx_list I.kIn ⟨o, h1, h2⟩ (hk _) (fun z => nomatch z) fin
    · obtain ⟨its, _, ⟨o, h1, h2, _⟩, _⟩ := I.tuple hs
      exact PySem.W.kia_one PySem.W.kitx_tuple I.kIn ⟨o, h1, h2⟩ (hk _) (fun z => nomatch z) fin
    · exact isinst_ok (x := .ref p) I rfl (.dK hs) (hk _) fin
  | _ => exact (show False from ht).elim
end
section
variable {K : PySem.W.Frag} {H : Hp} {Q : VK} {i : Int} {p : Str} {b : Bool} {a : Addr} {xs : List V}
theorem is_str (k : Q (.bl true) H) : mIs K [.str p, .ty "str"] H Q := ⟨_, _, _, true, rfl, rfl, fun _ => kit_same _ _, k⟩
theorem is_int (k : Q (.bl true) H) : mIs K [.int i, .ty "int"] H Q := ⟨_, _, _, true, rfl, rfl, fun _ => kit_same _ _, k⟩
theorem is_bool (k : Q (.bl true) H) : mIs K [.bl b, .ty "bool"] H Q := ⟨_, _, _, true, rfl, rfl, fun _ => kit_same _ _, k⟩
theorem is_int_bool (k : Q (.bl false) H) : mIs K [.int i, .ty "bool"] H Q := ⟨_, _, _, false, rfl, rfl, fun _ => kit_ty (by decide +kernel), k⟩
theorem is_tup (c : SqT K H a xs) (k : Q (.bl true) H) : mIs K [.ref a, .ty "tuple"] H Q := ⟨_, _, _, true, rfl, .inr (.inl ⟨rfl, xs, c⟩), fun _ => kit_same _ _, k⟩
theorem is_lst (c : SqL K H a xs) (k : Q (.bl true) H) : mIs K [.ref a, .ty "list"] H Q := ⟨_, _, _, true, rfl, .inl ⟨rfl, xs, c⟩, fun _ => kit_same _ _, k⟩
theorem atI_mem {α : Type} {xs : List α} {i : Int} {v : α} (h : atI xs i = some v) : v ∈ xs := by
  obtain ⟨j, _, e, _⟩ := atI_get h
  exact List.mem_of_getElem? e
theorem str_app (l m : List Nat) : (⟨l.toArray⟩ : Str) ++ ⟨m.toArray⟩ = ⟨(l ++ m).toArray⟩ := by
  apply Str.ext'
  show l.toArray ++ m.toArray = (l ++ m).toArray
  simp
theorem str_len (l : List Nat) : (⟨l.toArray⟩ : Str).length = l.length := by simp [Str.length]
theorem ints_at {ns : List Int} {i : Int} {v : V} (h : atI (ns.map V.int) i = some v) : ∃ n, v = .int n := by
  have := atI_mem h
  obtain ⟨n, _, e⟩ := List.mem_map.mp this
  exact ⟨n, e.symm⟩
theorem ints_get {ns : List Int} {i : Nat} (h : i < (ns.map V.int).length) : ∃ n, (ns.map V.int).getD i .non = .int n := by
  rw [List.length_map] at h
  rw [List.getD_eq_getElem?_getD, List.getElem?_map, List.getElem?_eq_getElem h]
  exact ⟨_, rfl⟩
theorem mSlL_i {lo hi : Option Int} (c : SqL K H a xs) (k : ∀ p, H p = none → Q (.ref p) (upd H p (.lst (cutV xs lo hi)))) : mSlL K (.ref a) lo hi H Q := ⟨a, xs, rfl, c, k⟩
theorem mTup_l (c : SqL K H a xs) (k : ∀ l, H l = none → Q (.ref l) (upd H l (.tup xs))) : mTup K [.ref a] H Q := ⟨a, xs, rfl, .inl ⟨c, k⟩⟩
theorem mMin_i {j : Int} (k : Q (.int (if j < i then j else i)) H) : mMin [.int i, .int j] H Q := ⟨i, j, rfl, k⟩
theorem mExt_t {zs : List V} {l : Addr} (e : H l = some (.lst xs)) (c : SqT K H a zs) (z : xs.length + zs.length ≤ sizeLine) (k : Q .non (upd H l (.lst (xs ++ zs)))) : mExt K (.ref l) [.ref a] H Q := ⟨l, a, xs, zs, rfl, rfl, e, .inr c, z, k⟩
theorem mExt_l {zs : List V} {l : Addr} (e : H l = some (.lst xs)) (c : H a = some (.lst zs)) (z : xs.length + zs.length ≤ sizeLine) (k : Q .non (upd H l (.lst (xs ++ zs)))) : mExt K (.ref l) [.ref a] H Q := ⟨l, a, xs, zs, rfl, rfl, e, .inl c, z, k⟩
theorem mPop_i {l : Addr} {v : V} (e : H l = some (.lst (xs ++ [v]))) (k : Q v (upd H l (.lst xs))) : mPop (.ref l) [] H Q := ⟨xs, v, e, k⟩
theorem mAdd_l {q : Addr} {ys : List V} (e1 : H a = some (.lst xs)) (e2 : H q = some (.lst ys)) (z : xs.length + ys.length ≤ sizeLine) (k : ∀ d, H d = none → Q (.ref d) (upd H d (.lst (xs ++ ys)))) : mAdd K (.ref a) (.ref q) H Q := .inl ⟨xs, ys, e1, e2, z, k⟩
theorem iRng2_i {σ : St} {ta : TA} {R : It → Hp → Prop} (k : ta σ H fun vs H1 => ∃ i j : Int, vs = [.int i, .int j] ∧ (-(2 ^ 62) ≤ i ∧ i < 2 ^ 62 ∧ -(2 ^ 62) ≤ j ∧ j < 2 ^ 62) ∧ R (Itr i (j - i).toNat) H1) : iRng2 ta σ H R := k
end
end L2
set_option Elab.async false
set_option linter.all false
set_option maxRecDepth 100000
set_option maxHeartbeats 4000000
namespace L2
open PySem PySem.Spec PyProof.Rows
section
variable {X : Cx}
end
noncomputable abbrev tailS : Str := Str.ofString "abcdefghijklmnopqrstuvwxyzABCDEFGHIJKLMNOPQRSTUVWXYZ0123456789"
noncomputable abbrev one (c : Nat) : Str := ⟨#[c]⟩
noncomputable abbrev sp_l_number : Sp := fun vs H Q _ => match vs with | [.int c] => ∀ (n : Int) (H' : Hp), -(10 ^ 30) < n → n < 10 ^ 30 → Same H H' → Q (.int n) H' | _ => False
theorem ln {n : Nat} (h : n ≤ 100000) : n ≤ sizeLine := by rw [sizeLine_eq]; omega
theorem ln1 {n : Nat} (h : n < 100000) : n < sizeLine := by rw [sizeLine_eq]; omega
theorem tl62 : tailS.length = 62 := by decide +kernel
end L2
set_option Elab.async false
set_option linter.all false
set_option maxRecDepth 100000
set_option maxHeartbeats 4000000
namespace L2
open PySem PySem.Spec PyProof.Rows
section
variable {X : Cx} {e : Expr} {te : TE} {pos : Pos}
noncomputable def mAug (i : Nat) (te : TE) (ti : TIp) : TS := fun D σ H => ∃ x, σ[i]? = some (some x) ∧ te σ H fun y H1 => ti x y H1 fun z H2 => D.nx (σ.set i (some z)) H2
noncomputable def mIAdd : TIp := fun x y H Q => match x, y with
  | .int i, .int j => Q (.int (i + j)) H
  | .str i, .str j => i.length + j.length ≤ sizeLine ∧ Q (.str (i ++ j)) H
  | _, _ => False
end
section
variable {σ : St} {H : Hp} {Q : VK} {D : Ends} {te : TE} {n : Nat} {v : V} {i j : Int}
theorem mAug_i {ti : TIp} (h : σ[n]? = some (some v)) (k : te σ H fun y H1 => ti v y H1 fun z H2 => D.nx (σ.set n (some z)) H2) : mAug n te ti D σ H := ⟨v, h, k⟩
theorem mIAdd_i (k : Q (.int (i + j)) H) : mIAdd (.int i) (.int j) H Q := k
end
inductive Trm where
  | num (n : Int)
  | any (x : Str)
  | app (sg : Str) (ks : List Trm)
noncomputable abbrev numS : Str := Str.ofString "num"
noncomputable abbrev anyS : Str := Str.ofString "any"
noncomputable abbrev appS : Str := Str.ofString "app"
mutual
noncomputable def Trm.data : Trm → PyData
  | .num n => .tuple [.str numS, .int n]
  | .any x => .tuple [.str anyS, .str x]
  | .app sg ks => .tuple [.str appS, .str sg, .tuple (Trm.dataL ks)]
noncomputable def Trm.dataL : List Trm → List PyData
  | [] => []
  | t :: r => t.data :: Trm.dataL r
end
mutual
noncomputable def Trm.size : Trm → Nat
  | .num _ => 1
  | .any _ => 1
  | .app _ ks => 1 + Trm.sizeL ks
noncomputable def Trm.sizeL : List Trm → Nat
  | [] => 0
  | t :: r => t.size + Trm.sizeL r
end
theorem Trm.size_pos : ∀ t : Trm, 1 ≤ t.size
  | .num _ => Nat.le_refl 1
  | .any _ => Nat.le_refl 1
  | .app _ ks => by unfold Trm.size; omega
mutual
theorem Trm.depth_le : ∀ t : Trm, t.data.depth ≤ 2 * t.size
  | .num _ => by simp [Trm.data, Trm.size, PyData.depth, PyData.depthAll]
  | .any _ => by simp [Trm.data, Trm.size, PyData.depth, PyData.depthAll]
  | .app _ ks => by
    have := Trm.depthL_le ks
    simp only [Trm.data, Trm.size, PyData.depth, PyData.depthAll]
    omega
theorem Trm.depthL_le : ∀ ts : List Trm, PyData.depthAll (Trm.dataL ts) ≤ 2 * Trm.sizeL ts
  | [] => by simp [Trm.dataL, Trm.sizeL, PyData.depthAll]
  | t :: r => by
    have h1 := Trm.depth_le t
    have h2 := Trm.depthL_le r
    simp only [Trm.dataL, Trm.sizeL, PyData.depthAll]
    omega
end
theorem Trm.dataL_map : ∀ ts : List Trm, Trm.dataL ts = ts.map Trm.data
  | [] => rfl
  | t :: r => by rw [Trm.dataL, Trm.dataL_map r, List.map_cons]
theorem Trm.sizeL_map : ∀ ts : List Trm, Trm.sizeL ts = (ts.map Trm.size).sum
  | [] => rfl
  | t :: r => by rw [Trm.sizeL, Trm.sizeL_map r, List.map_cons, List.sum_cons]
theorem Trm.sizeL_app (a b : List Trm) : Trm.sizeL (a ++ b) = Trm.sizeL a + Trm.sizeL b := by
  rw [Trm.sizeL_map, Trm.sizeL_map, Trm.sizeL_map, List.map_append, List.sum_append]
theorem Trm.len_le (ts : List Trm) : ts.length ≤ Trm.sizeL ts := by
  induction ts with
  | nil => simp
  | cons t r ih =>
    have := t.size_pos
    rw [Trm.sizeL, List.length_cons]; omega
section
variable {K : PySem.W.Frag} {H : Hp} {v : V}
theorem den_num {n : Int} (h : Den K H v (Trm.num n).data) : ∃ a, v = .ref a ∧ SqT K H a [.str numS, .int n] := by
  unfold Trm.data at h
  cases h with
  | tup hs hl =>
    cases hl with
    | cons h1 hl =>
      cases hl with
      | cons h2 hl =>
        cases hl
        cases h1
        cases h2
        exact ⟨_, rfl, hs⟩
theorem den_any {x : Str} (h : Den K H v (Trm.any x).data) : ∃ a, v = .ref a ∧ SqT K H a [.str anyS, .str x] := by
  unfold Trm.data at h
  cases h with
  | tup hs hl =>
    cases hl with
    | cons h1 hl =>
      cases hl with
      | cons h2 hl =>
        cases hl
        cases h1
        cases h2
        exact ⟨_, rfl, hs⟩
theorem den_app {sg : Str} {ks : List Trm} (h : Den K H v (Trm.app sg ks).data) : ∃ a b us, v = .ref a ∧ SqT K H a [.str appS, .str sg, .ref b] ∧ SqT K H b us ∧ DenL K H us (Trm.dataL ks) := by
  unfold Trm.data at h
  cases h with
  | tup hs hl =>
    cases hl with
    | cons h1 hl =>
      cases hl with
      | cons h2 hl =>
        cases hl with
        | cons h3 hl =>
          cases hl
          cases h1
          cases h2
          cases h3 with
          | tup hb hk => exact ⟨_, _, _, rfl, hs, hb, hk⟩
theorem num_den {a : Addr} {n : Int} (h : SqT K H a [.str numS, .int n]) : Den K H (.ref a) (Trm.num n).data := by
  unfold Trm.data
  exact .tup h (.cons (.str _) (.cons (.int _) .nil))
theorem any_den {a : Addr} {x : Str} (h : SqT K H a [.str anyS, .str x]) : Den K H (.ref a) (Trm.any x).data := by
  unfold Trm.data
  exact .tup h (.cons (.str _) (.cons (.str _) .nil))
theorem app_den {a b : Addr} {sg : Str} {ks : List Trm} {us : List V} (h : SqT K H a [.str appS, .str sg, .ref b]) (hb : SqT K H b us) (hk : DenL K H us (Trm.dataL ks)) : Den K H (.ref a) (Trm.app sg ks).data := by
  unfold Trm.data
  exact .tup h (.cons (.str _) (.cons (.str _) (.cons (.tup hb hk) .nil)))
theorem den_head {t : Trm} (h : Den K H v t.data) : ∃ a us ds, v = .ref a ∧ SqT K H a us ∧ DenL K H us ds ∧ t.data = .tuple ds := by
  cases t with
  | num n => unfold Trm.data at h ⊢; cases h with | tup hs hl => exact ⟨_, _, _, rfl, hs, hl, rfl⟩
  | any x => unfold Trm.data at h ⊢; cases h with | tup hs hl => exact ⟨_, _, _, rfl, hs, hl, rfl⟩
  | app sg ks => unfold Trm.data at h ⊢; cases h with | tup hs hl => exact ⟨_, _, _, rfl, hs, hl, rfl⟩
theorem DenL.snoc {us : List V} {ds : List PyData} {d : PyData} (h : DenL K H us (ds ++ [d])) : ∃ us' u, us = us' ++ [u] ∧ DenL K H us' ds ∧ Den K H u d := by
  induction ds generalizing us with
  | nil =>
    cases h with
    | cons h1 h2 =>
      cases h2
      exact ⟨[], _, rfl, .nil, h1⟩
  | cons x r ih =>
    cases h with
    | cons h1 h2 =>
      obtain ⟨us', u, rfl, a, b⟩ := ih h2
      exact ⟨_ :: us', u, rfl, .cons h1 a, b⟩
theorem DenL.nil_inv {us : List V} (h : DenL K H us []) : us = [] := by cases h; rfl
theorem DenL.at {us : List V} {ds : List PyData} {i : Int} {d : PyData} (h : DenL K H us ds) (e : atI ds i = some d) : ∃ u, atI us i = some u ∧ Den K H u d := by
  obtain ⟨j, h1, h2, h3, h4, h5⟩ := atI_get e
  have hl := h.length
  have hj : j < us.length := by omega
  obtain ⟨d', e1, e2⟩ := h.get (List.getElem?_eq_getElem hj)
  rw [h2] at e1
  cases e1
  refine ⟨us[j], ?_, e2⟩
  unfold atI at e ⊢
  rw [hl]
  cases q : ixN ds.length i with
  | none => rw [q] at e; cases e
  | some k =>
    rw [q] at e
    have := (ixN_seq q).1
    rw [h1] at this
    cases this
    exact List.getElem?_eq_getElem hj
end
end L2
set_option Elab.async false
set_option linter.all false
set_option maxRecDepth 100000
set_option maxHeartbeats 4000000
namespace L2
open PySem PySem.Spec PyProof.Rows
noncomputable def Itv (K : PySem.W.Frag) (a : Addr) (n : Nat) : It := ⟨fun i H => ∃ xs, SqL K H a xs ∧ xs.length = n ∧ i < n, fun i H x H' => H' = H ∧ ∀ xs, SqL K H a xs → xs[n - 1 - i]? = some x, fun i _ => i = n⟩
section
variable {X : Cx} {tg : Expr}
noncomputable def iRev (K : PySem.W.Frag) (ta : TA) : TI := fun σ H R => ta σ H fun vs H1 => ∃ a xs, vs = [.ref a] ∧ SqL K H1 a xs ∧ R (Itv K a xs.length) H1
end
theorem iRev_i {K : PySem.W.Frag} {σ : St} {H : Hp} {ta : TA} {R : It → Hp → Prop} (k : ta σ H fun vs H1 => ∃ a xs, vs = [.ref a] ∧ SqL K H1 a xs ∧ R (Itv K a xs.length) H1) : iRev K ta σ H R := k
end L2
set_option Elab.async false
set_option linter.all false
set_option maxRecDepth 100000
set_option maxHeartbeats 4000000
namespace L2
open PySem PySem.Spec PyProof.Rows
theorem dig_val (k : Nat) (h : k < 10) : (Nat.digitChar k).toNat = 48 + k := by
  have : k = 0 ∨ k = 1 ∨ k = 2 ∨ k = 3 ∨ k = 4 ∨ k = 5 ∨ k = 6 ∨ k = 7 ∨ k = 8 ∨ k = 9 := by omega
  rcases this with rfl | rfl | rfl | rfl | rfl | rfl | rfl | rfl | rfl | rfl <;> rfl
noncomputable def figsOf (n : Nat) : List Nat := (Nat.toDigits 10 n).map Char.toNat
theorem figs_lt {n : Nat} (h : n < 10) : figsOf n = [48 + n] := by
  unfold figsOf
  rw [Nat.toDigits_of_lt_base h, List.map_cons, List.map_nil, dig_val n h]
theorem figs_ge {n : Nat} (h : 10 ≤ n) : figsOf n = figsOf (n / 10) ++ [48 + n % 10] := by
  unfold figsOf
  rw [Nat.toDigits_of_base_le (by decide) h, List.map_append, List.map_cons, List.map_nil, dig_val _ (Nat.mod_lt _ (by decide))]
theorem figs_ok : ∀ n : Nat, (∀ y ∈ figsOf n, 48 ≤ y ∧ y ≤ 57) ∧ ∃ x r, figsOf n = x :: r ∧ (n ≠ 0 → x ≠ 48) := by
  intro n
  induction n using Nat.strongRecOn with
  | ind n ih =>
    by_cases h : n < 10
    · rw [figs_lt h]
      refine ⟨fun y hy => ?_, _, [], rfl, fun h0 => by omega⟩
      rw [List.mem_singleton.mp hy]; omega
    · have h : 10 ≤ n := by omega
      rw [figs_ge h]
      obtain ⟨h1, x, r, h2, h3⟩ := ih (n / 10) (by omega)
      refine ⟨fun y hy => ?_, x, r ++ [48 + n % 10], by rw [h2]; rfl, fun _ => h3 (by omega)⟩
      rcases List.mem_append.mp hy with hy | hy
      · exact h1 y hy
      · rw [List.mem_singleton.mp hy]; omega
theorem figs_len {n k : Nat} (hk : 1 ≤ k) (h : n < 10 ^ k) : (figsOf n).length ≤ k := by
  unfold figsOf
  rw [List.length_map]
  exact digits10_le hk h
theorem figs_str (n : Nat) : ((toString (n : Int) : String) : Str) = ⟨(figsOf n).toArray⟩ := text_ofNat n
section
variable {X : Cx}
noncomputable def mStr : List V → Hp → VK → Prop := fun vs H Q => match vs with
  | [.int i] => i.natAbs.log2 < 1920 ∧ Q (.str (toString i)) H
  | _ => False
theorem mc_str : CallR X (.type "str") mStr := by
  intro pins s σ H xs us Q I r h
  refine call_str_int pins s σ H xs us Q I r ?_
  unfold mStr at h
  split at h
  · exact ⟨_, rfl, h.1, h.2⟩
  · exact h.elim
theorem log_small {i : Int} (h0 : 0 ≤ i) (h1 : i < 10 ^ 30) : i.natAbs.log2 < 1920 := by
  by_cases h : i.natAbs = 0
  · rw [h]; decide
  · refine (Nat.log2_lt h).mpr ?_
    refine Nat.lt_of_lt_of_le (m := 10 ^ 30) (by omega) ?_
    refine Nat.le_trans (m := 2 ^ 100) (by decide +kernel) (Nat.pow_le_pow_right (by decide) (by decide))
theorem mStr_i {i : Int} {H : Hp} {Q : VK} (h0 : 0 ≤ i) (h1 : i < 10 ^ 30) (k : Q (.str ⟨(figsOf i.toNat).toArray⟩) H) : mStr [.int i] H Q := by
  refine ⟨log_small h0 h1, ?_⟩
  obtain ⟨n, rfl⟩ := Int.eq_ofNat_of_zero_le h0
  have e := figs_str n
  rw [Int.toNat_natCast] at k
  rw [← e] at k
  exact k
noncomputable def mRepS : R2 := fun x y H Q => ∃ (c : Nat) (k : Int), x = .str ⟨#[c]⟩ ∧ y = .int k ∧ 0 ≤ k ∧ k ≤ 1000 ∧ Q (.str ⟨(List.replicate k.toNat c).toArray⟩) H
theorem fold_one (c : Nat) : ∀ (n : Nat) (a : List Nat), (List.replicate n (#[c] : Array Nat)).foldl (· ++ ·) a.toArray = (a ++ List.replicate n c).toArray
  | 0, a => by simp
  | n + 1, a => by
    rw [List.replicate_succ, List.foldl_cons, show a.toArray ++ #[c] = (a ++ [c]).toArray by simp, fold_one c n (a ++ [c]), List.append_assoc, List.replicate_succ]
    rfl
theorem txt_mul_one {c : Nat} {k : Int} (h0 : 0 ≤ k) : Txt.mul ⟨#[c]⟩ k = ⟨(List.replicate k.toNat c).toArray⟩ := by
  unfold Txt.mul
  split
  · have : k = 0 := by omega
    subst this; rfl
  · split
    · rename_i h1 h2
      have : k = 1 := by
        rw [Bool.or_eq_true] at h2
        rcases h2 with h2 | h2
        · simpa using h2
        · simp [Str.length] at h2
      subst this; rfl
    · have := fold_one c k.toNat []
      rw [List.nil_append] at this
      exact congrArg Str.mk this
theorem ko_repS : OpR X (binaryOp .Mult) mRepS := by
  intro pins s σ H x y v u Q I rx ry h
  obtain ⟨c, k, rfl, rfl, h0, h1, q⟩ := h
  obtain ⟨t, rfl⟩ := rx
  obtain ⟨t', rfl⟩ := ry
  have e1 : (⟨#[c]⟩ : Str).length = 1 := rfl
  refine SB.mul ⟨?_, fun _ _ => ?_, fun _ _ => ?_⟩ fun t' k' => ⟨.str _, H, I.tok _, ⟨_, rfl⟩, ?_⟩
  · rw [decide_eq_false (by omega), decide_eq_false (by omega)]; rfl
  · rw [e1]
    have h2 : (0 : Int) < k := by omega
    have : (1 : Int) ≤ (2 ^ 63 - 1) / k := Int.le_ediv_of_mul_le h2 (by omega)
    omega
  · rw [e1, Nat.one_mul]
    exact decide_eq_false (show ¬ (k.toNat > sizeLine) by rw [sizeLine_eq]; omega)
  · rw [txt_mul_one h0]; exact q
theorem mMax_i {i j : Int} {H : Hp} {Q : VK} (k : Q (.int (if j > i then j else i)) H) : mMax [.int i, .int j] H Q := ⟨i, j, rfl, k⟩
theorem mRepS_i {c : Nat} {k : Int} {H : Hp} {Q : VK} (h0 : 0 ≤ k) (h1 : k ≤ 1000) (q : Q (.str ⟨(List.replicate k.toNat c).toArray⟩) H) : mRepS (.str ⟨#[c]⟩) (.int k) H Q := ⟨c, k, rfl, rfl, h0, h1, q⟩
end
end L2
set_option Elab.async false
set_option linter.all false
set_option maxRecDepth 100000
set_option maxHeartbeats 4000000
namespace L2
open PySem PySem.Spec PyProof.Rows
section
variable {X : Cx}
end
end L2
namespace L2
open PySem PySem.Spec PyProof.Rows
section
variable {X : Cx}
end
section
variable {σ : St} {H : Hp} {Q : VK} {D : Ends} {td ty tx tv : TE}
theorem tDGet_i (k : td σ H fun x H1 => ty σ H1 fun y H2 => ∃ a v, x = .ref a ∧ DGet H2 a y (some v) ∧ Q v H2) : tDGet td ty σ H Q := k
theorem tDGet2_i (k : td σ H fun x H1 => ∃ a, x = .ref a ∧ IsD H1 a ∧ ty σ H1 fun y H2 => tx σ H2 fun z H3 => ∃ o, DGet H3 a y o ∧ Q (o.getD z) H3) : tDGet2 td ty tx σ H Q := k
theorem sDPut_i (k : tv σ H fun v H1 => td σ H1 fun x H2 => ty σ H2 fun y H3 => ∃ a H4, x = .ref a ∧ DPut H3 a y v H4 ∧ D.nx σ H4) : sDPut td ty tv D σ H := k
theorem tDisp_i {trs : List (TE × TE)} (k : ∀ p, H p = none → tPairs trs σ (upd H p (.dK [])) fun ps H2 => H2 p = some (.dK []) ∧ ∃ kvs : List (Key × V), ps = kvs.map (fun kv => (kV kv.1, kv.2)) ∧ kvs.length ≤ 15 ∧ Q (.ref p) (upd H2 p (.dK (mergeK [] kvs)))) : tDisp trs σ H Q := k
theorem tPairs_c {tk tv : TE} {r : List (TE × TE)} {R : List (V × V) → Hp → Prop} (k : tk σ H fun x H1 => tv σ H1 fun y H2 => tPairs r σ H2 fun ps H3 => R ((x, y) :: ps) H3) : tPairs ((tk, tv) :: r) σ H R := k
theorem tPairs_n {R : List (V × V) → Hp → Prop} (k : R [] H) : tPairs [] σ H R := k
end
end L2
set_option Elab.async false
set_option linter.all false
set_option maxRecDepth 100000
set_option maxHeartbeats 4000000
namespace L2
open PySem PySem.Spec PyProof.Rows
section
variable {X : Cx}
noncomputable def mIsN (n : Bool) : R2 := fun x y H Q => y = .non ∧ Q (.bl (n ^^ decide (x = .non))) H
theorem isN_non {n : Bool} {H : Hp} {Q : VK} (k : Q (.bl (!n)) H) : mIsN n .non .non H Q := ⟨rfl, by rw [decide_eq_true rfl, Bool.xor_true]; exact k⟩
theorem isN_ref {n : Bool} {a : Addr} {H : Hp} {Q : VK} (k : Q (.bl n) H) : mIsN n (.ref a) .non H Q := ⟨rfl, by rw [decide_eq_false (fun z => by cases z), Bool.xor_false]; exact k⟩
noncomputable def mInt : List V → Hp → VK → Prop := fun vs H Q => match vs with
  | [.int i] => Q (.int i) H
  | [.bl b] => Q (.int (if b then 1 else 0)) H
  | _ => False
theorem mc_int : CallR X (.type "int") mInt := by
  intro pins s σ H xs us Q I r h
  refine call_int1 pins s σ H xs us Q I r ?_
  unfold mInt at h
  split at h
  · exact .inl ⟨_, rfl, h⟩
  · exact .inr ⟨_, rfl, h⟩
  · exact h.elim
theorem mInt_b {b : Bool} {H : Hp} {Q : VK} (k : Q (.int (if b then 1 else 0)) H) : mInt [.bl b] H Q := k
end
noncomputable def But (p : Addr) (H H' : Hp) : Prop := ∀ b o, b ≠ p → H b = some o → H' b = some o
theorem But.refl (p : Addr) (H : Hp) : But p H H := fun _ _ _ h => h
theorem But.trans {p : Addr} {H H1 H2 : Hp} (a : But p H H1) (b : But p H1 H2) : But p H H2 := fun c o n h => b c o n (a c o n h)
theorem but_upd {p : Addr} {H : Hp} (o : HO) : But p H (upd H p o) := fun b u n h => by rw [upd_ne n]; exact h
theorem But.tup {K : PySem.W.Frag} {p : Addr} {H H' : Hp} {ys : List V} (e : But p H H') (hp : H p = some (.lst ys)) {a : Addr} {xs : List V} (h : SqT K H a xs) : SqT K H' a xs := by
  rcases h with (h | ⟨o, h⟩) | h
  · exact .inl (.inl (e _ _ (fun z => by subst z; rw [hp] at h; cases h) h))
  · exact .inl (.inr ⟨o, e _ _ (fun z => by subst z; rw [hp] at h; cases h) h⟩)
  · exact .inr h
theorem But.den {K : PySem.W.Frag} {p : Addr} {H H' : Hp} {ys : List V} (e : But p H H') (hp : H p = some (.lst ys)) {v : V} {d : PyData} (h : Den K H v d) : Den K H' v d := h.monoT fun _ _ q => e.tup hp q
theorem sIx_to (n : Nat) (m : Int) (h : 0 ≤ m) : HT.sIx n n (some m) = min m.toNat n := by
  unfold HT.sIx
  have e : ¬ (m < 0) := by omega
  simp only [e, if_false]
theorem sIx_none (n k : Nat) : HT.sIx n k none = k := rfl
end L2
set_option Elab.async false
set_option linter.all false
set_option maxRecDepth 100000
set_option maxHeartbeats 4000000
namespace L2
open PySem PySem.Spec PyProof.Rows
section
variable {X : Cx} {pins : List (Addr × Obj)} {σ : St} {H : Hp} {s : Shared} {h' : Heap}
end
noncomputable def Ite (K : PySem.W.Frag) (a : Addr) (n : Nat) : It := ⟨fun i H => i < n ∧ ∃ xs, SqL K H a xs ∧ xs.length = n, fun i H v H' => ∃ T x, H T = none ∧ v = .ref T ∧ H' = upd H T (.tup [.int i, x]) ∧ ∀ xs, SqL K H a xs → xs[i]? = some x, fun i H => i = n ∧ ∃ xs, SqL K H a xs ∧ xs.length = n⟩
section
variable {X : Cx}
noncomputable def iEnum (K : PySem.W.Frag) (ta : TA) : TI := fun σ H R => ta σ H fun vs H1 => ∃ a xs, vs = [.ref a] ∧ SqL K H1 a xs ∧ R (Ite K a xs.length) H1
end
theorem iEnum_i {K : PySem.W.Frag} {σ : St} {H : Hp} {ta : TA} {R : It → Hp → Prop} (k : ta σ H fun vs H1 => ∃ a xs, vs = [.ref a] ∧ SqL K H1 a xs ∧ R (Ite K a xs.length) H1) : iEnum K ta σ H R := k
end L2
set_option Elab.async false
set_option linter.all false
set_option maxRecDepth 100000
set_option maxHeartbeats 4000000
namespace L2
open PySem PySem.Spec PyProof.Rows PySem.W
noncomputable def RawD (h : Heap) (a : Addr) (es : Array DictEntry) (ep : Nat) : Prop := ∃ o, h.get? a = some o ∧ o.ExactDict ∧ o.data = .dict es ep
theorem RawD.lt {h : Heap} {a : Addr} {es : Array DictEntry} {ep : Nat} (x : RawD h a es ep) : a < h.objs.size := let ⟨_, p, _⟩ := x; Heap.lt_size p
theorem RawD.ty {s : Shared} {a : Addr} {es : Array DictEntry} {ep : Nat} (x : RawD s.heap a es ep) : s.TypeIs (.ref a) "dict" := let ⟨o, p, c, _⟩ := x; ⟨o, p, c.1⟩
section
variable {prog : Program} {w : World} {A : Around} {E : Value → Shared → Prop} {s : Shared} {d : Addr} {es : Array DictEntry} {ep : Nat}
theorem raw_iter {Q : Value → Shared → Prop} (hd : (d == sysModules) = false) (hm : RawD s.heap d es ep)
    (hQ : Q (.ref s.heap.objs.size) { s with heap := s.heap.push { cls := .type "dict_keyiterator", data := .fields #[.ref d, .int 0 0, .int es.size 0, .int ep 0] } }) : wpAny (model prog w) A (pyIter (.ref d)) Q E s := by
  obtain ⟨o, ho, hc, hdat⟩ := id hm
  refine wpAny_pyIter_slot hm.ty PySem.F.slot_dict_iter (wpAny_call_entry PySem.F.slot_dict_iter hm.ty PySem.F.entry_dict_iter ?_ (PySem.F.args_dict_iter_1 _))
  (unfold Builtin.«dict.__iter__»; refine wpAny_bind ?_; unfold Builtin.Dict.dictSlotNone; refine wpAny_bind (wpAny_notOrdered_dict hm.ty ?_); show wpAny _ _ (pure (Value.ref d)) _ _ s; refine wpAny_pure ?_)
  (show wpAny _ _ (Builtin.Dict.showsAll d >>= _) _ _ s; unfold Builtin.Dict.showsAll; rw [if_neg (by rw [hd]; exact Bool.false_ne_true)]; refine wpAny_bind (wpAny_pure (wpAny_bind (wpAny_dictEntries ho hdat (wpAny_bind (wpAny_dictEpoch ho hdat ?_))))))
  refine wpAny_bind (wpAny_newObj_type (wpAny_pure ⟨_, rfl, "dict_keyiterator", _, ⟨_, Heap.get?_push_size _ rfl, rfl⟩, PySem.F.slot_dict_keyiterator_next.lookup, by simpa [rawInt] using hQ⟩))
theorem raw_key_item {it : Addr} {i : Nat} {Q : Option Value → Shared → Prop} (hit : s.heap.IsKeyIter it d i es.size ep) (hm : RawD s.heap d es ep) (hlt : i < es.size)
    (hQ : ∀ h', h'.IsKeyIter it d (i + 1) es.size ep → Heap.SameBut it s.heap h' → Q (some es[i].key) { s with heap := h' }) : wpAny (model prog w) A (pyNext (.ref it)) Q E s := by
  obtain ⟨o, ho, hc, hd⟩ := id hit
  obtain ⟨od, hod, hcd, hdd⟩ := id hm
  (unfold pyNext; refine wpAny_bind (wpAny_attempt (wpAny_callSpecial?_slot (name := Str.ofString "__next__") hit.typeIs PySem.F.slot_dict_keyiterator_next (wpAny_call_entry PySem.F.slot_dict_keyiterator_next hit.typeIs PySem.F.entry_dict_keyiterator_next ?_ (PySem.F.args_dict_keyiterator_next_1 _)))))
  (refine wpAny_bind (wpAny_pure (wpAny_bind (wpAny_bind ?_))); first | refine wpAny_bind (wpAny_typeNameOfWhole_keyiter hit.typeIs (wpAny_pure ?_)) | refine wpAny_bind (wpAny_typeNameOf_keyiter hit.typeIs (wpAny_pure ?_)))
  refine wpAny_bind (wpAny_fieldsOf ho hd ?_)
  simp only [show Builtin.Dict_items.ownsTuple "dict_keyiterator" = false by decide, Bool.false_eq_true, if_false]
  (show wpAny _ _ (if (Value.ref d == Value.none) = true then _ else _) _ _ s; rw [if_neg (show ¬ ((Value.ref d == Value.none) = true) from Bool.false_ne_true)]; refine wpAny_bind (wpAny_pure (wpAny_bind (wpAny_dictEntries hod hdd ?_))))
  (rw [if_neg (by simp)]; refine wpAny_bind (wpAny_pure (wpAny_bind (wpAny_dictEpoch hod hdd ?_))); rw [if_neg (by simp)]; refine wpAny_pure ?_)
  simp only [show ¬ ((i : Int) < 0) from by omega, if_false, Int.toNat_natCast, Array.getElem?_eq_getElem hlt]
  (refine wpAny_bind ?_; first | refine wpAny_bind (wpAny_typeNameOfWhole_keyiter hit.typeIs (wpAny_pure ?_)) | refine wpAny_bind (wpAny_typeNameOf_keyiter hit.typeIs (wpAny_pure ?_)))
  (refine wpAny_bind (wpAny_isOneOf_keyiter hit.typeIs ?_); show wpAny _ _ (setField (.ref it) 1 (rawInt ((i : Int) + 1)) >>= _) _ _ s; refine wpAny_bind (wpAny_setField ho hd (by simp) ?_))
  have new : (s.heap.update it (Obj.mapFields (·.setIfInBounds 1 (rawInt ((i : Int) + 1))))).IsKeyIter it d (i + 1) es.size ep := ⟨_, Heap.get?_update_self _ ho (Obj.isFreed_of_fields (Obj.data_mapFields hd _)), (Obj.cls_mapFields ..).trans hc, by rw [Obj.data_mapFields hd]; simp [rawInt]⟩
  refine wpAny_bind (wpAny_holding ?_)
  (refine wpAny_bind (wpAny_isOneOf_keyiter (s := { s with heap := s.heap.update it (Obj.mapFields (·.setIfInBounds 1 (rawInt ((i : Int) + 1)))) }) new.typeIs ?_))
  (show wpAny _ _ (pure es[i].key) _ _ _; exact wpAny_pure (wpAny_pure ⟨_, rfl, wpAny_pure (hQ _ new (Heap.SameBut.update ..))⟩))
theorem raw_key_end {it : Addr} {Q : Option Value → Shared → Prop} (hh : A.handled = none) (hit : s.heap.IsKeyIter it d es.size es.size ep) (hm : RawD s.heap d es ep)
    (hQ : ∀ h', Heap.ExtBut it s.heap h' → Q none { s with heap := h' }) : wpAny (model prog w) A (pyNext (.ref it)) Q E s := by
  obtain ⟨o, ho, hc, hd⟩ := id hit
  obtain ⟨od, hod, hcd, hdd⟩ := id hm
  (unfold pyNext; refine wpAny_bind (wpAny_attempt (wpAny_callSpecial?_slot (name := Str.ofString "__next__") hit.typeIs PySem.F.slot_dict_keyiterator_next (wpAny_call_entry PySem.F.slot_dict_keyiterator_next hit.typeIs PySem.F.entry_dict_keyiterator_next ?_ (PySem.F.args_dict_keyiterator_next_1 _)))))
  (refine wpAny_bind (wpAny_pure (wpAny_bind (wpAny_bind ?_))); first | refine wpAny_bind (wpAny_typeNameOfWhole_keyiter hit.typeIs (wpAny_pure ?_)) | refine wpAny_bind (wpAny_typeNameOf_keyiter hit.typeIs (wpAny_pure ?_)))
  refine wpAny_bind (wpAny_fieldsOf ho hd ?_)
  simp only [show Builtin.Dict_items.ownsTuple "dict_keyiterator" = false by decide, Bool.false_eq_true, if_false]
  (show wpAny _ _ (if (Value.ref d == Value.none) = true then _ else _) _ _ s; rw [if_neg (show ¬ ((Value.ref d == Value.none) = true) from Bool.false_ne_true)]; refine wpAny_bind (wpAny_pure (wpAny_bind (wpAny_dictEntries hod hdd ?_))))
  (rw [if_neg (by simp)]; refine wpAny_bind (wpAny_pure (wpAny_bind (wpAny_dictEpoch hod hdd ?_))); rw [if_neg (by simp)]; refine wpAny_pure ?_)
  simp only [show ¬ ((es.size : Int) < 0) from by omega, if_false, Int.toNat_natCast, Array.getElem?_eq_none (Nat.le_refl es.size)]
  (refine wpAny_bind ?_; first | refine wpAny_bind (wpAny_typeNameOfWhole_keyiter hit.typeIs (wpAny_pure ?_)) | refine wpAny_bind (wpAny_typeNameOf_keyiter hit.typeIs (wpAny_pure ?_)))
  (show wpAny _ _ (setField (.ref it) 0 .none >>= _) _ _ s; refine wpAny_bind (wpAny_setField ho hd (by simp) ?_); show wpAny _ _ (newExc (.type "StopIteration") [] >>= _) _ _ _; refine wpAny_bind ?_; simp only [newExc, newTuple])
  (refine wpAny_bind (wpAny_newObj_type (wpAny_bind (m := firstArgMember _ _) (wpAny_of_eq (a := Value.none) (by first | rfl | (simp only [firstArgMember]; rfl)) (wpAny_newObj_type ?_ (by size_fits)))) (by size_fits)))
  (simp only [raiseNew]; refine wpAny_bind (wpAny_handled ?_); rw [show A.in1.handled = none from hh]; refine wpAny_bind (wpAny_pure (wpAny_throw ?_)); refine wpAny_bind (wpAny_isInstance (T := "StopIteration") (b := true) ⟨_, Heap.get?_push_size _ rfl, rfl⟩ isSubtype_stop ?_))
  exact wpAny_pure (hQ _ (((Heap.SameBut.update ..).extBut.push _).push _))
end
end L2
set_option Elab.async false
set_option linter.all false
set_option maxRecDepth 100000
set_option maxHeartbeats 4000000
namespace L2
open PySem PySem.Spec PyProof.Rows PySem.W
section
variable {X : Cx}
theorem paired_back {α β : Type} {R : α → β → Prop} : ∀ {xs : List α} {ys : List β}, Paired R xs ys → ∀ (i : Nat) (y : β), ys[i]? = some y → ∃ x, xs[i]? = some x ∧ R x y
  | _, _, .nil, i, x, h => by simp at h
  | _, _, .cons r t, 0, x, h => by simp at h; subst h; exact ⟨_, rfl, r⟩
  | _, _, .cons r t, i + 1, x, h => by simpa using paired_back t i x (by simpa using h)
theorem kV_rel {P : Program} {w : World} {k : Key} {u : Value} (h : (mixKind P w).is k u = true) : RelV (kV k) u := by
  cases u with
  | int i t =>
    cases k with
    | inl j =>
      have e : (Sum.inl i : Key) = Sum.inl j := (mixKind P w).inj _ _ _ (mixKind_int P w i t) h
      cases e
      exact ⟨t, rfl⟩
    | inr x => exact nomatch (show (Sum.inl i : Key) = Sum.inr x from (mixKind P w).inj _ _ _ (mixKind_int P w i t) h)
  | str x t =>
    cases k with
    | inr j =>
      have e : (Sum.inr x : Key) = Sum.inr j := (mixKind P w).inj _ _ _ (mixKind_str P w x t) h
      cases e
      exact ⟨t, rfl⟩
    | inl i => exact nomatch (show (Sum.inr x : Key) = Sum.inl i from (mixKind P w).inj _ _ _ (mixKind_str P w x t) h)
  | _ => cases k <;> exact absurd (show false = true from h) Bool.false_ne_true
noncomputable def mLstK : List V → Hp → VK → Prop := fun vs H Q => ∃ a kvs, vs = [.ref a] ∧ Rd H a (.dK kvs) ∧ ∀ p : Addr, H p = none → Q (.ref p) (upd H p (.lst (kvs.map fun kv => kV kv.1)))
theorem vals_of_get : ∀ {xs : List V} {us : List Value}, us.length = xs.length → (∀ (j : Nat) (v : Value), us[j]? = some v → ∃ x, xs[j]? = some x ∧ RelV x v) → Vals xs us
  | [], [], _, _ => .nil
  | x :: r, u :: t, hl, h => by
    obtain ⟨y, h1, h2⟩ := h 0 u rfl
    simp at h1
    subst h1
    exact .cons h2 (vals_of_get (by simpa using hl) fun j v e => by simpa using h (j + 1) v (by simpa using e))
  | [], _ :: _, hl, _ => by simp at hl
  | _ :: _, [], hl, _ => by simp at hl
theorem mc_listK (hc : X.calm = true) : CallR X (.type "list") mLstK := by
  intro pins s σ H vs us Q I r h
  obtain ⟨a, kvs, rfl, ha, q⟩ := h
  obtain ⟨u, rfl, r1⟩ := vals1 r
  cases r1
  obtain ⟨z, lo, xs, rel, dd⟩ := dk_rd I.hok ha
  obtain ⟨ep, dd⟩ := dd.dictAt
  have hlx := rel.length
  refine kdl_call (kdl_dict (knd := mixKind X.prog X.w) lo) (I.ok.hd hc) dd (by omega) fun h' tk acc c hk hS hacc => ?_
  refine ⟨.ref s.heap.objs.size, _, I.laid (a := s.heap.objs.size) (o := .lst (kvs.map fun kv => kV kv.1)) (t' := tk) hk (Nat.le_refl _) ⟨by simp; omega, acc.toList, c, ?_, by simpa using hS⟩, rfl, q _ (I.hok.fresh (Nat.le_refl _))⟩
  refine vals_of_get (by rw [Array.length_toList, hacc.1, List.length_map, hlx]) fun j v e => ?_
  obtain ⟨k, x, h1, h2⟩ := hacc.2 j v (by rw [← Array.getElem?_toList]; exact e)
  obtain ⟨kv, h3, h4, h5⟩ := paired_back rel j (k, x) h1
  refine ⟨kV k, by rw [List.getElem?_map, h3]; exact congrArg (fun z => some (kV z)) h4, ?_⟩
  exact kV_rel h2
end
end L2
set_option Elab.async false
set_option linter.all false
set_option maxRecDepth 100000
set_option maxHeartbeats 4000000
namespace L2
open PySem PySem.Spec PyProof.Rows PySem.W
open PySem.AutoSeq1 (wpAny_loadPart')
noncomputable def EqIn (prog : Program) (w : World) (A : Around) (s : Shared) (y x : Value) : Prop := ∀ (E : Value → Shared → Prop) (Q : Bool → Shared → Prop), Q true s → wpAny (model prog w) A (eqBool y x) Q E s
section
variable {prog : Program} {w : World} {A : Around} {E : Value → Shared → Prop} {s : Shared}
theorem EqIn.at {y x : Value} (h : SeqAt.EqAt A s y x true) : EqIn prog w A s y x := fun E Q q => h prog w E Q q
variable {K : Type} [DecidableEq K] {knd : HeapKind prog w K}
end
section
variable {X : Cx}
end
end L2
set_option Elab.async false
set_option linter.all false
set_option maxRecDepth 100000
set_option maxHeartbeats 4000000
namespace L2
open PySem PySem.Spec PyProof.Rows PySem.W
section
variable {X : Cx}
end
section
variable {K : PySem.W.Frag} {σ : St} {H : Hp} {Q : VK} {D : Ends} {a : Addr} {xs : List V} {n : Nat}
theorem gCons_i {t : TG} {u : TGs} {v : V} {r : List V} {N : St → Hp → Prop} (k : t v σ H fun σ' H' => u r σ' H' N) : gCons t u (v :: r) σ H N := ⟨v, r, rfl, k⟩
theorem gNil_i {N : St → Hp → Prop} (k : N σ H) : gNil [] σ H N := ⟨rfl, k⟩
end
end L2
set_option Elab.async false
set_option linter.all false
set_option maxRecDepth 100000
set_option maxHeartbeats 4000000
namespace L2
open PySem PySem.Spec PyProof.Rows PySem.W
section
variable {X : Cx}
theorem eqAt_kV {A : Around} {s : Shared} {a b : Key} {u v : Value} (ra : RelV (kV a) u) (rb : RelV (kV b) v) : SeqAt.EqAt A s u v (decide (a = b)) := by
  cases a with
  | inl i =>
    obtain ⟨t, rfl⟩ := ra
    cases b with
    | inl j =>
      obtain ⟨t', rfl⟩ := rb
      rw [key_ll]
      have := SeqAt.EqAt.int_int (A := A) (s := s) i t j t'
      simpa [PyData.eqv] using this
    | inr y =>
      obtain ⟨t', rfl⟩ := rb
      rw [key_lr]
      exact SeqAt.EqAt.int_str i t y t'
  | inr x =>
    obtain ⟨t, rfl⟩ := ra
    cases b with
    | inl j =>
      obtain ⟨t', rfl⟩ := rb
      rw [key_rl]
      exact SeqAt.EqAt.str_int x t j t'
    | inr y =>
      obtain ⟨t', rfl⟩ := rb
      rw [key_rr]
      have := SeqAt.EqAt.str_str (A := A) (s := s) x t y t'
      have e : (x == y) = decide (x = y) := by
        by_cases h : x = y
        · subst h; simp
        · rw [decide_eq_false h]; exact beq_eq_false_iff_ne.mpr h
      rw [← e]
      simpa [PyData.eqv] using this
end
end L2
set_option Elab.async false
set_option linter.all false
set_option maxRecDepth 100000
set_option maxHeartbeats 4000000
namespace Att
open PySem PySem.W PySem.Calls PyProof.Rows
theorem bits_of {ns : List Int} (h : WData.layableAll [WData.list (ns.map WData.int)] = true) : ∀ i ∈ ns, Builtin.Int.intBits i ≤ 1048576 := by
  have h1 : (WData.list (ns.map WData.int)).layable = true := by
    unfold WData.layableAll at h
    simpa using h
  obtain ⟨g1, g2, h2⟩ := layableW_iff.mp h1
  have h3 : WData.weightAll (ns.map WData.int) ≤ 2 ^ 20 := h2
  clear h h1 h2 g1 g2
  induction ns with
  | nil => intro i hi; exact absurd hi (by simp)
  | cons n r ih =>
    rw [List.map_cons] at h3
    have h4 : (WData.int n).weight + 1 + WData.weightAll (r.map WData.int) ≤ 2 ^ 20 := h3
    intro i hi
    rcases List.mem_cons.mp hi with e | e
    · subst e
      have : (WData.int i).weight = Builtin.Int.intBits i := rfl
      omega
    · exact ih (by omega) i e
theorem attach_callB {l : OpenLaw} {n : Nat} {q : Program} {loose : List Str} {XP : (Str → Option Value) → Heap → Prop} {YP : World → Heap → Prop} {d : DefRec}
    (hn : l.most = some n) (hdf : d.params.defaults = [])
    (call : ∀ (w : World) (s₀ s₁ : Shared) (mg mb : Str → Option Value) (fa : Addr) (o : Obj) (pm cd doc : Value) (a : Addr) (vs : List Value) (ns : List Int),
      Ground q loose [] XP w s₀ mg mb s₁.heap → YP w s₁.heap →
      s₁.heap.get? fa = some o → o.data = .func (docDef d.name d.params d.body d.scope pm cd doc) → s₁.heap.CodeRec cd d.name → mg d.name = some (.ref fa) →
      s₁.heap.get? a = some { cls := .type "list", data := .seq vs.toArray } → IntsAre vs ns → ns.length ≤ n → (∀ i ∈ ns, Builtin.Int.intBits i ≤ 1048576) → s₁.gens = #[] →
      codeAny (model l.prog w) callerA (.call (.ref fa) ⟨[.ref a], []⟩) (fun r s' => r = .ok (.ret (.bool true)) ∧ OldK s₁.heap s'.heap ∧ s'.os = s₁.os ∧ AllBare s'.gens) s₁) :
    WalkO q loose XP YP l.row.toRowW d [] (fun f vs => PySem.call f vs) := by
  intro w s₀ s₁ mg mb G Y fa o pm cd doc dV kV ho hd hcd hD hmg hg args vals as hpre hlay hrd hwl hlo
  obtain rfl : dV = .none := Dflts.none hD hdf
  obtain rfl : kV = .none := Dflts.noKw hD
  obtain ⟨a, vs, ns, rfl, rfl, hobj, hints, hlen⟩ := script_of hn hpre hwl
  refine enter_call (codeAny_mono (call w s₀ s₁ mg mb fa o pm cd doc a vs ns G Y ho (fd_plain hd) hcd hmg hobj hints hlen (bits_of hlay) hg) fun r s' hq => ?_)
  obtain ⟨rfl, h2, h3, h4⟩ := hq
  exact ⟨.inl ⟨.bool true, .bool true, [], rfl, fun _ => rfl, .bool true, post_true l _, fun _ => ⟨List.Pairwise.nil, fun _ hm => (nomatch hm)⟩⟩, h2, h3, h4⟩
end Att
namespace L2
open PySem PySem.Spec PyProof.Rows
theorem walk_ofB {l : PySem.W.OpenLaw} {n k : Nat} {q : Program} {loose : List Str} {XP : (Str → Option Value) → Heap → Prop} {YP : World → Heap → Prop} {d : DefRec} {K : Params → PySem.W.Frag} {CX : World → CXT} {sp : World → Sp} {x : Str}
    (hn : l.most = some n) (hn2 : n ≤ sizeLine) (hdf : d.params.defaults = []) (hr : Room k callerA)
    (hY : ∀ (w : World) (h : Heap), YP w h → (K w.params).In h)
    (F : ∀ (w : World) (mg : Str → Option Value) (fa : Addr) (h : Heap), (K w.params).In h → h.Ns mainGlobals mg → mg d.name = some (.ref fa) →
      ∃ fd : FuncData, (∀ (s : Shared) (u : Value), BindsTo s fd ⟨[u], []⟩ [(x, u)]) ∧
        ∀ base : Heap, (K w.params).In base → base.Ns mainGlobals mg → FnOk l.prog w (K w.params) mg base (CX w) k fa fd [x] (sp w))
    (hsp : ∀ (w : World) (H : Hp) (a : Addr) (ns : List Int), ns.length ≤ n → (∀ i ∈ ns, Builtin.Int.intBits i ≤ 1048576) → Only H → SqL (K w.params) H a (ns.map V.int) → sp w [.ref a] H (fun v _ => v = .bl true) fun _ _ _ => False)
    (hCX : ∀ (w : World) (H : Hp) (s : Shared) (e : Value) (s' : Shared), CX w [] H s (fun _ _ _ => False) e s' → False) :
    PySem.W.WalkO q loose XP YP l.row.toRowW d [] (fun f vs => PySem.call f vs) := by
  refine Att.attach_callB hn hdf fun w s₀ s₁ mg mb fa o pm cd doc a vs ns G Y ho hd hcd hmg hobj hints hlen hbits hg => ?_
  have KX := hY w _ Y
  obtain ⟨fd, hb, hF⟩ := F w mg fa _ KX G.T.g hmg
  exact law_call KX G.T.g G.T.b G.T.builtins G.T.nolimit hg hobj hints (Nat.le_trans hlen hn2) hr hF hb (fun H hO hS => hsp w H a ns hlen hbits hO hS) fun H e s' => hCX w H s₁ e s'
theorem mulOk_bits {a b : Int} (h : Builtin.Int.intBits a + Builtin.Int.intBits b ≤ 8388608) : IntMulOk a b := by
  unfold IntMulOk Builtin.Int.intTooBig
  intro z
  simp only [Bool.and_eq_true, decide_eq_true_eq] at z
  have h2 := z.2
  have hb : ((bitsLine : Nat) : Int) = 134217728 := by decide
  omega
theorem bits_lt (x : Int) (k : Nat) (h : x.natAbs < 2 ^ k) : Builtin.Int.intBits x ≤ k := by
  unfold Builtin.Int.intBits
  by_cases h0 : x = 0
  · subst h0; simp
  · have hz : (x == 0) = false := beq_eq_false_iff_ne.mpr h0
    rw [hz]
    simp only [Bool.false_eq_true, if_false]
    have h1 : x.natAbs ≠ 0 := by omega
    have := (Nat.log2_lt h1).mpr h
    omega
theorem lt_bits (x : Int) (k : Nat) (h : Builtin.Int.intBits x ≤ k) : x.natAbs < 2 ^ k := by
  unfold Builtin.Int.intBits at h
  by_cases h0 : x = 0
  · subst h0; simp; exact Nat.two_pow_pos k
  · have hz : (x == 0) = false := beq_eq_false_iff_ne.mpr h0
    rw [hz] at h
    simp only [Bool.false_eq_true, if_false] at h
    have h1 : x.natAbs ≠ 0 := by omega
    exact (Nat.log2_lt h1).mp (by omega)
end L2
set_option Elab.async false
set_option linter.all false
set_option maxRecDepth 100000
set_option maxHeartbeats 4000000
namespace L2
open PySem PySem.Spec PyProof.Rows PySem.W
structure QS (X : Cx) (st : Stmt) (t : TS) : Prop where
  ps : PS X st t
structure QSs (X : Cx) (l : List Stmt) (t : TS) : Prop where
  pss : PSs X l t
section
variable {X : Cx} {pos pos' : Pos} {e k v : Expr} {te tk tv : TE} {st : Stmt} {rest : List Stmt} {t u : TS}
theorem qss_cons (h1 : QS X st t) (h2 : QSs X rest u) : QSs X (st :: rest) (tSeq t u) := ⟨pss_cons h1.ps h2.pss⟩
theorem qss_one (h1 : QS X st t) : QSs X [st] t := ⟨pss_one h1.ps⟩
end
section
variable {X : Cx} {pos : Pos} {e : Expr} {te : TE}
end
section
variable {X : Cx} {tg : Expr}
noncomputable def iSeq (K : PySem.W.Frag) (tl : TE) : TI := fun σ H R => tl σ H fun x H1 => ∃ a, x = .ref a ∧ ((∃ xs, SqL K H1 a xs ∧ R (Itl K a) H1) ∨ ∃ xs, SqT K H1 a xs ∧ R (Itt K a) H1)
theorem kpi_seq (K : PySem.W.Frag) (hK : X.K = K) {l : Expr} {tl : TE} (hl : PE X l tl) : PI X tg l (iSeq K tl) := by
  subst hK
  intro pins s σ H R I h
  refine thn (hl pins s σ H _ I h) fun v s1 ⟨x, H1, I1, r1, q1⟩ => ?_
  obtain ⟨a, e, q1⟩ := q1
  subst e
  cases r1
  rcases q1 with ⟨xs, hq, q⟩ | ⟨xs, hq, q⟩
  · obtain ⟨its, rv, p, hz⟩ := I1.list hq
    refine wpAny_pyIter_list p.isList ?_
    refine ⟨s1.heap.objs.size, [s1.heap.objs.size], _, _, H1, rfl, I1.kept (t' := s1.toks) fun b o e => Heap.get?_push_of_some _ e, turn_list a _, ⟨_, Heap.get?_push_size _ rfl, rfl, rfl⟩, fun b hb => ?_, q⟩
    have e : b = s1.heap.objs.size := by simpa using hb
    subst e
    exact I1.fpOk (Nat.le_refl _) (I1.hok.fresh (Nat.le_refl _))
  · obtain ⟨its, rv, p, hz⟩ := I1.tuple hq
    refine wpAny_pyIter_tuple (show s1.heap.IsTuple a its.toArray from p) ?_
    refine ⟨s1.heap.objs.size, [s1.heap.objs.size], _, _, H1, rfl, I1.kept (t' := s1.toks) fun b o e => Heap.get?_push_of_some _ e, turn_tuple a _, ⟨_, Heap.get?_push_size _ rfl, rfl, rfl⟩, fun b hb => ?_, q⟩
    have e : b = s1.heap.objs.size := by simpa using hb
    subst e
    exact I1.fpOk (Nat.le_refl _) (I1.hok.fresh (Nat.le_refl _))
theorem iSeq_i {K : PySem.W.Frag} {σ : St} {H : Hp} {ta : TE} {R : It → Hp → Prop} (k : ta σ H fun x H1 => ∃ a, x = .ref a ∧ ((∃ xs, SqL K H1 a xs ∧ R (Itl K a) H1) ∨ ∃ xs, SqT K H1 a xs ∧ R (Itt K a) H1)) : iSeq K ta σ H R := k
noncomputable def mAbs : List V → Hp → VK → Prop := fun vs H Q => ∃ i, vs = [.int i] ∧ Q (.int (if i < 0 then -i else i)) H
theorem mAbs_i {i : Int} {H : Hp} {Q : VK} (k : Q (.int (if i < 0 then -i else i)) H) : mAbs [.int i] H Q := ⟨i, rfl, k⟩
end
end L2
set_option Elab.async false
set_option linter.all false
set_option maxRecDepth 100000
set_option maxHeartbeats 4000000
namespace L2
open PySem PySem.Spec PyProof.Rows PySem.W
section
variable {M : Model} {A : Around} {E : Value → Shared → Prop}
end
end L2
set_option Elab.async false
set_option linter.all false
set_option maxRecDepth 100000
set_option maxHeartbeats 4000000
namespace L2
open PySem PySem.W
noncomputable abbrev newS : String := "ValueError.__new__"
structure XCls (K : Frag) (C : Addr) (bm : List Value) : Prop where
  obj : ∃ nm q N bs sn sub ab col dd k0 k1 k2 k3 k5, K.lookup C = some (excClassObj nm q C N bs bm true sn sub ab col dd k0 k1 k2 k3 k5 newS)
  hasV : bm.contains (.type "ValueError") = true
  hasB : bm.contains (.type "BaseException") = true
  noA : bm.contains (.type "AttributeError") = false
  noN : bm.contains (.type "NameError") = false
section
variable {prog : Program} {w : World} {A : Around} {E : Value → Shared → Prop} {R : Result → Shared → Prop} {h : Heap} {g : Array GenState} {d : Drawn} {t : Nat} {os : OsState}
variable {nm q : Str} {C N : Addr} {bs bm : List Value} {sn : List Str} {sub : List Value} {ab : Bool} {col : Option Bool} {dd : Option Addr} {k0 k1 k2 k3 k5 : Option Value}
end
end L2
set_option Elab.async false
set_option linter.all false
set_option maxRecDepth 100000
set_option maxHeartbeats 4000000
namespace L2
open PySem PySem.W
section
variable {prog : Program} {w : World} {A : Around} {E : Value → Shared → Prop} {R : Result → Shared → Prop} {h : Heap} {g : Array GenState} {d : Drawn} {t : Nat} {os : OsState} {K : Frag} {C e : Addr} {bm : List Value} {o : Obj} {vs : Array Value}
noncomputable def XUp (bm : List Value) : Prop := ∃ l : List Value, (∀ v ∈ l, ∃ a, v = Value.ref a) ∧ bm = l ++ [.type "ValueError", .type "Exception", .type "BaseException", .type "object"]
end
end L2
set_option Elab.async false
set_option linter.all false
set_option maxRecDepth 100000
set_option maxHeartbeats 4000000
namespace L2
open PySem PySem.Spec PyProof.Rows PySem.W
noncomputable def XFp (e C : Addr) (dx : Option Addr) (fr : Bool) (h : Heap) : Prop := ∃ o vs t0 x, h.get? e = some o ∧ o.cls = .ref C ∧ o.dict = dx ∧ o.data = .fields vs ∧ vs[0]? = some (Value.ref t0) ∧ vs[1]? = some x ∧ (fr = true → x = .none)
noncomputable def XF (e C : Addr) (dx : Option Addr) (fr : Bool) : HO := .ext (XFp e C dx fr)
section
variable {X : Cx} {pins : List (Addr × Obj)} {σ : St} {H : Hp} {s : Shared}
end
section
variable {P : Program} {w : World} {K : Frag} {mg : Str → Option Value} {base : Heap} {N : List Str} {qual : Str} {scope : Scope} {f : Addr} {cd : Value} {A : Around} {outer : List Env} {s : Shared} {H : Hp} {E : XK}
end
end L2
set_option Elab.async false
set_option linter.all false
set_option maxRecDepth 100000
set_option maxHeartbeats 4000000
namespace L2
open PySem PySem.Spec PyProof.Rows PySem.W
section
variable {X : Cx} {pins : List (Addr × Obj)} {σ : St} {H : Hp} {s : Shared} {pos apos np : Pos} {a b o e value : Expr} {es : List Expr} {t : TA} {te ta tv : TE} {f x : Str}
noncomputable def tBInit (K : Frag) (t : TA) : TE := fun σ H Q => t σ H fun vs H2 => ∃ e C dx fr bm y, vs = [.ref e, y] ∧ H2 e = some (XF e C dx fr) ∧ XCls K C bm ∧ Q .non H2
structure XAttr (K : Frag) (C : Addr) : Prop where
  ga : findIn K (.ref C) "__getattribute__" = some (some (.builtin "BaseException.__getattribute__"))
  gx : findIn K (.ref C) "__getattr__" = some none
  sa : findIn K (.ref C) "__setattr__" = some (some (.builtin "object.__setattr__"))
noncomputable def tXSet (K : Frag) (ta tv : TE) (f : Str) : TS := fun D σ H => tv σ H fun y H1 => ta σ H1 fun x H2 => ∃ e C bm fr, x = .ref e ∧ XCls K C bm ∧ XUp bm ∧ XAttr K C ∧ NoAttr K C f ∧
  ((H2 e = some (XF e C none fr) ∧ ∀ dx, H2 dx = none → dx ≠ e → D.nx σ (upd (upd H2 dx (.xd [(f, y)])) e (XF e C (some dx) fr))) ∨ (∃ dx fs, H2 e = some (XF e C (some dx) fr) ∧ H2 dx = some (.xd fs) ∧ fs.length ≤ 900 ∧ D.nx σ (upd H2 dx (.xd (putF f y fs)))))
noncomputable def tXGet (K : Frag) (ta : TE) (f : Str) : TE := fun σ H Q => ta σ H fun x H1 => ∃ e C bm dx fs fr v, x = .ref e ∧ H1 e = some (XF e C (some dx) fr) ∧ XCls K C bm ∧ XAttr K C ∧ NoAttr K C f ∧ H1 dx = some (.xd fs) ∧ fs.lookup f = some v ∧ Q v H1
end
end L2
set_option Elab.async false
set_option linter.all false
set_option maxRecDepth 100000
set_option maxHeartbeats 4000000
namespace L2
open PySem PySem.Spec PyProof.Rows PySem.W
section
variable {X : Cx} {CX : CXT} {k : Nat} {f C : Addr} {fd : FuncData} {ps : List Str} {sp : Sp} {dvs : List V} {ds : List Value} {E : XK} {x m : Str} {p pos apos np : Pos} {e o : Expr} {es : List Expr} {ta te : TE} {t : TA} {bm : List Value}
noncomputable def tXMake (C : Addr) (sp : Sp) (dvs : List V) (E : XK) (t : TA) : TE := fun σ H Q => t σ H fun vs H1 => vs.length ≤ 1000 ∧ ∀ e, H1 e = none → sp (.ref e :: (vs ++ dvs)) (upd H1 e (XF e C none true)) (fun v H2 => v = .non ∧ Q (.ref e) H2) E
noncomputable def tRaise (EX : XK) (K : Frag) (te : TE) : TS := fun _ σ H => te σ H fun v H1 => ∃ e C dx bm, v = .ref e ∧ XCls K C bm ∧ H1 e = some (XF e C dx true) ∧ EX (.ref C) (some e) (upd H1 e (XF e C dx false))
end
end L2
set_option Elab.async false
set_option linter.all false
set_option maxRecDepth 100000
set_option maxHeartbeats 4000000
namespace L2
open PySem PySem.Spec PyProof.Rows PySem.W
section
variable {X : Cx} {pins : List (Addr × Obj)} {σ : St} {H : Hp} {s : Shared} {ea : Addr}
end
section
variable {X : Cx} {k : Nat} {f C' : Addr} {fd : FuncData} {ps : List Str} {sp : Sp} {dvs : List V} {ds : List Value} {x y nm cx : Str} {p pos apos cp hpos py tpos : Pos} {e : Expr} {es : List Expr} {t : TA} {bm' : List Value} {b0 : Stmt} {suite : List Stmt} {ts : TS} {i n : Nat}
noncomputable def tTry (K : Frag) (C' : Addr) (sp : Sp) (dvs : List V) (t : TA) (ok : Ends → St → V → Hp → Prop) (hd : Ends → St → Addr → Hp → Prop) : TS := fun D σ H => t σ H fun vs H1 => sp (vs ++ dvs) H1 (fun v H2 => ok D σ v H2) (fun c eo H2 => ∀ ea, eo = some ea → ∃ C dx bm, c = .ref C ∧ H2 ea = some (XF ea C dx false) ∧ XCls K C bm ∧ (Value.ref C :: bm).contains (.ref C') = true ∧ hd D σ ea H2)
end
end L2
set_option Elab.async false
set_option linter.all false
set_option maxRecDepth 100000
set_option maxHeartbeats 4000000
namespace L2
open PySem PySem.Spec PyProof.Rows PySem.W
structure FunD (K : Frag) (x qual : Str) (st : Stmt) (f : Addr) (fd : FuncData) (dV : Value) : Prop where
  ex : ∃ (oc : Value) (od : Option Addr) (kV doc pm : Value) (an : Option Addr) (cdv ct : Value) (osl : Array (Option Value)),
    fd = fnOf x qual (defArgs st) (defBody st) (defScope st) dV kV doc pm an cdv ct ∧ K.lookup f = some ⟨oc, od, .func fd, osl⟩ ∧ codeIn K cdv qual = true
  kp : keepIn K (.ref f) = true
section
variable {P : Program} {w : World} {K : Frag} {mg : Str → Option Value} {base : Heap}
theorem FunD.ok {dV : Value} {x qual : Str} {st : Stmt} {f : Addr} {fd : FuncData} {N ps : List Str} {k : Nat} {sp : Sp} (F : FunD K x qual st f fd dV) (S : FnScope N ps (defScope st)) (len : ∀ vs H Q E, sp vs H Q E → vs.length = ps.length)
    (hbody : ∀ (cdv : Value) (A : Around) (outer : List Env) (s : Shared) (H : Hp) (vs : List V) (Q : VK) (E : XK), Room k (A.deeper (envOfC qual (defScope st) s.heap.objs.size f cdv)) → sp vs H Q E →
      ∃ t, PSs (cxOf CX0 P w K mg base N qual (defScope st) f cdv A outer s H E).nox (defBody st) t ∧ t { nx := fun _ H' => Q .non H', rt := Q } (start N vs) H) : FnOk P w K mg base CX0 (k + 1) f fd ps sp := by
  obtain ⟨oc, od, kV, doc, pm, an, cdv, ct, osl, rfl, lk, hcd⟩ := F.ex
  refine fn_of lk hcd S len fun A outer s H vs Q E hr hsp => ?_
  obtain ⟨t, h, q⟩ := hbody cdv A outer s H vs Q E hr hsp
  exact ⟨t, h.nox, q⟩
end
end L2
set_option Elab.async false
set_option linter.all false
set_option maxRecDepth 100000
set_option maxHeartbeats 4000000
namespace L2
open PySem PySem.Spec PyProof.Rows PySem.W
section
variable {X : Cx}
theorem ko_ninV (K : Frag) (h : X.K = K) : OpR X (compareOp .NotIn) (rIn K true) := h ▸ op_notIn_seq
end
theorem inV_strs (x : Str) : ∀ xs : List Str, inV (.str x) (xs.map V.str) = decide (x ∈ xs)
  | [] => by simp [inV]
  | y :: r => by
    have ih := inV_strs x r
    unfold inV at ih ⊢
    rw [List.map_cons, List.any_cons, ih]
    by_cases h : y = x
    · subst h; simp [eqV]
    · have h2 : x ≠ y := fun z => h z.symm
      simp [eqV, h, h2]
theorem all_flat (xs : List Str) : (xs.map V.str).all flatV = true := by
  rw [List.all_eq_true]
  intro v hv
  obtain ⟨x, _, rfl⟩ := List.mem_map.mp hv
  rfl
theorem nin_strs {K : Frag} {H : Hp} {Q : VK} {p : Addr} {x : Str} (xs : List Str) (h : SqL K H p (xs.map V.str) ∨ SqT K H p (xs.map V.str)) (k : Q (.bl (!decide (x ∈ xs))) H) : rIn K true (.str x) (.ref p) H Q := ⟨p, _, rfl, h, rfl, all_flat xs, by rw [inV_strs]; exact k⟩
section
variable {K : Frag} {σ : St} {H : Hp} {Q : VK} {D : Ends} {t : TA} {te ta tv : TE} {f : Str} {sp : Sp} {dvs : List V} {E EX : XK} {C C' : Addr}
theorem tRaise_i (k : te σ H fun v H1 => ∃ e C dx bm, v = .ref e ∧ XCls K C bm ∧ H1 e = some (XF e C dx true) ∧ EX (.ref C) (some e) (upd H1 e (XF e C dx false))) : tRaise EX K te D σ H := k
theorem tXMake_i (k : t σ H fun vs H1 => vs.length ≤ 1000 ∧ ∀ e, H1 e = none → sp (.ref e :: (vs ++ dvs)) (upd H1 e (XF e C none true)) (fun v H2 => v = .non ∧ Q (.ref e) H2) E) : tXMake C sp dvs E t σ H Q := k
theorem tTry_i {ok : Ends → St → V → Hp → Prop} {hd : Ends → St → Addr → Hp → Prop} (k : t σ H fun vs H1 => sp (vs ++ dvs) H1 (fun v H2 => ok D σ v H2) (fun c eo H2 => ∀ ea, eo = some ea → ∃ C dx bm, c = .ref C ∧ H2 ea = some (XF ea C dx false) ∧ XCls K C bm ∧ (Value.ref C :: bm).contains (.ref C') = true ∧ hd D σ ea H2)) : tTry K C' sp dvs t ok hd D σ H := k
theorem tXGet_i (k : ta σ H fun x H1 => ∃ e C bm dx fs fr v, x = .ref e ∧ H1 e = some (XF e C (some dx) fr) ∧ XCls K C bm ∧ XAttr K C ∧ NoAttr K C f ∧ H1 dx = some (.xd fs) ∧ fs.lookup f = some v ∧ Q v H1) : tXGet K ta f σ H Q := k
theorem tBInit_i (k : t σ H fun vs H2 => ∃ e C dx fr bm y, vs = [.ref e, y] ∧ H2 e = some (XF e C dx fr) ∧ XCls K C bm ∧ Q .non H2) : tBInit K t σ H Q := k
theorem tXSet_i (k : tv σ H fun y H1 => ta σ H1 fun x H2 => ∃ e C bm fr, x = .ref e ∧ XCls K C bm ∧ XUp bm ∧ XAttr K C ∧ NoAttr K C f ∧
  ((H2 e = some (XF e C none fr) ∧ ∀ dx, H2 dx = none → dx ≠ e → D.nx σ (upd (upd H2 dx (.xd [(f, y)])) e (XF e C (some dx) fr))) ∨ (∃ dx fs, H2 e = some (XF e C (some dx) fr) ∧ H2 dx = some (.xd fs) ∧ fs.length ≤ 900 ∧ D.nx σ (upd H2 dx (.xd (putF f y fs)))))) : tXSet K ta tv f D σ H := k
end
noncomputable def rowS : Str := Str.ofString "row"
noncomputable def IsX (H : Hp) (ea C : Addr) (fs : List (Str × V)) : Prop := ∃ dx, H ea = some (XF ea C (some dx) false) ∧ H dx = some (.xd fs)
theorem IsX.mono {H H' : Hp} {ea C : Addr} {fs : List (Str × V)} (h : IsX H ea C fs) (s : Same H H') : IsX H' ea C fs := by
  obtain ⟨dx, a, b⟩ := h
  exact ⟨dx, s _ _ a, s _ _ b⟩
end L2
set_option Elab.async false
set_option linter.all false
set_option maxRecDepth 100000
set_option maxHeartbeats 4000000
namespace L2
open PySem PySem.Spec PyProof.Rows PySem.W
structure RoomN (k : Nat) (A : Around) : Prop where
  dp : A.depth + 3 * k + 5 < recursionLimit
  un : A.units + 16 * k + 200 < cLine
theorem RoomN.mono {j k : Nat} {A : Around} (r : RoomN k A) (h : j ≤ k) : RoomN j A := ⟨by have := r.dp; omega, by have := r.un; omega⟩
theorem RoomN.deeper {k : Nat} {A : Around} (r : RoomN (k + 1) A) (env : Env) : RoomN k (A.deeper env) :=
  ⟨by have := r.dp; show A.depth + 1 + 3 * k + 5 < _; omega, by have := r.un; show A.units + 3 + 16 * k + 200 < _; omega⟩
theorem RoomN.depth {k : Nat} {A : Around} (r : RoomN k A) : A.depth < recursionLimit := by have := r.dp; omega
theorem Room.marked {k : Nat} {A : Around} (r : Room k A) (v : Option Value) : RoomN k (A.mark v) := ⟨r.dp, r.un⟩
theorem RoomN.of {k : Nat} {A : Around} (r : Room k A) : RoomN k A := ⟨r.dp, r.un⟩
structure FnOkN (P : Program) (w : World) (K : Frag) (mg : Str → Option Value) (base : Heap) (k : Nat) (f : Addr) (fd : FuncData) (ps : List Str) (sp : Sp) : Prop where
  len : ∀ vs H Q E, sp vs H Q E → vs.length = ps.length
  run : ∀ (A : Around) (outer : List Env) (s : Shared) (H : Hp) (args : Args) (us : List Value) (vs : List V) (Q : VK) (E : XK), RoomN k A → Env0 P w K mg base A outer s H → BindsTo s fd args (ps.zip us) → Vals vs us → sp vs H Q E →
    codeAny (model P w) A (.call (.ref f) args) (CR CX0 outer P w H s Q E) s
theorem FnOkN.fn {P : Program} {w : World} {K : Frag} {mg : Str → Option Value} {base : Heap} {k : Nat} {f : Addr} {fd : FuncData} {ps : List Str} {sp : Sp} (F : FnOkN P w K mg base k f fd ps sp) : FnOk P w K mg base CX0 k f fd ps sp :=
  ⟨F.len, fun A outer s H args us vs Q E hr => F.run A outer s H args us vs Q E (.of hr)⟩
section
variable {P : Program} {w : World} {K : Frag} {mg : Str → Option Value} {base : Heap} {N ps : List Str} {qual : Str} {scope : Scope} {f : Addr} {cd : Value} {A : Around} {outer : List Env} {s s1 : Shared} {H : Hp} {E : XK} {us : List Value} {vs : List V}
end
section
variable {X : Cx} {k : Nat} {f : Addr} {fd : FuncData} {ps : List Str} {sp : Sp} {dvs : List V} {ds : List Value} {x : Str} {p pos : Pos} {e : Expr} {es : List Expr} {t : TA}
end
section
variable {prog : Program} {w : World} {A : Around} {E : Value → Shared → Prop} {s : Shared} {K : Frag} {C e : Addr} {bm : List Value} {ox od : Obj}
end
section
variable {X : Cx}
theorem tPar_i {i j : Nat} {ta : TA} {D : Ends} {σ : St} {H : Hp} (k : ta σ H fun vs H1 => ∃ v w, vs = [v, w] ∧ D.nx ((σ.set i (some v)).set j (some w)) H1) : tPar i j ta D σ H := k
end
end L2
set_option Elab.async false
set_option linter.all false
set_option maxRecDepth 100000
set_option maxHeartbeats 4000000
namespace L2
open PySem PySem.Spec PyProof.Rows
section
variable {X : Cx} {pins : List (Addr × Obj)} {σ : St} {H : Hp} {s : Shared} {h' : Heap}
end
noncomputable def Izp (K : PySem.W.Frag) (a b : Addr) (n m : Nat) : It := ⟨fun i H => i < min n m ∧ ∃ xs ys, SqL K H a xs ∧ SqL K H b ys ∧ xs.length = n ∧ ys.length = m, fun i H v H' => ∃ T x y, H T = none ∧ v = .ref T ∧ H' = upd H T (.tup [x, y]) ∧ (∀ xs, SqL K H a xs → xs[i]? = some x) ∧ (∀ ys, SqL K H b ys → ys[i]? = some y), fun i H => i = min n m ∧ ∃ xs ys, SqL K H a xs ∧ SqL K H b ys ∧ xs.length = n ∧ ys.length = m⟩
section
variable {X : Cx}
noncomputable def iZip (K : PySem.W.Frag) (ta : TA) : TI := fun σ H R => ta σ H fun vs H1 => ∃ a b xs ys, vs = [.ref a, .ref b] ∧ SqL K H1 a xs ∧ SqL K H1 b ys ∧ R (Izp K a b xs.length ys.length) H1
end
theorem iZip_i {K : PySem.W.Frag} {σ : St} {H : Hp} {ta : TA} {R : It → Hp → Prop} (k : ta σ H fun vs H1 => ∃ a b xs ys, vs = [.ref a, .ref b] ∧ SqL K H1 a xs ∧ SqL K H1 b ys ∧ R (Izp K a b xs.length ys.length) H1) : iZip K ta σ H R := k
end L2
set_option Elab.async false
set_option linter.all false
set_option maxRecDepth 100000
set_option maxHeartbeats 4000000
namespace L2
open PySem PySem.Spec PyProof.Rows
section
variable {X : Cx} {pos : Pos} {e : Expr} {te : TE}
noncomputable def tF3i (te : TE) : TE := fun σ H Q => te σ H fun x H1 => ∃ i : Int, x = .int i ∧ i.natAbs.log2 < 1920 ∧ (Str.ofString (toString i)).length ≤ 100 ∧ ∀ z : Str, Q (.str z) H1
theorem tF3i_i {σ : St} {H : Hp} {Q : VK} (k : te σ H fun x H1 => ∃ i : Int, x = .int i ∧ i.natAbs.log2 < 1920 ∧ (Str.ofString (toString i)).length ≤ 100 ∧ ∀ z : Str, Q (.str z) H1) : tF3i te σ H Q := k
end
noncomputable def onX (H : Hp) (C : Addr) (E : XK) : Prop := ∀ ea H', Same H H' → IsX H' ea C [(rowS, .int 0)] → E (.ref C) (some ea) H'
theorem onX.mono {H H1 : Hp} {C : Addr} {E : XK} (h : onX H C E) (s : Same H H1) : onX H1 C E := fun ea H' s' i => h ea H' (s.trans s') i
end L2
set_option Elab.async false
set_option linter.all false
set_option maxRecDepth 100000
set_option maxHeartbeats 4000000
namespace L2
open PySem PySem.Spec PyProof.Rows
section
variable {X : Cx} {es rest : List Expr} {k : Nat} {pos : Pos} {env : Env} {te : TE} {t : TA}
noncomputable def notStar : Expr → Bool
  | .Starred _ _ => false
  | _ => true
theorem star_any {e : Expr} (h : notStar e = true) : starEach (e :: rest) env = (false, eval e env) :: starEach rest env := by
  rw [starEach]
  intro a p z
  rw [z] at h
  cases h
theorem pa_con {e : Expr} (ha : PE X e te) (hr : PA X rest t) (h : notStar e = true := by rfl) : PA X (e :: rest) (tCons te t) := pa_cons ha hr (star_any h)
theorem sw_lst {n : Option Expr} {l : Nat} : swapsWith (.List es pos) n l env = pure false := rfl
theorem sw_bin {a b : Expr} {op : Operator} {n : Option Expr} {l : Nat} : swapsWith (.BinOp a op b pos) n l env = pure false := rfl
theorem sw_sub {a b : Expr} {n : Option Expr} {l : Nat} : swapsWith (.Subscript a b pos) n l env = pure false := rfl
theorem sw_call {a : Expr} {kw : List Keyword} {n : Option Expr} {l : Nat} : swapsWith (.Call a es kw pos) n l env = pure false := rfl
end
section
variable {X : Cx} {a b e : Expr} {es rest : List Expr} {k : Nat} {pos pos' : Pos} {te ta tb : TE} {t : TA} {u v : TS} {st : Stmt} {x : Str}
theorem qs_of (h : PS X st u) : QS X st u := ⟨h⟩
theorem qs_if {c : Expr} {l m : List Stmt} {tc : TT} (hc : PT X c tc) (ha : QSs X l u) (hb : QSs X m v) : QS X (.If c l m pos) (tIfS tc u v) := ⟨ps_if hc ha.pss hb.pss⟩
theorem qss_nil : QSs X [] tNext := ⟨pss_nil⟩
end
end L2
set_option Elab.async false
set_option linter.all false
set_option maxRecDepth 100000
set_option maxHeartbeats 4000000
namespace L2
open PySem PySem.Spec PyProof.Rows PySem.W
section
variable {X : Cx}
end
section
variable {X : Cx} {pos : Pos} {e : Expr} {te : TE}
noncomputable def tFr (te : TE) : TE := fun σ H Q => te σ H fun x H1 => ∃ y, x = .str y ∧ (∀ c ∈ y.cps.toList, c < 16 ^ 8) ∧ y.length ≤ 5000 ∧ ∀ z : Str, Q (.str z) H1
theorem tFr_i {σ : St} {H : Hp} {Q : VK} (k : te σ H fun x H1 => ∃ y, x = .str y ∧ (∀ c ∈ y.cps.toList, c < 16 ^ 8) ∧ y.length ≤ 5000 ∧ ∀ z : Str, Q (.str z) H1) : tFr te σ H Q := k
noncomputable def tF2 (te : TE) : TE := fun σ H Q => te σ H fun x H1 => ∃ y, x = .str y ∧ y.length ≤ 5000 ∧ ∀ z : Str, Q (.str z) H1
theorem tF2_i {σ : St} {H : Hp} {Q : VK} (k : te σ H fun x H1 => ∃ y, x = .str y ∧ y.length ≤ 5000 ∧ ∀ z : Str, Q (.str z) H1) : tF2 te σ H Q := k
end
end L2
set_option Elab.async false
set_option linter.all false
set_option maxRecDepth 100000
set_option maxHeartbeats 4000000
namespace L2
open PySem PySem.Spec PyProof.Rows PySem.W
namespace FD
end FD
section
variable {prog : Program} {w : World} {A : Around} {R : Result → Shared → Prop}
noncomputable def TupsAt {K : Type} [DecidableEq K] (knd : PySem.KeyKind prog w K) (ts : List Addr) (kvs : List (K × Value)) (h : Heap) : Prop := ∀ (i : Nat) (T : Addr), ts[i]? = some T → ∃ (kk : K) (key val : Value), kvs[i]? = some (kk, val) ∧ knd.is kk key = true ∧ IsTup h T #[key, val]
theorem TupsAt.keep {K : Type} [DecidableEq K] {knd : PySem.KeyKind prog w K} {ts : List Addr} {kvs : List (K × Value)} {h h' : Heap} (x : TupsAt knd ts kvs h) (k : ∀ T ∈ ts, ∀ o, h.get? T = some o → h'.get? T = some o) : TupsAt knd ts kvs h' := fun i T e => by
  obtain ⟨kk, key, val, e1, e2, o, ho, r⟩ := x i T e
  exact ⟨kk, key, val, e1, e2, o, k T (List.mem_of_getElem? e) o ho, r⟩
end
section
variable {X : Cx}
end
end L2
set_option Elab.async false
set_option linter.all false
set_option maxRecDepth 100000
set_option maxHeartbeats 4000000
namespace L2
open PySem PySem.Spec PyProof.Rows PySem.W
section
variable {X : Cx}
end
noncomputable abbrev Rws := List (Str × Trm)
noncomputable def PutsOk (K : Frag) (H : Hp) (kvs : List (Key × V)) (rows : Rws) : Prop := Paired (fun (p : Key × V) (q : Str × Trm) => p.1 = Sum.inr q.1 ∧ Den K H p.2 q.2.data) kvs rows
noncomputable def lookR (rows : Rws) (x : Str) : Option Trm := (rows.find? fun r => decide (r.1 = x)).map (·.2)
noncomputable def putR (rows : Rws) (x : Str) (t : Trm) : Rws := if (rows.any fun r => decide (r.1 = x)) = true then rows.map (fun r => if r.1 = x then (r.1, t) else r) else rows ++ [(x, t)]
section
variable {K : Frag} {H H' : Hp} {kvs : List (Key × V)} {rows : Rws}
theorem PutsOk.mono (h : PutsOk K H kvs rows) (s : Same H H') : PutsOk K H' kvs rows := Paired.mapP h fun _ _ z => ⟨z.1, z.2.mono s⟩
theorem PutsOk.monoT (h : PutsOk K H kvs rows) (e : ∀ a xs, SqT K H a xs → SqT K H' a xs) : PutsOk K H' kvs rows := Paired.mapP h fun _ _ z => ⟨z.1, z.2.monoT e⟩
theorem PutsOk.len (h : PutsOk K H kvs rows) : kvs.length = rows.length := Paired.length h
theorem key_inr (a b : Str) : ((Sum.inr a : Key) = Sum.inr b) ↔ a = b := ⟨fun h => Sum.inr.inj h, fun h => by rw [h]⟩
theorem PutsOk.get : ∀ {kvs : List (Key × V)} {rows : Rws}, PutsOk K H kvs rows → ∀ x : Str, (lookR rows x = none ∧ valV kvs (Sum.inr x) = none) ∨ ∃ t v, lookR rows x = some t ∧ valV kvs (Sum.inr x) = some v ∧ Den K H v t.data
  | [], [], _, x => .inl ⟨rfl, rfl⟩
  | (k, v) :: kr, (y, t) :: rr, .cons h r, x => by
    obtain ⟨e1, e2⟩ := h
    have e1 : k = Sum.inr y := e1
    subst e1
    by_cases hx : y = x
    · subst hx
      refine .inr ⟨t, v, ?_, ?_, e2⟩
      · simp [lookR]
      · simp [valV]
    · have ih := PutsOk.get r x
      have n1 : lookR ((y, t) :: rr) x = lookR rr x := by simp [lookR, hx]
      have n2 : valV ((Sum.inr y, v) :: kr) (Sum.inr x) = valV kr (Sum.inr x) := by simp [valV, hx]
      rw [n1, n2]
      exact ih
theorem PutsOk.any : ∀ {kvs : List (Key × V)} {rows : Rws}, PutsOk K H kvs rows → ∀ x : Str, (kvs.any fun kv => decide (kv.1 = Sum.inr x)) = rows.any fun r => decide (r.1 = x)
  | [], [], _, x => rfl
  | (k, v) :: kr, (y, t) :: rr, .cons h r, x => by
    have e1 : k = Sum.inr y := h.1
    subst e1
    rw [List.any_cons, List.any_cons, PutsOk.any r x]
    congr 1
    exact decide_eq_decide.mpr (key_inr y x)
theorem PutsOk.put (h : PutsOk K H kvs rows) {x : Str} {v : V} {t : Trm} (d : Den K H v t.data) : PutsOk K H (putK kvs (Sum.inr x) v) (putR rows x t) := by
  unfold putK putR
  rw [h.any x]
  split
  · rename_i hz0
    clear hz0
    induction kvs generalizing rows with
    | nil => cases rows with | nil => exact .nil | cons _ _ => cases h
    | cons p r ih =>
      cases rows with
      | nil => cases h
      | cons q m =>
        cases h with
        | cons e f =>
          refine .cons ?_ (ih f)
          dsimp only
          obtain ⟨e1, e2⟩ := e
          by_cases hx : q.1 = x
          · rw [if_pos hx, if_pos (by rw [e1, hx])]
            exact ⟨e1, d⟩
          · rw [if_neg hx, if_neg (by rw [e1]; exact fun z => hx (Sum.inr.inj z))]
            exact ⟨e1, e2⟩
  · rename_i hz0
    clear hz0
    induction kvs generalizing rows with
    | nil => cases rows with | nil => exact .cons ⟨rfl, d⟩ .nil | cons _ _ => cases h
    | cons p r ih =>
      cases rows with
      | nil => cases h
      | cons q m =>
        cases h with
        | cons e f => exact .cons e (ih f)
theorem PutsOk.mem : ∀ {kvs : List (Key × V)} {rows : Rws}, PutsOk K H kvs rows → ∀ {k : Key} {v : V}, (k, v) ∈ kvs → ∃ x t, (x, t) ∈ rows ∧ k = Sum.inr x ∧ Den K H v t.data
  | [], [], _, k, v, hm => by simp at hm
  | p :: kr, q :: rr, .cons h r, k, v, hm => by
    rcases List.mem_cons.mp hm with e | e
    · subst e
      exact ⟨q.1, q.2, by simp, h.1, h.2⟩
    · obtain ⟨x, t, h1, h2, h3⟩ := PutsOk.mem r e
      exact ⟨x, t, List.mem_cons_of_mem _ h1, h2, h3⟩
end
end L2
set_option Elab.async false
set_option linter.all false
set_option maxRecDepth 100000
set_option maxHeartbeats 4000000
namespace L2
open PySem PySem.Spec PyProof.Rows PySem.W
mutual
noncomputable def eqb : Trm → Trm → Bool
  | .num a, .num b => decide (a = b)
  | .any x, .any y => decide (x = y)
  | .app s ks, .app r ls => decide (s = r) && eqbL ks ls
  | _, _ => false
noncomputable def eqbL : List Trm → List Trm → Bool
  | [], [] => true
  | a :: r, b :: m => eqb a b && eqbL r m
  | _, _ => false
end
mutual
theorem eqb_iff : ∀ t u : Trm, eqb t u = true ↔ t = u
  | .num a, .num b => by simp [eqb]
  | .num a, .any y => by simp [eqb]
  | .num a, .app _ _ => by simp [eqb]
  | .any x, .num b => by simp [eqb]
  | .any x, .any y => by simp [eqb]
  | .any x, .app _ _ => by simp [eqb]
  | .app _ _, .num b => by simp [eqb]
  | .app _ _, .any y => by simp [eqb]
  | .app s ks, .app r ls => by
    simp only [eqb, Bool.and_eq_true, decide_eq_true_eq, Trm.app.injEq, eqbL_iff ks ls]
theorem eqbL_iff : ∀ t u : List Trm, eqbL t u = true ↔ t = u
  | [], [] => by simp [eqbL]
  | [], _ :: _ => by simp [eqbL]
  | _ :: _, [] => by simp [eqbL]
  | a :: r, b :: m => by simp only [eqbL, Bool.and_eq_true, List.cons.injEq, eqb_iff a b, eqbL_iff r m]
end
theorem eqb_self (t : Trm) : eqb t t = true := (eqb_iff t t).mpr rfl
theorem eqbL_all : ∀ ks ls : List Trm, ((List.range (min ks.length ls.length)).all (fun j => match ks[j]?, ls[j]? with | some a, some b => eqb a b | _, _ => true) && (ks.length == ls.length)) = eqbL ks ls
  | [], [] => by simp [eqbL]
  | [], _ :: _ => by simp [eqbL]
  | _ :: _, [] => by simp [eqbL]
  | a :: r, b :: m => by
    have ih := eqbL_all r m
    simp only [eqbL]
    rw [← ih, List.length_cons, List.length_cons, Nat.succ_min_succ, List.range_succ_eq_map, List.all_cons, List.all_map, Bool.and_assoc]
    congr 1
    congr 1
    · simp
mutual
theorem Trm.data_inj : ∀ {t u : Trm}, t.data = u.data → t = u
  | .num a, .num b, h => by simp [Trm.data] at h; rw [h]
  | .num a, .any y, h => by simp [Trm.data] at h
  | .num a, .app _ _, h => by simp [Trm.data] at h
  | .any x, .num b, h => by simp [Trm.data] at h
  | .any x, .any y, h => by simp [Trm.data] at h; rw [h]
  | .any x, .app _ _, h => by simp [Trm.data] at h
  | .app _ _, .num b, h => by simp [Trm.data] at h
  | .app _ _, .any y, h => by simp [Trm.data] at h
  | .app s ks, .app r ls, h => by
    simp only [Trm.data, PyData.tuple.injEq, List.cons.injEq, PyData.str.injEq, and_true, true_and] at h
    rw [h.1, Trm.dataL_inj h.2]
theorem Trm.dataL_inj : ∀ {t u : List Trm}, Trm.dataL t = Trm.dataL u → t = u
  | [], [], _ => rfl
  | [], _ :: _, h => by simp [Trm.dataL] at h
  | _ :: _, [], h => by simp [Trm.dataL] at h
  | a :: r, b :: m, h => by
    simp only [Trm.dataL, List.cons.injEq] at h
    rw [Trm.data_inj h.1, Trm.dataL_inj h.2]
end
section
variable {X : Cx} {pins : List (Addr × Obj)} {σ : St} {H : Hp} {s : Shared}
mutual
theorem den_inj (I : Inv X pins σ H s) : ∀ {v : V} {d d' : PyData}, Den X.K H v d → Den X.K H v d' → d = d'
  | _, _, _, .non, h => by cases h; rfl
  | _, _, _, .bl b, h => by cases h; rfl
  | _, _, _, .int i, h => by cases h; rfl
  | _, _, _, .str x, h => by cases h; rfl
  | _, _, _, .tup hs hl, h => by
    cases h with
    | tup hs' hl' =>
      have e := I.tuple_inj hs hs'
      subst e
      rw [denL_inj I hl hl']
theorem denL_inj (I : Inv X pins σ H s) : ∀ {v : List V} {d d' : List PyData}, DenL X.K H v d → DenL X.K H v d' → d = d'
  | _, _, _, .nil, h => by cases h; rfl
  | _, _, _, .cons h l, h' => by
    cases h' with
    | cons g m => rw [den_inj I h g, denL_inj I l m]
end
theorem eqAt_tups (I : Inv X pins σ H s) {A : Around} {a b : Addr} {us us' : List V} (hs : SqT X.K H a us) (hs' : SqT X.K H b us') (hab : a ≠ b) (e : Nat → Bool) (hu : A.units + 1 < cLine)
    (items : ∀ j x x' w w', us[j]? = some x → us'[j]? = some x' → RelV x w → RelV x' w' → SeqAt.EqAt A.in1 s w w' (e j)) : SeqAt.EqAt A s (.ref a) (.ref b) ((List.range (min us.length us'.length)).all e && (us.length == us'.length)) := by
  obtain ⟨its, rv, p, _⟩ := I.tuple hs
  obtain ⟨its', rv', p', _⟩ := I.tuple hs'
  have l1 := rv.length
  have l2 := rv'.length
  have key := SeqAt.RcAt.tuples (A := A) (e := e) (show s.heap.IsTuple a its.toArray from p) (show s.heap.IsTuple b its'.toArray from p') (by omega) (fun j h1 h2 => by
    have h1 : j < its.length := by simpa using h1
    have h2 : j < its'.length := by simpa using h2
    have x1 : us[j]? = some us[j] := List.getElem?_eq_getElem (by omega)
    have x2 : us'[j]? = some us'[j] := List.getElem?_eq_getElem (by omega)
    obtain ⟨w1, y1, z1⟩ := rv.get x1
    obtain ⟨w2, y2, z2⟩ := rv'.get x2
    have q1 : its.toArray[j] = w1 := by
      have := List.getElem?_eq_getElem h1
      rw [y1] at this
      simpa using (Option.some.inj this).symm
    have q2 : its'.toArray[j] = w2 := by
      have := List.getElem?_eq_getElem h2
      rw [y2] at this
      simpa using (Option.some.inj this).symm
    rw [q1, q2]
    exact items j _ _ _ _ x1 x2 z1 z2)
  rw [List.size_toArray, List.size_toArray, ← l1, ← l2] at key
  exact SeqAt.EqAt.of_refs hab key
noncomputable def eT (t t' : Trm) : Nat → Bool
  | 0 => match t, t' with | .num _, .num _ => true | .any _, .any _ => true | .app _ _, .app _ _ => true | _, _ => false
  | 1 => match t, t' with | .num a, .num b => decide (a = b) | .any x, .any y => decide (x = y) | .app r _, .app q _ => decide (r = q) | .any x, .app q _ => decide (x = q) | .app r _, .any y => decide (r = y) | _, _ => false
  | 2 => match t, t' with | .app _ ks, .app _ ls => eqbL ks ls | _, _ => true
  | _ => true
noncomputable def lenT : Trm → Nat
  | .app _ _ => 3
  | _ => 2
theorem eT_all (t t' : Trm) : ((List.range (min (lenT t) (lenT t'))).all (eT t t') && (lenT t == lenT t')) = eqb t t' := by
  cases t <;> cases t' <;> simp [lenT, eT, eqb, List.range, List.range.loop]
theorem mem_size {ks : List Trm} {t : Trm} (h : t ∈ ks) : t.size ≤ Trm.sizeL ks := by
  obtain ⟨a, b, rfl⟩ := List.append_of_mem h
  rw [Trm.sizeL_app, Trm.sizeL]
  omega
theorem items_of (I : Inv X pins σ H s) (n : Nat) (ih : ∀ (A : Around) (t t' : Trm) (v v' : V) (u u' : Value), t.size ≤ n → A.units + 2 * n + 4 < cLine → Den X.K H v t.data → Den X.K H v' t'.data → RelV v u → RelV v' u' → SeqAt.EqAt A s u u' (eqb t t'))
    (A : Around) (t t' : Trm) {a a' : Addr} (h : Den X.K H (.ref a) t.data) (h' : Den X.K H (.ref a') t'.data) (hz : t.size ≤ n + 1) (hu : A.units + 2 * (n + 1) + 4 < cLine) :
    ∃ us us', SqT X.K H a us ∧ SqT X.K H a' us' ∧ us.length = lenT t ∧ us'.length = lenT t' ∧ ∀ j x x' w w', us[j]? = some x → us'[j]? = some x' → RelV x w → RelV x' w' → SeqAt.EqAt A.in1 s w w' (eT t t' j) := by
  cases t with
  | num m =>
    obtain ⟨a0, e0, hs⟩ := den_num h
    cases e0
    cases t' with
    | num m' =>
      obtain ⟨a0', e0', hs'⟩ := den_num h'
      cases e0'
      refine ⟨_, _, hs, hs', rfl, rfl, fun j y y' w w' h1 h2 r1 r2 => ?_⟩
      match j, h1, h2 with
        | 0, h1, h2 =>
          simp only [List.getElem?_cons_zero, Option.some.injEq] at h1 h2
          subst h1 h2
          have := eqAt_kV (A := A.in1) (s := s) (a := Sum.inr numS) (b := Sum.inr numS) r1 r2
          rw [show decide ((Sum.inr numS : Key) = Sum.inr numS) = true by decide +kernel] at this
          exact this
        | 1, h1, h2 =>
          simp only [List.getElem?_cons_succ, List.getElem?_cons_zero, Option.some.injEq] at h1 h2
          subst h1 h2
          have := eqAt_kV (A := A.in1) (s := s) (a := Sum.inl m) (b := Sum.inl m') r1 r2
          have e9 : decide ((Sum.inl m : Key) = Sum.inl m') = decide (m = m') := by
            refine decide_eq_decide.mpr ⟨fun h => ?_, fun h => by rw [h]⟩
            injection h
          rw [e9] at this
          exact this
        | j + 2, h1, h2 => simp at h1
    | any x' =>
      obtain ⟨a0', e0', hs'⟩ := den_any h'
      cases e0'
      refine ⟨_, _, hs, hs', rfl, rfl, fun j y y' w w' h1 h2 r1 r2 => ?_⟩
      match j, h1, h2 with
        | 0, h1, h2 =>
          simp only [List.getElem?_cons_zero, Option.some.injEq] at h1 h2
          subst h1 h2
          have := eqAt_kV (A := A.in1) (s := s) (a := Sum.inr numS) (b := Sum.inr anyS) r1 r2
          rw [show decide ((Sum.inr numS : Key) = Sum.inr anyS) = false by decide +kernel] at this
          exact this
        | 1, h1, h2 =>
          simp only [List.getElem?_cons_succ, List.getElem?_cons_zero, Option.some.injEq] at h1 h2
          subst h1 h2
          have := eqAt_kV (A := A.in1) (s := s) (a := Sum.inl m) (b := Sum.inr x') r1 r2
          have e9 : decide ((Sum.inl m : Key) = Sum.inr x') = false := decide_eq_false (fun h => by cases h)
          rw [e9] at this
          exact this
        | j + 2, h1, h2 => simp at h1
    | app sg' ks' =>
      obtain ⟨a0', b', ku', e0', hs', hb', hk'⟩ := den_app h'
      cases e0'
      refine ⟨_, _, hs, hs', rfl, rfl, fun j y y' w w' h1 h2 r1 r2 => ?_⟩
      match j, h1, h2 with
        | 0, h1, h2 =>
          simp only [List.getElem?_cons_zero, Option.some.injEq] at h1 h2
          subst h1 h2
          have := eqAt_kV (A := A.in1) (s := s) (a := Sum.inr numS) (b := Sum.inr appS) r1 r2
          rw [show decide ((Sum.inr numS : Key) = Sum.inr appS) = false by decide +kernel] at this
          exact this
        | 1, h1, h2 =>
          simp only [List.getElem?_cons_succ, List.getElem?_cons_zero, Option.some.injEq] at h1 h2
          subst h1 h2
          have := eqAt_kV (A := A.in1) (s := s) (a := Sum.inl m) (b := Sum.inr sg') r1 r2
          have e9 : decide ((Sum.inl m : Key) = Sum.inr sg') = false := decide_eq_false (fun h => by cases h)
          rw [e9] at this
          exact this
        | j + 2, h1, h2 => simp at h1
  | any x =>
    obtain ⟨a0, e0, hs⟩ := den_any h
    cases e0
    cases t' with
    | num m' =>
      obtain ⟨a0', e0', hs'⟩ := den_num h'
      cases e0'
      refine ⟨_, _, hs, hs', rfl, rfl, fun j y y' w w' h1 h2 r1 r2 => ?_⟩
      match j, h1, h2 with
        | 0, h1, h2 =>
          simp only [List.getElem?_cons_zero, Option.some.injEq] at h1 h2
          subst h1 h2
          have := eqAt_kV (A := A.in1) (s := s) (a := Sum.inr anyS) (b := Sum.inr numS) r1 r2
          rw [show decide ((Sum.inr anyS : Key) = Sum.inr numS) = false by decide +kernel] at this
          exact this
        | 1, h1, h2 =>
          simp only [List.getElem?_cons_succ, List.getElem?_cons_zero, Option.some.injEq] at h1 h2
          subst h1 h2
          have := eqAt_kV (A := A.in1) (s := s) (a := Sum.inr x) (b := Sum.inl m') r1 r2
          have e9 : decide ((Sum.inr x : Key) = Sum.inl m') = false := decide_eq_false (fun h => by cases h)
          rw [e9] at this
          exact this
        | j + 2, h1, h2 => simp at h1
    | any x' =>
      obtain ⟨a0', e0', hs'⟩ := den_any h'
      cases e0'
      refine ⟨_, _, hs, hs', rfl, rfl, fun j y y' w w' h1 h2 r1 r2 => ?_⟩
      match j, h1, h2 with
        | 0, h1, h2 =>
          simp only [List.getElem?_cons_zero, Option.some.injEq] at h1 h2
          subst h1 h2
          have := eqAt_kV (A := A.in1) (s := s) (a := Sum.inr anyS) (b := Sum.inr anyS) r1 r2
          rw [show decide ((Sum.inr anyS : Key) = Sum.inr anyS) = true by decide +kernel] at this
          exact this
        | 1, h1, h2 =>
          simp only [List.getElem?_cons_succ, List.getElem?_cons_zero, Option.some.injEq] at h1 h2
          subst h1 h2
          have := eqAt_kV (A := A.in1) (s := s) (a := Sum.inr x) (b := Sum.inr x') r1 r2
          have e9 : decide ((Sum.inr x : Key) = Sum.inr x') = decide (x = x') := by
            refine decide_eq_decide.mpr ⟨fun h => ?_, fun h => by rw [h]⟩
            injection h
          rw [e9] at this
          exact this
        | j + 2, h1, h2 => simp at h1
    | app sg' ks' =>
      obtain ⟨a0', b', ku', e0', hs', hb', hk'⟩ := den_app h'
      cases e0'
      refine ⟨_, _, hs, hs', rfl, rfl, fun j y y' w w' h1 h2 r1 r2 => ?_⟩
      match j, h1, h2 with
        | 0, h1, h2 =>
          simp only [List.getElem?_cons_zero, Option.some.injEq] at h1 h2
          subst h1 h2
          have := eqAt_kV (A := A.in1) (s := s) (a := Sum.inr anyS) (b := Sum.inr appS) r1 r2
          rw [show decide ((Sum.inr anyS : Key) = Sum.inr appS) = false by decide +kernel] at this
          exact this
        | 1, h1, h2 =>
          simp only [List.getElem?_cons_succ, List.getElem?_cons_zero, Option.some.injEq] at h1 h2
          subst h1 h2
          have := eqAt_kV (A := A.in1) (s := s) (a := Sum.inr x) (b := Sum.inr sg') r1 r2
          have e9 : decide ((Sum.inr x : Key) = Sum.inr sg') = decide (x = sg') := by
            refine decide_eq_decide.mpr ⟨fun h => ?_, fun h => by rw [h]⟩
            injection h
          rw [e9] at this
          exact this
        | j + 2, h1, h2 => simp at h1
  | app sg ks =>
    obtain ⟨a0, b, ku, e0, hs, hb, hk⟩ := den_app h
    cases e0
    cases t' with
    | num m' =>
      obtain ⟨a0', e0', hs'⟩ := den_num h'
      cases e0'
      refine ⟨_, _, hs, hs', rfl, rfl, fun j y y' w w' h1 h2 r1 r2 => ?_⟩
      match j, h1, h2 with
        | 0, h1, h2 =>
          simp only [List.getElem?_cons_zero, Option.some.injEq] at h1 h2
          subst h1 h2
          have := eqAt_kV (A := A.in1) (s := s) (a := Sum.inr appS) (b := Sum.inr numS) r1 r2
          rw [show decide ((Sum.inr appS : Key) = Sum.inr numS) = false by decide +kernel] at this
          exact this
        | 1, h1, h2 =>
          simp only [List.getElem?_cons_succ, List.getElem?_cons_zero, Option.some.injEq] at h1 h2
          subst h1 h2
          have := eqAt_kV (A := A.in1) (s := s) (a := Sum.inr sg) (b := Sum.inl m') r1 r2
          have e9 : decide ((Sum.inr sg : Key) = Sum.inl m') = false := decide_eq_false (fun h => by cases h)
          rw [e9] at this
          exact this
        | j + 2, h1, h2 => simp at h2
    | any x' =>
      obtain ⟨a0', e0', hs'⟩ := den_any h'
      cases e0'
      refine ⟨_, _, hs, hs', rfl, rfl, fun j y y' w w' h1 h2 r1 r2 => ?_⟩
      match j, h1, h2 with
        | 0, h1, h2 =>
          simp only [List.getElem?_cons_zero, Option.some.injEq] at h1 h2
          subst h1 h2
          have := eqAt_kV (A := A.in1) (s := s) (a := Sum.inr appS) (b := Sum.inr anyS) r1 r2
          rw [show decide ((Sum.inr appS : Key) = Sum.inr anyS) = false by decide +kernel] at this
          exact this
        | 1, h1, h2 =>
          simp only [List.getElem?_cons_succ, List.getElem?_cons_zero, Option.some.injEq] at h1 h2
          subst h1 h2
          have := eqAt_kV (A := A.in1) (s := s) (a := Sum.inr sg) (b := Sum.inr x') r1 r2
          have e9 : decide ((Sum.inr sg : Key) = Sum.inr x') = decide (sg = x') := by
            refine decide_eq_decide.mpr ⟨fun h => ?_, fun h => by rw [h]⟩
            injection h
          rw [e9] at this
          exact this
        | j + 2, h1, h2 => simp at h2
    | app sg' ks' =>
      obtain ⟨a0', b', ku', e0', hs', hb', hk'⟩ := den_app h'
      cases e0'
      refine ⟨_, _, hs, hs', rfl, rfl, fun j y y' w w' h1 h2 r1 r2 => ?_⟩
      match j, h1, h2 with
        | 0, h1, h2 =>
          simp only [List.getElem?_cons_zero, Option.some.injEq] at h1 h2
          subst h1 h2
          have := eqAt_kV (A := A.in1) (s := s) (a := Sum.inr appS) (b := Sum.inr appS) r1 r2
          rw [show decide ((Sum.inr appS : Key) = Sum.inr appS) = true by decide +kernel] at this
          exact this
        | 1, h1, h2 =>
          simp only [List.getElem?_cons_succ, List.getElem?_cons_zero, Option.some.injEq] at h1 h2
          subst h1 h2
          have := eqAt_kV (A := A.in1) (s := s) (a := Sum.inr sg) (b := Sum.inr sg') r1 r2
          have e9 : decide ((Sum.inr sg : Key) = Sum.inr sg') = decide (sg = sg') := by
            refine decide_eq_decide.mpr ⟨fun h => ?_, fun h => by rw [h]⟩
            injection h
          rw [e9] at this
          exact this
        | 2, h1, h2 =>
          simp only [List.getElem?_cons_succ, List.getElem?_cons_zero, Option.some.injEq] at h1 h2
          subst h1 h2
          obtain rfl : w = Value.ref b := r1
          obtain rfl : w' = Value.ref b' := r2
          show SeqAt.EqAt A.in1 s (.ref b) (.ref b') (eqbL ks ks')
          by_cases hbb : b = b'
          · subst hbb
            have e1 := I.tuple_inj hb hb'
            subst e1
            have e2 := Trm.dataL_inj (denL_inj I hk hk')
            subst e2
            rw [(eqbL_iff ks ks).mpr rfl]
            exact SeqAt.EqAt.same _
          · have l1 := hk.length
            have l2 := hk'.length
            rw [Trm.dataL_map, List.length_map] at l1 l2
            have := eqAt_tups I (A := A.in1) hb hb' hbb (fun j => match ks[j]?, ks'[j]? with | some a, some b => eqb a b | _, _ => true) (by show A.units + 1 + 1 < cLine; omega) (fun j y y' z z' g1 g2 q1 q2 => by
              obtain ⟨d, e1, d1⟩ := hk.get g1
              obtain ⟨d', e2, d2⟩ := hk'.get g2
              rw [Trm.dataL_map, List.getElem?_map] at e1 e2
              cases f1 : ks[j]? with
              | none => rw [f1] at e1; cases e1
              | some k1 =>
                cases f2 : ks'[j]? with
                | none => rw [f2] at e2; cases e2
                | some k2 =>
                  rw [f1] at e1
                  rw [f2] at e2
                  cases e1
                  cases e2
                  have hs1 := mem_size (List.mem_of_getElem? f1)
                  simp only [Trm.size] at hz
                  exact ih A.in1.in1 k1 k2 y y' z z' (by omega) (by show A.units + 1 + 1 + 2 * n + 4 < cLine; omega) d1 d2 q1 q2)
            rw [l1, l2, eqbL_all] at this
            exact this
        | j + 3, h1, h2 => simp at h1
theorem eqAt_trm (I : Inv X pins σ H s) : ∀ (n : Nat) (A : Around) (t t' : Trm) (v v' : V) (u u' : Value), t.size ≤ n → A.units + 2 * n + 4 < cLine → Den X.K H v t.data → Den X.K H v' t'.data → RelV v u → RelV v' u' → SeqAt.EqAt A s u u' (eqb t t') := by
  intro n
  induction n with
  | zero =>
    intro A t t' v v' u u' hz
    have := t.size_pos
    omega
  | succ n ih =>
    intro A t t' v v' u u' hz hu h h' r r'
    obtain ⟨a, _, _, rfl, _⟩ := den_head h
    obtain ⟨a', _, _, rfl, _⟩ := den_head h'
    obtain rfl : u = Value.ref a := r
    obtain rfl : u' = Value.ref a' := r'
    by_cases hab : a = a'
    · subst hab
      have e1 := Trm.data_inj (den_inj I h h')
      rw [e1, eqb_self]
      exact SeqAt.EqAt.same _
    obtain ⟨us, us', hs, hs', l1, l2, it⟩ := items_of I n ih A t t' h h' hz hu
    have key := eqAt_tups I (A := A) hs hs' hab (eT t t') (by omega) it
    rw [l1, l2, eT_all] at key
    exact key
end
section
variable {X : Cx}
noncomputable def mEqT (K : Frag) (n : Bool) : R2 := fun x y H Q => ∃ (t t' : Trm), Den K H x t.data ∧ Den K H y t'.data ∧ t.size ≤ 70 ∧ Q (.bl (n ^^ eqb t t')) H
theorem ko_eqT (K : Frag) (hK : X.K = K) (hu : X.A.units + 150 < cLine) : OpR X (compareOp .Eq) (mEqT K false) := by
  subst hK
  intro pins s σ H x y v u Q I rx ry h
  obtain ⟨t, t', h, h', hz, k⟩ := h
  obtain ⟨a, _, _, rfl, _⟩ := den_head h
  obtain ⟨a', _, _, rfl, _⟩ := den_head h'
  cases rx
  cases ry
  obtain ⟨us, us', hs, hs', l1, l2, it⟩ := items_of I 69 (eqAt_trm I 69) X.A t t' h h' (by omega) (by omega)
  obtain ⟨its, rv, p1, _⟩ := I.tuple hs
  obtain ⟨its', rv', p2, _⟩ := I.tuple hs'
  have m1 := rv.length
  have m2 := rv'.length
  refine SeqAt.eq_tupleAt (e := eT t t') (show s.heap.IsTuple a its.toArray from p1) (show s.heap.IsTuple a' its'.toArray from p2) (by omega) (fun j h1 h2 => ?_) ?_
  · have h1 : j < its.length := by simpa using h1
    have h2 : j < its'.length := by simpa using h2
    have x1 : us[j]? = some us[j] := List.getElem?_eq_getElem (by omega)
    have x2 : us'[j]? = some us'[j] := List.getElem?_eq_getElem (by omega)
    obtain ⟨w1, y1, z1⟩ := rv.get x1
    obtain ⟨w2, y2, z2⟩ := rv'.get x2
    have q1 : its.toArray[j] = w1 := by
      have := List.getElem?_eq_getElem h1
      rw [y1] at this
      simpa using (Option.some.inj this).symm
    have q2 : its'.toArray[j] = w2 := by
      have := List.getElem?_eq_getElem h2
      rw [y2] at this
      simpa using (Option.some.inj this).symm
    rw [q1, q2]
    exact it j _ _ _ _ x1 x2 z1 z2
  · rw [List.size_toArray, List.size_toArray, ← m1, ← m2, l1, l2, eT_all]
    rw [Bool.false_xor] at k
    exact ⟨.bl _, H, I, rfl, k⟩
theorem ko_neT (K : Frag) (hK : X.K = K) (hu : X.A.units + 150 < cLine) : OpR X (compareOp .NotEq) (mEqT K true) := by
  subst hK
  intro pins s σ H x y v u Q I rx ry h
  obtain ⟨t, t', h, h', hz, k⟩ := h
  obtain ⟨a, _, _, rfl, _⟩ := den_head h
  obtain ⟨a', _, _, rfl, _⟩ := den_head h'
  cases rx
  cases ry
  obtain ⟨us, us', hs, hs', l1, l2, it⟩ := items_of I 69 (eqAt_trm I 69) X.A t t' h h' (by omega) (by omega)
  obtain ⟨its, rv, p1, _⟩ := I.tuple hs
  obtain ⟨its', rv', p2, _⟩ := I.tuple hs'
  have m1 := rv.length
  have m2 := rv'.length
  refine SeqAt.RcNeAt.tuples (e := eT t t') (show s.heap.IsTuple a its.toArray from p1) (show s.heap.IsTuple a' its'.toArray from p2) (by omega) (fun j h1 h2 => ?_) X.prog X.w _ _ ?_
  · have h1 : j < its.length := by simpa using h1
    have h2 : j < its'.length := by simpa using h2
    have x1 : us[j]? = some us[j] := List.getElem?_eq_getElem (by omega)
    have x2 : us'[j]? = some us'[j] := List.getElem?_eq_getElem (by omega)
    obtain ⟨w1, y1, z1⟩ := rv.get x1
    obtain ⟨w2, y2, z2⟩ := rv'.get x2
    have q1 : its.toArray[j] = w1 := by
      have := List.getElem?_eq_getElem h1
      rw [y1] at this
      simpa using (Option.some.inj this).symm
    have q2 : its'.toArray[j] = w2 := by
      have := List.getElem?_eq_getElem h2
      rw [y2] at this
      simpa using (Option.some.inj this).symm
    rw [q1, q2]
    exact it j _ _ _ _ x1 x2 z1 z2
  · rw [List.size_toArray, List.size_toArray, ← m1, ← m2, l1, l2, eT_all]
    rw [Bool.true_xor] at k
    exact ⟨.bl _, H, I, rfl, k⟩
theorem mEqT_i {K : Frag} {H : Hp} {Q : VK} {x y : V} {n : Bool} {t t' : Trm} (h : Den K H x t.data) (h' : Den K H y t'.data) (hz : t.size ≤ 70) (k : Q (.bl (n ^^ eqb t t')) H) : mEqT K n x y H Q := ⟨t, t', h, h', hz, k⟩
end
end L2
set_option Elab.async false
set_option linter.all false
set_option maxRecDepth 100000
set_option maxHeartbeats 4000000
namespace L2
open PySem PySem.Spec PyProof.Rows PySem.W
section
variable {prog : Program} {w : World} {A : Around} {E : Value → Shared → Prop} {s : Shared}
noncomputable abbrev IsZipF (h : Heap) (z TI TO : Addr) (f0 : Value) (f1 : Bool) : Prop :=
  h.get? z = some { cls := .type "zip", dict := none, data := .fields #[f0, .bool f1, .bool false, .ref TI, .ref TO], slots := #[] }
end
end L2
set_option Elab.async false
set_option linter.all false
set_option maxRecDepth 100000
set_option maxHeartbeats 4000000
namespace L2
open PySem PySem.Spec PyProof.Rows PySem.W
section
variable {prog : Program} {w : World} {A : Around} {E : Value → Shared → Prop} {s : Shared}
noncomputable def ZS (h : Heap) (z TI TO i1 i2 t1 t2 S : Addr) (i : Nat) : Prop :=
  ((IsZip h z TI TO .none ∧ ∃ a b, IsPair h TO a b) ∨ ∃ (T : Addr) (f1 : Bool) (o : Obj), IsZipF h z TI TO (rawInt T) f1 ∧ h.get? T = some o ∧ T ≠ z ∧ T ≠ TO ∧ T ≠ i1 ∧ T ≠ i2 ∧ T ≠ S) ∧ IsPair h TI (.ref i1) (.ref i2) ∧ h.IsTupleIter i1 t1 i ∧ h.IsTupleIter i2 t2 i
theorem ZS.keep {h h' : Heap} {z TI TO i1 i2 t1 t2 S : Addr} {i : Nat} (st : ZS h z TI TO i1 i2 t1 t2 S i) (k : ∀ c o, c ≠ S → h.get? c = some o → h'.get? c = some o) (n : S ≠ z ∧ S ≠ TI ∧ S ≠ TO ∧ S ≠ i1 ∧ S ≠ i2) : ZS h' z TI TO i1 i2 t1 t2 S i := by
  obtain ⟨q, hTI, h1, h2⟩ := st
  refine ⟨?_, k _ _ n.2.1.symm hTI, h1.at fun o e => k _ o n.2.2.2.1.symm e, h2.at fun o e => k _ o n.2.2.2.2.symm e⟩
  rcases q with ⟨hz, a, b, hTO⟩ | ⟨T, f1, o, hz, hT, d⟩
  · exact .inl ⟨k _ _ n.1.symm hz, a, b, k _ _ n.2.2.1.symm hTO⟩
  · exact .inr ⟨T, f1, o, k _ _ n.1.symm hz, k _ _ d.2.2.2.2 hT, d⟩
end
section
variable {X : Cx} {pins : List (Addr × Obj)} {σ : St}
end
end L2
set_option Elab.async false
set_option linter.all false
set_option maxRecDepth 100000
set_option maxHeartbeats 4000000
namespace L2
open PySem PySem.Spec PyProof.Rows PySem.W
section
variable {X : Cx}
noncomputable def mLClr : V → List V → Hp → VK → Prop := fun x vs H Q => ∃ (a : Addr) (xs : List V), x = .ref a ∧ vs = [] ∧ H a = some (.lst xs) ∧ Q .non (upd H a (.lst []))
theorem mm_lclr : MtR X "list.clear" mLClr := by
  intro pins s σ H x vs v us Q I rx rv h
  obtain ⟨a, xs, rfl, rfl, ha, q⟩ := h
  exact mt_clear pins s σ H _ [] v us Q I rx rv ⟨a, xs, rfl, rfl, ha, q⟩
theorem mLClr_i {a : Addr} {xs : List V} {H : Hp} {Q : VK} (ha : H a = some (.lst xs)) (q : Q .non (upd H a (.lst []))) : mLClr (.ref a) [] H Q := ⟨a, xs, rfl, rfl, ha, q⟩
end
end L2
set_option Elab.async false
set_option linter.all false
set_option maxRecDepth 100000
set_option maxHeartbeats 4000000
namespace L2
open PySem PySem.Spec PyProof.Rows PySem.W
noncomputable def Itd (a : Addr) (o : Obj) (kvs : List (Key × V)) : It := ⟨fun i H => i < kvs.length ∧ H a = some (.frz o (.dK kvs)), fun i H x H' => H' = H ∧ ∃ k v, kvs[i]? = some (k, v) ∧ x = kV k, fun i H => i = kvs.length ∧ H a = some (.frz o (.dK kvs))⟩
theorem raw_frz {P : Program} {w : World} {H : Hp} {h : Heap} {a : Addr} {o : Obj} {kvs : List (Key × V)} {es : Array DictEntry} {ep : Nat} (hd : o.data = .dict es ep) (hok : ObjOk P w H h a (.frz o (.dK kvs))) :
    RawD h a es ep ∧ es.size = kvs.length ∧ ∀ (i : Nat) (hi : i < es.size), ∃ k v, kvs[i]? = some (k, v) ∧ RelV (kV k) es[i].key := by
  obtain ⟨ho, z, lo, vs, rel, dd⟩ := hok
  obtain ⟨ep', o', es', ho', hx, hd', hk, hpr, hn⟩ := dd.dictAt
  rw [ho] at ho'
  cases ho'
  rw [hd] at hd'
  cases hd'
  have hsz : es.size = vs.length := by rw [← hpr.length]; simp
  have hlx := rel.length
  refine ⟨⟨o, ho, hx, hd⟩, by omega, fun i hi => ?_⟩
  obtain ⟨p, hp⟩ : ∃ p, vs[i]? = some p := ⟨vs[i]'(by omega), List.getElem?_eq_getElem (by omega)⟩
  obtain ⟨h1, h2⟩ := hpr.get? (e := es[i]) (by simp [hi]) hp
  obtain ⟨kv, h3, h4, h5⟩ := paired_back rel i p hp
  refine ⟨kv.1, kv.2, h3, ?_⟩
  rw [h4]
  exact kV_rel h1
theorem turn_dict {P : Program} {w : World} {K : PySem.W.Frag} {tg : Expr} (a it : Addr) (o : Obj) (kvs : List (Key × V)) (es : Array DictEntry) (ep : Nat) (hd : o.data = .dict es ep) : Turn P w K tg (Itd a o kvs) [it] it (fun i h => h.IsKeyIter it a i es.size ep) where
  mem := by simp
  obj := fun i h st b hb => by
    have e : b = it := by simpa using hb
    subst e
    obtain ⟨o, e, c, d⟩ := st
    exact ⟨o, e, fun v z => by rw [d] at z; cases z⟩
  keep := fun i h h' st k => by
    obtain ⟨o, e, c⟩ := st
    exact ⟨o, k it (by simp) o e, c⟩
  item := by
    intro X hP hw hK hc i pins s σ H E I hf st hg
    subst hP hw hK
    obtain ⟨hi, hH⟩ := hg
    obtain ⟨raw, hsz, hget⟩ := raw_frz hd (I.hok a _ hH)
    obtain ⟨f0, f1, f2, f3, f4, f5⟩ := hf it (by simp)
    obtain ⟨k, v, h1, h2⟩ := hget i (by omega)
    refine raw_key_item st raw (by omega) fun h' st' sb => ?_
    have I1 : Inv X pins σ H { s with heap := h' } := I.turned (t' := s.toks) (fun b o hb e => (sb.2 b hb).trans e) f0 f1 f3 f4 f5
    obtain ⟨o2, e, c, d⟩ := id st'
    exact ⟨_, rfl, go_of (s := { s with heap := h' }) e c d (by decide) ⟨kV k, H, I1, h2, ⟨rfl, k, v, h1, rfl⟩, st', fun b hb => (hf b hb).1⟩⟩
  done := by
    intro X hP hw hK hc i pins s σ H E I hf st hg
    subst hP hw hK
    obtain ⟨f0, f1, f2, f3, f4, f5⟩ := hf it (by simp)
    obtain ⟨hi, hH⟩ := hg
    obtain ⟨raw, hsz, hget⟩ := raw_frz hd (I.hok a _ hH)
    rw [hi, ← hsz] at st
    exact raw_key_end (I.ok.hd hc) st raw fun h' eb => ⟨rfl, I.turned (t' := s.toks) (fun b o hb e => eb b o hb e) f0 f1 f3 f4 f5⟩
  self := fun _ _ _ _ _ st h => wpAny_pyIter_keyiter st h
theorem row_dict {a : Addr} {o : Obj} {kvs : List (Key × V)} : Row (Itd a o kvs) kvs.length (fun i => ((kvs[i]?).map fun p => kV p.1).getD .non) (fun H => H a = some (.frz o (.dK kvs))) := ⟨fun i H h q => ⟨h, q⟩, fun i H v H' hi q h => by
  obtain ⟨e, k, x, h1, h2⟩ := h
  refine ⟨e, ?_⟩
  rw [h1, h2]
  rfl, fun H q => ⟨rfl, q⟩⟩
section
variable {X : Cx} {tg : Expr}
noncomputable def NFz (X : Cx) (a : Addr) : Prop := ∀ o u, X.H₀ a ≠ some (.frz o u)
noncomputable def iDict (NF : Addr → Prop) (tl : TE) : TI := fun σ H R => tl σ H fun x H1 => ∃ a kvs, x = .ref a ∧ H1 a = some (.dK kvs) ∧ ∀ o, NF a → R (Itd a o kvs) (upd H1 a (.frz o (.dK kvs)))
theorem pi_dict {l : Expr} {tl : TE} (hl : PE X l tl) : PI X tg l (iDict (NFz X) tl) := by
  intro pins s σ H R I h
  refine thn (hl pins s σ H _ I h) fun u s1 ⟨x, H1, I1, r1, a, kvs, ex, ha, q⟩ => ?_
  subst ex
  cases r1
  obtain ⟨z, lo, vs, rel, dd⟩ := dk_of I1.hok ha
  obtain ⟨ep, o, es, ho, hx, hd, hk, hpr, hn⟩ := dd.dictAt
  have nf : NFz X a := fun o' u' e => by
    have := I1.base.frzs a o' u' e
    rw [ha] at this
    cases this
  have I2 : Inv X pins σ (upd H1 a (.frz o (.dK kvs))) s1 := I1.write (t' := s1.toks) (h' := s1.heap) (x := a) (e := a) (by rw [ha]; exact True.intro) (.inl rfl) (fun b q hb e => e) ⟨o, ho⟩ ⟨ho, z, lo, vs, rel, dd⟩
  refine raw_iter lo ⟨o, ho, hx, hd⟩ ?_
  refine ⟨s1.heap.objs.size, [s1.heap.objs.size], _, _, _, rfl, I2.kept (t' := s1.toks) fun b q e => Heap.get?_push_of_some _ e, turn_dict a _ o kvs es ep hd, ⟨_, Heap.get?_push_size _ rfl, rfl, rfl⟩, fun b hb => ?_, q o nf⟩
  have e : b = s1.heap.objs.size := by simpa using hb
  subst e
  exact I2.fpOk (Nat.le_refl _) (I2.hok.fresh (Nat.le_refl _))
theorem Inv.thaw {pins : List (Addr × Obj)} {σ : St} {H : Hp} {s : Shared} {a : Addr} {o : Obj} {kvs : List (Key × V)} (I : Inv X pins σ H s) (nf : NFz X a) (hH : H a = some (.frz o (.dK kvs))) : Inv X pins σ (upd H a (.dK kvs)) s := by
  have ne0 : ∀ b, H b = none → b ≠ a := fun b h z => by rw [z, hH] at h; cases h
  have ne1 : ∀ b u, H b = some u → (∀ o' u', u ≠ .frz o' u') → b ≠ a := fun b u h n z => by
    rw [z, hH] at h
    exact n _ _ (Option.some.inj h).symm
  have hok := I.hok
  refine { I with base := ⟨I.base.keep, I.base.slot, fun b o' g h e => ?_, I.base.there, fun b xs e => ?_, fun b o' u e => ?_, fun b ps e => ?_⟩, free := ?_, freeC := fun x c e => ?_, pin := fun p hp => ?_, hok := fun b u e => ?_ }
  · have := I.base.free b o' g h e
    rw [upd_ne (ne0 b this)]
    exact this
  · have := I.base.tups b xs e
    rw [upd_ne (ne1 b _ this (fun _ _ z => by cases z))]
    exact this
  · have := I.base.frzs b o' u e
    have nb : b ≠ a := fun z => by subst z; exact nf o' u e
    rw [upd_ne nb]
    exact this
  · obtain ⟨more, this⟩ := I.base.tbls b ps e
    refine ⟨more, ?_⟩
    rw [upd_ne (ne1 b _ this (fun _ _ z => by cases z))]
    exact this
  · rw [upd_ne (ne0 _ I.free)]
    exact I.free
  · have := I.freeC x c e
    rw [upd_ne (ne0 _ this)]
    exact this
  · obtain ⟨h1, h2, h3⟩ := I.pin p hp
    refine ⟨h1, ?_, h3⟩
    rw [upd_ne (ne0 _ h2)]
    exact h2
  · by_cases hb : b = a
    · subst hb
      rw [upd_same] at e
      cases e
      exact (hok b _ hH).2
    · rw [upd_ne hb] at e
      refine (hok b u e).stay (fun c v _ q => q) (fun c q => ?_) fun c xs q => ?_
      · rw [upd_ne (ne1 c _ q (fun _ _ z => by cases z))]; exact q
      · rw [upd_ne (ne1 c _ q (fun _ _ z => by cases z))]; exact q
noncomputable def tThaw (NF : Addr → Prop) (t : TS) : TS := fun D σ H => t { nx := fun σ' H' => ∃ a o kvs, NF a ∧ H' a = some (.frz o (.dK kvs)) ∧ D.nx σ' (upd H' a (.dK kvs)), rt := D.rt, bk := D.bk, ct := D.ct } σ H
theorem ps_thaw {st : Stmt} {t : TS} (h : PS X st t) : PS X st (tThaw (NFz X) t) := by
  intro pins s σ H D I q
  refine thn (h pins s σ H _ I q) fun f s1 r => ?_
  cases f with
  | next =>
    obtain ⟨σ', H', I', a, o, kvs, nf, hH, q'⟩ := r
    exact ⟨σ', _, I'.thaw nf hH, q'⟩
  | brk => exact r
  | cont => exact r
  | ret u => exact r
end
end L2
set_option Elab.async false
set_option linter.all false
set_option maxRecDepth 100000
set_option maxHeartbeats 4000000
namespace L2
open PySem PySem.Spec PyProof.Rows PySem.W
section
variable {X : Cx}
end
end L2
set_option Elab.async false
set_option linter.all false
set_option maxRecDepth 100000
set_option maxHeartbeats 4000000
namespace L2
open PySem PySem.Spec PyProof.Rows PySem.W
theorem lri_no_len : typeLookup (.type "list_reverseiterator") "__len__" = pure none := by rw [typeLookup_type, builtinLookup_eq_fast]; kernel_rfl
theorem lri_hint : typeLookup (.type "list_reverseiterator") "__length_hint__" = pure (some (.builtin "list_reverseiterator.__length_hint__")) := by rw [typeLookup_type, builtinLookup_eq_fast]; kernel_rfl
theorem rv_no_len : typeLookup (.type "reversed") "__len__" = pure none := by rw [typeLookup_type, builtinLookup_eq_fast]; kernel_rfl
theorem owner_rv : Manifest.owners.lookup (String.ofList ['d', 'e', 's', 'r', 'e', 'v', 'e', 'r'].reverse) = some Manifest.sig_reversed := by kernel_rfl
theorem slot_rv_next : Slot "reversed" "__next__" "reversed.__next__" :=
  .of (owner := "reversed") (n := "__next__") (by rw [typeLookup_type, builtinLookup_eq_fast]; kernel_rfl) (by decide +kernel) (by decide +kernel) (by decide +kernel)
    (by first | exact .inl (by decide +kernel) | exact .inr (by decide +kernel)) (by rw [isSubtype_type]; kernel_rfl)
theorem entry_rv_next : entryFor table "reversed.__next__" = some Builtin.«reversed.__next__» := entryFor_of_tree (by kernel_rfl)
theorem args_rv_next_1 (a : Value) : argsOk "reversed.__next__" ⟨[a], []⟩ := by
  unfold argsOk; rw [signature?_of (id := "reversed.__next__") (n := ['_', '_', 't', 'x', 'e', 'n', '_', '_']) (o := ['d', 'e', 's', 'r', 'e', 'v', 'e', 'r']) (by kernel_rfl) owner_rv]; kernel_rfl
theorem slot_rv_iter : Slot "reversed" "__iter__" "reversed.__iter__" :=
  .of (owner := "reversed") (n := "__iter__") (by rw [typeLookup_type, builtinLookup_eq_fast]; kernel_rfl) (by decide +kernel) (by decide +kernel) (by decide +kernel)
    (by first | exact .inl (by decide +kernel) | exact .inr (by decide +kernel)) (by rw [isSubtype_type]; kernel_rfl)
theorem args_rv_iter_1 (a : Value) : argsOk "reversed.__iter__" ⟨[a], []⟩ := by
  unfold argsOk; rw [signature?_of (id := "reversed.__iter__") (n := ['_', '_', 'r', 'e', 't', 'i', '_', '_']) (o := ['d', 'e', 's', 'r', 'e', 'v', 'e', 'r']) (by kernel_rfl) owner_rv]; kernel_rfl
theorem entry_rv_iter : entryFor table "reversed.__iter__" = some Builtin.«dict_keyiterator.__iter__» :=
  entryFor_alias (id' := "dict_keyiterator.__iter__") (by kernel_rfl) (by first | rfl | decide +kernel | (unfold String.splitOn; simp +decide [String.splitOnAux])) (by decide +kernel) (by kernel_rfl)
theorem slot_rv_hint : Slot "reversed" "__length_hint__" "reversed.__length_hint__" :=
  .of (owner := "reversed") (n := "__length_hint__") (by rw [typeLookup_type, builtinLookup_eq_fast]; kernel_rfl) (by decide +kernel) (by decide +kernel) (by decide +kernel)
    (by first | exact .inl (by decide +kernel) | exact .inr (by decide +kernel)) (by rw [isSubtype_type]; kernel_rfl)
theorem entry_rv_hint : entryFor table "reversed.__length_hint__" = some Builtin.«reversed.__length_hint__» := entryFor_of_tree (by kernel_rfl)
theorem args_rv_hint_1 (a : Value) : argsOk "reversed.__length_hint__" ⟨[a], []⟩ := by
  unfold argsOk; rw [signature?_of (id := "reversed.__length_hint__") (n := "__length_hint__".toList.reverse) (o := ['d', 'e', 's', 'r', 'e', 'v', 'e', 'r']) (by kernel_rfl) owner_rv]; kernel_rfl
theorem slot_rv_init : Slot "reversed" "__init__" "object.__init__" :=
  .of (owner := "object") (n := "__init__") (by rw [typeLookup_type, builtinLookup_eq_fast]; kernel_rfl) (by decide +kernel) (by decide +kernel) (by decide +kernel)
    (by first | exact .inl (by decide +kernel) | exact .inr (by decide +kernel)) (by rw [isSubtype_type]; kernel_rfl)
theorem called_rv : TypeCalled "reversed" "reversed.__new__" "object.__init__" :=
  ⟨by decide +kernel, by decide +kernel, ⟨_, _, PySem.F.mro_reversed⟩, madeBy_type PySem.F.mro_reversed PySem.F.lookup_reversed_new (by decide +kernel), by decide +kernel, by rw [isSubtype_type]; kernel_rfl, slot_rv_init⟩
theorem tup_no_rev : typeLookup (.type "tuple") "__reversed__" = pure none := by rw [typeLookup_type, builtinLookup_eq_fast]; kernel_rfl
noncomputable def IsRv (h : Heap) (a t : Addr) (i : Int) : Prop := ∃ o, h.get? a = some o ∧ o.cls = .type "reversed" ∧ o.data = .fields #[.ref t, rawInt i]
theorem IsRv.typeIs {s : Shared} {a t : Addr} {i : Int} (x : IsRv s.heap a t i) : s.TypeIs (.ref a) "reversed" := let ⟨o, ho, hc, _⟩ := x; ⟨o, ho, hc⟩
theorem IsRv.at {h h' : Heap} {a l : Addr} {i : Int} (x : IsRv h a l i) (e : ∀ o, h.get? a = some o → h'.get? a = some o) : IsRv h' a l i := let ⟨o, ho, r⟩ := x; ⟨o, e _ ho, r⟩
noncomputable def rvObj (t : Addr) (i : Int) : Obj := { cls := .type "reversed", data := .fields #[.ref t, rawInt i] }
theorem meets_rvT (t : Addr) (items : Array Value) (hn : (items.size : Int) < 2 ^ 63) :
    Meets (Builtin.«reversed.__new__» ⟨[.type "reversed", .ref t], []⟩) (fun _ R s => IsTup s.heap t items ∧ ∀ tk, R (.ok (.ret (.ref s.heap.objs.size))) { s with heap := s.heap.push (rvObj t ((items.size : Int) - 1)), toks := tk }) :=
  .of_wp fun prog w A R s h => by
    obtain ⟨ht, h⟩ := h
    unfold Builtin.«reversed.__new__»
    refine wpAny_bind (wpAny_of_eq (newClass_reversed _) ?_)
    try dsimp only
    refine wpAny_bind (wpAny_of_eq (a := ()) (by first | rfl | kernel_rfl) ?_)
    refine wpAny_bind (wpAny_of_eq (a := ()) (by first | rfl | kernel_rfl) ?_)
    try dsimp only
    refine wpAny_bind (wpAny_specialOf ht.typeIs tup_no_rev ?_)
    try dsimp only
    refine wpAny_bind ?_
    show wpAny _ _ (isInstance (Value.ref t) (.type "dict") >>= _) _ _ _
    refine wpAny_bind (wpAny_isInstance (T := "tuple") (b := false) ht.typeIs (by rw [isSubtype_type]; kernel_rfl) ?_)
    refine wpAny_ite_split (fun hab => absurd hab (by decide)) (fun _ => ?_)
    refine wpAny_bind (wpAny_specialOf ht.typeIs slot_tuple_getitem.lookup ?_)
    refine wpAny_ite_split (fun _ => ?_) (fun hab => absurd (by decide +kernel) hab)
    refine wpAny_pure ?_
    refine wpAny_ite_split (fun hab => absurd hab (by decide)) (fun _ => ?_)
    refine wpAny_bind (len_tuple ht hn ?_)
    refine wpAny_bind (m := asInt? _) (wpAny_pure ?_)
    refine wpAny_bind ?_
    show wpAny _ _ (newObj (.type "reversed") (.fields #[.ref t, rawInt ((items.size : Int) - 1)])) _ _ _
    refine wpAny_newObj_type (wpAny_pure ⟨_, rfl, ?_⟩)
    exact h _
section
variable {prog : Program} {w : World} {A : Around} {E : Value → Shared → Prop} {s : Shared}
theorem call_reversed_tup {t : Addr} {items : Array Value} {Q : Value → Shared → Prop} (ht : IsTup s.heap t items) (hn : (items.size : Int) < 2 ^ 63)
    (h : ∀ tk, Q (.ref s.heap.objs.size) { s with heap := s.heap.push (rvObj t ((items.size : Int) - 1)), toks := tk }) : wpAny (model prog w) A (call (.type "reversed") [.ref t]) Q E s := by
  refine callType_new called_rv (by decide) (PySem.F.typeCall_reversed_1 _) (PySem.F.newCall_reversed_1 _) (fun obj => PySem.F.args_object_init_2 obj _) PySem.F.entry_reversed_new (meets_rvT t items hn) ⟨ht, fun tk => ?_⟩
  exact ⟨⟨_, Heap.get?_push_size _ rfl, rfl⟩, h tk⟩
theorem next_rv_item {it t : Addr} {i : Nat} {items : Array Value} {x : Value} {Q : Option Value → Shared → Prop} (hit : IsRv s.heap it t (i : Int)) (ht : IsTup s.heap t items) (hi : (i : Int) < 2 ^ 63) (hx : items[i]? = some x)
    (hQ : ∀ h' tk, IsRv h' it t ((i : Int) - 1) → Heap.SameBut it s.heap h' → Q (some x) { s with heap := h', toks := tk }) : wpAny (model prog w) A (pyNext (.ref it)) Q E s := by
  obtain ⟨o, ho, hc, hd⟩ := id hit
  unfold pyNext
  refine wpAny_bind (wpAny_attempt (wpAny_callSpecial?_slot (name := Str.ofString "__next__") hit.typeIs slot_rv_next
    (wpAny_call_entry slot_rv_next hit.typeIs entry_rv_next ?_ (args_rv_next_1 _))))
  unfold Builtin.«reversed.__next__»
  refine wpAny_bind (wpAny_of_eq (a := (Value.ref it, [])) rfl ?_)
  try dsimp only
  refine wpAny_bind (wpAny_field ho hd (x := .ref t) rfl ?_)
  refine wpAny_bind (wpAny_field ho hd (x := rawInt (i : Int)) rfl ?_)
  show wpAny _ _ (if (i : Int) < 0 then _ else _) _ _ s
  rw [if_neg (by omega)]
  refine wpAny_bind (wpAny_specialOf ht.typeIs slot_tuple_getitem.lookup ?_)
  refine wpAny_ite_split (fun hab => absurd hab (by decide)) (fun _ => ?_)
  refine wpAny_bind (wpAny_mkInt ?_)
  have hlt : i < items.size := by
    rcases Nat.lt_or_ge i items.size with z | z
    · exact z
    · rw [Array.getElem?_eq_none z] at hx; cases hx
  have hj : seqIndex? (i : Int) items.size = some i := by
    unfold seqIndex?
    simp
    omega
  refine wpAny_bind (wpAny_attempt (getItem_tuple (s := { s with toks := s.toks + 1 }) (j := i) ht (by omega) hi hj hx ?_))
  refine wpAny_bind (wpAny_field ho hd (x := rawInt (i : Int)) rfl ?_)
  show wpAny _ _ (setField (.ref it) 1 (rawInt ((i : Int) - 1)) >>= fun _ => ret x) _ _ _
  refine wpAny_bind (wpAny_setField ho hd (by simp) ?_)
  refine wpAny_pure ⟨x, rfl, wpAny_pure (hQ _ _ ?_ (Heap.SameBut.update ..))⟩
  exact ⟨_, Heap.get?_update_self _ ho (Obj.isFreed_of_fields (Obj.data_mapFields hd _)), (Obj.cls_mapFields ..).trans hc, by
    rw [Obj.data_mapFields hd]; simp⟩
theorem next_rv_end {it t : Addr} {Q : Option Value → Shared → Prop} (hh : A.handled = none) (hit : IsRv s.heap it t (-1))
    (hQ : ∀ h', Heap.ExtBut it s.heap h' → Q none { s with heap := h' }) : wpAny (model prog w) A (pyNext (.ref it)) Q E s := by
  obtain ⟨o, ho, hc, hd⟩ := id hit
  unfold pyNext
  refine wpAny_bind (wpAny_attempt (wpAny_callSpecial?_slot (name := Str.ofString "__next__") hit.typeIs slot_rv_next
    (wpAny_call_entry slot_rv_next hit.typeIs entry_rv_next ?_ (args_rv_next_1 _))))
  unfold Builtin.«reversed.__next__»
  refine wpAny_bind (wpAny_of_eq (a := (Value.ref it, [])) rfl ?_)
  try dsimp only
  refine wpAny_bind (wpAny_field ho hd (x := .ref t) rfl ?_)
  refine wpAny_bind (wpAny_field ho hd (x := rawInt (-1)) rfl ?_)
  show wpAny _ _ (if (-1 : Int) < 0 then _ else _) _ _ s
  rw [if_pos (by decide)]
  refine wpAny_bind (wpAny_rule ?_)
  refine wpAny_bind ?_
  show wpAny _ _ (setField (.ref it) 1 (rawInt (-1)) >>= fun _ => setField (.ref it) 0 .none) _ _ _
  refine wpAny_bind (wpAny_setField ho hd (by simp) ?_)
  have ho1 := Heap.get?_update_self (Obj.mapFields (·.setIfInBounds 1 (rawInt (-1)))) ho (Obj.isFreed_of_fields (Obj.data_mapFields hd _))
  have hd1 : (Obj.mapFields (fun x => x.setIfInBounds 1 (rawInt (-1))) o).data = .fields #[.ref t, rawInt (-1)] := by rw [Obj.data_mapFields hd]; simp
  refine wpAny_setField ho1 hd1 (by simp) ?_
  refine wpAny_bind ?_
  show wpAny _ _ (newExc (.type "StopIteration") [] >>= _) _ _ _
  refine wpAny_bind ?_
  simp only [newExc, newTuple]
  refine wpAny_bind (wpAny_newObj_type ?_ (by size_fits))
  refine wpAny_bind (m := firstArgMember _ _) (wpAny_of_eq (a := Value.none) (by first | rfl | (simp only [firstArgMember]; rfl)) ?_)
  refine wpAny_newObj_type ?_ (by size_fits)
  simp only [raiseNew]
  refine wpAny_bind (wpAny_handled ?_)
  first | rw [show A.in1.handled = none from hh] | rw [hh]
  refine wpAny_bind (wpAny_pure (wpAny_throw ?_))
  refine wpAny_bind (wpAny_isInstance (T := "StopIteration") (b := true) ⟨_, Heap.get?_push_size _ rfl, rfl⟩ isSubtype_stop ?_)
  refine wpAny_pure (hQ _ (fun b u hb e => ?_))
  exact Heap.get?_push_of_some _ (Heap.get?_push_of_some _ ((Heap.get?_update_other _ _ (Ne.symm hb)).trans ((Heap.get?_update_other _ _ (Ne.symm hb)).trans e)))
theorem iter_rv {it t : Addr} {i : Int} {Q : Value → Shared → Prop} (hit : IsRv s.heap it t i) (h : Q (.ref it) s) : wpAny (model prog w) A (pyIter (.ref it)) Q E s := by
  refine wpAny_pyIter_slot hit.typeIs slot_rv_iter (wpAny_call_entry slot_rv_iter hit.typeIs entry_rv_iter ?_ (args_rv_iter_1 _))
  show wpAny _ _ (ret (.ref it)) _ _ s
  exact wpAny_pure ⟨_, rfl, "reversed", _, hit.typeIs, slot_rv_next.lookup, h⟩
theorem hint_lri {r : Addr} {Q : Bool → Shared → Prop} (hT : s.TypeIs (.ref r) "list_reverseiterator") (h : Q false s) : wpAny (model prog w) A (Builtin.List.listLengthHint (.ref r)) Q E s := by
  unfold Builtin.List.listLengthHint
  refine wpAny_bind (wpAny_specialOf hT lri_no_len ?_)
  show wpAny _ _ (specialOf (Value.ref r) (Str.ofString "__length_hint__") >>= _) _ _ _
  refine wpAny_bind (wpAny_specialOf hT lri_hint ?_)
  generalize hid : ("list_reverseiterator.__length_hint__" : String) = id0
  wp_delta
  rw [show splitId id0 = some ("list_reverseiterator", "__length_hint__") from by subst hid; decide +kernel]
  subst hid
  refine wpAny_bind (wpAny_isInstance (T := "list_reverseiterator") (b := true) hT (by rw [isSubtype_type]; kernel_rfl) ?_)
  refine wpAny_ite_split (fun hab => absurd hab (by decide)) (fun _ => ?_)
  refine wpAny_ite_split (fun _ => ?_) (fun hab => absurd (by decide +kernel) hab)
  refine wpAny_ite_split (fun hab => absurd hab (by decide +kernel)) (fun _ => ?_)
  exact wpAny_pure h
theorem hint_rv {r t : Addr} {i : Int} {items : Array Value} {Q : Bool → Shared → Prop} (hit : IsRv s.heap r t i) (ht : IsTup s.heap t items) (hi : i = (items.size : Int) - 1) (hn : items.size ≤ 2 ^ 24) (h : ∀ b tk, Q b { s with toks := tk }) : wpAny (model prog w) A (Builtin.List.listLengthHint (.ref r)) Q E s := by
  have hT := hit.typeIs
  obtain ⟨o, ho, hc, hd⟩ := id hit
  unfold Builtin.List.listLengthHint
  refine wpAny_bind (wpAny_specialOf hT rv_no_len ?_)
  show wpAny _ _ (specialOf (Value.ref r) (Str.ofString "__length_hint__") >>= _) _ _ _
  refine wpAny_bind (wpAny_specialOf hT slot_rv_hint.lookup ?_)
  generalize hid : ("reversed.__length_hint__" : String) = id0
  wp_delta
  rw [show splitId id0 = some ("reversed", "__length_hint__") from by subst hid; decide +kernel]
  subst hid
  refine wpAny_bind (wpAny_isInstance (T := "reversed") (b := true) hT (by rw [isSubtype_type]; kernel_rfl) ?_)
  refine wpAny_ite_split (fun hab => absurd hab (by decide)) (fun _ => ?_)
  refine wpAny_ite_split (fun hab => absurd hab (by decide +kernel)) (fun _ => ?_)
  refine wpAny_bind (wpAny_rule ?_)
  refine wpAny_bind (wpAny_of_eq (slot_rv_hint.bind _) ?_)
  refine wpAny_bind (wpAny_attempt (wpAny_call_entry slot_rv_hint hT entry_rv_hint ?_ (args_rv_hint_1 _)))
  unfold Builtin.«reversed.__length_hint__»
  refine wpAny_bind (wpAny_of_eq (a := Value.ref r) rfl ?_)
  refine wpAny_bind (wpAny_field ho hd (x := .ref t) rfl ?_)
  refine wpAny_ite_split (fun hab => absurd hab Bool.false_ne_true) (fun _ => ?_)
  refine wpAny_bind (len_tuple ht (by omega) ?_)
  refine wpAny_bind (m := asInt? _) (wpAny_pure ?_)
  refine wpAny_bind (wpAny_field ho hd (x := rawInt i) rfl ?_)
  show wpAny _ _ (if (items.size : Int) < i + 1 then _ else _) _ _ _
  rw [if_neg (by omega)]
  refine wpAny_bind (wpAny_mkInt (wpAny_pure ⟨_, rfl, ?_⟩))
  refine wpAny_bind (m := asInt? _) (wpAny_pure ?_)
  have e1 : Builtin.List.listFitsIndex (i + 1) = true := by simp [Builtin.List.listFitsIndex]; omega
  have e2 : Builtin.List.listTooLong (i + 1).toNat = false := by simp [Builtin.List.listTooLong, sizeLine_eq]; omega
  refine wpAny_ite_split (fun hab => absurd hab (by rw [e1]; decide)) (fun _ => ?_)
  refine wpAny_ite_split (fun hab => absurd hab (by omega)) (fun _ => ?_)
  refine wpAny_ite_split (fun hab => absurd hab (by rw [e2]; decide)) (fun _ => ?_)
  exact wpAny_pure (h _ _)
theorem walks_rv (hh : A.handled = none) (I t : Addr) (hne : t ≠ I) (items : Array Value) (hn : items.size ≤ 2 ^ 24) :
    Walks prog w A I [I, t] [I] items.size (fun i v => items[items.size - 1 - i]? = some v) (fun i h => i ≤ items.size ∧ IsRv h I t ((items.size : Int) - 1 - (i : Int)) ∧ IsTup h t items) where
  sub := fun b hb => by simp at hb; simp [hb]
  frame := fun _ _ _ x hk => ⟨x.1, x.2.1.at fun o e => hk I (by simp) o e, let ⟨o, ho, r⟩ := x.2.2; ⟨o, hk t (by simp) o ho, r⟩⟩
  item := fun i s Q E hi x hQ => by
    have e : (items.size : Int) - 1 - (i : Int) = ((items.size - 1 - i : Nat) : Int) := by omega
    have hit := x.2.1
    rw [e] at hit
    have hx : items[items.size - 1 - i]? = some (items[items.size - 1 - i]'(by omega)) := Array.getElem?_eq_getElem (by omega)
    refine next_rv_item hit x.2.2 (by omega) hx fun h' tk hit' hs' => ?_
    have e2 : ((items.size - 1 - i : Nat) : Int) - 1 = (items.size : Int) - 1 - ((i + 1 : Nat) : Int) := by omega
    rw [e2] at hit'
    exact hQ _ h' tk hx ⟨hi, hit', let ⟨o, ho, r⟩ := x.2.2; ⟨o, (hs'.2 t hne).trans ho, r⟩⟩ fun b o hb eo => hs'.extBut b o (fun h => hb (by simp [h])) eo
  done := fun s Q E x hQ => by
    have e : (items.size : Int) - 1 - (items.size : Int) = -1 := by omega
    have hit := x.2.1
    rw [e] at hit
    exact next_rv_end hh hit fun h' he' => hQ h' s.toks fun b o hb eo => he' b o (fun h => hb (by simp [h])) eo
  self := fun _ _ _ _ x hQ => iter_rv x.2.1 hQ
theorem call_list_it {Q : Value → Shared → Prop} {T : String} {I : Addr} {fp wr : List Addr} {n : Nat} {P : Nat → Value → Prop} {St : Nat → Heap → Prop} (W : Walks prog w A.in1.in1 I fp wr n P St) (hn : n ≤ sizeLine)
    (hT : ∀ (s' : Shared), St 0 s'.heap → s'.TypeIs (.ref I) T) (h2 : (Value.type T == Value.type "list") = false) (h3 : (Value.type T == Value.type "tuple") = false)
    (hint : ∀ {A' : Around} {E' : Value → Shared → Prop} (s' : Shared) (Q' : Bool → Shared → Prop), St 0 s'.heap → (∀ b tk, Q' b { s' with toks := tk }) → wpAny (model prog w) A' (Builtin.List.listLengthHint (.ref I)) Q' E' s')
    (hst : St 0 s.heap) (hfp : ∀ b ∈ fp, b < s.heap.objs.size) (hI : I ∈ fp)
    (hQ : ∀ h' tk acc' c', (∀ b o, b ∉ wr → s.heap.get? b = some o → h'.get? b = some o) →
      h'.get? s.heap.objs.size = some { cls := .type "list", dict := none, data := .seq acc' c', slots := #[] } → ItemsOf P acc' n → Q (.ref s.heap.objs.size) { s with heap := h', toks := tk }) :
    wpAny (model prog w) A (call (.type "list") [.ref I]) Q E s := by
  have hSf : s.heap.objs.size ∉ fp := fun hm => Nat.lt_irrefl _ (hfp _ hm)
  have hSI : s.heap.objs.size ≠ I := fun e => hSf (e ▸ hI)
  refine callType_codes (Q₁ := fun obj s₁ => obj = .ref s.heap.objs.size ∧ s₁ = { s with heap := s.heap.push { cls := .type "list", data := .seq #[] } }) PySem.F.called_list (PySem.F.typeCall_list_1 _) PySem.F.entry_list_init
    (code_list_new _ ⟨rfl, rfl⟩) fun obj s₁ h₁ => ?_
  obtain ⟨rfl, rfl⟩ := h₁
  have hS : (s.heap.push { cls := .type "list", data := .seq #[] }).get? s.heap.objs.size = some { cls := .type "list", data := .seq #[] } := Heap.get?_push_size _ rfl
  refine ⟨⟨_, hS, rfl⟩, PySem.F.args_list_init_2 _ _, ?_⟩
  generalize hSS : s.heap.objs.size = S at hS hSf hSI hQ ⊢
  show wpAny _ _ (do let old ← Builtin.List.listItems (.ref S); Builtin.List.listUpdate (.ref S) (fun _ => #[]); letGo old.toList.reverse; Builtin.List.listExtendWith (.ref S) (.ref I) .none) _ _ _
  refine wpAny_bind ?_
  unfold Builtin.List.listItems
  refine wpAny_bind (wpAny_seqItems hS rfl (wpAny_pure ?_))
  show wpAny _ _ (updateSeq S (fun _ => #[]) >>= fun _ => letGo (#[] : Array Value).toList.reverse >>= fun _ => Builtin.List.listExtendWith (.ref S) (.ref I) .none) _ _ _
  refine wpAny_bind (wpAny_updateSeq hS rfl ?_)
  have hS₁ := Heap.get?_update_self (Obj.mapSeq (fun _ => (#[] : Array Value))) hS rfl
  have k1 : ∀ b o, b ≠ S → s.heap.get? b = some o → ((s.heap.push { cls := .type "list", data := .seq #[] }).update S (Obj.mapSeq (fun _ => (#[] : Array Value)))).get? b = some o :=
    fun b o hb e => (Heap.get?_update_other _ _ (Ne.symm hb)).trans (Heap.get?_push_of_some _ e)
  refine wpAny_bind (wpAny_letGo ?_)
  generalize ((s.heap.push { cls := .type "list", data := .seq #[] }).update S (Obj.mapSeq (fun _ => (#[] : Array Value)))) = hp1 at hS₁ k1 ⊢
  have neS : ∀ b ∈ fp, b ≠ S := fun b hb e => hSf (e ▸ hb)
  have st1 : St 0 hp1 := W.frame 0 _ _ hst fun b hb o e => k1 b o (neS b hb) e
  unfold Builtin.List.listExtendWith
  refine wpAny_bind (wpAny_typeOf (hT { s with heap := hp1 } st1) ?_)
  have g1 : Builtin.List.listSameRef (.ref S) (.ref I) = false := by simp [Builtin.List.listSameRef, hSI]
  simp only [g1, h2, h3, Bool.or_false, Bool.false_eq_true, if_false]
  refine wpAny_bind (W.self 0 { s with heap := hp1 } _ _ st1 ?_)
  refine wpAny_bind (wpAny_holding (hint { s with heap := hp1 } _ st1 fun b tk => ?_))
  have key : ∀ (h : Heap) (c₁ : Nat), (∀ b o, b ≠ S → s.heap.get? b = some o → h.get? b = some o) → h.get? S = some { cls := .type "list", data := .seq #[] c₁ } →
      codeAny (model prog w) A.in1 (.builtin "list.extend.loop" ⟨[.ref S, .ref I, .none], []⟩) (wants (fun r s' => r = .none ∧ Q (.ref S) s') E) { s with heap := h, toks := tk } := by
    intro h c₁ hk hS₂
    refine codeAny_extend_loopS W.toS hn S hSf .none n 0 _ #[] c₁ rfl (Nat.zero_le _) (W.frame 0 _ _ hst fun b hb o e => hk b o (neS b hb) e) hS₂ (ItemsOf.nil _) fun s' acc' c' hm hS' hacc => ?_
    rw [Moved.eq_with hm]
    refine ⟨rfl, hQ s'.heap s'.toks acc' c' (fun b o hb e => hm.heap b o (fun hmem => ?_) (hk b o (fun z => ?_) e)) hS' hacc⟩
    · rcases List.mem_cons.mp hmem with e' | hmem
      · have := Heap.lt_size e
        rw [e', hSS] at this
        exact Nat.lt_irrefl _ this
      · exact hb hmem
    · have := Heap.lt_size e
      rw [z, hSS] at this
      exact Nat.lt_irrefl _ this
  refine wpAny_ite_split (fun _ => ?_) (fun _ => wpAny_pure ⟨plainId_quiet PySem.F.plain_extend_loop _, key _ _ k1 hS₁⟩)
  refine wpAny_bind (wpAny_rule ?_)
  refine wpAny_bind ?_
  show wpAny _ _ (updateSeq S (·.push .none) >>= fun _ => updateSeq S (·.pop)) _ _ _
  refine wpAny_bind (wpAny_updateSeq hS₁ rfl ?_)
  have hS₂ := Heap.get?_update_self (Obj.mapSeq (·.push Value.none)) hS₁ rfl
  refine wpAny_updateSeq (hz := by seq_fits) hS₂ rfl ?_
  have hS₃ := Heap.get?_update_self (Obj.mapSeq (·.pop)) hS₂ rfl
  exact wpAny_pure ⟨plainId_quiet PySem.F.plain_extend_loop _, key _ _ (fun b o hb e => (Heap.get?_update_other _ _ (Ne.symm hb)).trans ((Heap.get?_update_other _ _ (Ne.symm hb)).trans (k1 b o hb e))) hS₃⟩
end
end L2
set_option Elab.async false
set_option linter.all false
set_option maxRecDepth 100000
set_option maxHeartbeats 4000000
namespace L2
open PySem PySem.Spec PyProof.Rows PySem.W
theorem items_rev {its : List Value} {acc : Array Value} (h : ItemsOf (fun i v => its.toArray[its.toArray.size - 1 - i]? = some v) acc its.toArray.size) : acc = its.reverse.toArray := by
  obtain ⟨h1, h2⟩ := h
  apply Array.ext'
  rw [List.toList_toArray]
  apply List.ext_getElem?
  intro j
  have hs : acc.toList.length = its.length := by rw [Array.length_toList, h1, List.size_toArray]
  by_cases hj : j < its.length
  · have hj' : j < acc.size := by rw [← Array.length_toList]; omega
    have e := h2 j acc[j] (Array.getElem?_eq_getElem hj')
    rw [List.getElem?_reverse hj, Array.getElem?_toList, Array.getElem?_eq_getElem hj']
    rw [List.size_toArray, List.getElem?_toArray] at e
    exact e.symm
  · rw [List.getElem?_eq_none (by omega), List.getElem?_eq_none (by rw [List.length_reverse]; omega)]
section
variable {X : Cx}
noncomputable def tListRev (K : PySem.W.Frag) (ta : TA) : TE := fun σ H Q => ta σ H fun vs H1 => ∃ a xs, vs = [.ref a] ∧ (SqL K H1 a xs ∨ SqT K H1 a xs) ∧ xs.length ≤ 100000 ∧ ∀ p, H1 p = none → Q (.ref p) (upd H1 p (.lst xs.reverse))
theorem pe_listRev (K : PySem.W.Frag) (hK : X.K = K) (hc : X.calm = true) {a : Expr} {ta : TA} {p1 p2 pos1 pos2 : Pos} (hg : Gl X "list") (hm : X.mg "list" = none) (hg2 : Gl X "reversed") (hm2 : X.mg "reversed" = none) (ha : PA X [a] ta)
    (hs : starEach [a] X.env = [(false, eval a X.env)] := by rfl)
    (hs1 : starEach [Expr.Call (.Name "reversed" p2) [a] [] pos2] X.env = [(false, eval (.Call (.Name "reversed" p2) [a] [] pos2) X.env)] := by rfl) :
    PE X (.Call (.Name "list" p1) [.Call (.Name "reversed" p2) [a] [] pos2] [] pos1) (tListRev K ta) := by
  subst hK
  intro pins s σ H Q I h
  refine Call_ (ld_blt I hg hm boot_list (PyProof.Rows.callWith_type1 ?_ hs1 rfl))
  rw [hs1]
  show wpAny _ _ (spliced ((false, eval (.Call (.Name "reversed" p2) [a] [] pos2) X.env) :: backTo pos1 (starEach [] X.env))) _ _ s
  refine Calls.spliced_cons ?_
  refine Call_ (ld_blt I hg2 hm2 boot_reversed (PyProof.Rows.callWith_type1 (thn (ha pos2 pins s σ H _ I h) fun us s1 ⟨vs, H1, I1, r1, q1⟩ => ?_) hs rfl))
  obtain ⟨l, xs, e, hq, hlen, q⟩ := q1
  subst e
  have fin : ∀ (its : List Value) (h' : Heap) (tk : Nat) (acc' : Array Value) (c' : Nat), Vals xs its → (∀ b o, s1.heap.get? b = some o → h'.get? b = some o) → h'.get? (s1.heap.objs.size + 1) = some { cls := .type "list", dict := none, data := .seq acc' c', slots := #[] } → ItemsOf (fun i v => its.toArray[its.toArray.size - 1 - i]? = some v) acc' its.toArray.size → EP X pins σ Q (.ref (s1.heap.objs.size + 1)) { s1 with heap := h', toks := tk } := by
    intro its h' tk acc' c' rv hk hS hacc
    have ea := items_rev hacc
    subst ea
    have fr : H1 (s1.heap.objs.size + 1) = none := I1.hok.fresh (Nat.le_add_right _ _)
    refine ⟨.ref _, upd H1 (s1.heap.objs.size + 1) (.lst xs.reverse), I1.laid (t' := tk) hk (Nat.le_add_right _ _) ⟨by rw [List.length_reverse, sizeLine_eq]; omega, its.reverse, c', rv.reverse, hS⟩, rfl, q _ fr⟩
  have keepA : ∀ (o0 : Obj) (h' : Heap), (∀ b o, b ∉ [s1.heap.objs.size] → (s1.heap.push o0).get? b = some o → h'.get? b = some o) → ∀ b o, s1.heap.get? b = some o → h'.get? b = some o := fun o0 h' hk b o e => hk b o (fun z => by
    rw [List.mem_singleton.mp z] at e
    exact Nat.lt_irrefl _ (Heap.lt_size e)) (Heap.get?_push_of_some _ e)
  cases r1 with
  | cons r rr =>
    cases rr
    cases r
    rcases hq with hq | hq
    · obtain ⟨its, rv, pl, hz⟩ := I1.list hq
      have hlen' := rv.length
      have hL : s1.heap.IsList l its.toArray := pl.isList
      have hlt : l < s1.heap.objs.size := by obtain ⟨o, ho, _⟩ := hL; exact Heap.lt_size ho
      refine call_reversed_list hL ?_
      refine Calls.spliced_nil ?_
      have zz : (s1.heap.push (revObj l ((its.toArray.size : Int) - 1))).objs.size = s1.heap.objs.size + 1 := Heap.size_push ..
      have st0 : 0 ≤ its.toArray.size ∧ (s1.heap.push (revObj l ((its.toArray.size : Int) - 1))).IsRevIter s1.heap.objs.size l ((its.toArray.size : Int) - 1 - ((0 : Nat) : Int)) ∧ (s1.heap.push (revObj l ((its.toArray.size : Int) - 1))).IsList l its.toArray := by
        refine ⟨Nat.zero_le _, ?_, hL.at fun o e => Heap.get?_push_of_some _ e⟩
        have e1 : (its.toArray.size : Int) - 1 - ((0 : Nat) : Int) = (its.toArray.size : Int) - 1 := by omega
        rw [e1]
        exact ⟨_, Heap.get?_push_size _ rfl, rfl, rfl⟩
      have W := Walks.listRev (prog := X.prog) (w := X.w) (A := X.A.in1.in1) (I1.ok.hd hc) s1.heap.objs.size l (Nat.ne_of_lt hlt) its.toArray
      refine call_list_it (T := "list_reverseiterator") W (by rw [List.size_toArray, ← hlen', sizeLine_eq]; omega) (fun s' st => st.2.1.typeIs) (by decide) (by decide) (fun s' Q' st k => hint_lri st.2.1.typeIs (k false s'.toks)) st0 (fun b hb => ?_) (by simp) (fun h' tk acc' c' hk hS hacc => ?_)
      · rw [zz]
        simp only [List.mem_cons, List.not_mem_nil, or_false] at hb
        rcases hb with rfl | rfl
        · exact Nat.lt_succ_self _
        · exact Nat.lt_succ_of_lt hlt
      · rw [zz] at hS ⊢
        exact fin its h' tk acc' c' rv (keepA _ h' hk) hS hacc
    · obtain ⟨its, rv, pl, hz⟩ := I1.tuple hq
      have hlen' := rv.length
      have hlt : l < s1.heap.objs.size := pl.lt
      refine call_reversed_tup pl (by rw [List.size_toArray, ← hlen']; omega) (fun tk0 => ?_)
      refine Calls.spliced_nil ?_
      have zz : (s1.heap.push (rvObj l ((its.toArray.size : Int) - 1))).objs.size = s1.heap.objs.size + 1 := Heap.size_push ..
      have st0 : 0 ≤ its.toArray.size ∧ IsRv (s1.heap.push (rvObj l ((its.toArray.size : Int) - 1))) s1.heap.objs.size l ((its.toArray.size : Int) - 1 - ((0 : Nat) : Int)) ∧ IsTup (s1.heap.push (rvObj l ((its.toArray.size : Int) - 1))) l its.toArray := by
        refine ⟨Nat.zero_le _, ?_, pl.push _⟩
        have e1 : (its.toArray.size : Int) - 1 - ((0 : Nat) : Int) = (its.toArray.size : Int) - 1 := by omega
        rw [e1]
        exact ⟨_, Heap.get?_push_size _ rfl, rfl, rfl⟩
      have hsz : its.toArray.size ≤ 2 ^ 24 := by rw [List.size_toArray, ← hlen']; omega
      have W := walks_rv (prog := X.prog) (w := X.w) (A := X.A.in1.in1) (I1.ok.hd hc) s1.heap.objs.size l (Nat.ne_of_lt hlt) its.toArray hsz
      refine call_list_it (T := "reversed") W (by rw [List.size_toArray, ← hlen', sizeLine_eq]; omega) (fun s' st => st.2.1.typeIs) (by decide) (by decide) (fun s' Q' st k => hint_rv st.2.1 st.2.2 (by omega) hsz k) st0 (fun b hb => ?_) (by simp) (fun h' tk acc' c' hk hS hacc => ?_)
      · rw [zz]
        simp only [List.mem_cons, List.not_mem_nil, or_false] at hb
        rcases hb with rfl | rfl
        · exact Nat.lt_succ_self _
        · exact Nat.lt_succ_of_lt hlt
      · rw [zz] at hS ⊢
        exact fin its h' tk acc' c' rv (keepA _ h' hk) hS hacc
theorem tListRev_i {K : PySem.W.Frag} {σ : St} {H : Hp} {ta : TA} {Q : VK} (k : ta σ H fun vs H1 => ∃ a xs, vs = [.ref a] ∧ (SqL K H1 a xs ∨ SqT K H1 a xs) ∧ xs.length ≤ 100000 ∧ ∀ p, H1 p = none → Q (.ref p) (upd H1 p (.lst xs.reverse))) : tListRev K ta σ H Q := k
end
end L2
set_option Elab.async false
set_option linter.all false
set_option maxRecDepth 100000
set_option maxHeartbeats 4000000
namespace L2
open PySem PySem.Spec PyProof.Rows PySem.W
section
variable {X : Cx} {pos : Pos} {e e2 : Expr} {te te2 : TE}
noncomputable def tF2n (a : Str) (te : TE) : TE := fun σ H Q => te σ H fun x H1 => ∃ i : Int, x = .int i ∧ i.natAbs.log2 < 1920 ∧ (Str.ofString (toString i)).length ≤ 1000 ∧ Q (.str (a ++ Str.ofString (toString i))) H1
theorem pe_f2n {a : Str} {j1 p1 p2} (he : PE X e te) (ha : a.length ≤ 1000 := by decide +kernel) : PE X (.JoinedStr [.Constant (.str a) j1 p1, .FormattedValue e (-1) none p2] pos) (tF2n a te) := by
  intro pins s σ H Q I h
  have z9 : 100000 ≤ sizeLine := by decide
  have ea : ∀ x : Str, Str.empty ++ x = x := fun x => by apply Str.ext'; show (#[] : Array Nat) ++ x.cps = x.cps; simp
  refine JoinedStr_many (joinParts_cons (Calls.Constant_str ?_))
  have hz : (Str.empty ++ a).length ≤ sizeLine := by rw [ea]; omega
  refine ⟨hz, joinParts_cons (FormattedValue_plain (thn (he pins _ σ H _ (I.tok _) h) fun v s1 ⟨x, H1, I1, r1, q1⟩ => ?_))⟩
  rw [ea]
  obtain ⟨i, rfl, hl, hy, q⟩ := q1
  obtain ⟨t, rfl⟩ := r1
  refine formatField_int_small hl ?_
  generalize Str.ofString (toString i) = y at hy q ⊢
  refine ⟨by rw [strLen_append]; omega, ?_⟩
  refine joinParts_nil ?_ (by rw [strLen_append]; omega)
  exact ⟨.str (a ++ y), H1, (I1.tok _).tok _, ⟨_, rfl⟩, q⟩
theorem tF2n_i {a : Str} {σ : St} {H : Hp} {Q : VK} (k : te σ H fun x H1 => ∃ i : Int, x = .int i ∧ i.natAbs.log2 < 1920 ∧ (Str.ofString (toString i)).length ≤ 1000 ∧ Q (.str (a ++ Str.ofString (toString i))) H1) : tF2n a te σ H Q := k
noncomputable def tF3n (b : Str) (te te2 : TE) : TE := fun σ H Q => te σ H fun x H1 => ∃ y, x = .str y ∧ y.length ≤ 5000 ∧ te2 σ H1 fun x2 H2 => ∃ i : Int, x2 = .int i ∧ i.natAbs.log2 < 1920 ∧ (Str.ofString (toString i)).length ≤ 1000 ∧ Q (.str (y ++ b ++ Str.ofString (toString i))) H2
theorem pe_f3n {b : Str} {j2 p1 p2 p3} (he : PE X e te) (he2 : PE X e2 te2) (hb : b.length ≤ 1000 := by decide +kernel) : PE X (.JoinedStr [.FormattedValue e (-1) none p1, .Constant (.str b) j2 p2, .FormattedValue e2 (-1) none p3] pos) (tF3n b te te2) := by
  intro pins s σ H Q I h
  have z9 : 100000 ≤ sizeLine := by decide
  have ea : ∀ x : Str, Str.empty ++ x = x := fun x => by apply Str.ext'; show (#[] : Array Nat) ++ x.cps = x.cps; simp
  refine JoinedStr_many (joinParts_cons (FormattedValue_plain (thn (he pins _ σ H _ I h) fun v s1 ⟨x, H1, I1, r1, q1⟩ => ?_)))
  obtain ⟨y, rfl, hl, q1⟩ := q1
  obtain ⟨t, rfl⟩ := r1
  refine formatField_str (fun t' tk => ?_) (by omega)
  show (Str.empty ++ y).length ≤ sizeLine ∧ _
  rw [ea]
  refine ⟨by omega, ?_⟩
  show wpAny _ _ (joinParts y [eval (.Constant (.str b) j2 p2) X.env, eval (.FormattedValue e2 (-1) none p3) X.env]) _ _ _
  refine joinParts_cons (Calls.Constant_str ⟨by rw [strLen_append]; omega, ?_⟩)
  refine joinParts_cons (FormattedValue_plain (thn (he2 pins _ σ H1 _ ((I1.tok _).tok _) q1) fun v2 s2 ⟨x2, H2, I2, r2, q2⟩ => ?_))
  obtain ⟨i, rfl, hl2, hy, q⟩ := q2
  obtain ⟨t2, rfl⟩ := r2
  refine formatField_int_small hl2 ?_
  generalize Str.ofString (toString i) = z at hy q ⊢
  refine ⟨by rw [strLen_append, strLen_append]; omega, ?_⟩
  refine joinParts_nil ?_ (by rw [strLen_append, strLen_append]; omega)
  exact ⟨.str (y ++ b ++ z), H2, (I2.tok _).tok _, ⟨_, rfl⟩, q⟩
theorem tF3n_i {b : Str} {σ : St} {H : Hp} {Q : VK} (k : te σ H fun x H1 => ∃ y, x = .str y ∧ y.length ≤ 5000 ∧ te2 σ H1 fun x2 H2 => ∃ i : Int, x2 = .int i ∧ i.natAbs.log2 < 1920 ∧ (Str.ofString (toString i)).length ≤ 1000 ∧ Q (.str (y ++ b ++ Str.ofString (toString i))) H2) : tF3n b te te2 σ H Q := k
end
section
variable {X : Cx}
noncomputable def mEq1T (K : Frag) : R2 := fun x y H Q => ∃ (a b : Addr) (u u' : V) (t t' : Trm), x = .ref a ∧ y = .ref b ∧ SqL K H a [u] ∧ SqL K H b [u'] ∧ Den K H u t.data ∧ Den K H u' t'.data ∧ t.size ≤ 70 ∧ Q (.bl (eqb t t')) H
theorem ko_eq1T (K : Frag) (hK : X.K = K) (hu : X.A.units + 150 < cLine) : OpR X (compareOp .Eq) (mEq1T K) := by
  subst hK
  intro pins s σ H x y v u Q I rx ry h
  obtain ⟨a, b, w, w', t, t', rfl, rfl, ha, hb, h, h', hz, k⟩ := h
  cases rx
  cases ry
  obtain ⟨its, rv, p1, _⟩ := I.list ha
  obtain ⟨its', rv', p2, _⟩ := I.list hb
  obtain ⟨z, rfl, rz⟩ := rv.one
  obtain ⟨z', rfl, rz'⟩ := rv'.one
  refine SeqAt.eq_listAt (e := fun _ => eqb t t') p1.isList p2.isList rfl (by omega) (fun j h1 h2 => ?_) ?_
  · have hj : j = 0 := by have : j < 1 := h1; omega
    subst hj
    exact eqAt_trm I 70 X.A.in1 t t' w w' z z' hz (by show X.A.units + 1 + 2 * 70 + 4 < cLine; omega) h h' rz rz'
  · have e : (List.range (#[z] : Array Value).size).all (fun _ => eqb t t') = eqb t t' := by simp [List.range, List.range.loop]
    show EP X pins σ Q (.bool ((List.range (#[z] : Array Value).size).all (fun _ => eqb t t'))) s
    rw [e]
    exact ⟨.bl _, H, I, rfl, k⟩
theorem mEq1T_i {K : Frag} {H : Hp} {Q : VK} {a b : Addr} {u u' : V} {t t' : Trm} (ha : SqL K H a [u]) (hb : SqL K H b [u']) (h : Den K H u t.data) (h' : Den K H u' t'.data) (hz : t.size ≤ 70) (k : Q (.bl (eqb t t')) H) : mEq1T K (.ref a) (.ref b) H Q := ⟨a, b, u, u', t, t', rfl, rfl, ha, hb, h, h', hz, k⟩
end
end L2
set_option Elab.async false
set_option linter.all false
set_option maxRecDepth 100000
set_option maxHeartbeats 4000000
namespace My
open PySem PySem.Spec PyProof.Rows L2
mutual
noncomputable def ord : Trm → List Str → List Str
  | .any x, a => if x ∈ a then a else a ++ [x]
  | .num _, a => a
  | .app _ ks, a => ordL ks a
noncomputable def ordL : List Trm → List Str → List Str
  | [], a => a
  | k :: ks, a => ordL ks (ord k a)
end
mutual
noncomputable def ren (f : Str → Str) : Trm → Trm
  | .any x => .any (f x)
  | .num m => .num m
  | .app s ks => .app s (renL f ks)
noncomputable def renL (f : Str → Str) : List Trm → List Trm
  | [] => []
  | k :: ks => ren f k :: renL f ks
end
mutual
noncomputable def vars : Trm → List Str
  | .any x => [x]
  | .num _ => []
  | .app _ ks => varsL ks
noncomputable def varsL : List Trm → List Str
  | [] => []
  | k :: ks => vars k ++ varsL ks
end
theorem ordL_app : ∀ (a b : List Trm) (acc : List Str), ordL (a ++ b) acc = ordL b (ordL a acc)
  | [], b, acc => by rw [List.nil_append, ordL]
  | k :: a, b, acc => by rw [List.cons_append, ordL, ordL, ordL_app a b]
theorem ordL_one (t : Trm) (acc : List Str) : ordL [t] acc = ord t acc := by rw [ordL, ordL]
mutual
theorem ord_mem : ∀ (t : Trm) (a : List Str) (x : Str), x ∈ ord t a ↔ x ∈ a ∨ x ∈ vars t
  | .any y, a, x => by
    rw [ord, vars]
    split
    · rename_i h
      constructor
      · exact .inl
      · rintro (z | z)
        · exact z
        · rw [List.mem_singleton.mp z]; exact h
    · rw [List.mem_append]
  | .num _, a, x => by rw [ord, vars]; simp
  | .app _ ks, a, x => by rw [ord, vars]; exact ordL_mem ks a x
theorem ordL_mem : ∀ (ts : List Trm) (a : List Str) (x : Str), x ∈ ordL ts a ↔ x ∈ a ∨ x ∈ varsL ts
  | [], a, x => by rw [ordL, varsL]; simp
  | k :: ks, a, x => by rw [ordL, varsL, ordL_mem ks, ord_mem k, List.mem_append, or_assoc]
end
mutual
theorem ord_nod : ∀ (t : Trm) (a : List Str), a.Nodup → (ord t a).Nodup
  | .any y, a, h => by
    rw [ord]
    split
    · exact h
    · rename_i hy
      exact List.nodup_append.mpr ⟨h, by simp, fun u hu v hv e => hy (by rw [← List.mem_singleton.mp hv, ← e]; exact hu)⟩
  | .num _, a, h => by rw [ord]; exact h
  | .app _ ks, a, h => by rw [ord]; exact ordL_nod ks a h
theorem ordL_nod : ∀ (ts : List Trm) (a : List Str), a.Nodup → (ordL ts a).Nodup
  | [], a, h => by rw [ordL]; exact h
  | k :: ks, a, h => by rw [ordL]; exact ordL_nod ks _ (ord_nod k a h)
end
mutual
theorem ord_len : ∀ (t : Trm) (a : List Str), (ord t a).length ≤ a.length + t.size
  | .any y, a => by
    rw [ord]
    split
    · omega
    · rw [List.length_append]; simp [Trm.size]
  | .num _, a => by rw [ord]; omega
  | .app _ ks, a => by rw [ord]; have := ordL_len ks a; simp only [Trm.size]; omega
theorem ordL_len : ∀ (ts : List Trm) (a : List Str), (ordL ts a).length ≤ a.length + Trm.sizeL ts
  | [], a => by rw [ordL]; omega
  | k :: ks, a => by
    rw [ordL]
    have h1 := ord_len k a
    have h2 := ordL_len ks (ord k a)
    simp only [Trm.sizeL]
    omega
end
mutual
theorem ren_congr : ∀ (t : Trm) (f g : Str → Str), (∀ x ∈ vars t, f x = g x) → ren f t = ren g t
  | .any y, f, g, h => by rw [ren, ren, h y (by simp [vars])]
  | .num _, f, g, h => by rw [ren, ren]
  | .app s ks, f, g, h => by rw [ren, ren, renL_congr ks f g (by simpa only [vars] using h)]
theorem renL_congr : ∀ (ts : List Trm) (f g : Str → Str), (∀ x ∈ varsL ts, f x = g x) → renL f ts = renL g ts
  | [], f, g, h => by rw [renL, renL]
  | k :: ks, f, g, h => by
    rw [renL, renL, ren_congr k f g (fun x hx => h x (by rw [varsL]; exact List.mem_append.mpr (.inl hx))), renL_congr ks f g (fun x hx => h x (by rw [varsL]; exact List.mem_append.mpr (.inr hx)))]
end
mutual
theorem ren_comp : ∀ (t : Trm) (f g : Str → Str), ren f (ren g t) = ren (fun x => f (g x)) t
  | .any y, f, g => by rw [ren, ren, ren]
  | .num _, f, g => by rw [ren, ren, ren]
  | .app s ks, f, g => by rw [ren, ren, ren, renL_comp ks f g]
theorem renL_comp : ∀ (ts : List Trm) (f g : Str → Str), renL f (renL g ts) = renL (fun x => f (g x)) ts
  | [], f, g => by rw [renL, renL, renL]
  | k :: ks, f, g => by rw [renL, renL, renL, ren_comp k f g, renL_comp ks f g]
end
mutual
theorem ren_size : ∀ (t : Trm) (f : Str → Str), (ren f t).size = t.size
  | .any y, f => by rw [ren, Trm.size, Trm.size]
  | .num _, f => by rw [ren]
  | .app s ks, f => by rw [ren, Trm.size, Trm.size, renL_size ks f]
theorem renL_size : ∀ (ts : List Trm) (f : Str → Str), Trm.sizeL (renL f ts) = Trm.sizeL ts
  | [], f => by rw [renL]
  | k :: ks, f => by rw [renL, Trm.sizeL, Trm.sizeL, ren_size k f, renL_size ks f]
end
mutual
theorem vars_ren : ∀ (t : Trm) (f : Str → Str), vars (ren f t) = (vars t).map f
  | .any y, f => by rw [ren, vars, vars]; rfl
  | .num _, f => by rw [ren, vars]; rfl
  | .app s ks, f => by rw [ren, vars, vars]; exact varsL_ren ks f
theorem varsL_ren : ∀ (ts : List Trm) (f : Str → Str), varsL (renL f ts) = (varsL ts).map f
  | [], f => by rw [renL, varsL]; rfl
  | k :: ks, f => by rw [renL, varsL, varsL, List.map_append, vars_ren k f, varsL_ren ks f]
end
theorem renL_map (f : Str → Str) : ∀ ts : List Trm, renL f ts = ts.map (ren f)
  | [] => by rw [renL]; rfl
  | k :: ks => by rw [renL, renL_map f ks]; rfl
noncomputable def InjS (f : Str → Str) (S : List Str) : Prop := ∀ x ∈ S, ∀ y ∈ S, f x = f y → x = y
mutual
theorem ord_ren : ∀ (t : Trm) (f : Str → Str) (S a : List Str), InjS f S → (∀ x ∈ a, x ∈ S) → (∀ x ∈ vars t, x ∈ S) → ord (ren f t) (a.map f) = (ord t a).map f
  | .any y, f, S, a, hi, ha, ht => by
    rw [ren, ord, ord]
    by_cases h : y ∈ a
    · rw [if_pos (List.mem_map.mpr ⟨y, h, rfl⟩), if_pos h]
    · rw [if_neg (fun z => ?_), if_neg h, List.map_append]
      · rfl
      · obtain ⟨x, hx, e⟩ := List.mem_map.mp z
        exact h (by rw [← hi x (ha x hx) y (ht y (by simp [vars])) e]; exact hx)
  | .num _, f, S, a, hi, ha, ht => by rw [ren, ord, ord]
  | .app s ks, f, S, a, hi, ha, ht => by rw [ren, ord, ord]; exact ordL_ren ks f S a hi ha (by simpa only [vars] using ht)
theorem ordL_ren : ∀ (ts : List Trm) (f : Str → Str) (S a : List Str), InjS f S → (∀ x ∈ a, x ∈ S) → (∀ x ∈ varsL ts, x ∈ S) → ordL (renL f ts) (a.map f) = (ordL ts a).map f
  | [], f, S, a, hi, ha, ht => by rw [renL, ordL, ordL]
  | k :: ks, f, S, a, hi, ha, ht => by
    have h1 : ∀ x ∈ vars k, x ∈ S := fun x hx => ht x (by rw [varsL]; exact List.mem_append.mpr (.inl hx))
    have h2 : ∀ x ∈ varsL ks, x ∈ S := fun x hx => ht x (by rw [varsL]; exact List.mem_append.mpr (.inr hx))
    rw [renL, ordL, ordL, ord_ren k f S a hi ha h1]
    refine ordL_ren ks f S (ord k a) hi (fun x hx => ?_) h2
    rcases (ord_mem k a x).mp hx with z | z
    · exact ha x z
    · exact h1 x z
end
noncomputable abbrev As := List (Str × Str)
noncomputable def encS (as : As) : List (Key × V) := as.map fun r => (Sum.inr r.1, V.str r.2)
noncomputable def sub (as : As) (x : Str) : Str := ((as.find? fun r => decide (r.1 = x)).map (·.2)).getD x
theorem enc_len (as : As) : (encS as).length = as.length := by simp [encS]
theorem val_enc : ∀ (as : As) (x : Str), valV (encS as) (Sum.inr x) = ((as.find? fun r => decide (r.1 = x)).map (·.2)).map V.str
  | [], x => rfl
  | r :: as, x => by
    by_cases e : r.1 = x
    · rw [show encS (r :: as) = (Sum.inr r.1, V.str r.2) :: encS as from rfl, valV_pos (by show Sum.inr r.1 = Sum.inr x; rw [e]), List.find?_cons, decide_eq_true e]
      rfl
    · rw [show encS (r :: as) = (Sum.inr r.1, V.str r.2) :: encS as from rfl, valV_neg (fun z => e (Sum.inr.inj z)), List.find?_cons, decide_eq_false e, val_enc as x]
theorem find_none {as : As} {x : Str} (h : x ∉ as.map (·.1)) : (as.find? fun r => decide (r.1 = x)) = none := by
  rw [List.find?_eq_none]
  intro r hr e
  exact h (List.mem_map.mpr ⟨r, hr, of_decide_eq_true e⟩)
theorem find_some {as : As} {x : Str} (h : x ∈ as.map (·.1)) : ∃ y, (as.find? fun r => decide (r.1 = x)) = some (x, y) := by
  cases e : as.find? fun r => decide (r.1 = x) with
  | none =>
    obtain ⟨r, hr, z⟩ := List.mem_map.mp h
    exact absurd (decide_eq_true z) (List.find?_eq_none.mp e r hr)
  | some r =>
    have h2 : decide (r.1 = x) = true := List.find?_some (p := fun r : Str × Str => decide (r.1 = x)) e
    have := of_decide_eq_true h2
    exact ⟨r.2, by rw [← this]⟩
theorem val_sub {as : As} {x : Str} (h : x ∈ as.map (·.1)) : valV (encS as) (Sum.inr x) = some (.str (sub as x)) := by
  obtain ⟨y, e⟩ := find_some h
  rw [val_enc, sub, e]
  rfl
theorem val_getD (as : As) (x : Str) : (valV (encS as) (Sum.inr x)).getD (.str x) = .str (sub as x) := by
  rw [val_enc, sub]
  cases as.find? fun r => decide (r.1 = x) <;> rfl
theorem val_new {as : As} {x : Str} (h : x ∉ as.map (·.1)) : valV (encS as) (Sum.inr x) = none := by rw [val_enc, find_none h]; rfl
theorem put_enc {as : As} {x y : Str} (h : x ∉ as.map (·.1)) : putK (encS as) (Sum.inr x) (.str y) = encS (as ++ [(x, y)]) := by
  rw [putK_new _ (val_new h), encS, encS, List.map_append]
  rfl
noncomputable def mkA (f : Nat → Str → Str) : Nat → List Str → As
  | _, [] => []
  | i, x :: u => (x, f i x) :: mkA f (i + 1) u
theorem mkA_keys (f : Nat → Str → Str) : ∀ (i : Nat) (u : List Str), (mkA f i u).map (·.1) = u
  | _, [] => rfl
  | i, x :: u => by rw [mkA, List.map_cons, mkA_keys f (i + 1) u]
theorem mkA_len (f : Nat → Str → Str) (i : Nat) (u : List Str) : (mkA f i u).length = u.length := by
  rw [← List.length_map (f := fun r : Str × Str => r.1), mkA_keys]
theorem mkA_snoc (f : Nat → Str → Str) : ∀ (i : Nat) (u : List Str) (x : Str), mkA f i (u ++ [x]) = mkA f i u ++ [(x, f (i + u.length) x)]
  | i, [], x => rfl
  | i, y :: u, x => by
    rw [List.cons_append, mkA, mkA, mkA_snoc f (i + 1) u x, List.cons_append, List.length_cons]
    rw [show i + 1 + u.length = i + (u.length + 1) by omega]
theorem sub_mkA (f : Nat → Str → Str) : ∀ (u : List Str) (i j : Nat) (x : Str), u.Nodup → u[j]? = some x → sub (mkA f i u) x = f (i + j) x
  | [], i, j, x, hn, h => by simp at h
  | y :: u, i, 0, x, hn, h => by
    simp only [List.getElem?_cons_zero, Option.some.injEq] at h
    subst h
    rw [mkA, sub, List.find?_cons, decide_eq_true rfl]
    rfl
  | y :: u, i, j + 1, x, hn, h => by
    have h' : u[j]? = some x := by simpa using h
    have hne : ¬ y = x := fun e => by
      subst e
      exact (List.nodup_cons.mp hn).1 (List.mem_of_getElem? h')
    have := sub_mkA f u (i + 1) j x (List.nodup_cons.mp hn).2 h'
    rw [sub] at this
    rw [mkA, sub, List.find?_cons, decide_eq_false hne, this, show i + 1 + j = i + (j + 1) by omega]
theorem mem_idx {u : List Str} {x : Str} (h : x ∈ u) : ∃ j : Nat, u[j]? = some x := List.mem_iff_getElem?.mp h
noncomputable def tn (n : Nat) : Str := ⟨(figsOf n).toArray⟩
theorem figs_inj : ∀ (m n : Nat), figsOf m = figsOf n → m = n := by
  intro m
  induction m using Nat.strongRecOn with
  | ind m ih =>
    intro n h
    by_cases hm : m < 10
    · by_cases hn : n < 10
      · rw [figs_lt hm, figs_lt hn] at h
        have : 48 + m = 48 + n := by simpa using h
        omega
      · rw [figs_lt hm, figs_ge (by omega)] at h
        have e := congrArg List.length h
        obtain ⟨_, x, r, e2, _⟩ := figs_ok (n / 10)
        rw [e2] at e
        simp at e
    · by_cases hn : n < 10
      · rw [figs_lt hn, figs_ge (by omega)] at h
        have e := congrArg List.length h
        obtain ⟨_, x, r, e2, _⟩ := figs_ok (m / 10)
        rw [e2] at e
        simp at e
      · rw [figs_ge (by omega : 10 ≤ m), figs_ge (by omega : 10 ≤ n)] at h
        obtain ⟨e1, e2⟩ := List.append_inj' h rfl
        have e3 := ih (m / 10) (by omega) _ e1
        have e4 : 48 + m % 10 = 48 + n % 10 := by simpa using e2
        omega
theorem tn_inj {m n : Nat} (h : tn m = tn n) : m = n := by
  have : (figsOf m).toArray = (figsOf n).toArray := congrArg Str.cps h
  exact figs_inj m n (by simpa using congrArg Array.toList this)
theorem str_left {a x y : Str} (h : a ++ x = a ++ y) : x = y := by
  have : a.cps ++ x.cps = a.cps ++ y.cps := congrArg Str.cps h
  have := congrArg Array.toList this
  rw [Array.toList_append, Array.toList_append] at this
  exact Str.ext' (Array.ext' (List.append_cancel_left this))
theorem str_right {a x y : Str} (h : x ++ a = y ++ a) : x = y := by
  have : x.cps ++ a.cps = y.cps ++ a.cps := congrArg Str.cps h
  have := congrArg Array.toList this
  rw [Array.toList_append, Array.toList_append] at this
  exact Str.ext' (Array.ext' (List.append_cancel_right this))
noncomputable def canon (f : Nat → Nat → Str) (t : Trm) : Trm := ren (sub (mkA (fun j _ => f (ord t []).length j) 0 (ord t []))) t
noncomputable def Sep (f : Nat → Nat → Str) : Prop := ∀ n i j, i < n → j < n → f n i = f n j → i = j
theorem sub_at (f : Nat → Str → Str) {u : List Str} (hn : u.Nodup) {j : Nat} {x : Str} (h : u[j]? = some x) : sub (mkA f 0 u) x = f j x := by
  rw [sub_mkA f u 0 j x hn h, Nat.zero_add]
theorem sub_inj {f : Nat → Nat → Str} (hf : Sep f) {u : List Str} (hn : u.Nodup) : InjS (sub (mkA (fun j _ => f u.length j) 0 u)) u := by
  intro x hx y hy e
  obtain ⟨i, hi⟩ := mem_idx hx
  obtain ⟨j, hj⟩ := mem_idx hy
  rw [sub_at _ hn hi, sub_at _ hn hj] at e
  have l1 := (List.getElem?_eq_some_iff.mp hi).1
  have l2 := (List.getElem?_eq_some_iff.mp hj).1
  have := hf _ _ _ l1 l2 e
  subst this
  rw [hi] at hj
  exact Option.some.inj hj
theorem nod0 (t : Trm) : (ord t []).Nodup := ord_nod t [] (by simp)
theorem var_ord {t : Trm} {x : Str} (h : x ∈ vars t) : x ∈ ord t [] := (ord_mem t [] x).mpr (.inr h)
theorem ord_var {t : Trm} {x : Str} (h : x ∈ ord t []) : x ∈ vars t := by
  rcases (ord_mem t [] x).mp h with z | z
  · simp at z
  · exact z
theorem sub_map (f : Nat → Str → Str) {u : List Str} (hn : u.Nodup) : u.map (sub (mkA f 0 u)) = (List.range u.length).map (fun j => f j (u.getD j Str.empty)) := by
  apply List.ext_getElem?
  intro j
  rw [List.getElem?_map, List.getElem?_map]
  by_cases hj : j < u.length
  · rw [List.getElem?_eq_getElem hj, List.getElem?_range hj]
    show some (sub (mkA f 0 u) u[j]) = some (f j (u.getD j Str.empty))
    rw [sub_at f hn (List.getElem?_eq_getElem hj), List.getD_eq_getElem?_getD, List.getElem?_eq_getElem hj]
    rfl
  · rw [List.getElem?_eq_none (by omega), List.getElem?_eq_none (by rw [List.length_range]; omega)]
    rfl
theorem canon_ord {f : Nat → Nat → Str} (hf : Sep f) (t : Trm) : ord (canon f t) [] = (List.range (ord t []).length).map (f (ord t []).length) := by
  have h := ord_ren t (sub (mkA (fun j _ => f (ord t []).length j) 0 (ord t []))) (ord t []) [] (sub_inj hf (nod0 t)) (fun x hx => by simp at hx) (fun x hx => var_ord hx)
  rw [List.map_nil] at h
  rw [canon, h, sub_map _ (nod0 t)]
noncomputable def swp (f g : Nat → Nat → Str) (n : Nat) : Str → Str := sub ((List.range n).map fun j => (f n j, g n j))
theorem swp_at {f g : Nat → Nat → Str} (hf : Sep f) {n j : Nat} (hj : j < n) : swp f g n (f n j) = g n j := by
  have e : ((List.range n).map fun j => (f n j, g n j)) = mkA (fun j _ => g n j) 0 ((List.range n).map (f n)) := by
    have : ∀ (k m i : Nat), k = m → (List.range' i k).map (fun j => (f n j, g n j)) = mkA (fun j _ => g n j) i ((List.range' i m).map (f n)) := by
      intro k
      induction k with
      | zero => intro m i h; subst h; rfl
      | succ k ih =>
        intro m i h
        subst h
        rw [List.range'_succ, List.map_cons, List.map_cons, mkA, ih k (i + 1) rfl]
    have := this n n 0 rfl
    rwa [← List.range_eq_range'] at this
  have hnod : ((List.range n).map (f n)).Nodup := by
    rw [List.nodup_iff_pairwise_ne, List.pairwise_map, List.pairwise_iff_getElem]
    intro a b ha hb hab z
    rw [List.length_range] at ha hb
    rw [List.getElem_range, List.getElem_range] at z
    have := hf n a b ha hb z
    omega
  rw [swp, e, sub_at _ hnod (j := j) (by rw [List.getElem?_map, List.getElem?_range hj]; rfl)]
theorem canon_swp {f g : Nat → Nat → Str} (hf : Sep f) (t : Trm) : canon g t = ren (swp f g (ord t []).length) (canon f t) := by
  rw [canon, canon, ren_comp]
  refine ren_congr t _ _ fun x hx => ?_
  obtain ⟨j, hj⟩ := mem_idx (var_ord hx)
  have hl := (List.getElem?_eq_some_iff.mp hj).1
  rw [sub_at _ (nod0 t) hj, sub_at _ (nod0 t) hj, swp_at hf hl]
theorem canon_imp {f g : Nat → Nat → Str} (hf : Sep f) {t t' : Trm} (h : canon f t = canon f t') : canon g t = canon g t' := by
  have h1 := canon_ord hf t
  have h2 := canon_ord hf t'
  rw [h, h2] at h1
  have h3 := congrArg List.length h1
  rw [List.length_map, List.length_map, List.length_range, List.length_range] at h3
  rw [canon_swp (g := g) hf t, canon_swp (g := g) hf t', h, h3]
theorem canon_ren {f : Nat → Nat → Str} {r : Str → Str} {t : Trm} (hr : InjS r (ord t [])) : canon f (ren r t) = canon f t := by
  have h := ord_ren t r (ord t []) [] hr (fun x hx => by simp at hx) (fun x hx => var_ord hx)
  rw [List.map_nil] at h
  have hn : ((ord t []).map r).Nodup := by rw [← h]; exact nod0 _
  rw [canon, canon, h, ren_comp, List.length_map]
  refine ren_congr t _ _ fun x hx => ?_
  obtain ⟨j, hj⟩ := mem_idx (var_ord hx)
  rw [sub_at _ (nod0 t) hj, sub_at _ hn (j := j) (by rw [List.getElem?_map, hj]; rfl)]
noncomputable def uS : Str := Str.ofString "U"
noncomputable def shS : Str := Str.ofString "shape "
noncomputable def dotS : Str := Str.ofString "."
noncomputable def fU (_ j : Nat) : Str := uS ++ tn (j + 1)
noncomputable def fS (n j : Nat) : Str := shS ++ tn (n - j)
theorem sepU : Sep fU := fun n i j hi hj e => by have := tn_inj (str_left e); omega
theorem sepS : Sep fS := fun n i j hi hj e => by have := tn_inj (str_left e); omega
theorem eqb_of {a b c d : Trm} (h : a = b ↔ c = d) : eqb a b = eqb c d := by
  cases e : eqb c d with
  | true => exact (eqb_iff a b).mpr (h.mpr ((eqb_iff c d).mp e))
  | false =>
    cases e2 : eqb a b with
    | false => rfl
    | true =>
      have := (eqb_iff c d).mpr (h.mp ((eqb_iff a b).mp e2))
      rw [e] at this
      cases this
theorem alike_eq (t t' : Trm) : eqb (canon fU t) (canon fU t') = eqb (canon fS t) (canon fS t') := eqb_of ⟨fun h => canon_imp sepU h, fun h => canon_imp sepS h⟩
theorem eqb_symm (a b : Trm) : eqb a b = eqb b a := eqb_of ⟨Eq.symm, Eq.symm⟩
noncomputable def mrk (n : Nat) (x : Str) : Str := x ++ dotS ++ tn n
theorem mrk_inj (n : Nat) (S : List Str) : InjS (mrk n) S := fun x _ y _ e => str_right (str_right e)
noncomputable def anew (ts : List Trm) : List Trm := renL (sub (mkA (fun j _ => uS ++ tn (j + 1)) 0 (ordL ts []))) ts
theorem anew_one (t : Trm) : anew [t] = [canon fU t] := by
  rw [anew, renL, renL, ordL_one]
  rfl
theorem take_not {u : List Str} (hn : u.Nodup) {i : Nat} (hi : i < u.length) : u[i] ∉ u.take i := fun h => by
  obtain ⟨j, hj⟩ := mem_idx h
  have hl := (List.getElem?_eq_some_iff.mp hj).1
  rw [List.length_take] at hl
  rw [List.getElem?_take_of_lt (by omega)] at hj
  have hj' := List.getElem?_eq_some_iff.mp hj
  have hp := List.pairwise_iff_getElem.mp (List.nodup_iff_pairwise_ne.mp hn) j i hj'.1 hi (by omega)
  exact hp hj'.2
theorem put_mkA (f : Nat → Str → Str) {u : List Str} (hn : u.Nodup) {i : Nat} (hi : i < u.length) {y : Str} (hy : y = f i u[i]) : putK (encS (mkA f 0 (u.take i))) (Sum.inr u[i]) (.str y) = encS (mkA f 0 (u.take (i + 1))) := by
  rw [put_enc (by rw [mkA_keys]; exact take_not hn hi), List.take_add_one, List.getElem?_eq_getElem hi]
  show _ = encS (mkA f 0 (u.take i ++ [u[i]]))
  rw [mkA_snoc, List.length_take, Nat.min_eq_left (by omega), Nat.zero_add, hy]
theorem strs_getD {u : List Str} {i : Nat} (hi : i < u.length) : (u.map V.str).getD i .non = .str u[i] := by rw [List.getD_eq_getElem?_getD, List.getElem?_map, List.getElem?_eq_getElem hi]; rfl
theorem mrk_sub {t : Trm} {n : Nat} : ren (sub (mkA (fun _ x => mrk n x) 0 (ord t []))) t = ren (mrk n) t := ren_congr t _ _ fun x hx => by
  obtain ⟨j, hj⟩ := mem_idx (var_ord hx)
  rw [sub_at _ (nod0 t) hj]
theorem nodL (ts : List Trm) : (ordL ts []).Nodup := ordL_nod ts [] (by simp)
theorem varL_ord {ts : List Trm} {x : Str} (h : x ∈ varsL ts) : x ∈ ordL ts [] := (ordL_mem ts [] x).mpr (.inr h)
theorem vars_in {ts : List Trm} {t : Trm} (h : t ∈ ts) : ∀ x ∈ vars t, x ∈ varsL ts := fun x hx => by
  induction ts with
  | nil => simp at h
  | cons a r ih =>
    rw [varsL, List.mem_append]
    rcases List.mem_cons.mp h with z | z
    · subst z; exact .inl hx
    · exact .inr (ih z)
end My
set_option Elab.async false
set_option linter.all false
set_option maxRecDepth 100000
set_option maxHeartbeats 4000000
namespace My
open PySem PySem.Spec PyProof.Rows L2
local macro_rules | `(tactic| walk_at "stq") => `(tactic| first | refine tAsg_i ?_ | refine gName_i ?_ | refine tRet_i ?_ | refine tIfS_i ?_ | refine tNext_i ?_ | refine tDrop_i ?_ | refine mTest_i ?_ | refine mTrue_i ?_ | refine mTru_b ?_ | refine mB_i ?_ | refine tOp_i ?_ | refine tUn_i ?_ | refine mUn_i ?_ | refine m20_i ?_ | refine mAdd_i ?_ | refine mEq_i ?_ | refine mEq_s ?_ | refine mEq_b ?_ | refine mInS_i ?_ | (refine' mVar_i ?hv ?_; (case hv => with_unfolding_all rfl)) | refine tC_i ?_ | refine mChain_i ?_ | refine mAndV_i ?_ | refine mOrV_i ?_ | refine mNotV_i ?_ | refine tIf_i ?_ | refine tAnd_i ?_ | refine tOr_i ?_ | refine tNot_i ?_ | refine tCB_i ?_ | refine tCall0_i ?_ | refine tCons_i ?_ | refine tNil_i ?_ | refine tBM_i ?_ | refine tBM0_i ?_ | refine tTup_i ?_ | refine tLst_i ?_ | refine tSl_i ?_ | refine tNoPart_i ?_ | refine mPart_i ?_ | refine mI_i ?_ | refine is_str ?_ | refine is_bool ?_ | refine is_int ?_ | refine is_int_bool ?_ | refine mMin_i ?_ | refine isN_non ?_ | refine isN_ref ?_ | refine mInt_b ?_ | refine mMax_i ?_ | refine tDGet_i ?_ | refine tDGet2_i ?_ | refine sDPut_i ?_ | refine tDisp_i ?_ | refine tPairs_c ?_ | refine tPairs_n ?_ | refine iRng2_i ?_ | refine iRev_i ?_ | refine iEnum_i ?_ | refine iSeq_i ?_ | refine mAbs_i ?_ | refine gCons_i ?_ | refine gNil_i ?_ | refine tWhile_i ?_ | (refine' mAug_i ?hw ?_; (case hw => with_unfolding_all rfl)) | refine mIAdd_i ?_ | refine tFor_i ?_ | refine tRaise_i ?_ | refine tXMake_i ?_ | refine tTry_i ?_ | refine tXGet_i ?_ | refine tBInit_i ?_ | refine tXSet_i ?_ | refine tPar_i ?_ | refine tF3i_i ?_ | refine iZip_i ?_ | refine tListRev_i ?_ | refine tF2n_i ?_ | refine tF3n_i ?_ | refine tFr_i ?_ | refine tF2_i ?_ | refine iSeq_i ?_ | refine iStr_i ?_ | refine iList_i ?_ | refine iTup_i ?_ | refine iRng1_i ?_ | refine tComp_i ?_ | (refine m2_i ?hc ?_; (case hc => first | (show (0 : Int) < _; decide) | exact cdiv_i (by decide) (by decide))))
local macro_rules | `(tactic| walk_at "stp") => `(tactic| repeat (with_reducible first | refine tSeq_i ?_ | walk_at "stq"))
local macro_rules | `(tactic| walk_at "stm") => `(tactic| repeat (with_reducible walk_at "stq"))
noncomputable def top (i : Nat) : Stmt := PySem.Challenge.pw_goaltrail_k22_names_told_anew.main.body.getD i (.Pass ⟨0, 0, 0, 0⟩)
noncomputable abbrev s_unknown : Stmt := top 1
noncomputable abbrev s_app : Stmt := top 2
noncomputable abbrev s_unknowns_of : Stmt := top 4
noncomputable abbrev s_renamed : Stmt := top 5
noncomputable abbrev s_told_anew : Stmt := top 6
noncomputable abbrev s_alike : Stmt := top 7
noncomputable abbrev s_marked : Stmt := top 8
noncomputable abbrev s_l_cell : Stmt := top 10
noncomputable abbrev s_l_names : Stmt := top 11
noncomputable abbrev s_l_number : Stmt := top 12
noncomputable abbrev s_l_sign : Stmt := top 13
noncomputable abbrev s_l_term : Stmt := top 14
noncomputable abbrev s_l_is_term : Stmt := top 15
noncomputable abbrev s_l_order : Stmt := top 16
noncomputable abbrev s_l_called : Stmt := top 17
noncomputable abbrev s_l_shape : Stmt := top 18
noncomputable abbrev s_l_other_number : Stmt := top 19
noncomputable abbrev s_l_alike : Stmt := top 20
noncomputable abbrev s_l_named : Stmt := top 21
noncomputable abbrev s_l_marked : Stmt := top 22
noncomputable abbrev s_law : Stmt := top 23
theorem sc_unknown : FnScope ["name"] ["name"] (defScope s_unknown) := ⟨rfl, rfl, rfl, by decide +kernel, rfl, by decide +kernel, by decide +kernel⟩
theorem sc_app : FnScope ["sign", "kids"] ["sign", "kids"] (defScope s_app) := ⟨rfl, rfl, rfl, by decide +kernel, rfl, by decide +kernel, by decide +kernel⟩
theorem sc_unknowns_of : FnScope ["terms", "found", "todo", "part"] ["terms"] (defScope s_unknowns_of) := ⟨rfl, rfl, rfl, by decide +kernel, rfl, by decide +kernel, by decide +kernel⟩
theorem sc_renamed : FnScope ["term", "names"] ["term", "names"] (defScope s_renamed) := ⟨rfl, rfl, rfl, by decide +kernel, rfl, by decide +kernel, by decide +kernel⟩
theorem sc_told_anew : FnScope ["terms", "names", "name", "number"] ["terms"] (defScope s_told_anew) := ⟨rfl, rfl, rfl, by decide +kernel, rfl, by decide +kernel, by decide +kernel⟩
theorem sc_alike : FnScope ["one", "other"] ["one", "other"] (defScope s_alike) := ⟨rfl, rfl, rfl, by decide +kernel, rfl, by decide +kernel, by decide +kernel⟩
theorem sc_marked : FnScope ["term", "n", "names", "name"] ["term", "n"] (defScope s_marked) := ⟨rfl, rfl, rfl, by decide +kernel, rfl, by decide +kernel, by decide +kernel⟩
theorem sc_l_cell : FnScope ["_law_script", "_law_k", "_law_number_here"] ["_law_script", "_law_k"] (defScope s_l_cell) := ⟨rfl, rfl, rfl, by decide +kernel, rfl, by decide +kernel, by decide +kernel⟩
theorem sc_l_names : FnScope ["_law_cell_here", "_law_many", "_law_first", "_law_signs", "_law_size", "_law_at", "_law_names_here", "_law_j", "_law_name", "_law_k", "_law_place"] ["_law_cell_here", "_law_many", "_law_first"] (defScope s_l_names) := ⟨rfl, rfl, rfl, by decide +kernel, rfl, by decide +kernel, by decide +kernel⟩
theorem sc_l_number : FnScope ["_law_cell_here"] ["_law_cell_here"] (defScope s_l_number) := ⟨rfl, rfl, rfl, by decide +kernel, rfl, by decide +kernel, by decide +kernel⟩
theorem sc_l_sign : FnScope ["_law_cell_here", "_law_many", "_law_words"] ["_law_cell_here", "_law_many", "_law_words"] (defScope s_l_sign) := ⟨rfl, rfl, rfl, by decide +kernel, rfl, by decide +kernel, by decide +kernel⟩
theorem sc_l_term : FnScope ["_law_cells", "_law_names_here", "_law_words", "_law_left", "_law_cell_here", "_law_many", "_law_kids"] ["_law_cells", "_law_names_here", "_law_words"] (defScope s_l_term) := ⟨rfl, rfl, rfl, by decide +kernel, rfl, by decide +kernel, by decide +kernel⟩
theorem sc_l_is_term : FnScope ["_law_thing", "_law_left", "_law_one"] ["_law_thing"] (defScope s_l_is_term) := ⟨rfl, rfl, rfl, by decide +kernel, rfl, by decide +kernel, by decide +kernel⟩
theorem sc_l_order : FnScope ["_law_terms", "_law_found", "_law_term_here"] ["_law_terms", "_law_found"] (defScope s_l_order) := ⟨rfl, rfl, rfl, by decide +kernel, rfl, by decide +kernel, by decide +kernel⟩
theorem sc_l_called : FnScope ["_law_term_here", "_law_new"] ["_law_term_here", "_law_new"] (defScope s_l_called) := ⟨rfl, rfl, rfl, by decide +kernel, rfl, by decide +kernel, by decide +kernel⟩
theorem sc_l_shape : FnScope ["_law_term_here", "_law_order_here", "_law_new", "_law_k"] ["_law_term_here"] (defScope s_l_shape) := ⟨rfl, rfl, rfl, by decide +kernel, rfl, by decide +kernel, by decide +kernel⟩
theorem sc_l_other_number : FnScope ["_law_term_here", "_law_kids", "_law_k", "_law_other"] ["_law_term_here"] (defScope s_l_other_number) := ⟨rfl, rfl, rfl, by decide +kernel, rfl, by decide +kernel, by decide +kernel⟩
theorem sc_l_alike : FnScope ["_law_one", "_law_other", "_law_due", "_law_found"] ["_law_one", "_law_other"] (defScope s_l_alike) := ⟨rfl, rfl, rfl, by decide +kernel, rfl, by decide +kernel, by decide +kernel⟩
theorem sc_l_named : FnScope ["_law_terms", "_law_due", "_law_handed", "_law_found", "_law_new", "_law_k", "_law_anew"] ["_law_terms"] (defScope s_l_named) := ⟨rfl, rfl, rfl, by decide +kernel, rfl, by decide +kernel, by decide +kernel⟩
theorem sc_l_marked : FnScope ["_law_term_here", "_law_n", "_law_new", "_law_name", "_law_found", "_law_twice"] ["_law_term_here", "_law_n"] (defScope s_l_marked) := ⟨rfl, rfl, rfl, by decide +kernel, rfl, by decide +kernel, by decide +kernel⟩
theorem sc_law : FnScope ["_law_script", "_law_names_here", "_law_words", "_law_terms", "_law_j", "_law_cells", "_law_last", "_law_term_here", "_law_turned", "_law_k", "_law_lost", "_law_others", "_law_other"] ["_law_script"] (defScope s_law) := ⟨rfl, rfl, rfl, by decide +kernel, rfl, by decide +kernel, by decide +kernel⟩
set_option genInjectivity false in
structure Ad where
  a_unknown : Addr
  d_unknown : FuncData
  a_app : Addr
  d_app : FuncData
  a_unknowns_of : Addr
  d_unknowns_of : FuncData
  a_renamed : Addr
  d_renamed : FuncData
  a_told_anew : Addr
  d_told_anew : FuncData
  a_alike : Addr
  d_alike : FuncData
  a_marked : Addr
  d_marked : FuncData
  a_l_cell : Addr
  d_l_cell : FuncData
  a_l_names : Addr
  d_l_names : FuncData
  a_l_number : Addr
  d_l_number : FuncData
  a_l_sign : Addr
  d_l_sign : FuncData
  a_l_term : Addr
  d_l_term : FuncData
  a_l_is_term : Addr
  d_l_is_term : FuncData
  a_l_order : Addr
  d_l_order : FuncData
  a_l_called : Addr
  d_l_called : FuncData
  a_l_shape : Addr
  d_l_shape : FuncData
  a_l_other_number : Addr
  d_l_other_number : FuncData
  a_l_alike : Addr
  d_l_alike : FuncData
  a_l_named : Addr
  d_l_named : FuncData
  a_l_marked : Addr
  d_l_marked : FuncData
  a_law : Addr
  d_law : FuncData
structure Txt (K : PySem.W.Frag) (mg : Str → Option Value) (t : Ad) : Prop where
  F_unknown : Fun K "unknown" "unknown" s_unknown t.a_unknown t.d_unknown
  b_unknown : Binds K t.d_unknown ["name"] []
  m_unknown : mg "unknown" = some (.ref t.a_unknown)
  F_app : Fun K "app" "app" s_app t.a_app t.d_app
  b_app : Binds K t.d_app ["sign", "kids"] []
  m_app : mg "app" = some (.ref t.a_app)
  F_unknowns_of : Fun K "unknowns_of" "unknowns_of" s_unknowns_of t.a_unknowns_of t.d_unknowns_of
  b_unknowns_of : Binds K t.d_unknowns_of ["terms"] []
  m_unknowns_of : mg "unknowns_of" = some (.ref t.a_unknowns_of)
  F_renamed : Fun K "renamed" "renamed" s_renamed t.a_renamed t.d_renamed
  b_renamed : Binds K t.d_renamed ["term", "names"] []
  m_renamed : mg "renamed" = some (.ref t.a_renamed)
  F_told_anew : Fun K "told_anew" "told_anew" s_told_anew t.a_told_anew t.d_told_anew
  b_told_anew : Binds K t.d_told_anew ["terms"] []
  m_told_anew : mg "told_anew" = some (.ref t.a_told_anew)
  F_alike : Fun K "alike" "alike" s_alike t.a_alike t.d_alike
  b_alike : Binds K t.d_alike ["one", "other"] []
  m_alike : mg "alike" = some (.ref t.a_alike)
  F_marked : Fun K "marked" "marked" s_marked t.a_marked t.d_marked
  b_marked : Binds K t.d_marked ["term", "n"] []
  m_marked : mg "marked" = some (.ref t.a_marked)
  F_l_cell : Fun K "_law_cell" "_law_cell" s_l_cell t.a_l_cell t.d_l_cell
  b_l_cell : Binds K t.d_l_cell ["_law_script", "_law_k"] []
  m_l_cell : mg "_law_cell" = some (.ref t.a_l_cell)
  F_l_names : Fun K "_law_names" "_law_names" s_l_names t.a_l_names t.d_l_names
  b_l_names : Binds K t.d_l_names ["_law_cell_here", "_law_many", "_law_first"] []
  m_l_names : mg "_law_names" = some (.ref t.a_l_names)
  F_l_number : Fun K "_law_number" "_law_number" s_l_number t.a_l_number t.d_l_number
  b_l_number : Binds K t.d_l_number ["_law_cell_here"] []
  m_l_number : mg "_law_number" = some (.ref t.a_l_number)
  F_l_sign : Fun K "_law_sign" "_law_sign" s_l_sign t.a_l_sign t.d_l_sign
  b_l_sign : Binds K t.d_l_sign ["_law_cell_here", "_law_many", "_law_words"] []
  m_l_sign : mg "_law_sign" = some (.ref t.a_l_sign)
  F_l_term : Fun K "_law_term" "_law_term" s_l_term t.a_l_term t.d_l_term
  b_l_term : Binds K t.d_l_term ["_law_cells", "_law_names_here", "_law_words"] []
  m_l_term : mg "_law_term" = some (.ref t.a_l_term)
  F_l_is_term : Fun K "_law_is_term" "_law_is_term" s_l_is_term t.a_l_is_term t.d_l_is_term
  b_l_is_term : Binds K t.d_l_is_term ["_law_thing"] []
  m_l_is_term : mg "_law_is_term" = some (.ref t.a_l_is_term)
  F_l_order : Fun K "_law_order" "_law_order" s_l_order t.a_l_order t.d_l_order
  b_l_order : Binds K t.d_l_order ["_law_terms", "_law_found"] []
  m_l_order : mg "_law_order" = some (.ref t.a_l_order)
  F_l_called : Fun K "_law_called" "_law_called" s_l_called t.a_l_called t.d_l_called
  b_l_called : Binds K t.d_l_called ["_law_term_here", "_law_new"] []
  m_l_called : mg "_law_called" = some (.ref t.a_l_called)
  F_l_shape : Fun K "_law_shape" "_law_shape" s_l_shape t.a_l_shape t.d_l_shape
  b_l_shape : Binds K t.d_l_shape ["_law_term_here"] []
  m_l_shape : mg "_law_shape" = some (.ref t.a_l_shape)
  F_l_other_number : Fun K "_law_other_number" "_law_other_number" s_l_other_number t.a_l_other_number t.d_l_other_number
  b_l_other_number : Binds K t.d_l_other_number ["_law_term_here"] []
  m_l_other_number : mg "_law_other_number" = some (.ref t.a_l_other_number)
  F_l_alike : Fun K "_law_alike" "_law_alike" s_l_alike t.a_l_alike t.d_l_alike
  b_l_alike : Binds K t.d_l_alike ["_law_one", "_law_other"] []
  m_l_alike : mg "_law_alike" = some (.ref t.a_l_alike)
  F_l_named : Fun K "_law_named" "_law_named" s_l_named t.a_l_named t.d_l_named
  b_l_named : Binds K t.d_l_named ["_law_terms"] []
  m_l_named : mg "_law_named" = some (.ref t.a_l_named)
  F_l_marked : Fun K "_law_marked" "_law_marked" s_l_marked t.a_l_marked t.d_l_marked
  b_l_marked : Binds K t.d_l_marked ["_law_term_here", "_law_n"] []
  m_l_marked : mg "_law_marked" = some (.ref t.a_l_marked)
  F_law : Fun K "law" "law" s_law t.a_law t.d_law
  b_law : Binds K t.d_law ["_law_script"] []
  m_law : mg "law" = some (.ref t.a_law)
  n_bool : mg "bool" = none
  n_int : mg "int" = none
  n_isinstance : mg "isinstance" = none
  n_len : mg "len" = none
  n_list : mg "list" = none
  n_min : mg "min" = none
  n_range : mg "range" = none
  n_reversed : mg "reversed" = none
  n_str : mg "str" = none
  n_tuple : mg "tuple" = none
theorem em_eq : Str.ofString "" = ⟨([] : List Nat).toArray⟩ := by decide +kernel
theorem cell_bits {B : Nat} {x c : Int} (h : x.natAbs < 2 ^ B) (g : c.natAbs < 8388608) : (c + 31337 * x).natAbs < 2 ^ (B + 24) := by
  have h1 := Int.natAbs_add_le c (31337 * x)
  have h2 : (31337 * x).natAbs = 31337 * x.natAbs := Int.natAbs_mul 31337 x
  rw [Nat.pow_add]
  have h3 := Nat.two_pow_pos B
  generalize 2 ^ B = M at *
  rw [h2] at h1
  have h4 : M * 2 ^ 24 = 16777216 * M := by rw [Nat.mul_comm]
  omega
noncomputable abbrev sp_l_cell (K : PySem.W.Frag) : Sp := fun vs H Q _ => match vs with | [.ref a, .int k] => ∃ ns : List Int, SqL K H a (ns.map V.int) ∧ (∀ n ∈ ns, Builtin.Int.intBits n ≤ 1048576) ∧ 0 ≤ k ∧ k ≤ 1000 ∧ ∀ v, Q (.int v) H | _ => False
noncomputable abbrev sp_l_number : Sp := fun vs H Q _ => match vs with | [.int c] => ∀ v, Q (.int v) H | _ => False
noncomputable abbrev sp_l_names (K : PySem.W.Frag) : Sp := fun vs H Q _ => match vs with | [.int c, .int m, .str first] => 1 ≤ m ∧ m ≤ 9 ∧ first.length = 26 ∧ first.cps.toList.Nodup ∧ ∀ (p : Addr) (xs : List Str) (H' : Hp), xs.length = m.toNat → xs.Nodup → (∀ x ∈ xs, x.length ≤ 30) → Same H H' → H' p = some (.lst (xs.map V.str)) → Q (.ref p) H' | _ => False
noncomputable abbrev sp_l_sign (K : PySem.W.Frag) : Sp := fun vs H Q _ => match vs with | [.int c, .int m, .ref wp] => ∃ ws : List Str, SqL K H wp (ws.map V.str) ∧ 1 ≤ ws.length ∧ ws.length ≤ 10 ∧ (∀ x ∈ ws, x.length ≤ 30) ∧ ∀ (x : Str) (H' : Hp), x.length ≤ 30 → Same H H' → Q (.str x) H' | _ => False
mutual
noncomputable def vin (xs : List Str) : Trm → Prop
  | .num _ => True
  | .any x => x ∈ xs
  | .app _ ks => vinL xs ks
noncomputable def vinL (xs : List Str) : List Trm → Prop
  | [] => True
  | t :: r => vin xs t ∧ vinL xs r
end
theorem vinL_iff {xs : List Str} : ∀ {ts : List Trm}, vinL xs ts ↔ ∀ t ∈ ts, vin xs t
  | [] => ⟨fun _ _ h => by simp at h, fun _ => by simp [vinL]⟩
  | t :: r => by
    simp only [vinL, List.mem_cons, forall_eq_or_imp]
    exact and_congr_right fun _ => vinL_iff
noncomputable abbrev sp_l_term (K : PySem.W.Frag) : Sp := fun vs H Q _ => match vs with | [.ref cp, .ref np, .ref wp] => ∃ (cs : List Int) (xs ws : List Str), SqL K H cp (cs.map V.int) ∧ cs.length ≤ 40 ∧ SqL K H np (xs.map V.str) ∧ 1 ≤ xs.length ∧ xs.length ≤ 20 ∧ SqL K H wp (ws.map V.str) ∧ 1 ≤ ws.length ∧ ws.length ≤ 10 ∧ (∀ x ∈ ws, x.length ≤ 30) ∧ ∀ (x : V) (t : Trm) (H' : Hp), Same H H' → Den K H' x t.data → vin xs t → t.size ≤ 2 * cs.length + 1 → Q x H' | _ => False
theorem nodup_range_map {f : Nat → Str} : ∀ (m : Nat), (∀ i j, i < m → j < m → f i = f j → i = j) → ((List.range m).map f).Nodup
  | 0, _ => by simp
  | m + 1, h => by
    rw [List.range_succ, List.map_append]
    refine List.nodup_append.mpr ⟨nodup_range_map m fun i j hi hj e => h i j (by omega) (by omega) e, by simp, fun a ha b hb e => ?_⟩
    obtain ⟨i, hi, rfl⟩ := List.mem_map.mp ha
    have hb : b = f m := by simpa using hb
    have := h i m (by have := List.mem_range.mp hi; omega) (by omega) (e.trans hb)
    have := List.mem_range.mp hi
    omega
theorem tail_nodup : tailS.cps.toList.Nodup := by decide +kernel
theorem getD_inj {l : List Nat} (h : l.Nodup) {i j : Nat} (hi : i < l.length) (hj : j < l.length) (e : l.getD i 0 = l.getD j 0) : i = j := by
  rw [List.getD_eq_getElem?_getD, List.getD_eq_getElem?_getD, List.getElem?_eq_getElem hi, List.getElem?_eq_getElem hj] at e
  have e : l[i] = l[j] := e
  have hp := List.pairwise_iff_getElem.mp h
  rcases Nat.lt_trichotomy i j with z | z | z
  · exact absurd e (hp i j hi hj z)
  · exact z
  · exact absurd e.symm (hp j i hj hi z)
noncomputable def plc (c : Int) (at_ k j : Nat) : Int := c / (7 * (k : Int) + 11) + k + (j : Int) * (if k = at_ then 1 else 0)
noncomputable def chN (c : Int) (first : List Nat) (at_ : Nat) (j k : Nat) : Nat := if k = 0 then first.getD (plc c at_ k j % 26).toNat 0 else tailS.cps.toList.getD (plc c at_ k j % 62).toNat 0
noncomputable def nm3 (c : Int) (first : List Nat) (at_ size : Nat) (j : Nat) : Str := ⟨((List.range size).map (chN c first at_ j)).toArray⟩
theorem st_inj' {x y : List Nat} (h : (⟨x.toArray⟩ : Str) = ⟨y.toArray⟩) : x = y := by
  have h := congrArg (fun s : Str => s.cps.toList) h
  simpa using h
theorem nm3_inj {c : Int} {first : List Nat} {at_ size i j : Nat} (hf : first.Nodup) (hl : first.length = 26) (ha : at_ < size) (hi : i < 9) (hj : j < 9) (e : nm3 c first at_ size i = nm3 c first at_ size j) : i = j := by
  have e := congrArg (fun l => l[at_]?) (st_inj' e)
  simp only [List.getElem?_map, List.getElem?_range ha, Option.map_some, Option.some.injEq] at e
  have l62 : tailS.cps.toList.length = 62 := by decide +kernel
  unfold chN plc at e
  rw [if_pos rfl] at e
  by_cases h0 : at_ = 0
  · rw [if_pos h0, if_pos h0] at e
    have := getD_inj hf (by omega) (by omega) e
    omega
  · rw [if_neg h0, if_neg h0] at e
    have := getD_inj tail_nodup (by omega) (by omega) e
    omega
theorem atI_getD {l : List Nat} {i : Int} (h0 : 0 ≤ i) (h1 : i < (l.length : Int)) : atI l i = some (l.getD i.toNat 0) := by
  obtain ⟨v, e1, e2⟩ := atI_lt h0 h1
  rw [e1, List.getD_eq_getElem?_getD, e2]
  rfl
theorem strs_at {xs : List Str} {i : Int} {v : V} (h : atI (xs.map V.str) i = some v) : ∃ x, v = .str x ∧ x ∈ xs := by
  have := atI_mem h
  obtain ⟨x, hx, rfl⟩ := List.mem_map.mp this
  exact ⟨x, rfl, hx⟩
theorem sIx_lo (n : Nat) (m : Int) (h : 0 ≤ m) : HT.sIx n 0 (some m) = min m.toNat n := by rw [← sIx_to n m h]; rfl
theorem cut_to (us : List V) (m : Int) (h : 0 ≤ m) : cutV us none (some m) = us.take m.toNat := by
  unfold cutV
  rw [sIx_none, sIx_to _ _ h, List.drop_zero, Nat.sub_zero]
  by_cases hm : m.toNat ≤ us.length
  · rw [Nat.min_eq_left hm]
  · rw [Nat.min_eq_right (by omega), List.take_length, List.take_of_length_le (by omega)]
theorem cut_from (us : List V) (m : Int) (h : 0 ≤ m) : cutV us (some m) none = us.drop m.toNat := by
  unfold cutV
  rw [sIx_none, sIx_lo _ _ h]
  by_cases hm : m.toNat ≤ us.length
  · rw [Nat.min_eq_left hm, List.take_of_length_le (by rw [List.length_drop]; omega)]
  · rw [Nat.min_eq_right (by omega), List.drop_length, List.drop_of_length_le (by omega)]
    simp
theorem dataL_take (ts : List Trm) (n : Nat) : (Trm.dataL ts).take n = Trm.dataL (ts.take n) := by rw [Trm.dataL_map, Trm.dataL_map, List.map_take]
theorem dataL_drop (ts : List Trm) (n : Nat) : (Trm.dataL ts).drop n = Trm.dataL (ts.drop n) := by rw [Trm.dataL_map, Trm.dataL_map, List.map_drop]
theorem dataL_app (a b : List Trm) : Trm.dataL (a ++ b) = Trm.dataL a ++ Trm.dataL b := by rw [Trm.dataL_map, Trm.dataL_map, Trm.dataL_map, List.map_append]
theorem sizeL_cut (ts : List Trm) (n : Nat) : Trm.sizeL (ts.take n) + Trm.sizeL (ts.drop n) = Trm.sizeL ts := by rw [← Trm.sizeL_app, List.take_append_drop]
theorem none_back {H H' : Hp} {p : Addr} (s : Same H H') (h : H' p = none) : H p = none := by
  cases e : H p with
  | none => rfl
  | some o => rw [s _ _ e] at h; cases h
structure LeftOk (K : PySem.W.Frag) (H : Hp) (us : List V) (xs : List Str) (ts : List Trm) : Prop where
  den : DenL K H us (Trm.dataL ts)
  vs : ∀ t ∈ ts, vin xs t
theorem LeftOk.len {K : PySem.W.Frag} {H : Hp} {us : List V} {xs : List Str} {ts : List Trm} (h : LeftOk K H us xs ts) : us.length = ts.length := by
  have := h.den.length
  rw [Trm.dataL_map, List.length_map] at this
  exact this
theorem LeftOk.mono {K : PySem.W.Frag} {H H' : Hp} {us : List V} {xs : List Str} {ts : List Trm} (h : LeftOk K H us xs ts) (s : Same H H') : LeftOk K H' us xs ts := ⟨h.den.mono s, h.vs⟩
theorem LeftOk.snoc {K : PySem.W.Frag} {H : Hp} {us : List V} {xs : List Str} {ts : List Trm} {u : V} {t : Trm} (h : LeftOk K H us xs ts) (d : Den K H u t.data) (v : vin xs t) : LeftOk K H (us ++ [u]) xs (ts ++ [t]) := by
  refine ⟨?_, fun y hy => ?_⟩
  · rw [dataL_app]
    exact h.den.append (.cons d .nil)
  · rcases List.mem_append.mp hy with z | z
    · exact h.vs y z
    · rw [List.mem_singleton.mp z]; exact v
theorem LeftOk.take {K : PySem.W.Frag} {H : Hp} {us : List V} {xs : List Str} {ts : List Trm} (h : LeftOk K H us xs ts) (n : Nat) : LeftOk K H (us.take n) xs (ts.take n) := ⟨by rw [← dataL_take]; exact h.den.take n, fun t ht => h.vs t (List.mem_of_mem_take ht)⟩
theorem LeftOk.drop {K : PySem.W.Frag} {H : Hp} {us : List V} {xs : List Str} {ts : List Trm} (h : LeftOk K H us xs ts) (n : Nat) : LeftOk K H (us.drop n) xs (ts.drop n) := ⟨by rw [← dataL_drop]; exact h.den.drop n, fun t ht => h.vs t (List.mem_of_mem_drop ht)⟩
theorem great_nodup : (Str.ofString "ABCDEFGHIJKLMNOPQRSTUVWXYZ").cps.toList.Nodup := by decide +kernel
theorem small_nodup : (Str.ofString "abcdefghijklmnopqrstuvwxyz").cps.toList.Nodup := by decide +kernel
noncomputable abbrev sp_law (K : PySem.W.Frag) : Sp := fun vs H Q _ => match vs with | [.ref a] => ∃ ns : List Int, SqL K H a (ns.map V.int) ∧ ns.length ≤ 63 ∧ (∀ n ∈ ns, Builtin.Int.intBits n ≤ 1048576) ∧ ∀ H', Q (.bl true) H' | _ => False
theorem butD_tup {K : PySem.W.Frag} {p : Addr} {H H' : Hp} {kv : List (Key × V)} (e : But p H H') (hp : H p = some (.dK kv)) : ∀ a xs, SqT K H a xs → SqT K H' a xs := fun a xs h => by
  rcases h with (h | ⟨o, h⟩) | h
  · exact .inl (.inl (e _ _ (fun z => by rw [z, hp] at h; cases h) h))
  · exact .inl (.inr ⟨o, e _ _ (fun z => by rw [z, hp] at h; cases h) h⟩)
  · exact .inr h
mutual
theorem vin_vars : ∀ {xs : List Str} {t : Trm}, vin xs t → ∀ x ∈ vars t, x ∈ xs
  | xs, .any y, h, x, hx => by
    rw [vars] at hx
    rw [List.mem_singleton.mp hx]
    simpa [vin] using h
  | xs, .num _, h, x, hx => by rw [vars] at hx; simp at hx
  | xs, .app _ ks, h, x, hx => by
    rw [vars] at hx
    exact vinL_vars (by simpa [vin] using h) x hx
theorem vinL_vars : ∀ {xs : List Str} {ts : List Trm}, vinL xs ts → ∀ x ∈ varsL ts, x ∈ xs
  | xs, [], h, x, hx => by rw [varsL] at hx; simp at hx
  | xs, k :: ks, h, x, hx => by
    rw [varsL] at hx
    simp only [vinL] at h
    rcases List.mem_append.mp hx with z | z
    · exact vin_vars h.1 x z
    · exact vinL_vars h.2 x z
end
theorem q1 : decide (numS = anyS) = false := by decide +kernel
theorem q2 : decide (appS = anyS) = false := by decide +kernel
theorem q3 : decide (anyS = anyS) = true := by decide +kernel
theorem q4 : decide (numS = appS) = false := by decide +kernel
theorem q5 : decide (anyS = appS) = false := by decide +kernel
theorem q6 : decide (appS = appS) = true := by decide +kernel
theorem q7 : decide (numS = numS) = true := by decide +kernel
noncomputable abbrev sp_unknown (K : PySem.W.Frag) : Sp := fun vs H Q _ => match vs with | [.str x] => ∀ (v : V) (H' : Hp), Same H H' → Den K H' v (Trm.any x).data → Q v H' | _ => False
noncomputable abbrev sp_app (K : PySem.W.Frag) : Sp := fun vs H Q _ => match vs with | [.str s, .ref kp] => ∃ (us : List V) (ts : List Trm), SqL K H kp us ∧ DenL K H us (Trm.dataL ts) ∧ ∀ (v : V) (H' : Hp), Same H H' → Den K H' v (Trm.app s ts).data → Q v H' | _ => False
noncomputable abbrev sp_unknowns_of (K : PySem.W.Frag) : Sp := fun vs H Q _ => match vs with | [.ref a] => ∃ (us : List V) (ts : List Trm), SqL K H a us ∧ DenL K H us (Trm.dataL ts) ∧ Trm.sizeL ts ≤ 1000 ∧ ∀ (p : Addr) (H' : Hp), Same H H' → H p = none → H' p = some (.lst ((ordL ts []).map V.str)) → Q (.ref p) H' | _ => False
noncomputable abbrev sp_renamed (K : PySem.W.Frag) (n : Nat) : Sp := fun vs H Q _ => match vs with | [v, .ref d] => ∃ (t : Trm) (as : As), Den K H v t.data ∧ H d = some (.dK (encS as)) ∧ (∀ x ∈ vars t, x ∈ as.map (·.1)) ∧ t.size ≤ n ∧ n ≤ 70 ∧ ∀ (x : V) (H' : Hp), Same H H' → Den K H' x (ren (sub as) t).data → Q x H' | _ => False
theorem no_renamed {K : PySem.W.Frag} {H : Hp} {v : V} {d : Addr} {R : Trm → As → Prop} (h : ∃ (t : Trm) (as : As), Den K H v t.data ∧ H d = some (.dK (encS as)) ∧ (∀ x ∈ vars t, x ∈ as.map (·.1)) ∧ t.size ≤ 0 ∧ 0 ≤ 70 ∧ R t as) : False := by
  obtain ⟨t, _, _, _, _, z, _⟩ := h
  have := Trm.size_pos t
  omega
noncomputable abbrev sp_told_anew (K : PySem.W.Frag) : Sp := fun vs H Q _ => match vs with | [.ref a] => ∃ (us : List V) (ts : List Trm), SqL K H a us ∧ DenL K H us (Trm.dataL ts) ∧ Trm.sizeL ts ≤ 1000 ∧ (∀ t ∈ ts, t.size ≤ 70) ∧ ∀ (p : Addr) (us' : List V) (H' : Hp), Same H H' → H p = none → H' p = some (.lst us') → DenL K H' us' (Trm.dataL (anew ts)) → Q (.ref p) H' | _ => False
noncomputable abbrev sp_alike (K : PySem.W.Frag) : Sp := fun vs H Q _ => match vs with | [v, v'] => ∃ t t' : Trm, Den K H v t.data ∧ Den K H v' t'.data ∧ t.size ≤ 70 ∧ t'.size ≤ 70 ∧ ∀ H', Same H H' → Q (.bl (eqb (canon fU t) (canon fU t'))) H' | _ => False
noncomputable abbrev sp_marked (K : PySem.W.Frag) : Sp := fun vs H Q _ => match vs with | [v, .int n] => ∃ t : Trm, Den K H v t.data ∧ t.size ≤ 70 ∧ 0 ≤ n ∧ n < 10 ^ 30 ∧ (∀ x ∈ vars t, x.length ≤ 1000) ∧ ∀ (x : V) (H' : Hp), Same H H' → Den K H' x (ren (mrk n.toNat) t).data → Q x H' | _ => False
noncomputable abbrev sp_l_is_term (K : PySem.W.Frag) : Sp := fun vs H Q _ => match vs with | [v] => ∃ t : Trm, Den K H v t.data ∧ t.size ≤ 1000 ∧ ∀ H', Same H H' → Q (.bl true) H' | _ => False
noncomputable abbrev sp_l_order (K : PySem.W.Frag) (n : Nat) : Sp := fun vs H Q _ => match vs with | [.ref a, .ref f] => ∃ (us : List V) (ts : List Trm) (acc : List Str), (SqL K H a us ∨ SqT K H a us) ∧ DenL K H us (Trm.dataL ts) ∧ H f = some (.lst (acc.map V.str)) ∧ acc.length + Trm.sizeL ts ≤ 1000 ∧ (∀ t ∈ ts, t.size < n) ∧ 0 < n ∧ n ≤ 71 ∧ ∀ (p : Addr) (H' : Hp), Same H H' → H' p = some (.lst ((ordL ts acc).map V.str)) → Q (.ref p) H' | _ => False
theorem no_l_order {K : PySem.W.Frag} {H : Hp} {a f : Addr} {R : List Trm → List Str → Prop} (h : ∃ (us : List V) (ts : List Trm) (acc : List Str), (SqL K H a us ∨ SqT K H a us) ∧ DenL K H us (Trm.dataL ts) ∧ H f = some (.lst (acc.map V.str)) ∧ acc.length + Trm.sizeL ts ≤ 1000 ∧ (∀ t ∈ ts, t.size < 0) ∧ 0 < 0 ∧ 0 ≤ 71 ∧ R ts acc) : False := by
  obtain ⟨_, _, _, _, _, _, _, _, z, _⟩ := h
  omega
noncomputable abbrev sp_l_called (K : PySem.W.Frag) (n : Nat) : Sp := fun vs H Q _ => match vs with | [v, .ref d] => ∃ (t : Trm) (as : As), Den K H v t.data ∧ H d = some (.dK (encS as)) ∧ t.size ≤ n ∧ n ≤ 70 ∧ ∀ (x : V) (H' : Hp), Same H H' → Den K H' x (ren (sub as) t).data → Q x H' | _ => False
theorem no_l_called {K : PySem.W.Frag} {H : Hp} {v : V} {d : Addr} {R : Trm → As → Prop} (h : ∃ (t : Trm) (as : As), Den K H v t.data ∧ H d = some (.dK (encS as)) ∧ t.size ≤ 0 ∧ 0 ≤ 70 ∧ R t as) : False := by
  obtain ⟨t, _, _, _, z, _⟩ := h
  have := Trm.size_pos t
  omega
noncomputable abbrev sp_l_shape (K : PySem.W.Frag) : Sp := fun vs H Q _ => match vs with | [v] => ∃ t : Trm, Den K H v t.data ∧ t.size ≤ 70 ∧ ∀ (x : V) (H' : Hp), Same H H' → Den K H' x (canon fS t).data → Q x H' | _ => False
noncomputable abbrev sp_l_other_number (K : PySem.W.Frag) (n : Nat) : Sp := fun vs H Q _ => match vs with | [v] => ∃ t : Trm, Den K H v t.data ∧ t.size ≤ n ∧ n ≤ 70 ∧ ∀ (x : V) (t' : Trm) (H' : Hp), Same H H' → Den K H' x t'.data → t'.size ≤ t.size → Q x H' | _ => False
theorem no_l_other_number {K : PySem.W.Frag} {H : Hp} {v : V} {R : Trm → Prop} (h : ∃ t : Trm, Den K H v t.data ∧ t.size ≤ 0 ∧ 0 ≤ 70 ∧ R t) : False := by
  obtain ⟨t, _, z, _⟩ := h
  have := Trm.size_pos t
  omega
noncomputable abbrev sp_l_alike (K : PySem.W.Frag) : Sp := fun vs H Q _ => match vs with | [v, v'] => ∃ t t' : Trm, Den K H v t.data ∧ Den K H v' t'.data ∧ t.size ≤ 70 ∧ t'.size ≤ 70 ∧ ∀ H', Same H H' → Q (.bl true) H' | _ => False
noncomputable abbrev sp_l_named (K : PySem.W.Frag) : Sp := fun vs H Q _ => match vs with | [.ref a] => ∃ (us : List V) (ts : List Trm), SqL K H a us ∧ DenL K H us (Trm.dataL ts) ∧ Trm.sizeL ts ≤ 900 ∧ (∀ t ∈ ts, t.size ≤ 70) ∧ ∀ H', Same H H' → Q (.bl true) H' | _ => False
noncomputable abbrev sp_l_marked (K : PySem.W.Frag) : Sp := fun vs H Q _ => match vs with | [v, .int n] => ∃ t : Trm, Den K H v t.data ∧ t.size ≤ 70 ∧ 0 ≤ n ∧ n < 10 ^ 30 ∧ (∀ x ∈ vars t, x.length ≤ 100) ∧ ∀ H', Same H H' → Q (.bl true) H' | _ => False
theorem mStr_n {i : Int} {H : Hp} {Q : VK} (h0 : 0 ≤ i) (h1 : i < 10 ^ 30) (k : Q (.str (tn i.toNat)) H) : mStr [.int i] H Q := mStr_i h0 h1 k
theorem tn_len {n : Nat} (h : n < 10 ^ 30) : (tn n).length ≤ 30 := figs_len (by decide) h
theorem fs_int {i : Int} (h0 : 0 ≤ i) (h1 : i < 10 ^ 30) : i.natAbs.log2 < 1920 ∧ (Str.ofString (toString i)).length ≤ 1000 ∧ Str.ofString (toString i) = tn i.toNat := by
  obtain ⟨n, rfl⟩ := Int.eq_ofNat_of_zero_le h0
  have e : Str.ofString (toString (n : Int)) = tn n := figs_str n
  have hn : n < 10 ^ 30 := by omega
  refine ⟨?_, by rw [e]; have := tn_len hn; omega, e⟩
  show n.log2 < 1920
  rcases Nat.eq_zero_or_pos n with z | z
  · subst z; decide
  · rw [Nat.log2_lt (by omega)]
    exact Nat.lt_of_lt_of_le hn (by decide +kernel)
theorem strs_den {K : PySem.W.Frag} {H : Hp} : ∀ (xs : List Str), DenL K H (xs.map V.str) (xs.map PyData.str)
  | [] => .nil
  | x :: xs => .cons (.str x) (strs_den xs)
theorem nil_or_snoc' {α : Type} (l : List α) : l = [] ∨ ∃ r x, l = r ++ [x] := by
  rcases List.eq_nil_or_concat l with h | ⟨r, x, h⟩
  · exact .inl h
  · exact .inr ⟨r, x, by rw [h, List.concat_eq_append]⟩
theorem DenL.rev {K : PySem.W.Frag} {H : Hp} : ∀ {us : List V} {ds : List PyData}, DenL K H us ds → DenL K H us.reverse ds.reverse
  | _, _, .nil => .nil
  | _, _, .cons a r => by
    rw [List.reverse_cons, List.reverse_cons]
    exact (DenL.rev r).append (.cons a .nil)
theorem dataL_rev (ts : List Trm) : (Trm.dataL ts).reverse = Trm.dataL ts.reverse := by rw [Trm.dataL_map, Trm.dataL_map, List.map_reverse]
theorem sizeL_rev : ∀ ts : List Trm, Trm.sizeL ts.reverse = Trm.sizeL ts
  | [] => rfl
  | k :: ks => by
    rw [List.reverse_cons, Trm.sizeL_app, sizeL_rev ks]
    simp only [Trm.sizeL]
    omega
noncomputable def encB (acc : List Str) : List (Key × V) := acc.map fun x => (Sum.inr x, V.bl true)
theorem encB_len (acc : List Str) : (encB acc).length = acc.length := by simp [encB]
theorem encB_any (acc : List Str) (x : Str) : ((encB acc).any fun kv => decide (kv.1 = Sum.inr x)) = decide (x ∈ acc) := by
  by_cases h : x ∈ acc
  · rw [decide_eq_true h, List.any_eq_true]
    exact ⟨(Sum.inr x, V.bl true), List.mem_map.mpr ⟨x, h, rfl⟩, by simp⟩
  · rw [decide_eq_false h, List.any_eq_false]
    intro kv hk e
    obtain ⟨y, hy, rfl⟩ := List.mem_map.mp hk
    exact h (by rw [← Sum.inr.inj (of_decide_eq_true e)]; exact hy)
theorem encB_put (acc : List Str) (x : Str) : putK (encB acc) (Sum.inr x) (.bl true) = encB (ord (.any x) acc) := by
  rw [ord]
  unfold putK
  rw [encB_any]
  by_cases h : x ∈ acc
  · rw [if_pos (decide_eq_true h), if_pos h]
    unfold encB
    rw [List.map_map]
    refine List.map_congr_left fun y hy => ?_
    show (if (Sum.inr y : Key) = Sum.inr x then ((Sum.inr y : Key), V.bl true) else (Sum.inr y, V.bl true)) = (Sum.inr y, V.bl true)
    split <;> rfl
  · rw [if_neg (by rw [decide_eq_false h]; decide), if_neg h]
    unfold encB
    rw [List.map_append]
    rfl
theorem encB_keys (acc : List Str) : ((encB acc).map fun kv => kV kv.1) = acc.map V.str := by
  unfold encB
  rw [List.map_map]
  rfl
theorem size_get {ls : List Trm} {i : Nat} {l : Trm} (h : ls[i]? = some l) : l.size ≤ Trm.sizeL ls := mem_size (List.mem_of_getElem? h)
theorem denL_at {K : PySem.W.Frag} {H : Hp} {us : List V} {ts : List Trm} {i : Nat} (h : DenL K H us (Trm.dataL ts)) (hi : i < ts.length) : ∃ hu : i < us.length, Den K H us[i] ts[i].data := by
  have hl := h.length
  rw [Trm.dataL_map, List.length_map] at hl
  have hu : i < us.length := by omega
  refine ⟨hu, ?_⟩
  obtain ⟨d, e1, e2⟩ := h.get (List.getElem?_eq_getElem hu)
  rw [Trm.dataL_map, List.getElem?_map, List.getElem?_eq_getElem hi] at e1
  obtain rfl : ts[i].data = d := Option.some.inj e1
  exact e2
theorem getD_at {us : List V} {i : Nat} (h : i < us.length) : us.getD i .non = us[i] := by rw [List.getD_eq_getElem?_getD, List.getElem?_eq_getElem h]; rfl
theorem take_succ' {α : Type} {l : List α} {i : Nat} (h : i < l.length) : l.take (i + 1) = l.take i ++ [l[i]] := by rw [List.take_add_one, List.getElem?_eq_getElem h]; rfl
theorem den_len {K : PySem.W.Frag} {H : Hp} {us : List V} {ts : List Trm} (h : DenL K H us (Trm.dataL ts)) : us.length = ts.length := by
  have hl := h.length
  rwa [Trm.dataL_map, List.length_map] at hl
theorem fr_same {p : Addr} {H0 H H' : Hp} (s : Same H0 H) (b : But p H H') (n : H0 p = none) : Same H0 H' := fun a o e => b a o (fun z => by rw [z, n] at e; cases e) (s a o e)
theorem but_upd {p : Addr} {H : Hp} {o : HO} : But p H (upd H p o) := fun b u hb e => by rw [upd_ne hb]; exact e
theorem iSeq_for {K : PySem.W.Frag} {a : Addr} {us : List V} {H H0 : Hp} (h : SqL K H0 a us ∨ SqT K H0 a us) (s : Same H0 H) {g : TG} {tb : TS} {D : Ends} {σ : L2.St} (k : ∀ J Ok, Row J us.length (fun i => us.getD i .non) Ok → (∀ H', Same H0 H' → Ok H') → ForW J g tb D σ H) : (∃ xs, SqL K H a xs ∧ ForW (Itl K a) g tb D σ H) ∨ ∃ xs, SqT K H a xs ∧ ForW (Itt K a) g tb D σ H := by
  rcases h with h | h
  · exact .inl ⟨us, s.seq h, k _ _ row_list fun H' s => s.seq h⟩
  · exact .inr ⟨us, s.tup h, k _ _ row_tup fun H' s => s.tup h⟩
theorem sizeL_take (ts : List Trm) (i : Nat) : Trm.sizeL (ts.take i) ≤ Trm.sizeL ts := by
  have h := Trm.sizeL_app (ts.take i) (ts.drop i)
  rw [List.take_append_drop] at h
  omega
theorem denL_set {K : PySem.W.Frag} {H : Hp} {y : V} {d : PyData} (h : Den K H y d) : ∀ {us : List V} {ds : List PyData} (i : Nat), DenL K H us ds → DenL K H (us.set i y) (ds.set i d)
  | _, _, _, .nil => .nil
  | _, _, 0, .cons _ r => .cons h r
  | _, _, i + 1, .cons a r => .cons a (denL_set h i r)
theorem dataL_set (ks : List Trm) (i : Nat) (t : Trm) : (Trm.dataL ks).set i t.data = Trm.dataL (ks.set i t) := by rw [Trm.dataL_map, Trm.dataL_map, List.map_set]
theorem sizeL_set : ∀ (ks : List Trm) (i : Nat) (t u : Trm), ks[i]? = some u → t.size ≤ u.size → Trm.sizeL (ks.set i t) ≤ Trm.sizeL ks
  | [], _, _, _, h, _ => by simp at h
  | k :: ks, 0, t, u, h, z => by
    simp only [List.getElem?_cons_zero, Option.some.injEq] at h
    subst h
    simp only [List.set_cons_zero, Trm.sizeL]
    omega
  | k :: ks, i + 1, t, u, h, z => by
    have := sizeL_set ks i t u (by simpa using h) z
    simp only [List.set_cons_succ, Trm.sizeL]
    omega
section
variable {P : Program} {w : World} {K : PySem.W.Frag} {mg : Str → Option Value} {base : Heap} {t : Ad}
theorem ok_l_cell (T : Txt K mg t)  : FnOk P w K mg base CX0 1 t.a_l_cell t.d_l_cell ["_law_script", "_law_k"] (sp_l_cell K) := by
  refine T.F_l_cell.ok sc_l_cell (fun vs H Q E h => ?_) (fun cdv A outer s H vs Q E hr h => ?_)
  · unfold sp_l_cell at h
    split at h
    · rfl
    · exact h.elim
  unfold sp_l_cell at h
  split at h
  rotate_left
  · exact h.elim
  refine ⟨_, (pss_cons (ps_if (mt_cmp mo_lt (mv 1) (pe_callB (kc_len K rfl) rfl T.n_len PySem.boot_len (pa_con (mv 0) pa_nil)) (nomark _)) (pss_one (ps_ret (pe_ix (ki_seq K rfl) (mv 0) (mv 1) (fun _ _ => rfl)))) pss_nil) (pss_cons (ps_set (i := 2) (hs := sw_bin) sc_l_cell.nd rfl (by first | exact Or.inl rfl | exact Or.inr rfl) (pe_op (ko_add K rfl) (pe_op mo_mul pe_int (mv 1)) pe_int)) (pss_cons (ps_if (mt_cmp mo_gt (pe_callB (kc_len K rfl) rfl T.n_len PySem.boot_len (pa_con (mv 0) pa_nil)) pe_int (nomark _)) (pss_one (ps_set (i := 2) (hs := sw_bin) sc_l_cell.nd rfl (by first | exact Or.inl rfl | exact Or.inr rfl) (pe_op (ko_add K rfl) (mv 2) (pe_op mo_mul pe_int (pe_ix (ki_seq K rfl) (mv 0) (pe_op mo_mod (pe_op mo_mul pe_int (mv 1)) (pe_callB (kc_len K rfl) rfl T.n_len PySem.boot_len (pa_con (mv 0) pa_nil))) (fun _ _ => rfl)))))) pss_nil) (pss_one (ps_ret (pe_op mo_mod (pe_op mo_mul (mv 2) (mv 2)) pe_int)))))), ?_⟩
  rename_i a k
  obtain ⟨ns, hS, hb, h0, h1, q⟩ := h
  walk_at "stp"
  refine mLen_l hS ?_
  walk_at "stp"
  rw [List.length_map]
  refine iteB (fun e => ?_) (fun e => ?_)
  · have hk := of_decide_eq_true e
    walk_at "stp"
    obtain ⟨v, hv, hv2⟩ := atI_lt (xs := ns.map V.int) h0 (by rw [List.length_map]; exact hk)
    obtain ⟨x, rfl⟩ := ints_at hv
    refine mIx_l hS hv ?_
    exact q _
  walk_at "stp"
  refine mMul_i (mulOk_left (by decide)) ?_
  walk_at "stp"
  refine mLen_l hS ?_
  walk_at "stp"
  rw [List.length_map]
  refine iteB (fun e => ?_) (fun e => ?_)
  · have hl := of_decide_eq_true e
    walk_at "stp"
    refine mMul_i (mulOk_left (by decide)) ?_
    walk_at "stp"
    refine mLen_l hS ?_
    walk_at "stp"
    rw [List.length_map]
    refine m2_i (show (0 : Int) < (ns.length : Int) from hl) ?_
    walk_at "stp"
    have b1 := Int.emod_nonneg (5 * k) (show (ns.length : Int) ≠ 0 by omega)
    have b2 := Int.emod_lt_of_pos (5 * k) hl
    obtain ⟨v, hv, hv2⟩ := atI_lt (xs := ns.map V.int) b1 (by rw [List.length_map]; exact b2)
    obtain ⟨x, hx, rfl⟩ := List.mem_map.mp (atI_mem hv)
    refine mIx_l hS hv ?_
    walk_at "stp"
    refine mMul_i (mulOk_left (by decide)) ?_
    walk_at "stp"
    have hbx := bits_lt _ _ (cell_bits (c := 7919 * k + 17) (lt_bits x _ (hb x hx)) (by omega))
    refine mMul_i (mulOk_bits (by omega)) ?_
    walk_at "stp"
    exact q _
  · walk_at "stp"
    refine mMul_i (mulOk_left (by omega)) ?_
    walk_at "stp"
    exact q _
theorem ok_l_number (T : Txt K mg t)  : FnOk P w K mg base CX0 1 t.a_l_number t.d_l_number ["_law_cell_here"] (sp_l_number) := by
  refine T.F_l_number.ok sc_l_number (fun vs H Q E h => ?_) (fun cdv A outer s H vs Q E hr h => ?_)
  · unfold sp_l_number at h
    split at h
    · rfl
    · exact h.elim
  unfold sp_l_number at h
  split at h
  rotate_left
  · exact h.elim
  refine ⟨_, (pss_cons (ps_if (mt_cmp mo_eq (pe_op mo_mod (mv 0) pe_int) pe_int (nomark _)) (pss_one (ps_ret (pe_op (ko_add K rfl) (pe_op mo_sub (pe_op mo_mod (pe_op mo_mul (pe_op mo_fdiv (mv 0) pe_int) pe_int) (pe_op mo_sub (pe_op mo_mul pe_int (pe_op mo_pow pe_int pe_int)) pe_int)) (pe_op mo_pow pe_int pe_int)) pe_int))) pss_nil) (pss_one (ps_ret (pe_op mo_sub (pe_op mo_mod (pe_op mo_fdiv (mv 0) pe_int) pe_int) pe_int)))), ?_⟩
  rename_i c
  have q := h
  walk_at "stp"
  refine iteB (fun e => ?_) (fun e => ?_)
  · walk_at "stp"
    refine mMul_i (mulOk_right (by decide)) ?_
    walk_at "stp"
    refine m2_i (C := CPow) ⟨by decide, by decide, by decide⟩ ?_
    walk_at "stp"
    refine mMul_i (mulOk_left (by decide)) ?_
    walk_at "stp"
    refine m2_i (C := CPow) ⟨by decide, by decide, by decide⟩ ?_
    walk_at "stp"
    exact q _
  · walk_at "stp"
    exact q _
theorem ok_l_names (T : Txt K mg t)  : FnOk P w K mg base CX0 1 t.a_l_names t.d_l_names ["_law_cell_here", "_law_many", "_law_first"] (sp_l_names K) := by
  refine T.F_l_names.ok sc_l_names (fun vs H Q E h => ?_) (fun cdv A outer s H vs Q E hr h => ?_)
  · unfold sp_l_names at h
    split at h
    · rfl
    · exact h.elim
  unfold sp_l_names at h
  split at h
  rotate_left
  · exact h.elim
  refine ⟨_, (pss_cons (ps_set (i := 3) sc_l_names.nd rfl (by first | exact Or.inl rfl | exact Or.inr rfl) pe_str) (pss_cons (ps_if (mt_cmp mo_eq (pe_op mo_mod (mv 0) pe_int) pe_int (nomark _)) (pss_one (ps_ret (pe_comp rfl (pi_range1 rfl T.n_range (pa_con (mv 1) pa_nil)) (comp_sc (defScope s_l_names) ["_law_cell_here", "_law_many", "_law_first", "_law_signs", "_law_size", "_law_at", "_law_names_here", "_law_j", "_law_name", "_law_k", "_law_place"] ["_law_cell_here", "_law_many", "_law_first", "_law_signs", "_law_size", "_law_at", "_law_names_here", "_law_j", "_law_name", "%_law_k", "_law_place"] rfl rfl (by decide +kernel)) (fun _ _ _ _ _ => pts_nil) (fun _ _ _ _ _ => (pe_op (ko_add K rfl) (pe_ix (ki_seq K rfl) (mv 3) pe_int (fun _ _ => rfl)) (pe_callTy mc_str rfl T.n_str boot_str (pa_con (pe_op (ko_add K rfl) pe_int (pe_op mo_mod (pe_op (ko_add K rfl) (mv 0) (pe_op mo_fdiv (mv 1) pe_int)) (mv 2))) pa_nil))))))) pss_nil) (pss_cons (ps_if (mt_cmp mo_eq (pe_op mo_mod (mv 0) pe_int) pe_int (nomark _)) (pss_one (ps_ret (pe_comp rfl (pi_range1 rfl T.n_range (pa_con (mv 1) pa_nil)) (comp_sc (defScope s_l_names) ["_law_cell_here", "_law_many", "_law_first", "_law_signs", "_law_size", "_law_at", "_law_names_here", "_law_j", "_law_name", "_law_k", "_law_place"] ["_law_cell_here", "_law_many", "_law_first", "_law_signs", "_law_size", "_law_at", "_law_names_here", "_law_j", "_law_name", "%_law_k", "_law_place"] rfl rfl (by decide +kernel)) (fun _ _ _ _ _ => pts_nil) (fun _ _ _ _ _ => (pe_op (ko_add K rfl) (pe_ix (ki_seq K rfl) (mv 3) (pe_op mo_mod (pe_op mo_fdiv (mv 1) pe_int) pe_int) (fun _ _ => rfl)) (pe_op ko_repS (pe_ix (ki_seq K rfl) (mv 4) (pe_op mo_mod (pe_op mo_fdiv (mv 1) pe_int) pe_int) (fun _ _ => rfl)) (mv 0))))))) pss_nil) (pss_cons (ps_set (i := 4) (hs := sw_bin) sc_l_names.nd rfl (by first | exact Or.inl rfl | exact Or.inr rfl) (pe_op (ko_add K rfl) pe_int (pe_op mo_mod (pe_op mo_fdiv (mv 0) pe_int) pe_int))) (pss_cons (ps_set (i := 5) (hs := sw_bin) sc_l_names.nd rfl (by first | exact Or.inl rfl | exact Or.inr rfl) (pe_op mo_mod (pe_op mo_fdiv (mv 0) pe_int) (mv 4))) (pss_cons (ps_set (i := 6) (hs := sw_lst) sc_l_names.nd rfl (by first | exact Or.inl rfl | exact Or.inr rfl) (pe_lst pa_nil)) (pss_cons (ps_for PassesOwn.never rfl (pi_range1 rfl T.n_range (pa_con (mv 1) pa_nil)) (pg_name (i := 7) sc_l_names.nd rfl (by first | exact Or.inl rfl | exact Or.inr rfl)) (pss_cons (ps_set (i := 8) sc_l_names.nd rfl (by first | exact Or.inl rfl | exact Or.inr rfl) pe_str) (pss_cons (ps_for PassesOwn.never rfl (pi_range1 rfl T.n_range (pa_con (mv 4) pa_nil)) (pg_name (i := 9) sc_l_names.nd rfl (by first | exact Or.inl rfl | exact Or.inr rfl)) (pss_cons (ps_set (i := 10) (hs := sw_bin) sc_l_names.nd rfl (by first | exact Or.inl rfl | exact Or.inr rfl) (pe_op (ko_add K rfl) (pe_op (ko_add K rfl) (pe_op mo_fdiv (mv 0) (pe_op (ko_add K rfl) (pe_op mo_mul pe_int (mv 9)) pe_int)) (mv 9)) (pe_op mo_mul (mv 7) (pe_callTy mc_int rfl T.n_int boot_int (pa_con (pe_cmpR mo_eq (mv 9) (mv 5) (nomark _)) pa_nil))))) (pss_one (ps_set (i := 8) (hs := sw_bin) sc_l_names.nd rfl (by first | exact Or.inl rfl | exact Or.inr rfl) (pe_op (ko_add K rfl) (mv 8) (pe_ifExp (mt_cmp mo_eq (mv 9) pe_int (nomark _)) (pe_ix (ki_seq K rfl) (mv 2) (pe_op mo_mod (mv 10) pe_int) (fun _ _ => rfl)) (pe_ix (ki_seq K rfl) (mv 3) (pe_op mo_mod (mv 10) pe_int) (fun _ _ => rfl)))))))) (pss_one (ps_expr (ke_bm K rfl PySem.F.plainAttrs_list PySem.F.slot_list_append PySem.F.type_list_append mm_append (mv 6) (pa_con (mv 8) pa_nil))))))) (pss_one (ps_ret (mv 6)))))))))), ?_⟩
  rename_i c m first
  obtain ⟨h1, h2, hf, hn, q⟩ := h
  have fl : first.length ≤ sizeLine := ln (by omega)
  have fl' : first.cps.toList.length = 26 := by rw [← hf]; simp [Str.length]
  have l62 : tailS.cps.toList.length = 62 := by decide +kernel
  have tl : tailS.length ≤ sizeLine := ln (by rw [tl62]; decide)
  walk_at "stp"
  refine iteB (fun e => ?_) (fun e => ?_)
  · obtain ⟨a0, ha0⟩ := ix_str_lt (z := first) (i := 20) (by decide) (by omega)
    walk_at "stp"
    refine ⟨m, rfl, by omega, by omega, fun D hD => ?_⟩
    refine comp_row (row_range 0 m.toNat) (fun i ys H' => Same H H' ∧ ys = (List.range i).map (fun k => V.str ((fun k : Nat => (⟨(a0 :: figsOf (1 + (0 + (k : Int) + c / 4) % m).toNat).toArray⟩ : Str)) k)) ∧ H' D = some (.lst ys)) (ln (by omega)) ⟨same_new hD _, rfl, upd_same⟩ (fun _ _ _ _ => trivial) (fun i ys H' Q' hi hl' hP k => ?_) (fun ys H' hl' hP => ?_)
    · obtain ⟨g1, g2, g3⟩ := hP
      walk_at "stp"
      refine mIx_s fl ha0 ?_
      walk_at "stp"
      refine m2_i (show (0 : Int) < m by omega) ?_
      walk_at "stp"
      have b1 := Int.emod_nonneg (0 + (i : Int) + c / 4) (show m ≠ 0 by omega)
      have b2 := Int.emod_lt_of_pos (0 + (i : Int) + c / 4) (show 0 < m by omega)
      refine mStr_i (by omega) (by omega) ?_
      have fg := figs_lt (n := (1 + (0 + (i : Int) + c / 4) % m).toNat) (by omega)
      refine mAdd_s (ln (by rw [fg]; show 1 + 1 ≤ 100000; decide)) ?_
      rw [show (⟨#[a0]⟩ : Str) ++ ⟨(figsOf (1 + (0 + (i : Int) + c / 4) % m).toNat).toArray⟩ = ⟨(a0 :: figsOf (1 + (0 + (i : Int) + c / 4) % m).toNat).toArray⟩ from str_app [a0] _]
      refine k _ _ g3 ⟨same_upd g1 hD, ?_, upd_same⟩
      rw [g2, List.range_succ, List.map_append]
      rfl
    · obtain ⟨g1, g2, g3⟩ := hP
      refine q D ((List.range m.toNat).map (fun k : Nat => (⟨(a0 :: figsOf (1 + (0 + (k : Int) + c / 4) % m).toNat).toArray⟩ : Str))) H' (by simp) (nodup_range_map _ fun i j hi hj e => ?_) (fun x hx => ?_) g1 (by rw [List.map_map]; exact g2 ▸ g3)
      · have e := (List.cons.inj (st_inj' e)).2
        have c1 := Int.emod_nonneg (0 + (i : Int) + c / 4) (show m ≠ 0 by omega)
        have c2 := Int.emod_lt_of_pos (0 + (i : Int) + c / 4) (show 0 < m by omega)
        have c3 := Int.emod_nonneg (0 + (j : Int) + c / 4) (show m ≠ 0 by omega)
        have c4 := Int.emod_lt_of_pos (0 + (j : Int) + c / 4) (show 0 < m by omega)
        rw [figs_lt (by omega), figs_lt (by omega)] at e
        have e : (0 + (i : Int) + c / 4) % m = (0 + (j : Int) + c / 4) % m := by
          have := (List.cons.inj e).1
          omega
        have d := Int.emod_eq_emod_iff_emod_sub_eq_zero.mp e
        obtain ⟨w1, hw⟩ := Int.dvd_of_emod_eq_zero d
        have hw : (i : Int) - j = m * w1 := by omega
        rcases Int.lt_trichotomy w1 0 with z | z | z
        · have : m * w1 ≤ m * (-1) := Int.mul_le_mul_of_nonneg_left (by omega) (by omega)
          omega
        · subst z
          omega
        · have : m * 1 ≤ m * w1 := Int.mul_le_mul_of_nonneg_left (by omega) (by omega)
          omega
      · obtain ⟨i, hi, rfl⟩ := List.mem_map.mp hx
        have hi := List.mem_range.mp hi
        have c1 := Int.emod_nonneg (0 + (i : Int) + c / 4) (show m ≠ 0 by omega)
        have c2 := Int.emod_lt_of_pos (0 + (i : Int) + c / 4) (show 0 < m by omega)
        rw [str_len, figs_lt (by omega)]
        show 2 ≤ 30
        decide
  walk_at "stp"
  refine iteB (fun e => ?_) (fun e => ?_)
  · obtain ⟨a0, ha0⟩ := ix_str_lt (z := first) (i := c / 4 % 26) (by omega) (by omega)
    obtain ⟨b0, hb0⟩ := ix_str_lt (z := tailS) (i := c / 104 % 62) (by omega) (by rw [tl62]; omega)
    walk_at "stp"
    refine ⟨m, rfl, by omega, by omega, fun D hD => ?_⟩
    refine comp_row (row_range 0 m.toNat) (fun i ys H' => Same H H' ∧ ys = (List.range i).map (fun k => V.str ((fun k : Nat => (⟨(a0 :: List.replicate k b0).toArray⟩ : Str)) k)) ∧ H' D = some (.lst ys)) (ln (by omega)) ⟨same_new hD _, rfl, upd_same⟩ (fun _ _ _ _ => trivial) (fun i ys H' Q' hi hl' hP k => ?_) (fun ys H' hl' hP => ?_)
    · obtain ⟨g1, g2, g3⟩ := hP
      walk_at "stp"
      refine mIx_s fl ha0 ?_
      walk_at "stp"
      refine mIx_s tl hb0 ?_
      walk_at "stp"
      refine mRepS_i (by omega) (by omega) ?_
      rw [show (0 + (i : Int)).toNat = i by omega]
      refine mAdd_s (ln (by have e9 := str_len (List.replicate i b0); rw [List.length_replicate] at e9; rw [e9]; show 1 + i ≤ 100000; omega)) ?_
      rw [show (⟨#[a0]⟩ : Str) ++ ⟨(List.replicate i b0).toArray⟩ = ⟨(a0 :: List.replicate i b0).toArray⟩ from str_app [a0] _]
      refine k _ _ g3 ⟨same_upd g1 hD, ?_, upd_same⟩
      rw [g2, List.range_succ, List.map_append]
      rfl
    · obtain ⟨g1, g2, g3⟩ := hP
      refine q D ((List.range m.toNat).map (fun k : Nat => (⟨(a0 :: List.replicate k b0).toArray⟩ : Str))) H' (by simp) (nodup_range_map _ fun i j hi hj e => ?_) (fun x hx => ?_) g1 (by rw [List.map_map]; exact g2 ▸ g3)
      · have e := congrArg List.length (st_inj' e)
        simpa using e
      · obtain ⟨i, hi, rfl⟩ := List.mem_map.mp hx
        have hi := List.mem_range.mp hi
        rw [str_len, List.length_cons, List.length_replicate]
        omega
  walk_at "stp"
  have z0 : 0 ≤ c / 4 % 12 ∧ c / 4 % 12 < 12 := by omega
  generalize c / 4 % 12 = sz at z0 ⊢
  refine m2_i (show (0 : Int) < 1 + sz by omega) ?_
  walk_at "stp"
  have a1 := Int.emod_nonneg (c / 48) (show 1 + sz ≠ 0 by omega)
  have a2 := Int.emod_lt_of_pos (c / 48) (show 0 < 1 + sz by omega)
  generalize c / 48 % (1 + sz) = ac at a1 a2 ⊢
  obtain ⟨at_, rfl⟩ : ∃ n : Nat, ac = (n : Int) := ⟨ac.toNat, by omega⟩
  obtain ⟨size, hsz⟩ : ∃ n : Nat, 1 + sz = (n : Int) := ⟨(1 + sz).toNat, by omega⟩
  rw [hsz] at a2 ⊢
  have hs12 : 1 ≤ size ∧ size ≤ 12 := by omega
  refine ⟨ln (by show 0 ≤ 100000; decide), fun p1 hp1 => ?_⟩
  have sp1 : Same H (upd H p1 (.lst [])) := same_new hp1 _
  have kp1 : (upd H p1 (.lst [])) p1 = some (.lst []) := upd_same
  generalize upd H p1 (.lst []) = H1 at sp1 kp1 ⊢
  walk_at "stp"
  refine ⟨m, rfl, by omega, by omega, ?_⟩
  refine for_row (row_range 0 m.toNat) (fun i σ' H' => ∃ (o7 o8 o9 o10 : Option V), σ' = [some (.int c), some (.int m), some (.str first), some (.str tailS), some (.int size), some (.int at_), some (.ref p1), o7, o8, o9, o10] ∧ Same H H' ∧ H' p1 = some (.lst (((List.range i).map (nm3 c first.cps.toList at_ size)).map V.str))) ⟨none, none, none, none, rfl, sp1, kp1⟩ (fun _ _ _ _ => trivial) (fun i σ' H' hi hP => ?_) (fun σ' H' hP => ?_)
  · obtain ⟨o7, o8, o9, o10, rfl, s1, k1⟩ := hP
    have hi9 : i < 9 := by omega
    walk_at "stp"
    refine ⟨size, rfl, by omega, by omega, ?_⟩
    refine for_row (row_range 0 (size : Int).toNat) (fun n σ2 H2 => ∃ (o9 o10 : Option V), σ2 = [some (.int c), some (.int m), some (.str first), some (.str tailS), some (.int size), some (.int at_), some (.ref p1), some (.int (0 + (i : Int))), some (.str ⟨((List.range n).map (chN c first.cps.toList at_ i)).toArray⟩), o9, o10] ∧ H2 = H') ⟨_, _, by rw [show (⟨((List.range 0).map (chN c first.cps.toList at_ i)).toArray⟩ : Str) = Str.ofString "" by rw [em_eq]; rfl]; rfl, rfl⟩ (fun _ _ _ _ => trivial) (fun n σ2 H2 hn2 hP => ?_) (fun σ2 H2 hP => ?_)
    · obtain ⟨o9, o10, rfl, rfl⟩ := hP
      have hn12 : n < 12 := by omega
      walk_at "stp"
      refine mMul_i (mulOk_left (by decide)) ?_
      walk_at "stp"
      refine m2_i (C := CDiv) (cdiv_i (by omega) (by omega)) ?_
      walk_at "stp"
      have eb : (if (false ^^ decide ((0 + (n : Int)) = (at_ : Int))) = true then (1 : Int) else 0) = if n = at_ then 1 else 0 := by
        by_cases h : n = at_
        · rw [if_pos h, if_pos (by rw [Bool.false_xor]; exact decide_eq_true (by omega))]
        · rw [if_neg h, if_neg (by rw [Bool.false_xor, decide_eq_false (by omega)]; exact Bool.false_ne_true)]
      rw [eb]
      refine mMul_i (mulOk_left (by omega)) ?_
      walk_at "stp"
      have ep : c / (7 * (0 + (n : Int)) + 11) + (0 + (n : Int)) + (0 + (i : Int)) * (if n = at_ then 1 else 0) = plc c at_ n i := by
        unfold plc
        simp only [Int.zero_add]
      rw [ep]
      have hadd : ∀ d : Nat, (⟨((List.range n).map (chN c first.cps.toList at_ i)).toArray⟩ : Str).length + (⟨#[d]⟩ : Str).length ≤ sizeLine := fun d => ln (by rw [str_len, List.length_map, List.length_range]; show n + 1 ≤ 100000; omega)
      refine iteB (fun e => ?_) (fun e => ?_)
      · have hn0 : n = 0 := by have := of_decide_eq_true (xor_n e); omega
        walk_at "stp"
        refine mIx_s fl (atI_getD (l := first.cps.toList) (by omega) (by rw [fl']; omega)) ?_
        refine mAdd_s (hadd _) ?_
        rw [show (⟨((List.range n).map (chN c first.cps.toList at_ i)).toArray⟩ : Str) ++ ⟨#[first.cps.toList.getD (plc c at_ n i % 26).toNat 0]⟩ = ⟨((List.range (n + 1)).map (chN c first.cps.toList at_ i)).toArray⟩ by
          rw [List.range_succ, List.map_append, ← str_app]
          congr 1
          simp only [List.map_cons, List.map_nil, chN, if_pos hn0]]
        walk_at "stp"
        exact ⟨_, _, rfl, rfl⟩
      · have hn0 : n ≠ 0 := by have := of_decide_eq_false (xor_n e); omega
        walk_at "stp"
        refine mIx_s tl (atI_getD (l := tailS.cps.toList) (by omega) (by rw [l62]; omega)) ?_
        refine mAdd_s (hadd _) ?_
        rw [show (⟨((List.range n).map (chN c first.cps.toList at_ i)).toArray⟩ : Str) ++ ⟨#[tailS.cps.toList.getD (plc c at_ n i % 62).toNat 0]⟩ = ⟨((List.range (n + 1)).map (chN c first.cps.toList at_ i)).toArray⟩ by
          rw [List.range_succ, List.map_append, ← str_app]
          congr 1
          simp only [List.map_cons, List.map_nil, chN, if_neg hn0]]
        walk_at "stp"
        exact ⟨_, _, rfl, rfl⟩
    · obtain ⟨o9, o10, rfl, rfl⟩ := hP
      walk_at "stp"
      refine ⟨.inl ⟨rfl, _, SqL.of k1⟩, ?_⟩
      walk_at "stp"
      refine mAppend_i k1 (ln1 (by rw [List.length_map, List.length_map, List.length_range]; omega)) ?_
      refine ⟨_, _, _, _, rfl, same_upd s1 hp1, ?_⟩
      rw [upd_same, List.range_succ, List.map_append, List.map_append]
      rfl
  · obtain ⟨o7, o8, o9, o10, rfl, s1, k1⟩ := hP
    walk_at "stp"
    refine q p1 _ H' (by simp) (nodup_range_map _ fun i j hi hj e => nm3_inj hn fl' (by omega) (by omega) (by omega) e) (fun x hx => ?_) s1 k1
    obtain ⟨i, hi, rfl⟩ := List.mem_map.mp hx
    show (⟨((List.range size).map _).toArray⟩ : Str).length ≤ 30
    rw [str_len, List.length_map, List.length_range]
    omega
end
section
variable {P : Program} {w : World} {K : PySem.W.Frag} {mg : Str → Option Value} {base : Heap} {t : Ad}
theorem ok_l_sign (T : Txt K mg t)  : FnOk P w K mg base CX0 1 t.a_l_sign t.d_l_sign ["_law_cell_here", "_law_many", "_law_words"] (sp_l_sign K) := by
  refine T.F_l_sign.ok sc_l_sign (fun vs H Q E h => ?_) (fun cdv A outer s H vs Q E hr h => ?_)
  · unfold sp_l_sign at h
    split at h
    · rfl
    · exact h.elim
  unfold sp_l_sign at h
  split at h
  rotate_left
  · exact h.elim
  refine ⟨_, (pss_cons (ps_if (PW.pt (pw_and (mt_cmp mo_eq (pe_op mo_mod (mv 0) pe_int) pe_int (nomark _)) (pw_and1 (mt_cmp mo_eq (mv 1) pe_int (nomark _))))) (pss_one (ps_ret (pe_ix (ki_seq K rfl) (pe_lst (pa_con pe_str (pa_con pe_str (pa_con pe_str (pa_con pe_str (pa_con pe_str (pa_con pe_str (pa_con pe_str (pa_con pe_str (pa_con pe_str (pa_con pe_str pa_nil))))))))))) (pe_op mo_mod (pe_op mo_fdiv (mv 0) pe_int) pe_int) (fun _ _ => rfl)))) pss_nil) (pss_cons (ps_if (PW.pt (pw_and (mt_cmp mo_eq (pe_op mo_mod (mv 0) pe_int) pe_int (nomark _)) (pw_and1 (mt_cmp mo_eq (mv 1) pe_int (nomark _))))) (pss_one (ps_ret pe_str)) pss_nil) (pss_cons (ps_if (mt_cmp mo_eq (pe_op mo_mod (mv 0) pe_int) pe_int (nomark _)) (pss_one (ps_ret (pe_ix (ki_seq K rfl) (pe_lst (pa_con pe_str (pa_con pe_str (pa_con pe_str (pa_con pe_str (pa_con pe_str (pa_con pe_str pa_nil))))))) (pe_op mo_mod (pe_op mo_fdiv (mv 0) pe_int) pe_int) (fun _ _ => rfl)))) pss_nil) (pss_one (ps_ret (pe_ix (ki_seq K rfl) (mv 2) (pe_op mo_mod (pe_op mo_fdiv (mv 0) pe_int) (pe_callB (kc_len K rfl) rfl T.n_len PySem.boot_len (pa_con (mv 2) pa_nil))) (fun _ _ => rfl))))))), ?_⟩
  rename_i c m wp
  obtain ⟨ws, hW, w1, w2, w3, q⟩ := h
  have last : ∀ J, J = H → (∀ x ∈ ws, Q (.str x) J) := fun J e x hx => by subst e; exact q x _ (w3 x hx) (Same.refl _)
  walk_at "stp"
  have step2 : ∀ (P : Prop), P → P := fun _ h => h
  by_cases c0 : c % 5 = 0
  · refine iteB (fun e => ?_) (fun e => absurd c0 (of_decide_eq_false (xor_n e)))
    walk_at "stp"
    refine iteB (fun e => ?_) (fun e => ?_)
    · walk_at "stp"
      refine ⟨ln (by show 10 ≤ 100000; decide), fun p1 hp1 => ?_⟩
      have sp1 : Same H (upd H p1 (.lst [.str (Str.ofString "+"), .str (Str.ofString "="), .str (Str.ofString "[|]"), .str (Str.ofString "<="), .str (Str.ofString "/:"), .str (Str.ofString ":="), .str (Str.ofString "-"), .str (Str.ofString "*"), .str (Str.ofString "#"), .str (Str.ofString "@@@")])) := same_new hp1 _
      have kp1 : (upd H p1 (.lst [.str (Str.ofString "+"), .str (Str.ofString "="), .str (Str.ofString "[|]"), .str (Str.ofString "<="), .str (Str.ofString "/:"), .str (Str.ofString ":="), .str (Str.ofString "-"), .str (Str.ofString "*"), .str (Str.ofString "#"), .str (Str.ofString "@@@")])) p1 = some (.lst [.str (Str.ofString "+"), .str (Str.ofString "="), .str (Str.ofString "[|]"), .str (Str.ofString "<="), .str (Str.ofString "/:"), .str (Str.ofString ":="), .str (Str.ofString "-"), .str (Str.ofString "*"), .str (Str.ofString "#"), .str (Str.ofString "@@@")]) := upd_same
      generalize upd H p1 (.lst [.str (Str.ofString "+"), .str (Str.ofString "="), .str (Str.ofString "[|]"), .str (Str.ofString "<="), .str (Str.ofString "/:"), .str (Str.ofString ":="), .str (Str.ofString "-"), .str (Str.ofString "*"), .str (Str.ofString "#"), .str (Str.ofString "@@@")]) = H1 at sp1 kp1 ⊢
      walk_at "stp"
      obtain ⟨x, hx, hx1⟩ : ∃ x : Str, atI [V.str (Str.ofString "+"), V.str (Str.ofString "="), V.str (Str.ofString "[|]"), V.str (Str.ofString "<="), V.str (Str.ofString "/:"), V.str (Str.ofString ":="), V.str (Str.ofString "-"), V.str (Str.ofString "*"), V.str (Str.ofString "#"), V.str (Str.ofString "@@@")] (c / 5 % 10) = some (.str x) ∧ x.length ≤ 30 := by
        have hi : c / 5 % 10 = 0 ∨ c / 5 % 10 = 1 ∨ c / 5 % 10 = 2 ∨ c / 5 % 10 = 3 ∨ c / 5 % 10 = 4 ∨ c / 5 % 10 = 5 ∨ c / 5 % 10 = 6 ∨ c / 5 % 10 = 7 ∨ c / 5 % 10 = 8 ∨ c / 5 % 10 = 9 := by omega
        rcases hi with z | z | z | z | z | z | z | z | z | z <;> rw [z] <;> exact ⟨_, rfl, by decide +kernel⟩
      refine mIx_l (SqL.of kp1) hx ?_
      exact q x _ hx1 sp1
    walk_at "stp"
    refine iteB (fun e => ?_) (fun e => absurd c0 (of_decide_eq_false (xor_n e)))
    walk_at "stp"
    refine iteB (fun e => ?_) (fun e => ?_)
    · walk_at "stp"
      exact q _ _ (by decide +kernel) (Same.refl _)
    walk_at "stp"
    refine iteB (fun e => by have := of_decide_eq_true (xor_n e); omega) (fun e => ?_)
    walk_at "stp"
    refine mLen_l hW ?_
    walk_at "stp"
    rw [List.length_map]
    refine m2_i (show (0 : Int) < (ws.length : Int) by omega) ?_
    walk_at "stp"
    have b1 := Int.emod_nonneg (c / 5) (show (ws.length : Int) ≠ 0 by omega)
    have b2 := Int.emod_lt_of_pos (c / 5) (show (0 : Int) < (ws.length : Int) by omega)
    obtain ⟨v, hv, _⟩ := atI_lt (xs := ws.map V.str) b1 (by rw [List.length_map]; exact b2)
    obtain ⟨x, rfl, hx⟩ := strs_at hv
    refine mIx_l hW hv ?_
    exact last _ rfl x hx
  refine iteB (fun e => absurd (of_decide_eq_true (xor_n e)) c0) (fun e => ?_)
  walk_at "stp"
  refine iteF ?_
  walk_at "stp"
  refine iteB (fun e => absurd (of_decide_eq_true (xor_n e)) c0) (fun e => ?_)
  walk_at "stp"
  refine iteF ?_
  walk_at "stp"
  refine iteB (fun e => ?_) (fun e => ?_)
  · walk_at "stp"
    refine ⟨ln (by show 6 ≤ 100000; decide), fun p1 hp1 => ?_⟩
    have sp1 : Same H (upd H p1 (.lst [.str (Str.ofString "any"), .str (Str.ofString "num"), .str (Str.ofString "app"), .str (Str.ofString "not"), .str (Str.ofString "keep"), .str (Str.ofString "a")])) := same_new hp1 _
    have kp1 : (upd H p1 (.lst [.str (Str.ofString "any"), .str (Str.ofString "num"), .str (Str.ofString "app"), .str (Str.ofString "not"), .str (Str.ofString "keep"), .str (Str.ofString "a")])) p1 = some (.lst [.str (Str.ofString "any"), .str (Str.ofString "num"), .str (Str.ofString "app"), .str (Str.ofString "not"), .str (Str.ofString "keep"), .str (Str.ofString "a")]) := upd_same
    generalize upd H p1 (.lst [.str (Str.ofString "any"), .str (Str.ofString "num"), .str (Str.ofString "app"), .str (Str.ofString "not"), .str (Str.ofString "keep"), .str (Str.ofString "a")]) = H1 at sp1 kp1 ⊢
    walk_at "stp"
    obtain ⟨x, hx, hx1⟩ : ∃ x : Str, atI [V.str (Str.ofString "any"), V.str (Str.ofString "num"), V.str (Str.ofString "app"), V.str (Str.ofString "not"), V.str (Str.ofString "keep"), V.str (Str.ofString "a")] (c / 5 % 6) = some (.str x) ∧ x.length ≤ 30 := by
      have hi : c / 5 % 6 = 0 ∨ c / 5 % 6 = 1 ∨ c / 5 % 6 = 2 ∨ c / 5 % 6 = 3 ∨ c / 5 % 6 = 4 ∨ c / 5 % 6 = 5 := by omega
      rcases hi with z | z | z | z | z | z <;> rw [z] <;> exact ⟨_, rfl, by decide +kernel⟩
    refine mIx_l (SqL.of kp1) hx ?_
    exact q x _ hx1 sp1
  walk_at "stp"
  refine mLen_l hW ?_
  walk_at "stp"
  rw [List.length_map]
  refine m2_i (show (0 : Int) < (ws.length : Int) by omega) ?_
  walk_at "stp"
  have b1 := Int.emod_nonneg (c / 5) (show (ws.length : Int) ≠ 0 by omega)
  have b2 := Int.emod_lt_of_pos (c / 5) (show (0 : Int) < (ws.length : Int) by omega)
  obtain ⟨v, hv, _⟩ := atI_lt (xs := ws.map V.str) b1 (by rw [List.length_map]; exact b2)
  obtain ⟨x, rfl, hx⟩ := strs_at hv
  refine mIx_l hW hv ?_
  exact last _ rfl x hx
theorem ok_l_term (T : Txt K mg t) (G_l_number : FnOk P w K mg base CX0 1 t.a_l_number t.d_l_number ["_law_cell_here"] (sp_l_number)) (G_l_sign : FnOk P w K mg base CX0 1 t.a_l_sign t.d_l_sign ["_law_cell_here", "_law_many", "_law_words"] (sp_l_sign K)) : FnOk P w K mg base CX0 2 t.a_l_term t.d_l_term ["_law_cells", "_law_names_here", "_law_words"] (sp_l_term K) := by
  refine T.F_l_term.ok sc_l_term (fun vs H Q E h => ?_) (fun cdv A outer s H vs Q E hr h => ?_)
  · unfold sp_l_term at h
    split at h
    · rfl
    · exact h.elim
  unfold sp_l_term at h
  split at h
  rotate_left
  · exact h.elim
  refine ⟨_, (pss_cons (ps_set (i := 3) (hs := sw_lst) sc_l_term.nd rfl (by first | exact Or.inl rfl | exact Or.inr rfl) (pe_lst pa_nil)) (pss_cons (ps_for PassesOwn.never rfl (kpi_list K rfl (mv 0)) (pg_name (i := 4) sc_l_term.nd rfl (by first | exact Or.inl rfl | exact Or.inr rfl)) (pss_one (ps_if (mt_cmp mo_eq (pe_op mo_mod (mv 4) pe_int) pe_int (nomark _)) (pss_one (ps_expr (ke_bm K rfl PySem.F.plainAttrs_list PySem.F.slot_list_append PySem.F.type_list_append mm_append (mv 3) (pa_con (pe_tup (pa_con pe_str (pa_con (pe_call G_l_number (hr.mono (by first | decide | omega)) rfl T.m_l_number T.F_l_number.kp T.b_l_number .nil pass0 (pa_con (pe_op mo_fdiv (mv 4) pe_int) pa_nil)) pa_nil))) pa_nil)))) (pss_one (ps_if (mt_cmp mo_lt (pe_op mo_mod (mv 4) pe_int) pe_int (nomark _)) (pss_one (ps_expr (ke_bm K rfl PySem.F.plainAttrs_list PySem.F.slot_list_append PySem.F.type_list_append mm_append (mv 3) (pa_con (pe_tup (pa_con pe_str (pa_con (pe_ix (ki_seq K rfl) (mv 1) (pe_op mo_mod (pe_op mo_fdiv (mv 4) pe_int) (pe_callB (kc_len K rfl) rfl T.n_len PySem.boot_len (pa_con (mv 1) pa_nil))) (fun _ _ => rfl)) pa_nil))) pa_nil)))) (pss_cons (ps_set (i := 5) (hs := sw_call) sc_l_term.nd rfl (by first | exact Or.inl rfl | exact Or.inr rfl) (pe_callB (mc_min rfl) rfl T.n_min boot_min (pa_con (pe_op mo_mod (pe_op mo_fdiv (mv 4) pe_int) pe_int) (pa_con (pe_callB (kc_len K rfl) rfl T.n_len PySem.boot_len (pa_con (mv 3) pa_nil)) pa_nil)))) (pss_cons (ps_set (i := 6) (hs := sw_call) sc_l_term.nd rfl (by first | exact Or.inl rfl | exact Or.inr rfl) (pe_callTy (kc_tuple K rfl) rfl T.n_tuple boot_tuple (pa_con (pe_slice (ks_list K rfl) (mv 3) (mp_some (pe_op mo_sub (pe_callB (kc_len K rfl) rfl T.n_len PySem.boot_len (pa_con (mv 3) pa_nil)) (mv 5))) po_none) pa_nil))) (pss_one (ps_set (i := 3) (hs := sw_bin) sc_l_term.nd rfl (by first | exact Or.inl rfl | exact Or.inr rfl) (pe_op (ko_add K rfl) (pe_slice (ks_list K rfl) (mv 3) po_none (mp_some (pe_op mo_sub (pe_callB (kc_len K rfl) rfl T.n_len PySem.boot_len (pa_con (mv 3) pa_nil)) (mv 5)))) (pe_lst (pa_con (pe_tup (pa_con pe_str (pa_con (pe_call G_l_sign (hr.mono (by first | decide | omega)) rfl T.m_l_sign T.F_l_sign.kp T.b_l_sign .nil pass0 (pa_con (pe_op mo_fdiv (mv 4) pe_int) (pa_con (mv 5) (pa_con (mv 2) pa_nil)))) (pa_con (mv 6) pa_nil)))) pa_nil)))))))))))) (pss_cons (ps_while PassesOwn.never (mt_cmp mo_gt (pe_callB (kc_len K rfl) rfl T.n_len PySem.boot_len (pa_con (mv 3) pa_nil)) pe_int (nomark _)) (pss_cons (ps_set (i := 5) (hs := sw_call) sc_l_term.nd rfl (by first | exact Or.inl rfl | exact Or.inr rfl) (pe_callB (mc_min rfl) rfl T.n_min boot_min (pa_con pe_int (pa_con (pe_callB (kc_len K rfl) rfl T.n_len PySem.boot_len (pa_con (mv 3) pa_nil)) pa_nil)))) (pss_one (ps_set (i := 3) (hs := sw_bin) sc_l_term.nd rfl (by first | exact Or.inl rfl | exact Or.inr rfl) (pe_op (ko_add K rfl) (pe_slice (ks_list K rfl) (mv 3) po_none (mp_some (pe_op mo_sub (pe_callB (kc_len K rfl) rfl T.n_len PySem.boot_len (pa_con (mv 3) pa_nil)) (mv 5)))) (pe_lst (pa_con (pe_tup (pa_con pe_str (pa_con (pe_ix (ki_seq K rfl) (mv 2) pe_int (fun _ _ => rfl)) (pa_con (pe_callTy (kc_tuple K rfl) rfl T.n_tuple boot_tuple (pa_con (pe_slice (ks_list K rfl) (mv 3) (mp_some (pe_op mo_sub (pe_callB (kc_len K rfl) rfl T.n_len PySem.boot_len (pa_con (mv 3) pa_nil)) (mv 5))) po_none) pa_nil)) pa_nil)))) pa_nil))))))) (pss_cons (ps_if (mt_cmp mo_eq (pe_callB (kc_len K rfl) rfl T.n_len PySem.boot_len (pa_con (mv 3) pa_nil)) pe_int (nomark _)) (pss_one (ps_ret (pe_tup (pa_con pe_str (pa_con pe_int pa_nil))))) pss_nil) (pss_one (ps_ret (pe_ix (ki_seq K rfl) (mv 3) pe_int (fun _ _ => rfl)))))))), ?_⟩
  rename_i cp np wp
  obtain ⟨cs, xs, ws, hC, c1, hX, x1, x2, hW, w1, w2, w3, q⟩ := h
  walk_at "stp"
  refine ⟨ln (by show 0 ≤ 100000; decide), fun p1 hp1 => ?_⟩
  have sp1 : Same H (upd H p1 (.lst [])) := same_new hp1 _
  have kp1 : (upd H p1 (.lst [])) p1 = some (.lst []) := upd_same
  generalize upd H p1 (.lst []) = H1 at sp1 kp1 ⊢
  walk_at "stp"
  refine ⟨cp, rfl, ⟨_, sp1.seq hC⟩, ?_⟩
  refine for_row (row_list (xs := cs.map V.int)) (fun i σ' H' => ∃ (o4 o5 o6 : Option V) (p : Addr) (us : List V) (ts : List Trm), σ' = [some (.ref cp), some (.ref np), some (.ref wp), some (.ref p), o4, o5, o6] ∧ Same H H' ∧ H p = none ∧ H' p = some (.lst us) ∧ LeftOk K H' us xs ts ∧ Trm.sizeL ts ≤ i ∧ ts.length ≤ i) ⟨none, none, none, p1, [], [], rfl, sp1, hp1, kp1, ⟨.nil, fun t ht => by simp at ht⟩, Nat.le_refl _, Nat.le_refl _⟩ (fun i σ' H' hP => by obtain ⟨_, _, _, _, _, _, _, s, _⟩ := hP; exact s.seq hC) (fun i σ' H' hi hP => ?_) (fun σ' H' hP => ?_)
  · obtain ⟨o4, o5, o6, p, us, ts, rfl, s1, hp, kp, lo, z1, z2⟩ := hP
    obtain ⟨c, hc⟩ := ints_get hi
    rw [hc]
    have hi40 : i < 40 := by rw [List.length_map] at hi; omega
    have lul := lo.len
    walk_at "stp"
    refine iteB (fun e => ?_) (fun e => ?_)
    · walk_at "stp"
      refine ⟨.inl ⟨rfl, _, SqL.of kp⟩, ?_⟩
      walk_at "stp"
      refine fun v => ?_
      walk_at "stp"
      refine ⟨ln (by show 2 ≤ 100000; decide), fun p2 hp2 => ?_⟩
      have sp2 : Same H' (upd H' p2 (.tup [.str (Str.ofString "num"), .int v])) := same_new hp2 _
      have kp2 : (upd H' p2 (.tup [.str (Str.ofString "num"), .int v])) p2 = some (.tup [.str (Str.ofString "num"), .int v]) := upd_same
      generalize upd H' p2 (.tup [.str (Str.ofString "num"), .int v]) = H2 at sp2 kp2 ⊢
      walk_at "stp"
      refine mAppend_i (sp2 _ _ kp) (ln1 (by omega)) ?_
      have lo2 := (lo.mono sp2).snoc (num_den (SqT.of kp2)) (t := .num v) trivial
      refine ⟨_, _, _, p, _, ts ++ [.num v], rfl, same_upd (s1.trans sp2) hp, hp, upd_same, ⟨lo2.den.lst (sp2 _ _ kp), lo2.vs⟩, ?_, ?_⟩
      · rw [Trm.sizeL_app]; simp only [Trm.sizeL, Trm.size]; omega
      · rw [List.length_append, List.length_singleton]; omega
    walk_at "stp"
    refine iteB (fun e => ?_) (fun e => ?_)
    · walk_at "stp"
      refine ⟨.inl ⟨rfl, _, SqL.of kp⟩, ?_⟩
      walk_at "stp"
      refine mLen_l (s1.seq hX) ?_
      walk_at "stp"
      rw [List.length_map]
      refine m2_i (show (0 : Int) < (xs.length : Int) by omega) ?_
      walk_at "stp"
      have b1 := Int.emod_nonneg (c / 7) (show (xs.length : Int) ≠ 0 by omega)
      have b2 := Int.emod_lt_of_pos (c / 7) (show (0 : Int) < (xs.length : Int) by omega)
      obtain ⟨v, hv, _⟩ := atI_lt (xs := xs.map V.str) b1 (by rw [List.length_map]; exact b2)
      obtain ⟨x, rfl, hx⟩ := strs_at hv
      refine mIx_l (s1.seq hX) hv ?_
      walk_at "stp"
      refine ⟨ln (by show 2 ≤ 100000; decide), fun p2 hp2 => ?_⟩
      have sp2 : Same H' (upd H' p2 (.tup [.str (Str.ofString "any"), .str x])) := same_new hp2 _
      have kp2 : (upd H' p2 (.tup [.str (Str.ofString "any"), .str x])) p2 = some (.tup [.str (Str.ofString "any"), .str x]) := upd_same
      generalize upd H' p2 (.tup [.str (Str.ofString "any"), .str x]) = H2 at sp2 kp2 ⊢
      walk_at "stp"
      refine mAppend_i (sp2 _ _ kp) (ln1 (by omega)) ?_
      have lo2 := (lo.mono sp2).snoc (any_den (SqT.of kp2)) (t := .any x) (by simpa [vin] using hx)
      refine ⟨_, _, _, p, _, ts ++ [.any x], rfl, same_upd (s1.trans sp2) hp, hp, upd_same, ⟨lo2.den.lst (sp2 _ _ kp), lo2.vs⟩, ?_, ?_⟩
      · rw [Trm.sizeL_app]; simp only [Trm.sizeL, Trm.size]; omega
      · rw [List.length_append, List.length_singleton]; omega
    walk_at "stp"
    refine mLen_l (SqL.of kp) ?_
    walk_at "stp"
    obtain ⟨mn, hmn, hm1⟩ : ∃ mn : Nat, (if (us.length : Int) < c / 7 % 5 then (us.length : Int) else c / 7 % 5) = (mn : Int) ∧ mn ≤ us.length := by
      split
      · exact ⟨us.length, rfl, Nat.le_refl _⟩
      · exact ⟨(c / 7 % 5).toNat, by omega, by omega⟩
    rw [hmn]
    refine mLen_l (SqL.of kp) ?_
    walk_at "stp"
    refine mSlL_i (SqL.of kp) (fun p2 hp2 => ?_)
    rw [cut_from _ _ (show (0 : Int) ≤ (us.length : Int) - mn by omega), show ((us.length : Int) - (mn : Int)).toNat = us.length - mn by omega]
    have s2 := same_new hp2 (.lst (us.drop (us.length - mn)))
    have k2 : (upd H' p2 (.lst (us.drop (us.length - mn)))) p2 = some (.lst (us.drop (us.length - mn))) := upd_same
    generalize upd H' p2 (.lst (us.drop (us.length - mn))) = H2 at s2 k2 ⊢
    walk_at "stp"
    refine mTup_l (SqL.of k2) (fun p3 hp3 => ?_)
    have s3 := same_new hp3 (.tup (us.drop (us.length - mn)))
    have k3 : (upd H2 p3 (.tup (us.drop (us.length - mn)))) p3 = some (.tup (us.drop (us.length - mn))) := upd_same
    generalize upd H2 p3 (.tup (us.drop (us.length - mn))) = H3 at s3 k3 ⊢
    have s13 := s2.trans s3
    walk_at "stp"
    refine mLen_l (SqL.of (s13 _ _ kp)) ?_
    walk_at "stp"
    refine mSlL_i (SqL.of (s13 _ _ kp)) (fun p4 hp4 => ?_)
    rw [cut_to _ _ (show (0 : Int) ≤ (us.length : Int) - mn by omega), show ((us.length : Int) - (mn : Int)).toNat = us.length - mn by omega]
    have s4 := same_new hp4 (.lst (us.take (us.length - mn)))
    have k4 : (upd H3 p4 (.lst (us.take (us.length - mn)))) p4 = some (.lst (us.take (us.length - mn))) := upd_same
    generalize upd H3 p4 (.lst (us.take (us.length - mn))) = H4 at s4 k4 ⊢
    walk_at "stp"
    refine ⟨ws, ((s1.trans s13).trans s4).seq hW, w1, w2, w3, fun sg H5 hsg s5 => ?_⟩
    walk_at "stp"
    refine ⟨ln (by show 3 ≤ 100000; decide), fun p6 hp6 => ?_⟩
    have sp6 : Same H5 (upd H5 p6 (.tup [.str (Str.ofString "app"), .str sg, .ref p3])) := same_new hp6 _
    have kp6 : (upd H5 p6 (.tup [.str (Str.ofString "app"), .str sg, .ref p3])) p6 = some (.tup [.str (Str.ofString "app"), .str sg, .ref p3]) := upd_same
    generalize upd H5 p6 (.tup [.str (Str.ofString "app"), .str sg, .ref p3]) = H6 at sp6 kp6 ⊢
    walk_at "stp"
    refine ⟨ln (by show 1 ≤ 100000; decide), fun p7 hp7 => ?_⟩
    have sp7 : Same H6 (upd H6 p7 (.lst [.ref p6])) := same_new hp7 _
    have kp7 : (upd H6 p7 (.lst [.ref p6])) p7 = some (.lst [.ref p6]) := upd_same
    generalize upd H6 p7 (.lst [.ref p6]) = H7 at sp7 kp7 ⊢
    walk_at "stp"
    have s57 := s5.trans (sp6.trans sp7)
    refine mAdd_l (s57 _ _ k4) kp7 (ln (by rw [List.length_take, List.length_singleton]; omega)) (fun p8 hp8 => ?_)
    have s8 := same_new hp8 (.lst (us.take (us.length - mn) ++ [.ref p6]))
    have s48 := s4.trans (s57.trans s8)
    have s18 := s13.trans s48
    have lo8 := lo.mono s18
    have dapp : Den K (upd H7 p8 (.lst (us.take (us.length - mn) ++ [.ref p6]))) (.ref p6) (Trm.app sg (ts.drop (us.length - mn))).data := app_den (SqT.of (s8 _ _ (sp7 _ _ kp6))) (SqT.of (s48 _ _ k3)) (lo8.drop _).den
    walk_at "stp"
    refine ⟨_, _, _, p8, _, ts.take (us.length - mn) ++ [.app sg (ts.drop (us.length - mn))], rfl, s1.trans s18, none_back (s1.trans (s13.trans (s4.trans s57))) hp8, upd_same, (lo8.take _).snoc dapp (by simp only [vin]; exact vinL_iff.mpr (lo8.drop _).vs), ?_, ?_⟩
    · have := sizeL_cut ts (us.length - mn)
      rw [Trm.sizeL_app]
      simp only [Trm.sizeL, Trm.size]
      omega
    · rw [List.length_append, List.length_singleton, List.length_take]
      omega
  · obtain ⟨o4, o5, o6, p, us, ts, rfl, s1, hp, kp, lo, z1, z2⟩ := hP
    rw [List.length_map] at z1 z2
    walk_at "stp"
    refine while_row (fun n σ' J => ∃ (o5 : Option V) (p : Addr) (us : List V) (ts : List Trm), σ' = [some (.ref cp), some (.ref np), some (.ref wp), some (.ref p), o4, o5, o6] ∧ Same H J ∧ J p = some (.lst us) ∧ LeftOk K J us xs ts ∧ Trm.sizeL ts + ts.length ≤ 2 * cs.length ∧ n = ts.length) ts.length ⟨o5, p, us, ts, rfl, s1, kp, lo, by omega, rfl⟩ (fun n σ' J R hP kT kF => ?_)
    obtain ⟨o5, p, us, ts, rfl, s1, kp, lo, z1, z2⟩ := hP
    have lul := lo.len
    walk_at "stp"
    refine mLen_l (SqL.of kp) ?_
    walk_at "stp"
    by_cases hl : 1 < us.length
    · rw [decide_eq_true (by omega)]
      refine kT _ (fun D' f1 f2 hnx hct => ?_)
      walk_at "stp"
      refine mLen_l (SqL.of kp) ?_
      walk_at "stp"
      obtain ⟨mn, hmn, hm1, hm2⟩ : ∃ mn : Nat, (if (us.length : Int) < 4 then (us.length : Int) else 4) = (mn : Int) ∧ mn ≤ us.length ∧ 2 ≤ mn := by
        split
        · exact ⟨us.length, rfl, Nat.le_refl _, by omega⟩
        · exact ⟨4, rfl, by omega, by omega⟩
      rw [hmn]
      refine mLen_l (SqL.of kp) ?_
      walk_at "stp"
      refine mSlL_i (SqL.of kp) (fun p4 hp4 => ?_)
      rw [cut_to _ _ (show (0 : Int) ≤ (us.length : Int) - mn by omega), show ((us.length : Int) - (mn : Int)).toNat = us.length - mn by omega]
      have s4 := same_new hp4 (.lst (us.take (us.length - mn)))
      have k4 : (upd J p4 (.lst (us.take (us.length - mn)))) p4 = some (.lst (us.take (us.length - mn))) := upd_same
      generalize upd J p4 (.lst (us.take (us.length - mn))) = H4 at s4 k4 ⊢
      walk_at "stp"
      obtain ⟨v0, hv0, _⟩ := atI_lt (xs := ws.map V.str) (i := 0) (by decide) (by rw [List.length_map]; omega)
      obtain ⟨sg, rfl, hsg⟩ := strs_at hv0
      refine mIx_l ((s1.trans s4).seq hW) hv0 ?_
      walk_at "stp"
      refine mLen_l (SqL.of (s4 _ _ kp)) ?_
      walk_at "stp"
      refine mSlL_i (SqL.of (s4 _ _ kp)) (fun p2 hp2 => ?_)
      rw [cut_from _ _ (show (0 : Int) ≤ (us.length : Int) - mn by omega), show ((us.length : Int) - (mn : Int)).toNat = us.length - mn by omega]
      have s2 := same_new hp2 (.lst (us.drop (us.length - mn)))
      have k2 : (upd H4 p2 (.lst (us.drop (us.length - mn)))) p2 = some (.lst (us.drop (us.length - mn))) := upd_same
      generalize upd H4 p2 (.lst (us.drop (us.length - mn))) = H2 at s2 k2 ⊢
      walk_at "stp"
      refine mTup_l (SqL.of k2) (fun p3 hp3 => ?_)
      have s3 := same_new hp3 (.tup (us.drop (us.length - mn)))
      have k3 : (upd H2 p3 (.tup (us.drop (us.length - mn)))) p3 = some (.tup (us.drop (us.length - mn))) := upd_same
      generalize upd H2 p3 (.tup (us.drop (us.length - mn))) = H3 at s3 k3 ⊢
      walk_at "stp"
      refine ⟨ln (by show 3 ≤ 100000; decide), fun p6 hp6 => ?_⟩
      have sp6 : Same H3 (upd H3 p6 (.tup [.str (Str.ofString "app"), .str sg, .ref p3])) := same_new hp6 _
      have kp6 : (upd H3 p6 (.tup [.str (Str.ofString "app"), .str sg, .ref p3])) p6 = some (.tup [.str (Str.ofString "app"), .str sg, .ref p3]) := upd_same
      generalize upd H3 p6 (.tup [.str (Str.ofString "app"), .str sg, .ref p3]) = H6 at sp6 kp6 ⊢
      walk_at "stp"
      refine ⟨ln (by show 1 ≤ 100000; decide), fun p7 hp7 => ?_⟩
      have sp7 : Same H6 (upd H6 p7 (.lst [.ref p6])) := same_new hp7 _
      have kp7 : (upd H6 p7 (.lst [.ref p6])) p7 = some (.lst [.ref p6]) := upd_same
      generalize upd H6 p7 (.lst [.ref p6]) = H7 at sp7 kp7 ⊢
      walk_at "stp"
      have s37 := sp6.trans sp7
      have s27 := s2.trans (s3.trans s37)
      refine mAdd_l (s27 _ _ k4) kp7 (ln (by rw [List.length_take, List.length_singleton]; omega)) (fun p8 hp8 => ?_)
      have s8 := same_new hp8 (.lst (us.take (us.length - mn) ++ [.ref p6]))
      have s18 := s4.trans (s27.trans s8)
      have lo8 := lo.mono s18
      have dapp : Den K (upd H7 p8 (.lst (us.take (us.length - mn) ++ [.ref p6]))) (.ref p6) (Trm.app sg (ts.drop (us.length - mn))).data := app_den (SqT.of (s8 _ _ (sp7 _ _ kp6))) (SqT.of (s8 _ _ (s37 _ _ k3))) (lo8.drop _).den
      walk_at "stp"
      refine hnx _ _ (ts.length - mn + 1) (by omega) ⟨_, p8, _, ts.take (us.length - mn) ++ [.app sg (ts.drop (us.length - mn))], rfl, s1.trans s18, upd_same, (lo8.take _).snoc dapp (by simp only [vin]; exact vinL_iff.mpr (lo8.drop _).vs), ?_, ?_⟩
      · have := sizeL_cut ts (us.length - mn)
        rw [Trm.sizeL_app, List.length_append, List.length_singleton, List.length_take]
        simp only [Trm.sizeL, Trm.size]
        omega
      · rw [List.length_append, List.length_singleton, List.length_take]
        omega
    · rw [decide_eq_false (by omega)]
      refine kF _ ?_
      walk_at "stp"
      refine mLen_l (SqL.of kp) ?_
      walk_at "stp"
      match ts, us, lo, kp, lul, hl, z1 with
      | [], us, lo, kp, lul, hl, z1 =>
        refine iteB (fun e => ?_) (fun e => by have := of_decide_eq_false (xor_n e); simp at lul; simp [lul] at this)
        walk_at "stp"
        refine ⟨ln (by show 2 ≤ 100000; decide), fun p9 hp9 => ?_⟩
        exact q _ (.num 0) _ (s1.trans (same_new hp9 _)) (num_den (SqT.of upd_same)) (by simp [vin]) (by simp [Trm.size])
      | [t0], us, lo, kp, lul, hl, z1 =>
        match us, lo, kp, lul with
        | [u0], lo, kp, _ =>
        refine iteB (fun e => by have := of_decide_eq_true (xor_n e); simp at this) (fun e => ?_)
        walk_at "stp"
        refine mIx_l (SqL.of kp) (v := u0) rfl ?_
        have d0 := lo.den
        simp only [Trm.dataL] at d0
        cases d0 with
        | cons d1 d2 =>
          refine q _ t0 _ s1 d1 (lo.vs t0 (by simp)) ?_
          simp only [Trm.sizeL, List.length_singleton] at z1
          omega
      | _ :: _ :: _, us, lo, kp, lul, hl, z1 =>
        simp only [List.length_cons] at lul
        omega
end
theorem depthL_small : ∀ ts : List Trm, (∀ t ∈ ts, t.size ≤ 70) → PyData.depthAll (Trm.dataL ts) ≤ 140
  | [], _ => by simp [Trm.dataL, PyData.depthAll]
  | t :: r, h => by
    have h1 := Trm.depth_le t
    have h2 := depthL_small r fun u hu => h u (List.mem_cons_of_mem _ hu)
    have h3 := h t (List.mem_cons_self ..)
    simp only [Trm.dataL, PyData.depthAll]
    omega
theorem depth_strs : ∀ xs : List Str, PyData.depthAll (xs.map PyData.str) ≤ 5
  | [] => by simp [PyData.depthAll]
  | x :: r => by
    have h2 := depth_strs r
    simp only [List.map_cons, PyData.depthAll, PyData.depth]
    omega
section
variable {K : PySem.W.Frag} {H : Hp} {Q : VK} {p q : Addr} {us us' : List V} {n : Bool}
theorem eq_terms {ts : List Trm} (hp : SqL K H p us) (hq : SqL K H q us') (d : DenL K H us (Trm.dataL ts)) (d' : DenL K H us' (Trm.dataL ts)) (hz : ∀ t ∈ ts, t.size ≤ 70) (k : Q (.bl (!n)) H) : dEq K n (.ref p) (.ref q) H Q :=
  ⟨p, q, us, us', _, rfl, rfl, .inr ⟨hp, hq⟩, d, d', by have := depthL_small ts hz; omega, k⟩
theorem eq_strs {xs : List Str} (hp : SqL K H p (xs.map V.str)) (hq : SqL K H q (xs.map V.str)) (k : Q (.bl (!n)) H) : dEq K n (.ref p) (.ref q) H Q :=
  ⟨p, q, _, _, _, rfl, rfl, .inr ⟨hp, hq⟩, strs_den xs, strs_den xs, by have := depth_strs xs; omega, k⟩
end
theorem anew_small {ts : List Trm} (h : ∀ t ∈ ts, t.size ≤ 70) (f : Str → Str) : ∀ t ∈ renL f ts, t.size ≤ 70 := fun t ht => by
  rw [renL_map] at ht
  obtain ⟨u, hu, rfl⟩ := List.mem_map.mp ht
  rw [ren_size]
  exact h u hu
theorem dot7 : Str.ofString ".7" = dotS ++ tn 7 := by
  rw [tn, figs_lt (by decide)]
  decide +kernel
theorem str_assoc (a b c : Str) : a ++ b ++ c = a ++ (b ++ c) := Str.ext' (by show a.cps ++ b.cps ++ c.cps = a.cps ++ (b.cps ++ c.cps); simp)
theorem mrk7 (y : Str) : y ++ Str.ofString ".7" = mrk 7 y := by rw [dot7, mrk, str_assoc]
theorem mrk_len {n : Nat} {x : Str} (h : n < 10 ^ 30) : (mrk n x).length ≤ x.length + 31 := by
  have := tn_len h
  rw [mrk, strLen_append, strLen_append]
  show x.length + 1 + _ ≤ _
  omega
theorem mkA_at (f : Nat → Str → Str) : ∀ (u : List Str) (k i : Nat) (hi : i < u.length), (encS (mkA f k u))[i]? = some (Sum.inr u[i], V.str (f (k + i) u[i]))
  | x :: u, k, 0, _ => rfl
  | x :: u, k, i + 1, hi => by
    have := mkA_at f u (k + 1) i (by simpa using hi)
    rw [show k + 1 + i = k + (i + 1) by omega] at this
    exact this
  | [], _, _, hi => by simp at hi
section
variable {P : Program} {w : World} {K : PySem.W.Frag} {mg : Str → Option Value} {base : Heap} {t : Ad}
theorem ok_unknown (T : Txt K mg t)  : FnOk P w K mg base CX0 1 t.a_unknown t.d_unknown ["name"] (sp_unknown K) := by
  refine T.F_unknown.ok sc_unknown (fun vs H Q E h => ?_) (fun cdv A outer s H vs Q E hr h => ?_)
  · unfold sp_unknown at h
    split at h
    · rfl
    · exact h.elim
  unfold sp_unknown at h
  split at h
  rotate_left
  · exact h.elim
  refine ⟨_, (pss_one (ps_ret (pe_tup (pa_con pe_str (pa_con (mv 0) pa_nil))))), ?_⟩
  rename_i x
  walk_at "stp"
  exact ⟨ln (by show 2 ≤ 100000; decide), fun p hp => h _ _ (same_new hp _) (any_den (SqT.of upd_same))⟩
theorem ok_app (T : Txt K mg t)  : FnOk P w K mg base CX0 1 t.a_app t.d_app ["sign", "kids"] (sp_app K) := by
  refine T.F_app.ok sc_app (fun vs H Q E h => ?_) (fun cdv A outer s H vs Q E hr h => ?_)
  · unfold sp_app at h
    split at h
    · rfl
    · exact h.elim
  unfold sp_app at h
  split at h
  rotate_left
  · exact h.elim
  refine ⟨_, (pss_one (ps_ret (pe_tup (pa_con pe_str (pa_con (mv 0) (pa_con (pe_callTy (kc_tuple K rfl) rfl T.n_tuple boot_tuple (pa_con (mv 1) pa_nil)) pa_nil)))))), ?_⟩
  rename_i s kp
  obtain ⟨us, ts, hS, hd, q⟩ := h
  walk_at "stp"
  refine mTup_l hS (fun p2 hp2 => ?_)
  have s2 := same_new hp2 (.tup us)
  have k2 : (upd H p2 (.tup us)) p2 = some (.tup us) := upd_same
  generalize upd H p2 (.tup us) = H2 at s2 k2 ⊢
  walk_at "stp"
  refine ⟨ln (by show 3 ≤ 100000; decide), fun p3 hp3 => ?_⟩
  have s3 := same_new hp3 (.tup [.str (Str.ofString "app"), .str s, .ref p2])
  exact q _ _ (s2.trans s3) (app_den (SqT.of upd_same) (SqT.of (s3 _ _ k2)) (hd.mono (s2.trans s3)))
theorem st_renamed (T : Txt K mg t) (G_unknown : FnOk P w K mg base CX0 1 t.a_unknown t.d_unknown ["name"] (sp_unknown K)) (G_app : FnOk P w K mg base CX0 1 t.a_app t.d_app ["sign", "kids"] (sp_app K)) (n : Nat) (G_renamed : FnOk P w K mg base CX0 (n + 2) t.a_renamed t.d_renamed ["term", "names"] (sp_renamed K n)) : FnOk P w K mg base CX0 (n + 2 + 1) t.a_renamed t.d_renamed ["term", "names"] (sp_renamed K (n + 1)) := by
  refine T.F_renamed.ok (k := n + 2) sc_renamed (fun vs H Q E h => ?_) (fun cdv A outer s H vs Q E hr h => ?_)
  · unfold sp_renamed at h
    split at h
    · rfl
    · exact h.elim
  unfold sp_renamed at h
  split at h
  rotate_left
  · exact h.elim
  refine ⟨_, (pss_cons (ps_if (mt_cmp mo_eq (pe_ix (ki_seq K rfl) (mv 0) pe_int (fun _ _ => rfl)) pe_str (nomark _)) (pss_one (ps_ret (pe_call G_unknown (hr.mono (by first | decide | omega)) rfl T.m_unknown T.F_unknown.kp T.b_unknown .nil pass0 (pa_con (pe_dget (hu_of hr) (mv 1) (pe_ix (ki_seq K rfl) (mv 0) pe_int (fun _ _ => rfl)) (fun _ _ => rfl)) pa_nil)))) pss_nil) (pss_cons (ps_if (mt_cmp mo_eq (pe_ix (ki_seq K rfl) (mv 0) pe_int (fun _ _ => rfl)) pe_str (nomark _)) (pss_one (ps_ret (pe_call G_app (hr.mono (by first | decide | omega)) rfl T.m_app T.F_app.kp T.b_app .nil pass0 (pa_con (pe_ix (ki_seq K rfl) (mv 0) pe_int (fun _ _ => rfl)) (pa_con (pe_comp rfl (kpi_tup K rfl (pe_ix (ki_seq K rfl) (mv 0) pe_int (fun _ _ => rfl))) (comp_sc (defScope s_renamed) ["term", "names"] ["term", "names"] rfl rfl (by decide +kernel)) (fun _ _ _ _ _ => pts_nil) (fun _ _ _ _ _ => (pe_call G_renamed (hr.mono (by first | decide | omega)) rfl T.m_renamed T.F_renamed.kp T.b_renamed .nil pass0 (pa_con (mv 0) (pa_con (mv 2) pa_nil))))) pa_nil))))) pss_nil) (pss_one (ps_ret (mv 0))))), ?_⟩
  rename_i v d
  obtain ⟨t0, as, hd, hD, hv, hz, hn, q⟩ := h
  walk_at "stp"
  cases t0 with
  | any x =>
    obtain ⟨a, rfl, hs⟩ := den_any hd
    refine mIx_t hs (v := .str anyS) rfl ?_
    walk_at "stp"
    rw [Bool.false_xor, q3]
    refine iteT ?_
    walk_at "stp"
    refine mIx_t hs (v := .str x) rfl ?_
    walk_at "stp"
    have dg : DGet H d (.str x) (valV (encS as) (Sum.inr x)) := DGet.k (k := Sum.inr x) hD
    rw [val_sub (hv x (by simp [vars]))] at dg
    refine ⟨d, _, rfl, dg, ?_⟩
    walk_at "stp"
    intro w H' s' dw
    exact q w H' s' (by rw [ren]; exact dw)
  | num m =>
    obtain ⟨a, rfl, hs⟩ := den_num hd
    refine mIx_t hs (v := .str numS) rfl ?_
    walk_at "stp"
    rw [Bool.false_xor, q1]
    refine iteF ?_
    walk_at "stp"
    refine mIx_t hs (v := .str numS) rfl ?_
    walk_at "stp"
    refine iteB (fun e => absurd e (by decide +kernel)) (fun e => ?_)
    walk_at "stp"
    exact q _ H (Same.refl _) (by rw [ren]; exact hd)
  | app sg ks =>
    obtain ⟨a, b, us, rfl, hs, hb, hk⟩ := den_app hd
    have hkl := den_len hk
    simp only [Trm.size] at hz
    refine mIx_t hs (v := .str appS) rfl ?_
    walk_at "stp"
    rw [Bool.false_xor, q2]
    refine iteF ?_
    walk_at "stp"
    refine mIx_t hs (v := .str appS) rfl ?_
    walk_at "stp"
    refine iteB (fun e => ?_) (fun e => absurd e (by decide +kernel))
    walk_at "stp"
    refine mIx_t hs (v := .str sg) rfl ?_
    walk_at "stp"
    refine mIx_t hs (v := .ref b) rfl ?_
    refine ⟨b, rfl, ⟨_, hb⟩, fun D hD' => ?_⟩
    have zl := Trm.len_le ks
    refine comp_row (row_tup (xs := us)) (fun i ys J => Same H J ∧ J D = some (.lst ys) ∧ DenL K J ys (Trm.dataL (renL (sub as) (ks.take i)))) (ln (by omega)) ⟨same_new hD' _, upd_same, by rw [List.take_zero, renL]; exact .nil⟩ (fun i ys J hP => hP.1.tup hb) (fun i ys J Q' hi hl' hP k => ?_) (fun ys J hl' hP => ?_)
    · obtain ⟨g1, g2, g3⟩ := hP
      have hki : i < ks.length := by omega
      obtain ⟨hu, dk⟩ := denL_at hk hki
      have z1 := size_get (List.getElem?_eq_getElem hki)
      walk_at "stp"
      rw [getD_at hu]
      refine ⟨ks[i], as, dk.mono g1, g1 _ _ hD, fun x hx => hv x ?_, by omega, by omega, fun x J2 s2 dx => ?_⟩
      · rw [vars]
        have : ∀ (l : List Trm) (i : Nat) (h : i < l.length), x ∈ vars l[i] → x ∈ varsL l := by
          intro l
          induction l with
          | nil => intro i h; simp at h
          | cons a r ih =>
            intro i h hx
            rw [varsL, List.mem_append]
            cases i with
            | zero => exact .inl hx
            | succ i => exact .inr (ih i (by simpa using h) (by simpa using hx))
        exact this ks i hki hx
      · have g6 : J2 D = some (.lst ys) := s2 _ _ g2
        refine k _ _ g6 ⟨same_upd (g1.trans s2) hD', upd_same, ?_⟩
        rw [take_succ' hki, renL_map, List.map_append, ← renL_map, dataL_app]
        exact ((g3.mono s2).append (.cons dx .nil)).lst g6
    obtain ⟨g1, g2, g3⟩ := hP
    rw [List.take_of_length_le (by omega)] at g3
    walk_at "stp"
    refine ⟨ys, _, SqL.of g2, g3, fun w J2 s2 dw => ?_⟩
    exact q w J2 (g1.trans s2) (by rw [ren]; exact dw)
theorem ok_renamed (T : Txt K mg t) (G_unknown : FnOk P w K mg base CX0 1 t.a_unknown t.d_unknown ["name"] (sp_unknown K)) (G_app : FnOk P w K mg base CX0 1 t.a_app t.d_app ["sign", "kids"] (sp_app K)) (n : Nat) : FnOk P w K mg base CX0 (n + 2) t.a_renamed t.d_renamed ["term", "names"] (sp_renamed K n) := by
  induction n with
  | zero =>
    have no : ∀ vs H Q E, (sp_renamed K 0) vs H Q E → False := fun vs H Q E h => by
      unfold sp_renamed at h
      split at h
      · exact no_renamed h
      · exact h
    exact ⟨fun vs H Q E h => (no vs H Q E h).elim, fun A outer s H args us vs Q E _ _ _ _ h => (no vs H Q E h).elim⟩
  | succ n ih =>
    have e : n + 1 + 2 = n + 2 + 1 := by omega
    rw [e]
    exact st_renamed T G_unknown G_app n ih
theorem ok_unknowns_of (T : Txt K mg t)  : FnOk P w K mg base CX0 1 t.a_unknowns_of t.d_unknowns_of ["terms"] (sp_unknowns_of K) := by
  refine T.F_unknowns_of.ok sc_unknowns_of (fun vs H Q E h => ?_) (fun cdv A outer s H vs Q E hr h => ?_)
  · unfold sp_unknowns_of at h
    split at h
    · rfl
    · exact h.elim
  unfold sp_unknowns_of at h
  split at h
  rotate_left
  · exact h.elim
  refine ⟨_, (pss_cons (ps_set (i := 1) sc_unknowns_of.nd rfl (by first | exact Or.inl rfl | exact Or.inr rfl) pe_dnewK) (pss_cons (ps_set (i := 2) (hs := sw_call) sc_unknowns_of.nd rfl (by first | exact Or.inl rfl | exact Or.inr rfl) (pe_listRev K rfl rfl rfl T.n_list rfl T.n_reversed (pa_con (mv 0) pa_nil))) (pss_cons (ps_while PassesOwn.never (kt_tru K rfl (mv 2)) (pss_cons (ps_set (i := 3) (hs := sw_call) sc_unknowns_of.nd rfl (by first | exact Or.inl rfl | exact Or.inr rfl) (ke_bm0 K rfl PySem.F.plainAttrs_list PySem.F.slot_list_pop PySem.F.type_list_pop mm_pop (mv 2))) (pss_one (ps_if (mt_cmp mo_eq (pe_ix (ki_seq K rfl) (mv 3) pe_int (fun _ _ => rfl)) pe_str (nomark _)) (pss_one (ps_dput (hu_of hr) (mv 1) (pe_ix (ki_seq K rfl) (mv 3) pe_int (fun _ _ => rfl)) pe_bl rfl)) (pss_one (ps_if (mt_cmp mo_eq (pe_ix (ki_seq K rfl) (mv 3) pe_int (fun _ _ => rfl)) pe_str (nomark _)) (pss_one (ps_expr (ke_bm K rfl PySem.F.plainAttrs_list PySem.F.slot_list_extend PySem.F.type_list_extend (km_extend K rfl) (mv 2) (pa_con (pe_listRev K rfl rfl rfl T.n_list rfl T.n_reversed (pa_con (pe_ix (ki_seq K rfl) (mv 3) pe_int (fun _ _ => rfl)) pa_nil)) pa_nil)))) pss_nil)))))) (pss_one (ps_ret (pe_callTy (mc_listK rfl) rfl T.n_list boot_list (pa_con (mv 1) pa_nil))))))), ?_⟩
  rename_i a
  obtain ⟨us, ts, hS, hd, hz, q⟩ := h
  have hul := den_len hd
  have tl := Trm.len_le ts
  walk_at "stp"
  intro pd hpd
  have s1 := same_new hpd (.dK [])
  have k1 : (upd H pd (.dK [])) pd = some (.dK []) := upd_same
  generalize upd H pd (.dK []) = H1 at s1 k1 ⊢
  walk_at "stp"
  refine ⟨a, us, rfl, .inl (s1.seq hS), by omega, fun pt hpt => ?_⟩
  have s2 := same_new hpt (.lst us.reverse)
  have k2 : (upd H1 pt (.lst us.reverse)) pt = some (.lst us.reverse) := upd_same
  generalize upd H1 pt (.lst us.reverse) = H2 at s2 k2 ⊢
  have hpt0 : H pt = none := none_back s1 hpt
  have hne : pd ≠ pt := fun z => by rw [z, hpt] at k1; cases k1
  have d2 : DenL K H2 us.reverse (Trm.dataL ts.reverse) := by rw [← dataL_rev]; exact My.DenL.rev (hd.mono (s1.trans s2))
  walk_at "stp"
  refine while_row (fun n σ' H' => ∃ (ws : List V) (st : List Trm) (acc : List Str) (o1 : Option V), σ' = [some (.ref a), some (.ref pd), some (.ref pt), o1] ∧ H' pt = some (.lst ws) ∧ DenL K H' ws (Trm.dataL st) ∧ H' pd = some (.dK (encB acc)) ∧ acc.length + Trm.sizeL st ≤ 1000 ∧ ordL st.reverse acc = ordL ts [] ∧ n = Trm.sizeL st ∧ Same H H') (Trm.sizeL ts.reverse) ⟨us.reverse, ts.reverse, [], none, rfl, k2, d2, s2 _ _ k1, by rw [sizeL_rev]; simpa using hz, by rw [List.reverse_reverse], rfl, s1.trans s2⟩ (fun n σ' H' R hP kT kF => ?_)
  obtain ⟨ws, st, acc, o1, rfl, h1, h2, h3, h4, h5, h6, h7⟩ := hP
  walk_at "stp"
  refine .inl ⟨ws, SqL.of h1, ?_⟩
  rcases nil_or_snoc' st with rfl | ⟨st', t1, rfl⟩
  · have e : ws = [] := by have := den_len h2; simpa using this
    subst e
    refine kF H' ?_
    walk_at "stp"
    refine ⟨pd, _, rfl, .inl h3, fun pr hpr => ?_⟩
    rw [encB_keys]
    rw [List.reverse_nil, ordL] at h5
    rw [h5]
    exact q pr _ (same_upd h7 (none_back h7 hpr)) (none_back h7 hpr) upd_same
  · rw [dataL_app] at h2
    obtain ⟨ws', w, rfl, g1, g2⟩ := DenL.snoc h2
    have hwl := den_len g1
    have hsl := Trm.len_le st'
    have e : (!(ws' ++ [w]).isEmpty) = true := by simp
    rw [e]
    have hsz := Trm.sizeL_app st' [t1]
    have hs1 : Trm.sizeL [t1] = t1.size := by simp [Trm.sizeL]
    have tpos := t1.size_pos
    rw [List.reverse_append, List.reverse_singleton, List.singleton_append, ordL] at h5
    refine kT H' (fun D' e1 e2 hnx hct => ?_)
    walk_at "stp"
    refine ⟨.inl ⟨rfl, _, SqL.of h1⟩, ?_⟩
    refine mPop_i h1 ?_
    walk_at "stp"
    have f1 : DenL K (upd H' pt (.lst ws')) ws' (Trm.dataL st') := g1.lst h1
    have f2 : Den K (upd H' pt (.lst ws')) w t1.data := g2.lst h1
    have f3 : Same H (upd H' pt (.lst ws')) := same_upd h7 hpt0
    have f4 : (upd H' pt (.lst ws')) pt = some (.lst ws') := upd_same
    have f5 : (upd H' pt (.lst ws')) pd = some (.dK (encB acc)) := by rw [upd_ne hne]; exact h3
    generalize upd H' pt (.lst ws') = J at f1 f2 f3 f4 f5 ⊢
    cases t1 with
    | any x =>
      obtain ⟨b, rfl, hb⟩ := den_any f2
      refine mIx_t hb (v := .str anyS) rfl ?_
      walk_at "stp"
      rw [Bool.false_xor, q3]
      refine iteT ?_
      walk_at "stp"
      refine mIx_t hb (v := .str x) rfl ?_
      walk_at "stp"
      refine ⟨pd, _, rfl, DPut.k (k := Sum.inr x) f5 (by rw [encB_len, sizeLine_eq]; omega), ?_⟩
      rw [encB_put]
      have bb : But pd J (upd J pd (.dK (encB (ord (.any x) acc)))) := but_upd
      have ol := ord_len (.any x) acc
      refine hnx _ _ (Trm.sizeL st') (by omega) ⟨ws', st', ord (.any x) acc, _, rfl, bb _ _ hne.symm f4, f1.monoT (butD_tup bb f5), upd_same, by omega, h5, rfl, fr_same f3 bb hpd⟩
    | num m =>
      obtain ⟨b, rfl, hb⟩ := den_num f2
      refine mIx_t hb (v := .str numS) rfl ?_
      walk_at "stp"
      rw [Bool.false_xor, q1]
      refine iteF ?_
      walk_at "stp"
      refine mIx_t hb (v := .str numS) rfl ?_
      walk_at "stp"
      refine iteB (fun e => absurd e (by decide +kernel)) (fun e => ?_)
      walk_at "stp"
      rw [ord] at h5
      exact hnx _ _ (Trm.sizeL st') (by omega) ⟨ws', st', acc, _, rfl, f4, f1, f5, by omega, h5, rfl, f3⟩
    | app sg ks =>
      obtain ⟨b, c, ku, rfl, hb, hc, hk⟩ := den_app f2
      have hkl := den_len hk
      have kl := Trm.len_le ks
      simp only [Trm.size] at hs1 tpos
      refine mIx_t hb (v := .str appS) rfl ?_
      walk_at "stp"
      rw [Bool.false_xor, q2]
      refine iteF ?_
      walk_at "stp"
      refine mIx_t hb (v := .str appS) rfl ?_
      walk_at "stp"
      refine iteB (fun e => ?_) (fun e => absurd e (by decide +kernel))
      walk_at "stp"
      refine ⟨.inl ⟨rfl, _, SqL.of f4⟩, ?_⟩
      walk_at "stp"
      refine mIx_t hb (v := .ref c) rfl ?_
      walk_at "stp"
      refine ⟨c, ku, rfl, .inr hc, by omega, fun pr hpr => ?_⟩
      have s5 := same_new hpr (.lst ku.reverse)
      have k5 : (upd J pr (.lst ku.reverse)) pr = some (.lst ku.reverse) := upd_same
      generalize upd J pr (.lst ku.reverse) = J5 at s5 k5 ⊢
      walk_at "stp"
      refine mExt_l (s5 _ _ f4) k5 (ln (by rw [List.length_reverse]; omega)) ?_
      walk_at "stp"
      rw [ord] at h5
      have sz := Trm.sizeL_app st' ks.reverse
      rw [sizeL_rev] at sz
      have k6 := s5 _ _ f4
      refine hnx _ _ (Trm.sizeL (st' ++ ks.reverse)) (by omega) ⟨ws' ++ ku.reverse, st' ++ ks.reverse, acc, _, rfl, upd_same, ?_, ?_, by omega, ?_, rfl, same_upd (f3.trans s5) hpt0⟩
      · rw [dataL_app, ← dataL_rev]
        exact ((f1.mono s5).append (My.DenL.rev (hk.mono s5))).lst k6
      · rw [upd_ne hne]
        exact s5 _ _ f5
      · rw [List.reverse_append, List.reverse_reverse, ordL_app]
        exact h5
end
section
variable {P : Program} {w : World} {K : PySem.W.Frag} {mg : Str → Option Value} {base : Heap} {t : Ad}
theorem ok_told_anew (T : Txt K mg t) (G_unknowns_of : FnOk P w K mg base CX0 1 t.a_unknowns_of t.d_unknowns_of ["terms"] (sp_unknowns_of K)) (G_renamed : FnOk P w K mg base CX0 72 t.a_renamed t.d_renamed ["term", "names"] (sp_renamed K 70)) : FnOk P w K mg base CX0 73 t.a_told_anew t.d_told_anew ["terms"] (sp_told_anew K) := by
  refine T.F_told_anew.ok sc_told_anew (fun vs H Q E h => ?_) (fun cdv A outer s H vs Q E hr h => ?_)
  · unfold sp_told_anew at h
    split at h
    · rfl
    · exact h.elim
  unfold sp_told_anew at h
  split at h
  rotate_left
  · exact h.elim
  refine ⟨_, (pss_cons (ps_set (i := 1) sc_told_anew.nd rfl (by first | exact Or.inl rfl | exact Or.inr rfl) pe_dnewK) (pss_cons (ps_for PassesOwn.never rfl (kpi_list K rfl (pe_call G_unknowns_of (hr.mono (by first | decide | omega)) rfl T.m_unknowns_of T.F_unknowns_of.kp T.b_unknowns_of .nil pass0 (pa_con (mv 0) pa_nil))) (pg_name (i := 2) sc_told_anew.nd rfl (by first | exact Or.inl rfl | exact Or.inr rfl)) (pss_cons (ps_set (i := 3) (hs := sw_bin) sc_told_anew.nd rfl (by first | exact Or.inl rfl | exact Or.inr rfl) (pe_op (ko_add K rfl) (pe_callB call_lenD rfl T.n_len PySem.boot_len (pa_con (mv 1) pa_nil)) pe_int)) (pss_one (ps_dput (hu_of hr) (mv 1) (mv 2) (pe_f2n (mv 3)) rfl)))) (pss_one (ps_ret (pe_comp rfl (kpi_list K rfl (mv 0)) (comp_sc (defScope s_told_anew) ["terms", "names", "name", "number"] ["terms", "names", "name", "number"] rfl rfl (by decide +kernel)) (fun _ _ _ _ _ => pts_nil) (fun _ _ _ _ _ => (pe_call G_renamed (hr.mono (by first | decide | omega)) rfl T.m_renamed T.F_renamed.kp T.b_renamed .nil pass0 (pa_con (mv 0) (pa_con (mv 2) pa_nil))))))))), ?_⟩
  rename_i a
  obtain ⟨us, ts, hS, hd, hz, hz70, q⟩ := h
  have hul := den_len hd
  have tl := Trm.len_le ts
  walk_at "stp"
  intro pd hpd
  have s1 := same_new hpd (.dK [])
  have k1 : (upd H pd (.dK [])) pd = some (.dK []) := upd_same
  generalize upd H pd (.dK []) = H1 at s1 k1 ⊢
  walk_at "stp"
  refine ⟨us, ts, s1.seq hS, hd.mono s1, hz, fun p H2 s2 hp kp => ?_⟩
  have hu := nodL ts
  have hl := ordL_len ts []
  have hv : ∀ x ∈ varsL ts, x ∈ ordL ts [] := fun x hx => varL_ord hx
  have han : anew ts = renL (sub (mkA (fun j _ => uS ++ tn (j + 1)) 0 (ordL ts []))) ts := rfl
  generalize ordL ts [] = u at hu hl hv kp han
  rw [List.length_nil, Nat.zero_add] at hl
  have hne : pd ≠ p := fun z => by rw [← z, k1] at hp; cases hp
  refine ⟨p, rfl, ⟨_, SqL.of kp⟩, ?_⟩
  refine for_row (row_list (xs := u.map V.str)) (fun i σ' J => ∃ (o1 o2 : Option V), σ' = [some (.ref a), some (.ref pd), o1, o2] ∧ J pd = some (.dK (encS (mkA (fun j _ => uS ++ tn (j + 1)) 0 (u.take i)))) ∧ J p = some (.lst (u.map V.str)) ∧ Same H J) ⟨none, none, rfl, by rw [List.take_zero]; exact s2 _ _ k1, kp, s1.trans s2⟩ (fun i σ' J hP => by obtain ⟨_, _, _, _, h, _⟩ := hP; exact SqL.of h) (fun i σ' J hi hP => ?_) (fun σ' J hP => ?_)
  · obtain ⟨o1, o2, rfl, g1, g2, g3⟩ := hP
    rw [List.length_map] at hi
    rw [strs_getD hi]
    walk_at "stp"
    refine ⟨pd, _, rfl, g1, ?_⟩
    rw [enc_len, mkA_len, List.length_take, Nat.min_eq_left (by omega)]
    walk_at "stp"
    obtain ⟨l1, l2, l3⟩ := fs_int (i := (i : Int) + 1) (by omega) (by omega)
    refine ⟨_, rfl, l1, l2, ?_⟩
    rw [l3]
    walk_at "stp"
    refine ⟨pd, _, rfl, DPut.k (k := Sum.inr u[i]) g1 (by rw [enc_len, mkA_len, List.length_take, sizeLine_eq]; omega), ?_⟩
    rw [put_mkA (fun j _ => uS ++ tn (j + 1)) hu hi (by show Str.ofString "U" ++ tn ((i : Int) + 1).toNat = uS ++ tn (i + 1); rw [show ((i : Int) + 1).toNat = i + 1 by omega]; rfl)]
    have bb := but_upd (p := pd) (H := J) (o := .dK (encS (mkA (fun j _ => uS ++ tn (j + 1)) 0 (u.take (i + 1)))))
    exact ⟨_, _, rfl, upd_same, bb _ _ hne.symm g2, fr_same g3 bb hpd⟩
  obtain ⟨o1, o2, rfl, g1, g2, g3⟩ := hP
  rw [List.length_map, List.take_length] at g1
  walk_at "stp"
  refine ⟨a, rfl, ⟨_, g3.seq hS⟩, fun D hD => ?_⟩
  refine comp_row (row_list (xs := us)) (fun i ys J2 => Same J J2 ∧ J2 D = some (.lst ys) ∧ DenL K J2 ys (Trm.dataL (renL (sub (mkA (fun j _ => uS ++ tn (j + 1)) 0 u)) (ts.take i)))) (ln (by omega)) ⟨same_new hD _, upd_same, by rw [List.take_zero, renL]; exact .nil⟩ (fun i ys J2 hP => hP.1.seq (g3.seq hS)) (fun i ys J2 Q' hi hl' hP k => ?_) (fun ys J2 hl' hP => ?_)
  · obtain ⟨f1, f2, f3⟩ := hP
    have hki : i < ts.length := by omega
    obtain ⟨hui, dk⟩ := denL_at hd hki
    walk_at "stp"
    rw [getD_at hui]
    refine ⟨ts[i], _, (dk.mono g3).mono f1, f1 _ _ g1, fun x hx => ?_, hz70 _ (List.getElem_mem hki), by omega, fun x J3 s3 dx => ?_⟩
    · rw [mkA_keys]
      exact hv x (vars_in (List.getElem_mem hki) x hx)
    · have g6 : J3 D = some (.lst ys) := s3 _ _ f2
      refine k _ _ g6 ⟨same_upd (f1.trans s3) hD, upd_same, ?_⟩
      rw [take_succ' hki, renL_map, List.map_append, ← renL_map, dataL_app]
      exact ((f3.mono s3).append (.cons dx .nil)).lst g6
  obtain ⟨f1, f2, f3⟩ := hP
  rw [List.take_of_length_le (by omega), ← han] at f3
  exact q D ys J2 (g3.trans f1) (none_back g3 hD) f2 f3
theorem ok_alike (T : Txt K mg t) (G_told_anew : FnOk P w K mg base CX0 73 t.a_told_anew t.d_told_anew ["terms"] (sp_told_anew K)) : FnOk P w K mg base CX0 74 t.a_alike t.d_alike ["one", "other"] (sp_alike K) := by
  refine T.F_alike.ok sc_alike (fun vs H Q E h => ?_) (fun cdv A outer s H vs Q E hr h => ?_)
  · unfold sp_alike at h
    split at h
    · rfl
    · exact h.elim
  unfold sp_alike at h
  split at h
  rotate_left
  · exact h.elim
  refine ⟨_, (pss_one (ps_ret (pe_cmpR (ko_eq1T K rfl (room150 hr)) (pe_call G_told_anew (hr.mono (by first | decide | omega)) rfl T.m_told_anew T.F_told_anew.kp T.b_told_anew .nil pass0 (pa_con (pe_lst (pa_con (mv 0) pa_nil)) pa_nil)) (pe_call G_told_anew (hr.mono (by first | decide | omega)) rfl T.m_told_anew T.F_told_anew.kp T.b_told_anew .nil pass0 (pa_con (pe_lst (pa_con (mv 1) pa_nil)) pa_nil)) (nomark _)))), ?_⟩
  rename_i v v'
  obtain ⟨t, t', hd, hd', hz, hz', q⟩ := h
  walk_at "stp"
  refine ⟨ln (by show 1 ≤ 100000; decide), fun p1 hp1 => ?_⟩
  have sp1 : Same H (upd H p1 (.lst [v])) := same_new hp1 _
  have kp1 : (upd H p1 (.lst [v])) p1 = some (.lst [v]) := upd_same
  generalize upd H p1 (.lst [v]) = H1 at sp1 kp1 ⊢
  walk_at "stp"
  walk_at "stp"
  refine ⟨[v], [t], SqL.of kp1, .cons (hd.mono sp1) .nil, by simp only [Trm.sizeL]; omega, fun x hx => by rw [List.mem_singleton.mp hx]; exact hz, fun p us H2 s2 hp kp dp => ?_⟩
  rw [anew_one] at dp
  obtain ⟨u, rfl, du⟩ : ∃ u, us = [u] ∧ Den K H2 u (canon fU t).data := by
    have hl := den_len dp
    match us, hl, dp with
    | [u], _, .cons d .nil => exact ⟨u, rfl, d⟩
  walk_at "stp"
  refine ⟨ln (by show 1 ≤ 100000; decide), fun p3 hp3 => ?_⟩
  have sp3 : Same H2 (upd H2 p3 (.lst [v'])) := same_new hp3 _
  have kp3 : (upd H2 p3 (.lst [v'])) p3 = some (.lst [v']) := upd_same
  generalize upd H2 p3 (.lst [v']) = H3 at sp3 kp3 ⊢
  walk_at "stp"
  walk_at "stp"
  have s03 := sp1.trans (s2.trans sp3)
  refine ⟨[v'], [t'], SqL.of kp3, .cons (hd'.mono s03) .nil, by simp only [Trm.sizeL]; omega, fun x hx => by rw [List.mem_singleton.mp hx]; exact hz', fun p' us' H4 s4 hp' kp' dp' => ?_⟩
  rw [anew_one] at dp'
  obtain ⟨u', rfl, du'⟩ : ∃ u, us' = [u] ∧ Den K H4 u (canon fU t').data := by
    have hl := den_len dp'
    match us', hl, dp' with
    | [u], _, .cons d .nil => exact ⟨u, rfl, d⟩
  have s24 := sp3.trans s4
  walk_at "stp"
  refine mEq1T_i (SqL.of (s24 _ _ kp)) (SqL.of kp') (du.mono s24) du' (by rw [canon, ren_size]; exact hz) ?_
  exact q _ (s03.trans s4)
theorem ok_marked (T : Txt K mg t) (G_unknowns_of : FnOk P w K mg base CX0 1 t.a_unknowns_of t.d_unknowns_of ["terms"] (sp_unknowns_of K)) (G_renamed : FnOk P w K mg base CX0 72 t.a_renamed t.d_renamed ["term", "names"] (sp_renamed K 70)) : FnOk P w K mg base CX0 73 t.a_marked t.d_marked ["term", "n"] (sp_marked K) := by
  refine T.F_marked.ok sc_marked (fun vs H Q E h => ?_) (fun cdv A outer s H vs Q E hr h => ?_)
  · unfold sp_marked at h
    split at h
    · rfl
    · exact h.elim
  unfold sp_marked at h
  split at h
  rotate_left
  · exact h.elim
  refine ⟨_, (pss_cons (ps_set (i := 2) sc_marked.nd rfl (by first | exact Or.inl rfl | exact Or.inr rfl) pe_dnewK) (pss_cons (ps_for PassesOwn.never rfl (kpi_list K rfl (pe_call G_unknowns_of (hr.mono (by first | decide | omega)) rfl T.m_unknowns_of T.F_unknowns_of.kp T.b_unknowns_of .nil pass0 (pa_con (pe_lst (pa_con (mv 0) pa_nil)) pa_nil))) (pg_name (i := 3) sc_marked.nd rfl (by first | exact Or.inl rfl | exact Or.inr rfl)) (pss_one (ps_dput (hu_of hr) (mv 2) (mv 3) (pe_f3n (mv 3) (mv 1)) rfl))) (pss_one (ps_ret (pe_call G_renamed (hr.mono (by first | decide | omega)) rfl T.m_renamed T.F_renamed.kp T.b_renamed .nil pass0 (pa_con (mv 0) (pa_con (mv 2) pa_nil))))))), ?_⟩
  rename_i v n
  obtain ⟨t, hd, hz, h0, h30, hx30, q⟩ := h
  walk_at "stp"
  intro pd hpd
  have s1 := same_new hpd (.dK [])
  have k1 : (upd H pd (.dK [])) pd = some (.dK []) := upd_same
  generalize upd H pd (.dK []) = H1 at s1 k1 ⊢
  walk_at "stp"
  refine ⟨ln (by show 1 ≤ 100000; decide), fun p1 hp1 => ?_⟩
  have sp1 : Same H1 (upd H1 p1 (.lst [v])) := same_new hp1 _
  have kp1 : (upd H1 p1 (.lst [v])) p1 = some (.lst [v]) := upd_same
  generalize upd H1 p1 (.lst [v]) = H2 at sp1 kp1 ⊢
  walk_at "stp"
  walk_at "stp"
  refine ⟨[v], [t], SqL.of kp1, .cons (hd.mono (s1.trans sp1)) .nil, by simp only [Trm.sizeL]; omega, fun p H3 s3 hp kp => ?_⟩
  rw [ordL_one] at kp
  have hu := nod0 t
  have hl := ord_len t []
  have hv : ∀ x ∈ vars t, x ∈ ord t [] := fun x hx => var_ord hx
  have hvx : ∀ x ∈ ord t [], x.length ≤ 1000 := fun x hx => hx30 x (ord_var hx)
  have han : ren (sub (mkA (fun _ x => mrk n.toNat x) 0 (ord t []))) t = ren (mrk n.toNat) t := mrk_sub
  generalize ord t [] = u at hu hl hv kp han hvx
  rw [List.length_nil, Nat.zero_add] at hl
  have s13 := sp1.trans s3
  have hne : pd ≠ p := fun z => by have := sp1 _ _ k1; rw [z, hp] at this; cases this
  refine ⟨p, rfl, ⟨_, SqL.of kp⟩, ?_⟩
  refine for_row (row_list (xs := u.map V.str)) (fun i σ' J => ∃ (o1 : Option V), σ' = [some v, some (.int n), some (.ref pd), o1] ∧ J pd = some (.dK (encS (mkA (fun _ x => mrk n.toNat x) 0 (u.take i)))) ∧ J p = some (.lst (u.map V.str)) ∧ Same H J) ⟨none, rfl, by rw [List.take_zero]; exact s13 _ _ k1, kp, s1.trans s13⟩ (fun i σ' J hP => by obtain ⟨_, _, _, h, _⟩ := hP; exact SqL.of h) (fun i σ' J hi hP => ?_) (fun σ' J hP => ?_)
  · obtain ⟨o1, rfl, g1, g2, g3⟩ := hP
    rw [List.length_map] at hi
    rw [strs_getD hi]
    walk_at "stp"
    obtain ⟨l1, l2, l3⟩ := fs_int (i := n) h0 h30
    have hxl := hvx _ (List.getElem_mem hi)
    refine ⟨u[i], rfl, by omega, ?_⟩
    walk_at "stp"
    refine ⟨n, rfl, l1, l2, ?_⟩
    rw [l3]
    walk_at "stp"
    refine ⟨pd, _, rfl, DPut.k (k := Sum.inr u[i]) g1 (by rw [enc_len, mkA_len, List.length_take, sizeLine_eq]; omega), ?_⟩
    rw [put_mkA (fun _ x => mrk n.toNat x) hu hi (y := u[i] ++ Str.ofString "." ++ tn n.toNat) rfl]
    have bb := but_upd (p := pd) (H := J) (o := .dK (encS (mkA (fun _ x => mrk n.toNat x) 0 (u.take (i + 1)))))
    exact ⟨_, rfl, upd_same, bb _ _ hne.symm g2, fr_same g3 bb hpd⟩
  obtain ⟨o1, rfl, g1, g2, g3⟩ := hP
  rw [List.length_map, List.take_length] at g1
  walk_at "stp"
  refine ⟨t, _, hd.mono g3, g1, fun x hx => by rw [mkA_keys]; exact hv x hx, hz, by omega, fun x J2 s2 dx => ?_⟩
  rw [han] at dx
  exact q x J2 (g3.trans s2) dx
end
section
variable {P : Program} {w : World} {K : PySem.W.Frag} {mg : Str → Option Value} {base : Heap} {t : Ad}
theorem st_l_order (T : Txt K mg t)  (n : Nat) (G_l_order : FnOk P w K mg base CX0 (n + 2) t.a_l_order t.d_l_order ["_law_terms", "_law_found"] (sp_l_order K n)) : FnOk P w K mg base CX0 (n + 2 + 1) t.a_l_order t.d_l_order ["_law_terms", "_law_found"] (sp_l_order K (n + 1)) := by
  refine T.F_l_order.ok (k := n + 2) sc_l_order (fun vs H Q E h => ?_) (fun cdv A outer s H vs Q E hr h => ?_)
  · unfold sp_l_order at h
    split at h
    · rfl
    · exact h.elim
  unfold sp_l_order at h
  split at h
  rotate_left
  · exact h.elim
  refine ⟨_, (pss_cons (ps_for PassesOwn.never rfl (kpi_seq K rfl (mv 0)) (pg_name (i := 2) sc_l_order.nd rfl (by first | exact Or.inl rfl | exact Or.inr rfl)) (pss_cons (ps_if (PW.pt (pw_and (mt_cmp mo_eq (pe_ix (ki_seq K rfl) (mv 2) pe_int (fun _ _ => rfl)) pe_str (nomark _)) (pw_and1 (mt_cmp (ko_ninV K rfl) (pe_ix (ki_seq K rfl) (mv 2) pe_int (fun _ _ => rfl)) (mv 1) (by with_unfolding_all rfl))))) (pss_one (ps_set (i := 1) (hs := sw_bin) sc_l_order.nd rfl (by first | exact Or.inl rfl | exact Or.inr rfl) (pe_op (ko_add K rfl) (mv 1) (pe_lst (pa_con (pe_ix (ki_seq K rfl) (mv 2) pe_int (fun _ _ => rfl)) pa_nil))))) pss_nil) (pss_one (ps_if (mt_cmp mo_eq (pe_ix (ki_seq K rfl) (mv 2) pe_int (fun _ _ => rfl)) pe_str (nomark _)) (pss_one (ps_set (i := 1) (hs := sw_call) sc_l_order.nd rfl (by first | exact Or.inl rfl | exact Or.inr rfl) (pe_call G_l_order (hr.mono (by first | decide | omega)) rfl T.m_l_order T.F_l_order.kp T.b_l_order .nil pass0 (pa_con (pe_ix (ki_seq K rfl) (mv 2) pe_int (fun _ _ => rfl)) (pa_con (mv 1) pa_nil))))) pss_nil)))) (pss_one (ps_ret (mv 1)))), ?_⟩
  rename_i a f
  obtain ⟨us, ts, acc, hS, hd, hf, hz, hlt, hn0, hn, q⟩ := h
  have hul := den_len hd
  walk_at "stp"
  refine ⟨a, rfl, iSeq_for hS (Same.refl _) fun J Ok rowJ hok => ?_⟩
  refine for_row rowJ (fun i σ' H' => ∃ (o1 : Option V) (pf : Addr), σ' = [some (.ref a), some (.ref pf), o1] ∧ Same H H' ∧ H' pf = some (.lst ((ordL (ts.take i) acc).map V.str))) ⟨none, f, rfl, Same.refl _, by rw [List.take_zero, ordL]; exact hf⟩ (fun i σ' H' hP => by obtain ⟨_, _, _, s1, _⟩ := hP; exact hok H' s1) (fun i σ' H' hi hP => ?_) (fun σ' H' hP => ?_)
  · obtain ⟨o1, pf, rfl, s1, k1⟩ := hP
    have hti : i < ts.length := by omega
    obtain ⟨hui, dk⟩ := denL_at hd hti
    have dk := dk.mono s1
    have hord : ordL (ts.take (i + 1)) acc = ord ts[i] (ordL (ts.take i) acc) := by rw [take_succ' hti, ordL_app, ordL_one]
    have hl1 := ordL_len (ts.take i) acc
    have hl2 := sizeL_take ts (i + 1)
    rw [take_succ' hti, Trm.sizeL_app] at hl2
    have hl3 : Trm.sizeL [ts[i]] = ts[i].size := by simp [Trm.sizeL]
    have hlt1 := hlt _ (List.getElem_mem hti)
    rw [getD_at hui]
    generalize ts[i] = t1 at dk hord hl2 hl3 hlt1
    generalize ordL (ts.take i) acc = ac at k1 hord hl1
    walk_at "stp"
    cases t1 with
    | any x =>
      obtain ⟨b, e0, hb⟩ := den_any dk
      rw [e0]
      refine mIx_t hb (v := .str anyS) rfl ?_
      walk_at "stp"
      refine iteB (fun e => ?_) (fun e => absurd e (by decide +kernel))
      walk_at "stp"
      refine mIx_t hb (v := .str x) rfl ?_
      walk_at "stp"
      refine nin_strs ac (.inl (SqL.of k1)) ?_
      walk_at "stp"
      rw [ord] at hord
      by_cases hx : x ∈ ac
      · rw [decide_eq_true hx]
        refine iteF ?_
        rw [if_pos hx] at hord
        walk_at "stp"
        refine mIx_t hb (v := .str anyS) rfl ?_
        walk_at "stp"
        refine iteB (fun e => absurd e (by decide +kernel)) (fun e => ?_)
        walk_at "stp"
        exact ⟨_, pf, rfl, s1, by rw [hord]; exact k1⟩
      · rw [decide_eq_false hx]
        refine iteT ?_
        rw [if_neg hx] at hord
        walk_at "stp"
        refine mIx_t hb (v := .str x) rfl ?_
        walk_at "stp"
        refine ⟨ln (by show 1 ≤ 100000; decide), fun p1 hp1 => ?_⟩
        have sp1 : Same H' (upd H' p1 (.lst [.str x])) := same_new hp1 _
        have kp1 : (upd H' p1 (.lst [.str x])) p1 = some (.lst [.str x]) := upd_same
        generalize upd H' p1 (.lst [.str x]) = H2 at sp1 kp1 ⊢
        walk_at "stp"
        walk_at "stp"
        refine mAdd_l (sp1 _ _ k1) kp1 (ln (by rw [List.length_map]; show ac.length + 1 ≤ _; omega)) (fun d hdn => ?_)
        have s3 := same_new hdn (.lst (ac.map V.str ++ [.str x]))
        have k3 : (upd H2 d (.lst (ac.map V.str ++ [.str x]))) d = some (.lst (ac.map V.str ++ [.str x])) := upd_same
        generalize upd H2 d (.lst (ac.map V.str ++ [.str x])) = H3 at s3 k3 ⊢
        have hb := (sp1.trans s3).tup hb
        walk_at "stp"
        refine mIx_t hb (v := .str anyS) rfl ?_
        walk_at "stp"
        refine iteB (fun e => absurd e (by decide +kernel)) (fun e => ?_)
        walk_at "stp"
        exact ⟨_, d, rfl, s1.trans (sp1.trans s3), by rw [hord, List.map_append]; exact k3⟩
    | num m =>
      obtain ⟨b, e0, hb⟩ := den_num dk
      rw [e0]
      refine mIx_t hb (v := .str numS) rfl ?_
      walk_at "stp"
      refine iteB (fun e => absurd e (by decide +kernel)) (fun e => ?_)
      refine iteF ?_
      walk_at "stp"
      refine mIx_t hb (v := .str numS) rfl ?_
      walk_at "stp"
      refine iteB (fun e => absurd e (by decide +kernel)) (fun e => ?_)
      walk_at "stp"
      rw [ord] at hord
      exact ⟨_, pf, rfl, s1, by rw [hord]; exact k1⟩
    | app sg ks =>
      obtain ⟨b, c, ku, e0, hb, hc, hk⟩ := den_app dk
      rw [e0]
      simp only [Trm.size] at hl3 hlt1
      refine mIx_t hb (v := .str appS) rfl ?_
      walk_at "stp"
      refine iteB (fun e => absurd e (by decide +kernel)) (fun e => ?_)
      refine iteF ?_
      walk_at "stp"
      refine mIx_t hb (v := .str appS) rfl ?_
      walk_at "stp"
      refine iteB (fun e => ?_) (fun e => absurd e (by decide +kernel))
      walk_at "stp"
      refine mIx_t hb (v := .ref c) rfl ?_
      walk_at "stp"
      rw [ord] at hord
      refine ⟨ku, ks, ac, .inr hc, hk, k1, by omega, fun t ht => ?_, by omega, by omega, fun p H2 s2 kp => ?_⟩
      · have := mem_size ht
        omega
      walk_at "stp"
      exact ⟨_, p, rfl, s1.trans s2, by rw [hord]; exact kp⟩
  obtain ⟨o1, pf, rfl, s1, k1⟩ := hP
  rw [List.take_of_length_le (by omega)] at k1
  walk_at "stp"
  exact q pf H' s1 k1
theorem ok_l_order (T : Txt K mg t)  (n : Nat) : FnOk P w K mg base CX0 (n + 2) t.a_l_order t.d_l_order ["_law_terms", "_law_found"] (sp_l_order K n) := by
  induction n with
  | zero =>
    have no : ∀ vs H Q E, (sp_l_order K 0) vs H Q E → False := fun vs H Q E h => by
      unfold sp_l_order at h
      split at h
      · exact no_l_order h
      · exact h
    exact ⟨fun vs H Q E h => (no vs H Q E h).elim, fun A outer s H args us vs Q E _ _ _ _ h => (no vs H Q E h).elim⟩
  | succ n ih =>
    have e : n + 1 + 2 = n + 2 + 1 := by omega
    rw [e]
    exact st_l_order T  n ih
theorem st_l_called (T : Txt K mg t)  (n : Nat) (G_l_called : FnOk P w K mg base CX0 (n + 2) t.a_l_called t.d_l_called ["_law_term_here", "_law_new"] (sp_l_called K n)) : FnOk P w K mg base CX0 (n + 2 + 1) t.a_l_called t.d_l_called ["_law_term_here", "_law_new"] (sp_l_called K (n + 1)) := by
  refine T.F_l_called.ok (k := n + 2) sc_l_called (fun vs H Q E h => ?_) (fun cdv A outer s H vs Q E hr h => ?_)
  · unfold sp_l_called at h
    split at h
    · rfl
    · exact h.elim
  unfold sp_l_called at h
  split at h
  rotate_left
  · exact h.elim
  refine ⟨_, (pss_cons (ps_if (mt_cmp mo_eq (pe_ix (ki_seq K rfl) (mv 0) pe_int (fun _ _ => rfl)) pe_str (nomark _)) (pss_one (ps_ret (pe_tup (pa_con pe_str (pa_con (pe_dget2 (hu_of hr) (mv 1) (pe_ix (ki_seq K rfl) (mv 0) pe_int (fun _ _ => rfl)) (pe_ix (ki_seq K rfl) (mv 0) pe_int (fun _ _ => rfl)) ⟨rfl, rfl, rfl, rfl⟩) pa_nil))))) pss_nil) (pss_cons (ps_if (mt_cmp mo_eq (pe_ix (ki_seq K rfl) (mv 0) pe_int (fun _ _ => rfl)) pe_str (nomark _)) (pss_one (ps_ret (mv 0))) pss_nil) (pss_one (ps_ret (pe_tup (pa_con pe_str (pa_con (pe_ix (ki_seq K rfl) (mv 0) pe_int (fun _ _ => rfl)) (pa_con (pe_callTy (kc_tuple K rfl) rfl T.n_tuple boot_tuple (pa_con (pe_comp rfl (kpi_tup K rfl (pe_ix (ki_seq K rfl) (mv 0) pe_int (fun _ _ => rfl))) (comp_sc (defScope s_l_called) ["_law_term_here", "_law_new"] ["_law_term_here", "_law_new"] rfl rfl (by decide +kernel)) (fun _ _ _ _ _ => pts_nil) (fun _ _ _ _ _ => (pe_call G_l_called (hr.mono (by first | decide | omega)) rfl T.m_l_called T.F_l_called.kp T.b_l_called .nil pass0 (pa_con (mv 0) (pa_con (mv 2) pa_nil))))) pa_nil)) pa_nil)))))))), ?_⟩
  rename_i v d
  obtain ⟨t0, as, hd, hD, hz, hn, q⟩ := h
  walk_at "stp"
  cases t0 with
  | any x =>
    obtain ⟨a, rfl, hs⟩ := den_any hd
    refine mIx_t hs (v := .str anyS) rfl ?_
    walk_at "stp"
    rw [Bool.false_xor, q3]
    refine iteT ?_
    walk_at "stp"
    refine ⟨d, rfl, .inl ⟨_, .inl hD⟩, ?_⟩
    walk_at "stp"
    refine mIx_t hs (v := .str x) rfl ?_
    walk_at "stp"
    refine mIx_t hs (v := .str x) rfl ?_
    refine ⟨_, DGet.k (k := Sum.inr x) hD, ?_⟩
    rw [val_getD]
    walk_at "stp"
    refine ⟨ln (by show 2 ≤ 100000; decide), fun p hp => ?_⟩
    exact q _ _ (same_new hp _) (by rw [ren]; exact any_den (SqT.of upd_same))
  | num m =>
    obtain ⟨a, rfl, hs⟩ := den_num hd
    refine mIx_t hs (v := .str numS) rfl ?_
    walk_at "stp"
    rw [Bool.false_xor, q1]
    refine iteF ?_
    walk_at "stp"
    refine mIx_t hs (v := .str numS) rfl ?_
    walk_at "stp"
    refine iteB (fun e => ?_) (fun e => absurd e (by decide +kernel))
    walk_at "stp"
    exact q _ H (Same.refl _) (by rw [ren]; exact hd)
  | app sg ks =>
    obtain ⟨a, b, us, rfl, hs, hb, hk⟩ := den_app hd
    have hkl := den_len hk
    simp only [Trm.size] at hz
    refine mIx_t hs (v := .str appS) rfl ?_
    walk_at "stp"
    rw [Bool.false_xor, q2]
    refine iteF ?_
    walk_at "stp"
    refine mIx_t hs (v := .str appS) rfl ?_
    walk_at "stp"
    refine iteB (fun e => absurd e (by decide +kernel)) (fun e => ?_)
    walk_at "stp"
    refine mIx_t hs (v := .str sg) rfl ?_
    walk_at "stp"
    refine mIx_t hs (v := .ref b) rfl ?_
    refine ⟨b, rfl, ⟨_, hb⟩, fun D hD' => ?_⟩
    have zl := Trm.len_le ks
    refine comp_row (row_tup (xs := us)) (fun i ys J => Same H J ∧ J D = some (.lst ys) ∧ DenL K J ys (Trm.dataL (renL (sub as) (ks.take i)))) (ln (by omega)) ⟨same_new hD' _, upd_same, by rw [List.take_zero, renL]; exact .nil⟩ (fun i ys J hP => hP.1.tup hb) (fun i ys J Q' hi hl' hP k => ?_) (fun ys J hl' hP => ?_)
    · obtain ⟨g1, g2, g3⟩ := hP
      have hki : i < ks.length := by omega
      obtain ⟨hu, dk⟩ := denL_at hk hki
      have z1 := size_get (List.getElem?_eq_getElem hki)
      walk_at "stp"
      rw [getD_at hu]
      refine ⟨ks[i], as, dk.mono g1, g1 _ _ hD, by omega, by omega, fun x J2 s2 dx => ?_⟩
      have g6 : J2 D = some (.lst ys) := s2 _ _ g2
      refine k _ _ g6 ⟨same_upd (g1.trans s2) hD', upd_same, ?_⟩
      rw [take_succ' hki, renL_map, List.map_append, ← renL_map, dataL_app]
      exact ((g3.mono s2).append (.cons dx .nil)).lst g6
    obtain ⟨g1, g2, g3⟩ := hP
    rw [List.take_of_length_le (by omega)] at g3
    walk_at "stp"
    refine mTup_l (SqL.of g2) (fun p2 hp2 => ?_)
    have s2 := same_new hp2 (.tup ys)
    have k2 : (upd J p2 (.tup ys)) p2 = some (.tup ys) := upd_same
    generalize upd J p2 (.tup ys) = J2 at s2 k2 ⊢
    walk_at "stp"
    refine ⟨ln (by show 3 ≤ 100000; decide), fun p3 hp3 => ?_⟩
    have s3 := same_new hp3 (.tup [.str (Str.ofString "app"), .str sg, .ref p2])
    have ss := s2.trans s3
    exact q _ _ (g1.trans ss) (by rw [ren]; exact app_den (SqT.of upd_same) (SqT.of (s3 _ _ k2)) (g3.mono ss))
theorem ok_l_called (T : Txt K mg t)  (n : Nat) : FnOk P w K mg base CX0 (n + 2) t.a_l_called t.d_l_called ["_law_term_here", "_law_new"] (sp_l_called K n) := by
  induction n with
  | zero =>
    have no : ∀ vs H Q E, (sp_l_called K 0) vs H Q E → False := fun vs H Q E h => by
      unfold sp_l_called at h
      split at h
      · exact no_l_called h
      · exact h
    exact ⟨fun vs H Q E h => (no vs H Q E h).elim, fun A outer s H args us vs Q E _ _ _ _ h => (no vs H Q E h).elim⟩
  | succ n ih =>
    have e : n + 1 + 2 = n + 2 + 1 := by omega
    rw [e]
    exact st_l_called T  n ih
end
section
variable {P : Program} {w : World} {K : PySem.W.Frag} {mg : Str → Option Value} {base : Heap} {t : Ad}
theorem ok_l_is_term (T : Txt K mg t)  : FnOk P w K mg base CX0 1 t.a_l_is_term t.d_l_is_term ["_law_thing"] (sp_l_is_term K) := by
  refine T.F_l_is_term.ok sc_l_is_term (fun vs H Q E h => ?_) (fun cdv A outer s H vs Q E hr h => ?_)
  · unfold sp_l_is_term at h
    split at h
    · rfl
    · exact h.elim
  unfold sp_l_is_term at h
  split at h
  rotate_left
  · exact h.elim
  refine ⟨_, (pss_cons (ps_set (i := 1) (hs := sw_lst) sc_l_is_term.nd rfl (by first | exact Or.inl rfl | exact Or.inr rfl) (pe_lst (pa_con (mv 0) pa_nil))) (pss_cons (ps_while PassesOwn.never (mt_cmp mo_gt (pe_callB (kc_len K rfl) rfl T.n_len PySem.boot_len (pa_con (mv 1) pa_nil)) pe_int (nomark _)) (pss_cons (ps_set (i := 2) (hs := sw_call) sc_l_is_term.nd rfl (by first | exact Or.inl rfl | exact Or.inr rfl) (ke_bm0 K rfl PySem.F.plainAttrs_list PySem.F.slot_list_pop PySem.F.type_list_pop mm_pop (mv 1))) (pss_cons (ps_if (PW.pt (pw_or (pt_not (kt_tru K rfl (pe_callB (kc_is K rfl) rfl T.n_isinstance boot_isinstance (pa_con (mv 2) (pa_con (pe_bty rfl T.n_tuple boot_tuple) pa_nil))))) (pw_or (mt_cmp mo_lt (pe_callB (kc_len K rfl) rfl T.n_len PySem.boot_len (pa_con (mv 2) pa_nil)) pe_int (nomark _)) (pw_or1 (pt_not (kt_tru K rfl (pe_callB (kc_is K rfl) rfl T.n_isinstance boot_isinstance (pa_con (pe_ix (ki_seq K rfl) (mv 2) pe_int (fun _ _ => rfl)) (pa_con (pe_bty rfl T.n_str boot_str) pa_nil))))))))) (pss_one (ps_ret pe_bl)) pss_nil) (pss_one (ps_if (mt_cmp mo_eq (pe_ix (ki_seq K rfl) (mv 2) pe_int (fun _ _ => rfl)) pe_str (nomark _)) (pss_one (ps_if (PW.pt (pw_or (mt_cmp mo_ne (pe_callB (kc_len K rfl) rfl T.n_len PySem.boot_len (pa_con (mv 2) pa_nil)) pe_int (nomark _)) (pw_or (pt_not (kt_tru K rfl (pe_callB (kc_is K rfl) rfl T.n_isinstance boot_isinstance (pa_con (pe_ix (ki_seq K rfl) (mv 2) pe_int (fun _ _ => rfl)) (pa_con (pe_bty rfl T.n_int boot_int) pa_nil))))) (pw_or1 (kt_tru K rfl (pe_callB (kc_is K rfl) rfl T.n_isinstance boot_isinstance (pa_con (pe_ix (ki_seq K rfl) (mv 2) pe_int (fun _ _ => rfl)) (pa_con (pe_bty rfl T.n_bool boot_bool) pa_nil)))))))) (pss_one (ps_ret pe_bl)) pss_nil)) (pss_one (ps_if (mt_cmp mo_eq (pe_ix (ki_seq K rfl) (mv 2) pe_int (fun _ _ => rfl)) pe_str (nomark _)) (pss_cons (ps_if (PW.pt (pw_or (mt_cmp mo_ne (pe_callB (kc_len K rfl) rfl T.n_len PySem.boot_len (pa_con (mv 2) pa_nil)) pe_int (nomark _)) (pw_or (pt_not (kt_tru K rfl (pe_callB (kc_is K rfl) rfl T.n_isinstance boot_isinstance (pa_con (pe_ix (ki_seq K rfl) (mv 2) pe_int (fun _ _ => rfl)) (pa_con (pe_bty rfl T.n_str boot_str) pa_nil))))) (pw_or1 (pt_not (kt_tru K rfl (pe_callB (kc_is K rfl) rfl T.n_isinstance boot_isinstance (pa_con (pe_ix (ki_seq K rfl) (mv 2) pe_int (fun _ _ => rfl)) (pa_con (pe_bty rfl T.n_tuple boot_tuple) pa_nil))))))))) (pss_one (ps_ret pe_bl)) pss_nil) (pss_one (ps_expr (ke_bm K rfl PySem.F.plainAttrs_list PySem.F.slot_list_extend PySem.F.type_list_extend (km_extend K rfl) (mv 1) (pa_con (pe_ix (ki_seq K rfl) (mv 2) pe_int (fun _ _ => rfl)) pa_nil))))) (pss_one (ps_if (PW.pt (pw_or (mt_cmp mo_ne (pe_ix (ki_seq K rfl) (mv 2) pe_int (fun _ _ => rfl)) pe_str (nomark _)) (pw_or (mt_cmp mo_ne (pe_callB (kc_len K rfl) rfl T.n_len PySem.boot_len (pa_con (mv 2) pa_nil)) pe_int (nomark _)) (pw_or1 (pt_not (kt_tru K rfl (pe_callB (kc_is K rfl) rfl T.n_isinstance boot_isinstance (pa_con (pe_ix (ki_seq K rfl) (mv 2) pe_int (fun _ _ => rfl)) (pa_con (pe_bty rfl T.n_str boot_str) pa_nil))))))))) (pss_one (ps_ret pe_bl)) pss_nil))))))))) (pss_one (ps_ret pe_bl)))), ?_⟩
  rename_i v
  obtain ⟨t0, hd, hz, q⟩ := h
  walk_at "stp"
  refine ⟨ln (by show 1 ≤ 100000; decide), fun p hp => ?_⟩
  have sp : Same H (upd H p (.lst [v])) := same_new hp _
  have kp : (upd H p (.lst [v])) p = some (.lst [v]) := upd_same
  generalize upd H p (.lst [v]) = H1 at sp kp ⊢
  walk_at "stp"
  refine while_row (fun n σ' H' => ∃ (us : List V) (ts : List Trm) (o : Option V), σ' = [some v, some (.ref p), o] ∧ H' p = some (.lst us) ∧ DenL K H' us (Trm.dataL ts) ∧ Trm.sizeL ts ≤ 1000 ∧ n = Trm.sizeL ts ∧ Same H H') t0.size ⟨[v], [t0], none, rfl, kp, .cons (hd.mono sp) .nil, by simp [Trm.sizeL]; omega, by simp [Trm.sizeL], sp⟩ (fun n σ' H' R hP kT kF => ?_)
  obtain ⟨us, ts, o, rfl, h1, h2, h3, h4, h5⟩ := hP
  walk_at "stp"
  refine mLen_l (SqL.of h1) ?_
  walk_at "stp"
  rcases nil_or_snoc' ts with rfl | ⟨ts', t1, rfl⟩
  · have e := h2.nil_inv
    subst e
    refine kF H' ?_
    walk_at "stp"
    exact q H' h5
  · rw [Trm.dataL_map, List.map_append, ← Trm.dataL_map] at h2
    obtain ⟨us', u, rfl, g1, g2⟩ := DenL.snoc h2
    rw [Trm.sizeL_app] at h3 h4
    have s1 : Trm.sizeL [t1] = t1.size := by simp [Trm.sizeL]
    rw [s1] at h3 h4
    have hul := g1.length
    rw [Trm.dataL_map, List.length_map] at hul
    have htl := Trm.len_le ts'
    rw [decide_eq_true (show (0 : Int) < ((us' ++ [u]).length : Int) by rw [List.length_append, List.length_singleton]; omega)]
    refine kT H' (fun D' e1 e2 hnx hct => ?_)
    walk_at "stp"
    refine ⟨.inl ⟨rfl, _, SqL.of h1⟩, ?_⟩
    refine mPop_i h1 ?_
    walk_at "stp"
    have f1 : DenL K (upd H' p (.lst us')) us' (Trm.dataL ts') := g1.lst h1
    have f2 : Den K (upd H' p (.lst us')) u t1.data := g2.lst h1
    have f3 : Same H (upd H' p (.lst us')) := same_upd h5 hp
    have f4 : (upd H' p (.lst us')) p = some (.lst us') := upd_same
    generalize upd H' p (.lst us') = J at f1 f2 f3 f4 ⊢
    have tp := t1.size_pos
    cases t1 with
    | num m =>
      obtain ⟨a, rfl, hs⟩ := den_num f2
      refine is_tup hs ?_
      walk_at "stp"
      refine iteF ?_
      walk_at "stp"
      refine mLen_t hs ?_
      walk_at "stp"
      refine iteB (fun e => absurd e (by simp)) (fun e => ?_)
      walk_at "stp"
      refine mIx_t hs (v := .str numS) rfl ?_
      walk_at "stp"
      refine iteF ?_
      walk_at "stp"
      refine mIx_t hs (v := .str numS) rfl ?_
      walk_at "stp"
      rw [Bool.false_xor, q7]
      refine iteT ?_
      walk_at "stp"
      refine mLen_t hs ?_
      walk_at "stp"
      refine iteB (fun e => absurd e (by simp)) (fun e => ?_)
      walk_at "stp"
      refine mIx_t hs (v := .int m) rfl ?_
      walk_at "stp"
      refine iteF ?_
      walk_at "stp"
      refine mIx_t hs (v := .int m) rfl ?_
      walk_at "stp"
      refine iteF ?_
      walk_at "stp"
      exact hnx _ _ (Trm.sizeL ts') (by omega) ⟨us', ts', _, rfl, f4, f1, by omega, rfl, f3⟩
    | any m =>
      obtain ⟨a, rfl, hs⟩ := den_any f2
      refine is_tup hs ?_
      walk_at "stp"
      refine iteF ?_
      walk_at "stp"
      refine mLen_t hs ?_
      walk_at "stp"
      refine iteB (fun e => absurd e (by simp)) (fun e => ?_)
      walk_at "stp"
      refine mIx_t hs (v := .str anyS) rfl ?_
      walk_at "stp"
      refine iteF ?_
      walk_at "stp"
      refine mIx_t hs (v := .str anyS) rfl ?_
      walk_at "stp"
      refine iteB (fun e => absurd e (by decide +kernel)) (fun e => ?_)
      walk_at "stp"
      refine mIx_t hs (v := .str anyS) rfl ?_
      walk_at "stp"
      rw [Bool.false_xor, q5]
      refine iteF ?_
      walk_at "stp"
      refine mIx_t hs (v := .str anyS) rfl ?_
      walk_at "stp"
      refine iteB (fun e => absurd e (by decide +kernel)) (fun e => ?_)
      walk_at "stp"
      refine mLen_t hs ?_
      walk_at "stp"
      refine iteB (fun e => absurd e (by simp)) (fun e => ?_)
      walk_at "stp"
      refine mIx_t hs (v := .str m) rfl ?_
      walk_at "stp"
      refine iteF ?_
      walk_at "stp"
      exact hnx _ _ (Trm.sizeL ts') (by omega) ⟨us', ts', _, rfl, f4, f1, by omega, rfl, f3⟩
    | app sg ks =>
      obtain ⟨a, b, ku, rfl, hs, hb, hk⟩ := den_app f2
      have hkl := hk.length
      rw [Trm.dataL_map, List.length_map] at hkl
      have hk2 := Trm.len_le ks
      refine is_tup hs ?_
      walk_at "stp"
      refine iteF ?_
      walk_at "stp"
      refine mLen_t hs ?_
      walk_at "stp"
      refine iteB (fun e => absurd e (by simp)) (fun e => ?_)
      walk_at "stp"
      refine mIx_t hs (v := .str appS) rfl ?_
      walk_at "stp"
      refine iteF ?_
      walk_at "stp"
      refine mIx_t hs (v := .str appS) rfl ?_
      walk_at "stp"
      refine iteB (fun e => absurd e (by decide +kernel)) (fun e => ?_)
      walk_at "stp"
      refine mIx_t hs (v := .str appS) rfl ?_
      walk_at "stp"
      rw [Bool.false_xor, q6]
      refine iteT ?_
      walk_at "stp"
      refine mLen_t hs ?_
      walk_at "stp"
      refine iteB (fun e => absurd e (by simp)) (fun e => ?_)
      walk_at "stp"
      refine mIx_t hs (v := .str sg) rfl ?_
      walk_at "stp"
      refine iteF ?_
      walk_at "stp"
      refine mIx_t hs (v := .ref b) rfl ?_
      walk_at "stp"
      refine is_tup hb ?_
      walk_at "stp"
      refine iteF ?_
      walk_at "stp"
      refine ⟨.inl ⟨rfl, _, SqL.of f4⟩, ?_⟩
      walk_at "stp"
      refine mIx_t hs (v := .ref b) rfl ?_
      walk_at "stp"
      simp only [Trm.size] at h3 h4
      refine mExt_t f4 hb (ln (by omega)) ?_
      refine hnx _ _ (Trm.sizeL (ts' ++ ks)) (by rw [Trm.sizeL_app]; omega) ⟨us' ++ ku, ts' ++ ks, _, rfl, upd_same, ?_, by rw [Trm.sizeL_app]; omega, rfl, same_upd f3 hp⟩
      rw [Trm.dataL_map, List.map_append, ← Trm.dataL_map, ← Trm.dataL_map]
      exact (f1.append hk).lst f4
theorem ok_l_shape (T : Txt K mg t) (G_l_order : FnOk P w K mg base CX0 73 t.a_l_order t.d_l_order ["_law_terms", "_law_found"] (sp_l_order K 71)) (G_l_called : FnOk P w K mg base CX0 72 t.a_l_called t.d_l_called ["_law_term_here", "_law_new"] (sp_l_called K 70)) : FnOk P w K mg base CX0 74 t.a_l_shape t.d_l_shape ["_law_term_here"] (sp_l_shape K) := by
  refine T.F_l_shape.ok sc_l_shape (fun vs H Q E h => ?_) (fun cdv A outer s H vs Q E hr h => ?_)
  · unfold sp_l_shape at h
    split at h
    · rfl
    · exact h.elim
  unfold sp_l_shape at h
  split at h
  rotate_left
  · exact h.elim
  refine ⟨_, (pss_cons (ps_set (i := 1) (hs := sw_call) sc_l_shape.nd rfl (by first | exact Or.inl rfl | exact Or.inr rfl) (pe_call G_l_order (hr.mono (by first | decide | omega)) rfl T.m_l_order T.F_l_order.kp T.b_l_order .nil pass0 (pa_con (pe_lst (pa_con (mv 0) pa_nil)) (pa_con (pe_lst pa_nil) pa_nil)))) (pss_cons (ps_set (i := 2) sc_l_shape.nd rfl (by first | exact Or.inl rfl | exact Or.inr rfl) pe_dnewK) (pss_cons (ps_for PassesOwn.never rfl (pi_range1 rfl T.n_range (pa_con (pe_callB (kc_len K rfl) rfl T.n_len PySem.boot_len (pa_con (mv 1) pa_nil)) pa_nil)) (pg_name (i := 3) sc_l_shape.nd rfl (by first | exact Or.inl rfl | exact Or.inr rfl)) (pss_one (ps_dput (hu_of hr) (mv 2) (pe_ix (ki_seq K rfl) (mv 1) (mv 3) (fun _ _ => rfl)) (pe_op (ko_add K rfl) pe_str (pe_callTy mc_str rfl T.n_str boot_str (pa_con (pe_op mo_sub (pe_callB (kc_len K rfl) rfl T.n_len PySem.boot_len (pa_con (mv 1) pa_nil)) (mv 3)) pa_nil))) rfl))) (pss_one (ps_ret (pe_call G_l_called (hr.mono (by first | decide | omega)) rfl T.m_l_called T.F_l_called.kp T.b_l_called .nil pass0 (pa_con (mv 0) (pa_con (mv 2) pa_nil)))))))), ?_⟩
  rename_i v
  obtain ⟨t, hd, hz, q⟩ := h
  walk_at "stp"
  refine ⟨ln (by show 1 ≤ 100000; decide), fun p1 hp1 => ?_⟩
  have sp1 : Same H (upd H p1 (.lst [v])) := same_new hp1 _
  have kp1 : (upd H p1 (.lst [v])) p1 = some (.lst [v]) := upd_same
  generalize upd H p1 (.lst [v]) = H1 at sp1 kp1 ⊢
  walk_at "stp"
  walk_at "stp"
  refine ⟨Nat.zero_le _, fun p2 hp2 => ?_⟩
  have sp2 := same_new hp2 (.lst [])
  have kp2 : (upd H1 p2 (.lst [])) p2 = some (.lst []) := upd_same
  generalize upd H1 p2 (.lst []) = H2 at sp2 kp2 ⊢
  walk_at "stp"
  have s02 := sp1.trans sp2
  refine ⟨[v], [t], [], .inl (SqL.of (sp2 _ _ kp1)), .cons (hd.mono s02) .nil, kp2, by simp only [Trm.sizeL, List.length_nil]; omega, fun x hx => by rw [List.mem_singleton.mp hx]; omega, by omega, by omega, fun p H3 s3 kp => ?_⟩
  rw [ordL_one] at kp
  have hu := nod0 t
  have hl := ord_len t []
  have han : canon fS t = ren (sub (mkA (fun j _ => fS (ord t []).length j) 0 (ord t []))) t := rfl
  generalize ord t [] = u at hu hl kp han
  rw [List.length_nil, Nat.zero_add] at hl
  walk_at "stp"
  intro pd hpd
  have s4 := same_new hpd (.dK [])
  have k4 : (upd H3 pd (.dK [])) pd = some (.dK []) := upd_same
  have hne : pd ≠ p := fun z => by rw [z, kp] at hpd; cases hpd
  generalize upd H3 pd (.dK []) = H4 at s4 k4 ⊢
  have s03 := s02.trans s3
  have hpd0 : H pd = none := none_back s03 hpd
  walk_at "stp"
  refine mLen_l (SqL.of (s4 _ _ kp)) ?_
  rw [List.length_map]
  refine ⟨(u.length : Int), rfl, by omega, by omega, ?_⟩
  refine for_row (row_range 0 ((u.length : Int)).toNat) (fun i σ' J => ∃ (o1 : Option V), σ' = [some v, some (.ref p), some (.ref pd), o1] ∧ J pd = some (.dK (encS (mkA (fun j _ => fS u.length j) 0 (u.take i)))) ∧ J p = some (.lst (u.map V.str)) ∧ Same H J) ⟨none, rfl, by rw [List.take_zero]; exact k4, s4 _ _ kp, s03.trans s4⟩ (fun _ _ _ _ => trivial) (fun i σ' J hi hP => ?_) (fun σ' J hP => ?_)
  · obtain ⟨o1, rfl, g1, g2, g3⟩ := hP
    have hi : i < u.length := by omega
    walk_at "stp"
    refine mLen_l (SqL.of g2) ?_
    rw [List.length_map]
    walk_at "stp"
    refine mStr_n (by omega) (by omega) ?_
    have hln := tn_len (n := ((u.length : Int) - (0 + (i : Int))).toNat) (by omega)
    walk_at "stp"
    refine mAdd_s (ln (by show 6 + _ ≤ _; omega)) ?_
    walk_at "stp"
    refine mIx_l (SqL.of g2) (v := .str u[i]) (by rw [Int.zero_add]; exact atI_nat (by rw [List.getElem?_map, List.getElem?_eq_getElem hi]; rfl)) ?_
    walk_at "stp"
    refine ⟨pd, _, rfl, DPut.k (k := Sum.inr u[i]) g1 (by rw [enc_len, mkA_len, List.length_take, sizeLine_eq]; omega), ?_⟩
    rw [put_mkA (fun j _ => fS u.length j) hu hi (y := Str.ofString "shape " ++ tn ((u.length : Int) - (0 + (i : Int))).toNat) (by show _ = shS ++ tn (u.length - i); rw [show ((u.length : Int) - (0 + (i : Int))).toNat = u.length - i by omega]; rfl)]
    have bb := but_upd (p := pd) (H := J) (o := .dK (encS (mkA (fun j _ => fS u.length j) 0 (u.take (i + 1)))))
    exact ⟨_, rfl, upd_same, bb _ _ hne.symm g2, fr_same g3 bb hpd0⟩
  obtain ⟨o1, rfl, g1, g2, g3⟩ := hP
  rw [show ((u.length : Int)).toNat = u.length from Int.toNat_natCast _, List.take_length] at g1
  walk_at "stp"
  refine ⟨t, _, hd.mono g3, g1, hz, by omega, fun x J2 s2 dx => ?_⟩
  rw [← han] at dx
  exact q x J2 (g3.trans s2) dx
theorem st_l_other_number (T : Txt K mg t)  (n : Nat) (G_l_other_number : FnOk P w K mg base CX0 (n + 2) t.a_l_other_number t.d_l_other_number ["_law_term_here"] (sp_l_other_number K n)) : FnOk P w K mg base CX0 (n + 2 + 1) t.a_l_other_number t.d_l_other_number ["_law_term_here"] (sp_l_other_number K (n + 1)) := by
  refine T.F_l_other_number.ok (k := n + 2) sc_l_other_number (fun vs H Q E h => ?_) (fun cdv A outer s H vs Q E hr h => ?_)
  · unfold sp_l_other_number at h
    split at h
    · rfl
    · exact h.elim
  unfold sp_l_other_number at h
  split at h
  rotate_left
  · exact h.elim
  refine ⟨_, (pss_cons (ps_if (mt_cmp mo_eq (pe_ix (ki_seq K rfl) (mv 0) pe_int (fun _ _ => rfl)) pe_str (nomark _)) (pss_one (ps_ret (pe_tup (pa_con pe_str (pa_con (pe_op (ko_add K rfl) (pe_ix (ki_seq K rfl) (mv 0) pe_int (fun _ _ => rfl)) (pe_ix (ki_seq K rfl) (pe_lst (pa_con pe_int (pa_con (pe_un mu_neg pe_int) pa_nil))) (pe_callTy mc_int rfl T.n_int boot_int (pa_con (pe_cmpR mo_gt (pe_ix (ki_seq K rfl) (mv 0) pe_int (fun _ _ => rfl)) pe_int (nomark _)) pa_nil)) (fun _ _ => rfl))) pa_nil))))) pss_nil) (pss_cons (ps_if (mt_cmp mo_eq (pe_ix (ki_seq K rfl) (mv 0) pe_int (fun _ _ => rfl)) pe_str (nomark _)) (pss_one (ps_ret (mv 0))) pss_nil) (pss_cons (ps_set (i := 1) (hs := sw_call) sc_l_other_number.nd rfl (by first | exact Or.inl rfl | exact Or.inr rfl) (pe_callTy (kc_list K rfl) rfl T.n_list boot_list (pa_con (pe_ix (ki_seq K rfl) (mv 0) pe_int (fun _ _ => rfl)) pa_nil))) (pss_cons (ps_for PassesOwn.never rfl (pi_range1 rfl T.n_range (pa_con (pe_callB (kc_len K rfl) rfl T.n_len PySem.boot_len (pa_con (mv 1) pa_nil)) pa_nil)) (pg_name (i := 2) sc_l_other_number.nd rfl (by first | exact Or.inl rfl | exact Or.inr rfl)) (pss_cons (ps_set (i := 3) (hs := sw_call) sc_l_other_number.nd rfl (by first | exact Or.inl rfl | exact Or.inr rfl) (pe_call G_l_other_number (hr.mono (by first | decide | omega)) rfl T.m_l_other_number T.F_l_other_number.kp T.b_l_other_number .nil pass0 (pa_con (pe_ix (ki_seq K rfl) (mv 1) (mv 2) (fun _ _ => rfl)) pa_nil))) (pss_one (ps_if (mt_cmp (ko_neT K rfl (room150 hr)) (mv 3) (pe_ix (ki_seq K rfl) (mv 1) (mv 2) (fun _ _ => rfl)) (nomark _)) (pss_cons (ps_asg (mv 3) (pg_sub (mv 1) (mv 2) set_list)) (pss_one (ps_ret (pe_tup (pa_con pe_str (pa_con (pe_ix (ki_seq K rfl) (mv 0) pe_int (fun _ _ => rfl)) (pa_con (pe_callTy (kc_tuple K rfl) rfl T.n_tuple boot_tuple (pa_con (mv 1) pa_nil)) pa_nil))))))) pss_nil)))) (pss_one (ps_ret (mv 0))))))), ?_⟩
  rename_i v
  obtain ⟨t0, hd, hz, hn, q⟩ := h
  have tp := t0.size_pos
  walk_at "stp"
  cases t0 with
  | num k =>
    obtain ⟨a, rfl, hs⟩ := den_num hd
    refine mIx_t hs (v := .str numS) rfl ?_
    walk_at "stp"
    refine iteB (fun e => ?_) (fun e => absurd e (by decide +kernel))
    walk_at "stp"
    refine mIx_t hs (v := .int k) rfl ?_
    walk_at "stp"
    refine ⟨ln (by show 2 ≤ 100000; decide), fun p1 hp1 => ?_⟩
    have sp1 : Same H (upd H p1 (.lst [.int 1, .int (-1)])) := same_new hp1 _
    have kp1 : (upd H p1 (.lst [.int 1, .int (-1)])) p1 = some (.lst [.int 1, .int (-1)]) := upd_same
    generalize upd H p1 (.lst [.int 1, .int (-1)]) = J1 at sp1 kp1 ⊢
    walk_at "stp"
    walk_at "stp"
    refine mIx_t (sp1.tup hs) (v := .int k) rfl ?_
    walk_at "stp"
    obtain ⟨w, hw⟩ : ∃ w, atI [V.int 1, V.int (-1)] (if decide (0 < k) = true then 1 else 0) = some (.int w) := by
      by_cases hk0 : 0 < k
      · rw [decide_eq_true hk0]; exact ⟨-1, rfl⟩
      · rw [decide_eq_false hk0]; exact ⟨1, rfl⟩
    refine mIx_l (SqL.of kp1) hw ?_
    walk_at "stp"
    refine ⟨ln (by show 2 ≤ 100000; decide), fun p2 hp2 => ?_⟩
    exact q _ (.num (k + w)) _ (sp1.trans (same_new hp2 _)) (num_den (SqT.of upd_same)) tp
  | any x =>
    obtain ⟨a, rfl, hs⟩ := den_any hd
    refine mIx_t hs (v := .str anyS) rfl ?_
    walk_at "stp"
    refine iteB (fun e => absurd e (by decide +kernel)) (fun e => ?_)
    walk_at "stp"
    refine mIx_t hs (v := .str anyS) rfl ?_
    walk_at "stp"
    refine iteB (fun e => ?_) (fun e => absurd e (by decide +kernel))
    walk_at "stp"
    exact q _ _ _ (Same.refl _) hd (Nat.le_refl _)
  | app sg ks =>
    obtain ⟨a, b, us, e0, hs, hb, hk⟩ := den_app hd
    subst e0
    have hkl := den_len hk
    have zl := Trm.len_le ks
    simp only [Trm.size] at hz
    refine mIx_t hs (v := .str appS) rfl ?_
    walk_at "stp"
    refine iteB (fun e => absurd e (by decide +kernel)) (fun e => ?_)
    walk_at "stp"
    refine mIx_t hs (v := .str appS) rfl ?_
    walk_at "stp"
    refine iteB (fun e => absurd e (by decide +kernel)) (fun e => ?_)
    walk_at "stp"
    refine mIx_t hs (v := .ref b) rfl ?_
    walk_at "stp"
    refine ⟨b, us, rfl, .inr hb, fun D hD => ?_⟩
    have sD := same_new hD (.lst us)
    have kD : (upd H D (.lst us)) D = some (.lst us) := upd_same
    generalize upd H D (.lst us) = H1 at sD kD ⊢
    walk_at "stp"
    refine mLen_l (SqL.of kD) ?_
    refine ⟨(us.length : Int), rfl, by omega, by omega, ?_⟩
    refine for_row (row_range 0 ((us.length : Int)).toNat) (fun i σ' J => ∃ (o1 o2 : Option V), σ' = [some (.ref a), some (.ref D), o1, o2] ∧ Same H1 J) ⟨none, none, rfl, Same.refl _⟩ (fun _ _ _ _ => trivial) (fun i σ' J hi hP => ?_) (fun σ' J hP => ?_)
    · obtain ⟨o1, o2, rfl, g1⟩ := hP
      have hki : i < ks.length := by omega
      obtain ⟨hui, dk⟩ := denL_at hk hki
      have z1 := size_get (List.getElem?_eq_getElem hki)
      have hat : atI us (0 + (i : Int)) = some us[i] := by rw [Int.zero_add]; exact atI_nat (List.getElem?_eq_getElem hui)
      walk_at "stp"
      refine mIx_l (SqL.of (g1 _ _ kD)) hat ?_
      walk_at "stp"
      have dk := dk.mono (sD.trans g1)
      refine ⟨ks[i], dk, by omega, by omega, fun y t' J2 s2 dy sy => ?_⟩
      have kD2 := s2 _ _ (g1 _ _ kD)
      walk_at "stp"
      refine mIx_l (SqL.of kD2) hat ?_
      walk_at "stp"
      refine mEqT_i dy (dk.mono s2) (by omega) ?_
      walk_at "stp"
      refine iteB (fun e => ?_) (fun e => ?_)
      rotate_left
      · walk_at "stp"
        exact ⟨_, _, rfl, g1.trans s2⟩
      walk_at "stp"
      refine ⟨D, us, 0 + (i : Int), i, rfl, rfl, kD2, ?_, ?_⟩
      · unfold ixN
        rw [if_pos (by omega), if_pos (by omega)]
        congr 1
        omega
      have s12 := sD.trans (g1.trans s2)
      have dd : DenL K J2 (us.set i y) (Trm.dataL (ks.set i t')) := by
        rw [← dataL_set]
        exact denL_set dy _ (hk.mono s12)
      have dd : DenL K (upd J2 D (.lst (us.set i y))) (us.set i y) (Trm.dataL (ks.set i t')) := dd.lst kD2
      have k3 : (upd J2 D (.lst (us.set i y))) D = some (.lst (us.set i y)) := upd_same
      have s3 : Same H (upd J2 D (.lst (us.set i y))) := same_upd s12 hD
      generalize upd J2 D (.lst (us.set i y)) = J3 at dd k3 s3 ⊢
      walk_at "stp"
      refine mIx_t (s3.tup hs) (v := .str sg) rfl ?_
      walk_at "stp"
      refine mTup_l (SqL.of k3) (fun p4 hp4 => ?_)
      have s4 := same_new hp4 (.tup (us.set i y))
      have k4 : (upd J3 p4 (.tup (us.set i y))) p4 = some (.tup (us.set i y)) := upd_same
      generalize upd J3 p4 (.tup (us.set i y)) = J4 at s4 k4 ⊢
      walk_at "stp"
      refine ⟨ln (by show 3 ≤ 100000; decide), fun p5 hp5 => ?_⟩
      have s5 := same_new hp5 (.tup [.str (Str.ofString "app"), .str sg, .ref p4])
      have z2 := sizeL_set ks i t' ks[i] (List.getElem?_eq_getElem hki) sy
      exact q _ (.app sg (ks.set i t')) _ (s3.trans (s4.trans s5)) (app_den (SqT.of upd_same) (SqT.of (s5 _ _ k4)) (dd.mono (s4.trans s5))) (by simp only [Trm.size]; omega)
    obtain ⟨o1, o2, rfl, g1⟩ := hP
    walk_at "stp"
    exact q _ _ _ (sD.trans g1) (hd.mono (sD.trans g1)) (Nat.le_refl _)
theorem ok_l_other_number (T : Txt K mg t)  (n : Nat) : FnOk P w K mg base CX0 (n + 2) t.a_l_other_number t.d_l_other_number ["_law_term_here"] (sp_l_other_number K n) := by
  induction n with
  | zero =>
    have no : ∀ vs H Q E, (sp_l_other_number K 0) vs H Q E → False := fun vs H Q E h => by
      unfold sp_l_other_number at h
      split at h
      · exact no_l_other_number h
      · exact h
    exact ⟨fun vs H Q E h => (no vs H Q E h).elim, fun A outer s H args us vs Q E _ _ _ _ h => (no vs H Q E h).elim⟩
  | succ n ih =>
    have e : n + 1 + 2 = n + 2 + 1 := by omega
    rw [e]
    exact st_l_other_number T  n ih
theorem ok_l_alike (T : Txt K mg t) (G_l_shape : FnOk P w K mg base CX0 74 t.a_l_shape t.d_l_shape ["_law_term_here"] (sp_l_shape K)) (G_alike : FnOk P w K mg base CX0 74 t.a_alike t.d_alike ["one", "other"] (sp_alike K)) : FnOk P w K mg base CX0 75 t.a_l_alike t.d_l_alike ["_law_one", "_law_other"] (sp_l_alike K) := by
  refine T.F_l_alike.ok sc_l_alike (fun vs H Q E h => ?_) (fun cdv A outer s H vs Q E hr h => ?_)
  · unfold sp_l_alike at h
    split at h
    · rfl
    · exact h.elim
  unfold sp_l_alike at h
  split at h
  rotate_left
  · exact h.elim
  refine ⟨_, (pss_cons (ps_set (i := 2) sc_l_alike.nd rfl (by first | exact Or.inl rfl | exact Or.inr rfl) (pe_cmpR (ko_eqT K rfl (room150 hr)) (pe_call G_l_shape (hr.mono (by first | decide | omega)) rfl T.m_l_shape T.F_l_shape.kp T.b_l_shape .nil pass0 (pa_con (mv 0) pa_nil)) (pe_call G_l_shape (hr.mono (by first | decide | omega)) rfl T.m_l_shape T.F_l_shape.kp T.b_l_shape .nil pass0 (pa_con (mv 1) pa_nil)) (nomark _))) (pss_cons (ps_for PassesOwn.never rfl (kpi_list K rfl (pe_lst (pa_con (pe_call G_alike (hr.mono (by first | decide | omega)) rfl T.m_alike T.F_alike.kp T.b_alike .nil pass0 (pa_con (mv 0) (pa_con (mv 1) pa_nil))) (pa_con (pe_call G_alike (hr.mono (by first | decide | omega)) rfl T.m_alike T.F_alike.kp T.b_alike .nil pass0 (pa_con (mv 1) (pa_con (mv 0) pa_nil))) pa_nil)))) (pg_name (i := 3) sc_l_alike.nd rfl (by first | exact Or.inl rfl | exact Or.inr rfl)) (pss_one (ps_if (PW.pt (pw_or (pt_not (kt_tru K rfl (pe_callB (kc_is K rfl) rfl T.n_isinstance boot_isinstance (pa_con (mv 3) (pa_con (pe_bty rfl T.n_bool boot_bool) pa_nil))))) (pw_or1 (mt_cmp mo_ne (mv 3) (mv 2) (nomark _))))) (pss_one (ps_ret pe_bl)) pss_nil))) (pss_one (ps_ret pe_bl)))), ?_⟩
  rename_i v v'
  obtain ⟨t, t', hd, hd', hz, hz', q⟩ := h
  walk_at "stp"
  refine ⟨t, hd, hz, fun x H1 s1 dx => ?_⟩
  walk_at "stp"
  refine ⟨t', hd'.mono s1, hz', fun x' H2 s2 dx' => ?_⟩
  walk_at "stp"
  refine mEqT_i (dx.mono s2) dx' (by rw [canon, ren_size]; exact hz) ?_
  rw [Bool.false_xor, ← alike_eq]
  have s02 := s1.trans s2
  walk_at "stp"
  refine ⟨t, t', hd.mono s02, hd'.mono s02, hz, hz', fun H3 s3 => ?_⟩
  have s03 := s02.trans s3
  walk_at "stp"
  refine ⟨t', t, hd'.mono s03, hd.mono s03, hz', hz, fun H4 s4 => ?_⟩
  rw [eqb_symm (canon fU t') (canon fU t)]
  generalize eqb (canon fU t) (canon fU t') = bb
  have s04 := s03.trans s4
  walk_at "stp"
  refine ⟨ln (by show 2 ≤ 100000; decide), fun p1 hp1 => ?_⟩
  have sp1 : Same H4 (upd H4 p1 (.lst [.bl bb, .bl bb])) := same_new hp1 _
  have kp1 : (upd H4 p1 (.lst [.bl bb, .bl bb])) p1 = some (.lst [.bl bb, .bl bb]) := upd_same
  generalize upd H4 p1 (.lst [.bl bb, .bl bb]) = H5 at sp1 kp1 ⊢
  walk_at "stp"
  refine ⟨p1, rfl, ⟨_, SqL.of kp1⟩, ?_⟩
  refine for_row (row_list (xs := [.bl bb, .bl bb])) (fun i σ' J => ∃ (o1 : Option V), σ' = [some v, some v', some (.bl bb), o1] ∧ J = H5) ⟨none, rfl, rfl⟩ (fun i σ' J hP => by obtain ⟨_, _, h⟩ := hP; rw [h]; exact SqL.of kp1) (fun i σ' J hi hP => ?_) (fun σ' J hP => ?_)
  · obtain ⟨o1, rfl, hJ⟩ := hP
    rw [hJ]
    have hg : ([.bl bb, .bl bb] : List V).getD i .non = .bl bb := by
      have : i < 2 := hi
      rcases (show i = 0 ∨ i = 1 by omega) with z | z <;> subst z <;> rfl
    rw [hg]
    walk_at "stp"
    refine iteF ?_
    walk_at "stp"
    refine iteB (fun e => absurd e (by simp)) (fun e => ?_)
    walk_at "stp"
    exact ⟨_, rfl, rfl⟩
  obtain ⟨o1, rfl, hJ⟩ := hP
  rw [hJ]
  walk_at "stp"
  exact q _ (s04.trans sp1)
end
section
variable {P : Program} {w : World} {K : PySem.W.Frag} {mg : Str → Option Value} {base : Heap} {t : Ad}
theorem ok_l_named (T : Txt K mg t) (G_l_order : FnOk P w K mg base CX0 73 t.a_l_order t.d_l_order ["_law_terms", "_law_found"] (sp_l_order K 71)) (G_unknowns_of : FnOk P w K mg base CX0 1 t.a_unknowns_of t.d_unknowns_of ["terms"] (sp_unknowns_of K)) (G_told_anew : FnOk P w K mg base CX0 73 t.a_told_anew t.d_told_anew ["terms"] (sp_told_anew K)) (G_l_is_term : FnOk P w K mg base CX0 1 t.a_l_is_term t.d_l_is_term ["_law_thing"] (sp_l_is_term K)) (G_l_called : FnOk P w K mg base CX0 72 t.a_l_called t.d_l_called ["_law_term_here", "_law_new"] (sp_l_called K 70)) : FnOk P w K mg base CX0 74 t.a_l_named t.d_l_named ["_law_terms"] (sp_l_named K) := by
  refine T.F_l_named.ok sc_l_named (fun vs H Q E h => ?_) (fun cdv A outer s H vs Q E hr h => ?_)
  · unfold sp_l_named at h
    split at h
    · rfl
    · exact h.elim
  unfold sp_l_named at h
  split at h
  rotate_left
  · exact h.elim
  refine ⟨_, (pss_cons (ps_set (i := 1) (hs := sw_call) sc_l_named.nd rfl (by first | exact Or.inl rfl | exact Or.inr rfl) (pe_call G_l_order (hr.mono (by first | decide | omega)) rfl T.m_l_order T.F_l_order.kp T.b_l_order .nil pass0 (pa_con (mv 0) (pa_con (pe_lst pa_nil) pa_nil)))) (pss_cons (ps_set (i := 2) (hs := sw_call) sc_l_named.nd rfl (by first | exact Or.inl rfl | exact Or.inr rfl) (pe_callTy (kc_list K rfl) rfl T.n_list boot_list (pa_con (mv 0) pa_nil))) (pss_cons (ps_set (i := 3) (hs := sw_call) sc_l_named.nd rfl (by first | exact Or.inl rfl | exact Or.inr rfl) (pe_call G_unknowns_of (hr.mono (by first | decide | omega)) rfl T.m_unknowns_of T.F_unknowns_of.kp T.b_unknowns_of .nil pass0 (pa_con (mv 2) pa_nil))) (pss_cons (ps_if (PW.pt (pw_or (pt_not (kt_tru K rfl (pe_callB (kc_is K rfl) rfl T.n_isinstance boot_isinstance (pa_con (mv 3) (pa_con (pe_bty rfl T.n_list boot_list) pa_nil))))) (pw_or (mt_cmp (ko_neD K rfl (room150 hr)) (mv 3) (mv 1) (nomark _)) (pw_or1 (mt_cmp (ko_neD K rfl (room150 hr)) (mv 2) (mv 0) (nomark _)))))) (pss_one (ps_ret pe_bl)) pss_nil) (pss_cons (ps_expr (ke_bm K rfl PySem.F.plainAttrs_list PySem.F.slot_list_append PySem.F.type_list_append mm_append (mv 3) (pa_con pe_str pa_nil))) (pss_cons (ps_set (i := 4) sc_l_named.nd rfl (by first | exact Or.inl rfl | exact Or.inr rfl) pe_dnewK) (pss_cons (ps_for PassesOwn.never rfl (pi_range1 rfl T.n_range (pa_con (pe_callB (kc_len K rfl) rfl T.n_len PySem.boot_len (pa_con (mv 1) pa_nil)) pa_nil)) (pg_name (i := 5) sc_l_named.nd rfl (by first | exact Or.inl rfl | exact Or.inr rfl)) (pss_one (ps_dput (hu_of hr) (mv 4) (pe_ix (ki_seq K rfl) (mv 1) (mv 5) (fun _ _ => rfl)) (pe_op (ko_add K rfl) pe_str (pe_callTy mc_str rfl T.n_str boot_str (pa_con (pe_op (ko_add K rfl) (mv 5) pe_int) pa_nil))) rfl))) (pss_cons (ps_set (i := 6) (hs := sw_call) sc_l_named.nd rfl (by first | exact Or.inl rfl | exact Or.inr rfl) (pe_call G_told_anew (hr.mono (by first | decide | omega)) rfl T.m_told_anew T.F_told_anew.kp T.b_told_anew .nil pass0 (pa_con (mv 2) pa_nil))) (pss_cons (ps_if (PW.pt (pw_or (pt_not (kt_tru K rfl (pe_callB (kc_is K rfl) rfl T.n_isinstance boot_isinstance (pa_con (mv 6) (pa_con (pe_bty rfl T.n_list boot_list) pa_nil))))) (pw_or (mt_cmp (ko_neD K rfl (room150 hr)) (mv 2) (mv 0) (nomark _)) (pw_or1 (pt_not (kt_tru K rfl (pe_call G_l_is_term (hr.mono (by first | decide | omega)) rfl T.m_l_is_term T.F_l_is_term.kp T.b_l_is_term .nil pass0 (pa_con (pe_tup (pa_con pe_str (pa_con pe_str (pa_con (pe_callTy (kc_tuple K rfl) rfl T.n_tuple boot_tuple (pa_con (mv 6) pa_nil)) pa_nil)))) pa_nil)))))))) (pss_one (ps_ret pe_bl)) pss_nil) (pss_cons (ps_if (mt_cmp (ko_neD K rfl (room150 hr)) (mv 6) (pe_comp rfl (kpi_list K rfl (mv 0)) (comp_sc (defScope s_l_named) ["_law_terms", "_law_due", "_law_handed", "_law_found", "_law_new", "_law_k", "_law_anew"] ["_law_terms", "_law_due", "_law_handed", "_law_found", "_law_new", "_law_k", "_law_anew"] rfl rfl (by decide +kernel)) (fun _ _ _ _ _ => pts_nil) (fun _ _ _ _ _ => (pe_call G_l_called (hr.mono (by first | decide | omega)) rfl T.m_l_called T.F_l_called.kp T.b_l_called .nil pass0 (pa_con (mv 0) (pa_con (mv 5) pa_nil))))) (nomark _)) (pss_one (ps_ret pe_bl)) pss_nil) (pss_cons (ps_expr (ke_bm0 K rfl PySem.F.plainAttrs_list PySem.F.slot_list_clear PySem.F.type_list_clear mm_lclr (mv 6))) (pss_one (ps_ret (me_and (pe_cmpR (ko_eqD K rfl (room150 hr)) (pe_call G_unknowns_of (hr.mono (by first | decide | omega)) rfl T.m_unknowns_of T.F_unknowns_of.kp T.b_unknowns_of .nil pass0 (pa_con (mv 2) pa_nil)) (mv 1) (nomark _)) (pe_one (pe_cmpR (ko_eqD K rfl (room150 hr)) (pe_call G_told_anew (hr.mono (by first | decide | omega)) rfl T.m_told_anew T.F_told_anew.kp T.b_told_anew .nil pass0 (pa_con (mv 2) pa_nil)) (pe_comp rfl (kpi_list K rfl (mv 0)) (comp_sc (defScope s_l_named) ["_law_terms", "_law_due", "_law_handed", "_law_found", "_law_new", "_law_k", "_law_anew"] ["_law_terms", "_law_due", "_law_handed", "_law_found", "_law_new", "_law_k", "_law_anew"] rfl rfl (by decide +kernel)) (fun _ _ _ _ _ => pts_nil) (fun _ _ _ _ _ => (pe_call G_l_called (hr.mono (by first | decide | omega)) rfl T.m_l_called T.F_l_called.kp T.b_l_called .nil pass0 (pa_con (mv 0) (pa_con (mv 5) pa_nil))))) (nomark _))))))))))))))))), ?_⟩
  rename_i a
  obtain ⟨us, ts, hS, hd, hz, hz70, q⟩ := h
  have hul := den_len hd
  have tl := Trm.len_le ts
  walk_at "stp"
  refine ⟨Nat.zero_le _, fun p0 hp0 => ?_⟩
  have sp0 := same_new hp0 (.lst [])
  have kp0 : (upd H p0 (.lst [])) p0 = some (.lst []) := upd_same
  generalize upd H p0 (.lst []) = H1 at sp0 kp0 ⊢
  walk_at "stp"
  refine ⟨us, ts, [], .inl (sp0.seq hS), hd.mono sp0, kp0, by simp only [List.length_nil]; omega, fun t ht => by have := hz70 t ht; omega, by omega, by omega, fun pd H2 s2 kd => ?_⟩
  have s02 := sp0.trans s2
  walk_at "stp"
  refine ⟨a, us, rfl, .inl (s02.seq hS), fun ph hph => ?_⟩
  have s3 := same_new hph (.lst us)
  have k3 : (upd H2 ph (.lst us)) ph = some (.lst us) := upd_same
  generalize upd H2 ph (.lst us) = H3 at s3 k3 ⊢
  have s03 := s02.trans s3
  have hph0 : H ph = none := none_back s02 hph
  walk_at "stp"
  refine ⟨us, ts, SqL.of k3, hd.mono s03, by omega, fun pf H4 s4 hpf kf => ?_⟩
  have hu := nodL ts
  have hl := ordL_len ts []
  have han : anew ts = renL (sub (mkA (fun j _ => uS ++ tn (j + 1)) 0 (ordL ts []))) ts := rfl
  have hun : ordL ts [] = ordL ts [] := rfl
  generalize hug : ordL ts [] = u at hu hl kd kf han
  rw [List.length_nil, Nat.zero_add] at hl
  have s04 := s03.trans s4
  have kd4 := (s3.trans s4) _ _ kd
  have k34 := s4 _ _ k3
  walk_at "stp"
  refine is_lst (SqL.of kf) ?_
  walk_at "stp"
  refine iteF ?_
  walk_at "stp"
  refine eq_strs (SqL.of kf) (SqL.of kd4) ?_
  walk_at "stp"
  refine iteB (fun e => absurd e (by simp)) (fun e => ?_)
  walk_at "stp"
  refine eq_terms (SqL.of k34) (s04.seq hS) (hd.mono s04) (hd.mono s04) hz70 ?_
  walk_at "stp"
  refine iteB (fun e => absurd e (by simp)) (fun e => ?_)
  walk_at "stp"
  refine ⟨.inl ⟨rfl, _, SqL.of kf⟩, ?_⟩
  walk_at "stp"
  refine mAppend_i kf (ln1 (by rw [List.length_map]; omega)) ?_
  have hpf0 : H pf = none := none_back s03 hpf
  have bF : But pf H4 (upd H4 pf (.lst (u.map V.str ++ [.str (Str.ofString "Q")]))) := but_upd
  have nf1 : pd ≠ pf := fun z => by have := s3 _ _ kd; rw [z, hpf] at this; cases this
  have nf2 : ph ≠ pf := fun z => by rw [z, hpf] at k3; cases k3
  have s05 := fr_same s04 bF hpf0
  have kd5 := bF _ _ nf1 kd4
  have k35 := bF _ _ nf2 k34
  generalize upd H4 pf (.lst (u.map V.str ++ [.str (Str.ofString "Q")])) = H5 at bF s05 kd5 k35 ⊢
  walk_at "stp"
  intro pn hpn
  have s6 := same_new hpn (.dK [])
  have k6 : (upd H5 pn (.dK [])) pn = some (.dK []) := upd_same
  have n1 : pn ≠ pd := fun z => by rw [z, kd5] at hpn; cases hpn
  have n2 : pn ≠ ph := fun z => by rw [z, k35] at hpn; cases hpn
  generalize upd H5 pn (.dK []) = H6 at s6 k6 ⊢
  have hpn0 : H pn = none := none_back s05 hpn
  walk_at "stp"
  refine mLen_l (SqL.of (s6 _ _ kd5)) ?_
  rw [List.length_map]
  refine ⟨(u.length : Int), rfl, by omega, by omega, ?_⟩
  refine for_row (row_range 0 ((u.length : Int)).toNat) (fun i σ' J => ∃ (o1 : Option V), σ' = [some (.ref a), some (.ref pd), some (.ref ph), some (.ref pf), some (.ref pn), o1, none] ∧ J pn = some (.dK (encS (mkA (fun j _ => uS ++ tn (j + 1)) 0 (u.take i)))) ∧ J pd = some (.lst (u.map V.str)) ∧ J ph = some (.lst us) ∧ Same H J) ⟨none, rfl, by rw [List.take_zero]; exact k6, s6 _ _ kd5, s6 _ _ k35, s05.trans s6⟩ (fun _ _ _ _ => trivial) (fun i σ' J hi hP => ?_) (fun σ' J hP => ?_)
  · obtain ⟨o1, rfl, g1, g2, g3, g4⟩ := hP
    have hi : i < u.length := by omega
    walk_at "stp"
    refine mStr_n (by omega) (by omega) ?_
    have hln := tn_len (n := ((0 + (i : Int)) + 1).toNat) (by omega)
    walk_at "stp"
    refine mAdd_s (ln (by show 1 + _ ≤ _; omega)) ?_
    walk_at "stp"
    refine mIx_l (SqL.of g2) (v := .str u[i]) (by rw [Int.zero_add]; exact atI_nat (by rw [List.getElem?_map, List.getElem?_eq_getElem hi]; rfl)) ?_
    walk_at "stp"
    refine ⟨pn, _, rfl, DPut.k (k := Sum.inr u[i]) g1 (by rw [enc_len, mkA_len, List.length_take, sizeLine_eq]; omega), ?_⟩
    rw [put_mkA (fun j _ => uS ++ tn (j + 1)) hu hi (y := Str.ofString "U" ++ tn ((0 + (i : Int)) + 1).toNat) (by show _ = uS ++ tn (i + 1); rw [show ((0 + (i : Int)) + 1).toNat = i + 1 by omega]; rfl)]
    have bb := but_upd (p := pn) (H := J) (o := .dK (encS (mkA (fun j _ => uS ++ tn (j + 1)) 0 (u.take (i + 1)))))
    exact ⟨_, rfl, upd_same, bb _ _ n1.symm g2, bb _ _ n2.symm g3, fr_same g4 bb hpn0⟩
  obtain ⟨o1, rfl, g1, g2, g3, g4⟩ := hP
  rw [show ((u.length : Int)).toNat = u.length from Int.toNat_natCast _, List.take_length] at g1
  walk_at "stp"
  refine ⟨us, ts, SqL.of g3, hd.mono g4, by omega, hz70, fun pa va J1 s1 hpa ka da => ?_⟩
  have s01 := g4.trans s1
  walk_at "stp"
  refine is_lst (SqL.of ka) ?_
  walk_at "stp"
  refine iteF ?_
  walk_at "stp"
  refine eq_terms (SqL.of (s1 _ _ g3)) (s01.seq hS) (hd.mono s01) (hd.mono s01) hz70 ?_
  walk_at "stp"
  refine iteB (fun e => absurd e (by simp)) (fun e => ?_)
  walk_at "stp"
  refine mTup_l (SqL.of ka) (fun p7 hp7 => ?_)
  have s7 := same_new hp7 (.tup va)
  have k7 : (upd J1 p7 (.tup va)) p7 = some (.tup va) := upd_same
  generalize upd J1 p7 (.tup va) = J7 at s7 k7 ⊢
  walk_at "stp"
  refine ⟨ln (by show 3 ≤ 100000; decide), fun p8 hp8 => ?_⟩
  have sp8 : Same J7 (upd J7 p8 (.tup [.str (Str.ofString "app"), .str (Str.ofString "a"), .ref p7])) := same_new hp8 _
  have kp8 : (upd J7 p8 (.tup [.str (Str.ofString "app"), .str (Str.ofString "a"), .ref p7])) p8 = some (.tup [.str (Str.ofString "app"), .str (Str.ofString "a"), .ref p7]) := upd_same
  generalize upd J7 p8 (.tup [.str (Str.ofString "app"), .str (Str.ofString "a"), .ref p7]) = J8 at sp8 kp8 ⊢
  walk_at "stp"
  walk_at "stp"
  have s78 := s7.trans sp8
  refine ⟨.app (Str.ofString "a") (anew ts), app_den (SqT.of kp8) (SqT.of (sp8 _ _ k7)) (da.mono s78), by simp only [Trm.size]; rw [han, renL_size]; omega, fun J9 s9 => ?_⟩
  have s19 := s78.trans s9
  have s09 := s01.trans s19
  have kn9 := (s1.trans s19) _ _ g1
  walk_at "stp"
  refine iteB (fun e => absurd e (by simp)) (fun e => ?_)
  walk_at "stp"
  refine ⟨a, rfl, ⟨_, s09.seq hS⟩, fun D1 hD1 => ?_⟩
  refine comp_row (row_list (xs := us)) (fun i ys J2 => Same J9 J2 ∧ J2 D1 = some (.lst ys) ∧ DenL K J2 ys (Trm.dataL (renL (sub (mkA (fun j _ => uS ++ tn (j + 1)) 0 u)) (ts.take i)))) (ln (by omega)) ⟨same_new hD1 _, upd_same, by rw [List.take_zero, renL]; exact .nil⟩ (fun i ys J2 hP => hP.1.seq (s09.seq hS)) (fun i ys J2 Q' hi hl' hP k => ?_) (fun ys J2 hl' hP => ?_)
  · obtain ⟨f1, f2, f3⟩ := hP
    have hki : i < ts.length := by omega
    obtain ⟨hui, dk⟩ := denL_at hd hki
    walk_at "stp"
    rw [getD_at hui]
    refine ⟨ts[i], _, (dk.mono s09).mono f1, f1 _ _ kn9, hz70 _ (List.getElem_mem hki), by omega, fun x J3 s3 dx => ?_⟩
    have g6 : J3 D1 = some (.lst ys) := s3 _ _ f2
    refine k _ _ g6 ⟨same_upd (f1.trans s3) hD1, upd_same, ?_⟩
    rw [take_succ' hki, renL_map, List.map_append, ← renL_map, dataL_app]
    exact ((f3.mono s3).append (.cons dx .nil)).lst g6
  obtain ⟨f1, f2, f3⟩ := hP
  rw [List.take_of_length_le (by omega), ← han] at f3
  have s0x := s09.trans f1
  walk_at "stp"
  refine eq_terms (SqL.of ((s19.trans f1) _ _ ka)) (SqL.of f2) (da.mono (s19.trans f1)) f3 (by rw [han]; exact anew_small hz70 _) ?_
  walk_at "stp"
  refine iteB (fun e => absurd e (by simp)) (fun e => ?_)
  walk_at "stp"
  have kax := (s19.trans f1) _ _ ka
  have hpa0 : H pa = none := none_back g4 hpa
  refine ⟨.inl ⟨rfl, _, SqL.of kax⟩, ?_⟩
  refine mLClr_i kax ?_
  have bC : But pa J2 (upd J2 pa (.lst [])) := but_upd
  have m1 : pd ≠ pa := fun z => by rw [z, hpa] at g2; cases g2
  have m2 : ph ≠ pa := fun z => by rw [z, hpa] at g3; cases g3
  have m3 : pn ≠ pa := fun z => by rw [z, hpa] at g1; cases g1
  have s1x := (s1.trans s19).trans f1
  have kdc := bC _ _ m1 (s1x _ _ g2)
  have khc := bC _ _ m2 (s1x _ _ g3)
  have knc := bC _ _ m3 (s1x _ _ g1)
  have s0c := fr_same s0x bC hpa0
  generalize upd J2 pa (.lst []) = C at kdc khc knc s0c ⊢
  walk_at "stp"
  refine ⟨us, ts, SqL.of khc, hd.mono s0c, by omega, fun pz C2 sz hpz kz => ?_⟩
  rw [hug] at kz
  walk_at "stp"
  refine eq_strs (SqL.of kz) (SqL.of (sz _ _ kdc)) ?_
  walk_at "stp"
  refine iteB (fun e => ?_) (fun e => absurd e (by simp))
  walk_at "stp"
  refine ⟨us, ts, SqL.of (sz _ _ khc), hd.mono (s0c.trans sz), by omega, hz70, fun pa' va' C3 s3' hpa' ka' da' => ?_⟩
  have s0d := s0c.trans (sz.trans s3')
  have knd := (sz.trans s3') _ _ knc
  walk_at "stp"
  clear f1 f2 f3
  refine ⟨a, rfl, ⟨_, s0d.seq hS⟩, fun D2 hD2 => ?_⟩
  refine comp_row (row_list (xs := us)) (fun i ys C4 => Same C3 C4 ∧ C4 D2 = some (.lst ys) ∧ DenL K C4 ys (Trm.dataL (renL (sub (mkA (fun j _ => uS ++ tn (j + 1)) 0 u)) (ts.take i)))) (ln (by omega)) ⟨same_new hD2 _, upd_same, by rw [List.take_zero, renL]; exact .nil⟩ (fun i ys C4 hP => hP.1.seq (s0d.seq hS)) (fun i ys C4 Q' hi hl' hP k => ?_) (fun ys C4 hl' hP => ?_)
  · obtain ⟨f1, f2, f3⟩ := hP
    have hki : i < ts.length := by omega
    obtain ⟨hui, dk⟩ := denL_at hd hki
    walk_at "stp"
    rw [getD_at hui]
    refine ⟨ts[i], _, (dk.mono s0d).mono f1, f1 _ _ knd, hz70 _ (List.getElem_mem hki), by omega, fun x J3 s3 dx => ?_⟩
    have g6 : J3 D2 = some (.lst ys) := s3 _ _ f2
    refine k _ _ g6 ⟨same_upd (f1.trans s3) hD2, upd_same, ?_⟩
    rw [take_succ' hki, renL_map, List.map_append, ← renL_map, dataL_app]
    exact ((f3.mono s3).append (.cons dx .nil)).lst g6
  obtain ⟨f1, f2, f3⟩ := hP
  rw [List.take_of_length_le (by omega), ← han] at f3
  walk_at "stp"
  refine eq_terms (SqL.of (f1 _ _ ka')) (SqL.of f2) (da'.mono f1) f3 (by rw [han]; exact anew_small hz70 _) ?_
  walk_at "stp"
  exact q _ (s0d.trans f1)
end
section
variable {P : Program} {w : World} {K : PySem.W.Frag} {mg : Str → Option Value} {base : Heap} {t : Ad}
theorem ok_l_marked (T : Txt K mg t) (G_l_order : FnOk P w K mg base CX0 73 t.a_l_order t.d_l_order ["_law_terms", "_law_found"] (sp_l_order K 71)) (G_marked : FnOk P w K mg base CX0 73 t.a_marked t.d_marked ["term", "n"] (sp_marked K)) (G_l_called : FnOk P w K mg base CX0 72 t.a_l_called t.d_l_called ["_law_term_here", "_law_new"] (sp_l_called K 70)) (G_alike : FnOk P w K mg base CX0 74 t.a_alike t.d_alike ["one", "other"] (sp_alike K)) (G_l_is_term : FnOk P w K mg base CX0 1 t.a_l_is_term t.d_l_is_term ["_law_thing"] (sp_l_is_term K)) (G_told_anew : FnOk P w K mg base CX0 73 t.a_told_anew t.d_told_anew ["terms"] (sp_told_anew K)) : FnOk P w K mg base CX0 75 t.a_l_marked t.d_l_marked ["_law_term_here", "_law_n"] (sp_l_marked K) := by
  refine T.F_l_marked.ok sc_l_marked (fun vs H Q E h => ?_) (fun cdv A outer s H vs Q E hr h => ?_)
  · unfold sp_l_marked at h
    split at h
    · rfl
    · exact h.elim
  unfold sp_l_marked at h
  split at h
  rotate_left
  · exact h.elim
  refine ⟨_, (pss_cons (ps_set (i := 2) sc_l_marked.nd rfl (by first | exact Or.inl rfl | exact Or.inr rfl) pe_dnewK) (pss_cons (ps_for PassesOwn.never rfl (kpi_list K rfl (pe_call G_l_order (hr.mono (by first | decide | omega)) rfl T.m_l_order T.F_l_order.kp T.b_l_order .nil pass0 (pa_con (pe_lst (pa_con (mv 0) pa_nil)) (pa_con (pe_lst pa_nil) pa_nil)))) (pg_name (i := 3) sc_l_marked.nd rfl (by first | exact Or.inl rfl | exact Or.inr rfl)) (pss_one (ps_dput (hu_of hr) (mv 2) (mv 3) (pe_op (ko_add K rfl) (pe_op (ko_add K rfl) (mv 3) pe_str) (pe_callTy mc_str rfl T.n_str boot_str (pa_con (mv 1) pa_nil))) rfl))) (pss_cons (ps_set (i := 4) (hs := sw_call) sc_l_marked.nd rfl (by first | exact Or.inl rfl | exact Or.inr rfl) (pe_call G_marked (hr.mono (by first | decide | omega)) rfl T.m_marked T.F_marked.kp T.b_marked .nil pass0 (pa_con (mv 0) (pa_con (mv 1) pa_nil)))) (pss_cons (ps_if (PW.pt (pw_or (pt_not (kt_tru K rfl (pe_call G_l_is_term (hr.mono (by first | decide | omega)) rfl T.m_l_is_term T.F_l_is_term.kp T.b_l_is_term .nil pass0 (pa_con (mv 4) pa_nil)))) (pw_or1 (mt_cmp (ko_neT K rfl (room150 hr)) (mv 4) (pe_call G_l_called (hr.mono (by first | decide | omega)) rfl T.m_l_called T.F_l_called.kp T.b_l_called .nil pass0 (pa_con (mv 0) (pa_con (mv 2) pa_nil))) (nomark _))))) (pss_one (ps_ret pe_bl)) pss_nil) (pss_cons (ps_set (i := 5) sc_l_marked.nd rfl (by first | exact Or.inl rfl | exact Or.inr rfl) pe_dnewK) (pss_cons (ps_thaw (ps_for PassesOwn.never rfl (pi_dict (mv 2)) (pg_name (i := 3) sc_l_marked.nd rfl (by first | exact Or.inl rfl | exact Or.inr rfl)) (pss_one (ps_dput (hu_of hr) (mv 5) (mv 3) (pe_op (ko_add K rfl) (pe_dget (hu_of hr) (mv 2) (mv 3) (fun _ _ => rfl)) pe_str) rfl)))) (pss_cons (ps_if (mt_cmp (ko_neT K rfl (room150 hr)) (pe_call G_marked (hr.mono (by first | decide | omega)) rfl T.m_marked T.F_marked.kp T.b_marked .nil pass0 (pa_con (mv 4) (pa_con pe_int pa_nil))) (pe_call G_l_called (hr.mono (by first | decide | omega)) rfl T.m_l_called T.F_l_called.kp T.b_l_called .nil pass0 (pa_con (mv 0) (pa_con (mv 5) pa_nil))) (nomark _)) (pss_one (ps_ret pe_bl)) pss_nil) (pss_one (ps_ret (me_and (pe_cmpR (ko_eqD K rfl (room150 hr)) (pe_call G_told_anew (hr.mono (by first | decide | omega)) rfl T.m_told_anew T.F_told_anew.kp T.b_told_anew .nil pass0 (pa_con (pe_lst (pa_con (mv 4) pa_nil)) pa_nil)) (pe_call G_told_anew (hr.mono (by first | decide | omega)) rfl T.m_told_anew T.F_told_anew.kp T.b_told_anew .nil pass0 (pa_con (pe_lst (pa_con (mv 0) pa_nil)) pa_nil)) (nomark _)) (pe_one (pe_call G_alike (hr.mono (by first | decide | omega)) rfl T.m_alike T.F_alike.kp T.b_alike .nil pass0 (pa_con (mv 0) (pa_con (mv 4) pa_nil)))))))))))))), ?_⟩
  rename_i v n
  obtain ⟨t, hd, hz, h0, h30, hx, q⟩ := h
  walk_at "stp"
  intro pn hpn
  have s1 := same_new hpn (.dK [])
  have k1 : (upd H pn (.dK [])) pn = some (.dK []) := upd_same
  generalize upd H pn (.dK []) = H1 at s1 k1 ⊢
  walk_at "stp"
  refine ⟨ln (by show 1 ≤ 100000; decide), fun p1 hp1 => ?_⟩
  have sp1 : Same H1 (upd H1 p1 (.lst [v])) := same_new hp1 _
  have kp1 : (upd H1 p1 (.lst [v])) p1 = some (.lst [v]) := upd_same
  generalize upd H1 p1 (.lst [v]) = H2 at sp1 kp1 ⊢
  walk_at "stp"
  refine ⟨Nat.zero_le _, fun p2 hp2 => ?_⟩
  have sp2 := same_new hp2 (.lst [])
  have kp2 : (upd H2 p2 (.lst [])) p2 = some (.lst []) := upd_same
  generalize upd H2 p2 (.lst []) = H3 at sp2 kp2 ⊢
  walk_at "stp"
  have s13 := sp1.trans sp2
  have s03 := s1.trans s13
  refine ⟨[v], [t], [], .inl (SqL.of (sp2 _ _ kp1)), .cons (hd.mono s03) .nil, kp2, by simp only [Trm.sizeL, List.length_nil]; omega, fun x hx => by rw [List.mem_singleton.mp hx]; omega, by omega, by omega, fun p H4 s4 kp => ?_⟩
  rw [ordL_one] at kp
  have hu := nod0 t
  have hl := ord_len t []
  have hvx : ∀ x ∈ ord t [], x.length ≤ 100 := fun x hx' => hx x (ord_var hx')
  have han : ren (sub (mkA (fun _ x => mrk n.toNat x) 0 (ord t []))) t = ren (mrk n.toNat) t := mrk_sub
  have ha7 : ren (sub (mkA (fun _ x => mrk 7 (mrk n.toNat x)) 0 (ord t []))) t = ren (mrk 7) (ren (mrk n.toNat) t) := by
    rw [ren_comp]
    refine ren_congr t _ _ fun x hx => ?_
    obtain ⟨j, hj⟩ := mem_idx (var_ord hx)
    rw [sub_at _ (nod0 t) hj]
  have hcn : canon fU (ren (mrk n.toNat) t) = canon fU t := canon_ren (mrk_inj _ _)
  have hvm : ∀ x ∈ vars (ren (mrk n.toNat) t), x.length ≤ 1000 := fun x hx' => by
    rw [vars_ren] at hx'
    obtain ⟨y, hy, rfl⟩ := List.mem_map.mp hx'
    have := mrk_len (n := n.toNat) (x := y) (by omega)
    have := hx y hy
    omega
  generalize ord t [] = u at hu hl kp han ha7 hvx
  rw [List.length_nil, Nat.zero_add] at hl
  have s04 := s03.trans s4
  have kn4 := (s13.trans s4) _ _ k1
  have hne : pn ≠ p := fun z => by rw [z, kp] at kn4; cases kn4
  refine ⟨p, rfl, ⟨_, SqL.of kp⟩, ?_⟩
  refine for_row (row_list (xs := u.map V.str)) (fun i σ' J => ∃ (o1 : Option V), σ' = [some v, some (.int n), some (.ref pn), o1, none, none] ∧ J pn = some (.dK (encS (mkA (fun _ x => mrk n.toNat x) 0 (u.take i)))) ∧ J p = some (.lst (u.map V.str)) ∧ Same H J) ⟨none, rfl, by rw [List.take_zero]; exact kn4, kp, s04⟩ (fun i σ' J hP => by obtain ⟨_, _, _, h, _⟩ := hP; exact SqL.of h) (fun i σ' J hi hP => ?_) (fun σ' J hP => ?_)
  · obtain ⟨o1, rfl, g1, g2, g3⟩ := hP
    rw [List.length_map] at hi
    rw [strs_getD hi]
    have hxl := hvx _ (List.getElem_mem hi)
    walk_at "stp"
    refine mAdd_s (ln (by show _ + 1 ≤ _; omega)) ?_
    walk_at "stp"
    refine mStr_n h0 h30 ?_
    have hln := tn_len (n := n.toNat) (by omega)
    walk_at "stp"
    refine mAdd_s (ln (by rw [strLen_append]; show _ + 1 + _ ≤ _; omega)) ?_
    walk_at "stp"
    refine ⟨pn, _, rfl, DPut.k (k := Sum.inr u[i]) g1 (by rw [enc_len, mkA_len, List.length_take, sizeLine_eq]; omega), ?_⟩
    rw [put_mkA (fun _ x => mrk n.toNat x) hu hi (y := u[i] ++ Str.ofString "." ++ tn n.toNat) rfl]
    have bb := but_upd (p := pn) (H := J) (o := .dK (encS (mkA (fun _ x => mrk n.toNat x) 0 (u.take (i + 1)))))
    exact ⟨_, rfl, upd_same, bb _ _ hne.symm g2, fr_same g3 bb hpn⟩
  obtain ⟨o1, rfl, g1, g2, g3⟩ := hP
  rw [List.length_map, List.take_length] at g1
  walk_at "stp"
  refine ⟨t, hd.mono g3, hz, h0, h30, fun x hx' => by have := hx x hx'; omega, fun w J1 s5 dw => ?_⟩
  have s05 := g3.trans s5
  walk_at "stp"
  refine ⟨_, dw, by rw [ren_size]; omega, fun J2 s6 => ?_⟩
  have s06 := s05.trans s6
  have kn6 := (s5.trans s6) _ _ g1
  have dw6 := dw.mono s6
  walk_at "stp"
  refine iteB (fun e => absurd e (by simp)) (fun e => ?_)
  walk_at "stp"
  refine ⟨t, _, hd.mono s06, kn6, hz, by omega, fun x J3 s7 dx => ?_⟩
  rw [han] at dx
  have s07 := s06.trans s7
  have kn7 := s7 _ _ kn6
  have dw7 := dw6.mono s7
  walk_at "stp"
  refine mEqT_i dw7 dx (by rw [ren_size]; exact hz) ?_
  rw [eqb_self]
  walk_at "stp"
  refine iteB (fun e => absurd e (by simp)) (fun e => ?_)
  walk_at "stp"
  intro pt hpt
  have s8 := same_new hpt (.dK [])
  have k8 : (upd J3 pt (.dK [])) pt = some (.dK []) := upd_same
  have nt : pt ≠ pn := fun z => by rw [z, kn7] at hpt; cases hpt
  generalize upd J3 pt (.dK []) = J4 at s8 k8 ⊢
  have hpt0 : H pt = none := none_back s07 hpt
  have s08 := s07.trans s8
  have kn8 := s8 _ _ kn7
  have dw8 := dw7.mono s8
  walk_at "stp"
  generalize NFz _ = NF
  refine ⟨pn, _, rfl, kn8, fun o nf => ?_⟩
  have b1 : But pn J4 (upd J4 pn (.frz o (.dK (encS (mkA (fun _ x => mrk n.toNat x) 0 u))))) := but_upd
  have f1 : (upd J4 pn (.frz o (.dK (encS (mkA (fun _ x => mrk n.toNat x) 0 u))))) pn = some (.frz o (.dK (encS (mkA (fun _ x => mrk n.toNat x) 0 u)))) := upd_same
  generalize upd J4 pn (.frz o (.dK (encS (mkA (fun _ x => mrk n.toNat x) 0 u)))) = F at b1 f1 ⊢
  refine for_row row_dict (fun i σ' J => ∃ o' : Option V, σ' = [some v, some (.int n), some (.ref pn), o', some w, some (.ref pt)] ∧ J pt = some (.dK (encS (mkA (fun _ x => mrk 7 (mrk n.toNat x)) 0 (u.take i)))) ∧ (∀ b o', b ≠ pt → F b = some o' → J b = some o')) ⟨_, rfl, by rw [List.take_zero]; exact b1 _ _ nt k8, fun b o' _ e => e⟩ (fun i σ' J hP => by obtain ⟨_, _, _, h⟩ := hP; exact h _ _ nt.symm f1) (fun i σ' J hi hP => ?_) (fun σ' J hP => ?_)
  · obtain ⟨o', rfl, g4, g5⟩ := hP
    rw [enc_len, mkA_len] at hi
    rw [mkA_at (fun _ x => mrk n.toNat x) u 0 i hi]
    walk_at "stp"
    have dg : DGet J pn (.str u[i]) (valV (encS (mkA (fun _ x => mrk n.toNat x) 0 u)) (Sum.inr u[i])) := .inl ⟨_, Sum.inr u[i], .inr ⟨o, g5 _ _ nt.symm f1⟩, rfl, rfl⟩
    rw [val_sub (by rw [mkA_keys]; exact List.getElem_mem hi), sub_at _ hu (List.getElem?_eq_getElem hi)] at dg
    refine ⟨pn, _, rfl, dg, ?_⟩
    walk_at "stp"
    have hxl := hvx _ (List.getElem_mem hi)
    have hml := mrk_len (n := n.toNat) (x := u[i]) (by omega)
    refine mAdd_s (ln (by show _ + 2 ≤ _; omega)) ?_
    rw [mrk7]
    walk_at "stp"
    refine ⟨pt, _, rfl, DPut.k (k := Sum.inr u[i]) g4 (by rw [enc_len, mkA_len, List.length_take, sizeLine_eq]; omega), ?_⟩
    rw [put_mkA (fun _ x => mrk 7 (mrk n.toNat x)) hu hi (y := mrk 7 (mrk n.toNat u[i])) rfl]
    have bb := but_upd (p := pt) (H := J) (o := .dK (encS (mkA (fun _ x => mrk 7 (mrk n.toNat x)) 0 (u.take (i + 1)))))
    exact ⟨_, rfl, upd_same, fun b o2 hb e => bb _ _ hb (g5 _ _ hb e)⟩
  obtain ⟨o', rfl, g4, g5⟩ := hP
  rw [enc_len, mkA_len, List.take_length] at g4
  refine ⟨pn, o, _, nf, g5 _ _ nt.symm f1, ?_⟩
  have sZ : ∀ b o2, b ≠ pt → J4 b = some o2 → (upd J pn (.dK (encS (mkA (fun _ x => mrk n.toNat x) 0 u)))) b = some o2 := fun b o2 hb e => by
    by_cases hbn : b = pn
    · rw [hbn, kn8] at e
      rw [hbn, ← e]
      exact upd_same
    · rw [upd_ne hbn]
      exact g5 _ _ hb (b1 _ _ hbn e)
  have s3Z : Same J3 (upd J pn (.dK (encS (mkA (fun _ x => mrk n.toNat x) 0 u)))) := fun b o2 e => sZ b o2 (fun z => by rw [z, hpt] at e; cases e) (s8 _ _ e)
  have kt : (upd J pn (.dK (encS (mkA (fun _ x => mrk n.toNat x) 0 u)))) pt = some (.dK (encS (mkA (fun _ x => mrk 7 (mrk n.toNat x)) 0 u))) := by rw [upd_ne nt]; exact g4
  generalize upd J pn (.dK (encS (mkA (fun _ x => mrk n.toNat x) 0 u))) = Z at s3Z kt ⊢
  have s0Z := s07.trans s3Z
  have dwZ := dw7.mono s3Z
  walk_at "stp"
  refine ⟨_, dwZ, by rw [ren_size]; exact hz, by omega, by omega, hvm, fun y Z1 s9 dy => ?_⟩
  have s09 := s0Z.trans s9
  walk_at "stp"
  refine ⟨t, _, hd.mono s09, s9 _ _ kt, hz, by omega, fun x2 Z2 s10 dx2 => ?_⟩
  rw [ha7] at dx2
  have s0A := s09.trans s10
  have dwA := dwZ.mono (s9.trans s10)
  walk_at "stp"
  refine mEqT_i (dy.mono s10) dx2 (by rw [ren_size, ren_size]; exact hz) ?_
  rw [show ((7 : Int)).toNat = 7 from rfl, eqb_self]
  walk_at "stp"
  refine iteB (fun e => absurd e (by simp)) (fun e => ?_)
  walk_at "stp"
  refine ⟨ln (by show 1 ≤ 100000; decide), fun p3 hp3 => ?_⟩
  have sp3 : Same Z2 (upd Z2 p3 (.lst [w])) := same_new hp3 _
  have kp3 : (upd Z2 p3 (.lst [w])) p3 = some (.lst [w]) := upd_same
  generalize upd Z2 p3 (.lst [w]) = Z3 at sp3 kp3 ⊢
  walk_at "stp"
  refine ⟨[w], [_], SqL.of kp3, .cons (dwA.mono sp3) .nil, by simp only [Trm.sizeL]; rw [ren_size]; omega, fun x hx => by rw [List.mem_singleton.mp hx, ren_size]; exact hz, fun pa va Z4 s11 hpa ka da => ?_⟩
  rw [anew_one, hcn] at da
  walk_at "stp"
  refine ⟨ln (by show 1 ≤ 100000; decide), fun p5 hp5 => ?_⟩
  have sp5 : Same Z4 (upd Z4 p5 (.lst [v])) := same_new hp5 _
  have kp5 : (upd Z4 p5 (.lst [v])) p5 = some (.lst [v]) := upd_same
  generalize upd Z4 p5 (.lst [v]) = Z5 at sp5 kp5 ⊢
  walk_at "stp"
  have s45 := sp3.trans (s11.trans sp5)
  have s0B := s0A.trans s45
  refine ⟨[v], [t], SqL.of kp5, .cons (hd.mono s0B) .nil, by simp only [Trm.sizeL]; omega, fun x hx => by rw [List.mem_singleton.mp hx]; exact hz, fun pb vb Z6 s12 hpb kb db => ?_⟩
  rw [anew_one] at db
  have s56 := sp5.trans s12
  walk_at "stp"
  refine eq_terms (SqL.of (s56 _ _ ka)) (SqL.of kb) (da.mono s56) db (fun x hx => by rw [List.mem_singleton.mp hx, canon, ren_size]; exact hz) ?_
  walk_at "stp"
  refine iteB (fun e => ?_) (fun e => absurd e (by simp))
  walk_at "stp"
  refine ⟨t, _, hd.mono (s0B.trans s12), dwA.mono (s45.trans s12), hz, by rw [ren_size]; exact hz, fun Z7 s13' => ?_⟩
  rw [hcn, eqb_self]
  exact q _ ((s0B.trans s12).trans s13')
end
section
variable {P : Program} {w : World} {K : PySem.W.Frag} {mg : Str → Option Value} {base : Heap} {t : Ad}
theorem sizeL_37 : ∀ ts : List Trm, (∀ t ∈ ts, t.size ≤ 37) → Trm.sizeL ts ≤ 37 * ts.length
  | [], _ => by simp [Trm.sizeL]
  | t :: r, h => by
    have h1 := h t (List.mem_cons_self ..)
    have h2 := sizeL_37 r fun u hu => h u (List.mem_cons_of_mem _ hu)
    simp only [Trm.sizeL, List.length_cons]
    omega
theorem atI_last (us : List V) (v : V) : atI (us ++ [v]) (-1) = some v := by
  unfold atI ixN
  rw [if_neg (by omega), if_pos (by rw [List.length_append, List.length_singleton]; omega), List.length_append, List.length_singleton, show ((-1 : Int) + ((us.length + 1 : Nat) : Int)).toNat = us.length by omega]
  simp
theorem ok_law (T : Txt K mg t) (G_l_names : FnOk P w K mg base CX0 1 t.a_l_names t.d_l_names ["_law_cell_here", "_law_many", "_law_first"] (sp_l_names K)) (G_l_named : FnOk P w K mg base CX0 74 t.a_l_named t.d_l_named ["_law_terms"] (sp_l_named K)) (G_l_cell : FnOk P w K mg base CX0 1 t.a_l_cell t.d_l_cell ["_law_script", "_law_k"] (sp_l_cell K)) (G_l_term : FnOk P w K mg base CX0 2 t.a_l_term t.d_l_term ["_law_cells", "_law_names_here", "_law_words"] (sp_l_term K)) (G_l_called : FnOk P w K mg base CX0 72 t.a_l_called t.d_l_called ["_law_term_here", "_law_new"] (sp_l_called K 70)) (G_l_other_number : FnOk P w K mg base CX0 72 t.a_l_other_number t.d_l_other_number ["_law_term_here"] (sp_l_other_number K 70)) (G_l_alike : FnOk P w K mg base CX0 75 t.a_l_alike t.d_l_alike ["_law_one", "_law_other"] (sp_l_alike K)) (G_l_marked : FnOk P w K mg base CX0 75 t.a_l_marked t.d_l_marked ["_law_term_here", "_law_n"] (sp_l_marked K)) : FnOk P w K mg base CX0 76 t.a_law t.d_law ["_law_script"] (sp_law K) := by
  refine T.F_law.ok sc_law (fun vs H Q E h => ?_) (fun cdv A outer s H vs Q E hr h => ?_)
  · unfold sp_law at h
    split at h
    · rfl
    · exact h.elim
  unfold sp_law at h
  split at h
  rotate_left
  · exact h.elim
  refine ⟨_, (@QSs.pss _ _ _ (qss_cons (qs_of (ps_set (i := 1) (hs := sw_call) sc_law.nd rfl (by first | exact Or.inl rfl | exact Or.inr rfl) (pe_call G_l_names (hr.mono (by first | decide | omega)) rfl T.m_l_names T.F_l_names.kp T.b_l_names .nil pass0 (pa_con (pe_call G_l_cell (hr.mono (by first | decide | omega)) rfl T.m_l_cell T.F_l_cell.kp T.b_l_cell .nil pass0 (pa_con (mv 0) (pa_con pe_int pa_nil))) (pa_con pe_int (pa_con pe_str pa_nil)))))) (qss_cons (qs_of (ps_set (i := 2) (hs := sw_call) sc_law.nd rfl (by first | exact Or.inl rfl | exact Or.inr rfl) (pe_call G_l_names (hr.mono (by first | decide | omega)) rfl T.m_l_names T.F_l_names.kp T.b_l_names .nil pass0 (pa_con (pe_call G_l_cell (hr.mono (by first | decide | omega)) rfl T.m_l_cell T.F_l_cell.kp T.b_l_cell .nil pass0 (pa_con (mv 0) (pa_con pe_int pa_nil))) (pa_con pe_int (pa_con pe_str pa_nil)))))) (qss_cons (qs_of (ps_set (i := 3) (hs := sw_lst) sc_law.nd rfl (by first | exact Or.inl rfl | exact Or.inr rfl) (pe_lst pa_nil))) (qss_cons (qs_of (ps_for PassesOwn.never rfl (pi_range1 rfl T.n_range (pa_con (pe_op mo_mod (pe_call G_l_cell (hr.mono (by first | decide | omega)) rfl T.m_l_cell T.F_l_cell.kp T.b_l_cell .nil pass0 (pa_con (mv 0) (pa_con pe_int pa_nil))) pe_int) pa_nil)) (pg_name (i := 4) sc_law.nd rfl (by first | exact Or.inl rfl | exact Or.inr rfl)) (pss_cons (ps_comp (i := 5) sc_law.nd rfl (by first | exact Or.inl rfl | exact Or.inr rfl) rfl (pi_range1 rfl T.n_range (pa_con (pe_op mo_mod (pe_op mo_fdiv (pe_call G_l_cell (hr.mono (by first | decide | omega)) rfl T.m_l_cell T.F_l_cell.kp T.b_l_cell .nil pass0 (pa_con (mv 0) (pa_con pe_int pa_nil))) (pe_op (ko_add K rfl) (mv 4) pe_int)) pe_int) pa_nil)) (comp_sc (defScope s_law) ["_law_script", "_law_names_here", "_law_words", "_law_terms", "_law_j", "_law_cells", "_law_last", "_law_term_here", "_law_turned", "_law_k", "_law_lost", "_law_others", "_law_other"] ["_law_script", "_law_names_here", "_law_words", "_law_terms", "_law_j", "_law_cells", "_law_last", "_law_term_here", "_law_turned", "%_law_k", "_law_lost", "_law_others", "_law_other"] rfl rfl (by decide +kernel)) (fun _ _ _ _ _ => pts_nil) (fun _ _ _ _ _ => (pe_call G_l_cell (hr.mono (by first | decide | omega)) rfl T.m_l_cell T.F_l_cell.kp T.b_l_cell .nil pass0 (pa_con (mv 1) (pa_con (pe_op (ko_add K rfl) (pe_op (ko_add K rfl) pe_int (pe_op mo_mul pe_int (mv 5))) (mv 0)) pa_nil))))) (pss_one (ps_expr (ke_bm K rfl PySem.F.plainAttrs_list PySem.F.slot_list_append PySem.F.type_list_append mm_append (mv 3) (pa_con (pe_call G_l_term (hr.mono (by first | decide | omega)) rfl T.m_l_term T.F_l_term.kp T.b_l_term .nil pass0 (pa_con (mv 5) (pa_con (mv 1) (pa_con (mv 2) pa_nil)))) pa_nil))))))) (qss_cons (qs_if (pt_not (kt_tru K rfl (pe_call G_l_named (hr.mono (by first | decide | omega)) rfl T.m_l_named T.F_l_named.kp T.b_l_named .nil pass0 (pa_con (mv 3) pa_nil)))) (qss_one (qs_of (ps_ret pe_bl))) qss_nil) (qss_cons (qs_of (ps_expr (ke_bm K rfl PySem.F.plainAttrs_list PySem.F.slot_list_append PySem.F.type_list_append mm_append (mv 3) (pa_con (pe_call G_l_term (hr.mono (by first | decide | omega)) rfl T.m_l_term T.F_l_term.kp T.b_l_term .nil pass0 (pa_con (pe_comp rfl (pi_range1 rfl T.n_range (pa_con pe_int pa_nil)) (comp_sc (defScope s_law) ["_law_script", "_law_names_here", "_law_words", "_law_terms", "_law_j", "_law_cells", "_law_last", "_law_term_here", "_law_turned", "_law_k", "_law_lost", "_law_others", "_law_other"] ["_law_script", "_law_names_here", "_law_words", "_law_terms", "_law_j", "_law_cells", "_law_last", "_law_term_here", "_law_turned", "%_law_k", "_law_lost", "_law_others", "_law_other"] rfl rfl (by decide +kernel)) (fun _ _ _ _ _ => pts_nil) (fun _ _ _ _ _ => (pe_call G_l_cell (hr.mono (by first | decide | omega)) rfl T.m_l_cell T.F_l_cell.kp T.b_l_cell .nil pass0 (pa_con (mv 1) (pa_con (pe_op (ko_add K rfl) pe_int (mv 0)) pa_nil))))) (pa_con (mv 1) (pa_con (mv 2) pa_nil)))) pa_nil)))) (qss_cons (qs_of (ps_set (i := 6) (hs := sw_sub) sc_law.nd rfl (by first | exact Or.inl rfl | exact Or.inr rfl) (pe_ix (ki_seq K rfl) (mv 3) (pe_un mu_neg pe_int) (fun _ _ => rfl)))) (qss_cons (qs_of (ps_for PassesOwn.never rfl (kpi_list K rfl (mv 3)) (pg_name (i := 7) sc_law.nd rfl (by first | exact Or.inl rfl | exact Or.inr rfl)) (pss_one (ps_if (PW.pt (pw_or (pt_not (kt_tru K rfl (pe_call G_l_marked (hr.mono (by first | decide | omega)) rfl T.m_l_marked T.F_l_marked.kp T.b_l_marked .nil pass0 (pa_con (mv 7) (pa_con (pe_op mo_mod (pe_call G_l_cell (hr.mono (by first | decide | omega)) rfl T.m_l_cell T.F_l_cell.kp T.b_l_cell .nil pass0 (pa_con (mv 0) (pa_con pe_int pa_nil))) (pe_op mo_pow pe_int pe_int)) pa_nil))))) (pw_or1 (pt_not (kt_tru K rfl (pe_call G_l_marked (hr.mono (by first | decide | omega)) rfl T.m_l_marked T.F_l_marked.kp T.b_l_marked .nil pass0 (pa_con (mv 7) (pa_con (pe_callB (kc_len K rfl) rfl T.n_len PySem.boot_len (pa_con (mv 3) pa_nil)) pa_nil)))))))) (pss_one (ps_ret pe_bl)) pss_nil)))) (qss_cons (qs_of (ps_set (i := 8) sc_law.nd rfl (by first | exact Or.inl rfl | exact Or.inr rfl) pe_dnewK)) (qss_cons (qs_of (ps_for PassesOwn.never rfl (pi_range1 rfl T.n_range (pa_con pe_int pa_nil)) (pg_name (i := 9) sc_law.nd rfl (by first | exact Or.inl rfl | exact Or.inr rfl)) (pss_one (ps_dput (hu_of hr) (mv 8) (pe_ix (ki_seq K rfl) (mv 1) (mv 9) (fun _ _ => rfl)) (pe_ix (ki_seq K rfl) (mv 1) (pe_op mo_mod (pe_op (ko_add K rfl) (pe_op (ko_add K rfl) (mv 9) pe_int) (pe_op mo_mod (pe_call G_l_cell (hr.mono (by first | decide | omega)) rfl T.m_l_cell T.F_l_cell.kp T.b_l_cell .nil pass0 (pa_con (mv 0) (pa_con pe_int pa_nil))) pe_int)) pe_int) (fun _ _ => rfl)) rfl)))) (qss_cons (qs_of (ps_set (i := 10) sc_law.nd rfl (by first | exact Or.inl rfl | exact Or.inr rfl) (pe_disp (pps_cons (pe_ix (ki_seq K rfl) (mv 1) (pe_op mo_mod (pe_call G_l_cell (hr.mono (by first | decide | omega)) rfl T.m_l_cell T.F_l_cell.kp T.b_l_cell .nil pass0 (pa_con (mv 0) (pa_con pe_int pa_nil))) pe_int) (fun _ _ => rfl)) (pe_ix (ki_seq K rfl) (mv 1) (pe_op mo_mod (pe_op mo_fdiv (pe_call G_l_cell (hr.mono (by first | decide | omega)) rfl T.m_l_cell T.F_l_cell.kp T.b_l_cell .nil pass0 (pa_con (mv 0) (pa_con pe_int pa_nil))) pe_int) pe_int) (fun _ _ => rfl)) pps_nil) rfl rfl (by simp) (by decide)))) (qss_cons (qs_of (ps_set (i := 11) (hs := sw_lst) sc_law.nd rfl (by first | exact Or.inl rfl | exact Or.inr rfl) (pe_lst (pa_con (pe_call G_l_called (hr.mono (by first | decide | omega)) rfl T.m_l_called T.F_l_called.kp T.b_l_called .nil pass0 (pa_con (mv 6) (pa_con (mv 8) pa_nil))) (pa_con (pe_call G_l_called (hr.mono (by first | decide | omega)) rfl T.m_l_called T.F_l_called.kp T.b_l_called .nil pass0 (pa_con (mv 6) (pa_con (mv 10) pa_nil))) (pa_con (pe_call G_l_other_number (hr.mono (by first | decide | omega)) rfl T.m_l_other_number T.F_l_other_number.kp T.b_l_other_number .nil pass0 (pa_con (mv 6) pa_nil)) pa_nil)))))) (qss_cons (qs_of (ps_for PassesOwn.never rfl (kpi_list K rfl (pe_op (ko_add K rfl) (mv 11) (pe_lst (pa_con (mv 6) (pa_con (pe_ix (ki_seq K rfl) (mv 3) pe_int (fun _ _ => rfl)) pa_nil))))) (pg_name (i := 12) sc_law.nd rfl (by first | exact Or.inl rfl | exact Or.inr rfl)) (pss_one (ps_if (pt_not (kt_tru K rfl (pe_call G_l_alike (hr.mono (by first | decide | omega)) rfl T.m_l_alike T.F_l_alike.kp T.b_l_alike .nil pass0 (pa_con (mv 6) (pa_con (mv 12) pa_nil))))) (pss_one (ps_ret pe_bl)) pss_nil)))) (qss_one (qs_of (ps_ret (pe_call G_l_named (hr.mono (by first | decide | omega)) rfl T.m_l_named T.F_l_named.kp T.b_l_named .nil pass0 (pa_con (mv 3) pa_nil))))))))))))))))))), ?_⟩
  rename_i a
  obtain ⟨ns, hS, hn0, hB, q⟩ := h
  walk_at "stp"
  refine ⟨ns, hS, hB, by omega, by omega, fun c0 => ?_⟩
  walk_at "stp"
  refine ⟨by omega, by omega, by decide +kernel, great_nodup, fun np xs H1 hx9 hxn hxl s1 k1 => ?_⟩
  have hx9 : xs.length = 9 := hx9
  walk_at "stp"
  refine ⟨ns, s1.seq hS, hB, by omega, by omega, fun c1 => ?_⟩
  walk_at "stp"
  refine ⟨by omega, by omega, by decide +kernel, small_nodup, fun wp ws H2 hw4 hwn hwl s2 k2 => ?_⟩
  have hw4 : ws.length = 4 := hw4
  have s02 := s1.trans s2
  have k12 := s2 _ _ k1
  walk_at "stp"
  refine ⟨Nat.zero_le _, fun pt hpt => ?_⟩
  have s3 := same_new hpt (.lst [])
  have k3 : (upd H2 pt (.lst [])) pt = some (.lst []) := upd_same
  generalize upd H2 pt (.lst []) = H3 at s3 k3 ⊢
  walk_at "stp"
  refine ⟨ns, (s02.trans s3).seq hS, hB, by omega, by omega, fun c2 => ?_⟩
  walk_at "stp"
  refine ⟨c2 % 5, rfl, by omega, by omega, ?_⟩
  refine for_row (row_range 0 (c2 % 5).toNat) (fun i σ' J => ∃ (o4 o5 : Option V) (us : List V) (ts : List Trm), σ' = [some (.ref a), some (.ref np), some (.ref wp), some (.ref pt), o4, o5, none, none, none, none, none, none, none] ∧ Same H2 J ∧ J pt = some (.lst us) ∧ DenL K J us (Trm.dataL ts) ∧ ts.length = i ∧ ∀ t ∈ ts, vin xs t ∧ t.size ≤ 37) ⟨none, none, [], [], rfl, s3, k3, .nil, rfl, fun t ht => by simp at ht⟩ (fun _ _ _ _ => trivial) (fun i σ' J hi hP => ?_) (fun σ' J hP => ?_)
  · obtain ⟨o4, o5, us, ts, rfl, g1, g2, g3, g4, g5⟩ := hP
    have s0J := s02.trans g1
    have hi5 : i < 5 := by omega
    walk_at "stp"
    refine ⟨ns, s0J.seq hS, hB, by omega, by omega, fun c3 => ?_⟩
    walk_at "stp"
    refine m2_i (C := CDiv) (cdiv_i (by omega) (by omega)) ?_
    walk_at "stp"
    refine ⟨c3 / (0 + (i : Int) + 1) % 19, rfl, by omega, by omega, fun D hD => ?_⟩
    generalize hm : c3 / (0 + (i : Int) + 1) % 19 = m
    have hm0 : 0 ≤ m := by omega
    have hm1 : m < 19 := by omega
    refine comp_row (row_range 0 m.toNat) (fun n ys J2 => Same J J2 ∧ (∃ cs : List Int, ys = cs.map V.int ∧ cs.length = n) ∧ J2 D = some (.lst ys)) (ln (by omega)) ⟨same_new hD _, ⟨[], rfl, rfl⟩, upd_same⟩ (fun _ _ _ _ => trivial) (fun n ys J2 Q' hn' hl' hP k => ?_) (fun ys J2 hl' hP => ?_)
    · obtain ⟨f1, ⟨cs, f2, f3⟩, f4⟩ := hP
      walk_at "stp"
      refine mMul_i (mulOk_left (by decide)) ?_
      walk_at "stp"
      refine ⟨ns, (s0J.trans f1).seq hS, hB, by omega, by omega, fun v => ?_⟩
      exact k _ _ f4 ⟨same_upd f1 hD, ⟨cs ++ [v], by rw [f2, List.map_append]; rfl, by rw [List.length_append, f3]; rfl⟩, upd_same⟩
    obtain ⟨f1, ⟨cs, f2, f3⟩, f4⟩ := hP
    subst f2
    have s2J := g1.trans f1
    walk_at "stp"
    refine ⟨.inl ⟨rfl, _, SqL.of (f1 _ _ g2)⟩, ?_⟩
    walk_at "stp"
    refine ⟨cs, xs, ws, SqL.of f4, by omega, SqL.of (s2J _ _ k12), by omega, by omega, SqL.of (s2J _ _ k2), by omega, by omega, hwl, fun v0 t0 J3 s5 d5 v5 z5 => ?_⟩
    have kt3 := s5 _ _ (f1 _ _ g2)
    have hpt2 : H2 pt = none := hpt
    walk_at "stp"
    have hul := den_len g3
    refine mAppend_i kt3 (ln1 (by omega)) ?_
    refine ⟨_, _, us ++ [v0], ts ++ [t0], rfl, same_upd (s2J.trans s5) hpt2, upd_same, ?_, by rw [List.length_append, g4]; rfl, fun t ht => ?_⟩
    · rw [dataL_app]
      exact ((g3.mono (f1.trans s5)).append (.cons d5 .nil)).lst kt3
    · rcases List.mem_append.mp ht with z | z
      · exact g5 t z
      · rw [List.mem_singleton.mp z]; exact ⟨v5, by omega⟩
  obtain ⟨o4, o5, us, ts, rfl, g1, g2, g3, g4, g5⟩ := hP
  have s0J := s02.trans g1
  have hul := den_len g3
  have hln : ts.length ≤ 4 := by omega
  have hsz := sizeL_37 ts fun t ht => (g5 t ht).2
  walk_at "stp"
  refine ⟨us, ts, SqL.of g2, g3, by omega, fun t ht => by have := (g5 t ht).2; omega, fun J1 s4 => ?_⟩
  have s0A := s0J.trans s4
  have s2A := g1.trans s4
  walk_at "stp"
  refine iteF ?_
  walk_at "stp"
  refine ⟨.inl ⟨rfl, _, SqL.of (s4 _ _ g2)⟩, ?_⟩
  walk_at "stp"
  refine ⟨18, rfl, by omega, by omega, fun D hD => ?_⟩
  refine comp_row (row_range 0 (18 : Int).toNat) (fun n ys J2 => Same J1 J2 ∧ (∃ cs : List Int, ys = cs.map V.int ∧ cs.length = n) ∧ J2 D = some (.lst ys)) (ln (by show 18 ≤ 100000; decide)) ⟨same_new hD _, ⟨[], rfl, rfl⟩, upd_same⟩ (fun _ _ _ _ => trivial) (fun n ys J2 Q' hn' hl' hP k => ?_) (fun ys J2 hl' hP => ?_)
  · obtain ⟨f1, ⟨cs, f2, f3⟩, f4⟩ := hP
    have hn18 : n < 18 := hn'
    walk_at "stp"
    refine ⟨ns, (s0A.trans f1).seq hS, hB, by omega, by omega, fun v => ?_⟩
    exact k _ _ f4 ⟨same_upd f1 hD, ⟨cs ++ [v], by rw [f2, List.map_append]; rfl, by rw [List.length_append, f3]; rfl⟩, upd_same⟩
  obtain ⟨f1, ⟨cs, f2, f3⟩, f4⟩ := hP
  subst f2
  have f3 : cs.length = 18 := f3
  have s2B := s2A.trans f1
  walk_at "stp"
  refine ⟨cs, xs, ws, SqL.of f4, by omega, SqL.of (s2B _ _ k12), by omega, by omega, SqL.of (s2B _ _ k2), by omega, by omega, hwl, fun v0 t0 J3 s5 d5 v5 z5 => ?_⟩
  have s4x := s4.trans (f1.trans s5)
  have kt3 := s4x _ _ g2
  walk_at "stp"
  refine mAppend_i kt3 (ln1 (by omega)) ?_
  have dT : DenL K (upd J3 pt (.lst (us ++ [v0]))) (us ++ [v0]) (Trm.dataL (ts ++ [t0])) := by
    rw [dataL_app]
    exact ((g3.mono s4x).append (.cons d5 .nil)).lst kt3
  have kT : (upd J3 pt (.lst (us ++ [v0]))) pt = some (.lst (us ++ [v0])) := upd_same
  have s2T : Same H2 (upd J3 pt (.lst (us ++ [v0]))) := same_upd (s2B.trans s5) hpt
  generalize upd J3 pt (.lst (us ++ [v0])) = W at dT kT s2T ⊢
  have hT : ∀ t ∈ ts ++ [t0], vin xs t ∧ t.size ≤ 37 := fun t ht => by
    rcases List.mem_append.mp ht with z | z
    · exact g5 t z
    · rw [List.mem_singleton.mp z]; exact ⟨v5, by omega⟩
  have hlT : (ts ++ [t0]).length ≤ 5 := by rw [List.length_append]; show _ + 1 ≤ _; omega
  obtain ⟨ua, ta, eua, eta, dta⟩ : ∃ (ua : V) (ta : Trm), (us ++ [v0])[0]? = some ua ∧ ta ∈ ts ++ [t0] ∧ Den K W ua ta.data := by
    obtain ⟨hu0, d0⟩ := denL_at dT (i := 0) (by rw [List.length_append]; show 0 < _ + 1; omega)
    exact ⟨_, _, List.getElem?_eq_getElem hu0, List.getElem_mem _, d0⟩
  have d0W : Den K W v0 t0.data := by
    rw [dataL_app] at dT
    obtain ⟨ws', w, e1, e2, e3⟩ := DenL.snoc dT
    obtain ⟨_, e4⟩ := List.append_inj' e1 rfl
    have e5 : v0 = w := by simpa using e4
    rw [e5]
    exact e3
  generalize hTS : ts ++ [t0] = TS at dT hT hlT eta
  have hat : atI (us ++ [v0]) (-1) = some v0 := atI_last us v0
  generalize us ++ [v0] = US at dT kT eua hat
  have hulT := den_len dT
  walk_at "stp"
  refine mIx_l (SqL.of kT) hat ?_
  have s0W := s02.trans s2T
  walk_at "stp"
  refine ⟨pt, rfl, ⟨_, SqL.of kT⟩, ?_⟩
  refine for_row (row_list (xs := US)) (fun i σ' J => ∃ (o7 : Option V), σ' = [some (.ref a), some (.ref np), some (.ref wp), some (.ref pt), o4, o5, some v0, o7, none, none, none, none, none] ∧ Same W J) ⟨none, rfl, Same.refl _⟩ (fun i σ' J hP => by obtain ⟨_, _, h⟩ := hP; exact SqL.of (h _ _ kT)) (fun i σ' J hi hP => ?_) (fun σ' J hP => ?_)
  · obtain ⟨o7, rfl, gW⟩ := hP
    obtain ⟨hui, di⟩ := denL_at dT (i := i) (by omega)
    rw [getD_at hui]
    have hTi := hT _ (List.getElem_mem (by omega : i < TS.length))
    have hxi : ∀ x ∈ vars TS[i], x.length ≤ 100 := fun x hx => by
      have := hxl x (vin_vars hTi.1 x hx)
      omega
    walk_at "stp"
    refine ⟨ns, (s0W.trans gW).seq hS, hB, by omega, by omega, fun c4 => ?_⟩
    walk_at "stp"
    refine m2_i (C := CPow) ⟨by decide, by decide, by decide⟩ ?_
    walk_at "stp"
    have e30 : (10 : Int) ^ (30 : Int).toNat = 10 ^ 30 := by decide +kernel
    rw [e30]
    have hc0 := Int.emod_nonneg c4 (show (10 : Int) ^ 30 ≠ 0 by decide +kernel)
    have hc1 := Int.emod_lt_of_pos c4 (show (0 : Int) < 10 ^ 30 by decide +kernel)
    generalize c4 % 10 ^ 30 = cm at hc0 hc1 ⊢
    walk_at "stp"
    refine ⟨TS[i], di.mono gW, by omega, hc0, hc1, hxi, fun J2 s6 => ?_⟩
    walk_at "stp"
    refine iteB (fun e => absurd e (by simp)) (fun e => ?_)
    have gW2 := gW.trans s6
    walk_at "stp"
    refine mLen_l (SqL.of (gW2 _ _ kT)) ?_
    walk_at "stp"
    refine ⟨TS[i], di.mono gW2, by omega, by omega, by omega, hxi, fun J3 s7 => ?_⟩
    walk_at "stp"
    refine iteB (fun e => absurd e (by simp)) (fun e => ?_)
    walk_at "stp"
    exact ⟨_, rfl, gW2.trans s7⟩
  obtain ⟨o7, rfl, gW⟩ := hP
  have s0K := s0W.trans gW
  have s2K := s2T.trans gW
  have kNK := s2K _ _ k12
  have kTK := gW _ _ kT
  have dTK := dT.mono gW
  have d0K := d0W.mono gW
  have daK := dta.mono gW
  clear gW s2T s0W
  walk_at "stp"
  intro pu hpu
  have s8 := same_new hpu (.dK [])
  have k8 : (upd J pu (.dK [])) pu = some (.dK []) := upd_same
  generalize upd J pu (.dK []) = U at s8 k8 ⊢
  walk_at "stp"
  refine ⟨9, rfl, by omega, by omega, ?_⟩
  refine for_row (row_range 0 (9 : Int).toNat) (fun i σ' J2 => ∃ (o9 : Option V) (as : As), σ' = [some (.ref a), some (.ref np), some (.ref wp), some (.ref pt), o4, o5, some v0, o7, some (.ref pu), o9, none, none, none] ∧ J2 pu = some (.dK (encS as)) ∧ as.map (·.1) = xs.take i ∧ Same J J2) ⟨none, [], rfl, k8, by rw [List.take_zero]; rfl, s8⟩ (fun _ _ _ _ => trivial) (fun i σ' J2 hi hP => ?_) (fun σ' J2 hP => ?_)
  · obtain ⟨o9, as, rfl, h1, h2, h3⟩ := hP
    have hi9 : i < 9 := hi
    walk_at "stp"
    refine ⟨ns, (s0K.trans h3).seq hS, hB, by omega, by omega, fun c5 => ?_⟩
    walk_at "stp"
    obtain ⟨vv, e1, e2⟩ := atI_lt (xs := xs.map V.str) (i := (0 + (i : Int) + 1 + c5 % 8) % 9) (by omega) (by rw [List.length_map, hx9]; omega)
    obtain ⟨nm, rfl, hnm⟩ := strs_at e1
    refine mIx_l (SqL.of (h3 _ _ kNK)) e1 ?_
    walk_at "stp"
    have hix : i < xs.length := by omega
    refine mIx_l (SqL.of (h3 _ _ kNK)) (v := .str xs[i]) (by rw [Int.zero_add]; exact atI_nat (by rw [List.getElem?_map, List.getElem?_eq_getElem hix]; rfl)) ?_
    walk_at "stp"
    have hal : as.length = i := by rw [← List.length_map (f := fun r : Str × Str => r.1), h2, List.length_take]; omega
    refine ⟨pu, _, rfl, DPut.k (k := Sum.inr xs[i]) h1 (by rw [enc_len, hal, sizeLine_eq]; omega), ?_⟩
    rw [put_enc (by rw [h2]; exact take_not hxn hix)]
    have bb := but_upd (p := pu) (H := J2) (o := .dK (encS (as ++ [(xs[i], nm)])))
    refine ⟨_, as ++ [(xs[i], nm)], rfl, upd_same, ?_, fr_same h3 bb hpu⟩
    rw [List.map_append, h2, take_succ' hix]
    rfl
  obtain ⟨o9, as, rfl, h1, h2, h3⟩ := hP
  clear h2
  walk_at "stp"
  intro pl hpl
  have s9 := same_new hpl (.dK [])
  have k9 : (upd J2 pl (.dK [])) pl = some (.dK []) := upd_same
  have nlu : pu ≠ pl := fun z => by rw [← z, h1] at hpl; cases hpl
  generalize upd J2 pl (.dK []) = L at s9 k9 ⊢
  have sJL := h3.trans s9
  unfold tPairs
  walk_at "stp"
  refine ⟨ns, (s0K.trans sJL).seq hS, hB, by omega, by omega, fun c6 => ?_⟩
  walk_at "stp"
  obtain ⟨vv, e1, e2⟩ := atI_lt (xs := xs.map V.str) (i := c6 % 9) (by omega) (by rw [List.length_map, hx9]; omega)
  obtain ⟨ka, rfl, hka⟩ := strs_at e1
  refine mIx_l (SqL.of (sJL _ _ kNK)) e1 ?_
  walk_at "stp"
  refine ⟨ns, (s0K.trans sJL).seq hS, hB, by omega, by omega, fun c7 => ?_⟩
  walk_at "stp"
  obtain ⟨vv', e1', e2'⟩ := atI_lt (xs := xs.map V.str) (i := c7 / 8 % 9) (by omega) (by rw [List.length_map, hx9]; omega)
  obtain ⟨va, rfl, hva⟩ := strs_at e1'
  refine mIx_l (SqL.of (sJL _ _ kNK)) e1' ?_
  unfold tPairs
  refine ⟨k9, [(Sum.inr ka, .str va)], rfl, by simp, ?_⟩
  have kl : (upd L pl (.dK (mergeK [] [(Sum.inr ka, V.str va)]))) pl = some (.dK (encS [(ka, va)])) := upd_same
  have bl := but_upd (p := pl) (H := L) (o := .dK (mergeK [] [(Sum.inr ka, V.str va)]))
  have ku := bl _ _ nlu (s9 _ _ h1)
  have hpl0 : J pl = none := none_back h3 hpl
  have sJM := fr_same sJL bl hpl0
  generalize upd L pl (.dK (mergeK [] [(Sum.inr ka, V.str va)])) = M at kl ku sJM ⊢
  have z37 := (hT t0 (by rw [← hTS]; simp)).2
  walk_at "stp"
  refine ⟨t0, _, d0K.mono sJM, ku, by omega, by omega, fun x1 M1 t1' dx1 => ?_⟩
  walk_at "stp"
  refine ⟨t0, _, (d0K.mono sJM).mono t1', t1' _ _ kl, by omega, by omega, fun x2 M2 t2' dx2 => ?_⟩
  have t12 := t1'.trans t2'
  walk_at "stp"
  refine ⟨t0, (d0K.mono sJM).mono t12, by omega, by omega, fun x3 t3 M3 t3' dx3 z3 => ?_⟩
  have t13 := t12.trans t3'
  walk_at "stp"
  refine ⟨ln (by show 3 ≤ 100000; decide), fun po hpo => ?_⟩
  have spo : Same M3 (upd M3 po (.lst [x1, x2, x3])) := same_new hpo _
  have kpo : (upd M3 po (.lst [x1, x2, x3])) po = some (.lst [x1, x2, x3]) := upd_same
  generalize upd M3 po (.lst [x1, x2, x3]) = M4 at spo kpo ⊢
  walk_at "stp"
  have sJ4 := sJM.trans (t13.trans spo)
  refine mIx_l (SqL.of (sJ4 _ _ kTK)) (v := ua) (atI_nat (j := 0) eua) ?_
  walk_at "stp"
  refine ⟨ln (by show 2 ≤ 100000; decide), fun pq hpq => ?_⟩
  have spq : Same M4 (upd M4 pq (.lst [v0, ua])) := same_new hpq _
  have kpq : (upd M4 pq (.lst [v0, ua])) pq = some (.lst [v0, ua]) := upd_same
  generalize upd M4 pq (.lst [v0, ua]) = M5 at spq kpq ⊢
  walk_at "stp"
  refine mAdd_l (spq _ _ kpo) kpq (ln (by show 3 + 2 ≤ 100000; decide)) (fun pz hpz => ?_)
  have s10 := same_new hpz (.lst ([x1, x2, x3] ++ [v0, ua]))
  have k10 : (upd M5 pz (.lst ([x1, x2, x3] ++ [v0, ua]))) pz = some (.lst [x1, x2, x3, v0, ua]) := upd_same
  generalize upd M5 pz (.lst ([x1, x2, x3] ++ [v0, ua])) = N at s10 k10 ⊢
  have s3N := spo.trans (spq.trans s10)
  have sJN := sJM.trans (t13.trans s3N)
  have dAll : DenL K N [x1, x2, x3, v0, ua] (Trm.dataL [ren (sub as) t0, ren (sub [(ka, va)]) t0, t3, t0, ta]) :=
    .cons (dx1.mono ((t2'.trans t3').trans s3N)) (.cons (dx2.mono (t3'.trans s3N)) (.cons (dx3.mono s3N) (.cons (d0K.mono sJN) (.cons (daK.mono sJN) .nil))))
  have zAll : ∀ t ∈ [ren (sub as) t0, ren (sub [(ka, va)]) t0, t3, t0, ta], t.size ≤ 37 := fun t ht => by
    have := (hT ta eta).2
    simp only [List.mem_cons, List.not_mem_nil, or_false] at ht
    rcases ht with rfl | rfl | rfl | rfl | rfl
    · rw [ren_size]; exact z37
    · rw [ren_size]; exact z37
    · omega
    · exact z37
    · omega
  generalize [x1, x2, x3, v0, ua] = XS at k10 dAll
  generalize [ren (sub as) t0, ren (sub [(ka, va)]) t0, t3, t0, ta] = TT at dAll zAll
  have hxl5 := den_len dAll
  refine ⟨pz, rfl, ⟨_, SqL.of k10⟩, ?_⟩
  refine for_row (row_list (xs := XS)) (fun i σ' J => ∃ (o12 : Option V), σ' = [some (.ref a), some (.ref np), some (.ref wp), some (.ref pt), o4, o5, some v0, o7, some (.ref pu), o9, some (.ref pl), some (.ref po), o12] ∧ Same N J) ⟨none, rfl, Same.refl _⟩ (fun i σ' J hP => by obtain ⟨_, _, h⟩ := hP; exact SqL.of (h _ _ k10)) (fun i σ' J5 hi hP => ?_) (fun σ' J5 hP => ?_)
  · obtain ⟨o12, rfl, gN⟩ := hP
    obtain ⟨hui, di⟩ := denL_at dAll (i := i) (by omega)
    have zi := zAll _ (List.getElem_mem (by omega : i < TT.length))
    rw [getD_at hui]
    walk_at "stp"
    refine ⟨t0, TT[i], (d0K.mono sJN).mono gN, di.mono gN, by omega, by omega, fun J6 s11 => ?_⟩
    walk_at "stp"
    refine iteB (fun e => absurd e (by simp)) (fun e => ?_)
    walk_at "stp"
    exact ⟨_, rfl, gN.trans s11⟩
  obtain ⟨o12, rfl, gN⟩ := hP
  have sF := sJN.trans gN
  walk_at "stp"
  have hszT := sizeL_37 TS fun t ht => (hT t ht).2
  refine ⟨US, TS, SqL.of (sF _ _ kTK), dTK.mono sF, by omega, fun t ht => by have := (hT t ht).2; omega, fun J6 s11 => ?_⟩
  exact q _
end
section
variable {P : Program} {w : World} {K : PySem.W.Frag} {mg : Str → Option Value} {base : Heap} {t : Ad}
theorem ok_all (T : Txt K mg t) : FnOk P w K mg base CX0 76 t.a_law t.d_law ["_law_script"] (sp_law K) := by
  have h_unknown := ok_unknown (P := P) (w := w) (base := base) T
  have h_app := ok_app (P := P) (w := w) (base := base) T
  have h_unknowns_of := ok_unknowns_of (P := P) (w := w) (base := base) T
  have h_l_cell := ok_l_cell (P := P) (w := w) (base := base) T
  have h_l_names := ok_l_names (P := P) (w := w) (base := base) T
  have h_l_number := ok_l_number (P := P) (w := w) (base := base) T
  have h_l_sign := ok_l_sign (P := P) (w := w) (base := base) T
  have h_l_is_term := ok_l_is_term (P := P) (w := w) (base := base) T
  have h_l_term := ok_l_term T h_l_number h_l_sign
  have h_renamed := ok_renamed T h_unknown h_app 70
  have h_l_called := ok_l_called (P := P) (w := w) (base := base) T  70
  have h_l_other_number := ok_l_other_number (P := P) (w := w) (base := base) T  70
  have h_told_anew := ok_told_anew T h_unknowns_of h_renamed
  have h_marked := ok_marked T h_unknowns_of h_renamed
  have h_l_order := ok_l_order (P := P) (w := w) (base := base) T  71
  have h_alike := ok_alike T h_told_anew
  have h_l_shape := ok_l_shape T h_l_order h_l_called
  have h_l_named := ok_l_named T h_l_order h_unknowns_of h_told_anew h_l_is_term h_l_called
  have h_l_alike := ok_l_alike T h_l_shape h_alike
  have h_l_marked := ok_l_marked T h_l_order h_marked h_l_called h_alike h_l_is_term h_told_anew
  exact ok_law T h_l_names h_l_named h_l_cell h_l_term h_l_called h_l_other_number h_l_alike h_l_marked
end
theorem txt_mk {K : PySem.W.Frag} {h : Heap} {mg : Str → Option Value} (X : K.In h) (G : h.Ns mainGlobals mg)
    {f0 : Addr} {od0 an0 : Option Addr} {sl0 : Array (Option Value)} {oc0 kV0 dc0 pm0 cd0 ct0 : Value}
    {f1 : Addr} {od1 an1 : Option Addr} {sl1 : Array (Option Value)} {oc1 kV1 dc1 pm1 cd1 ct1 : Value}
    {f2 : Addr} {od2 an2 : Option Addr} {sl2 : Array (Option Value)} {oc2 kV2 dc2 pm2 cd2 ct2 : Value}
    {f3 : Addr} {od3 an3 : Option Addr} {sl3 : Array (Option Value)} {oc3 kV3 dc3 pm3 cd3 ct3 : Value}
    {f4 : Addr} {od4 an4 : Option Addr} {sl4 : Array (Option Value)} {oc4 kV4 dc4 pm4 cd4 ct4 : Value}
    {f5 : Addr} {od5 an5 : Option Addr} {sl5 : Array (Option Value)} {oc5 kV5 dc5 pm5 cd5 ct5 : Value}
    {f6 : Addr} {od6 an6 : Option Addr} {sl6 : Array (Option Value)} {oc6 kV6 dc6 pm6 cd6 ct6 : Value}
    {f7 : Addr} {od7 an7 : Option Addr} {sl7 : Array (Option Value)} {oc7 kV7 dc7 pm7 cd7 ct7 : Value}
    {f8 : Addr} {od8 an8 : Option Addr} {sl8 : Array (Option Value)} {oc8 kV8 dc8 pm8 cd8 ct8 : Value}
    {f9 : Addr} {od9 an9 : Option Addr} {sl9 : Array (Option Value)} {oc9 kV9 dc9 pm9 cd9 ct9 : Value}
    {f10 : Addr} {od10 an10 : Option Addr} {sl10 : Array (Option Value)} {oc10 kV10 dc10 pm10 cd10 ct10 : Value}
    {f11 : Addr} {od11 an11 : Option Addr} {sl11 : Array (Option Value)} {oc11 kV11 dc11 pm11 cd11 ct11 : Value}
    {f12 : Addr} {od12 an12 : Option Addr} {sl12 : Array (Option Value)} {oc12 kV12 dc12 pm12 cd12 ct12 : Value}
    {f13 : Addr} {od13 an13 : Option Addr} {sl13 : Array (Option Value)} {oc13 kV13 dc13 pm13 cd13 ct13 : Value}
    {f14 : Addr} {od14 an14 : Option Addr} {sl14 : Array (Option Value)} {oc14 kV14 dc14 pm14 cd14 ct14 : Value}
    {f15 : Addr} {od15 an15 : Option Addr} {sl15 : Array (Option Value)} {oc15 kV15 dc15 pm15 cd15 ct15 : Value}
    {f16 : Addr} {od16 an16 : Option Addr} {sl16 : Array (Option Value)} {oc16 kV16 dc16 pm16 cd16 ct16 : Value}
    {f17 : Addr} {od17 an17 : Option Addr} {sl17 : Array (Option Value)} {oc17 kV17 dc17 pm17 cd17 ct17 : Value}
    {f18 : Addr} {od18 an18 : Option Addr} {sl18 : Array (Option Value)} {oc18 kV18 dc18 pm18 cd18 ct18 : Value}
    {f19 : Addr} {od19 an19 : Option Addr} {sl19 : Array (Option Value)} {oc19 kV19 dc19 pm19 cd19 ct19 : Value}
    {f20 : Addr} {od20 an20 : Option Addr} {sl20 : Array (Option Value)} {oc20 kV20 dc20 pm20 cd20 ct20 : Value}
    (a0 : PySem.W.nsIn K mainGlobals "unknown" = some (some (.ref f0)))
    (l0 : K.lookup f0 = some ⟨oc0, od0, .func (PySem.W.fnOf "unknown" "unknown" (defArgs s_unknown) (defBody s_unknown) (defScope s_unknown) .none kV0 dc0 pm0 an0 cd0 ct0), sl0⟩)
    (c0 : PySem.W.codeIn K cd0 "unknown" = true)
    (k0 : PySem.W.keepIn K (.ref f0) = true)
    (a1 : PySem.W.nsIn K mainGlobals "app" = some (some (.ref f1)))
    (l1 : K.lookup f1 = some ⟨oc1, od1, .func (PySem.W.fnOf "app" "app" (defArgs s_app) (defBody s_app) (defScope s_app) .none kV1 dc1 pm1 an1 cd1 ct1), sl1⟩)
    (c1 : PySem.W.codeIn K cd1 "app" = true)
    (k1 : PySem.W.keepIn K (.ref f1) = true)
    (a2 : PySem.W.nsIn K mainGlobals "unknowns_of" = some (some (.ref f2)))
    (l2 : K.lookup f2 = some ⟨oc2, od2, .func (PySem.W.fnOf "unknowns_of" "unknowns_of" (defArgs s_unknowns_of) (defBody s_unknowns_of) (defScope s_unknowns_of) .none kV2 dc2 pm2 an2 cd2 ct2), sl2⟩)
    (c2 : PySem.W.codeIn K cd2 "unknowns_of" = true)
    (k2 : PySem.W.keepIn K (.ref f2) = true)
    (a3 : PySem.W.nsIn K mainGlobals "renamed" = some (some (.ref f3)))
    (l3 : K.lookup f3 = some ⟨oc3, od3, .func (PySem.W.fnOf "renamed" "renamed" (defArgs s_renamed) (defBody s_renamed) (defScope s_renamed) .none kV3 dc3 pm3 an3 cd3 ct3), sl3⟩)
    (c3 : PySem.W.codeIn K cd3 "renamed" = true)
    (k3 : PySem.W.keepIn K (.ref f3) = true)
    (a4 : PySem.W.nsIn K mainGlobals "told_anew" = some (some (.ref f4)))
    (l4 : K.lookup f4 = some ⟨oc4, od4, .func (PySem.W.fnOf "told_anew" "told_anew" (defArgs s_told_anew) (defBody s_told_anew) (defScope s_told_anew) .none kV4 dc4 pm4 an4 cd4 ct4), sl4⟩)
    (c4 : PySem.W.codeIn K cd4 "told_anew" = true)
    (k4 : PySem.W.keepIn K (.ref f4) = true)
    (a5 : PySem.W.nsIn K mainGlobals "alike" = some (some (.ref f5)))
    (l5 : K.lookup f5 = some ⟨oc5, od5, .func (PySem.W.fnOf "alike" "alike" (defArgs s_alike) (defBody s_alike) (defScope s_alike) .none kV5 dc5 pm5 an5 cd5 ct5), sl5⟩)
    (c5 : PySem.W.codeIn K cd5 "alike" = true)
    (k5 : PySem.W.keepIn K (.ref f5) = true)
    (a6 : PySem.W.nsIn K mainGlobals "marked" = some (some (.ref f6)))
    (l6 : K.lookup f6 = some ⟨oc6, od6, .func (PySem.W.fnOf "marked" "marked" (defArgs s_marked) (defBody s_marked) (defScope s_marked) .none kV6 dc6 pm6 an6 cd6 ct6), sl6⟩)
    (c6 : PySem.W.codeIn K cd6 "marked" = true)
    (k6 : PySem.W.keepIn K (.ref f6) = true)
    (a7 : PySem.W.nsIn K mainGlobals "_law_cell" = some (some (.ref f7)))
    (l7 : K.lookup f7 = some ⟨oc7, od7, .func (PySem.W.fnOf "_law_cell" "_law_cell" (defArgs s_l_cell) (defBody s_l_cell) (defScope s_l_cell) .none kV7 dc7 pm7 an7 cd7 ct7), sl7⟩)
    (c7 : PySem.W.codeIn K cd7 "_law_cell" = true)
    (k7 : PySem.W.keepIn K (.ref f7) = true)
    (a8 : PySem.W.nsIn K mainGlobals "_law_names" = some (some (.ref f8)))
    (l8 : K.lookup f8 = some ⟨oc8, od8, .func (PySem.W.fnOf "_law_names" "_law_names" (defArgs s_l_names) (defBody s_l_names) (defScope s_l_names) .none kV8 dc8 pm8 an8 cd8 ct8), sl8⟩)
    (c8 : PySem.W.codeIn K cd8 "_law_names" = true)
    (k8 : PySem.W.keepIn K (.ref f8) = true)
    (a9 : PySem.W.nsIn K mainGlobals "_law_number" = some (some (.ref f9)))
    (l9 : K.lookup f9 = some ⟨oc9, od9, .func (PySem.W.fnOf "_law_number" "_law_number" (defArgs s_l_number) (defBody s_l_number) (defScope s_l_number) .none kV9 dc9 pm9 an9 cd9 ct9), sl9⟩)
    (c9 : PySem.W.codeIn K cd9 "_law_number" = true)
    (k9 : PySem.W.keepIn K (.ref f9) = true)
    (a10 : PySem.W.nsIn K mainGlobals "_law_sign" = some (some (.ref f10)))
    (l10 : K.lookup f10 = some ⟨oc10, od10, .func (PySem.W.fnOf "_law_sign" "_law_sign" (defArgs s_l_sign) (defBody s_l_sign) (defScope s_l_sign) .none kV10 dc10 pm10 an10 cd10 ct10), sl10⟩)
    (c10 : PySem.W.codeIn K cd10 "_law_sign" = true)
    (k10 : PySem.W.keepIn K (.ref f10) = true)
    (a11 : PySem.W.nsIn K mainGlobals "_law_term" = some (some (.ref f11)))
    (l11 : K.lookup f11 = some ⟨oc11, od11, .func (PySem.W.fnOf "_law_term" "_law_term" (defArgs s_l_term) (defBody s_l_term) (defScope s_l_term) .none kV11 dc11 pm11 an11 cd11 ct11), sl11⟩)
    (c11 : PySem.W.codeIn K cd11 "_law_term" = true)
    (k11 : PySem.W.keepIn K (.ref f11) = true)
    (a12 : PySem.W.nsIn K mainGlobals "_law_is_term" = some (some (.ref f12)))
    (l12 : K.lookup f12 = some ⟨oc12, od12, .func (PySem.W.fnOf "_law_is_term" "_law_is_term" (defArgs s_l_is_term) (defBody s_l_is_term) (defScope s_l_is_term) .none kV12 dc12 pm12 an12 cd12 ct12), sl12⟩)
    (c12 : PySem.W.codeIn K cd12 "_law_is_term" = true)
    (k12 : PySem.W.keepIn K (.ref f12) = true)
    (a13 : PySem.W.nsIn K mainGlobals "_law_order" = some (some (.ref f13)))
    (l13 : K.lookup f13 = some ⟨oc13, od13, .func (PySem.W.fnOf "_law_order" "_law_order" (defArgs s_l_order) (defBody s_l_order) (defScope s_l_order) .none kV13 dc13 pm13 an13 cd13 ct13), sl13⟩)
    (c13 : PySem.W.codeIn K cd13 "_law_order" = true)
    (k13 : PySem.W.keepIn K (.ref f13) = true)
    (a14 : PySem.W.nsIn K mainGlobals "_law_called" = some (some (.ref f14)))
    (l14 : K.lookup f14 = some ⟨oc14, od14, .func (PySem.W.fnOf "_law_called" "_law_called" (defArgs s_l_called) (defBody s_l_called) (defScope s_l_called) .none kV14 dc14 pm14 an14 cd14 ct14), sl14⟩)
    (c14 : PySem.W.codeIn K cd14 "_law_called" = true)
    (k14 : PySem.W.keepIn K (.ref f14) = true)
    (a15 : PySem.W.nsIn K mainGlobals "_law_shape" = some (some (.ref f15)))
    (l15 : K.lookup f15 = some ⟨oc15, od15, .func (PySem.W.fnOf "_law_shape" "_law_shape" (defArgs s_l_shape) (defBody s_l_shape) (defScope s_l_shape) .none kV15 dc15 pm15 an15 cd15 ct15), sl15⟩)
    (c15 : PySem.W.codeIn K cd15 "_law_shape" = true)
    (k15 : PySem.W.keepIn K (.ref f15) = true)
    (a16 : PySem.W.nsIn K mainGlobals "_law_other_number" = some (some (.ref f16)))
    (l16 : K.lookup f16 = some ⟨oc16, od16, .func (PySem.W.fnOf "_law_other_number" "_law_other_number" (defArgs s_l_other_number) (defBody s_l_other_number) (defScope s_l_other_number) .none kV16 dc16 pm16 an16 cd16 ct16), sl16⟩)
    (c16 : PySem.W.codeIn K cd16 "_law_other_number" = true)
    (k16 : PySem.W.keepIn K (.ref f16) = true)
    (a17 : PySem.W.nsIn K mainGlobals "_law_alike" = some (some (.ref f17)))
    (l17 : K.lookup f17 = some ⟨oc17, od17, .func (PySem.W.fnOf "_law_alike" "_law_alike" (defArgs s_l_alike) (defBody s_l_alike) (defScope s_l_alike) .none kV17 dc17 pm17 an17 cd17 ct17), sl17⟩)
    (c17 : PySem.W.codeIn K cd17 "_law_alike" = true)
    (k17 : PySem.W.keepIn K (.ref f17) = true)
    (a18 : PySem.W.nsIn K mainGlobals "_law_named" = some (some (.ref f18)))
    (l18 : K.lookup f18 = some ⟨oc18, od18, .func (PySem.W.fnOf "_law_named" "_law_named" (defArgs s_l_named) (defBody s_l_named) (defScope s_l_named) .none kV18 dc18 pm18 an18 cd18 ct18), sl18⟩)
    (c18 : PySem.W.codeIn K cd18 "_law_named" = true)
    (k18 : PySem.W.keepIn K (.ref f18) = true)
    (a19 : PySem.W.nsIn K mainGlobals "_law_marked" = some (some (.ref f19)))
    (l19 : K.lookup f19 = some ⟨oc19, od19, .func (PySem.W.fnOf "_law_marked" "_law_marked" (defArgs s_l_marked) (defBody s_l_marked) (defScope s_l_marked) .none kV19 dc19 pm19 an19 cd19 ct19), sl19⟩)
    (c19 : PySem.W.codeIn K cd19 "_law_marked" = true)
    (k19 : PySem.W.keepIn K (.ref f19) = true)
    (a20 : PySem.W.nsIn K mainGlobals "law" = some (some (.ref f20)))
    (l20 : K.lookup f20 = some ⟨oc20, od20, .func (PySem.W.fnOf "law" "law" (defArgs s_law) (defBody s_law) (defScope s_law) .none kV20 dc20 pm20 an20 cd20 ct20), sl20⟩)
    (c20 : PySem.W.codeIn K cd20 "law" = true)
    (k20 : PySem.W.keepIn K (.ref f20) = true)
    (z0 : PySem.W.nsIn K mainGlobals "bool" = some none)
    (z1 : PySem.W.nsIn K mainGlobals "int" = some none)
    (z2 : PySem.W.nsIn K mainGlobals "isinstance" = some none)
    (z3 : PySem.W.nsIn K mainGlobals "len" = some none)
    (z4 : PySem.W.nsIn K mainGlobals "list" = some none)
    (z5 : PySem.W.nsIn K mainGlobals "min" = some none)
    (z6 : PySem.W.nsIn K mainGlobals "range" = some none)
    (z7 : PySem.W.nsIn K mainGlobals "reversed" = some none)
    (z8 : PySem.W.nsIn K mainGlobals "str" = some none)
    (z9 : PySem.W.nsIn K mainGlobals "tuple" = some none)
    : ∃ t : Ad, Txt K mg t ∧ ∀ (s : Shared) (u : Value), BindsTo s t.d_law ⟨[u], []⟩ [("_law_script", u)] := by
  have F0 := fun_mk (st := s_unknown) l0 c0 k0
  have F1 := fun_mk (st := s_app) l1 c1 k1
  have F2 := fun_mk (st := s_unknowns_of) l2 c2 k2
  have F3 := fun_mk (st := s_renamed) l3 c3 k3
  have F4 := fun_mk (st := s_told_anew) l4 c4 k4
  have F5 := fun_mk (st := s_alike) l5 c5 k5
  have F6 := fun_mk (st := s_marked) l6 c6 k6
  have F7 := fun_mk (st := s_l_cell) l7 c7 k7
  have F8 := fun_mk (st := s_l_names) l8 c8 k8
  have F9 := fun_mk (st := s_l_number) l9 c9 k9
  have F10 := fun_mk (st := s_l_sign) l10 c10 k10
  have F11 := fun_mk (st := s_l_term) l11 c11 k11
  have F12 := fun_mk (st := s_l_is_term) l12 c12 k12
  have F13 := fun_mk (st := s_l_order) l13 c13 k13
  have F14 := fun_mk (st := s_l_called) l14 c14 k14
  have F15 := fun_mk (st := s_l_shape) l15 c15 k15
  have F16 := fun_mk (st := s_l_other_number) l16 c16 k16
  have F17 := fun_mk (st := s_l_alike) l17 c17 k17
  have F18 := fun_mk (st := s_l_named) l18 c18 k18
  have F19 := fun_mk (st := s_l_marked) l19 c19 k19
  have F20 := fun_mk (st := s_law) l20 c20 k20
  exact ⟨⟨f0, _, f1, _, f2, _, f3, _, f4, _, f5, _, f6, _, f7, _, f8, _, f9, _, f10, _, f11, _, f12, _, f13, _, f14, _, f15, _, f16, _, f17, _, f18, _, f19, _, f20, _⟩, ⟨F0,
    F0.binds (ps := ["name"]) (fun _ _ _ _ _ _ us hl => L2.us1 (P := fun us => bindArgs _ ⟨us, []⟩ = pure ((["name"] : List Str).zip us)) hl fun _ => rfl),
    PySem.W.mg_of X G a0,
    F1,
    F1.binds (ps := ["sign", "kids"]) (fun _ _ _ _ _ _ us hl => L2.us2 (P := fun us => bindArgs _ ⟨us, []⟩ = pure ((["sign", "kids"] : List Str).zip us)) hl fun _ _ => rfl),
    PySem.W.mg_of X G a1,
    F2,
    F2.binds (ps := ["terms"]) (fun _ _ _ _ _ _ us hl => L2.us1 (P := fun us => bindArgs _ ⟨us, []⟩ = pure ((["terms"] : List Str).zip us)) hl fun _ => rfl),
    PySem.W.mg_of X G a2,
    F3,
    F3.binds (ps := ["term", "names"]) (fun _ _ _ _ _ _ us hl => L2.us2 (P := fun us => bindArgs _ ⟨us, []⟩ = pure ((["term", "names"] : List Str).zip us)) hl fun _ _ => rfl),
    PySem.W.mg_of X G a3,
    F4,
    F4.binds (ps := ["terms"]) (fun _ _ _ _ _ _ us hl => L2.us1 (P := fun us => bindArgs _ ⟨us, []⟩ = pure ((["terms"] : List Str).zip us)) hl fun _ => rfl),
    PySem.W.mg_of X G a4,
    F5,
    F5.binds (ps := ["one", "other"]) (fun _ _ _ _ _ _ us hl => L2.us2 (P := fun us => bindArgs _ ⟨us, []⟩ = pure ((["one", "other"] : List Str).zip us)) hl fun _ _ => rfl),
    PySem.W.mg_of X G a5,
    F6,
    F6.binds (ps := ["term", "n"]) (fun _ _ _ _ _ _ us hl => L2.us2 (P := fun us => bindArgs _ ⟨us, []⟩ = pure ((["term", "n"] : List Str).zip us)) hl fun _ _ => rfl),
    PySem.W.mg_of X G a6,
    F7,
    F7.binds (ps := ["_law_script", "_law_k"]) (fun _ _ _ _ _ _ us hl => L2.us2 (P := fun us => bindArgs _ ⟨us, []⟩ = pure ((["_law_script", "_law_k"] : List Str).zip us)) hl fun _ _ => rfl),
    PySem.W.mg_of X G a7,
    F8,
    F8.binds (ps := ["_law_cell_here", "_law_many", "_law_first"]) (fun _ _ _ _ _ _ us hl => L2.us3 (P := fun us => bindArgs _ ⟨us, []⟩ = pure ((["_law_cell_here", "_law_many", "_law_first"] : List Str).zip us)) hl fun _ _ _ => rfl),
    PySem.W.mg_of X G a8,
    F9,
    F9.binds (ps := ["_law_cell_here"]) (fun _ _ _ _ _ _ us hl => L2.us1 (P := fun us => bindArgs _ ⟨us, []⟩ = pure ((["_law_cell_here"] : List Str).zip us)) hl fun _ => rfl),
    PySem.W.mg_of X G a9,
    F10,
    F10.binds (ps := ["_law_cell_here", "_law_many", "_law_words"]) (fun _ _ _ _ _ _ us hl => L2.us3 (P := fun us => bindArgs _ ⟨us, []⟩ = pure ((["_law_cell_here", "_law_many", "_law_words"] : List Str).zip us)) hl fun _ _ _ => rfl),
    PySem.W.mg_of X G a10,
    F11,
    F11.binds (ps := ["_law_cells", "_law_names_here", "_law_words"]) (fun _ _ _ _ _ _ us hl => L2.us3 (P := fun us => bindArgs _ ⟨us, []⟩ = pure ((["_law_cells", "_law_names_here", "_law_words"] : List Str).zip us)) hl fun _ _ _ => rfl),
    PySem.W.mg_of X G a11,
    F12,
    F12.binds (ps := ["_law_thing"]) (fun _ _ _ _ _ _ us hl => L2.us1 (P := fun us => bindArgs _ ⟨us, []⟩ = pure ((["_law_thing"] : List Str).zip us)) hl fun _ => rfl),
    PySem.W.mg_of X G a12,
    F13,
    F13.binds (ps := ["_law_terms", "_law_found"]) (fun _ _ _ _ _ _ us hl => L2.us2 (P := fun us => bindArgs _ ⟨us, []⟩ = pure ((["_law_terms", "_law_found"] : List Str).zip us)) hl fun _ _ => rfl),
    PySem.W.mg_of X G a13,
    F14,
    F14.binds (ps := ["_law_term_here", "_law_new"]) (fun _ _ _ _ _ _ us hl => L2.us2 (P := fun us => bindArgs _ ⟨us, []⟩ = pure ((["_law_term_here", "_law_new"] : List Str).zip us)) hl fun _ _ => rfl),
    PySem.W.mg_of X G a14,
    F15,
    F15.binds (ps := ["_law_term_here"]) (fun _ _ _ _ _ _ us hl => L2.us1 (P := fun us => bindArgs _ ⟨us, []⟩ = pure ((["_law_term_here"] : List Str).zip us)) hl fun _ => rfl),
    PySem.W.mg_of X G a15,
    F16,
    F16.binds (ps := ["_law_term_here"]) (fun _ _ _ _ _ _ us hl => L2.us1 (P := fun us => bindArgs _ ⟨us, []⟩ = pure ((["_law_term_here"] : List Str).zip us)) hl fun _ => rfl),
    PySem.W.mg_of X G a16,
    F17,
    F17.binds (ps := ["_law_one", "_law_other"]) (fun _ _ _ _ _ _ us hl => L2.us2 (P := fun us => bindArgs _ ⟨us, []⟩ = pure ((["_law_one", "_law_other"] : List Str).zip us)) hl fun _ _ => rfl),
    PySem.W.mg_of X G a17,
    F18,
    F18.binds (ps := ["_law_terms"]) (fun _ _ _ _ _ _ us hl => L2.us1 (P := fun us => bindArgs _ ⟨us, []⟩ = pure ((["_law_terms"] : List Str).zip us)) hl fun _ => rfl),
    PySem.W.mg_of X G a18,
    F19,
    F19.binds (ps := ["_law_term_here", "_law_n"]) (fun _ _ _ _ _ _ us hl => L2.us2 (P := fun us => bindArgs _ ⟨us, []⟩ = pure ((["_law_term_here", "_law_n"] : List Str).zip us)) hl fun _ _ => rfl),
    PySem.W.mg_of X G a19,
    F20,
    F20.binds (ps := ["_law_script"]) (fun _ _ _ _ _ _ us hl => L2.us1 (P := fun us => bindArgs _ ⟨us, []⟩ = pure ((["_law_script"] : List Str).zip us)) hl fun _ => rfl),
    PySem.W.mg_of X G a20,
    PySem.W.mg_none_of X G z0,
    PySem.W.mg_none_of X G z1,
    PySem.W.mg_none_of X G z2,
    PySem.W.mg_none_of X G z3,
    PySem.W.mg_none_of X G z4,
    PySem.W.mg_none_of X G z5,
    PySem.W.mg_none_of X G z6,
    PySem.W.mg_none_of X G z7,
    PySem.W.mg_none_of X G z8,
    PySem.W.mg_none_of X G z9⟩, fun s u => .of_eq rfl⟩
theorem walk {l : PySem.W.OpenLaw} {q : Program} {loose : List Str} {XP : (Str → Option Value) → Heap → Prop} {YP : World → Heap → Prop} {d : DefRec} {K : Params → PySem.W.Frag} (hn : l.most = some 63) (hdf : d.params.defaults = [])
    (hY : ∀ (w : World) (h : Heap), YP w h → (K w.params).In h)
    (F : ∀ (w : World) (mg : Str → Option Value) (fa : Addr) (h : Heap), (K w.params).In h → h.Ns mainGlobals mg → mg d.name = some (.ref fa) →
      ∃ fd : FuncData, (∀ (s : Shared) (u : Value), BindsTo s fd ⟨[u], []⟩ [("_law_script", u)]) ∧ ∀ base : Heap, (K w.params).In base → base.Ns mainGlobals mg → FnOk l.prog w (K w.params) mg base CX0 76 fa fd ["_law_script"] (sp_law (K w.params))) :
    PySem.W.WalkO q loose XP YP l.row.toRowW d [] (fun f vs => PySem.call f vs) :=
  L2.walk_ofB (n := 63) (k := 76) (x := "_law_script") (CX := fun _ => CX0) (sp := fun w => sp_law (K w.params)) hn (by decide) hdf ⟨rfl, by decide, by decide⟩ hY F (fun _ _ a ns hl hb hO hS => ⟨ns, hS, hl, hb, fun _ => rfl⟩) fun _ _ _ _ _ z => z
end My
open PySem PySem.W PyProof.Rows
set_option maxRecDepth 100000 in
set_option maxHeartbeats 0 in
theorem PySem.Challenge.cw_goaltrail_k22_names_told_anew_holds : PySem.Challenge.rw_goaltrail_k22_names_told_anew.Holds := by
  w_on; o_law; k_head; (case hw => w_witness2)
  k_fill
  refine My.walk (l := PySem.Challenge.rw_goaltrail_k22_names_told_anew) rfl rfl (fun w h Y => PySem.W.kIn_of Y) ?F
  case F =>
    intro w mg fa h KX G hmg
    have TT : ∃ t : My.Ad, My.Txt (L2.KOf KX) mg t ∧ ∀ (s : Shared) (u : Value), BindsTo s t.d_law ⟨[u], []⟩ [("_law_script", u)] := by
      dsimp only [L2.KOf]
      refine' My.txt_mk KX G ?a0 ?l0 ?c0 ?k0 ?a1 ?l1 ?c1 ?k1 ?a2 ?l2 ?c2 ?k2 ?a3 ?l3 ?c3 ?k3 ?a4 ?l4 ?c4 ?k4 ?a5 ?l5 ?c5 ?k5 ?a6 ?l6 ?c6 ?k6 ?a7 ?l7 ?c7 ?k7 ?a8 ?l8 ?c8 ?k8 ?a9 ?l9 ?c9 ?k9 ?a10 ?l10 ?c10 ?k10 ?a11 ?l11 ?c11 ?k11 ?a12 ?l12 ?c12 ?k12 ?a13 ?l13 ?c13 ?k13 ?a14 ?l14 ?c14 ?k14 ?a15 ?l15 ?c15 ?k15 ?a16 ?l16 ?c16 ?k16 ?a17 ?l17 ?c17 ?k17 ?a18 ?l18 ?c18 ?k18 ?a19 ?l19 ?c19 ?k19 ?a20 ?l20 ?c20 ?k20 ?z0 ?z1 ?z2 ?z3 ?z4 ?z5 ?z6 ?z7 ?z8 ?z9
      (case a0 => k_is)
      (case l0 => k_is)
      (case c0 => k_is)
      (case k0 => k_is)
      (case a1 => k_is)
      (case l1 => k_is)
      (case c1 => k_is)
      (case k1 => k_is)
      (case a2 => k_is)
      (case l2 => k_is)
      (case c2 => k_is)
      (case k2 => k_is)
      (case a3 => k_is)
      (case l3 => k_is)
      (case c3 => k_is)
      (case k3 => k_is)
      (case a4 => k_is)
      (case l4 => k_is)
      (case c4 => k_is)
      (case k4 => k_is)
      (case a5 => k_is)
      (case l5 => k_is)
      (case c5 => k_is)
      (case k5 => k_is)
      (case a6 => k_is)
      (case l6 => k_is)
      (case c6 => k_is)
      (case k6 => k_is)
      (case a7 => k_is)
      (case l7 => k_is)
      (case c7 => k_is)
      (case k7 => k_is)
      (case a8 => k_is)
      (case l8 => k_is)
      (case c8 => k_is)
      (case k8 => k_is)
      (case a9 => k_is)
      (case l9 => k_is)
      (case c9 => k_is)
      (case k9 => k_is)
      (case a10 => k_is)
      (case l10 => k_is)
      (case c10 => k_is)
      (case k10 => k_is)
      (case a11 => k_is)
      (case l11 => k_is)
      (case c11 => k_is)
      (case k11 => k_is)
      (case a12 => k_is)
      (case l12 => k_is)
      (case c12 => k_is)
      (case k12 => k_is)
      (case a13 => k_is)
      (case l13 => k_is)
      (case c13 => k_is)
      (case k13 => k_is)
      (case a14 => k_is)
      (case l14 => k_is)
      (case c14 => k_is)
      (case k14 => k_is)
      (case a15 => k_is)
      (case l15 => k_is)
      (case c15 => k_is)
      (case k15 => k_is)
      (case a16 => k_is)
      (case l16 => k_is)
      (case c16 => k_is)
      (case k16 => k_is)
      (case a17 => k_is)
      (case l17 => k_is)
      (case c17 => k_is)
      (case k17 => k_is)
      (case a18 => k_is)
      (case l18 => k_is)
      (case c18 => k_is)
      (case k18 => k_is)
      (case a19 => k_is)
      (case l19 => k_is)
      (case c19 => k_is)
      (case k19 => k_is)
      (case a20 => k_is)
      (case l20 => k_is)
      (case c20 => k_is)
      (case k20 => k_is)
      (case z0 => k_is)
      (case z1 => k_is)
      (case z2 => k_is)
      (case z3 => k_is)
      (case z4 => k_is)
      (case z5 => k_is)
      (case z6 => k_is)
      (case z7 => k_is)
      (case z8 => k_is)
      (case z9 => k_is)
    obtain ⟨t, T, e1⟩ := TT
    have e0 := hmg.symm.trans T.m_law
    cases e0
    exact ⟨t.d_law, e1, fun base kb nb => My.ok_all T⟩
