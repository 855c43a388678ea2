import PyProof.Rows.All
import Wide.All
import OpenK.AllK
import Wide.FinOn
import Lean
import PyProof.EqAt
import PyProof.EqKinds
import PyProof.TupleCall
import PyProof.NeKinds
import PyProof.DictUpdate
import KE.KDictList
import KE.KEqDict
import PyProof.Draws
import PyProof.Rows.EnumRows
import PyProof.StationsW
import PyProof.ExcClass3
import PyProof.RulesAs
import PyProof.ExcBaseAll.ValueError
import PyProof.InstStoreFacts
import PyProof.ExcArgsOwn
import PyProof.NsDelKeeps
import KE.RegKIsAll
import PyProof.Rows.LoopZipPat
import PyProof.StrLawsRepr
import KE.KDictOf
import PyProof.WalksS
import PyProof.AttrMissHeap
import PySem.Challenge.RW_goaltrail_k21_written_out
set_option Elab.async false
set_option linter.all false
set_option maxRecDepth 100000
set_option genSizeOf false
set_option compiler.extract_closed false
namespace L2
open PySem PySem.Spec PyProof.Rows
theorem us0 {us : List Value} {P : List Value → Prop} (hl : us.length = 0) (h : P []) : P us := by cases us with | nil => exact h | cons a r => cases hl
theorem us1 {us : List Value} {P : List Value → Prop} (hl : us.length = 1) (h : ∀ a, P [a]) : P us := by cases us with | nil => cases hl | cons a r => exact us0 (P := fun r => P (a :: r)) (Nat.succ.inj hl) (h a)
theorem us2 {us : List Value} {P : List Value → Prop} (hl : us.length = 2) (h : ∀ a b, P [a, b]) : P us := by cases us with | nil => cases hl | cons a r => exact us1 (P := fun r => P (a :: r)) (Nat.succ.inj hl) (h a)
theorem us3 {us : List Value} {P : List Value → Prop} (hl : us.length = 3) (h : ∀ a b c, P [a, b, c]) : P us := by cases us with | nil => cases hl | cons a r => exact us2 (P := fun r => P (a :: r)) (Nat.succ.inj hl) (h a)
theorem us4 {us : List Value} {P : List Value → Prop} (hl : us.length = 4) (h : ∀ a b c d, P [a, b, c, d]) : P us := by cases us with | nil => cases hl | cons a r => exact us3 (P := fun r => P (a :: r)) (Nat.succ.inj hl) (h a)
theorem us5 {us : List Value} {P : List Value → Prop} (hl : us.length = 5) (h : ∀ a b c d e, P [a, b, c, d, e]) : P us := by cases us with | nil => cases hl | cons a r => exact us4 (P := fun r => P (a :: r)) (Nat.succ.inj hl) (h a)
theorem us6 {us : List Value} {P : List Value → Prop} (hl : us.length = 6) (h : ∀ a b c d e f, P [a, b, c, d, e, f]) : P us := by cases us with | nil => cases hl | cons a r => exact us5 (P := fun r => P (a :: r)) (Nat.succ.inj hl) (h a)
theorem ex1 {us : List Value} (hl : us.length = 1) : ∃ a, us = [a] := us1 (P := fun us => ∃ a', us = [a']) hl fun a => ⟨a, rfl⟩
theorem ex2 {us : List Value} (hl : us.length = 2) : ∃ a b, us = [a, b] := us2 (P := fun us => ∃ a' b', us = [a', b']) hl fun a b => ⟨a, b, rfl⟩
theorem ex3 {us : List Value} (hl : us.length = 3) : ∃ a b c, us = [a, b, c] := us3 (P := fun us => ∃ a' b' c', us = [a', b', c']) hl fun a b c => ⟨a, b, c, rfl⟩
theorem ex4 {us : List Value} (hl : us.length = 4) : ∃ a b c d, us = [a, b, c, d] := us4 (P := fun us => ∃ a' b' c' d', us = [a', b', c', d']) hl fun a b c d => ⟨a, b, c, d, rfl⟩
theorem ex5 {us : List Value} (hl : us.length = 5) : ∃ a b c d e, us = [a, b, c, d, e] := us5 (P := fun us => ∃ a' b' c' d' e', us = [a', b', c', d', e']) hl fun a b c d e => ⟨a, b, c, d, e, rfl⟩
theorem ex6 {us : List Value} (hl : us.length = 6) : ∃ a b c d e f, us = [a, b, c, d, e, f] := us6 (P := fun us => ∃ a' b' c' d' e' f', us = [a', b', c', d', e', f']) hl fun a b c d e f => ⟨a, b, c, d, e, f, rfl⟩
noncomputable abbrev Key := Sum Int Str
noncomputable def keyIs : Key → Value → Bool
  | .inl k, v => Value.isInt k v
  | .inr x, v => Value.isStrOf x v
noncomputable def keyH (w : World) : Key → Int
  | .inl k => hashInt k
  | .inr x => hashStr w x
theorem keyIs_shape : ∀ {k : Key} {v : Value}, keyIs k v = true → (∃ i t, k = Sum.inl i ∧ v = Value.int i t) ∨ (∃ x t, k = Sum.inr x ∧ v = Value.str x t)
  | .inl i, v, h => by
    obtain ⟨t, e⟩ := Value.isInt_shape (k := i) (v := v) h
    exact .inl ⟨i, t, rfl, e⟩
  | .inr x, v, h => by
    obtain ⟨t, e⟩ := Value.isStrOf_shape (x := x) (v := v) h
    exact .inr ⟨x, t, rfl, e⟩
theorem keyIs_int (i : Int) (t : Tok) : keyIs (.inl i) (.int i t) = true := by simp [keyIs, Value.isInt]
theorem keyIs_str (x : Str) (t : Tok) : keyIs (.inr x) (.str x t) = true := by simp [keyIs, Value.isStrOf]
theorem key_ll (a b : Int) : decide ((Sum.inl a : Key) = Sum.inl b) = (a == b) := by
  by_cases e : a = b
  · subst e; simp
  · have h : ¬ (Sum.inl a : Key) = Sum.inl b := fun q => e (Sum.inl.inj q)
    rw [decide_eq_false h]
    exact (beq_eq_false_iff_ne.mpr e).symm
theorem key_rr (a b : Str) : decide ((Sum.inr a : Key) = Sum.inr b) = decide (a = b) := by
  by_cases e : a = b
  · subst e; simp
  · have h : ¬ (Sum.inr a : Key) = Sum.inr b := fun q => e (Sum.inr.inj q)
    rw [decide_eq_false h, decide_eq_false e]
theorem key_lr (a : Int) (b : Str) : decide ((Sum.inl a : Key) = Sum.inr b) = false := decide_eq_false (fun q => nomatch q)
theorem key_rl (a : Str) (b : Int) : decide ((Sum.inr a : Key) = Sum.inl b) = false := decide_eq_false (fun q => nomatch q)
noncomputable def mixKind (prog : Program) (w : World) : PySem.KeyKind prog w Key where
  is := keyIs
  hash := keyH w
  inj := fun v a b ha hb => by
    rcases keyIs_shape ha with ⟨i, t, rfl, rfl⟩ | ⟨x, t, rfl, rfl⟩
    · rcases keyIs_shape hb with ⟨j, u, rfl, e⟩ | ⟨y, u, rfl, e⟩
      · injection e with e1 _; rw [e1]
      · exact nomatch e
    · rcases keyIs_shape hb with ⟨j, u, rfl, e⟩ | ⟨y, u, rfl, e⟩
      · exact nomatch e
      · injection e with e1 _; rw [e1]
  byValue := fun k v h => by
    rcases keyIs_shape h with ⟨i, t, rfl, rfl⟩ | ⟨x, t, rfl, rfl⟩ <;> rfl
  pyHash := fun hv h => by
    rcases keyIs_shape hv with ⟨i, t, rfl, rfl⟩ | ⟨x, t, rfl, rfl⟩
    · exact wpAny_pyHash_int h
    · exact wpAny_pyHash_str h
  eqBool := fun hu hv h => by
    rcases keyIs_shape hu with ⟨i, t, rfl, rfl⟩ | ⟨x, t, rfl, rfl⟩
    · rcases keyIs_shape hv with ⟨j, u, rfl, rfl⟩ | ⟨y, u, rfl, rfl⟩
      · rw [key_ll] at h; exact wpAny_eqBool_int h
      · rw [key_lr] at h; exact SeqAt.EqAt.int_str i t y u _ _ _ _ h
    · rcases keyIs_shape hv with ⟨j, u, rfl, rfl⟩ | ⟨y, u, rfl, rfl⟩
      · rw [key_rl] at h; exact SeqAt.EqAt.str_int x t j u _ _ _ _ h
      · rw [key_rr] at h; exact wpAny_eqBool_str h
  «strs» := fun k x t v h => by
    rcases keyIs_shape h with ⟨i, u, rfl, e⟩ | ⟨y, u, rfl, e⟩
    · exact nomatch e
    · injection e with e1 _
      subst e1
      cases v <;> rfl
theorem mixKind_int (prog : Program) (w : World) (i : Int) (t : Tok) : (mixKind prog w).is (.inl i) (.int i t) = true := keyIs_int i t
theorem mixKind_str (prog : Program) (w : World) (x : Str) (t : Tok) : (mixKind prog w).is (.inr x) (.str x t) = true := keyIs_str x t
end L2
namespace L2
open PySem PySem.Spec PyProof.Rows
inductive V where
  | non | bl (b : Bool) | int (i : Int) | str (x : Str) | byt (b : Array UInt8) | flt (b : UInt64) | ref (a : Addr) | ty (n : String)
  deriving DecidableEq
noncomputable def RelV : V → Value → Prop
  | .non, u => u = Value.none
  | .bl b, u => u = Value.bool b
  | .int i, u => ∃ t, u = Value.int i t
  | .str x, u => ∃ t, u = Value.str x t
  | .byt b, u => ∃ t, u = Value.bytes b t
  | .flt b, u => ∃ t, u = Value.float b t
  | .ref a, u => u = Value.ref a
  | .ty n, u => u = Value.type n
noncomputable abbrev Vals : List V → List Value → Prop := Paired RelV
theorem Vals.length {xs : List V} {us : List Value} (r : Vals xs us) : xs.length = us.length := Paired.length r
theorem Vals.get : ∀ {xs : List V} {us : List Value} {i : Nat} {x : V}, Vals xs us → xs[i]? = some x → ∃ u, us[i]? = some u ∧ RelV x u
  | _, _, _, _, .nil, e => by simp at e
  | _, _, 0, _, .cons r _, e => by simp at e; subst e; exact ⟨_, rfl, r⟩
  | _, _, i + 1, x, .cons _ t, e => by
    obtain ⟨u, h1, h2⟩ := Vals.get (i := i) (x := x) t (by simpa using e)
    exact ⟨u, by simpa using h1, h2⟩
theorem Vals.set {x : V} {u : Value} (r : RelV x u) : ∀ {xs : List V} {us : List Value} (i : Nat), Vals xs us → Vals (xs.set i x) (us.set i u)
  | _, _, _, .nil => .nil
  | _, _, 0, .cons _ t => .cons r t
  | _, _, i + 1, .cons q t => .cons q (Vals.set r i t)
theorem Vals.append : ∀ {xs ys : List V} {us ws : List Value}, Vals xs us → Vals ys ws → Vals (xs ++ ys) (us ++ ws)
  | _, _, _, _, .nil, s => s
  | _, _, _, _, .cons r t, s => .cons r (Vals.append t s)
theorem Vals.take : ∀ {xs : List V} {us : List Value} (n : Nat), Vals xs us → Vals (xs.take n) (us.take n)
  | _, _, 0, _ => .nil
  | _, _, _ + 1, .nil => .nil
  | _, _, n + 1, .cons r t => .cons r (Vals.take n t)
theorem Vals.drop : ∀ {xs : List V} {us : List Value} (n : Nat), Vals xs us → Vals (xs.drop n) (us.drop n)
  | _, _, 0, r => r
  | _, _, _ + 1, .nil => .nil
  | _, _, n + 1, .cons _ t => Vals.drop n t
theorem Vals.none_of : ∀ {xs : List V} {us : List Value} {i : Nat}, Vals xs us → xs[i]? = none → us[i]? = none := fun {xs us i} r e => by
  have h1 := r.length
  have h2 : xs.length ≤ i := List.getElem?_eq_none_iff.mp e
  exact List.getElem?_eq_none_iff.mpr (by omega)
noncomputable def RelO : Option V → Option Value → Prop
  | some v, some u => RelV v u
  | none, none => True
  | _, _ => False
noncomputable def KV {κ : Type} : List (κ × V) → List (κ × Value) → Prop := Paired fun (p : κ × V) (q : κ × Value) => p.1 = q.1 ∧ RelV p.2 q.2
noncomputable def kV : Key → V
  | .inl i => .int i
  | .inr x => .str x
inductive HO where
  | lst (xs : List V)
  | tup (xs : List V)
  | dK (kvs : List (Key × V)) | dT (kvs : List (List Key × V))
  | set (S : Int → Bool) (n : Nat)
  | ins (C dx : Addr) (fs : List (Str × V))
  | own (x : Addr)
  | xd (fs : List (Str × V))
  | met (f x : Addr)
  | rng (lo hi : Int)
  | frz (o : Obj) (u : HO)
  | tbl (ps : Array Value)
  | ext (φ : Heap → Prop)
noncomputable abbrev Hp := Addr → Option HO
noncomputable def upd (H : Hp) (a : Addr) (o : HO) : Hp := fun b => if b = a then some o else H b
theorem upd_same {H : Hp} {a : Addr} {o : HO} : upd H a o a = some o := by unfold upd; rw [if_pos rfl]
theorem upd_ne {H : Hp} {a b : Addr} {o : HO} (h : b ≠ a) : upd H a o b = H b := by unfold upd; rw [if_neg h]
theorem ne_of {H : Hp} {a b : Addr} {o u : HO} (h : H a = some o) (h' : H b = some u) (d : o ≠ u) : a ≠ b := by
  intro e; subst e; rw [h] at h'; exact d (Option.some.inj h')
theorem ne_of_none {H : Hp} {a b : Addr} {o : HO} (h : H a = some o) (h' : H b = none) : a ≠ b := by
  intro e; subst e; rw [h] at h'; cases h'
section
variable (P : Program) (w : World)
noncomputable def ObjOk (H : Hp) (h : Heap) (a : Addr) : HO → Prop
  | .lst xs => xs.length ≤ sizeLine ∧ ∃ (its : List Value) (n : Nat), Vals xs its ∧ h.get? a = some { cls := .type "list", data := .seq its.toArray n }
  | .tup xs => xs.length ≤ sizeLine ∧ ∃ its : List Value, Vals xs its ∧ IsTup h a its.toArray
  | .dK kvs => kvs.length ≤ sizeLine ∧ (a == sysModules) = false ∧ ∃ vs, KV kvs vs ∧ h.DictOf (mixKind P w) a vs
  | .dT kvs => kvs.length ≤ sizeLine ∧ (a == sysModules) = false ∧ ∃ xs : List (List Key × Addr × Value),
      Paired (fun (p : List Key × V) (q : List Key × Addr × Value) => p.1 = q.1 ∧ H q.2.1 = some (.tup (p.1.map kV)) ∧ RelV p.2 q.2.2) kvs xs ∧
      ∃ o es ep, h.get? a = some o ∧ o.ExactDict ∧ o.data = .dict es ep ∧ es.toList = xs.map (entryOfKey (tupleKind (mixKind P w))) ∧ (xs.map (·.1)).Nodup
  | .set S n => h.SetOf (intKind P w) a S n
  | .ins C dx fs => H dx = some (.own a) ∧ fs.length ≤ 1000 ∧ dx ≠ a ∧ h.get? a = some (PySem.W.instObj C dx) ∧
      ∃ mA, h.Ns1 dx mA ∧ (∀ f, RelO (fs.lookup f) (mA f)) ∧ PySem.Within mA (fs.map (·.1))
  | .own _ => ∃ o, h.get? a = some o
  | .xd fs => ∃ mA, h.Ns1 a mA ∧ ∀ f, RelO (fs.lookup f) (mA f)
  | .rng lo hi => ∃ t u v, h.get? a = some { cls := .type "range", data := .fields #[.int lo t, .int hi u, .int 1 v] }
  | .frz o u => h.get? a = some o ∧ ObjOk H h a u
  | .tbl ps => h.get? a = some { cls := .none, data := .fields ps }
  | .met f x => h.get? a = some (PySem.W.methodObj (.ref f) (.ref x))
  | .ext φ => φ h ∧ (∃ o, h.get? a = some o) ∧ ∀ h1 h2 : Heap, φ h1 → (∀ o, h1.get? a = some o → h2.get? a = some o) → φ h2
noncomputable def HOk (H : Hp) (h : Heap) : Prop := ∀ a o, H a = some o → ObjOk P w H h a o
end
section
variable {P : Program} {w : World} {H H' : Hp} {h h' : Heap} {a : Addr} {o : HO}
theorem ObjOk.lt (x : ObjOk P w H h a o) : a < h.objs.size := by
  cases o with
  | lst xs => obtain ⟨_, _, _, _, e⟩ := x; exact Heap.lt_size e
  | tup xs => obtain ⟨_, _, _, p⟩ := x; exact p.lt
  | dK kvs => obtain ⟨_, _, _, _, o, _, _, e, _⟩ := x; exact Heap.lt_size e
  | dT kvs => obtain ⟨_, _, _, _, o, _, _, e, _⟩ := x; exact Heap.lt_size e
  | set S n => obtain ⟨o, _, _, _, e, _⟩ := x; exact Heap.lt_size e
  | ins C dx fs => obtain ⟨_, _, _, e, _⟩ := x; exact Heap.lt_size e
  | own y => obtain ⟨_, e⟩ := x; exact Heap.lt_size e
  | xd fs => obtain ⟨_, ⟨_, _, _, e, _⟩, _⟩ := x; exact Heap.lt_size e
  | rng lo hi => obtain ⟨_, _, _, e⟩ := x; exact Heap.lt_size e
  | frz ob u => obtain ⟨e, _⟩ := x; exact Heap.lt_size e
  | tbl ps => exact Heap.lt_size (show h.get? a = some _ from x)
  | met f y => exact Heap.lt_size (show h.get? a = some _ from x)
  | ext φ => obtain ⟨_, ⟨_, e⟩, _⟩ := x; exact Heap.lt_size e
theorem Paired.mapP {α β : Type} {F G : α → β → Prop} : ∀ {l₁ : List α} {l₂ : List β}, Paired F l₁ l₂ → (∀ a b, F a b → G a b) → Paired G l₁ l₂
  | _, _, .nil, _ => .nil
  | _, _, .cons r t, f => .cons (f _ _ r) (Paired.mapP t f)
theorem ObjOk.stay (x : ObjOk P w H h a o) (k : ∀ b u, (b = a ∨ H b = some (.own a)) → h.get? b = some u → h'.get? b = some u)
    (ho : ∀ b, H b = some (.own a) → H' b = some (.own a)) (ht : ∀ b xs, H b = some (.tup xs) → H' b = some (.tup xs)) : ObjOk P w H' h' a o := by
  induction o with
  | lst xs => obtain ⟨z, its, n, r, e⟩ := x; exact ⟨z, its, n, r, k _ _ (.inl rfl) e⟩
  | tup xs => obtain ⟨z, its, r, ob, e, c⟩ := x; exact ⟨z, its, r, ob, k _ _ (.inl rfl) e, c⟩
  | dK kvs => obtain ⟨z, y, vs, r, ob, es, ep, e, c⟩ := x; exact ⟨z, y, vs, r, ob, es, ep, k _ _ (.inl rfl) e, c⟩
  | dT kvs =>
    obtain ⟨z, y, xs, r, ob, es, ep, e, c⟩ := x
    exact ⟨z, y, xs, Paired.mapP r fun p q z => ⟨z.1, ht _ _ z.2.1, z.2.2⟩, ob, es, ep, k _ _ (.inl rfl) e, c⟩
  | set S n => obtain ⟨ob, es, ep, t, e, c⟩ := x; exact ⟨ob, es, ep, t, k _ _ (.inl rfl) e, c⟩
  | ins C dx fs =>
    obtain ⟨d, z, ne, e, mA, ⟨od, es, ep, e2, c⟩, r⟩ := x
    exact ⟨ho _ d, z, ne, k _ _ (.inl rfl) e, mA, ⟨od, es, ep, k _ _ (.inr d) e2, c⟩, r⟩
  | own y => obtain ⟨ob, e⟩ := x; exact ⟨ob, k _ _ (.inl rfl) e⟩
  | xd fs => obtain ⟨mA, ⟨od, es, ep, e, c⟩, r⟩ := x; exact ⟨mA, ⟨od, es, ep, k _ _ (.inl rfl) e, c⟩, r⟩
  | rng lo hi => obtain ⟨t, u, v, e⟩ := x; exact ⟨t, u, v, k _ _ (.inl rfl) e⟩
  | frz ob u ih => obtain ⟨e, q⟩ := x; exact ⟨k _ _ (.inl rfl) e, ih q⟩
  | tbl ps =>
    have e : h.get? a = some { cls := .none, data := .fields ps } := x
    show h'.get? a = some { cls := .none, data := .fields ps }
    exact k a _ (.inl rfl) e
  | met f y =>
    have e : h.get? a = some (PySem.W.methodObj (.ref f) (.ref y)) := x
    show h'.get? a = some (PySem.W.methodObj (.ref f) (.ref y))
    exact k a _ (.inl rfl) e
  | ext φ => obtain ⟨p, ⟨o, e⟩, st⟩ := x; exact ⟨st _ _ p fun o q => k _ _ (.inl rfl) q, ⟨o, k _ _ (.inl rfl) e⟩, st⟩
theorem HOk.lt (x : HOk P w H h) (e : H a = some o) : a < h.objs.size := (x a o e).lt
theorem HOk.fresh (x : HOk P w H h) (e : h.objs.size ≤ a) : H a = none := by
  cases q : H a with
  | none => rfl
  | some u => exact absurd (Nat.lt_of_lt_of_le (x.lt q) e) (Nat.lt_irrefl _)
theorem HOk.kept (x : HOk P w H h) (k : ∀ b u, h.get? b = some u → h'.get? b = some u) : HOk P w H h' := fun a o e =>
  (x a o e).stay (fun b u _ q => k b u q) (fun _ q => q) fun _ _ q => q
theorem HOk.laid (x : HOk P w H h) (k : ∀ b u, h.get? b = some u → h'.get? b = some u) (hp : h.objs.size ≤ a) (new : ObjOk P w (upd H a o) h' a o) : HOk P w (upd H a o) h' := fun b u e => by
  have hn := x.fresh hp
  by_cases hb : b = a
  · subst hb; rw [upd_same] at e; cases e; exact new
  · rw [upd_ne hb] at e
    exact (x b u e).stay (fun c v _ q => k c v q) (fun c q => by rw [upd_ne (ne_of_none q hn)]; exact q) fun c xs q => by rw [upd_ne (ne_of_none q hn)]; exact q
end
noncomputable def Rd (H : Hp) (a : Addr) (u : HO) : Prop := H a = some u ∨ ∃ o, H a = some (.frz o u)
theorem Rd.of {H : Hp} {a : Addr} {u : HO} (h : H a = some u) : Rd H a u := .inl h
theorem Rd.ok {P : Program} {w : World} {H : Hp} {h : Heap} {a : Addr} {u : HO} (r : Rd H a u) (x : HOk P w H h) : ObjOk P w H h a u := by
  rcases r with r | ⟨o, r⟩
  · exact x a u r
  · obtain ⟨_, q⟩ := x a _ r
    exact q
noncomputable def Mut : Option HO → Prop
  | some (.lst _) => True
  | some (.dK _) => True
  | some (.dT _) => True
  | some (.set _ _) => True
  | some (.ins _ _ _) => True
  | some (.ext _) => True
  | _ => False
section
variable {P : Program} {w : World} {H : Hp} {h h' : Heap} {x e : Addr} {o' : HO}
theorem HOk.write (ok : HOk P w H h) (mu : Mut (H x)) (he : e = x ∨ H e = some (.own x)) (k : ∀ b u, b ≠ e → h.get? b = some u → h'.get? b = some u) (heo : ∃ u, h'.get? e = some u)
    (new : ObjOk P w (upd H x o') h' x o') : HOk P w (upd H x o') h' := fun b u q => by
  have nown : ∀ c y, H c = some (.own y) → c ≠ x := fun c y r z => by subst z; rw [r] at mu; exact mu
  have ntup : ∀ c xs, H c = some (.tup xs) → c ≠ x := fun c xs r z => by subst z; rw [r] at mu; exact mu
  by_cases hb : b = x
  · subst hb; rw [upd_same] at q; cases q; exact new
  · rw [upd_ne hb] at q
    by_cases hbe : b = e
    · have q' : H b = some (.own x) := by
        rcases he with z | z
        · exact absurd (hbe.trans z) hb
        · rw [hbe]; exact z
      rw [q] at q'; cases q'
      obtain ⟨v, hv⟩ := heo
      exact ⟨v, by rw [hbe]; exact hv⟩
    · refine (ok b u q).stay (fun c v hc r => k c v ?_ r) (fun c r => by rw [upd_ne (nown c b r)]; exact r) fun c xs r => by rw [upd_ne (ntup c xs r)]; exact r
      rcases hc with rfl | hc
      · exact hbe
      · rintro rfl
        rcases he with z | z
        · exact nown c b hc z
        · rw [hc] at z; cases z; exact hb rfl
end
structure Un (fs ex : List Addr) (H H' : Hp) (h h' : Heap) : Prop where
  keep : ∀ b o, h.get? b = some o → H b = none → b ∉ fs → b ∉ ex → h'.get? b = some o
  slot : ∀ b o, h.get? b = some o → H b = none → b ∈ fs → b ∉ ex → ∃ sl, h'.get? b = some { o with slots := sl }
  free : ∀ b o, h.get? b = some o → H b = none → b ∉ ex → H' b = none
  there : ∀ b o, h.get? b = some o → b ∉ ex → ∃ o', h'.get? b = some o'
  tups : ∀ b xs, H b = some (.tup xs) → H' b = some (.tup xs)
  frzs : ∀ b o u, H b = some (.frz o u) → H' b = some (.frz o u)
  tbls : ∀ b ps, H b = some (.tbl ps) → ∃ more, H' b = some (.tbl (ps ++ more))
section
variable {fs fs' ex ex' : List Addr} {H H1 H2 : Hp} {h h1 h2 h' : Heap} {a x e : Addr} {o : HO}
theorem Un.any (u : Un fs ex H H1 h h1) {b : Addr} {ob : Obj} (q : h.get? b = some ob) (n : H b = none) (hx : b ∉ ex) : ∃ sl, h1.get? b = some { ob with slots := sl } := by
  by_cases hb : b ∈ fs
  · exact u.slot b ob q n hb hx
  · exact ⟨ob.slots, u.keep b ob q n hb hx⟩
theorem Un.trans (a : Un fs ex H H1 h h1) (b : Un fs ex H1 H2 h1 h2) : Un fs ex H H2 h h2 where
  keep := fun c ob q n hc hx => b.keep c ob (a.keep c ob q n hc hx) (a.free c ob q n hx) hc hx
  slot := fun c ob q n hc hx => by
    obtain ⟨sl, e1⟩ := a.slot c ob q n hc hx
    obtain ⟨sl', e2⟩ := b.slot c _ e1 (a.free c ob q n hx) hc hx
    exact ⟨sl', e2⟩
  free := fun c ob q n hx => by
    obtain ⟨o', e1⟩ := a.there c ob q hx
    exact b.free c o' e1 (a.free c ob q n hx) hx
  there := fun c ob q hx => by
    obtain ⟨o', e1⟩ := a.there c ob q hx
    exact b.there c o' e1 hx
  tups := fun c xs q => b.tups c xs (a.tups c xs q)
  frzs := fun c ob xs q => b.frzs c ob xs (a.frzs c ob xs q)
  tbls := fun c ps q => by
    obtain ⟨m1, e1⟩ := a.tbls c ps q
    obtain ⟨m2, e2⟩ := b.tbls c _ e1
    exact ⟨m1 ++ m2, by rw [e2, Array.append_assoc]⟩
theorem Un.kept (k : ∀ b u, h.get? b = some u → h'.get? b = some u) : Un fs ex H H h h' :=
  ⟨fun b ob q _ _ _ => k b ob q, fun b ob q _ _ _ => ⟨ob.slots, k b ob q⟩, fun _ _ _ n _ => n, fun b ob q _ => ⟨ob, k b ob q⟩, fun _ _ q => q, fun _ _ _ q => q, fun _ ps q => ⟨#[], by rw [q]; simp⟩⟩
theorem Un.refl : Un fs ex H H h h := Un.kept fun _ _ q => q
theorem Un.laid (k : ∀ b u, h.get? b = some u → h'.get? b = some u) (hp : h.objs.size ≤ a) (hn : H a = none) : Un fs ex H (upd H a o) h h' where
  keep := fun b u q _ _ _ => k b u q
  slot := fun b u q _ _ _ => ⟨u.slots, k b u q⟩
  free := fun b u q n _ => by rw [upd_ne (Nat.ne_of_lt (Nat.lt_of_lt_of_le (Heap.lt_size q) hp))]; exact n
  there := fun b u q _ => ⟨u, k b u q⟩
  tups := fun b xs q => by rw [upd_ne (ne_of_none q hn)]; exact q
  frzs := fun b u xs q => by rw [upd_ne (ne_of_none q hn)]; exact q
  tbls := fun b ps q => ⟨#[], by rw [upd_ne (ne_of_none q hn), q]; simp⟩
theorem Un.write (mu : Mut (H x)) (he : e = x ∨ H e = some (.own x)) (k : ∀ b u, b ≠ e → h.get? b = some u → h'.get? b = some u) (heo : ∃ u, h'.get? e = some u) : Un fs ex H (upd H x o) h h' := by
  have hx : ∀ b, H b = none → b ≠ x := fun b n z => by subst z; rw [n] at mu; exact mu
  have hb : ∀ b, H b = none → b ≠ e := fun b n z => by
    subst z
    rcases he with r | r
    · exact hx b n r
    · rw [n] at r; cases r
  have hm : ∀ b u, H b = some u → ¬ Mut (some u) → b ≠ x := fun b u q nm z => by subst z; rw [q] at mu; exact nm mu
  refine ⟨fun b u q n _ _ => k b u (hb b n) q, fun b u q n _ _ => ⟨u.slots, k b u (hb b n) q⟩, fun b u q n _ => by rw [upd_ne (hx b n)]; exact n, fun b u q _ => ?_,
    fun b xs q => by rw [upd_ne (hm b _ q fun z => z)]; exact q, fun b u xs q => by rw [upd_ne (hm b _ q fun z => z)]; exact q, fun b ps q => ⟨#[], by rw [upd_ne (hm b _ q fun z => z), q]; simp⟩⟩
  by_cases hbe : b = e
  · subst hbe; exact heo
  · exact ⟨u, k b u hbe q⟩
theorem Un.mono (u : Un fs ex H H1 h h1) (hs : ∀ b ∈ fs, b ∈ fs') (hx : ∀ b ∈ ex, b ∈ ex') : Un fs' ex' H H1 h h1 :=
  ⟨fun b ob q n hb he => u.keep b ob q n (fun z => hb (hs b z)) fun z => he (hx b z), fun _ _ q n _ he => u.any q n fun z => he (hx _ z), fun b ob q n he => u.free b ob q n fun z => he (hx b z), fun b ob q he => u.there b ob q fun z => he (hx b z), u.tups, u.frzs, u.tbls⟩
end
noncomputable def trk (h : Heap) (H : Hp) : List Addr := (List.range h.objs.size).filter fun a => (H a).isSome
noncomputable def hidT (h : Heap) (H : Hp) : Heap := PySem.W.hideAll h (trk h H)
theorem hidT_size (h : Heap) (H : Hp) : (hidT h H).objs.size = h.objs.size := PySem.W.hideAll_size _ _
theorem hidT_get {h : Heap} {H : Hp} {b : Addr} {o : Obj} (e : h.get? b = some o) (n : H b = none) : (hidT h H).get? b = some o :=
  PySem.W.hideAll_get _ e fun hm => by
    have q : (H b).isSome = true := (List.mem_filter.mp hm).2
    rw [n] at q; simp at q
theorem of_hidT {h : Heap} {H : Hp} {b : Addr} {o : Obj} (e : (hidT h H).get? b = some o) : h.get? b = some o ∧ H b = none := by
  have e' : h.get? b = some o := PySem.W.of_hideAll (trk h H) e
  refine ⟨e', ?_⟩
  cases q : H b with
  | none => rfl
  | some x =>
    have hm : b ∈ trk h H := List.mem_filter.mpr ⟨List.mem_range.mpr (Heap.lt_size e'), by simp [q]⟩
    have z : (hidT h H).get? b = none := PySem.W.hideAll_none (trk h H) hm
    rw [z] at e; cases e
noncomputable def allNews (g h : Heap) (L : Addr) : List (Addr × Obj) := (List.range h.objs.size).filterMap fun a => if a = L ∨ (g.get? a).isSome = true then none else (h.get? a).map fun o => (a, o)
noncomputable def rest (g h : Heap) (L d : Addr) : List (Addr × Obj) := (allNews g h L).filter fun p => decide (p.1 ≠ d)
end L2
namespace L2
open PySem PySem.Spec PyProof.Rows
structure Mod (K : PySem.W.Frag) (mg : Str → Option Value) (base : Heap) : Prop where
  kin : K.In base
  glob : base.Ns mainGlobals mg
  blt : ∃ mb, base.Ns builtinsNs mb ∧ ∀ x : Str, x ≠ "__name__" → mb x = bootBuiltins x
  nolimit : base.NoLimit
structure Cx where
  prog : Program
  w : World
  K : PySem.W.Frag
  mg : Str → Option Value
  base : Heap
  A : Around
  N : List Str
  s₀ : Shared
  H₀ : Hp
  env : Env
  outer : List Env
  stack : List Env
  ex : List Addr
  fn : Str → Bool
  calm : Bool
  pn : List (Addr × Obj)
  xe : Value → Shared → Prop
noncomputable def frs (l : List Env) : List Addr := l.filterMap (·.frame)
noncomputable abbrev Cx.fs (X : Cx) : List Addr := frs X.outer
noncomputable def Vis (sc : Scope) (x : Str) : Prop := sc.names.lookup x = some .local ∨ sc.names.lookup x = some .cell ∨ sc.names.lookup x = some .free
noncomputable def Loc (sc : Scope) (x : Str) : Prop := sc.names.lookup x = some .local ∨ sc.names.lookup x = some .cell
noncomputable def Look (env : Env) (h : Heap) (m : Str → Option Value) (x : Str) (u : Value) : Prop :=
  (env.kindOf x = some .local ∧ m x = some u) ∨ ((env.kindOf x = some .cell ∨ env.kindOf x = some .free) ∧ ∃ c, env.cells.lookup x = some c ∧ h.IsCell c (some u))
structure Cx.Ok (X : Cx) : Prop where
  mod : Mod X.K X.mg X.base
  kind : X.env.scope.kind = .function
  glob : X.env.globals = mainGlobals
  blt : X.env.builtins = builtinsNs
  above : X.s₀.heap.objs.size ≤ X.env.locals
  inj : ∀ x y c, X.env.cells.lookup x = some c → X.env.cells.lookup y = some c → x = y
  has : ∀ x, (X.env.kindOf x = some .cell ∨ X.env.kindOf x = some .free) → ∃ c, X.env.cells.lookup x = some c
  cab : ∀ x c, X.fn x = true → X.env.cells.lookup x = some c → X.s₀.heap.objs.size ≤ c
  hd : X.calm = true → X.A.handled = none
  frames : X.A.frames = some X.stack
  stk : X.stack = X.outer ∨ (X.stack = X.env :: X.outer ∧ X.env.frame = some X.env.locals)
  exf : ∀ b ∈ X.ex, b ≠ X.env.locals ∧ ∀ x c, X.env.cells.lookup x = some c → c ≠ b
  bs : ∀ b o, X.base.get? b = some o → X.s₀.heap.get? b = some o ∧ X.H₀ b = none
  bsz : X.base.objs.size ≤ X.s₀.heap.objs.size
  noex : ∀ b o, X.base.get? b = some o → b ∉ X.ex
  exfs : ∀ b ∈ X.ex, b ∉ X.fs
  funs : X.s₀.heap.FunFrames X.base X.outer
  frf : ∀ b ∈ X.fs, X.H₀ b = none
structure Inv (X : Cx) (pins : List (Addr × Obj)) (σ : List (Option V)) (H : Hp) (s : Shared) : Prop where
  ok : X.Ok
  os : s.os = X.s₀.os
  bare : AllBare s.gens
  base : Un X.fs X.ex X.H₀ H X.s₀.heap s.heap
  loc : ∃ m, s.heap.Ns X.env.locals m ∧ ∀ (i : Nat) (x : Str) (v : V), X.N[i]? = some x → σ[i]? = some (some v) → Vis X.env.scope x → ∃ u, RelV v u ∧ Look X.env s.heap m x u
  cell : ∀ x c, X.env.cells.lookup x = some c → ∃ v, s.heap.IsCell c v
  free : H X.env.locals = none
  freeC : ∀ x c, X.env.cells.lookup x = some c → H c = none
  pin : ∀ p ∈ X.pn ++ pins, s.heap.get? p.1 = some p.2 ∧ H p.1 = none ∧ p.1 ≠ X.env.locals ∧ p.1 ∉ X.fs ∧ ∀ v, p.2.data ≠ .cell v
  hok : HOk X.prog X.w H s.heap
  len : σ.length = X.N.length
section
variable {X : Cx} {pins : List (Addr × Obj)} {σ : List (Option V)} {H H' : Hp} {s : Shared} {h' : Heap}
theorem Cx.Ok.nofr (ok : X.Ok) {b : Addr} {o : Obj} (e : X.base.get? b = some o) : b ∉ X.fs := fun hb => by
  have := (ok.funs.mem hb).1
  rw [e] at this; cases this
theorem Inv.bs (I : Inv X pins σ H s) : ∀ b o, X.base.get? b = some o → s.heap.get? b = some o ∧ H b = none := fun b o e =>
  ⟨I.base.keep b o (I.ok.bs b o e).1 (I.ok.bs b o e).2 (I.ok.nofr e) (I.ok.noex b o e), I.base.free b o (I.ok.bs b o e).1 (I.ok.bs b o e).2 (I.ok.noex b o e)⟩
theorem Inv.bk (I : Inv X pins σ H s) : ∀ b o, X.base.get? b = some o → s.heap.get? b = some o := fun b o e => (I.bs b o e).1
theorem Inv.mod (I : Inv X pins σ H s) : Mod X.K X.mg X.base := I.ok.mod
theorem Inv.kIn (I : Inv X pins σ H s) : X.K.In s.heap := I.ok.mod.kin.keeps I.bk
theorem Inv.nolimit (I : Inv X pins σ H s) : s.heap.NoLimit := I.ok.mod.nolimit.keeps I.bk
theorem Inv.fr (I : Inv X pins σ H s) : ∃ m, Fr X.base X.env.locals s.heap m :=
  let ⟨m, hn, _⟩ := I.loc
  ⟨m, hn, I.bk, Nat.le_trans I.ok.bsz I.ok.above⟩
theorem Inv.lt (I : Inv X pins σ H s) : X.env.locals < s.heap.objs.size := let ⟨_, hn, _⟩ := I.loc; hn.lt
theorem Inv.sz (I : Inv X pins σ H s) : X.s₀.heap.objs.size ≤ s.heap.objs.size := Nat.le_trans I.ok.above (Nat.le_of_lt I.lt)
theorem Inv.nofs (I : Inv X pins σ H s) {a : Addr} (h : s.heap.objs.size ≤ a) : a ∉ X.fs := fun hb => by
  obtain ⟨_, o, ho, _⟩ := I.ok.funs.mem hb
  exact absurd (Nat.lt_of_lt_of_le (Heap.lt_size ho) (Nat.le_trans I.sz h)) (Nat.lt_irrefl _)
theorem Inv.cne (I : Inv X pins σ H s) : ∀ x c, X.env.cells.lookup x = some c → c ≠ X.env.locals := fun x c e z => by
  obtain ⟨v, o, ho, hd⟩ := I.cell x c e
  obtain ⟨m, ⟨o', es, ep, ho', hd', _⟩, _⟩ := I.loc
  rw [z, ho'] at ho; cases ho; rw [hd'] at hd; cases hd
theorem Inv.funs (I : Inv X pins σ H s) : s.heap.FunFrames X.base X.outer := by
  have all : ∀ (l : List Env), (∀ b ∈ frs l, b ∈ X.fs) → X.s₀.heap.FunFrames X.base l → s.heap.FunFrames X.base l := by
    intro l
    induction l with
    | nil => intro _ _; trivial
    | cons env r ih =>
      intro hs hl
      obtain ⟨hk, ⟨L, o, hf, hn, ho, hd⟩, hr⟩ := hl
      have hL : L ∈ X.fs := hs L (by unfold frs; rw [List.filterMap_cons, hf]; exact List.mem_cons_self)
      obtain ⟨sl, e⟩ := I.base.slot L o ho (I.ok.frf L hL) hL fun z => I.ok.exfs L z hL
      exact ⟨hk, ⟨L, _, hf, hn, e, hd⟩, ih (fun b hb => hs b (by unfold frs; rw [List.filterMap_cons, hf]; exact List.mem_cons_of_mem _ hb)) hr⟩
  exact all X.outer (fun _ hb => hb) I.ok.funs
theorem Inv.stack (I : Inv X pins σ H s) : s.heap.FunFrames X.base X.stack := by
  rcases I.ok.stk with e | ⟨e, hf⟩
  · rw [e]; exact I.funs
  · rw [e]
    obtain ⟨m, hn, _⟩ := I.loc
    refine .cons (by rw [I.ok.kind]; decide) hf hn ?_ I.funs
    exact Heap.get?_none_of_le (Nat.le_trans I.ok.bsz I.ok.above)
theorem Inv.stkSub (I : Inv X pins σ H s) : ∀ b ∈ frs X.stack, b ∈ X.env.locals :: X.fs := fun b hb => by
  rcases I.ok.stk with e | ⟨e, hf⟩
  · rw [e] at hb; exact List.mem_cons_of_mem _ hb
  · rw [e] at hb
    unfold frs at hb
    rw [List.filterMap_cons, hf] at hb
    exact hb
theorem Inv.stkFree (I : Inv X pins σ H s) : ∀ b ∈ frs X.stack, H b = none := fun b hb => by
  rcases List.mem_cons.mp (I.stkSub b hb) with e | hb
  · rw [e]; exact I.free
  · obtain ⟨_, o, ho, _⟩ := I.ok.funs.mem hb
    exact I.base.free b o ho (I.ok.frf b hb) fun z => I.ok.exfs b z hb
theorem Inv.step {g' : Array GenState} {t' : Nat} {d' : Drawn} {ch : List Addr} (I : Inv X pins σ H s)
    (hch : ∀ b ∈ ch, (b ∈ X.ex ∨ X.s₀.heap.objs.size ≤ b) ∧ b ≠ X.env.locals ∧ (∀ x c, X.env.cells.lookup x = some c → c ≠ b) ∧ ∀ p ∈ X.pn ++ pins, p.1 ≠ b)
    (keep : ∀ b o, b ≠ X.env.locals → b ∉ X.fs → b ∉ ch → s.heap.get? b = some o → H b = none → h'.get? b = some o)
    (slot : ∀ b o, b ≠ X.env.locals → b ∈ X.fs → b ∉ ch → s.heap.get? b = some o → H b = none → ∃ sl, h'.get? b = some { o with slots := sl }) (free : ∀ b o, b ∉ ch → s.heap.get? b = some o → H b = none → H' b = none)
    (there : ∀ b o, b ∉ ch → s.heap.get? b = some o → ∃ o', h'.get? b = some o')
    (tups : ∀ b xs, H b = some (.tup xs) → H' b = some (.tup xs)) (frzs : ∀ b o u, H b = some (.frz o u) → H' b = some (.frz o u)) (tbls : ∀ b ps, H b = some (.tbl ps) → ∃ more, H' b = some (.tbl (ps ++ more)))
    (ns : ∀ m, s.heap.Ns X.env.locals m → h'.Ns X.env.locals m) (hok : HOk X.prog X.w H' h') (hg : AllBare g') :
    Inv X pins σ H' { s with heap := h', gens := g', drawn := d', toks := t' } := by
  have neL : ∀ b o, X.s₀.heap.get? b = some o → b ≠ X.env.locals := fun b o e => Nat.ne_of_lt (Nat.lt_of_lt_of_le (Heap.lt_size e) I.ok.above)
  have neC : ∀ b o, X.s₀.heap.get? b = some o → b ∉ X.ex → b ∉ ch := fun b o e hx hb => by
    rcases (hch b hb).1 with z | z
    · exact hx z
    · exact absurd (Nat.lt_of_lt_of_le (Heap.lt_size e) z) (Nat.lt_irrefl _)
  have cellK : ∀ x c, X.env.cells.lookup x = some c → ∀ v, s.heap.IsCell c v → h'.IsCell c v := fun x c e v ⟨o, ho, hd⟩ => by
    have nch : c ∉ ch := fun z => (hch c z).2.2.1 x c e rfl
    by_cases hc : c ∈ X.fs
    · obtain ⟨sl, q⟩ := slot c o (I.cne x c e) hc nch ho (I.freeC x c e)
      exact ⟨_, q, hd⟩
    · exact ⟨o, keep c o (I.cne x c e) hc nch ho (I.freeC x c e), hd⟩
  refine ⟨I.ok, I.os, hg, ⟨fun b o e n hb hx => ?_, fun b o e n hb hx => ?_, fun b o e n hx => ?_, fun b o e hx => ?_, fun b xs e => tups b xs (I.base.tups b xs e), fun b o xs e => frzs b o xs (I.base.frzs b o xs e), fun b ps e => ?_⟩, ?_, fun x c e => ?_, ?_, fun x c e => ?_, fun p hp => ?_, hok, I.len⟩
  · exact keep b o (neL b o e) hb (neC b o e hx) (I.base.keep b o e n hb hx) (I.base.free b o e n hx)
  · obtain ⟨sl, e1⟩ := I.base.slot b o e n hb hx
    obtain ⟨sl', e2⟩ := slot b _ (neL b o e) hb (neC b o e hx) e1 (I.base.free b o e n hx)
    exact ⟨sl', e2⟩
  · obtain ⟨o', e1⟩ := I.base.there b o e hx
    exact free b o' (neC b o e hx) e1 (I.base.free b o e n hx)
  · obtain ⟨o', e1⟩ := I.base.there b o e hx
    exact there b o' (neC b o e hx) e1
  · obtain ⟨m1, e1⟩ := I.base.tbls b ps e
    obtain ⟨m2, e2⟩ := tbls b _ e1
    exact ⟨m1 ++ m2, by rw [e2, Array.append_assoc]⟩
  · obtain ⟨m, hn, hl⟩ := I.loc
    refine ⟨m, ns m hn, fun i x v e1 e2 e3 => ?_⟩
    obtain ⟨u, r, l⟩ := hl i x v e1 e2 e3
    refine ⟨u, r, ?_⟩
    rcases l with l | ⟨k, c, e, z⟩
    · exact .inl l
    · exact .inr ⟨k, c, e, cellK x c e _ z⟩
  · obtain ⟨v, z⟩ := I.cell x c e
    exact ⟨v, cellK x c e v z⟩
  · obtain ⟨m, ⟨o, _, _, ho, _⟩, _⟩ := I.loc
    exact free _ o (fun z => (hch _ z).2.1 rfl) ho I.free
  · obtain ⟨v, o, ho, hd⟩ := I.cell x c e
    exact free c o (fun z => (hch c z).2.2.1 x c e rfl) ho (I.freeC x c e)
  · obtain ⟨e, n, ne, nf, d⟩ := I.pin p hp
    have nch : p.1 ∉ ch := fun z => (hch p.1 z).2.2.2 p hp rfl
    exact ⟨keep p.1 p.2 ne nf nch e n, free p.1 p.2 nch e n, ne, nf, d⟩
theorem Inv.un {t' : Nat} (I : Inv X pins σ H s) (u : Un X.fs [] H H' s.heap h') (hok : HOk X.prog X.w H' h') : Inv X pins σ H' { s with heap := h', toks := t' } := by
  obtain ⟨m, ⟨o, es, ep, ho, r⟩, _⟩ := id I.loc
  obtain ⟨sl, hL⟩ := u.any ho I.free (by simp)
  exact I.step (g' := s.gens) (d' := s.drawn) (ch := []) (fun _ z => nomatch z) (fun b o _ hb _ e n => u.keep b o e n hb (by simp)) (fun b o _ hb _ e n => u.slot b o e n hb (by simp)) (fun b o _ e n => u.free b o e n (by simp)) (fun b o _ e => u.there b o e (by simp)) u.tups u.frzs u.tbls (fun m' hm => by
    obtain ⟨o', es', ep', ho', r'⟩ := hm
    rw [ho] at ho'; cases ho'
    exact ⟨_, es', ep', hL, r'⟩) hok I.bare
theorem Inv.call {g' : Array GenState} {t' : Nat} {d' : Drawn} {ch : List Addr} (I : Inv X pins σ H s) (u : Un (frs X.stack) ch H H' s.heap h') (hok : HOk X.prog X.w H' h') (hg : AllBare g')
    (hch : ∀ b ∈ ch, (b ∈ X.ex ∨ X.s₀.heap.objs.size ≤ b) ∧ b ≠ X.env.locals ∧ (∀ x c, X.env.cells.lookup x = some c → c ≠ b) ∧ ∀ p ∈ X.pn ++ pins, p.1 ≠ b) :
    Inv X pins σ H' { s with heap := h', gens := g', drawn := d', toks := t' } := by
  obtain ⟨m, ⟨o, es, ep, ho, r⟩, _⟩ := id I.loc
  obtain ⟨sl, hL⟩ := u.any ho I.free fun z => (hch _ z).2.1 rfl
  exact I.step (ch := ch) hch (fun b o hL hb hc e n => u.keep b o e n (fun z => (List.mem_cons.mp (I.stkSub b z)).elim hL hb) hc) (fun b o _ _ hc e n => u.any e n hc) (fun b o hc e n => u.free b o e n hc) (fun b o hc e => u.there b o e hc) u.tups u.frzs u.tbls (fun m' hm => by
    obtain ⟨o', es', ep', ho', r'⟩ := hm
    rw [ho] at ho'; cases ho'
    exact ⟨_, es', ep', hL, r'⟩) hok hg
theorem Inv.turned {t' : Nat} {it : Addr} (I : Inv X pins σ H s) (k : ∀ b o, b ≠ it → s.heap.get? b = some o → h'.get? b = some o) (hn : H it = none) (hL : it ≠ X.env.locals)
    (h1 : it ∈ X.ex ∨ X.s₀.heap.objs.size ≤ it) (h2 : ∀ x c, X.env.cells.lookup x = some c → c ≠ it) (h3 : ∀ p ∈ X.pn ++ pins, p.1 ≠ it) : Inv X pins σ H { s with heap := h', toks := t' } := by
  have nit : ∀ b u, H b = some u → b ≠ it := fun b u e z => by rw [z, hn] at e; cases e
  refine I.step (g' := s.gens) (d' := s.drawn) (ch := [it]) (fun b hb => ?_) (fun b o _ _ hc e _ => k b o (fun z => hc (by simp [z])) e) (fun b o _ _ hc e _ => ⟨o.slots, k b o (fun z => hc (by simp [z])) e⟩) (fun _ _ _ _ n => n)
    (fun b o hc e => ⟨o, k b o (fun z => hc (by simp [z])) e⟩) (fun _ _ e => e) (fun _ _ _ e => e) (fun b ps e => ⟨#[], by rw [e]; simp⟩) (fun m hm => ?_) (fun b u e => ?_) I.bare
  · have e : b = it := by simpa using hb
    subst e
    exact ⟨h1, hL, h2, h3⟩
  · obtain ⟨o, es, ep, ho, r⟩ := hm
    exact ⟨o, es, ep, k _ o (Ne.symm hL) ho, r⟩
  · refine (I.hok b u e).stay (fun c v hc q => k c v ?_ q) (fun _ q => q) fun _ _ q => q
    rcases hc with z | z
    · rw [z]; exact nit b u e
    · exact nit c _ z
theorem Inv.tok (I : Inv X pins σ H s) (t : Nat) : Inv X pins σ H { s with toks := t } := I.un (h' := s.heap) (t' := t) Un.refl I.hok
theorem Inv.kept {t' : Nat} (I : Inv X pins σ H s) (k : ∀ b u, s.heap.get? b = some u → h'.get? b = some u) : Inv X pins σ H { s with heap := h', toks := t' } := I.un (Un.kept k) (I.hok.kept k)
theorem Inv.laid {a : Addr} {o : HO} {t' : Nat} (I : Inv X pins σ H s) (k : ∀ b u, s.heap.get? b = some u → h'.get? b = some u) (hp : s.heap.objs.size ≤ a) (new : ObjOk X.prog X.w (upd H a o) h' a o) :
    Inv X pins σ (upd H a o) { s with heap := h', toks := t' } := I.un (Un.laid k hp (I.hok.fresh hp)) (I.hok.laid k hp new)
theorem Inv.write {x e : Addr} {o : HO} {t' : Nat} (I : Inv X pins σ H s) (mu : Mut (H x)) (he : e = x ∨ H e = some (.own x)) (k : ∀ b u, b ≠ e → s.heap.get? b = some u → h'.get? b = some u) (heo : ∃ u, h'.get? e = some u)
    (new : ObjOk X.prog X.w (upd H x o) h' x o) : Inv X pins σ (upd H x o) { s with heap := h', toks := t' } := I.un (Un.write mu he k heo) (I.hok.write mu he k heo new)
theorem Inv.pins_of {pins' : List (Addr × Obj)} (I : Inv X pins σ H s) (h : ∀ p ∈ pins', s.heap.get? p.1 = some p.2 ∧ H p.1 = none ∧ p.1 ≠ X.env.locals ∧ p.1 ∉ X.fs ∧ ∀ v, p.2.data ≠ .cell v) : Inv X pins' σ H s :=
  ⟨I.ok, I.os, I.bare, I.base, I.loc, I.cell, I.free, I.freeC, fun p hp => (List.mem_append.mp hp).elim (fun z => I.pin p (List.mem_append_left _ z)) (h p), I.hok, I.len⟩
theorem nodup_ix {N : List Str} (hN : N.Nodup) {i j : Nat} {x : Str} (a : N[i]? = some x) (b : N[j]? = some x) : i = j := by
  obtain ⟨h1, e1⟩ := List.getElem?_eq_some_iff.mp a
  obtain ⟨h2, e2⟩ := List.getElem?_eq_some_iff.mp b
  exact (List.getElem_inj hN).mp (e1.trans e2.symm)
theorem store_ok2 {M : Model} {A : Around} {E : Value → Shared → Prop} {i : Nat} {x : Str} {v : V} {u : Value} {Q : Unit → Shared → Prop} (I : Inv X pins σ H s) (hN : X.N.Nodup) (hi : X.N[i]? = some x) (hx : Loc X.env.scope x) (r : RelV v u)
    (h : ∀ s', Inv X pins (σ.set i (some v)) H s' → (∃ a, Heap.SameBut a s.heap s'.heap ∧ (a = X.env.locals ∨ X.env.cells.lookup x = some a)) → Q () s') (hf : X.fn x = true ∨ X.env.scope.names.lookup x = some .local := by first | exact .inl rfl | exact .inr rfl | assumption) : wpAny M A (storeName X.env x u) Q E s := by
  obtain ⟨m, hn, hl⟩ := id I.loc
  have hcls : (X.env.scope.kind == .class || (X.env.scope.kind == .module && X.env.locals != X.env.globals)) = false := by rw [I.ok.kind]; rfl
  have hiσ : i < σ.length := by rw [I.len]; exact (List.getElem?_eq_some_iff.mp hi).1
  have cne := I.cne
  have tracked : ∀ {a : Addr} {h' : Heap}, (∃ o, s.heap.get? a = some o ∧ H a = none) → Heap.SameBut a s.heap h' → HOk X.prog X.w H h' := fun {a h'} ha hs b ob e => by
    obtain ⟨_, _, hfree⟩ := ha
    refine (I.hok b ob e).stay (fun c w' hc q => (hs.2 c ?_).trans q) (fun _ q => q) fun _ _ q => q
    rintro rfl
    rcases hc with rfl | hc
    · rw [hfree] at e; cases e
    · rw [hfree] at hc; cases hc
  rcases hx with hk | hk
  · refine wpAny_storeName_local hk hn (fun h' hn' hs => ?_) hcls
    obtain ⟨oL, _, _, hoL, _⟩ := id hn
    refine h _ ⟨I.ok, I.os, I.bare, ⟨fun b o e n hb hx => ?_, fun b o e n hb hx => ?_, I.base.free, fun b o e hx => ?_, I.base.tups, I.base.frzs, I.base.tbls⟩, ⟨_, hn', fun j y v' e1 e2 e3 => ?_⟩, fun y c e => ?_, I.free, I.freeC, fun p hp => ?_, tracked ⟨oL, hoL, I.free⟩ hs, by simpa using I.len⟩ ⟨_, hs, .inl rfl⟩
    · exact (hs.2 b (Nat.ne_of_lt (Nat.lt_of_lt_of_le (Heap.lt_size e) I.ok.above))).trans (I.base.keep b o e n hb hx)
    · obtain ⟨sl, e1⟩ := I.base.slot b o e n hb hx
      exact ⟨sl, (hs.2 b (Nat.ne_of_lt (Nat.lt_of_lt_of_le (Heap.lt_size e) I.ok.above))).trans e1⟩
    · obtain ⟨o', e1⟩ := I.base.there b o e hx
      exact ⟨o', (hs.2 b (Nat.ne_of_lt (Nat.lt_of_lt_of_le (Heap.lt_size e) I.ok.above))).trans e1⟩
    · by_cases hj : j = i
      · subst hj
        rw [hi] at e1; cases e1
        rw [List.getElem?_set_self hiσ] at e2
        cases e2
        exact ⟨u, r, .inl ⟨hk, by simp⟩⟩
      · rw [List.getElem?_set_ne (Ne.symm hj)] at e2
        obtain ⟨u', r', q⟩ := hl j y v' e1 e2 e3
        refine ⟨u', r', ?_⟩
        rcases q with ⟨k, e⟩ | ⟨k, c, e, z⟩
        · refine .inl ⟨k, ?_⟩
          have : y ≠ x := fun e => hj (nodup_ix hN e1 (e ▸ hi))
          simp [this, e]
        · exact .inr ⟨k, c, e, z.sameBut hs (cne y c e)⟩
    · obtain ⟨w', z⟩ := I.cell y c e
      exact ⟨w', z.sameBut hs (cne y c e)⟩
    · obtain ⟨e, n, ne, nf, d⟩ := I.pin p hp
      exact ⟨(hs.2 p.1 ne).trans e, n, ne, nf, d⟩
  · have hfn : X.fn x = true := by
      rcases hf with z | z
      · exact z
      · rw [z] at hk; cases hk
    obtain ⟨c, hc⟩ := I.ok.has x (.inl hk)
    obtain ⟨w', z⟩ := I.cell x c hc
    refine wpAny_storeName_cell I.ok.kind hk hc z (fun h' hc' hs => ?_)
    obtain ⟨oc, hoc, hocd⟩ := id z
    refine h { s with heap := h' } ⟨I.ok, I.os, I.bare, ⟨fun b o e n hb hx => ?_, fun b o e n hb hx => ?_, I.base.free, fun b o e hx => ?_, I.base.tups, I.base.frzs, I.base.tbls⟩, ⟨m, hn.sameBut hs (Ne.symm (cne x c hc)), fun j y v' e1 e2 e3 => ?_⟩, fun y c' e => ?_, I.free, I.freeC, fun p hp => ?_, tracked ⟨oc, hoc, I.freeC x c hc⟩ hs, by simpa using I.len⟩ ⟨c, hs, .inr hc⟩
    · exact (hs.2 b (Nat.ne_of_lt (Nat.lt_of_lt_of_le (Heap.lt_size e) (I.ok.cab x c hfn hc)))).trans (I.base.keep b o e n hb hx)
    · obtain ⟨sl, e1⟩ := I.base.slot b o e n hb hx
      exact ⟨sl, (hs.2 b (Nat.ne_of_lt (Nat.lt_of_lt_of_le (Heap.lt_size e) (I.ok.cab x c hfn hc)))).trans e1⟩
    · obtain ⟨o', e1⟩ := I.base.there b o e hx
      exact ⟨o', (hs.2 b (Nat.ne_of_lt (Nat.lt_of_lt_of_le (Heap.lt_size e) (I.ok.cab x c hfn hc)))).trans e1⟩
    · by_cases hj : j = i
      · subst hj
        rw [hi] at e1; cases e1
        rw [List.getElem?_set_self hiσ] at e2
        cases e2
        exact ⟨u, r, .inr ⟨.inl hk, c, hc, hc'⟩⟩
      · rw [List.getElem?_set_ne (Ne.symm hj)] at e2
        obtain ⟨u', r', q⟩ := hl j y v' e1 e2 e3
        refine ⟨u', r', ?_⟩
        rcases q with q | ⟨k, c', e, z'⟩
        · exact .inl q
        · refine .inr ⟨k, c', e, z'.sameBut hs ?_⟩
          rintro rfl
          exact hj (nodup_ix hN e1 (I.ok.inj _ _ _ e hc ▸ hi))
    · by_cases hcc : c' = c
      · subst hcc; exact ⟨_, hc'⟩
      · obtain ⟨w2, z2⟩ := I.cell y c' e
        exact ⟨w2, z2.sameBut hs hcc⟩
    · obtain ⟨e, n, ne, nf, d⟩ := I.pin p hp
      refine ⟨(hs.2 p.1 ?_).trans e, n, ne, nf, d⟩
      intro q
      rw [q, hoc] at e
      have q' : oc = p.2 := Option.some.inj e
      exact d w' (by rw [← q']; exact hocd)
theorem store_ok {M : Model} {A : Around} {E : Value → Shared → Prop} {i : Nat} {x : Str} {v : V} {u : Value} {Q : Unit → Shared → Prop} (I : Inv X pins σ H s) (hN : X.N.Nodup) (hi : X.N[i]? = some x) (hx : Loc X.env.scope x) (r : RelV v u)
    (h : ∀ s', Inv X pins (σ.set i (some v)) H s' → Q () s') (hf : X.fn x = true ∨ X.env.scope.names.lookup x = some .local := by first | exact .inl rfl | exact .inr rfl | assumption) : wpAny M A (storeName X.env x u) Q E s :=
  store_ok2 I hN hi hx r (fun s' I' _ => h s' I') hf
theorem Inv.call' {s' : Shared} {ch : List Addr} (I : Inv X pins σ H s) (ho : s'.os = s.os) (u : Un (frs X.stack) ch H H' s.heap s'.heap) (hok : HOk X.prog X.w H' s'.heap) (hg : AllBare s'.gens)
    (hch : ∀ b ∈ ch, (b ∈ X.ex ∨ X.s₀.heap.objs.size ≤ b) ∧ b ≠ X.env.locals ∧ (∀ x c, X.env.cells.lookup x = some c → c ≠ b) ∧ ∀ p ∈ X.pn ++ pins, p.1 ≠ b) : Inv X pins σ H' s' := by
  obtain ⟨h', g', d', t', o'⟩ := s'
  have e : o' = s.os := ho
  subst e
  exact I.call (g' := g') (t' := t') (d' := d') u hok hg hch
end
noncomputable abbrev XK := Value → Option Addr → Hp → Prop
noncomputable abbrev St := List (Option V)
noncomputable abbrev VK := V → Hp → Prop
noncomputable abbrev TE := St → Hp → VK → Prop
noncomputable abbrev TT := St → Hp → (Bool → Hp → Prop) → Prop
noncomputable abbrev TA := St → Hp → (List V → Hp → Prop) → Prop
structure Ends where
  nx : St → Hp → Prop
  rt : VK
  bk : St → Hp → Prop := fun _ _ => False
  ct : St → Hp → Prop := fun _ _ => False
noncomputable abbrev TS := Ends → St → Hp → Prop
noncomputable def EP (X : Cx) (pins : List (Addr × Obj)) (σ : St) (Q : VK) (u : Value) (s' : Shared) : Prop := ∃ v H', Inv X pins σ H' s' ∧ RelV v u ∧ Q v H'
noncomputable def TP (X : Cx) (pins : List (Addr × Obj)) (σ : St) (Q : Bool → Hp → Prop) (b : Bool) (s' : Shared) : Prop := ∃ H', Inv X pins σ H' s' ∧ Q b H'
noncomputable def AP (X : Cx) (pins : List (Addr × Obj)) (σ : St) (Q : List V → Hp → Prop) (us : List Value) (s' : Shared) : Prop := ∃ vs H', Inv X pins σ H' s' ∧ Vals vs us ∧ Q vs H'
noncomputable def SP (X : Cx) (pins : List (Addr × Obj)) (D : Ends) (f : Flow) (s' : Shared) : Prop :=
  match f with
  | .next => ∃ σ' H', Inv X pins σ' H' s' ∧ D.nx σ' H'
  | .brk => ∃ σ' H', Inv X pins σ' H' s' ∧ D.bk σ' H'
  | .cont => ∃ σ' H', Inv X pins σ' H' s' ∧ D.ct σ' H'
  | .ret u => ∃ v σ' H', Inv X pins σ' H' s' ∧ RelV v u ∧ D.rt v H'
noncomputable def PE (X : Cx) (e : Expr) (t : TE) : Prop :=
  ∀ (pins : List (Addr × Obj)) (s : Shared) (σ : St) (H : Hp) (Q : VK), Inv X pins σ H s → t σ H Q → wpAny (model X.prog X.w) X.A (eval e X.env) (EP X pins σ Q) X.xe s
noncomputable def PT (X : Cx) (e : Expr) (t : TT) : Prop :=
  ∀ (pins : List (Addr × Obj)) (s : Shared) (σ : St) (H : Hp) (Q : Bool → Hp → Prop), Inv X pins σ H s → t σ H Q → wpAny (model X.prog X.w) X.A (isTrue e X.env (eval e X.env)) (TP X pins σ Q) X.xe s
noncomputable def PW (X : Cx) (e : Expr) (t : TT) : Prop :=
  ∀ (whole : Sem Value) (pins : List (Addr × Obj)) (s : Shared) (σ : St) (H : Hp) (Q : Bool → Hp → Prop), Inv X pins σ H s → t σ H Q → wpAny (model X.prog X.w) X.A (isTrue e X.env whole) (TP X pins σ Q) X.xe s
theorem PW.pt {X : Cx} {e : Expr} {t : TT} (h : PW X e t) : PT X e t := h _
noncomputable def PA (X : Cx) (es : List Expr) (t : TA) : Prop :=
  ∀ (pos : Pos) (pins : List (Addr × Obj)) (s : Shared) (σ : St) (H : Hp) (Q : List V → Hp → Prop), Inv X pins σ H s → t σ H Q → wpAny (model X.prog X.w) X.A (spliced (backTo pos (starEach es X.env))) (AP X pins σ Q) X.xe s
noncomputable def PS (X : Cx) (st : Stmt) (t : TS) : Prop :=
  ∀ (pins : List (Addr × Obj)) (s : Shared) (σ : St) (H : Hp) (D : Ends), Inv X pins σ H s → t D σ H → wpAny (model X.prog X.w) X.A (exec st X.env) (SP X pins D) X.xe s
noncomputable def PSs (X : Cx) (st : List Stmt) (t : TS) : Prop :=
  ∀ (pins : List (Addr × Obj)) (s : Shared) (σ : St) (H : Hp) (D : Ends), Inv X pins σ H s → t D σ H → wpAny (model X.prog X.w) X.A (execs st X.env) (SP X pins D) X.xe s
theorem thn {α : Type} {t : Sem α} {Q Q' : α → Shared → Prop} {M : Model} {A : Around} {E : Value → Shared → Prop} {s : Shared} (h : wpAny M A t Q E s) (hQ : ∀ a s, Q a s → Q' a s) : wpAny M A t Q' E s := wpAny_mono h hQ fun _ _ x => x
end L2
namespace L2
open PySem PySem.Spec PyProof.Rows
section
variable {X : Cx}
noncomputable def tVar (i : Nat) : TE := fun σ H Q => ∃ v, σ[i]? = some (some v) ∧ Q v H
noncomputable def tC (v : V) : TE := fun _ H Q => Q v H
theorem pe_var {i : Nat} {x : Str} {pos : Pos} (hN : X.N[i]? = some x) (hv : Vis X.env.scope x) (hd : (x == ("__debug__" : Str)) = false := by decide) (hcd : (x == ("__classdict__" : Str)) = false := by decide) : PE X (.Name x pos) (tVar i) := by
  intro pins s σ H Q I h
  obtain ⟨v, e, h⟩ := h
  obtain ⟨m, hn, hl⟩ := I.loc
  obtain ⟨u, r, l⟩ := hl i x v hN e hv
  have fin : EP X pins σ Q u s := ⟨v, H, I, r, h⟩
  rcases l with ⟨hk, hm⟩ | ⟨hk, c, hc, hcell⟩
  · exact wpAny_Name (wpAny_loadName_local I.ok.kind hk hn hm fin) hd
  · rcases hk with hk | hk
    · exact wpAny_Name (wpAny_loadName_cell I.ok.kind hk hc hcell fin) hd
    · exact wpAny_Name (wpAny_loadName_free I.ok.kind hk hc hcell fin hcd) hd
theorem pe_int {i j pos} : PE X (.Constant (.int i) j pos) (tC (.int i)) := fun _ _ _ H _ I h => wpAny_Constant_int ⟨.int i, H, I.tok _, ⟨_, rfl⟩, h⟩
theorem pe_bl {b j pos} : PE X (.Constant (.bool b) j pos) (tC (.bl b)) := fun _ _ _ H _ I h => Constant_bool ⟨.bl b, H, I, rfl, h⟩
theorem pe_str {x j pos} : PE X (.Constant (.str x) j pos) (tC (.str x)) := fun _ _ _ H _ I h => Calls.Constant_str ⟨.str x, H, I.tok _, ⟨_, rfl⟩, h⟩
noncomputable def Gl (X : Cx) (x : Str) : Prop := X.env.kindOf x = some .globalImplicit
theorem ld_glob {E : Value → Shared → Prop} {pins : List (Addr × Obj)} {s : Shared} {σ : St} {H : Hp} {x : Str} {u : Value} {pos : Pos} {Q : Value → Shared → Prop} (I : Inv X pins σ H s) (hg : Gl X x) (hm : X.mg x = some u) (h : Q u s)
    (hd : (x == ("__debug__" : Str)) = false := by decide) : wpAny (model X.prog X.w) X.A (eval (.Name x pos) X.env) Q E s :=
  Calls.Name_function_global I.ok.kind hg (Calls.loadGlobal_global (by rw [I.ok.glob]; exact I.mod.glob.keeps I.bk) hm h) hd
theorem ld_blt {E : Value → Shared → Prop} {pins : List (Addr × Obj)} {s : Shared} {σ : St} {H : Hp} {x : Str} {u : Value} {pos : Pos} {Q : Value → Shared → Prop} (I : Inv X pins σ H s) (hg : Gl X x) (hm : X.mg x = none) (hv : bootBuiltins x = some u) (h : Q u s)
    (hn : x ≠ "__name__" := by decide) (hd : (x == ("__debug__" : Str)) = false := by decide) : wpAny (model X.prog X.w) X.A (eval (.Name x pos) X.env) Q E s := by
  obtain ⟨mb, h1, h2⟩ := I.mod.blt
  exact Calls.Name_function_global I.ok.kind hg (Calls.loadGlobal_builtin (by rw [I.ok.glob]; exact I.mod.glob.keeps I.bk) hm (by rw [I.ok.blt]; exact h1.keeps I.bk) ((h2 x hn).trans hv) h) hd
theorem pe_glob {x : Str} {v : V} {u : Value} {pos : Pos} (hg : Gl X x) (hm : X.mg x = some u) (r : RelV v u) (hd : (x == ("__debug__" : Str)) = false := by decide) : PE X (.Name x pos) (tC v) :=
  fun _ _ _ H _ I h => ld_glob I hg hm ⟨v, H, I, r, h⟩ hd
theorem pe_bltn {x : Str} {v : V} {u : Value} {pos : Pos} (hg : Gl X x) (hm : X.mg x = none) (hv : bootBuiltins x = some u) (r : RelV v u) (hn : x ≠ "__name__" := by decide) (hd : (x == ("__debug__" : Str)) = false := by decide) : PE X (.Name x pos) (tC v) :=
  fun _ _ _ H _ I h => ld_blt I hg hm hv ⟨v, H, I, r, h⟩ hn hd
variable {a b : Expr} {ta tb : TE} {pos : Pos}
variable {tA tB' : TT} {rest : List Expr}
noncomputable def tAnd (t u : TT) : TT := fun σ H Q => t σ H fun c H1 => if c = true then u σ H1 Q else Q false H1
noncomputable def tOr (t u : TT) : TT := fun σ H Q => t σ H fun c H1 => if c = true then Q true H1 else u σ H1 Q
noncomputable def tNot (t : TT) : TT := fun σ H Q => t σ H fun c H1 => Q (!c) H1
theorem pw_and1 (ha : PT X a tA) : PW X (.BoolOp .And [a] pos) tA := by
  intro wh pins s σ H Q I h
  refine isTrue_and (thn (ha pins s σ H Q I h) fun c s1 e => ?_)
  cases c with
  | true => exact isTrue_and_nil e
  | false => exact e
theorem pw_or1 (ha : PT X a tA) : PW X (.BoolOp .Or [a] pos) tA := by
  intro wh pins s σ H Q I h
  refine isTrue_or (thn (ha pins s σ H Q I h) fun c s1 e => ?_)
  cases c with
  | false => exact isTrue_or_nil e
  | true => exact e
theorem pw_and (ha : PT X a tA) (hb : PW X (.BoolOp .And (b :: rest) pos) tB') : PW X (.BoolOp .And (a :: b :: rest) pos) (tAnd tA tB') := by
  intro wh pins s σ H Q I h
  refine isTrue_and (thn (ha pins s σ H _ I h) fun c s1 ⟨H1, I1, q1⟩ => ?_)
  cases c with
  | true => exact hb wh pins s1 σ H1 Q I1 q1
  | false => exact ⟨H1, I1, q1⟩
theorem pw_or (ha : PT X a tA) (hb : PW X (.BoolOp .Or (b :: rest) pos) tB') : PW X (.BoolOp .Or (a :: b :: rest) pos) (tOr tA tB') := by
  intro wh pins s σ H Q I h
  refine isTrue_or (thn (ha pins s σ H _ I h) fun c s1 ⟨H1, I1, q1⟩ => ?_)
  cases c with
  | true => exact ⟨H1, I1, q1⟩
  | false => exact hb wh pins s1 σ H1 Q I1 q1
theorem pt_not (ha : PT X a tA) : PT X (.UnaryOp .Not a pos) (tNot tA) := by
  intro pins s σ H Q I h
  exact isTrue_not (ha pins s σ H (fun c H1 => Q (!c) H1) I h)
noncomputable def tAndV (ta tb : TE) : TE := fun σ H Q => ta σ H fun x H1 => ∃ c, x = .bl c ∧ if c = true then tb σ H1 Q else Q (.bl false) H1
theorem pe_one {op} {t : TE} (h : PE X a t) : PE X (.BoolOp op [a] pos) t := fun pins s σ H Q I hw => BoolOp_one (h pins s σ H Q I hw)
theorem pe_and (ha : PE X a ta) (hb : PE X (.BoolOp .And (b :: rest) pos) tb) : PE X (.BoolOp .And (a :: b :: rest) pos) (tAndV ta tb) := by
  intro pins s σ H Q I h
  refine BoolOp_and (thn (ha pins s σ H _ I h) fun v s1 ⟨x, H1, I1, r1, q1⟩ => ?_)
  obtain ⟨c, rfl, q1⟩ := q1
  cases r1
  refine wpAny_truthy_bool ?_
  cases c with
  | true => exact hb pins s1 σ H1 Q I1 q1
  | false => exact ⟨.bl false, H1, I1, rfl, q1⟩
noncomputable def tIf (t : TT) (ta tb : TE) : TE := fun σ H Q => t σ H fun c H1 => if c = true then ta σ H1 Q else tb σ H1 Q
theorem pe_ifExp {c : Expr} (hc : PT X c tA) (ha : PE X a ta) (hb : PE X b tb) : PE X (.IfExp c a b pos) (tIf tA ta tb) := by
  intro pins s σ H Q I h
  refine wpAny_IfExp (thn (hc pins s σ H _ I h) fun d s1 ⟨H1, I1, q1⟩ => ?_)
  cases d with
  | true => exact ha pins s1 σ H1 Q I1 q1
  | false => exact hb pins s1 σ H1 Q I1 q1
end
end L2
namespace L2
open PySem PySem.Spec PyProof.Rows
noncomputable def SqL (K : PySem.W.Frag) (H : Hp) (a : Addr) (xs : List V) : Prop :=
  Rd H a (.lst xs) ∨
    ∃ (o : Obj) (its : Array Value) (n : Nat), K.lookup a = some o ∧ o.cls = .type "list" ∧ o.dict = none ∧ o.data = .seq its n ∧ its.size ≤ sizeLine ∧ Vals xs its.toList
noncomputable def SqT (K : PySem.W.Frag) (H : Hp) (a : Addr) (xs : List V) : Prop :=
  Rd H a (.tup xs) ∨
    ∃ (o : Obj) (its : Array Value) (n : Nat), K.lookup a = some o ∧ o.cls = .type "tuple" ∧ o.data = .seq its n ∧ its.size ≤ sizeLine ∧ Vals xs its.toList
noncomputable def absV : Value → Option V
  | .none => some .non
  | .bool b => some (.bl b)
  | .int i _ => some (.int i)
  | .str x _ => some (.str x)
  | .bytes b _ => some (.byt b)
  | .float b _ => some (.flt b)
  | .ref a => some (.ref a)
  | .type n => some (.ty n)
  | _ => none
theorem RelV.abs {x : V} {u : Value} (r : RelV x u) : absV u = some x := by
  cases x with
  | non => cases r; rfl
  | bl _ => cases r; rfl
  | int _ => obtain ⟨t, rfl⟩ := r; rfl
  | str _ => obtain ⟨t, rfl⟩ := r; rfl
  | byt _ => obtain ⟨t, rfl⟩ := r; rfl
  | flt _ => obtain ⟨t, rfl⟩ := r; rfl
  | ref _ => cases r; rfl
  | ty _ => cases r; rfl
theorem RelV.inj {x y : V} {u : Value} (r : RelV x u) (q : RelV y u) : x = y := Option.some.inj (r.abs.symm.trans q.abs)
theorem Vals.inj : ∀ {xs ys : List V} {us : List Value}, Vals xs us → Vals ys us → xs = ys
  | _, _, _, .nil, .nil => rfl
  | _, _, _, .cons r t, .cons r' t' => by rw [r.inj r', Vals.inj t t']
section
variable {X : Cx} {pins : List (Addr × Obj)} {σ : St} {H : Hp} {s : Shared} {a : Addr} {xs ys : List V}
theorem SqL.of {K : PySem.W.Frag} (h : H a = some (.lst xs)) : SqL K H a xs := .inl (.inl h)
theorem SqT.of {K : PySem.W.Frag} (h : H a = some (.tup xs)) : SqT K H a xs := .inl (.inl h)
theorem Inv.list (I : Inv X pins σ H s) (h : SqL X.K H a xs) : ∃ its : List Value, Vals xs its ∧ PlainL s.heap a its.toArray ∧ xs.length ≤ sizeLine := by
  rcases h with h | ⟨o, its, n, hk, hc, hd, hs, hz, r⟩
  · obtain ⟨z, its, n, r, e⟩ := h.ok I.hok
    exact ⟨its, r, ⟨_, n, e, rfl, rfl, rfl⟩, z⟩
  · refine ⟨its.toList, r, ⟨o, n, I.kIn a o hk, hc, hd, by simpa using hs⟩, ?_⟩
    have e := r.length
    simp only [Array.length_toList] at e
    omega
theorem Inv.tuple (I : Inv X pins σ H s) (h : SqT X.K H a xs) : ∃ its : List Value, Vals xs its ∧ IsTup s.heap a its.toArray ∧ xs.length ≤ sizeLine := by
  rcases h with h | ⟨o, its, n, hk, hc, hs, hz, r⟩
  · obtain ⟨z, its, r, p⟩ := h.ok I.hok
    exact ⟨its, r, p, z⟩
  · refine ⟨its.toList, r, ⟨o, I.kIn a o hk, hc, n, by simpa using hs⟩, ?_⟩
    have e := r.length
    simp only [Array.length_toList] at e
    omega
theorem Inv.list_inj (I : Inv X pins σ H s) (h : SqL X.K H a xs) (h' : SqL X.K H a ys) : xs = ys := by
  obtain ⟨its, r, ⟨o, n, e, _, _, d⟩, _⟩ := I.list h
  obtain ⟨its', r', ⟨o', n', e', _, _, d'⟩, _⟩ := I.list h'
  rw [e] at e'; cases e'
  rw [d] at d'
  injection d' with d1 _
  have : its = its' := by simpa using congrArg Array.toList d1
  subst this
  exact r.inj r'
theorem Inv.tuple_inj (I : Inv X pins σ H s) (h : SqT X.K H a xs) (h' : SqT X.K H a ys) : xs = ys := by
  obtain ⟨its, r, ⟨o, e, _, n, d⟩, _⟩ := I.tuple h
  obtain ⟨its', r', ⟨o', e', _, n', d'⟩, _⟩ := I.tuple h'
  rw [e] at e'; cases e'
  rw [d] at d'
  injection d' with d1 _
  have : its = its' := by simpa using congrArg Array.toList d1
  subst this
  exact r.inj r'
end
noncomputable abbrev Cx.wish (X : Cx) (E : Value → Shared → Prop) : Cx := { X with xe := E }
noncomputable abbrev Cx.nox (X : Cx) : Cx := X.wish fun _ _ => False
theorem Cx.Ok.wish {X : Cx} (ok : X.Ok) (E : Value → Shared → Prop) : (X.wish E).Ok :=
  ⟨ok.mod, ok.kind, ok.glob, ok.blt, ok.above, ok.inj, ok.has, ok.cab, ok.hd, ok.frames, ok.stk, ok.exf, ok.bs, ok.bsz, ok.noex, ok.exfs, ok.funs, ok.frf⟩
theorem Cx.Ok.unwish {X : Cx} {E : Value → Shared → Prop} (ok : (X.wish E).Ok) : X.Ok :=
  ⟨ok.mod, ok.kind, ok.glob, ok.blt, ok.above, ok.inj, ok.has, ok.cab, ok.hd, ok.frames, ok.stk, ok.exf, ok.bs, ok.bsz, ok.noex, ok.exfs, ok.funs, ok.frf⟩
section
variable {X : Cx} {pins : List (Addr × Obj)} {σ : St} {H : Hp} {s : Shared} {E : Value → Shared → Prop}
theorem Inv.wish (I : Inv X pins σ H s) (E : Value → Shared → Prop) : Inv (X.wish E) pins σ H s := ⟨I.ok.wish E, I.os, I.bare, I.base, I.loc, I.cell, I.free, I.freeC, I.pin, I.hok, I.len⟩
theorem Inv.unwish (I : Inv (X.wish E) pins σ H s) : Inv X pins σ H s := ⟨I.ok.unwish, I.os, I.bare, I.base, I.loc, I.cell, I.free, I.freeC, I.pin, I.hok, I.len⟩
theorem SP.unwish {D : Ends} {f : Flow} {s' : Shared} (h : SP (X.wish E) pins D f s') : SP X pins D f s' := by
  cases f with
  | next => obtain ⟨σ', H', I, q⟩ := h; exact ⟨σ', H', I.unwish, q⟩
  | brk => obtain ⟨σ', H', I, q⟩ := h; exact ⟨σ', H', I.unwish, q⟩
  | cont => obtain ⟨σ', H', I, q⟩ := h; exact ⟨σ', H', I.unwish, q⟩
  | ret u => obtain ⟨v, σ', H', I, r, q⟩ := h; exact ⟨v, σ', H', I.unwish, r, q⟩
theorem PE.nox {e : Expr} {t : TE} (h : PE X.nox e t) : PE X e t := fun pins s σ H Q I hw =>
  wpAny_mono (h pins s σ H Q (I.wish _) hw) (fun _ _ ⟨v, H', I', r, q⟩ => ⟨v, H', I'.unwish, r, q⟩) fun _ _ z => False.elim z
theorem PT.nox {e : Expr} {t : TT} (h : PT X.nox e t) : PT X e t := fun pins s σ H Q I hw =>
  wpAny_mono (h pins s σ H Q (I.wish _) hw) (fun _ _ ⟨H', I', q⟩ => ⟨H', I'.unwish, q⟩) fun _ _ z => False.elim z
theorem PSs.nox {st : List Stmt} {t : TS} (h : PSs X.nox st t) : PSs X st t := fun pins s σ H D I hw =>
  wpAny_mono (h pins s σ H D (I.wish _) hw) (fun _ _ q => q.unwish) fun _ _ z => False.elim z
end
section
variable {X : Cx} {st : Stmt} {rest : List Stmt} {t u : TS} {e : Expr} {te : TE} {pos : Pos}
noncomputable def tNext : TS := fun D σ H => D.nx σ H
noncomputable def tSeq (t u : TS) : TS := fun D σ H => t { D with nx := u D } σ H
theorem pss_nil : PSs X [] tNext := fun _ _ σ H _ I h => wpAny_execs_nil ⟨σ, H, I, h⟩
theorem pss_cons (h1 : PS X st t) (h2 : PSs X rest u) : PSs X (st :: rest) (tSeq t u) := by
  intro pins s σ H D I h
  refine wpAny_execs_cons (thn (h1 pins s σ H { D with nx := u D } I h) fun f s1 q => ?_)
  cases f with
  | next =>
    obtain ⟨σ', H', I', q⟩ := q
    exact h2 pins s1 σ' H' D I' q
  | ret v => exact q
  | brk => exact q
  | cont => exact q
theorem pss_one (h1 : PS X st t) : PSs X [st] t := by
  intro pins s σ H D I h
  refine wpAny_execs_cons (thn (h1 pins s σ H D I h) fun f s1 q => ?_)
  cases f with
  | next => exact wpAny_execs_nil q
  | ret v => exact q
  | brk => exact q
  | cont => exact q
theorem Inv.quiet {pins : List (Addr × Obj)} {σ : St} {H : Hp} {s : Shared} (I : Inv X pins σ H s) : interactive X.env = false := by simp [interactive, I.ok.kind]
noncomputable def tDrop (te : TE) : TS := fun D σ H => te σ H fun _ H1 => D.nx σ H1
theorem ps_expr (he : PE X e te) (hs : swapsWith e none pos.line X.env = pure false := by rfl) : PS X (.Expr e pos) (tDrop te) := by
  intro pins s σ H D I h
  exact wpAny_Expr_any (thn (he pins s σ H _ I h) fun v s1 ⟨x, H1, I1, r1, q1⟩ => ⟨σ, H1, I1, q1⟩) I.quiet hs
noncomputable def tRet (te : TE) : TS := fun D σ H => te σ H D.rt
theorem ps_ret (he : PE X e te) : PS X (.Return (some e) pos) (tRet te) := by
  intro pins s σ H D I h
  exact wpAny_Return_some (thn (he pins s σ H _ I h) fun v s1 ⟨x, H1, I1, r1, q1⟩ => ⟨x, σ, H1, I1, r1, q1⟩)
noncomputable def tIfS (c : TT) (t u : TS) : TS := fun D σ H => c σ H fun b H1 => if b = true then t D σ H1 else u D σ H1
theorem ps_if {c : Expr} {a b : List Stmt} {tc : TT} (hc : PT X c tc) (ha : PSs X a t) (hb : PSs X b u) : PS X (.If c a b pos) (tIfS tc t u) := by
  intro pins s σ H D I h
  refine wpAny_If (thn (hc pins s σ H _ I h) fun d s1 ⟨H1, I1, q1⟩ => ?_)
  cases d with
  | true => exact ha pins s1 σ H1 D I1 q1
  | false => exact hb pins s1 σ H1 D I1 q1
end
noncomputable abbrev TG := V → St → Hp → (St → Hp → Prop) → Prop
noncomputable abbrev TGs := List V → St → Hp → (St → Hp → Prop) → Prop
noncomputable def PG (X : Cx) (target : Expr) (t : TG) : Prop :=
  ∀ (pins : List (Addr × Obj)) (s : Shared) (σ : St) (H : Hp) (v : V) (u : Value) (Q : St → Hp → Prop), Inv X pins σ H s → RelV v u → t v σ H Q →
    wpAny (model X.prog X.w) X.A (assign target X.env u) (fun _ s' => ∃ σ' H', Inv X pins σ' H' s' ∧ Q σ' H') X.xe s
noncomputable abbrev TIp := V → V → Hp → VK → Prop
noncomputable def PIp (X : Cx) (op : Operator) (t : TIp) : Prop :=
  ∀ (pins : List (Addr × Obj)) (s : Shared) (σ : St) (H : Hp) (x y : V) (v u : Value) (Q : VK), Inv X pins σ H s → RelV x v → RelV y u → t x y H Q →
    wpAny (model X.prog X.w) X.A (inplaceOp op v u) (EP X pins σ Q) X.xe s
section
variable {X : Cx} {pos : Pos}
noncomputable def gName (i : Nat) : TG := fun v σ H Q => Q (σ.set i (some v)) H
theorem pg_name {i : Nat} {x : Str} (hN : X.N.Nodup) (hi : X.N[i]? = some x) (hx : Loc X.env.scope x) (hf : X.fn x = true ∨ X.env.scope.names.lookup x = some .local := by first | exact .inl rfl | exact .inr rfl | assumption) : PG X (.Name x pos) (gName i) := by
  intro pins s σ H v u Q I r h
  exact wpAny_assign_Name (store_ok I hN hi hx r (fun s' I' => ⟨_, H, I', h⟩) hf)
noncomputable def gNil : TGs := fun vs σ H Q => vs = [] ∧ Q σ H
noncomputable def gCons (t : TG) (u : TGs) : TGs := fun vs σ H Q => ∃ v r, vs = v :: r ∧ t v σ H fun σ' H' => u r σ' H' Q
noncomputable def tAsg (te : TE) (g : TG) : TS := fun D σ H => te σ H fun x H1 => g x σ H1 D.nx
theorem ps_set {i : Nat} {x : Str} {e : Expr} {te : TE} {pos' : Pos} (hN : X.N.Nodup) (hi : X.N[i]? = some x) (hx : Loc X.env.scope x) (he : PE X e te) (hs : swapsWith e (some (.Name x pos')) pos.line X.env = pure false := by rfl) (hf : X.fn x = true ∨ X.env.scope.names.lookup x = some .local := by first | exact .inl rfl | exact .inr rfl | assumption) :
    PS X (.Assign [.Name x pos'] e pos) (tAsg te (gName i)) := by
  intro pins s σ H D I h
  refine wpAny_Assign_Name (thn (he pins s σ H _ I h) fun v s1 ⟨y, H1, I1, r1, q1⟩ => ?_) hs
  exact store_ok I1 hN hi hx r1 (fun s2 I2 => ⟨_, H1, I2, q1⟩) hf
noncomputable def tPar (i j : Nat) (ta : TA) : TS := fun D σ H => ta σ H fun vs H1 => ∃ v w, vs = [v, w] ∧ D.nx ((σ.set i (some v)).set j (some w)) H1
noncomputable def tAug (i : Nat) (te : TE) (ti : TIp) : TS := fun D σ H => ∃ x, σ[i]? = some (some x) ∧ te σ H fun y H1 => ti x y H1 fun z H2 => D.nx (σ.set i (some z)) H2
theorem ps_aug {i : Nat} {x : Str} {e : Expr} {te : TE} {op : Operator} {ti : TIp} {pos' : Pos} (hN : X.N.Nodup) (hi : X.N[i]? = some x) (hx : Loc X.env.scope x) (he : PE X e te) (ho : PIp X op ti) (hf : X.fn x = true ∨ X.env.scope.names.lookup x = some .local := by first | exact .inl rfl | exact .inr rfl | assumption) :
    PS X (.AugAssign (.Name x pos') op e pos) (tAug i te ti) := by
  intro pins s σ H D I h
  obtain ⟨v, e1, h⟩ := h
  obtain ⟨m, hn, hl⟩ := I.loc
  have vis : Vis X.env.scope x := by rcases hx with k | k; exact .inl k; exact .inr (.inl k)
  obtain ⟨u, r, l⟩ := hl i x v hi e1 vis
  refine wpAny_AugAssign_Name ?_
  have go : wpAny (model X.prog X.w) X.A (eval e X.env) (fun w s₂ => wpAny (model X.prog X.w) X.A (inplaceOp op u w) (fun r s₃ => wpAny (model X.prog X.w) X.A (storeName X.env x r) (fun _ => SP X pins D .next) X.xe s₃) X.xe s₂) X.xe s := by
    refine thn (he pins s σ H _ I h) fun w s1 ⟨y, H1, I1, r1, q1⟩ => ?_
    refine thn (ho pins s1 σ H1 v y u w _ I1 r r1 q1) fun z s2 ⟨zv, H2, I2, r2, q2⟩ => ?_
    exact store_ok I2 hN hi hx r2 (fun s3 I3 => ⟨_, H2, I3, q2⟩) hf
  rcases l with ⟨hk, hm⟩ | ⟨hk, c, hc, hcell⟩
  · exact wpAny_loadName_local I.ok.kind hk hn hm go
  · rcases hk with hk | hk
    · exact wpAny_loadName_cell I.ok.kind hk hc hcell go
    · rcases hx with k | k
      · have : X.env.scope.names.lookup x = some .free := hk
        rw [k] at this; cases this
      · have : X.env.scope.names.lookup x = some .free := hk
        rw [k] at this; cases this
end
section
variable {X : Cx} {pos : Pos}
noncomputable def tWhile (c : TT) (tb : TS) : TS := fun D σ H => ∃ W : Nat → St → Hp → Prop, (∃ m, W m σ H) ∧ ∀ m σ H, W m σ H →
  c σ H fun b H1 => if b = true then ∃ N : St → Hp → Prop, (∀ σ' H', N σ' H' → ∃ m', m' < m ∧ W m' σ' H') ∧ tb { D with nx := N, ct := N, bk := D.nx } σ H1 else D.nx σ H1
theorem ps_while {c : Expr} {body : List Stmt} {tc : TT} {tb : TS} (hp : PassesOwn (model X.prog X.w) X.A X.env X.xe) (hc : PT X c tc) (hb : PSs X body tb) : PS X (.While c body [] pos) (tWhile tc tb) := by
  intro pins s σ H D I h
  obtain ⟨W, ⟨m0, w0⟩, turn⟩ := h
  refine wpAny_While (codeAny_whileLoop (fun n s' => ∃ σ' H', Inv X pins σ' H' s' ∧ W n σ' H') ?_ m0 ⟨σ, H, I, w0⟩)
  rintro n s1 ⟨σ1, H1, I1, w1⟩
  refine wpAny_passesOwn hp (thn (hc pins s1 σ1 H1 _ I1 (turn n σ1 H1 w1)) fun b s2 ⟨H2, I2, q2⟩ => ?_)
  cases b with
  | true =>
    obtain ⟨N, hN, q2⟩ := q2
    rw [if_pos rfl]
    refine wpAny_passesOwn hp (thn (hb pins s2 σ1 H2 _ I2 q2) fun f s3 q3 => ?_)
    cases f with
    | next =>
      obtain ⟨σ3, H3, I3, n3⟩ := q3
      obtain ⟨m', hm, w3⟩ := hN σ3 H3 n3
      exact ⟨m', hm, σ3, H3, I3, w3⟩
    | cont =>
      obtain ⟨σ3, H3, I3, n3⟩ := q3
      obtain ⟨m', hm, w3⟩ := hN σ3 H3 n3
      exact ⟨m', hm, σ3, H3, I3, w3⟩
    | brk => exact q3
    | ret v => exact q3
  | false =>
    rw [if_neg Bool.false_ne_true]
    exact wpAny_execs_nil ⟨σ1, H2, I2, q2⟩
end
structure It where
  go : Nat → Hp → Prop
  yld : Nat → Hp → V → Hp → Prop
  stop : Nat → Hp → Prop
noncomputable def FpOk (X : Cx) (pins : List (Addr × Obj)) (H : Hp) (b : Addr) : Prop :=
  H b = none ∧ b ≠ X.env.locals ∧ b ∉ X.fs ∧ (b ∈ X.ex ∨ X.s₀.heap.objs.size ≤ b) ∧ (∀ x c, X.env.cells.lookup x = some c → c ≠ b) ∧ ∀ p ∈ X.pn ++ pins, p.1 ≠ b
theorem Inv.fpOk {X : Cx} {pins : List (Addr × Obj)} {σ : St} {H H' : Hp} {s : Shared} {b : Addr} (I : Inv X pins σ H s) (hb : s.heap.objs.size ≤ b) (hn : H' b = none) : FpOk X pins H' b := by
  refine ⟨hn, Nat.ne_of_gt (Nat.lt_of_lt_of_le I.lt hb), I.nofs hb, .inr (Nat.le_trans I.sz hb), fun x c e z => ?_, fun p hp z => ?_⟩
  · obtain ⟨v, q⟩ := I.cell x c e
    exact absurd (Nat.lt_of_lt_of_le q.lt (by rw [z]; exact hb)) (Nat.lt_irrefl _)
  · exact absurd (Nat.lt_of_lt_of_le (Heap.lt_size (I.pin p hp).1) (by rw [z]; exact hb)) (Nat.lt_irrefl _)
structure Turn (P : Program) (w : World) (K : PySem.W.Frag) (tg : Expr) (J : It) (fp : List Addr) (it : Addr) (tn : Nat → Heap → Prop) : Prop where
  mem : it ∈ fp
  obj : ∀ i h, tn i h → ∀ b ∈ fp, ∃ o, h.get? b = some o ∧ ∀ v, o.data ≠ .cell v
  keep : ∀ i h h', tn i h → (∀ b ∈ fp, ∀ o, h.get? b = some o → h'.get? b = some o) → tn i h'
  item : ∀ (X : Cx), X.prog = P → X.w = w → X.K = K → X.calm = true → ∀ (i : Nat) (pins : List (Addr × Obj)) (s : Shared) (σ : St) (H : Hp) (E : Value → Shared → Prop), Inv X pins σ H s → (∀ b ∈ fp, FpOk X pins H b) → tn i s.heap → J.go i H →
    wpAny (model P w) X.A (pyNext (.ref it)) (fun r s1 => ∃ u, r = some u ∧
      wpAny (model P w) X.A (letOwnedTupleGo tg (.ref it) u) (fun _ s2 => ∃ x H', Inv X pins σ H' s2 ∧ RelV x u ∧ J.yld i H x H' ∧ tn (i + 1) s2.heap ∧ ∀ b ∈ fp, H' b = none) E s1) E s
  done : ∀ (X : Cx), X.prog = P → X.w = w → X.K = K → X.calm = true → ∀ (i : Nat) (pins : List (Addr × Obj)) (s : Shared) (σ : St) (H : Hp) (E : Value → Shared → Prop), Inv X pins σ H s → (∀ b ∈ fp, FpOk X pins H b) → tn i s.heap → J.stop i H →
    wpAny (model P w) X.A (pyNext (.ref it)) (fun r s1 => r = none ∧ Inv X pins σ H s1) E s
  self : ∀ (A : Around) (i : Nat) (s : Shared) (Q : Value → Shared → Prop) (E : Value → Shared → Prop), tn i s.heap → Q (.ref it) s → wpAny (model P w) A (pyIter (.ref it)) Q E s
noncomputable abbrev TI := St → Hp → (It → Hp → Prop) → Prop
noncomputable def PIE (X : Cx) (pins : List (Addr × Obj)) (σ : St) (tg : Expr) (R : It → Hp → Prop) (itv : Value) (s2 : Shared) : Prop :=
  ∃ (it : Addr) (fp : List Addr) (tn : Nat → Heap → Prop) (J : It) (H' : Hp), itv = .ref it ∧ Inv X pins σ H' s2 ∧ Turn X.prog X.w X.K tg J fp it tn ∧ tn 0 s2.heap ∧ (∀ b ∈ fp, FpOk X pins H' b) ∧ R J H'
noncomputable def PI (X : Cx) (tg iter : Expr) (wi : TI) : Prop :=
  ∀ (pins : List (Addr × Obj)) (s : Shared) (σ : St) (H : Hp) (R : It → Hp → Prop), Inv X pins σ H s → wi σ H R →
    wpAny (model X.prog X.w) X.A (eval iter X.env) (fun v s1 => wpAny (model X.prog X.w) X.A (pyIter v) (PIE X pins σ tg R) X.xe s1) X.xe s
theorem go_of {M : Model} {A : Around} {E : Value → Shared → Prop} {s : Shared} {tg : Expr} {it : Addr} {u : Value} {o : Obj} {n : String} {vs : Array Value} {Q : Unit → Shared → Prop} (ho : s.heap.get? it = some o) (hc : o.cls = .type n) (hd : o.data = .fields vs)
    (hn : ["enumerate", "zip", "dict_itemiterator", "dict_reverseitemiterator", "odict_iterator", "itertools.zip_longest", "itertools.pairwise"].contains n = false) (hQ : Q () s) : wpAny M A (letOwnedTupleGo tg (.ref it) u) Q E s := by
  unfold letOwnedTupleGo
  cases tg <;> first
    | exact wpAny_pure hQ
    | (cases u <;> first
        | exact wpAny_pure hQ
        | (refine wpAny_bind (wpAny_load ho ?_)
           rw [hc, hd]
           show wpAny M A (if (["enumerate", "zip", "dict_itemiterator", "dict_reverseitemiterator", "odict_iterator", "itertools.zip_longest", "itertools.pairwise"].contains n && vs[0]? == some (rawInt _)) = true then _ else _) Q E s
           rw [if_neg (by intro h; rw [hn, Bool.false_and] at h; cases h)]
           exact wpAny_pure hQ))
noncomputable def Itl (K : PySem.W.Frag) (a : Addr) : It :=
  ⟨fun i H => ∃ xs x, SqL K H a xs ∧ xs[i]? = some x, fun i H x H' => H' = H ∧ ∀ xs, SqL K H a xs → xs[i]? = some x, fun i H => ∃ xs, SqL K H a xs ∧ xs.length ≤ i⟩
noncomputable def Itt (K : PySem.W.Frag) (a : Addr) : It :=
  ⟨fun i H => ∃ xs x, SqT K H a xs ∧ xs[i]? = some x, fun i H x H' => H' = H ∧ ∀ xs, SqT K H a xs → xs[i]? = some x, fun i H => ∃ xs, SqT K H a xs ∧ xs.length ≤ i⟩
noncomputable def Itr (lo : Int) (n : Nat) : It := ⟨fun i _ => i < n, fun i H x H' => H' = H ∧ x = .int (lo + i), fun i _ => n ≤ i⟩
theorem turn_list {P : Program} {w : World} {K : PySem.W.Frag} {tg : Expr} (a it : Addr) : Turn P w K tg (Itl K a) [it] it (fun i h => h.IsListIter it a i) where
  mem := by simp
  obj := fun i h st b hb => by
    have e : b = it := by simpa using hb
    subst e
    obtain ⟨o, e, c, d⟩ := st
    exact ⟨o, e, fun v z => by rw [d] at z; cases z⟩
  keep := fun i h h' st k => st.at fun o e => k it (by simp) o e
  item := by
    intro X hP hw hK hc i pins s σ H E I hf st hg
    subst hP hw hK
    obtain ⟨xs, x, hq, hx⟩ := hg
    obtain ⟨its, rv, p, hz⟩ := I.list hq
    obtain ⟨u, hu, ru⟩ := rv.get hx
    obtain ⟨f0, f1, f2, f3, f4, f5⟩ := hf it (by simp)
    refine wpAny_pyNext_list_item st p.isList (x := u) (by simpa using hu) fun h' st' sb => ?_
    have I1 : Inv X pins σ H { s with heap := h' } := I.turned (t' := s.toks) (fun b o hb e => (sb.2 b hb).trans e) f0 f1 f3 f4 f5
    obtain ⟨o, e, c, d⟩ := id st'
    exact ⟨u, rfl, go_of (s := { s with heap := h' }) e c d (by decide) ⟨x, H, I1, ru, ⟨rfl, fun ys hy => by rw [I.list_inj hy hq]; exact hx⟩, st', fun b hb => (hf b hb).1⟩⟩
  done := by
    intro X hP hw hK hc i pins s σ H E I hf st hg
    subst hP hw hK
    obtain ⟨xs, hq, hx⟩ := hg
    obtain ⟨its, rv, p, hz⟩ := I.list hq
    obtain ⟨f0, f1, f2, f3, f4, f5⟩ := hf it (by simp)
    have hl := rv.length
    exact wpAny_pyNext_list_end (I.ok.hd hc) st p.isList (by simp; omega) fun h' eb => ⟨rfl, I.turned (t' := s.toks) (fun b o hb e => eb b o hb e) f0 f1 f3 f4 f5⟩
  self := fun _ _ _ _ _ st h => wpAny_pyIter_listiter st h
theorem turn_tuple {P : Program} {w : World} {K : PySem.W.Frag} {tg : Expr} (a it : Addr) : Turn P w K tg (Itt K a) [it] it (fun i h => h.IsTupleIter it a i) where
  mem := by simp
  obj := fun i h st b hb => by
    have e : b = it := by simpa using hb
    subst e
    obtain ⟨o, e, c, d⟩ := st
    exact ⟨o, e, fun v z => by rw [d] at z; cases z⟩
  keep := fun i h h' st k => st.at fun o e => k it (by simp) o e
  item := by
    intro X hP hw hK hc i pins s σ H E I hf st hg
    subst hP hw hK
    obtain ⟨xs, x, hq, hx⟩ := hg
    obtain ⟨its, rv, p, hz⟩ := I.tuple hq
    obtain ⟨u, hu, ru⟩ := rv.get hx
    obtain ⟨f0, f1, f2, f3, f4, f5⟩ := hf it (by simp)
    refine wpAny_pyNext_tuple_item st (show s.heap.IsTuple a its.toArray from p) (x := u) (by simpa using hu) fun h' st' sb => ?_
    have I1 : Inv X pins σ H { s with heap := h' } := I.turned (t' := s.toks) (fun b o hb e => (sb.2 b hb).trans e) f0 f1 f3 f4 f5
    obtain ⟨o, e, c, d⟩ := id st'
    exact ⟨u, rfl, go_of (s := { s with heap := h' }) e c d (by decide) ⟨x, H, I1, ru, ⟨rfl, fun ys hy => by rw [I.tuple_inj hy hq]; exact hx⟩, st', fun b hb => (hf b hb).1⟩⟩
  done := by
    intro X hP hw hK hc i pins s σ H E I hf st hg
    subst hP hw hK
    obtain ⟨xs, hq, hx⟩ := hg
    obtain ⟨its, rv, p, hz⟩ := I.tuple hq
    obtain ⟨f0, f1, f2, f3, f4, f5⟩ := hf it (by simp)
    have hl := rv.length
    exact wpAny_pyNext_tuple_end (I.ok.hd hc) st (show s.heap.IsTuple a its.toArray from p) (by simp; omega) fun h' eb => ⟨rfl, I.turned (t' := s.toks) (fun b o hb e => eb b o hb e) f0 f1 f3 f4 f5⟩
  self := fun _ _ _ _ _ st h => wpAny_pyIter_tupleiter st h
theorem turn_range {P : Program} {w : World} {K : PySem.W.Frag} {tg : Expr} (it : Addr) (lo : Int) (n : Nat) : Turn P w K tg (Itr lo n) [it] it (fun i h => IsRangeIter h it (lo + (i : Nat) * 1) ((n : Int) - (i : Nat)) 1) where
  mem := by simp
  obj := fun i h st b hb => by
    have e : b = it := by simpa using hb
    subst e
    exact ⟨_, st, fun v z => by
      have z' : Data.fields _ = Data.cell v := z
      cases z'⟩
  keep := fun i h h' st k => k it (by simp) _ st
  item := by
    intro X hP hw hK hc i pins s σ H E I hf st hg
    subst hP hw hK
    obtain ⟨f0, f1, f2, f3, f4, f5⟩ := hf it (by simp)
    have W := Walks.range (prog := X.prog) (w := X.w) (I.ok.hd hc) it lo 1 n
    refine W.item i s _ _ hg st fun v h' tk hv st' kk => ?_
    obtain ⟨t, rfl⟩ := hv
    have I1 : Inv X pins σ H { s with heap := h', toks := tk } := I.turned (fun b o hb e => kk b o (by simpa using hb) e) f0 f1 f3 f4 f5
    refine ⟨_, rfl, go_of (s := { s with heap := h', toks := tk }) (n := "range_iterator") st' rfl rfl (by decide) ⟨.int (lo + i), H, I1, ⟨t, ?_⟩, ⟨rfl, rfl⟩, st', fun b hb => (hf b hb).1⟩⟩
    rw [Int.mul_one]
  done := by
    intro X hP hw hK hc i pins s σ H E I hf st hg
    subst hP hw hK
    obtain ⟨f0, f1, f2, f3, f4, f5⟩ := hf it (by simp)
    exact wpAny_pyNext_range_end (I.ok.hd hc) st (by have : n ≤ i := hg; omega) fun h' eb => ⟨rfl, I.turned (t' := s.toks) (fun b o hb e => eb b o hb e) f0 f1 f3 f4 f5⟩
  self := fun _ _ _ _ _ st h => wpAny_pyIter_rangeiter st h
end L2
namespace L2
open PySem PySem.Spec PyProof.Rows
section
variable {X : Cx} {tg : Expr}
noncomputable def iList (K : PySem.W.Frag) (tl : TE) : TI := fun σ H R => tl σ H fun x H1 => ∃ a, x = .ref a ∧ (∃ xs, SqL K H1 a xs) ∧ R (Itl K a) H1
noncomputable def iTup (K : PySem.W.Frag) (tl : TE) : TI := fun σ H R => tl σ H fun x H1 => ∃ a, x = .ref a ∧ (∃ xs, SqT K H1 a xs) ∧ R (Itt K a) H1
theorem pi_list {l : Expr} {tl : TE} (hl : PE X l tl) : PI X tg l (iList X.K tl) := by
  intro pins s σ H R I h
  refine thn (hl pins s σ H _ I h) fun v s1 ⟨x, H1, I1, r1, q1⟩ => ?_
  obtain ⟨a, e, ⟨xs, hq⟩, q⟩ := q1
  subst e
  cases r1
  obtain ⟨its, rv, p, hz⟩ := I1.list hq
  refine wpAny_pyIter_list p.isList ?_
  refine ⟨s1.heap.objs.size, [s1.heap.objs.size], _, _, H1, rfl, I1.kept (t' := s1.toks) fun b o e => Heap.get?_push_of_some _ e, turn_list a _, ⟨_, Heap.get?_push_size _ rfl, rfl, rfl⟩, fun b hb => ?_, q⟩
  have e : b = s1.heap.objs.size := by simpa using hb
  subst e
  exact I1.fpOk (Nat.le_refl _) (I1.hok.fresh (Nat.le_refl _))
theorem pi_tup {l : Expr} {tl : TE} (hl : PE X l tl) : PI X tg l (iTup X.K tl) := by
  intro pins s σ H R I h
  refine thn (hl pins s σ H _ I h) fun v s1 ⟨x, H1, I1, r1, q1⟩ => ?_
  obtain ⟨a, e, ⟨xs, hq⟩, q⟩ := q1
  subst e
  cases r1
  obtain ⟨its, rv, p, hz⟩ := I1.tuple hq
  refine wpAny_pyIter_tuple (show s1.heap.IsTuple a its.toArray from p) ?_
  refine ⟨s1.heap.objs.size, [s1.heap.objs.size], _, _, H1, rfl, I1.kept (t' := s1.toks) fun b o e => Heap.get?_push_of_some _ e, turn_tuple a _, ⟨_, Heap.get?_push_size _ rfl, rfl, rfl⟩, fun b hb => ?_, q⟩
  have e : b = s1.heap.objs.size := by simpa using hb
  subst e
  exact I1.fpOk (Nat.le_refl _) (I1.hok.fresh (Nat.le_refl _))
theorem range_it {pins : List (Addr × Obj)} {σ : St} {H : Hp} {s : Shared} {R : It → Hp → Prop} {E : Value → Shared → Prop} {lo hi : Int} {t u v : Tok} {tk : Nat} (I : Inv X pins σ H s) (h1 : -(2 ^ 62) ≤ lo) (h2 : lo < 2 ^ 62) (h3 : -(2 ^ 62) ≤ hi) (h4 : hi < 2 ^ 62)
    (q : R (Itr lo (hi - lo).toNat) H) : wpAny (model X.prog X.w) X.A (pyIter (.ref s.heap.objs.size)) (PIE X pins σ tg R) E { s with heap := s.heap.push { cls := .type "range", data := .fields #[.int lo t, .int hi u, .int 1 v] }, toks := tk } := by
  refine wpAny_pyIter_range (IsRange.new ..) (small_one h1 h2 h3 h4) ?_
  have I1 : Inv X pins σ H { s with heap := s.heap.push { cls := .type "range", data := .fields #[.int lo t, .int hi u, .int 1 v] }, toks := tk } := I.kept fun b o e => Heap.get?_push_of_some _ e
  refine ⟨(s.heap.push { cls := .type "range", data := .fields #[.int lo t, .int hi u, .int 1 v] }).objs.size, [(s.heap.push { cls := .type "range", data := .fields #[.int lo t, .int hi u, .int 1 v] }).objs.size], _, _, H, rfl,
    I1.kept (t' := tk) fun b o e => Heap.get?_push_of_some _ e, turn_range _ lo (hi - lo).toNat, ?_, fun b hb => ?_, q⟩
  · have e1 : lo + ((0 : Nat) : Int) * 1 = lo := by simp
    have e2 : (((hi - lo).toNat : Nat) : Int) - ((0 : Nat) : Int) = Builtin.Range.rangeSize lo hi 1 := by rw [rangeSize_one]; split <;> omega
    show IsRangeIter _ _ (lo + ((0 : Nat) : Int) * 1) ((((hi - lo).toNat : Nat) : Int) - ((0 : Nat) : Int)) 1
    rw [e1, e2]
    exact Heap.get?_push_size _ rfl
  · have e : b = (s.heap.push { cls := .type "range", data := .fields #[.int lo t, .int hi u, .int 1 v] }).objs.size := by simpa using hb
    subst e
    exact I1.fpOk (Nat.le_refl _) (I1.hok.fresh (Nat.le_refl _))
noncomputable def iRng1 (ta : TA) : TI := fun σ H R => ta σ H fun vs H1 => ∃ j : Int, vs = [.int j] ∧ -(2 ^ 62) ≤ j ∧ j < 2 ^ 62 ∧ R (Itr 0 j.toNat) H1
noncomputable def iRng2 (ta : TA) : TI := fun σ H R => ta σ H fun vs H1 => ∃ i j : Int, vs = [.int i, .int j] ∧ (-(2 ^ 62) ≤ i ∧ i < 2 ^ 62 ∧ -(2 ^ 62) ≤ j ∧ j < 2 ^ 62) ∧ R (Itr i (j - i).toNat) H1
theorem pi_range1 {a : Expr} {ta : TA} {p pos : Pos} (hg : Gl X "range") (hm : X.mg "range" = none) (ha : PA X [a] ta) (hs : starEach [a] X.env = [(false, eval a X.env)] := by rfl) : PI X tg (.Call (.Name "range" p) [a] [] pos) (iRng1 ta) := by
  intro pins s σ H R I h
  refine Call_ (ld_blt I hg hm boot_range (PyProof.Rows.callWith_type1 (thn (ha pos pins s σ H _ I h) fun us s1 ⟨vs, H1, I1, r1, q1⟩ => ?_) hs rfl))
  obtain ⟨j, e, q1, q2, q⟩ := q1
  subst e
  cases r1 with
  | cons r rr =>
    cases rr
    obtain ⟨t, rfl⟩ := r
    exact call_range_1 (range_it I1 (by omega) (by omega) q1 q2 (by simpa using q))
noncomputable def tFor (wi : TI) (g : TG) (tb : TS) : TS := fun D σ H => wi σ H fun J H1 => ∃ W : Nat → Nat → St → Hp → Prop, (∃ m, W 0 m σ H1) ∧ ∀ i m σ H, W i m σ H →
  (J.stop i H ∧ D.nx σ H) ∨ (J.go i H ∧ ∃ N : St → Hp → Prop, (∀ σ' H', N σ' H' → ∃ m', m' < m ∧ W (i + 1) m' σ' H') ∧ ∀ x H', J.yld i H x H' → g x σ H' fun σ2 H2 => tb { D with nx := N, ct := N, bk := D.nx } σ2 H2)
noncomputable def pinsAt (fp : List Addr) (h : Heap) : List (Addr × Obj) := fp.filterMap fun b => (h.get? b).map fun o => (b, o)
theorem mem_pinsAt {fp : List Addr} {h : Heap} {b : Addr} {o : Obj} (hb : b ∈ fp) (e : h.get? b = some o) : (b, o) ∈ pinsAt fp h := List.mem_filterMap.mpr ⟨b, hb, by rw [e]; rfl⟩
theorem of_pinsAt {fp : List Addr} {h : Heap} {p : Addr × Obj} (hp : p ∈ pinsAt fp h) : p.1 ∈ fp ∧ h.get? p.1 = some p.2 := by
  obtain ⟨b, hb, e⟩ := List.mem_filterMap.mp hp
  cases q : h.get? b with
  | none => rw [q] at e; cases e
  | some o =>
    rw [q] at e
    have e' : (b, o) = p := Option.some.inj e
    subst e'
    exact ⟨hb, q⟩
theorem Inv.pinned {pins : List (Addr × Obj)} {σ : St} {H : Hp} {s : Shared} {fp : List Addr} (I : Inv X pins σ H s) (hf : ∀ b ∈ fp, FpOk X pins H b) (ho : ∀ b ∈ fp, ∃ o, s.heap.get? b = some o ∧ ∀ v, o.data ≠ .cell v) : Inv X (pins ++ pinsAt fp s.heap) σ H s :=
  I.pins_of fun p hp => (List.mem_append.mp hp).elim (fun z => I.pin p (List.mem_append_right _ z)) fun z => by
    obtain ⟨hb, e⟩ := of_pinsAt z
    obtain ⟨f0, f1, f2, _⟩ := hf p.1 hb
    obtain ⟨o, e', d⟩ := ho p.1 hb
    rw [e] at e'; cases e'
    exact ⟨e, f0, f1, f2, d⟩
theorem Inv.unpinned {pins pl : List (Addr × Obj)} {σ : St} {H : Hp} {s : Shared} (I : Inv X (pins ++ pl) σ H s) : Inv X pins σ H s := I.pins_of fun p hp => I.pin p (List.mem_append_right _ (List.mem_append_left _ hp))
theorem ps_for {iter : Expr} {body : List Stmt} {wi : TI} {g : TG} {tb : TS} {pos : Pos} (hp : PassesOwn (model X.prog X.w) X.A X.env X.xe) (hc : X.calm = true) (hi : PI X tg iter wi) (hg : PG X tg g) (hb : PSs X body tb)
    (hs : ∀ x, foldedSetIterable iter X.env x = pure x := by intro _; rfl) : PS X (.For tg iter body [] pos) (tFor wi g tb) := by
  intro pins s σ H D I h
  refine wpAny_For (thn (hi pins s σ H _ I h) fun v s1 h1 => thn h1 fun itv s2 h2 => ?_) hs
  obtain ⟨it, fp, tn, J, H2, e, I2, T, st2, f2, W, ⟨m0, w0⟩, turn⟩ := h2
  subst e
  have stat : ∀ {H' : Hp}, (∀ b ∈ fp, H' b = none) → ∀ b ∈ fp, FpOk X pins H' b := fun hn b hb => ⟨hn b hb, (f2 b hb).2⟩
  refine codeAny_forLoop_any (fun n s' => ∃ i σ' H', Inv X pins σ' H' s' ∧ tn i s'.heap ∧ (∀ b ∈ fp, H' b = none) ∧ W i n σ' H') ?_ m0 ⟨0, σ, H2, I2, st2, fun b hb => (f2 b hb).1, w0⟩
  rintro n s3 ⟨i, σ3, H3, I3, st3, fr3, w3⟩
  rcases turn i n σ3 H3 w3 with ⟨stop, qn⟩ | ⟨go, N, hN, step⟩
  · refine wpAny_passesOwn hp (thn (T.done X rfl rfl rfl hc i pins s3 σ3 H3 X.xe I3 (stat fr3) st3 stop) fun r s4 ⟨hr, I4⟩ => ?_)
    subst hr
    exact wpAny_execs_nil ⟨σ3, H3, I4, qn⟩
  · refine wpAny_passesOwn hp (thn (T.item X rfl rfl rfl hc i pins s3 σ3 H3 X.xe I3 (stat fr3) st3 go) fun r s4 ⟨u, hr, h4⟩ => ?_)
    subst hr
    refine wpAny_passesOwn hp (thn h4 fun _ s5 ⟨x, H5, I5, r5, y5, st5, fr5⟩ => ?_)
    have I5' := I5.pinned (stat fr5) (T.obj _ _ st5)
    refine wpAny_passesOwn hp (thn (hg _ s5 σ3 H5 x u _ I5' r5 (step x H5 y5)) fun _ s6 ⟨σ6, H6, I6, q6⟩ => ?_)
    refine wpAny_passesOwn hp (thn (hb _ s6 σ6 H6 _ I6 q6) fun f s7 q7 => ?_)
    have again : ∀ {σ7 : St} {H7 : Hp}, Inv X (pins ++ pinsAt fp s5.heap) σ7 H7 s7 → N σ7 H7 → ∃ m, m < n ∧ ∃ i σ' H', Inv X pins σ' H' s7 ∧ tn i s7.heap ∧ (∀ b ∈ fp, H' b = none) ∧ W i m σ' H' := fun {σ7 H7} I7 n7 => by
      obtain ⟨m', hm, w7⟩ := hN σ7 H7 n7
      refine ⟨m', hm, i + 1, σ7, H7, I7.unpinned, T.keep _ _ _ st5 fun b hb o e => (I7.pin (b, o) (List.mem_append_right _ (List.mem_append_right _ (mem_pinsAt hb e)))).1, fun b hb => ?_, w7⟩
      obtain ⟨o, e, d⟩ := T.obj _ _ st5 b hb
      exact (I7.pin (b, o) (List.mem_append_right _ (List.mem_append_right _ (mem_pinsAt hb e)))).2.1
    cases f with
    | next => obtain ⟨σ7, H7, I7, n7⟩ := q7; exact again I7 n7
    | cont => obtain ⟨σ7, H7, I7, n7⟩ := q7; exact again I7 n7
    | brk => obtain ⟨σ7, H7, I7, q7⟩ := q7; exact ⟨σ7, H7, I7.unpinned, q7⟩
    | ret v => obtain ⟨x7, σ7, H7, I7, r7, q7⟩ := q7; exact ⟨x7, σ7, H7, I7.unpinned, r7, q7⟩
end
end L2
namespace L2
open PySem PySem.Spec PyProof.Rows
noncomputable abbrev R2 := V → V → Hp → VK → Prop
noncomputable def OpR (X : Cx) (f : Value → Value → Sem Value) (r : R2) : Prop :=
  ∀ (pins : List (Addr × Obj)) (s : Shared) (σ : St) (H : Hp) (x y : V) (v u : Value) (Q : VK), Inv X pins σ H s → RelV x v → RelV y u → r x y H Q →
    wpAny (model X.prog X.w) X.A (f v u) (EP X pins σ Q) X.xe s
noncomputable def CallR (X : Cx) (f : Value) (r : List V → Hp → VK → Prop) : Prop :=
  ∀ (pins : List (Addr × Obj)) (s : Shared) (σ : St) (H : Hp) (xs : List V) (us : List Value) (Q : VK), Inv X pins σ H s → Vals xs us → r xs H Q →
    wpAny (model X.prog X.w) X.A (call f us) (EP X pins σ Q) X.xe s
noncomputable def TruR (X : Cx) (r : V → Hp → (Bool → Hp → Prop) → Prop) : Prop :=
  ∀ (pins : List (Addr × Obj)) (s : Shared) (σ : St) (H : Hp) (x : V) (v : Value) (Q : Bool → Hp → Prop), Inv X pins σ H s → RelV x v → r x H Q →
    wpAny (model X.prog X.w) X.A (truthy v) (TP X pins σ Q) X.xe s
noncomputable def tOp (r : R2) (ta tb : TE) : TE := fun σ H Q => ta σ H fun x H1 => tb σ H1 fun y H2 => r x y H2 Q
noncomputable def tUn (r : V → Hp → VK → Prop) (ta : TE) : TE := fun σ H Q => ta σ H fun x H1 => r x H1 Q
noncomputable def rI (C : Int → Int → Prop) (g : Int → Int → V) : R2 := fun x y H Q => ∃ i j, x = .int i ∧ y = .int j ∧ C i j ∧ Q (g i j) H
noncomputable def rI0 (g : Int → Int → V) : R2 := fun x y H Q => ∃ i j, x = .int i ∧ y = .int j ∧ Q (g i j) H
section
variable {X : Cx} {a b c : Expr} {ta tb tc : TE} {pos : Pos}
theorem binT (ha : PE X a ta) (hb : PE X b tb) {pins : List (Addr × Obj)} {s : Shared} {σ : St} {H : Hp} {R : V → V → Hp → Prop} (I : Inv X pins σ H s)
    (h : ta σ H fun x H1 => tb σ H1 fun y H2 => R x y H2) {Q : Value → Shared → Prop} {f : Value → Value → Sem Value}
    (hf : ∀ v u s2 x y H2, Inv X pins σ H2 s2 → RelV x v → RelV y u → R x y H2 → wpAny (model X.prog X.w) X.A (f v u) Q X.xe s2) :
    wpAny (model X.prog X.w) X.A (eval a X.env) (fun v s₁ => wpAny (model X.prog X.w) X.A (eval b X.env) (fun u s₂ => wpAny (model X.prog X.w) X.A (f v u) Q X.xe s₂) X.xe s₁) X.xe s := by
  refine thn (ha pins s σ H _ I h) fun v s1 ⟨x, H1, I1, r1, q1⟩ => ?_
  refine thn (hb pins s1 σ H1 _ I1 q1) fun u s2 ⟨y, H2, I2, r2, q2⟩ => ?_
  exact hf v u s2 x y H2 I2 r1 r2 q2
theorem pe_op {op : Operator} {r : R2} (ho : OpR X (binaryOp op) r) (ha : PE X a ta) (hb : PE X b tb) : PE X (.BinOp a op b pos) (tOp r ta tb) := by
  intro pins s σ H Q I h
  exact wpAny_BinOp (binT ha hb I h fun v u s2 x y H2 I2 rx ry q => ho pins s2 σ H2 x y v u Q I2 rx ry q)
theorem opI {f : Value → Value → Sem Value} {C : Int → Int → Prop} {g : Int → Int → Int}
    (rule : ∀ (i j : Int) (t u : Tok) (s : Shared) (Q : Value → Shared → Prop) (E : Value → Shared → Prop), C i j → Q (.int (g i j) s.toks) { s with toks := s.toks + 1 } → wpAny (model X.prog X.w) X.A (f (.int i t) (.int j u)) Q E s) :
    OpR X f (rI C fun i j => .int (g i j)) := by
  intro pins s σ H x y v u Q I rx ry h
  obtain ⟨i, j, rfl, rfl, hc, q⟩ := h
  obtain ⟨t, rfl⟩ := rx
  obtain ⟨t', rfl⟩ := ry
  exact rule i j t t' s _ _ hc ⟨.int (g i j), H, I.tok _, ⟨_, rfl⟩, q⟩
theorem opI0 {f : Value → Value → Sem Value} {g : Int → Int → Int}
    (rule : ∀ (i j : Int) (t u : Tok) (s : Shared) (Q : Value → Shared → Prop) (E : Value → Shared → Prop), Q (.int (g i j) s.toks) { s with toks := s.toks + 1 } → wpAny (model X.prog X.w) X.A (f (.int i t) (.int j u)) Q E s) :
    OpR X f (rI0 fun i j => .int (g i j)) := by
  intro pins s σ H x y v u Q I rx ry h
  obtain ⟨i, j, rfl, rfl, q⟩ := h
  obtain ⟨t, rfl⟩ := rx
  obtain ⟨t', rfl⟩ := ry
  exact rule i j t t' s _ _ ⟨.int (g i j), H, I.tok _, ⟨_, rfl⟩, q⟩
theorem opB0 {f : Value → Value → Sem Value} {g : Int → Int → Bool}
    (rule : ∀ (i j : Int) (t u : Tok) (s : Shared) (Q : Value → Shared → Prop) (E : Value → Shared → Prop), Q (.bool (g i j)) s → wpAny (model X.prog X.w) X.A (f (.int i t) (.int j u)) Q E s) :
    OpR X f (rI0 fun i j => .bl (g i j)) := by
  intro pins s σ H x y v u Q I rx ry h
  obtain ⟨i, j, rfl, rfl, q⟩ := h
  obtain ⟨t, rfl⟩ := rx
  obtain ⟨t', rfl⟩ := ry
  exact rule i j t t' s _ _ ⟨.bl (g i j), H, I, rfl, q⟩
noncomputable def CDiv (i j : Int) : Prop := 0 < j ∧ j < 1073741824
noncomputable def CPow (i j : Int) : Prop := 0 ≤ j ∧ j ≤ 1000000 ∧ i.natAbs < 2 ^ 64
noncomputable def CMul (i j : Int) : Prop := (-(2 ^ 64) < i ∧ i < 2 ^ 64) ∨ (-(2 ^ 64) < j ∧ j < 2 ^ 64)
theorem CMul.ok {i j : Int} (h : CMul i j) : IntMulOk i j := by
  rcases h with ⟨h1, h2⟩ | ⟨h1, h2⟩
  · exact .of_left (intBits_le_64 h1 h2)
  · exact .of_right (intBits_le_64 h1 h2)
theorem op_add : OpR X (binaryOp .Add) (rI0 fun i j => .int (i + j)) := opI0 fun _ _ _ _ _ _ _ q => add_int q
theorem op_sub : OpR X (binaryOp .Sub) (rI0 fun i j => .int (i - j)) := opI0 fun _ _ _ _ _ _ _ q => sub_int q
theorem op_fdiv : OpR X (binaryOp .FloorDiv) (rI CDiv fun i j => .int (i / j)) := opI fun i j _ _ _ _ _ hc q => by
  have h1 : (0 : Int) < j := hc.1
  have h2 : j < 1073741824 := hc.2
  exact floordiv_int (by omega) (by rw [Int.fdiv_eq_ediv_of_nonneg i (by omega)]; exact q) (.inl (PyProof.noPylong_small (by omega)))
theorem op_mod : OpR X (binaryOp .Mod) (rI (fun _ j => 0 < j) fun i j => .int (i % j)) := opI fun i j _ _ _ _ _ hc q => by
  have h1 : (0 : Int) < j := hc
  exact mod_int' (by omega) (by rw [Int.fmod_eq_emod_of_nonneg i (by omega)]; exact q)
theorem op_pow : OpR X (binaryOp .Pow) (rI CPow fun i j => .int (i ^ j.toNat)) := opI fun _ _ _ _ _ _ _ hc q => pow_int_small hc.1 hc.2.1 hc.2.2 q
theorem iop_add : OpR X (inplaceOp .Add) (rI0 fun i j => .int (i + j)) := opI0 fun _ _ _ _ _ _ _ q => iadd_int q
end
noncomputable def scal : V → V → Bool
  | .non, .non => true | .non, .int _ => true | .int _, .non => true | .non, .bl _ => true | .bl _, .non => true | .non, .str _ => true | .str _, .non => true
  | .int _, .int _ => true | .bl _, .bl _ => true | .str _, .str _ => true | .byt _, .byt _ => true
  | .int _, .str _ => true | .str _, .int _ => true | .bl _, .str _ => true | .str _, .bl _ => true
  | _, _ => false
noncomputable def rEq : R2 := fun x y H Q => scal x y = true ∧ Q (.bl (decide (x = y))) H
noncomputable def rNe : R2 := fun x y H Q => scal x y = true ∧ Q (.bl (!decide (x = y))) H
theorem dec_int {i j : Int} : decide (V.int i = V.int j) = (i == j) := by
  rw [Bool.eq_iff_iff]
  simp
theorem dec_bl {i j : Bool} : decide (V.bl i = V.bl j) = (i == j) := by
  rw [Bool.eq_iff_iff]
  simp
theorem dec_str {i j : Str} : decide (V.str i = V.str j) = (i == j) := by
  rw [Bool.eq_iff_iff]
  simp
theorem dec_byt {i j : Array UInt8} : decide (V.byt i = V.byt j) = (i.toList == j.toList) := by
  rw [Bool.eq_iff_iff]
  cases i
  cases j
  simp
section
variable {X : Cx} {a b c : Expr} {ta tb tc : TE} {pos : Pos}
theorem fin_bl {pins : List (Addr × Obj)} {σ : St} {H : Hp} {s : Shared} {Q : VK} {k k' : Bool} (I : Inv X pins σ H s) (q : Q (.bl k) H) (e : k = k') : EP X pins σ Q (.bool k') s := by
  subst e
  exact ⟨.bl k, H, I, rfl, q⟩
theorem op_eq : OpR X (compareOp .Eq) rEq := by
  intro pins s σ H x y v u Q I rx ry h
  obtain ⟨hs, q⟩ := h
  cases x with
  | non =>
    cases rx
    cases y with
    | non => cases ry; exact PySem.EqNone.eq_none_none (fin_bl I q (by simp))
    | bl j => cases ry; exact PySem.EqNone.eq_none_bool (fin_bl I q (by simp))
    | int j => obtain ⟨t', rfl⟩ := ry; exact PySem.EqNone.eq_none_int (fin_bl I q (by simp))
    | str j => obtain ⟨t', rfl⟩ := ry; exact PySem.EqNone.eq_none_str (fin_bl I q (by simp))
    | _ => exact absurd (show false = true from hs) Bool.false_ne_true
  | bl i =>
    cases rx
    cases y with
    | non => cases ry; exact PySem.EqNone.eq_bool_none (fin_bl I q (by simp))
    | bl j => cases ry; exact eq_bool (fin_bl I q dec_bl)
    | str j => obtain ⟨t', rfl⟩ := ry; exact PySem.EqMixed.eq_bool_str (fin_bl I q (by simp))
    | _ => exact absurd (show false = true from hs) Bool.false_ne_true
  | int i =>
    obtain ⟨t, rfl⟩ := rx
    cases y with
    | non => cases ry; exact PySem.EqNone.eq_int_none (fin_bl I q (by simp))
    | int j => obtain ⟨t', rfl⟩ := ry; exact eq_int (fin_bl I q dec_int)
    | str j => obtain ⟨t', rfl⟩ := ry; exact PySem.EqMixed.eq_int_str (fin_bl I q (by simp))
    | _ => exact absurd (show false = true from hs) Bool.false_ne_true
  | str i =>
    obtain ⟨t, rfl⟩ := rx
    cases y with
    | non => cases ry; exact PySem.EqNone.eq_str_none (fin_bl I q (by simp))
    | bl j => cases ry; exact PySem.EqMixed.eq_str_bool (fin_bl I q (by simp))
    | int j => obtain ⟨t', rfl⟩ := ry; exact PySem.EqMixed.eq_str_int (fin_bl I q (by simp))
    | str j => obtain ⟨t', rfl⟩ := ry; exact eq_str (fin_bl I q dec_str)
    | _ => exact absurd (show false = true from hs) Bool.false_ne_true
  | byt i =>
    obtain ⟨t, rfl⟩ := rx
    cases y with
    | byt j => obtain ⟨t', rfl⟩ := ry; exact PySem.W.eq_bytes (fin_bl I q dec_byt)
    | _ => exact absurd (show false = true from hs) Bool.false_ne_true
  | _ => cases y <;> exact absurd (show false = true from hs) Bool.false_ne_true
theorem op_ne : OpR X (compareOp .NotEq) rNe := by
  intro pins s σ H x y v u Q I rx ry h
  obtain ⟨hs, q⟩ := h
  cases x with
  | non =>
    cases rx
    cases y with
    | non => cases ry; exact PySem.EqNone.ne_none_none (fin_bl I q (by simp))
    | bl j => cases ry; exact PySem.EqNone.ne_none_bool (fin_bl I q (by simp))
    | int j => obtain ⟨t', rfl⟩ := ry; exact PySem.EqNone.ne_none_int (fin_bl I q (by simp))
    | str j => obtain ⟨t', rfl⟩ := ry; exact PySem.EqNone.ne_none_str (fin_bl I q (by simp))
    | _ => exact absurd (show false = true from hs) Bool.false_ne_true
  | bl i =>
    cases rx
    cases y with
    | non => cases ry; exact PySem.EqNone.ne_bool_none (fin_bl I q (by simp))
    | bl j => cases ry; exact ne_bool (fin_bl I q (congrArg not dec_bl))
    | str j => obtain ⟨t', rfl⟩ := ry; exact PySem.EqMixed.ne_bool_str (fin_bl I q (by simp))
    | _ => exact absurd (show false = true from hs) Bool.false_ne_true
  | int i =>
    obtain ⟨t, rfl⟩ := rx
    cases y with
    | non => cases ry; exact PySem.EqNone.ne_int_none (fin_bl I q (by simp))
    | int j => obtain ⟨t', rfl⟩ := ry; exact ne_int (fin_bl I q (congrArg not dec_int))
    | str j => obtain ⟨t', rfl⟩ := ry; exact PySem.EqMixed.ne_int_str (fin_bl I q (by simp))
    | _ => exact absurd (show false = true from hs) Bool.false_ne_true
  | str i =>
    obtain ⟨t, rfl⟩ := rx
    cases y with
    | non => cases ry; exact PySem.EqNone.ne_str_none (fin_bl I q (by simp))
    | bl j => cases ry; exact PySem.EqMixed.ne_str_bool (fin_bl I q (by simp))
    | int j => obtain ⟨t', rfl⟩ := ry; exact PySem.EqMixed.ne_str_int (fin_bl I q (by simp))
    | str j => obtain ⟨t', rfl⟩ := ry; exact ne_str (fin_bl I q (congrArg not dec_str))
    | _ => exact absurd (show false = true from hs) Bool.false_ne_true
  | byt i =>
    obtain ⟨t, rfl⟩ := rx
    cases y with
    | byt j => obtain ⟨t', rfl⟩ := ry; exact PySem.W.ne_bytes (fin_bl I q (congrArg not dec_byt))
    | _ => exact absurd (show false = true from hs) Bool.false_ne_true
  | _ => cases y <;> exact absurd (show false = true from hs) Bool.false_ne_true
theorem op_lt : OpR X (compareOp .Lt) (rI0 fun i j => .bl (decide (i < j))) := opB0 fun _ _ _ _ _ _ _ q => lt_int q
theorem op_gt : OpR X (compareOp .Gt) (rI0 fun i j => .bl (decide (j < i))) := opB0 fun _ _ _ _ _ _ _ q => gt_int q
theorem op_ge : OpR X (compareOp .GtE) (rI0 fun i j => .bl (decide (j ≤ i))) := opB0 fun _ _ _ _ _ _ _ q => ge_int q
theorem OpR.or {f : Value → Value → Sem Value} {r r' : R2} (h : OpR X f r) (h' : OpR X f r') : OpR X f (fun x y H Q => r x y H Q ∨ r' x y H Q) := by
  intro pins s σ H x y v u Q I rx ry q
  rcases q with q | q
  · exact h pins s σ H x y v u Q I rx ry q
  · exact h' pins s σ H x y v u Q I rx ry q
theorem nomark (b : Expr) {op : CmpOp} (h : op ≠ .In := by decide) (h2 : op ≠ .NotIn := by decide) : behindInMarks op b = false := by
  have e1 : (op == CmpOp.In) = false := by cases op <;> first | rfl | exact absurd rfl h
  have e2 : (op == CmpOp.NotIn) = false := by cases op <;> first | rfl | exact absurd rfl h2
  cases b <;> simp [behindInMarks, e1, e2]
theorem pe_cmpR {op : CmpOp} {r : R2} (ho : OpR X (compareOp op) r) (ha : PE X a ta) (hb : PE X b tb) (hm : behindInMarks op b = false) : PE X (.Compare a [op] [b] pos) (tOp r ta tb) := by
  intro pins s σ H Q I h
  exact wpAny_Compare1 (binT ha hb I h fun v u s2 x y H2 I2 rx ry q => ho pins s2 σ H2 x y v u Q I2 rx ry q) hm
noncomputable def tTest (t : TE) : TT := fun σ H Q => t σ H fun x H' => ∃ k, x = .bl k ∧ Q k H'
theorem pt_cmpR {op : CmpOp} {r : R2} (ho : OpR X (compareOp op) r) (ha : PE X a ta) (hb : PE X b tb) (hm : behindInMarks op b = false) : PT X (.Compare a [op] [b] pos) (tTest (tOp r ta tb)) := by
  intro pins s σ H Q I h
  refine wpAny_isTrue_Compare1 (thn (ha pins s σ H _ I h) fun v s1 ⟨x, H1, I1, r1, q1⟩ => thn (hb pins s1 σ H1 _ I1 q1) fun u s2 ⟨y, H2, I2, r2, q2⟩ =>
    thn (ho pins s2 σ H2 x y v u _ I2 r1 r2 q2) fun c s3 ⟨z, H3, I3, r3, k, e, q3⟩ => ?_) hm
  subst e
  cases r3
  exact wpAny_truthy_bool ⟨H3, I3, q3⟩
noncomputable def TruV (K : PySem.W.Frag) (x : V) (H : Hp) (k : Bool) : Prop :=
  match x with
  | .non => k = false
  | .bl b => k = b
  | .int i => k = (i != 0)
  | .str y => y.length ≤ sizeLine ∧ k = ((y.length : Int) != 0)
  | .byt y => y.size ≤ sizeLine ∧ k = ((y.size : Int) != 0)
  | .ref p => (∃ xs, SqL K H p xs ∧ k = !xs.isEmpty) ∨ (∃ xs, SqT K H p xs ∧ k = !xs.isEmpty) ∨ ∃ kvs, H p = some (.dK kvs) ∧ k = !kvs.isEmpty
  | _ => False
theorem isEmpty_kv {κ : Type} {kvs : List (κ × V)} {vs : List (κ × Value)} (r : KV kvs vs) : (!vs.isEmpty) = !kvs.isEmpty := by
  cases r <;> rfl
theorem isEmpty_of {xs : List V} {its : List Value} (r : Vals xs its) : (!its.toArray.isEmpty) = !xs.isEmpty := by
  cases r <;> simp
theorem line63 : (sizeLine : Nat) < 2 ^ 63 := by rw [sizeLine_eq]; decide
theorem tru_ok : TruR X (fun x H Q => ∃ k, TruV X.K x H k ∧ Q k H) := by
  intro pins s σ H x v Q I rx h
  obtain ⟨k, e, q⟩ := h
  have hl := line63
  have hs : sizeLine = 16777216 := sizeLine_eq
  cases x with
  | non =>
    cases rx
    have e' : k = false := e
    subst e'
    exact truthy_none ⟨H, I, q⟩
  | bl b =>
    cases rx
    have e' : k = b := e
    subst e'
    exact wpAny_truthy_bool ⟨H, I, q⟩
  | int i =>
    obtain ⟨t, rfl⟩ := rx
    have e' : k = (i != 0) := e
    subst e'
    exact PySem.P.truthy_int ⟨H, I, q⟩
  | str y =>
    obtain ⟨t, rfl⟩ := rx
    obtain ⟨hy, e'⟩ : y.length ≤ sizeLine ∧ k = ((y.length : Int) != 0) := e
    subst e'
    exact PySem.P.truthy_str (by omega) ⟨H, I.tok _, q⟩
  | byt y =>
    obtain ⟨t, rfl⟩ := rx
    obtain ⟨hy, e'⟩ : y.size ≤ sizeLine ∧ k = ((y.size : Int) != 0) := e
    subst e'
    exact PySem.W.truthy_bytes (by omega) ⟨H, I.tok _, q⟩
  | ref p =>
    cases rx
    have e' : (∃ xs, SqL X.K H p xs ∧ k = !xs.isEmpty) ∨ (∃ xs, SqT X.K H p xs ∧ k = !xs.isEmpty) ∨ ∃ kvs, H p = some (.dK kvs) ∧ k = !kvs.isEmpty := e
    rcases e' with ⟨xs, hx, e'⟩ | ⟨xs, hx, e'⟩ | ⟨kvs, hx, e'⟩
    · subst e'
      obtain ⟨its, r, pl, hz⟩ := I.list hx
      have hlen := r.length
      exact wpAny_truthy_list pl.isList (by simp only [List.size_toArray]; omega) ⟨H, I.tok _, by rw [isEmpty_of r]; exact q⟩
    · subst e'
      obtain ⟨its, r, pl, hz⟩ := I.tuple hx
      have hlen := r.length
      exact truthy_tuple pl (by simp only [List.size_toArray]; omega) ⟨H, I.tok _, by rw [isEmpty_of r]; exact q⟩
    · subst e'
      obtain ⟨hz, hS, vs, r, m⟩ : kvs.length ≤ sizeLine ∧ (p == sysModules) = false ∧ ∃ vs, KV kvs vs ∧ s.heap.DictOf (mixKind X.prog X.w) p vs := I.hok p _ hx
      have hlen : kvs.length = vs.length := Paired.length r
      exact wpAny_truthy_dict hS m (by omega) ⟨H, I.tok _, by rw [isEmpty_kv r]; exact q⟩
  | _ => exact (show False from e).elim
theorem op_add_str : OpR X (binaryOp .Add) (fun x y H Q => ∃ i j, x = .str i ∧ y = .str j ∧ i.length + j.length ≤ sizeLine ∧ Q (.str (i ++ j)) H) := by
  intro pins s σ H x y v u Q I rx ry h
  obtain ⟨i, j, rfl, rfl, hz, q⟩ := h
  obtain ⟨t, rfl⟩ := rx
  obtain ⟨t', rfl⟩ := ry
  exact add_str (fun t' tk => ⟨.str (i ++ j), H, I.tok _, ⟨_, rfl⟩, q⟩) hz
theorem iop_add_str : OpR X (inplaceOp .Add) (fun x y H Q => ∃ i j, x = .str i ∧ y = .str j ∧ i.length + j.length ≤ sizeLine ∧ Q (.str (i ++ j)) H) := by
  intro pins s σ H x y v u Q I rx ry h
  obtain ⟨i, j, rfl, rfl, hz, q⟩ := h
  obtain ⟨t, rfl⟩ := rx
  obtain ⟨t', rfl⟩ := ry
  exact iadd_str (fun t' tk => ⟨.str (i ++ j), H, I.tok _, ⟨_, rfl⟩, q⟩) hz
theorem vals1 {x : V} {us : List Value} (r : Vals [x] us) : ∃ u, us = [u] ∧ RelV x u := by
  cases r with
  | cons r1 r2 => cases r2; exact ⟨_, rfl, r1⟩
theorem vals2 {x y : V} {us : List Value} (r : Vals [x, y] us) : ∃ u w', us = [u, w'] ∧ RelV x u ∧ RelV y w' := by
  cases r with
  | cons r1 r2 =>
    cases r2 with
    | cons r3 r4 => cases r4; exact ⟨_, _, rfl, r1, r3⟩
theorem call_min2 (hc : X.calm = true) : CallR X (.builtin "min") (fun xs H Q => ∃ i j, xs = [.int i, .int j] ∧ Q (.int (if j < i then j else i)) H) := by
  intro pins s σ H xs us Q I r h
  obtain ⟨i, j, rfl, q⟩ := h
  obtain ⟨u, w', rfl, ⟨t, rfl⟩, ⟨t', rfl⟩⟩ := vals2 r
  refine min_two_ints (I.ok.hd hc) fun h' tk k => ⟨_, H, I.kept k, ?_, q⟩
  by_cases hj : j < i
  · rw [if_pos hj, if_pos hj]; exact ⟨_, rfl⟩
  · rw [if_neg hj, if_neg hj]; exact ⟨_, rfl⟩
theorem call_int1 : CallR X (.type "int") (fun xs H Q => (∃ i, xs = [.int i] ∧ Q (.int i) H) ∨ ∃ k, xs = [.bl k] ∧ Q (.int (if k then 1 else 0)) H) := by
  intro pins s σ H xs us Q I r h
  rcases h with ⟨i, rfl, q⟩ | ⟨k, rfl, q⟩
  · obtain ⟨u, rfl, t, rfl⟩ := vals1 r
    exact call_int_int ⟨.int i, H, I, ⟨_, rfl⟩, q⟩
  · obtain ⟨u, rfl, r1⟩ := vals1 r
    cases r1
    exact call_int_bool ⟨.int (if k then 1 else 0), H, I.tok _, ⟨_, rfl⟩, q⟩
theorem call_str_int : CallR X (.type "str") (fun xs H Q => ∃ i, xs = [.int i] ∧ i.natAbs.log2 < 1920 ∧ Q (.str (toString i)) H) := by
  intro pins s σ H xs us Q I r h
  obtain ⟨i, rfl, hz, q⟩ := h
  obtain ⟨u, rfl, t, rfl⟩ := vals1 r
  exact PySem.P.str_of_int hz ⟨.str _, H, I.tok _, ⟨_, rfl⟩, q⟩
noncomputable def LenV (K : PySem.W.Frag) (x : V) (H : Hp) (n : Nat) : Prop :=
  match x with
  | .str y => y.length ≤ sizeLine ∧ n = y.length
  | .byt y => y.size ≤ sizeLine ∧ n = y.size
  | .ref p => (∃ xs, SqL K H p xs ∧ n = xs.length) ∨ ∃ xs, SqT K H p xs ∧ n = xs.length
  | _ => False
theorem call_len : CallR X (.builtin "len") (fun xs H Q => ∃ x n, xs = [x] ∧ LenV X.K x H n ∧ Q (.int n) H) := by
  intro pins s σ H xs us Q I r h
  obtain ⟨x, n, rfl, e, q⟩ := h
  obtain ⟨u, rfl, rx⟩ := vals1 r
  have hl := line63
  have hs : sizeLine = 16777216 := sizeLine_eq
  cases x with
  | str y =>
    obtain ⟨t, rfl⟩ := rx
    obtain ⟨hy, e'⟩ : y.length ≤ sizeLine ∧ n = y.length := e
    subst e'
    exact len_str (by omega) ⟨.int _, H, I.tok _, ⟨_, rfl⟩, q⟩
  | byt y =>
    obtain ⟨t, rfl⟩ := rx
    obtain ⟨hy, e'⟩ : y.size ≤ sizeLine ∧ n = y.size := e
    subst e'
    exact PySem.W.len_bytes (by omega) ⟨.int _, H, I.tok _, ⟨_, rfl⟩, q⟩
  | ref p =>
    cases rx
    have e' : (∃ xs, SqL X.K H p xs ∧ n = xs.length) ∨ ∃ xs, SqT X.K H p xs ∧ n = xs.length := e
    rcases e' with ⟨xs, hx, e'⟩ | ⟨xs, hx, e'⟩
    · subst e'
      obtain ⟨its, r', pl, hz⟩ := I.list hx
      have hlen := r'.length
      exact Calls.call_len_list pl.isList (by simp only [List.size_toArray]; omega) ⟨.int xs.length, H, I.tok _, ⟨_, by simp only [List.size_toArray]; rw [hlen]⟩, q⟩
    · subst e'
      obtain ⟨its, r', pl, hz⟩ := I.tuple hx
      have hlen := r'.length
      exact len_tuple pl (by simp only [List.size_toArray]; omega) ⟨.int xs.length, H, I.tok _, ⟨_, by simp only [List.size_toArray]; rw [hlen]⟩, q⟩
  | _ => exact (show False from e).elim
end
end L2
namespace L2
open PySem PySem.Spec PyProof.Rows
structure ObjM (h : Heap) (x dx C : Addr) (mA : Str → Option Value) : Prop where
  obj : h.get? x = some (PySem.W.instObj C dx)
  ns : h.Ns1 dx mA
  ne : dx ≠ x
theorem lookIn_ns {h : Heap} {dx : Addr} {mA : Str → Option Value} (n : h.Ns1 dx mA) : ∃ od, h.get? dx = some od ∧ ∀ name, PySem.W.lookIn name od = some (mA name) := by
  obtain ⟨o, es, ep, ho, hd, hk, _, hm⟩ := n
  refine ⟨o, ho, fun name => ?_⟩
  have e := hm name
  unfold nsFind findBy at e
  rw [← Array.find?_toList] at e
  unfold PySem.W.lookIn
  rw [hd]
  dsimp only
  split
  · rename_i y q
    rw [q] at e
    exact congrArg some e
  · rename_i q
    rw [q] at e
    have a : es.toList.any (·.refKey) = false := by
      rw [List.any_eq_false]
      intro y hy
      obtain ⟨z, t, hkey⟩ := hk y (Array.mem_toList_iff.mp hy)
      simp [DictEntry.refKey, hkey]
    have a' : ¬ es.toList.any (·.refKey) = true := by rw [a]; exact Bool.false_ne_true
    rw [if_neg a']
    exact congrArg some e
theorem ObjM.look {h : Heap} {x dx C : Addr} {mA : Str → Option Value} (I : ObjM h x dx C mA) : ∃ od, PySem.W.InstAt h x (PySem.W.instObj C dx) C (some od) ∧ ∀ name, PySem.W.lookIn name od = some (mA name) :=
  let ⟨od, ho, hl⟩ := lookIn_ns I.ns
  ⟨od, ⟨I.obj, rfl, rfl, ho⟩, hl⟩
section
variable {prog : Program} {w : World} {A : Around} {E : Value → Shared → Prop} {s : Shared} {K : PySem.W.Frag} {x dx C f : Addr} {mA : Str → Option Value} {name : Str} {v : Value}
end
noncomputable def putF (f : Str) (v : V) : List (Str × V) → List (Str × V)
  | [] => [(f, v)]
  | (g, x) :: r => if g = f then (g, v) :: r else (g, x) :: putF f v r
theorem lookup_putF (f g : Str) (v : V) : ∀ fs : List (Str × V), (putF f v fs).lookup g = if g = f then some v else fs.lookup g
  | [] => by
    show List.lookup g [(f, v)] = _
    by_cases h : g = f
    · have hb : (g == f) = true := beq_iff_eq.mpr h
      simp only [List.lookup, hb, if_pos h]
    · have hb : (g == f) = false := beq_eq_false_iff_ne.mpr h
      simp only [List.lookup, hb, if_neg h]
  | (k, x) :: r => by
    have ih := lookup_putF f g v r
    rw [show putF f v ((k, x) :: r) = (if k = f then (k, v) :: r else (k, x) :: putF f v r) from rfl]
    by_cases hk : k = f
    · rw [if_pos hk]
      by_cases h : g = k
      · have hb : (g == k) = true := beq_iff_eq.mpr h
        simp only [List.lookup, hb, if_pos (h.trans hk)]
      · have hb : (g == k) = false := beq_eq_false_iff_ne.mpr h
        simp only [List.lookup, hb, if_neg (fun e : g = f => h (e.trans hk.symm))]
    · rw [if_neg hk]
      by_cases h : g = k
      · have hb : (g == k) = true := beq_iff_eq.mpr h
        simp only [List.lookup, hb, if_neg (fun e : g = f => hk (h.symm.trans e))]
      · have hb : (g == k) = false := beq_eq_false_iff_ne.mpr h
        simp only [List.lookup, hb]
        exact ih
theorem RelO.some_of {v : V} {o : Option Value} (r : RelO (some v) o) : ∃ u, o = some u ∧ RelV v u := by
  cases o with
  | none => exact (show False from r).elim
  | some u => exact ⟨u, rfl, r⟩
theorem RelO.none_of {o : Option Value} (r : RelO none o) : o = none := by
  cases o with
  | none => rfl
  | some u => exact (show False from r).elim
theorem handed_of {v : V} {u : Value} (r : RelV v u) : PySem.W.handedIn u = true := by
  cases v with
  | non => cases (show u = Value.none from r); rfl
  | bl b => cases (show u = Value.bool b from r); rfl
  | int i => obtain ⟨t, e⟩ := (show ∃ t, u = Value.int i t from r); cases e; rfl
  | str x => obtain ⟨t, e⟩ := (show ∃ t, u = Value.str x t from r); cases e; rfl
  | byt b => obtain ⟨t, e⟩ := (show ∃ t, u = Value.bytes b t from r); cases e; rfl
  | flt b => obtain ⟨t, e⟩ := (show ∃ t, u = Value.float b t from r); cases e; rfl
  | ref a => cases (show u = Value.ref a from r); rfl
  | ty n => cases (show u = Value.type n from r); rfl
section
variable {P : Program} {w : World} {H H' : Hp} {h h' : Heap} {a C dx : Addr} {fs fs' : List (Str × V)}
theorem ins_get (hok : HOk P w H h) (e : H a = some (.ins C dx fs)) : ∃ mA, ObjM h a dx C mA ∧ (∀ f, RelO (fs.lookup f) (mA f)) ∧ PySem.Within mA (fs.map (·.1)) ∧ fs.length ≤ 1000 ∧ H dx = some (.own a) := by
  obtain ⟨d, z, ne, ob, mA, n, r, q⟩ := (show ObjOk P w H h a (.ins C dx fs) from hok a _ e)
  exact ⟨mA, ⟨ob, n, ne⟩, r, q, z, d⟩
end
structure Cls (K : PySem.W.Frag) (C : Addr) : Prop where
  pg : PySem.W.plainGet K C Str.empty = true
  hd : PySem.W.hasDictIn K C = true
  po : PySem.W.plainOver K C = true
  sa : PySem.W.findIn K (.ref C) "__setattr__" = some (some (.builtin "object.__setattr__"))
theorem Cls.get {K : PySem.W.Frag} {C : Addr} (c : Cls K C) (f : Str) : PySem.W.plainGet K C f = true := c.pg
noncomputable def NoAttr (K : PySem.W.Frag) (C : Addr) (f : Str) : Prop := PySem.W.findIn K (.ref C) f = some none
section
variable {X : Cx} {pins : List (Addr × Obj)} {σ : St} {H : Hp} {s : Shared} {a C dx : Addr} {fs : List (Str × V)} {f : Str} {v : V} {A : Around} {E : Value → Shared → Prop}
theorem attr_of {prog : Program} {w : World} {env : Env} {e : Expr} {f : Str} {pos : Pos} {s : Shared} {Q : Value → Shared → Prop} (hb : attributeBase e f env (eval e env) = eval e env)
    (h : wpAny (model prog w) A (eval e env) (fun o s₁ => wpAny (model prog w) A (getAttr o f true) Q E s₁) E s) : wpAny (model prog w) A (eval (.Attribute e f pos) env) Q E s :=
  Attribute_any_ h (by rw [arm_eval_Attribute, hb])
end
section
variable {X : Cx} {o e value : Expr} {f : Str} {pos pos' tpos : Pos} {ta tv : TE}
end
section
variable {X : Cx} {pins : List (Addr × Obj)} {σ : St} {H : Hp} {s : Shared} {A : Around} {E : Value → Shared → Prop} {Q : Value → Shared → Prop} {c : Value} {b : Bool}
inductive TyOf (K : PySem.W.Frag) (H : Hp) : V → Value → Prop where
  | non : TyOf K H .non (.type "NoneType")
  | bl (x : Bool) : TyOf K H (.bl x) (.type "bool")
  | int (i : Int) : TyOf K H (.int i) (.type "int")
  | str (x : Str) : TyOf K H (.str x) (.type "str")
  | flt (x : UInt64) : TyOf K H (.flt x) (.type "float")
  | lst {a : Addr} {xs : List V} (e : H a = some (.lst xs)) : TyOf K H (.ref a) (.type "list")
  | frz {a : Addr} {o : Obj} {xs : List V} (e : H a = some (.frz o (.lst xs))) : TyOf K H (.ref a) (.type "list")
  | tup {a : Addr} {xs : List V} (e : H a = some (.tup xs)) : TyOf K H (.ref a) (.type "tuple")
  | dK {a : Addr} {kvs : List (Key × V)} (e : H a = some (.dK kvs)) : TyOf K H (.ref a) (.type "dict")
  | dT {a : Addr} {kvs : List (List Key × V)} (e : H a = some (.dT kvs)) : TyOf K H (.ref a) (.type "dict")
  | ins {a C dx : Addr} {fs : List (Str × V)} (e : H a = some (.ins C dx fs)) (cl : Cls K C) (ha : PySem.W.findIn K (.ref C) "__class__" = some (some (.builtin "object.__class__")))
      (hn : PySem.W.specialIn K (.builtin "object.__class__") "__get__" = some (some (.builtin "getset_descriptor.__get__"))) (htk : PySem.W.takesIn K (.builtin "object.__class__") = some true)
      (hm : PySem.W.mroIn K C (.type "object") = some true) : TyOf K H (.ref a) (.ref C)
theorem isinst_ok {x : V} {u t : Value} (I : Inv X pins σ H s) (rx : RelV x u) (ty : TyOf X.K H x t) (e : PySem.W.kitOne X.K t c = some b) (h : ∀ tk, Q (.bool b) { s with toks := tk }) :
    wpAny (model X.prog X.w) A (call (.builtin "isinstance") [u, c]) Q E s := by
  cases ty with
  | non => cases (show u = Value.none from rx); exact PySem.W.kia_one PySem.W.kitx_none I.kIn True.intro e (fun z => nomatch z) h
  | bl y => cases (show u = Value.bool y from rx); exact PySem.W.kia_one PySem.W.kitx_bool I.kIn True.intro e (fun z => nomatch z) h
  | int i => obtain ⟨t, q⟩ := (show ∃ t, u = Value.int i t from rx); cases q; exact PySem.W.kia_one PySem.W.kitx_int I.kIn True.intro e (fun z => nomatch z) h
  | str y => obtain ⟨t, q⟩ := (show ∃ t, u = Value.str y t from rx); cases q; exact PySem.W.kia_one PySem.W.kitx_str I.kIn True.intro e (fun z => nomatch z) h
  | flt y => obtain ⟨t, q⟩ := (show ∃ t, u = Value.float y t from rx); cases q; exact PySem.W.kia_one PySem.W.kitx_float I.kIn True.intro e (fun z => nomatch z) h
  | @lst a xs ea =>
    cases (show u = Value.ref a from rx)
    obtain ⟨_, _, n, _, h1⟩ := (show ObjOk X.prog X.w H s.heap a (.lst xs) from I.hok a _ ea)
    exact PySem.W.kia_one PySem.W.kitx_list I.kIn ⟨_, h1, rfl⟩ e (fun z => nomatch z) h
  | @frz a ob xs ea =>
    cases (show u = Value.ref a from rx)
    obtain ⟨_, _, _, n, _, h1⟩ := (show ObjOk X.prog X.w H s.heap a (.frz ob (.lst xs)) from I.hok a _ ea)
    exact PySem.W.kia_one PySem.W.kitx_list I.kIn ⟨_, h1, rfl⟩ e (fun z => nomatch z) h
  | @tup a xs ea =>
    cases (show u = Value.ref a from rx)
    obtain ⟨_, _, _, p⟩ := (show ObjOk X.prog X.w H s.heap a (.tup xs) from I.hok a _ ea)
    obtain ⟨o, h1, h2, _⟩ := p
    exact PySem.W.kia_one PySem.W.kitx_tuple I.kIn ⟨o, h1, h2⟩ e (fun z => nomatch z) h
  | @dK a kvs ea =>
    cases (show u = Value.ref a from rx)
    obtain ⟨_, _, vs, _, p⟩ := (show ObjOk X.prog X.w H s.heap a (.dK kvs) from I.hok a _ ea)
    obtain ⟨o, es, ep, h1, h2, _⟩ := p
    exact PySem.W.kia_one PySem.W.kitx_dict I.kIn ⟨o, h1, h2.1⟩ e (fun z => nomatch z) h
  | @dT a kvs ea =>
    cases (show u = Value.ref a from rx)
    obtain ⟨_, _, xs, _, o, es, ep, h1, h2, _⟩ := (show ObjOk X.prog X.w H s.heap a (.dT kvs) from I.hok a _ ea)
    exact PySem.W.kia_one PySem.W.kitx_dict I.kIn ⟨o, h1, h2.1⟩ e (fun z => nomatch z) h
  | @ins a C dx fs ea cl ha hn htk hm =>
    cases (show u = Value.ref a from rx)
    obtain ⟨mA, O, _⟩ := ins_get I.hok ea
    obtain ⟨od, J, _⟩ := O.look
    exact PySem.W.kia_one (PySem.W.kitx_own (cl.get _) cl.hd ha hn htk hm) I.kIn J e (fun z => nomatch z) h
end
end L2
namespace L2
open PySem PySem.Spec PyProof.Rows
structure Room (k : Nat) (A : Around) : Prop where
  hd : A.handled = none
  dp : A.depth + 3 * k + 5 < recursionLimit
  un : A.units + 16 * k + 200 < cLine
theorem Room.mono {j k : Nat} {A : Around} (r : Room k A) (h : j ≤ k) : Room j A := ⟨r.hd, by have := r.dp; omega, by have := r.un; omega⟩
theorem Room.deeper {k : Nat} {A : Around} (r : Room (k + 1) A) (env : Env) : Room k (A.deeper env) :=
  ⟨r.hd, by have := r.dp; show A.depth + 1 + 3 * k + 5 < _; omega, by have := r.un; show A.units + 3 + 16 * k + 200 < _; omega⟩
theorem Room.in1 {k : Nat} {A : Around} (r : Room (k + 1) A) : Room k A.in1 :=
  ⟨r.hd, by have := r.dp; show A.depth + 3 * k + 5 < _; omega, by have := r.un; show A.units + 1 + 16 * k + 200 < _; omega⟩
theorem make_depth {A : Around} {C : Addr} {us : List Value} {kw : List (Str × Value)} : (A.under (.builtin "type.__call__" ⟨.ref C :: us, kw⟩)).depth = A.depth + 1 := by
  first | rfl | simp [Around.under, Code.weight, Code.isCreation, Code.isGuard, Code.isCaller, Code.frames, Code.isFrame, guardIds]
theorem make_units {A : Around} {C : Addr} {us : List Value} {kw : List (Str × Value)} : (A.under (.builtin "type.__call__" ⟨.ref C :: us, kw⟩)).units = A.units + 1 := by
  first | rfl | simp [Around.under, Code.cUnits, Code.frames, Code.isFrame]
theorem Room.make {k : Nat} {A : Around} (r : Room (k + 1) A) (C : Addr) (us : List Value) (kw : List (Str × Value)) : Room k (A.under (.builtin "type.__call__" ⟨.ref C :: us, kw⟩)) :=
  ⟨r.hd, by have := r.dp; rw [make_depth]; omega, by have := r.un; rw [make_units]; omega⟩
theorem Room.depth {k : Nat} {A : Around} (r : Room k A) : A.depth < recursionLimit := by have := r.dp; omega
theorem Room.units {k : Nat} {A : Around} (r : Room k A) : A.units + 64 < cLine := by have := r.un; omega
noncomputable def tNil : TA := fun _ H Q => Q [] H
noncomputable def tCons (ta : TE) (tr : TA) : TA := fun σ H Q => ta σ H fun x H1 => tr σ H1 fun xs H2 => Q (x :: xs) H2
section
variable {X : Cx} {e : Expr} {es : List Expr} {te : TE} {t : TA} {pos : Pos}
theorem pa_nil : PA X [] tNil := fun _ _ _ _ H Q I h => Calls.spliced_nil ⟨[], H, I, .nil, h⟩
theorem pa_cons (ha : PE X e te) (hr : PA X es t) (hs : starEach (e :: es) X.env = (false, eval e X.env) :: starEach es X.env := by rfl) : PA X (e :: es) (tCons te t) := by
  intro pos pins s σ H Q I h
  rw [hs]
  show wpAny _ _ (spliced ((false, eval e X.env) :: backTo pos (starEach es X.env))) _ _ s
  refine Calls.spliced_cons (thn (ha pins s σ H _ I h) fun u s1 ⟨x, H1, I1, r1, q1⟩ => ?_)
  exact thn (hr pos pins s1 σ H1 _ I1 q1) fun us s2 ⟨xs, H2, I2, r2, q2⟩ => ⟨x :: xs, H2, I2, .cons r1 r2, q2⟩
noncomputable def tTup (t : TA) : TE := fun σ H Q => t σ H fun xs H1 => xs.length ≤ sizeLine ∧ ∀ p, H1 p = none → Q (.ref p) (upd H1 p (.tup xs))
noncomputable def tLst (t : TA) : TE := fun σ H Q => t σ H fun xs H1 => xs.length ≤ sizeLine ∧ ∀ p, H1 p = none → Q (.ref p) (upd H1 p (.lst xs))
theorem pe_tup {x1} (h : PA X es t) : PE X (.Tuple es x1 pos) (tTup t) := by
  intro pins s σ H Q I hq
  refine wpAny_Tuple_spliced (thn (h pos pins s σ H _ I hq) fun us s1 ⟨xs, H1, I1, r, z, q⟩ => ⟨by rw [← r.length]; exact z, ?_⟩)
  have hf : H1 s1.heap.objs.size = none := I1.hok.fresh (Nat.le_refl _)
  refine ⟨.ref s1.heap.objs.size, upd H1 s1.heap.objs.size (.tup xs), I1.laid (t' := s1.toks) (fun b u e => Heap.get?_push_of_some _ e) (Nat.le_refl _) ?_, rfl, q _ hf⟩
  exact ⟨z, us, r, ⟨_, Heap.get?_push_size _ rfl, rfl, _, rfl⟩⟩
theorem pe_lst (h : PA X es t) : PE X (.List es pos) (tLst t) := by
  intro pins s σ H Q I hq
  refine wpAny_List_spliced (thn (h pos pins s σ H _ I hq) fun us s1 ⟨xs, H1, I1, r, z, q⟩ => ⟨by rw [← r.length]; exact z, ?_⟩)
  have hf : H1 s1.heap.objs.size = none := I1.hok.fresh (Nat.le_refl _)
  refine ⟨.ref s1.heap.objs.size, upd H1 s1.heap.objs.size (.lst xs), I1.laid (t' := s1.toks) (fun b u e => Heap.get?_push_of_some _ e) (Nat.le_refl _) ?_, rfl, q _ hf⟩
  exact ⟨z, us, 0, r, Heap.get?_push_size _ rfl⟩
end
noncomputable abbrev Sp := List V → Hp → VK → XK → Prop
noncomputable abbrev CXT := List Env → Hp → Shared → XK → Value → Shared → Prop
structure Env0 (P : Program) (w : World) (K : PySem.W.Frag) (mg : Str → Option Value) (base : Heap) (A : Around) (outer : List Env) (s : Shared) (H : Hp) : Prop where
  frames : A.frames = some outer
  mod : Mod K mg base
  bs : ∀ b o, base.get? b = some o → s.heap.get? b = some o ∧ H b = none
  bsz : base.objs.size ≤ s.heap.objs.size
  funs : s.heap.FunFrames base outer
  frf : ∀ b ∈ frs outer, H b = none
  hok : HOk P w H s.heap
  bare : AllBare s.gens
noncomputable def CE (outer : List Env) (P : Program) (w : World) (H : Hp) (s : Shared) (Q : VK) (u : Value) (s' : Shared) : Prop :=
  ∃ v H', s'.os = s.os ∧ AllBare s'.gens ∧ Un (frs outer) [] H H' s.heap s'.heap ∧ HOk P w H' s'.heap ∧ RelV v u ∧ Q v H'
noncomputable def CR (CX : CXT) (outer : List Env) (P : Program) (w : World) (H : Hp) (s : Shared) (Q : VK) (E : XK) (r : Result) (s' : Shared) : Prop :=
  match r with
  | .ok (.ret u) => CE outer P w H s Q u s'
  | .ok _ => False
  | .error e => CX outer H s E e s'
structure FnOk (P : Program) (w : World) (K : PySem.W.Frag) (mg : Str → Option Value) (base : Heap) (CX : CXT) (k : Nat) (f : Addr) (fd : FuncData) (ps : List Str) (sp : Sp) : Prop where
  len : ∀ vs H Q E, sp vs H Q E → vs.length = ps.length
  run : ∀ (A : Around) (outer : List Env) (s : Shared) (H : Hp) (args : Args) (us : List Value) (vs : List V) (Q : VK) (E : XK), Room k A → Env0 P w K mg base A outer s H → BindsTo s fd args (ps.zip us) → Vals vs us → sp vs H Q E →
    codeAny (model P w) A (.call (.ref f) args) (CR CX outer P w H s Q E) s
theorem FnOk.mono {P : Program} {w : World} {K : PySem.W.Frag} {mg : Str → Option Value} {base : Heap} {CX : CXT} {j k : Nat} {f : Addr} {fd : FuncData} {ps : List Str} {sp : Sp} (F : FnOk P w K mg base CX j f fd ps sp) (h : j ≤ k) :
    FnOk P w K mg base CX k f fd ps sp := ⟨F.len, fun A outer s H args us vs Q E hr => F.run A outer s H args us vs Q E (hr.mono h)⟩
theorem FnOk.imp {P : Program} {w : World} {K : PySem.W.Frag} {mg : Str → Option Value} {base : Heap} {CX : CXT} {k : Nat} {f : Addr} {fd : FuncData} {ps : List Str} {sp sp' : Sp} (F : FnOk P w K mg base CX k f fd ps sp)
    (h : ∀ vs H Q E, sp' vs H Q E → sp vs H Q E) : FnOk P w K mg base CX k f fd ps sp' :=
  ⟨fun vs H Q E q => F.len vs H Q E (h _ _ _ _ q), fun A outer s H args us vs Q E hr he hb hv hs => F.run A outer s H args us vs Q E hr he hb hv (h _ _ _ _ hs)⟩
theorem Env0.make {P : Program} {w : World} {K : PySem.W.Frag} {mg : Str → Option Value} {base : Heap} {A : Around} {outer : List Env} {s : Shared} {H : Hp} (e : Env0 P w K mg base A outer s H) (C : Addr) (us : List Value) (kw : List (Str × Value)) :
    Env0 P w K mg base (A.under (.builtin "type.__call__" ⟨.ref C :: us, kw⟩)) outer s H := ⟨by first | exact e.frames | (simpa [Around.under, Code.envs, Code.isFrame, pushEnvs] using e.frames), e.mod, e.bs, e.bsz, e.funs, e.frf, e.hok, e.bare⟩
theorem Env0.in1 {P : Program} {w : World} {K : PySem.W.Frag} {mg : Str → Option Value} {base : Heap} {A : Around} {outer : List Env} {s : Shared} {H : Hp} (e : Env0 P w K mg base A outer s H) :
    Env0 P w K mg base A.in1 outer s H := ⟨e.frames, e.mod, e.bs, e.bsz, e.funs, e.frf, e.hok, e.bare⟩
section
variable {X : Cx} {pins : List (Addr × Obj)} {σ : St} {H : Hp} {s s' : Shared}
theorem Inv.env0 (I : Inv X pins σ H s) : Env0 X.prog X.w X.K X.mg X.base X.A X.stack s H :=
  ⟨I.ok.frames, I.ok.mod, I.bs, Nat.le_trans I.ok.bsz I.sz, I.stack, I.stkFree, I.hok, I.bare⟩
theorem Inv.after {Q : VK} {u : Value} (I : Inv X pins σ H s) (h : CE X.stack X.prog X.w H s Q u s') : EP X pins σ Q u s' := by
  obtain ⟨v, H', os, bare, un, hok, r, q⟩ := h
  obtain ⟨hh, g, d, t, os'⟩ := s'
  obtain rfl : os' = s.os := os
  exact ⟨v, H', I.call (h' := hh) (g' := g) (d' := d) (t' := t) (ch := []) un hok bare (fun b z => absurd z (by simp)), r, q⟩
end
noncomputable def tCall (sp : Sp) (dvs : List V) (E : XK) (t : TA) : TE := fun σ H Q => t σ H fun vs H1 => sp (vs ++ dvs) H1 Q E
noncomputable def Binds (K : PySem.W.Frag) (fd : FuncData) (ps : List Str) (ds : List Value) : Prop :=
  ∀ (s : Shared) (us : List Value), K.In s.heap → (us ++ ds).length = ps.length → BindsTo s fd ⟨us, []⟩ (ps.zip (us ++ ds))
theorem Binds.all {K : PySem.W.Frag} {fd : FuncData} {ps : List Str} (h : ∀ us : List Value, us.length = ps.length → bindArgs fd ⟨us, []⟩ = pure (ps.zip us)) : Binds K fd ps [] := fun s us _ hl => by
  rw [List.append_nil] at hl ⊢
  exact .of_eq (h us hl)
noncomputable def Passes (CX : CXT) (X : Cx) (E : XK) : Prop := ∀ (pins : List (Addr × Obj)) (σ : St) (H : Hp) (s : Shared) (e : Value) (s' : Shared), Inv X pins σ H s → CX X.stack H s E e s' → X.xe e s'
section
variable {X : Cx} {CX : CXT} {k : Nat} {f C : Addr} {fd : FuncData} {ps : List Str} {sp : Sp} {dvs : List V} {ds : List Value} {E : XK} {x m : Str} {p pos apos : Pos} {e o : Expr} {es : List Expr} {ta : TE} {t : TA}
theorem run_fn {pins : List (Addr × Obj)} {σ : St} {H : Hp} {s : Shared} {Q : VK} {us : List Value} {vs : List V} (F : FnOk X.prog X.w X.K X.mg X.base CX k f fd ps sp) (hr : Room k X.A) (hb : Binds X.K fd ps ds) (hd : Vals dvs ds) (hx : Passes CX X E)
    (I : Inv X pins σ H s) (r : Vals vs us) (h : sp (vs ++ dvs) H Q E) : wpAny (model X.prog X.w) X.A (call (.ref f) us) (EP X pins σ Q) X.xe s := by
  have r2 : Vals (vs ++ dvs) (us ++ ds) := r.append hd
  have hl : (us ++ ds).length = ps.length := by rw [← r2.length]; exact F.len _ _ _ _ h
  refine wpAny_call (codeAny_mono (F.run X.A X.stack s H ⟨us, []⟩ (us ++ ds) (vs ++ dvs) Q E hr I.env0 (hb s us I.kIn hl) r2 h) fun r s' hq => ?_)
  cases r with
  | error e => exact hx pins σ H s e s' I hq
  | ok fl =>
    cases fl with
    | ret u => exact I.after hq
    | next => exact False.elim hq
    | brk => exact False.elim hq
    | cont => exact False.elim hq
theorem pe_call (F : FnOk X.prog X.w X.K X.mg X.base CX k f fd ps sp) (hr : Room k X.A) (hg : Gl X x) (hm : X.mg x = some (.ref f)) (hk : PySem.W.keepIn X.K (.ref f) = true) (hb : Binds X.K fd ps ds) (hd : Vals dvs ds) (hx : Passes CX X E)
    (ha : PA X (e :: es) t) (hdb : (x == ("__debug__" : Str)) = false := by decide) (he : starEach (e :: es) X.env = (false, eval e X.env) :: starEach es X.env := by rfl) (hpl : (backTo pos (starEach es X.env)).any (·.1) = false := by rfl) :
    PE X (.Call (.Name x p) (e :: es) [] pos) (tCall sp dvs E t) := by
  intro pins s σ H Q I h
  refine wpAny_Call_Name_kw (ld_glob I hg hm ?_ hdb)
  refine PySem.W.callWith_K (h₀ := X.base) I.ok.mod.kin hk (thn (ha pos pins s σ H _ I h) fun us s1 ⟨vs, H1, I1, r, q⟩ => ⟨I1.kIn, ?_⟩) he hpl
  exact run_fn F hr hb hd hx I1 r q
end
section
variable {X : Cx} {CX : CXT} {k : Nat} {f C : Addr} {fd : FuncData} {ps ks : List Str} {sp : Sp} {E : XK} {x m : Str} {p pos apos kpos : Pos} {e o : Expr} {es : List Expr} {kws : List Keyword} {te ta : TE} {t tk : TA} {nm : Option Str}
variable {g : List Value → List Value → List Value} {gV : List V → List V → List V}
end
structure FnScope (N P : List Str) (sc : Scope) : Prop where
  kind : sc.kind = .function
  co : sc.isCoroutine = false
  gen : sc.isGenerator = false
  nd : N.Nodup
  pre : N.take P.length = P
  par : ∀ x ∈ P, sc.names.lookup x = some .local ∨ sc.names.lookup x = some .cell
  nofree : ∀ y ∈ sc.names, y.2 ≠ .free
theorem bindL_out {kindOf : Str → Option NameKind} {x : Str} : ∀ {binds : List (Str × Value)} {m : Str → Option Value}, (∀ v, (x, v) ∉ binds) → bindL kindOf binds m x = m x
  | [], _, _ => rfl
  | (n, v) :: r, m, h => by
    unfold bindL
    rw [bindL_out fun w hw => h w (List.mem_cons_of_mem _ hw)]
    split
    · have : x ≠ n := by rintro rfl; exact h v List.mem_cons_self
      simp [this]
    · rfl
theorem bindC_out {kindOf : Str → Option NameKind} {x : Str} : ∀ {binds : List (Str × Value)} {m : Str → Option Value}, (∀ v, (x, v) ∉ binds) → bindC kindOf binds m x = m x
  | [], _, _ => rfl
  | (n, v) :: r, m, h => by
    unfold bindC
    rw [bindC_out fun w hw => h w (List.mem_cons_of_mem _ hw)]
    split
    · rfl
    · have : x ≠ n := by rintro rfl; exact h v List.mem_cons_self
      simp [this]
theorem bindL_get {kindOf : Str → Option NameKind} {x : Str} {v : Value} : ∀ {P : List Str} {vs : List Value} {i : Nat} {m : Str → Option Value}, P.Nodup → P[i]? = some x → vs[i]? = some v → kindOf x = some .local →
    bindL kindOf (P.zip vs) m x = some v
  | [], _, _, _, _, h, _, _ => by simp at h
  | _ :: _, [], _, _, _, _, h, _ => by simp at h
  | p :: P, w :: vs, 0, m, nd, h1, h2, hk => by
    simp at h1 h2; subst h1; subst h2
    show bindL kindOf ((p, w) :: P.zip vs) m p = _
    unfold bindL
    rw [bindL_out fun v hv => (List.nodup_cons.mp nd).1 (List.of_mem_zip hv).1, if_pos hk]
    simp
  | p :: P, w :: vs, i + 1, m, nd, h1, h2, hk => by
    show bindL kindOf ((p, w) :: P.zip vs) m x = _
    unfold bindL
    exact bindL_get (i := i) (List.nodup_cons.mp nd).2 (by simpa using h1) (by simpa using h2) hk
theorem bindC_get {kindOf : Str → Option NameKind} {x : Str} {v : Value} : ∀ {P : List Str} {vs : List Value} {i : Nat} {m : Str → Option Value}, P.Nodup → P[i]? = some x → vs[i]? = some v → kindOf x ≠ some .local →
    bindC kindOf (P.zip vs) m x = some v
  | [], _, _, _, _, h, _, _ => by simp at h
  | _ :: _, [], _, _, _, _, h, _ => by simp at h
  | p :: P, w :: vs, 0, m, nd, h1, h2, hk => by
    simp at h1 h2; subst h1; subst h2
    show bindC kindOf ((p, w) :: P.zip vs) m p = _
    unfold bindC
    rw [bindC_out fun v hv => (List.nodup_cons.mp nd).1 (List.of_mem_zip hv).1, if_neg hk]
    simp
  | p :: P, w :: vs, i + 1, m, nd, h1, h2, hk => by
    show bindC kindOf ((p, w) :: P.zip vs) m x = _
    unfold bindC
    exact bindC_get (i := i) (List.nodup_cons.mp nd).2 (by simpa using h1) (by simpa using h2) hk
noncomputable def start (N : List Str) (vs : List V) : St := vs.map some ++ List.replicate (N.length - vs.length) none
noncomputable def cxOf (CX : CXT) (P : Program) (w : World) (K : PySem.W.Frag) (mg : Str → Option Value) (base : Heap) (N : List Str) (qual : Str) (scope : Scope) (f : Addr) (cd : Value) (A : Around) (outer : List Env) (s : Shared) (H : Hp) (E : XK) : Cx where
  prog := P
  w := w
  K := K
  mg := mg
  base := base
  A := A.deeper (envOfC qual scope s.heap.objs.size f cd)
  N := N
  s₀ := s
  H₀ := H
  env := envOfC qual scope s.heap.objs.size f cd
  outer := outer
  stack := envOfC qual scope s.heap.objs.size f cd :: outer
  ex := []
  calm := true
  fn := fun _ => true
  pn := []
  xe := fun e s' => wpAny (model P w) (A.deeper (envOfC qual scope s.heap.objs.size f cd)) (leaving (envOfC qual scope s.heap.objs.size f cd) e) (fun _ s'' => CX outer H s E e s'') (fun e' s'' => CX outer H s E e' s'') s'
theorem cell_has {sc : Scope} {n : Nat} {x : Str} (h : sc.names.lookup x = some .cell) : ∃ c, (cellsFrom n sc.names []).lookup x = some c := by
  have q := PySem.W.cellsFrom_some sc.names n [] (.inl h)
  exact Option.isSome_iff_exists.mp q
theorem inv_start {CX : CXT} {P : Program} {w : World} {K : PySem.W.Frag} {mg : Str → Option Value} {base : Heap} {N ps : List Str} {qual : Str} {scope : Scope} {f : Addr} {cd : Value} {A : Around} {outer : List Env} {s s1 : Shared} {H : Hp} {E : XK} {us : List Value} {vs : List V}
    (S : FnScope N ps scope) (hd : A.handled = none) (e0 : Env0 P w K mg base A outer s H) (hl : vs.length = ps.length) (r : Vals vs us)
    (x : InCallC s s.heap.objs.size (bindL (envOfC qual scope s.heap.objs.size f cd).kindOf (ps.zip us) fun _ => none) (cellsFrom (s.heap.objs.size + 1) scope.names []) (bindC (envOfC qual scope s.heap.objs.size f cd).kindOf (ps.zip us) fun _ => none) s1) :
    Inv (cxOf CX P w K mg base N qual scope f cd A outer s H E) [] (start N vs) H s1 := by
  have hpl : ps.length ≤ N.length := by have := congrArg List.length S.pre; rw [List.length_take] at this; omega
  obtain ⟨h1, tk, rfl, hk⟩ := x.done
  have noA : ∀ b : Addr, b ∉ (cxOf CX P w K mg base N qual scope f cd A outer s H E).ex := fun b z => absurd (show b ∈ ([] : List Addr) from z) (by simp)
  refine ⟨⟨e0.mod, S.kind, rfl, rfl, Nat.le_refl _, fun y z c h1 h2 => ?_, fun y hy => ?_, fun y c _ h => ?_, fun _ => hd, Around.frames_deeper e0.frames, .inr ⟨rfl, rfl⟩, fun b z => absurd z (noA b), e0.bs, e0.bsz, fun b _ _ => noA b, fun b z => absurd z (noA b), e0.funs, e0.frf⟩,
    rfl, e0.bare, Un.kept hk, ⟨_, x.toInCall.ns, fun i y v h1 h2 h3 => ?_⟩, fun y c h => ⟨_, x.cell y c h⟩, e0.hok.fresh (Nat.le_refl _), fun y c h => ?_, fun p hp => absurd (show p ∈ ([] : List (Addr × Obj)) from hp) (by simp), e0.hok.kept hk, ?_⟩
  · exact name_of_addr x.apart (PySem.mem_of_lookup h1) (PySem.mem_of_lookup h2)
  · have hy : scope.names.lookup y = some .cell ∨ scope.names.lookup y = some .free := hy
    rcases hy with hy | hy
    · exact cell_has hy
    · exact absurd rfl (S.nofree _ (PySem.mem_of_lookup hy))
  · exact Nat.le_of_lt (x.above y c (PySem.mem_of_lookup h))
  · have hi : i < vs.length := by
      unfold start at h2
      by_cases hi : i < vs.length
      · exact hi
      · rw [List.getElem?_append_right (by simpa using hi)] at h2
        rw [List.getElem?_replicate] at h2
        split at h2 <;> cases h2
    have ha : vs[i]? = some v := by
      unfold start at h2
      rw [List.getElem?_append_left (by simpa using hi), List.getElem?_map] at h2
      cases e : vs[i]? with
      | none => rw [e] at h2; cases h2
      | some a => rw [e] at h2; cases h2; rfl
    obtain ⟨u, hu, rv⟩ := r.get ha
    have hp : ps[i]? = some y := by
      rw [← S.pre, List.getElem?_take_of_lt (by omega)]; exact h1
    have ndP : ps.Nodup := by rw [← S.pre]; exact S.nd.sublist (List.take_sublist _ _)
    refine ⟨u, rv, ?_⟩
    rcases S.par y (List.mem_of_getElem? hp) with k | k
    · exact .inl ⟨k, bindL_get ndP hp hu k⟩
    · obtain ⟨c, e⟩ := cell_has (n := s.heap.objs.size + 1) k
      refine .inr ⟨.inl k, c, e, ?_⟩
      have q := x.cell y c e
      rw [bindC_get ndP hp hu (by show scope.names.lookup y ≠ _; rw [k]; decide)] at q
      exact q
  · exact e0.hok.fresh (Nat.le_of_lt (x.above y c (PySem.mem_of_lookup h)))
  · unfold start
    show _ = N.length
    rw [List.length_append, List.length_map, List.length_replicate]
    omega
theorem fn_of {CX : CXT} {P : Program} {w : World} {K : PySem.W.Frag} {mg : Str → Option Value} {base : Heap} {k : Nat} {f : Addr} {name qual : Str} {params : Arguments} {body : List Stmt} {scope : Scope} {dV kV doc pm cdv ct oc : Value} {an od : Option Addr}
    {osl : Array (Option Value)} {N ps : List Str} {sp : Sp} (lk : K.lookup f = some ⟨oc, od, .func (PySem.W.fnOf name qual params body scope dV kV doc pm an cdv ct), osl⟩) (hcd : PySem.W.codeIn K cdv qual = true) (S : FnScope N ps scope)
    (len : ∀ vs H Q E, sp vs H Q E → vs.length = ps.length)
    (hbody : ∀ (A : Around) (outer : List Env) (s : Shared) (H : Hp) (vs : List V) (Q : VK) (E : XK), Room k (A.deeper (envOfC qual scope s.heap.objs.size f cdv)) → sp vs H Q E →
      ∃ t, PSs (cxOf CX P w K mg base N qual scope f cdv A outer s H E) body t ∧ t { nx := fun _ H' => Q .non H', rt := Q } (start N vs) H) :
    FnOk P w K mg base CX (k + 1) f (PySem.W.fnOf name qual params body scope dV kV doc pm an cdv ct) ps sp := by
  refine ⟨len, fun A outer s H args us vs Q E hr e0 hb r hsp => ?_⟩
  have hl := len _ _ _ _ hsp
  have KX : K.In s.heap := e0.mod.kin.keeps fun b o e => (e0.bs b o e).1
  have lim : s.heap.NoLimit := e0.mod.nolimit.keeps fun b o e => (e0.bs b o e).1
  have hkind : ∀ y ∈ ps.zip us, scope.names.lookup y.1 = some .local ∨ (scope.names.lookup y.1 = some .cell ∧ ((cellsFrom (s.heap.objs.size + 1) scope.names []).lookup y.1).isSome = true) := fun ⟨n, v⟩ hy => by
    rcases S.par n (List.of_mem_zip hy).1 with q | q
    · exact .inl q
    · exact .inr ⟨q, PySem.W.cellsFrom_some _ _ _ (.inl q)⟩
  refine codeAny_call_function hr.depth (KX _ _ lk) rfl S.co S.gen rfl (PySem.W.codeRec_of KX hcd) (hb _ _ _ _ ?_)
  refine wpAny_newFunctionEnv_cells S.kind hkind fun env he s1 x => ?_
  subst he
  refine ⟨lim.keeps x.toInCall.keep, codeAny_func ?_⟩
  obtain ⟨t, ht, hq⟩ := hbody A outer s H vs Q E (hr.deeper _) hsp
  have I : Inv (cxOf CX P w K mg base N qual scope f cdv A outer s H E) [] (start N vs) H s1 := inv_start S hr.hd e0 hl r x
  refine wpAny_mono (ht [] s1 (start N vs) H _ I hq) (fun fl s' hs => ?_) fun e s' hs => hs
  have fin : ∀ {σ' : St} {H' : Hp} {v : V} {u : Value}, Inv (cxOf CX P w K mg base N qual scope f cdv A outer s H E) [] σ' H' s' → RelV v u → Q v H' → CE outer P w H s Q u s' :=
    fun {σ' H' v u} J rv q => ⟨v, H', J.os, J.bare, J.base, J.hok, rv, q⟩
  cases fl with
  | ret u =>
    obtain ⟨v, σ', H', J, rv, q⟩ := hs
    exact fin J rv q
  | next =>
    obtain ⟨σ', H', J, q⟩ := hs
    exact fin (v := V.non) (u := Value.none) J rfl q
  | brk =>
    obtain ⟨_, _, _, q⟩ := hs
    exact False.elim q
  | cont =>
    obtain ⟨_, _, _, q⟩ := hs
    exact False.elim q
end L2
namespace L2
open PySem PySem.Spec PyProof.Rows
section
variable {X : Cx} {x : Str} {p pos : Pos} {e : Expr} {es : List Expr} {t : TA} {id T : String} {r : List V → Hp → VK → Prop}
noncomputable def tCB (r : List V → Hp → VK → Prop) (t : TA) : TE := fun σ H Q => t σ H fun vs H1 => r vs H1 Q
theorem pe_callB (hc : CallR X (.builtin id) r) (hg : Gl X x) (hm : X.mg x = none) (hv : bootBuiltins x = some (.builtin id)) (ha : PA X (e :: es) t) (hn : x ≠ "__name__" := by decide) (hdb : (x == ("__debug__" : Str)) = false := by decide)
    (he : starEach (e :: es) X.env = (false, eval e X.env) :: starEach es X.env := by rfl) (hpl : (backTo pos (starEach es X.env)).any (·.1) = false := by rfl) : PE X (.Call (.Name x p) (e :: es) [] pos) (tCB r t) := by
  intro pins s σ H Q I h
  refine wpAny_Call_Name_kw (ld_blt I hg hm hv ?_ hn hdb)
  exact PyProof.Rows.callWith_builtin1 (thn (ha pos pins s σ H _ I h) fun us s1 ⟨vs, H1, I1, r1, q1⟩ => hc pins s1 σ H1 vs us Q I1 r1 q1) he hpl
theorem pe_callTy (hc : CallR X (.type T) r) (hg : Gl X x) (hm : X.mg x = none) (hv : bootBuiltins x = some (.type T)) (ha : PA X (e :: es) t) (hn : x ≠ "__name__" := by decide) (hdb : (x == ("__debug__" : Str)) = false := by decide)
    (he : starEach (e :: es) X.env = (false, eval e X.env) :: starEach es X.env := by rfl) (hpl : (backTo pos (starEach es X.env)).any (·.1) = false := by rfl) : PE X (.Call (.Name x p) (e :: es) [] pos) (tCB r t) := by
  intro pins s σ H Q I h
  refine wpAny_Call_Name_kw (ld_blt I hg hm hv ?_ hn hdb)
  exact PyProof.Rows.callWith_type1 (thn (ha pos pins s σ H _ I h) fun us s1 ⟨vs, H1, I1, r1, q1⟩ => hc pins s1 σ H1 vs us Q I1 r1 q1) he hpl
end
end L2
namespace HT
open PySem PyProof.Rows
section
open PySem.SeqAt
open PySem.AutoSeq1 (wpAny_loadPart')
open PySem.MeetsSeq PySem.MeetsSeq2 PySem.MeetsSeq3
end
section
variable {prog : Program} {w : World} {A : Around} {E : Value → Shared → Prop} {s : Shared}
theorem cat_tup {t b : Addr} {vs ws : List Value} {Q : Value → Shared → Prop} (ht : IsTup s.heap t vs.toArray) (hb : IsTup s.heap b ws.toArray) (hv : vs ≠ [])
    (h1 : ws = [] → Q (.ref t) s) (h2 : ws ≠ [] → Q (.ref s.heap.objs.size) { s with heap := s.heap.push { cls := .type "tuple", data := .seq (vs ++ ws).toArray } })
    (hsz : vs.length + ws.length ≤ sizeLine) : wpAny (model prog w) A (binaryOp .Add (.ref t) (.ref b)) Q E s := by
  obtain ⟨⟨cls, dd, data, sl⟩, ho, hc, n, hd⟩ := id ht
  obtain ⟨⟨cls2, dd2, data2, sl2⟩, ho2, hc2, n2, hd2⟩ := id hb
  simp only at hc hd hc2 hd2
  subst hc hd hc2 hd2
  have e : vs.toArray ++ ws.toArray = (vs ++ ws).toArray := by simp
  by_cases hw : ws = []
  · exact concat_meets ⟨_, ho, rfl⟩ ⟨_, ho2, rfl⟩ noFill_tuple_add seq_tuple_add PySem.F.slot_tuple_add PySem.F.entry_tuple_add (PySem.F.args_tuple_add_2 _ _)
      (tuple_addW1 t b vs.toArray ws.toArray n n2 dd dd2 sl sl2 (by simpa using hv) (by simp [hw])) ⟨ho, ho2, h1 hw⟩
  · refine concat_meets ⟨_, ho, rfl⟩ ⟨_, ho2, rfl⟩ noFill_tuple_add seq_tuple_add PySem.F.slot_tuple_add PySem.F.entry_tuple_add (PySem.F.args_tuple_add_2 _ _)
      (tuple_addW2 t b vs.toArray ws.toArray n n2 dd dd2 sl sl2 (by simpa using hv) (by simpa using hw) (by rw [List.size_toArray, List.size_toArray]; exact hsz)) ⟨ho, ho2, ?_⟩
    rw [e]
    exact h2 hw
noncomputable def sIx (n d : Nat) : Option Int → Nat
  | none => d
  | some v => if v < 0 then (v + (n : Int)).toNat else min v.toNat n
theorem sIx_none (n d : Nat) : sIx n d none = d := rfl
end
end HT
namespace L2
open PySem PySem.Spec PyProof.Rows
noncomputable abbrev TO := St → Hp → (Option Int → Hp → Prop) → Prop
noncomputable def PO (X : Cx) (e : Option Expr) (t : TO) : Prop :=
  ∀ (pins : List (Addr × Obj)) (s : Shared) (σ : St) (H : Hp) (Q : Option Int → Hp → Prop), Inv X pins σ H s → t σ H Q →
    wpAny (model X.prog X.w) X.A (evalPart e X.env) (fun u s' => ∃ o H', Inv X pins σ H' s' ∧ IsPart u o ∧ Q o H') X.xe s
noncomputable def tNoPart : TO := fun _ H Q => Q none H
noncomputable def tPart (t : TE) : TO := fun σ H Q => t σ H fun x H1 => ∃ i, x = .int i ∧ Q (some i) H1
theorem intsAre_of {ns : List Int} : ∀ {us : List Value}, Vals (ns.map V.int) us → IntsAre us ns := by
  induction ns with
  | nil => intro us r; rw [List.map_nil] at r; cases r; exact .nil
  | cons n ns ih =>
    intro us r
    rw [List.map_cons] at r
    cases r with
    | cons r1 r2 =>
      obtain ⟨t, e⟩ := r1
      subst e
      exact .cons n t (ih r2)
section
variable {X : Cx} {e : Expr} {te : TE} {lo hi : Option Expr} {tl th : TO} {pos p2 : Pos}
theorem po_none : PO X none tNoPart := by
  intro pins s σ H Q I h
  rw [evalPart_none]
  exact wpAny_pure ⟨none, H, I, .none, h⟩
theorem po_some (h : PE X e te) : PO X (some e) (tPart te) := by
  intro pins s σ H Q I hw
  rw [evalPart_some]
  refine thn (h pins s σ H _ I hw) fun u s1 ⟨x, H1, I1, r1, q1⟩ => ?_
  obtain ⟨i, rfl, q⟩ := q1
  obtain ⟨t, rfl⟩ := r1
  exact ⟨some i, H1, I1, .int i t, q⟩
noncomputable def SlR (X : Cx) (r : V → Option Int → Option Int → Hp → VK → Prop) : Prop :=
  ∀ (pins : List (Addr × Obj)) (s : Shared) (σ : St) (H : Hp) (x : V) (v vl vu : Value) (lo hi : Option Int) (sl : Addr) (Q : VK), Inv X pins σ H s → RelV x v → s.heap.IsSliceOf sl vl vu .none → IsPart vl lo → IsPart vu hi → r x lo hi H Q →
    ∃ T id, typeLookup (.type T) "__getitem__" = pure (some (.builtin id)) ∧ s.TypeIs v T ∧ wpAny (model X.prog X.w) X.A (getItem v (.ref sl)) (EP X pins σ Q) X.xe s
theorem SlR.or {r r' : V → Option Int → Option Int → Hp → VK → Prop} (h : SlR X r) (h' : SlR X r') : SlR X (fun x lo hi H Q => r x lo hi H Q ∨ r' x lo hi H Q) := by
  intro pins s σ H x v vl vu lo hi sl Q I rx hs pl pu q
  rcases q with q | q
  · exact h pins s σ H x v vl vu lo hi sl Q I rx hs pl pu q
  · exact h' pins s σ H x v vl vu lo hi sl Q I rx hs pl pu q
noncomputable def tSl (r : V → Option Int → Option Int → Hp → VK → Prop) (te : TE) (tl th : TO) : TE := fun σ H Q => te σ H fun x H1 => tl σ H1 fun l H2 => th σ H2 fun u H3 => r x l u H3 Q
theorem pe_slice {r : V → Option Int → Option Int → Hp → VK → Prop} (hr : SlR X r) (he : PE X e te) (hl : PO X lo tl) (hu : PO X hi th) : PE X (.Subscript e (.Slice lo hi none p2) pos) (tSl r te tl th) := by
  intro pins s σ H Q I h
  refine Subscript_ (thn (he pins s σ H _ I h) fun v s1 ⟨x, H1, I1, r1, q1⟩ => ?_)
  refine wpAny_Slice (thn (hl pins s1 σ H1 _ I1 q1) fun vl s2 ⟨l, H2, I2, pl, q2⟩ => thn (hu pins s2 σ H2 _ I2 q2) fun vu s3 ⟨u, H3, I3, pu, q3⟩ => ?_)
  rw [evalPart_none]
  refine wpAny_pure ?_
  have I4 : Inv X pins σ H3 { s3 with heap := s3.heap.push { cls := .type "slice", data := .fields #[vl, vu, .none] } } := I3.kept (t' := s3.toks) fun b ob q => Heap.get?_push_of_some _ q
  obtain ⟨T, id, hT, ht, hg⟩ := hr pins { s3 with heap := s3.heap.push { cls := .type "slice", data := .fields #[vl, vu, .none] } } σ H3 x v vl vu l u s3.heap.objs.size Q I4 r1 (Heap.IsSliceOf.new ..) pl pu q3
  show wpAny (model X.prog X.w) X.A (subscriptTail e (.Slice lo hi none p2) v (.ref s3.heap.objs.size)) (EP X pins σ Q) X.xe { s3 with heap := s3.heap.push { cls := .type "slice", data := .fields #[vl, vu, .none] } }
  exact tail_any (ops := [.ref s3.heap.objs.size, v]) ht hT hg (by with_unfolding_all rfl)
noncomputable def cutV (xs : List V) (lo hi : Option Int) : List V := (xs.drop (HT.sIx xs.length 0 lo)).take (HT.sIx xs.length xs.length hi - HT.sIx xs.length 0 lo)
theorem cutV_length (xs : List V) (lo hi : Option Int) : (cutV xs lo hi).length ≤ xs.length := by
  unfold cutV
  rw [List.length_take, List.length_drop]
  omega
noncomputable def rCatT (K : PySem.W.Frag) : R2 := fun x y H Q => ∃ a b xs ys, x = .ref a ∧ y = .ref b ∧ SqT K H a xs ∧ SqT K H b ys ∧ xs ≠ [] ∧ xs.length + ys.length ≤ sizeLine ∧
  (ys = [] → Q (.ref a) H) ∧ (ys ≠ [] → ∀ p, H p = none → Q (.ref p) (upd H p (.tup (xs ++ ys))))
theorem Vals.nil_iff {xs : List V} {us : List Value} (r : Vals xs us) : us = [] ↔ xs = [] := by
  cases r with
  | nil => simp
  | cons _ _ => simp
theorem op_catT : OpR X (binaryOp .Add) (rCatT X.K) := by
  intro pins s σ H x y v u Q I rx ry h
  obtain ⟨a, b, xs, ys, rfl, rfl, ha, hb, hx, hz, q1, q2⟩ := h
  cases rx
  cases ry
  obtain ⟨its, r1, p1, _⟩ := I.tuple ha
  obtain ⟨its2, r2, p2, _⟩ := I.tuple hb
  refine HT.cat_tup p1 p2 (fun z => hx (r1.nil_iff.mp z)) (fun z => ⟨.ref a, H, I, rfl, q1 (r2.nil_iff.mp z)⟩) (fun z => ?_) (by rw [← r1.length, ← r2.length]; exact hz)
  refine ⟨.ref s.heap.objs.size, _, I.laid (t' := s.toks) (o := .tup (xs ++ ys)) (fun b ob q => Heap.get?_push_of_some _ q) (Nat.le_refl _) ?_, rfl, q2 (fun w => z (r2.nil_iff.mpr w)) _ (I.hok.fresh (Nat.le_refl _))⟩
  exact ⟨by rw [List.length_append]; exact hz, _, r1.append r2, IsTup.new _ _⟩
end
end L2
namespace L2
open PySem PySem.Spec PyProof.Rows
noncomputable def ixN (n : Nat) (i : Int) : Option Nat := if 0 ≤ i then (if i < n then some i.toNat else none) else if -(n : Int) ≤ i then some (i + n).toNat else none
noncomputable def atI {α : Type} (xs : List α) (i : Int) : Option α := (ixN xs.length i).bind fun j => xs[j]?
theorem ixN_seq {n : Nat} {i : Int} {j : Nat} (h : ixN n i = some j) : seqIndex? i n = some j ∧ j < n ∧ -(n : Int) ≤ i ∧ i < n := by
  unfold ixN at h
  by_cases h0 : 0 ≤ i
  · rw [if_pos h0] at h
    by_cases h1 : i < n
    · rw [if_pos h1] at h
      have e : i.toNat = j := Option.some.inj h
      exact ⟨by rw [seqIndex_of h0 h1, e], by omega, by omega, h1⟩
    · rw [if_neg h1] at h; cases h
  · rw [if_neg h0] at h
    by_cases h1 : -(n : Int) ≤ i
    · rw [if_pos h1] at h
      have e : (i + n).toNat = j := Option.some.inj h
      exact ⟨by rw [seqIndex_neg (by omega) h1, e], by omega, h1, by omega⟩
    · rw [if_neg h1] at h; cases h
theorem atI_get {α : Type} {xs : List α} {i : Int} {v : α} (h : atI xs i = some v) : ∃ j, seqIndex? i xs.length = some j ∧ xs[j]? = some v ∧ j < xs.length ∧ -(xs.length : Int) ≤ i ∧ i < xs.length := by
  unfold atI at h
  cases e : ixN xs.length i with
  | none => rw [e] at h; cases h
  | some j =>
    rw [e] at h
    obtain ⟨h1, h2, h3, h4⟩ := ixN_seq e
    exact ⟨j, h1, h, h2, h3, h4⟩
theorem atI_nat {α : Type} {xs : List α} {j : Nat} {v : α} (h : xs[j]? = some v) : atI xs (j : Int) = some v := by
  have hj : j < xs.length := (List.getElem?_eq_some_iff.mp h).1
  have e : ixN xs.length (j : Int) = some j := by
    unfold ixN
    rw [if_pos (by omega), if_pos (by omega)]; simp
  unfold atI; rw [e]; exact h
noncomputable def PlainIx (b : Expr) : Prop := ∀ o i, subscripted b false o i = operate [o, i] (getItem o i)
noncomputable def IxR (X : Cx) (r : R2) : Prop :=
  ∀ (value slice : Expr) (pins : List (Addr × Obj)) (s : Shared) (σ : St) (H : Hp) (x y : V) (v u : Value) (Q : VK), Inv X pins σ H s → RelV x v → RelV y u → r x y H Q →
    subscripted slice false v u = operate [v, u] (getItem v u) → wpAny (model X.prog X.w) X.A (subscriptTail value slice v u) (EP X pins σ Q) X.xe s
noncomputable def MtR (X : Cx) (id : String) (r : V → List V → Hp → VK → Prop) : Prop :=
  ∀ (pins : List (Addr × Obj)) (s : Shared) (σ : St) (H : Hp) (x : V) (xs : List V) (v : Value) (us : List Value) (Q : VK), Inv X pins σ H s → RelV x v → Vals xs us → r x xs H Q →
    wpAny (model X.prog X.w) X.A (call (.builtin id) (v :: us)) (EP X pins σ Q) X.xe s
section
variable {X : Cx} {a b : Expr} {ta tb : TE} {pos : Pos}
theorem IxR.or {r r' : R2} (h : IxR X r) (h' : IxR X r') : IxR X (fun x y H Q => r x y H Q ∨ r' x y H Q) := by
  intro value slice pins s σ H x y v u Q I rx ry q hs
  rcases q with q | q
  · exact h value slice pins s σ H x y v u Q I rx ry q hs
  · exact h' value slice pins s σ H x y v u Q I rx ry q hs
theorem MtR.or {id : String} {r r' : V → List V → Hp → VK → Prop} (h : MtR X id r) (h' : MtR X id r') : MtR X id (fun x xs H Q => r x xs H Q ∨ r' x xs H Q) := by
  intro pins s σ H x xs v us Q I rx rs q
  rcases q with q | q
  · exact h pins s σ H x xs v us Q I rx rs q
  · exact h' pins s σ H x xs v us Q I rx rs q
theorem pe_ix {r : R2} (hr : IxR X r) (ha : PE X a ta) (hb : PE X b tb) (hs : PlainIx b) : PE X (.Subscript a b pos) (tOp r ta tb) := by
  intro pins s σ H Q I h
  exact Subscript_ (binT ha hb I h fun v u s2 x y H2 I2 rx ry q => hr a b pins s2 σ H2 x y v u Q I2 rx ry q (hs _ _))
noncomputable def rIxL (K : PySem.W.Frag) : R2 := fun x y H Q => ∃ p xs i v, x = .ref p ∧ y = .int i ∧ SqL K H p xs ∧ atI xs i = some v ∧ Q v H
noncomputable def rIxT (K : PySem.W.Frag) : R2 := fun x y H Q => ∃ p xs i v, x = .ref p ∧ y = .int i ∧ SqT K H p xs ∧ atI xs i = some v ∧ Q v H
noncomputable def rIxS : R2 := fun x y H Q => ∃ z i c, x = .str z ∧ y = .int i ∧ z.length ≤ sizeLine ∧ atI z.cps.toList i = some c ∧ Q (.str ⟨#[c]⟩) H
theorem ix_list : IxR X (rIxL X.K) := by
  intro value slice pins s σ H x y v u Q I rx ry h hs
  obtain ⟨p, xs, i, z, rfl, rfl, hq, he, q⟩ := h
  cases rx
  obtain ⟨t, rfl⟩ := ry
  obtain ⟨its, r, pl, hz⟩ := I.list hq
  obtain ⟨j, h1, h2, h3, h4, h5⟩ := atI_get he
  obtain ⟨w, ew, rw'⟩ := r.get h2
  have hl := r.length
  have hn := line63
  have fin : EP X pins σ Q w s := ⟨z, H, I, rw', q⟩
  by_cases h0 : 0 ≤ i
  · have hj : i.toNat = j := by
      rw [seqIndex_of h0 h5] at h1
      exact Option.some.inj h1
    exact item_listR pl.isList h0 (by omega) (by rw [hj]; simpa using ew) fin hs
  · have hj : (i + (its.toArray.size : Int)).toNat = j := by
      rw [seqIndex_neg (by omega) h4] at h1
      rw [List.size_toArray, ← hl]
      exact Option.some.inj h1
    exact subscriptTail_builtinR (x := w) pl.isList.typeIs slot_list_getitem.lookup
      (wpAny_getItem_list_neg (Q := fun r s' => r = w ∧ EP X pins σ Q r s') pl.isList (by omega) (by rw [List.size_toArray] <;> omega) (by omega) (by rw [hj]; simpa using ew) ⟨rfl, fin⟩) hs
theorem ix_tup : IxR X (rIxT X.K) := by
  intro value slice pins s σ H x y v u Q I rx ry h hs
  obtain ⟨p, xs, i, z, rfl, rfl, hq, he, q⟩ := h
  cases rx
  obtain ⟨t, rfl⟩ := ry
  obtain ⟨its, r, pl, hz⟩ := I.tuple hq
  obtain ⟨j, h1, h2, h3, h4, h5⟩ := atI_get he
  obtain ⟨w, ew, rw'⟩ := r.get h2
  have hl := r.length
  have hn := line63
  have fin : EP X pins σ Q w s := ⟨z, H, I, rw', q⟩
  exact subscriptTail_builtinR (x := w) pl.typeIs slot_tuple_getitem.lookup
    (getItem_tuple (j := j) (Q := fun r s' => r = w ∧ EP X pins σ Q r s') pl (by omega) (by omega) (by rw [List.size_toArray, ← hl]; exact h1) (by simpa using ew) ⟨rfl, fin⟩) hs
theorem ix_str : IxR X rIxS := by
  intro value slice pins s σ H x y v u Q I rx ry h hs
  obtain ⟨z, i, c, rfl, rfl, hz, he, q⟩ := h
  obtain ⟨t, rfl⟩ := rx
  obtain ⟨t', rfl⟩ := ry
  obtain ⟨j, h1, h2, h3, h4, h5⟩ := atI_get he
  have hl : z.cps.toList.length = z.length := by simp [Str.length]
  rw [hl] at h1 h4 h5
  have hn := line63
  exact tail_any (typeIs_str s z t) slot_str_getitem.lookup (getItem_str (c := c) (by
    have e1 : decide (i < -(2 ^ 63 : Int)) = false := decide_eq_false (by omega)
    have e2 : decide (i ≥ 2 ^ 63) = false := decide_eq_false (by omega)
    rw [e1, e2, Bool.or_false]) (by rw [h1]; simpa using h2) ⟨.str ⟨#[c]⟩, H, I.tok _, ⟨_, rfl⟩, q⟩) hs
noncomputable def rIx (K : PySem.W.Frag) : R2 := fun x y H Q => rIxL K x y H Q ∨ rIxT K x y H Q ∨ rIxS x y H Q
theorem ix_seq : IxR X (rIx X.K) := ix_list.or (ix_tup.or ix_str)
theorem Inv.lst {pins : List (Addr × Obj)} {σ : St} {H : Hp} {s : Shared} {p : Addr} {xs : List V} (I : Inv X pins σ H s) (h : H p = some (.lst xs)) :
    ∃ (its : List Value) (n : Nat), Vals xs its ∧ s.heap.get? p = some { cls := .type "list", data := .seq its.toArray n } ∧ xs.length ≤ sizeLine := by
  obtain ⟨z, its, n, r, e⟩ := I.hok p _ h
  exact ⟨its, n, r, e, z⟩
theorem slice_bounds (lo hi : Option Int) (n : Nat) : (sliceBounds lo hi none n).1 = ((HT.sIx n 0 lo : Nat) : Int) ∧ (sliceBounds lo hi none n).2.1 = ((HT.sIx n n hi : Nat) : Int) ∧ (sliceBounds lo hi none n).2.2 = 1 := by
  refine ⟨?_, ?_, rfl⟩
  · cases lo with
    | none => simp [sliceBounds, HT.sIx]
    | some i =>
      simp only [sliceBounds, HT.sIx, Option.getD_none, show (1 : Int) > 0 by decide, if_true]
      by_cases h : i < 0
      · simp only [h, if_true] <;> omega
      · simp only [h, if_false] <;> omega
  · cases hi with
    | none => simp [sliceBounds, HT.sIx]
    | some i =>
      simp only [sliceBounds, HT.sIx, Option.getD_none, show (1 : Int) > 0 by decide, if_true]
      by_cases h : i < 0
      · simp only [h, if_true] <;> omega
      · simp only [h, if_false] <;> omega
theorem slicePick_cut (its : List Value) (lo hi : Option Int) : slicePick its.toArray lo hi none = ((its.drop (HT.sIx its.length 0 lo)).take (HT.sIx its.length its.length hi - HT.sIx its.length 0 lo)).toArray := by
  obtain ⟨h1, h2, h3⟩ := slice_bounds lo hi its.toArray.size
  unfold slicePick
  rw [h1, h2, h3]
  simp only [sliceRange_one, pick_run, List.size_toArray] <;> rfl
noncomputable def rSlL (K : PySem.W.Frag) : V → Option Int → Option Int → Hp → VK → Prop := fun x lo hi H Q => ∃ a xs, x = .ref a ∧ SqL K H a xs ∧ ∀ p, H p = none → Q (.ref p) (upd H p (.lst (cutV xs lo hi)))
theorem sl_list : SlR X (rSlL X.K) := by
  intro pins s σ H x v vl vu lo hi sl Q I rx hs pl pu h
  obtain ⟨a, xs, rfl, hx, q⟩ := h
  cases rx
  obtain ⟨its, r, ht, hz⟩ := I.list hx
  have hlen := r.length
  refine ⟨"list", _, slot_list_getitem.lookup, ht.isList.typeIs, ?_⟩
  refine wpAny_getItem_list_slice ht.isList hs pl pu .none (by simp) ?_ (by rw [List.size_toArray] <;> omega)
  rw [slicePick_cut, ← hlen]
  refine ⟨.ref s.heap.objs.size, _, I.laid (t' := s.toks) (o := .lst (cutV xs lo hi)) (fun b ob q => Heap.get?_push_of_some _ q) (Nat.le_refl _) ?_, rfl, q _ (I.hok.fresh (Nat.le_refl _))⟩
  exact ⟨Nat.le_trans (cutV_length xs lo hi) hz, _, 0, (r.drop (HT.sIx xs.length 0 lo)).take (HT.sIx xs.length xs.length hi - HT.sIx xs.length 0 lo), Heap.get?_push_size _ rfl⟩
noncomputable def flatV : V → Bool
  | .non => true
  | .bl _ => true
  | .int _ => true
  | .str _ => true
  | _ => false
noncomputable def eqV : V → V → Bool
  | .non, .non => true
  | .bl a, .bl b => a == b
  | .bl a, .int b => (if a then 1 else 0) == b
  | .int a, .bl b => a == (if b then 1 else 0)
  | .int a, .int b => a == b
  | .str a, .str b => a == b
  | _, _ => false
theorem eqAt_V {A : Around} {s : Shared} {y x : V} {u v : Value} (ry : RelV y u) (rx : RelV x v) (fy : flatV y = true) (fx : flatV x = true) : SeqAt.EqAt A s u v (eqV y x) := by
  cases y with
  | non =>
    cases ry
    cases x with
    | non => cases rx; exact SeqAt.EqAt.same _
    | bl b => cases rx; exact SeqAt.EqAt.none_bool b
    | int b => obtain ⟨t, rfl⟩ := rx; exact SeqAt.EqAt.none_int b t
    | str b => obtain ⟨t, rfl⟩ := rx; exact SeqAt.EqAt.none_str b t
    | _ => exact absurd (show false = true from fx) Bool.false_ne_true
  | bl a =>
    cases ry
    cases x with
    | non => cases rx; exact SeqAt.EqAt.bool_none a
    | bl b => cases rx; exact SeqAt.EqAt.bool_bool a b
    | int b => obtain ⟨t, rfl⟩ := rx; exact SeqAt.EqAt.bool_int a b t
    | str b => obtain ⟨t, rfl⟩ := rx; exact SeqAt.EqAt.bool_str a b t
    | _ => exact absurd (show false = true from fx) Bool.false_ne_true
  | int a =>
    obtain ⟨t', rfl⟩ := ry
    cases x with
    | non => cases rx; exact SeqAt.EqAt.int_none a t'
    | bl b => cases rx; exact SeqAt.EqAt.int_bool a t' b
    | int b => obtain ⟨t, rfl⟩ := rx; exact SeqAt.EqAt.int_int a t' b t
    | str b => obtain ⟨t, rfl⟩ := rx; exact SeqAt.EqAt.int_str a t' b t
    | _ => exact absurd (show false = true from fx) Bool.false_ne_true
  | str a =>
    obtain ⟨t', rfl⟩ := ry
    cases x with
    | non => cases rx; exact SeqAt.EqAt.str_none a t'
    | bl b => cases rx; exact SeqAt.EqAt.str_bool a t' b
    | int b => obtain ⟨t, rfl⟩ := rx; exact SeqAt.EqAt.str_int a t' b t
    | str b => obtain ⟨t, rfl⟩ := rx; exact SeqAt.EqAt.str_str a t' b t
    | _ => exact absurd (show false = true from fx) Bool.false_ne_true
  | _ => exact absurd (show false = true from fy) Bool.false_ne_true
noncomputable def eqU (x : V) (u : Value) : Bool := match u with
  | .none => eqV .non x
  | .bool b => eqV (.bl b) x
  | .int i _ => eqV (.int i) x
  | .str z _ => eqV (.str z) x
  | _ => false
theorem eqU_of {x y : V} {u : Value} (r : RelV y u) (f : flatV y = true) : eqU x u = eqV y x := by
  cases y with
  | non => cases r; rfl
  | bl b => cases r; rfl
  | int i => obtain ⟨t, rfl⟩ := r; rfl
  | str z => obtain ⟨t, rfl⟩ := r; rfl
  | _ => exact absurd (show false = true from f) Bool.false_ne_true
theorem any_eqU {x : V} : ∀ {xs : List V} {us : List Value}, Vals xs us → xs.all flatV = true → us.any (eqU x) = xs.any fun y => eqV y x
  | _, _, .nil, _ => rfl
  | y :: xs, u :: us, .cons r t, f => by
    rw [List.all_cons, Bool.and_eq_true] at f
    rw [List.any_cons, List.any_cons, eqU_of r f.1, any_eqU t f.2]
theorem mem_eqAt {A : Around} {s : Shared} {x : V} {v : Value} (rx : RelV x v) (fx : flatV x = true) : ∀ {xs : List V} {us : List Value}, Vals xs us → xs.all flatV = true → ∀ u ∈ us, SeqAt.EqAt A s u v (eqU x u)
  | _, _, .nil, _ => fun u hu => by cases hu
  | y :: xs, u :: us, .cons r t, f => fun u' hu => by
    rw [List.all_cons, Bool.and_eq_true] at f
    rcases List.mem_cons.mp hu with rfl | hu
    · rw [eqU_of r f.1]; exact eqAt_V r rx f.1 fx
    · exact mem_eqAt rx fx t f.2 u' hu
noncomputable def inV (x : V) (xs : List V) : Bool := xs.any fun y => eqV y x
noncomputable def rIn (K : PySem.W.Frag) (neg : Bool) : R2 := fun x y H Q => ∃ p xs, y = .ref p ∧ (SqL K H p xs ∨ SqT K H p xs) ∧ flatV x = true ∧ xs.all flatV = true ∧ Q (.bl (if neg then !inV x xs else inV x xs)) H
theorem op_in_seq : OpR X (compareOp .In) (rIn X.K false) := by
  intro pins s σ H x y v u Q I rx ry h
  obtain ⟨p, xs, rfl, hq, fx, fs, q⟩ := h
  cases ry
  rcases hq with hq | hq
  · obtain ⟨its, r, pl, hz⟩ := I.list hq
    refine SeqAt.in_listAt (eqU x) pl.isList (fun w hw => mem_eqAt rx fx r fs w (by simpa using hw)) ⟨.bl _, H, I, rfl, ?_⟩
    rw [show its.toArray.any (eqU x) = its.any (eqU x) by simp, any_eqU r fs]
    exact q
  · obtain ⟨its, r, pl, hz⟩ := I.tuple hq
    refine SeqAt.in_tupleAt (eqU x) pl (fun w hw => mem_eqAt rx fx r fs w (by simpa using hw)) ⟨.bl _, H, I, rfl, ?_⟩
    rw [show its.toArray.any (eqU x) = its.any (eqU x) by simp, any_eqU r fs]
    exact q
theorem CallR.or {f : Value} {r r' : List V → Hp → VK → Prop} (h : CallR X f r) (h' : CallR X f r') : CallR X f (fun xs H Q => r xs H Q ∨ r' xs H Q) := by
  intro pins s σ H xs us Q I rs q
  rcases q with q | q
  · exact h pins s σ H xs us Q I rs q
  · exact h' pins s σ H xs us Q I rs q
theorem call_tuple_of : CallR X (.type "tuple") (fun xs H Q => ∃ p ys, xs = [.ref p] ∧ ((SqL X.K H p ys ∧ ∀ l, H l = none → Q (.ref l) (upd H l (.tup ys))) ∨ (SqT X.K H p ys ∧ Q (.ref p) H))) := by
  intro pins s σ H xs us Q I r h
  obtain ⟨p, ys, rfl, h⟩ := h
  obtain ⟨u, rfl, rx⟩ := vals1 r
  cases rx
  rcases h with ⟨hq, q⟩ | ⟨hq, q⟩
  · obtain ⟨its, r', pl, hz⟩ := I.list hq
    have hlen := r'.length
    refine call_tuple_list pl.isList (fun h' kp => ?_) (by simp only [List.size_toArray] <;> omega)
    have I1 : Inv X pins σ H { s with heap := h' } := I.kept (t' := s.toks) kp
    have I2 : Inv X pins σ (upd H h'.objs.size (.tup ys)) { s with heap := h'.push { cls := .type "tuple", data := .seq its.toArray } } :=
      I1.laid (t' := s.toks) (fun b o e => Heap.get?_push_of_some _ e) (Nat.le_refl _) (show ObjOk X.prog X.w _ _ _ (.tup ys) from ⟨hz, its, r', IsTup.new _ _⟩)
    exact ⟨.ref h'.objs.size, _, I2, rfl, q _ (I1.hok.fresh (Nat.le_refl _))⟩
  · obtain ⟨its, r', pl, hz⟩ := I.tuple hq
    exact call_tuple_same pl ⟨.ref p, H, I, rfl, q⟩
noncomputable def tyV (K : PySem.W.Frag) (T : String) (x : V) (H : Hp) : Prop := match x with
  | .str _ => T = "str"
  | .int _ => T = "int"
  | .ref p => (T = "list" ∧ ∃ xs, SqL K H p xs) ∨ (T = "tuple" ∧ ∃ o, K.lookup p = some o ∧ o.cls = .type "tuple" ∧ o.dict = none) ∨
      (T = "dict" ∧ ((∃ kvs, H p = some (.dK kvs)) ∨ ∃ kvs, H p = some (.dT kvs))) ∨ (T = "set" ∧ ∃ S n, H p = some (.set S n))
  | _ => False
theorem tyV_is {pins : List (Addr × Obj)} {σ : St} {H : Hp} {s : Shared} {T : String} {x : V} {v : Value} (I : Inv X pins σ H s) (r : RelV x v) (ty : tyV X.K T x H) :
    s.TypeIs v T ∧ ∀ a, v = .ref a → ∃ ob, s.heap.get? a = some ob ∧ ob.dict = none := by
  cases x with
  | str z =>
    obtain ⟨t, rfl⟩ := r
    cases (show T = "str" from ty)
    exact ⟨typeIs_str s z t, fun _ e => nomatch e⟩
  | int i =>
    obtain ⟨t, rfl⟩ := r
    cases (show T = "int" from ty)
    exact ⟨typeIs_int s i t, fun _ e => nomatch e⟩
  | ref p =>
    cases r
    rcases ty with ⟨rfl, xs, hq⟩ | ⟨rfl, o, hk, hc, hd⟩ | ⟨rfl, hk⟩ | ⟨rfl, S, n, hk⟩
    · obtain ⟨its, _, pl, _⟩ := I.list hq
      refine ⟨pl.isList.typeIs, fun a e => ?_⟩
      cases e
      obtain ⟨o, n, e, c, hd, _⟩ := pl
      exact ⟨o, e, hd⟩
    · refine ⟨⟨o, I.kIn p o hk, hc⟩, fun a e => ?_⟩
      cases e
      exact ⟨o, I.kIn _ o hk, hd⟩
    · have z : ∃ o, s.heap.get? p = some o ∧ o.ExactDict := by
        rcases hk with ⟨kvs, hk⟩ | ⟨kvs, hk⟩
        · obtain ⟨_, _, _, _, o, _, _, e, ex, _⟩ := I.hok p _ hk
          exact ⟨o, e, ex⟩
        · obtain ⟨_, _, _, _, o, _, _, e, ex, _⟩ := I.hok p _ hk
          exact ⟨o, e, ex⟩
      obtain ⟨o, e, ex⟩ := z
      refine ⟨⟨o, e, ex.1⟩, fun a e2 => ?_⟩
      cases e2
      exact ⟨o, e, ex.2.1⟩
    · obtain ⟨o, _, _, _, e, ex, _⟩ := I.hok p _ hk
      refine ⟨⟨o, e, ex.1⟩, fun a e2 => ?_⟩
      cases e2
      exact ⟨o, e, ex.2.1⟩
  | _ => exact False.elim ty
noncomputable def tBM0 (K : PySem.W.Frag) (T : String) (r : V → List V → Hp → VK → Prop) (to : TE) : TE := fun σ H Q => to σ H fun x H1 => tyV K T x H1 ∧ r x [] H1 Q
noncomputable def tBM (K : PySem.W.Frag) (T : String) (r : V → List V → Hp → VK → Prop) (to : TE) (t : TA) : TE := fun σ H Q => to σ H fun x H1 => tyV K T x H1 ∧ t σ H1 fun xs H2 => r x xs H2 Q
variable {o e : Expr} {es : List Expr} {to : TE} {t : TA} {name : Str} {apos cpos : Pos} {T id : String} {r : V → List V → Hp → VK → Prop}
theorem pe_bm0 (pa : PlainAttrs T) (slot : Slot T name id) (hty : typeOf (.builtin id) = pure (.type "method_descriptor")) (hm : MtR X id r) (ho : PE X o to)
    (hbase : attributeBase o name X.env (eval o X.env) = eval o X.env := by rfl) (hline : (apos.endLine == cpos.line) = true := by rfl) : PE X (.Call (.Attribute o name apos) [] [] cpos) (tBM0 X.K T r to) := by
  intro pins s σ H Q I h
  refine wpAny_Call_method0_late hbase hline (thn (ho pins s σ H _ I h) fun v s1 ⟨x, H1, I1, r1, ty, q1⟩ => ?_)
  obtain ⟨h1, h2⟩ := tyV_is I1 r1 ty
  exact ⟨T, id, pa, slot, hty, h1, h2, Calls.callWith_builtin rfl (PySem.evalArgs_none (hm pins s1 σ H1 x [] v [] Q I1 r1 .nil q1))⟩
theorem pe_bm (pa : PlainAttrs T) (slot : Slot T name id) (hty : typeOf (.builtin id) = pure (.type "method_descriptor")) (hm : MtR X id r) (ho : PE X o to) (ha : PA X (e :: es) t)
    (hbase : attributeBase o name X.env (eval o X.env) = eval o X.env := by rfl)
    (hfew : ((backTo cpos (starEach (e :: es) X.env)).all (fun x => !x.1) && (backToKw cpos (keywordEach [] X.env)).all (fun x => x.1.isSome)
      && decide ((e :: es).length + ([] : List Keyword).length + (if ([] : List Keyword).isEmpty then 0 else 1) < 30)) = true := by rfl)
    (hline : (apos.endLine == cpos.line) = true := by rfl) (hs : starEach (e :: es) X.env = (false, eval e X.env) :: starEach es X.env := by rfl) (hplain : (backTo cpos (starEach es X.env)).any (·.1) = false := by rfl) :
    PE X (.Call (.Attribute o name apos) (e :: es) [] cpos) (tBM X.K T r to t) := by
  intro pins s σ H Q I h
  refine wpAny_Call_method_late hbase hfew hline rfl (thn (ho pins s σ H _ I h) fun v s1 ⟨x, H1, I1, r1, ty, q1⟩ => ?_)
  obtain ⟨h1, h2⟩ := tyV_is I1 r1 ty
  refine ⟨T, id, pa, slot, hty, h1, h2, ?_⟩
  have hA := ha cpos pins s1 σ H1 _ I1 q1
  rw [hs] at hA ⊢
  refine Calls.callWith_builtin (by show (false || (backTo cpos (starEach es X.env)).any (·.1)) = false; rw [hplain] <;> rfl) (Calls.evalArgs_plain ?_)
  exact thn hA fun us s2 ⟨vs, H2, I2, r2, q2⟩ => hm pins s2 σ H2 x vs v us Q I2 r1 r2 q2
end
end L2
namespace L2
open PySem PySem.Spec PyProof.Rows
noncomputable def MtM (X : Cx) (id : String) (r : V → List V → Hp → VK → Prop) : Prop :=
  ∀ (pins : List (Addr × Obj)) (s : Shared) (σ : St) (H : Hp) (x : V) (xs : List V) (v : Value) (us : List Value) (Q : VK), Inv X pins σ H s → RelV x v → Vals xs us → r x xs H Q →
    wpAny (model X.prog X.w) X.A (call (.builtin id) (v :: us)) (EP X pins σ Q) X.xe s
theorem Vals.one : ∀ {x : V} {us : List Value}, Vals [x] us → ∃ u, us = [u] ∧ RelV x u
  | _, _, .cons r .nil => ⟨_, rfl, r⟩
theorem Vals.zero : ∀ {us : List Value}, Vals [] us → us = []
  | _, .nil => rfl
theorem Vals.dropLast {xs : List V} {us : List Value} (h : Vals xs us) : Vals xs.dropLast us.dropLast := by
  induction h with
  | nil => exact .nil
  | cons r t ih =>
    cases t with
    | nil => exact .nil
    | cons q t' => exact .cons r ih
theorem Vals.eraseIdx : ∀ {xs : List V} {us : List Value} (i : Nat), Vals xs us → Vals (xs.eraseIdx i) (us.eraseIdx i)
  | _, _, _, .nil => .nil
  | _, _, 0, .cons _ t => t
  | _, _, i + 1, .cons r t => .cons r (Vals.eraseIdx i t)
theorem Vals.reverse {xs : List V} {us : List Value} (h : Vals xs us) : Vals xs.reverse us.reverse := by
  induction h with
  | nil => exact .nil
  | cons r t ih => rw [List.reverse_cons, List.reverse_cons]; exact Vals.append ih (.cons r .nil)
theorem Vals.rep {xs : List V} {us : List Value} (h : Vals xs us) : ∀ k : Nat, Vals (List.replicate k xs).flatten (List.replicate k us).flatten
  | 0 => .nil
  | k + 1 => by
    rw [List.replicate_succ, List.replicate_succ, List.flatten_cons, List.flatten_cons]
    exact Vals.append h (Vals.rep h k)
theorem erase_last {α : Type} (l : List α) : l.eraseIdx (l.length - 1) = l.dropLast := by
  induction l with
  | nil => rfl
  | cons a r ih =>
    cases r with
    | nil => rfl
    | cons b r =>
      have e : (a :: b :: r).length - 1 = ((b :: r).length - 1) + 1 := by
        have h1 : (a :: b :: r).length = r.length + 2 := rfl
        have h2 : (b :: r).length = r.length + 1 := rfl
        omega
      rw [e, List.eraseIdx_cons_succ, ih]
      all_goals rfl
theorem foldl_rep (its : List Value) : ∀ (k : Nat) (acc : List Value),
    List.foldl (fun x1 x2 => x1 ++ x2) acc.toArray (List.replicate k its.toArray) = (acc ++ (List.replicate k its).flatten).toArray
  | 0, acc => by simp
  | k + 1, acc => by
    have e : acc.toArray ++ its.toArray = (acc ++ its).toArray := by simp
    have e2 : (acc ++ its) ++ (List.replicate k its).flatten = acc ++ (List.replicate (k + 1) its).flatten := by
      rw [List.replicate_succ, List.flatten_cons, List.append_assoc]
    rw [← e2, ← foldl_rep its k (acc ++ its), ← e, List.replicate_succ, List.foldl_cons]
section
variable {X : Cx} {pins : List (Addr × Obj)} {σ : St} {H : Hp} {s : Shared} {l b : Addr} {xs ys zs : List V}
theorem Inv.lset {its its' : List Value} {n : Nat} {f : Array Value → Array Value} {t' : Nat} (I : Inv X pins σ H s) (hH : H l = some (.lst xs))
    (e : s.heap.get? l = some { cls := .type "list", data := .seq its.toArray n }) (hf : f its.toArray = its'.toArray) (hv : Vals ys its') (hz : ys.length ≤ sizeLine) :
    Inv X pins σ (upd H l (.lst ys)) { s with heap := s.heap.update l (Obj.mapSeq f), toks := t' } := by
  have q := PySem.IsL.update e f
  rw [hf] at q
  refine I.write (x := l) (e := l) (by rw [hH]; exact trivial) (.inl rfl) (fun b' u hb hu => (Heap.get?_update_other s.heap (Obj.mapSeq f) (Ne.symm hb)).trans hu) ⟨_, q⟩ ?_
  exact ⟨hz, its', _, hv, q⟩
theorem Inv.lnew {its : List Value} {t' : Nat} (I : Inv X pins σ H s) (hv : Vals ys its) (hz : ys.length ≤ sizeLine) :
    Inv X pins σ (upd H s.heap.objs.size (.lst ys)) { s with heap := s.heap.push { cls := .type "list", data := .seq its.toArray }, toks := t' } :=
  I.laid (fun _ _ q => Heap.get?_push_of_some _ q) (Nat.le_refl _) ⟨hz, its, 0, hv, Heap.get?_push_size _ rfl⟩
theorem Inv.fresh (I : Inv X pins σ H s) : H s.heap.objs.size = none := I.hok.fresh (Nat.le_refl _)
theorem Inv.lstM (I : Inv X pins σ H s) (hH : H l = some (.lst xs)) : xs.length ≤ sizeLine ∧ ∃ (its : List Value) (n : Nat), Vals xs its ∧ xs.length = its.length ∧ s.heap.get? l = some { cls := .type "list", data := .seq its.toArray n } := by
  obtain ⟨z, its, n, r, e⟩ := I.hok l _ hH
  exact ⟨z, its, n, r, r.length, e⟩
theorem notLongL {n : Nat} (h : n ≤ sizeLine) : Builtin.List.listTooLong n = false := by
  unfold Builtin.List.listTooLong
  exact decide_eq_false (by omega)
end
section
variable {X : Cx}
noncomputable def rAppend : V → List V → Hp → VK → Prop := fun x vs H Q => ∃ l xs y, x = .ref l ∧ vs = [y] ∧ H l = some (.lst xs) ∧ xs.length < sizeLine ∧ Q .non (upd H l (.lst (xs ++ [y])))
theorem mt_append : MtM X "list.append" rAppend := by
  intro pins s σ H x vs v us Q I rx rv h
  obtain ⟨l, xs, y, rfl, rfl, hH, hz, q⟩ := h
  cases rx
  obtain ⟨u, rfl, ru⟩ := rv.one
  obtain ⟨z, its, n, r, hl, e⟩ := I.lstM hH
  refine call_meets F.slot_list_append ⟨_, e, rfl⟩ F.entry_list_append (F.args_list_append_2 _ _) (PySem.list_append l its.toArray n u (by rw [List.size_toArray]; omega)) ⟨e, ?_⟩
  refine ⟨.non, _, I.lset (its' := its ++ [u]) hH e (by simp) (r.append (.cons ru .nil)) ?_, rfl, q⟩
  rw [List.length_append, List.length_singleton]
  omega
noncomputable def rExtend : V → List V → Hp → VK → Prop := fun x vs H Q => ∃ l b xs zs, x = .ref l ∧ vs = [.ref b] ∧ H l = some (.lst xs) ∧ H b = some (.lst zs) ∧ xs.length + zs.length ≤ sizeLine ∧ Q .non (upd H l (.lst (xs ++ zs)))
theorem mt_extend : MtM X "list.extend" rExtend := by
  intro pins s σ H x vs v us Q I rx rv h
  obtain ⟨l, b, xs, zs, rfl, rfl, hH, hB, hz, q⟩ := h
  cases rx
  obtain ⟨u, rfl, ru⟩ := rv.one
  cases ru
  obtain ⟨z, its, n, r, hl, e⟩ := I.lstM hH
  obtain ⟨z2, its2, n2, r2, hl2, e2⟩ := I.lstM hB
  have hsz : its.toArray.size + its2.toArray.size ≤ sizeLine := by rw [List.size_toArray, List.size_toArray]; omega
  have hlong : ¬ (!its.toArray.isEmpty && Builtin.List.listTooLong (its.toArray.size + its2.toArray.size)) = true := by
    rw [notLongL hsz, Bool.and_false]
    exact Bool.false_ne_true
  refine call_meets F.slot_list_extend ⟨_, e, rfl⟩ F.entry_list_extend (F.args_list_extend_2 _ _)
    (AutoSeq1.list_extend_list_list_0 l its.toArray n b its2.toArray n2 hlong (by rw [List.size_toArray]; omega) (by omega)) ⟨e, e2, ?_⟩
  refine ⟨.non, _, I.lset (its' := its ++ its2) hH e (by simp) (r.append r2) ?_, rfl, q⟩
  rw [List.length_append]
  omega
noncomputable def rPop : V → List V → Hp → VK → Prop := fun x vs H Q => ∃ l xs y, x = .ref l ∧ vs = [] ∧ H l = some (.lst xs) ∧ xs[xs.length - 1]? = some y ∧ Q y (upd H l (.lst xs.dropLast))
theorem mt_pop : MtM X "list.pop" rPop := by
  intro pins s σ H x vs v us Q I rx rv h
  obtain ⟨l, xs, y, rfl, rfl, hH, hy, q⟩ := h
  cases rx
  have hus := rv.zero
  subst hus
  obtain ⟨z, its, n, r, hl, e⟩ := I.lstM hH
  obtain ⟨u, hu, ru⟩ := r.get hy
  have hy' : its.toArray[its.toArray.size - 1]? = some u := by
    show its.toArray[its.length - 1]? = some u
    rw [← Array.getElem?_toList, ← hl]
    exact hu
  refine call_meets F.slot_list_pop ⟨_, e, rfl⟩ F.entry_list_pop (F.args_list_pop_1 _) (MeetsSeq.list_pop_last l its.toArray n u hy' (by rw [List.size_toArray]; omega)) ⟨e, ?_⟩
  refine ⟨y, _, I.lset (its' := its.dropLast) hH e ?_ r.dropLast ?_, ru, q⟩
  · show its.toArray.eraseIdxIfInBounds (its.toArray.size - 1) = its.dropLast.toArray
    rw [List.size_toArray, List.eraseIdxIfInBounds_toArray, erase_last]
  · rw [List.length_dropLast]
    omega
noncomputable def rReverse : V → List V → Hp → VK → Prop := fun x vs H Q => ∃ l xs, x = .ref l ∧ vs = [] ∧ H l = some (.lst xs) ∧ Q .non (upd H l (.lst xs.reverse))
theorem mt_reverse : MtM X "list.reverse" rReverse := by
  intro pins s σ H x vs v us Q I rx rv h
  obtain ⟨l, xs, rfl, rfl, hH, q⟩ := h
  cases rx
  have hus := rv.zero
  subst hus
  obtain ⟨z, its, n, r, hl, e⟩ := I.lstM hH
  refine call_meets F.slot_list_reverse ⟨_, e, rfl⟩ F.entry_list_reverse (F.args_list_reverse_1 _) (AutoSeq1.list_reverse_list_0 l its.toArray n (by rw [List.size_toArray]; omega)) ⟨e, ?_⟩
  refine ⟨.non, _, I.lset (its' := its.reverse) hH e (by simp) r.reverse ?_, rfl, q⟩
  rw [List.length_reverse]
  omega
noncomputable def rCat : R2 := fun x y H Q => ∃ l b xs zs, x = .ref l ∧ y = .ref b ∧ H l = some (.lst xs) ∧ H b = some (.lst zs) ∧ xs.length + zs.length ≤ sizeLine ∧ ∀ p, H p = none → Q (.ref p) (upd H p (.lst (xs ++ zs)))
theorem op_cat : OpR X (binaryOp .Add) rCat := by
  intro pins s σ H x y v u Q I rx ry h
  obtain ⟨l, b, xs, zs, rfl, rfl, hH, hB, hz, q⟩ := h
  cases rx
  cases ry
  obtain ⟨z, its, n, r, hl, e⟩ := I.lstM hH
  obtain ⟨z2, its2, n2, r2, hl2, e2⟩ := I.lstM hB
  refine PySem.P.add_list e e2 ?_ (by rw [List.size_toArray, List.size_toArray]; omega)
  have ea : its.toArray ++ its2.toArray = (its ++ its2).toArray := by simp
  rw [ea]
  exact ⟨.ref _, _, I.lnew (t' := s.toks) (r.append r2) (by rw [List.length_append]; omega), rfl, q _ I.fresh⟩
noncomputable def rRep : R2 := fun x y H Q => ∃ l k xs, x = .ref l ∧ y = .int k ∧ H l = some (.lst xs) ∧ -(2 ^ 63) ≤ k ∧ k < 2 ^ 63 ∧ xs.length * k.toNat ≤ sizeLine ∧
  ∀ p, H p = none → Q (.ref p) (upd H p (.lst (List.replicate k.toNat xs).flatten))
theorem len_rep {α : Type} (xs : List α) (k : Nat) : (List.replicate k xs).flatten.length = k * xs.length := by
  induction k with
  | zero => simp
  | succ k ih => rw [List.replicate_succ, List.flatten_cons, List.length_append, ih, Nat.succ_mul, Nat.add_comm]
theorem op_rep : OpR X (binaryOp .Mult) rRep := by
  intro pins s σ H x y v u Q I rx ry h
  obtain ⟨l, k, xs, rfl, rfl, hH, h1, h2, hz, q⟩ := h
  cases rx
  obtain ⟨t, rfl⟩ := ry
  obtain ⟨z, its, n, r, hl, e⟩ := I.lstM hH
  have hlen : its.toArray.size * k.toNat ≤ sizeLine := by rw [List.size_toArray, ← hl]; exact hz
  have hcap : ¬ its.toArray.size * k.toNat > (2 ^ 63 - 1) / 8 := by
    have : (sizeLine : Nat) ≤ (2 ^ 63 - 1) / 8 := by decide
    omega
  have hfit : ¬ (!Builtin.List.listFitsIndex k) = true := by
    rw [fitsIndex_both h1 h2]
    exact Bool.false_ne_true
  have hlong : ¬ Builtin.List.listTooLong (its.toArray.size * k.toNat) = true := by
    rw [notLongL hlen]
    exact Bool.false_ne_true
  have hnew : List.foldl (fun x1 x2 => x1 ++ x2) #[] (List.replicate (if its.toArray.isEmpty = true then 0 else k.toNat) its.toArray) = (List.replicate k.toNat its).flatten.toArray := by
    have f0 : ∀ m : Nat, List.foldl (fun x1 x2 => x1 ++ x2) #[] (List.replicate m its.toArray) = (List.replicate m its).flatten.toArray := fun m => by
      have := foldl_rep its m []
      rw [List.nil_append] at this
      exact this
    rw [f0]
    cases its with
    | nil => simp
    | cons a r' => rw [if_neg (by simp)]
  refine wpAny_binaryOp_repeat_ref (T := "list") (U := "int") (by decide) ⟨_, e, rfl⟩ (fun s' => typeIs_int s' k t) noFill_list_mul F.fills_int_mul F.slot_int_rmul repeat_list F.slot_int_index.lookup
    (call_meets F.slot_int_rmul (typeIs_int s k t) F.entry_int_rmul (F.args_int_rmul_2 _ _) (int___rmul___int_list k t l its.toArray n)
      ⟨e, rfl, ⟨_, e, rfl⟩, call_meets F.slot_list_mul ⟨_, e, rfl⟩ F.entry_list_mul (F.args_list_mul_2 _ _) (AutoListH.list___mul___list_int_3 l its.toArray n k t hfit hcap hlong) ⟨e, ?_⟩⟩)
  rw [hnew]
  exact ⟨.ref _, _, I.lnew (t' := s.toks) (r.rep k.toNat) (by rw [len_rep, Nat.mul_comm]; exact hz), rfl, q _ I.fresh⟩
end
section
variable {prog : Program} {w : World} {A : Around} {E : Value → Shared → Prop} {s : Shared}
end
section
variable {X : Cx}
end
end L2
namespace L2
open PySem PySem.Spec PyProof.Rows
section
variable {κ : Type} [DecidableEq κ]
noncomputable def valV (kvs : List (κ × V)) (k : κ) : Option V := (kvs.find? fun kv => decide (kv.1 = k)).map (·.2)
noncomputable def putK (kvs : List (κ × V)) (k : κ) (v : V) : List (κ × V) :=
  if (kvs.any fun kv => decide (kv.1 = k)) = true then kvs.map (fun kv => if kv.1 = k then (kv.1, v) else kv) else kvs ++ [(k, v)]
noncomputable def dropK (kvs : List (κ × V)) (k : κ) : List (κ × V) := kvs.filter fun kv => decide (kv.1 ≠ k)
theorem valV_pos {p : κ × V} {r : List (κ × V)} {k : κ} (e : p.1 = k) : valV (p :: r) k = some p.2 := by simp [valV, List.find?_cons, e]
theorem valV_neg {p : κ × V} {r : List (κ × V)} {k : κ} (e : ¬ p.1 = k) : valV (p :: r) k = valV r k := by simp [valV, List.find?_cons, e]
theorem valV_any (k : κ) : ∀ kvs : List (κ × V), (kvs.any fun kv => decide (kv.1 = k)) = (valV kvs k).isSome
  | [] => rfl
  | p :: r => by
    rw [List.any_cons]
    by_cases e : p.1 = k
    · simp only [valV_pos e, decide_eq_true e, Bool.true_or, Option.isSome_some]
    · rw [valV_neg e, decide_eq_false e, Bool.false_or]; exact valV_any k r
theorem valV_map (k j : κ) (y : V) : ∀ kvs : List (κ × V), valV (kvs.map fun kv => if kv.1 = k then (kv.1, y) else kv) j = (valV kvs j).map fun x => if j = k then y else x
  | [] => rfl
  | p :: r => by
    have ih := valV_map k j y r
    rw [List.map_cons]
    by_cases h : p.1 = k
    · rw [if_pos h]
      by_cases e : p.1 = j
      · rw [valV_pos (p := (p.1, y)) e, valV_pos e, Option.map_some, if_pos (e.symm.trans h)]
      · rw [valV_neg (p := (p.1, y)) e, valV_neg e, ih]
    · rw [if_neg h]
      by_cases e : p.1 = j
      · rw [valV_pos (p := p) e, valV_pos e, Option.map_some, if_neg (fun z => h (e.trans z))]
      · rw [valV_neg (p := p) e, valV_neg e, ih]
theorem valV_snoc (k j : κ) (y : V) : ∀ kvs : List (κ × V), valV kvs k = none → valV (kvs ++ [(k, y)]) j = if j = k then some y else valV kvs j
  | [], _ => by
    by_cases e : k = j
    · rw [if_pos e.symm]; exact valV_pos (p := (k, y)) e
    · rw [if_neg (fun z => e z.symm)]; exact valV_neg (p := (k, y)) e
  | p :: r, hn => by
    rw [List.cons_append]
    have hk : ¬ p.1 = k := fun z => by rw [valV_pos z] at hn; cases hn
    rw [valV_neg hk] at hn
    have ih := valV_snoc k j y r hn
    by_cases e : p.1 = j
    · rw [valV_pos e, valV_pos e, if_neg (fun z => hk (e.trans z))]
    · rw [valV_neg e, valV_neg e, ih]
theorem valV_put (kvs : List (κ × V)) (k j : κ) (y : V) : valV (putK kvs k y) j = if j = k then some y else valV kvs j := by
  unfold putK
  by_cases a : (kvs.any fun kv => decide (kv.1 = k)) = true
  · rw [if_pos a, valV_map]
    rw [valV_any] at a
    by_cases e : j = k
    · obtain ⟨x, hx⟩ := Option.isSome_iff_exists.mp a
      rw [if_pos e, e, hx, Option.map_some, if_pos rfl]
    · rw [if_neg e]
      cases valV kvs j with
      | none => rfl
      | some x => rw [Option.map_some, if_neg e]
  · rw [if_neg a]
    refine valV_snoc k j y kvs ?_
    rw [valV_any] at a
    cases q : valV kvs k with
    | none => rfl
    | some x => rw [q] at a; exact (a rfl).elim
theorem length_putK (kvs : List (κ × V)) (k : κ) (v : V) : (putK kvs k v).length ≤ kvs.length + 1 := by
  unfold putK
  split
  · rw [List.length_map]; omega
  · rw [List.length_append, List.length_cons, List.length_nil]; omega
theorem RelO.isSome_eq {o : Option V} {u : Option Value} (r : RelO o u) : o.isSome = u.isSome := by
  cases o with
  | none => cases u with
    | none => rfl
    | some _ => exact (show False from r).elim
  | some _ => cases u with
    | none => exact (show False from r).elim
    | some _ => rfl
theorem RelO.getD {o : Option V} {u : Option Value} {d : V} {d' : Value} (r : RelO o u) (rd : RelV d d') : RelV (o.getD d) (u.getD d') := by
  cases o with
  | none => cases u with
    | none => exact rd
    | some _ => exact (show False from r).elim
  | some _ => cases u with
    | none => exact (show False from r).elim
    | some _ => exact r
theorem KV.val {kvs : List (κ × V)} {vs : List (κ × Value)} (r : KV kvs vs) (k : κ) : RelO (valV kvs k) (valueAt vs k) := by
  unfold KV at r
  induction r with
  | nil => exact True.intro
  | @cons p q ps qs h t ih =>
    obtain ⟨h1, h2⟩ := h
    by_cases e : p.1 = k
    · have e' : q.1 = k := h1.symm.trans e
      have b : valueAt (q :: qs) k = some q.2 := by simp [valueAt, List.find?_cons, e']
      rw [valV_pos e, b]; exact h2
    · have e' : ¬ q.1 = k := fun z => e (h1.trans z)
      have b : valueAt (q :: qs) k = valueAt qs k := by simp [valueAt, List.find?_cons, e']
      rw [valV_neg e, b]; exact ih
theorem KV.any {kvs : List (κ × V)} {vs : List (κ × Value)} (r : KV kvs vs) (k : κ) : (kvs.any fun kv => decide (kv.1 = k)) = vs.any fun kv => decide (kv.1 = k) := by
  unfold KV at r
  induction r with
  | nil => rfl
  | cons h t ih => rw [List.any_cons, List.any_cons, ih, h.1]
theorem KV.repl {kvs : List (κ × V)} {vs : List (κ × Value)} (r : KV kvs vs) (k : κ) {y : V} {u : Value} (ry : RelV y u) :
    KV (kvs.map fun kv => if kv.1 = k then (kv.1, y) else kv) (vs.map fun kv => if kv.1 = k then (kv.1, u) else kv) := by
  unfold KV at r ⊢
  induction r with
  | nil => exact .nil
  | @cons p q ps qs h t ih =>
    rw [List.map_cons, List.map_cons]
    refine .cons ?_ ih
    obtain ⟨h1, h2⟩ := h
    by_cases e : p.1 = k
    · rw [if_pos e, if_pos (h1.symm.trans e)]; exact ⟨h1, ry⟩
    · rw [if_neg e, if_neg (fun z => e (h1.trans z))]; exact ⟨h1, h2⟩
theorem KV.put {kvs : List (κ × V)} {vs : List (κ × Value)} (r : KV kvs vs) (k : κ) {y : V} {u : Value} (ry : RelV y u) : KV (putK kvs k y) (stored vs k u) := by
  unfold putK stored
  rw [r.any k]
  by_cases e : (vs.any fun kv => decide (kv.1 = k)) = true
  · rw [if_pos e, if_pos e]; exact r.repl k ry
  · rw [if_neg e, if_neg e]; exact Paired.snoc r ⟨rfl, ry⟩
theorem KV.drop {kvs : List (κ × V)} {vs : List (κ × Value)} (r : KV kvs vs) (k : κ) : KV (dropK kvs k) (without vs k) := by
  unfold KV at r ⊢
  unfold dropK without
  induction r with
  | nil => exact .nil
  | @cons p q ps qs h t ih =>
    obtain ⟨h1, h2⟩ := h
    rw [List.filter_cons, List.filter_cons]
    by_cases e : p.1 = k
    · have a : ¬ decide (p.1 ≠ k) = true := by simp [e]
      have b : ¬ decide (q.1 ≠ k) = true := by simp [h1.symm.trans e]
      rw [if_neg a, if_neg b]; exact ih
    · have e' : ¬ q.1 = k := fun z => e (h1.trans z)
      have a : decide (p.1 ≠ k) = true := by simp [e]
      have b : decide (q.1 ≠ k) = true := by simp [e']
      rw [if_pos a, if_pos b]; exact .cons ⟨h1, h2⟩ ih
theorem KV.keys {kvs : List (κ × V)} {vs : List (κ × Value)} (r : KV kvs vs) : kvs.map (·.1) = vs.map (·.1) := by
  unfold KV at r
  induction r with
  | nil => rfl
  | cons h t ih => rw [List.map_cons, List.map_cons, ih, h.1]
theorem KV.length {kvs : List (κ × V)} {vs : List (κ × Value)} (r : KV kvs vs) : kvs.length = vs.length := Paired.length r
end
theorem kV_is {P : Program} {w : World} {k : Key} {u : Value} (r : RelV (kV k) u) : (mixKind P w).is k u = true := by
  cases k with
  | inl i => obtain ⟨t, e⟩ := (show ∃ t, u = Value.int i t from r); subst e; exact mixKind_int P w i t
  | inr x => obtain ⟨t, e⟩ := (show ∃ t, u = Value.str x t from r); subst e; exact mixKind_str P w x t
theorem items_are {P : Program} {w : World} : ∀ {ks : List Key} {us : List Value}, Vals (ks.map kV) us → ItemsAre (mixKind P w) ks us
  | [], _, r => by rw [List.map_nil] at r; cases r; exact .nil
  | k :: ks, _, r => by
    rw [List.map_cons] at r
    cases r with
    | cons h t => exact .cons (kV_is h) (items_are t)
noncomputable abbrev KT (H : Hp) : List (List Key × V) → List (List Key × Addr × Value) → Prop := Paired fun p q => p.1 = q.1 ∧ H q.2.1 = some (.tup (p.1.map kV)) ∧ RelV p.2 q.2.2
theorem KT.val {H : Hp} {kvs : List (List Key × V)} {xs : List (List Key × Addr × Value)} (r : KT H kvs xs) (k : List Key) : RelO (valV kvs k) ((atKey xs k).map (·.2)) := by
  induction r with
  | nil => exact True.intro
  | @cons p q ps qs h t ih =>
    obtain ⟨h1, _, h2⟩ := h
    by_cases e : p.1 = k
    · have e' : q.1 = k := h1.symm.trans e
      have b : atKey (q :: qs) k = some q.2 := by simp [atKey, List.find?_cons, e']
      rw [valV_pos e, b]; exact h2
    · have e' : ¬ q.1 = k := fun z => e (h1.trans z)
      have b : atKey (q :: qs) k = atKey qs k := by simp [atKey, List.find?_cons, e']
      rw [valV_neg e, b]; exact ih
theorem KT.repl {H : Hp} {kvs : List (List Key × V)} {xs : List (List Key × Addr × Value)} (r : KT H kvs xs) (k : List Key) {y : V} {u : Value} (ry : RelV y u) :
    KT H (kvs.map fun kv => if kv.1 = k then (kv.1, y) else kv) (xs.map (putAt k u)) := by
  induction r with
  | nil => exact .nil
  | @cons p q ps qs h t ih =>
    rw [List.map_cons, List.map_cons]
    refine .cons ?_ ih
    obtain ⟨h1, h2, h3⟩ := h
    unfold putAt
    by_cases e : p.1 = k
    · rw [if_pos e, if_pos (h1.symm.trans e)]; exact ⟨h1, h2, ry⟩
    · rw [if_neg e, if_neg (fun z => e (h1.trans z))]; exact ⟨h1, h2, h3⟩
theorem KT.put {H : Hp} {kvs : List (List Key × V)} {xs : List (List Key × Addr × Value)} (r : KT H kvs xs) (k : List Key) {b : Addr} {y : V} {u : Value} (hb : H b = some (.tup (k.map kV))) (ry : RelV y u) :
    KT H (putK kvs k y) (storedH xs k b u) := by
  have e : (kvs.any fun kv => decide (kv.1 = k)) = (atKey xs k).isSome := by
    rw [valV_any, (r.val k).isSome_eq, Option.isSome_map]
  unfold putK storedH
  rw [e]
  by_cases q : (atKey xs k).isSome = true
  · rw [if_pos q, if_pos q]; exact r.repl k ry
  · rw [if_neg q, if_neg q]; exact Paired.snoc r ⟨rfl, hb, ry⟩
theorem KT.keeps {H H' : Hp} {kvs : List (List Key × V)} {xs : List (List Key × Addr × Value)} (r : KT H kvs xs) (ht : ∀ b ys, H b = some (.tup ys) → H' b = some (.tup ys)) : KT H' kvs xs :=
  Paired.mapP r fun _ _ z => ⟨z.1, ht _ _ z.2.1, z.2.2⟩
section
variable {P : Program} {w : World} {H : Hp} {h : Heap} {a : Addr}
theorem rd_of {u : HO} (ok : HOk P w H h) (e : Rd H a u) : ObjOk P w H h a u := e.ok ok
theorem dk_rd {kvs : List (Key × V)} (ok : HOk P w H h) (e : Rd H a (.dK kvs)) : kvs.length ≤ sizeLine ∧ (a == sysModules) = false ∧ ∃ vs, KV kvs vs ∧ h.DictOf (mixKind P w) a vs :=
  show ObjOk P w H h a (.dK kvs) from rd_of ok e
theorem dk_of {kvs : List (Key × V)} (ok : HOk P w H h) (e : H a = some (.dK kvs)) : kvs.length ≤ sizeLine ∧ (a == sysModules) = false ∧ ∃ vs, KV kvs vs ∧ h.DictOf (mixKind P w) a vs := dk_rd ok (.inl e)
theorem key_of {ks : List Key} (ok : HOk P w H h) (e : H a = some (.tup (ks.map kV))) : (tupleKind (mixKind P w)).is h ks a := by
  obtain ⟨_, its, r, o, h1, h2, n, h3⟩ := (show ObjOk P w H h a (.tup (ks.map kV)) from ok a _ e)
  exact ⟨o, its.toArray, n, h1, h2, h3, by simpa using items_are r⟩
theorem dt_rd {kvs : List (List Key × V)} (ok : HOk P w H h) (e : Rd H a (.dT kvs)) : kvs.length ≤ sizeLine ∧ (a == sysModules) = false ∧
    ∃ xs, KT H kvs xs ∧ h.DictOfH (tupleKind (mixKind P w)) a xs := by
  obtain ⟨z, y, xs, r, o, es, ep, h1, h2, h3, h4, h5⟩ := (show ObjOk P w H h a (.dT kvs) from rd_of ok e)
  refine ⟨z, y, xs, r, o, es, ep, h1, h2, h3, h4, fun x hx => ?_, h5⟩
  have all : ∀ {l : List (List Key × V)} {m : List (List Key × Addr × Value)}, KT H l m → ∀ x ∈ m, (tupleKind (mixKind P w)).is h x.1 x.2.1 := by
    intro l m q
    induction q with
    | nil => intro x hx; exact nomatch hx
    | @cons p q ps qs hq t ih =>
      intro x hx
      rcases List.mem_cons.mp hx with e | hx
      · subst e
        exact key_of ok (by rw [← hq.1]; exact hq.2.1)
      · exact ih x hx
  exact all r x hx
theorem dt_of {kvs : List (List Key × V)} (ok : HOk P w H h) (e : H a = some (.dT kvs)) : kvs.length ≤ sizeLine ∧ (a == sysModules) = false ∧
    ∃ xs, KT H kvs xs ∧ h.DictOfH (tupleKind (mixKind P w)) a xs := dt_rd ok (.inl e)
end
noncomputable def DGet (H : Hp) (a : Addr) (y : V) (r : Option V) : Prop :=
  (∃ kvs k, Rd H a (.dK kvs) ∧ y = kV k ∧ r = valV kvs k) ∨ ∃ kvs k b, Rd H a (.dT kvs) ∧ y = .ref b ∧ H b = some (.tup (k.map kV)) ∧ r = valV kvs k
noncomputable def DPut (H : Hp) (a : Addr) (y v : V) (H' : Hp) : Prop :=
  (∃ kvs k, H a = some (.dK kvs) ∧ y = kV k ∧ kvs.length < sizeLine ∧ H' = upd H a (.dK (putK kvs k v))) ∨
  ∃ kvs k b, H a = some (.dT kvs) ∧ y = .ref b ∧ H b = some (.tup (k.map kV)) ∧ kvs.length < sizeLine ∧ H' = upd H a (.dT (putK kvs k v))
theorem DGet.k {H : Hp} {a : Addr} {kvs : List (Key × V)} {k : Key} (e : H a = some (.dK kvs)) : DGet H a (kV k) (valV kvs k) := .inl ⟨kvs, k, .inl e, rfl, rfl⟩
theorem DGet.t {H : Hp} {a b : Addr} {kvs : List (List Key × V)} {k : List Key} (e : H a = some (.dT kvs)) (eb : H b = some (.tup (k.map kV))) : DGet H a (.ref b) (valV kvs k) := .inr ⟨kvs, k, b, .inl e, rfl, eb, rfl⟩
theorem DPut.k {H : Hp} {a : Addr} {kvs : List (Key × V)} {k : Key} {v : V} (e : H a = some (.dK kvs)) (hl : kvs.length < sizeLine) : DPut H a (kV k) v (upd H a (.dK (putK kvs k v))) := .inl ⟨kvs, k, e, rfl, hl, rfl⟩
theorem DPut.t {H : Hp} {a b : Addr} {kvs : List (List Key × V)} {k : List Key} {v : V} (e : H a = some (.dT kvs)) (eb : H b = some (.tup (k.map kV))) (hl : kvs.length < sizeLine) :
    DPut H a (.ref b) v (upd H a (.dT (putK kvs k v))) := .inr ⟨kvs, k, b, e, rfl, eb, hl, rfl⟩
section
variable {X : Cx} {pins : List (Addr × Obj)} {σ : St} {H : Hp} {s : Shared} {a : Addr} {y v : V} {u r : Value} {o : Option V} {A : Around} {E : Value → Shared → Prop}
theorem Inv.big (I : Inv X pins σ H s) : sysModules < s.heap.objs.size := by
  have h : mainGlobals < s.heap.objs.size := (I.mod.glob.keeps I.bk).lt
  exact Nat.lt_trans (by decide) h
theorem d_getItem {Q : Value → Shared → Prop} (hu : A.units + 1 < cLine) (I : Inv X pins σ H s) (g : DGet H a y (some v)) (ry : RelV y u) (h : ∀ w' s', Inv X pins σ H s' → RelV v w' → Q w' s') :
    wpAny (model X.prog X.w) A (getItem (.ref a) u) Q E s := by
  rcases g with ⟨kvs, k, e, ey, l⟩ | ⟨kvs, k, b, e, ey, eb, l⟩
  · subst ey
    obtain ⟨z, hd, vs, rel, dd⟩ := dk_rd I.hok e
    obtain ⟨w', hw, rw'⟩ := RelO.some_of (v := v) (o := valueAt vs k) (by rw [l]; exact rel.val k)
    exact wpAny_getItem_of (kV_is ry) dd.mapOf hw (h w' _ (I.tok _) rw')
  · subst ey
    cases (show u = Value.ref b from ry)
    obtain ⟨z, hd, xs, rel, dd⟩ := dt_rd I.hok e
    obtain ⟨w', hw, rw'⟩ := RelO.some_of (v := v) (o := (atKey xs k).map (·.2)) (by rw [l]; exact rel.val k)
    obtain ⟨p, hp, hp2⟩ := Option.map_eq_some_iff.mp hw
    refine wpAny_getItem_heap (tupleKind_room_in1 hu) (key_of I.hok eb) dd hp ?_
    rw [hp2]
    exact h w' _ (I.tok _) rw'
theorem d_in {Q : Value → Shared → Prop} (hu : A.units + 1 < cLine) (I : Inv X pins σ H s) (g : DGet H a y o) (ry : RelV y u) (h : ∀ s', Inv X pins σ H s' → Q (.bool o.isSome) s') :
    wpAny (model X.prog X.w) A (compareOp .In u (.ref a)) Q E s := by
  rcases g with ⟨kvs, k, e, ey, l⟩ | ⟨kvs, k, b, e, ey, eb, l⟩
  · subst ey
    obtain ⟨z, hd, vs, rel, dd⟩ := dk_rd I.hok e
    refine wpAny_in_of (kV_is ry) hd dd.mapOf ?_
    rw [← (rel.val k).isSome_eq, ← l]
    exact h _ (I.tok _)
  · subst ey
    cases (show u = Value.ref b from ry)
    obtain ⟨z, hd, xs, rel, dd⟩ := dt_rd I.hok e
    refine wpAny_in_heap (tupleKind_room_in1 hu) (key_of I.hok eb) hd dd ?_
    have q := (rel.val k).isSome_eq
    rw [Option.isSome_map] at q
    rw [← q, ← l]
    exact h _ (I.tok _)
theorem d_write {h' : Heap} {t' : Nat} {ob : HO} (I : Inv X pins σ H s) (mu : Mut (H a)) (hs : Heap.SameBut a s.heap h') (he : ∃ q, h'.get? a = some q) (new : ObjOk X.prog X.w (upd H a ob) h' a ob) :
    Inv X pins σ (upd H a ob) { s with heap := h', toks := t' } :=
  I.write (x := a) (e := a) mu (.inl rfl) (fun b q hb z => (hs.2 b hb).trans z) he new
theorem dk_new {P : Program} {w : World} {H' : Hp} {h' : Heap} {kvs : List (Key × V)} {vs : List (Key × Value)} (z : kvs.length ≤ sizeLine) (hd : (a == sysModules) = false) (rel : KV kvs vs) (dd : h'.DictOf (mixKind P w) a vs) :
    ObjOk P w H' h' a (.dK kvs) := ⟨z, hd, vs, rel, dd⟩
theorem d_setItem {H' : Hp} {Q : Unit → Shared → Prop} (hu : A.units + 1 < cLine) (I : Inv X pins σ H s) (g : DPut H a y v H') (ry : RelV y u) (rv : RelV v r) (h : ∀ s', Inv X pins σ H' s' → Q () s') :
    wpAny (model X.prog X.w) A (setItem (.ref a) u r) Q E s := by
  rcases g with ⟨kvs, k, e, ey, l, eH⟩ | ⟨kvs, k, b, e, ey, eb, l, eH⟩
  · subst ey eH
    obtain ⟨z, hd, vs, rel, dd⟩ := dk_of I.hok e
    have hz : vs.length ≤ sizeLine := by rw [← rel.length]; exact z
    have hl : (putK kvs k v).length ≤ sizeLine := by have := length_putK kvs k v; omega
    refine wpAny_setItem_pairs (hsz := hz) (kV_is ry) dd fun h' dd' hs => h _ ?_
    have he : ∃ q, h'.get? a = some q := let ⟨q, _, _, hq, _⟩ := dd'; ⟨q, hq⟩
    exact d_write I (by rw [e]; exact True.intro) hs he (dk_new hl hd (rel.put k rv) dd')
  · subst ey eH
    cases (show u = Value.ref b from ry)
    obtain ⟨z, hd, xs, rel, dd⟩ := dt_of I.hok e
    have hz : xs.length ≤ sizeLine := by rw [← Paired.length rel]; exact z
    have hl : (putK kvs k v).length ≤ sizeLine := by have := length_putK kvs k v; omega
    refine wpAny_setItem_heap (hsz := hz) (tupleKind_room_in1 hu) (key_of I.hok eb) dd fun h' dd' hs => h _ ?_
    obtain ⟨q, es, ep, hq, h2, h3, h4, _, h5⟩ := dd'
    refine d_write I (by rw [e]; exact True.intro) hs ⟨q, hq⟩ ⟨hl, hd, _, (rel.put k eb rv).keeps fun c ys ec => ?_, q, es, ep, hq, h2, h3, h4, h5⟩
    rw [upd_ne (ne_of ec e (fun z => nomatch z))]
    exact ec
end
section
variable {X : Cx} {pins : List (Addr × Obj)} {σ : St} {H : Hp} {s : Shared} {a : Addr} {kvs : List (Key × V)} {k : Key} {u : Value} {A : Around} {E : Value → Shared → Prop}
end
noncomputable def NoSl (i : Expr) : Prop := ∀ ov iv, subscripted i false ov iv = operate [ov, iv] (getItem ov iv)
theorem subD_of {prog : Program} {w : World} {A : Around} {E : Value → Shared → Prop} {s : Shared} {env : Env} {value slice : Expr} {pos : Pos} {T id : String} {Q : Value → Shared → Prop}
    (hl : typeLookup (.type T) "__getitem__" = pure (some (.builtin id))) (hs : NoSl slice)
    (h : wpAny (model prog w) A (eval value env) (fun o s₁ => wpAny (model prog w) A (eval slice env) (fun i s₂ => s₂.TypeIs o T ∧ wpAny (model prog w) A (getItem o i) Q E s₂) E s₁) E s) :
    wpAny (model prog w) A (eval (.Subscript value slice pos) env) Q E s := by
  refine Subscript_ (wpAny_mono h (fun o s₁ h₁ => wpAny_mono h₁ (fun i s₂ h₂ => ?_) fun _ _ x => x) fun _ _ x => x)
  obtain ⟨hT, h₂⟩ := h₂
  unfold subscriptTail
  refine wpAny_bind ?_
  rw [getitemInPython_of_ne hT.not_modules]
  refine wpAny_bind (wpAny_specialOf hT hl ?_)
  have fin : wpAny (model prog w) A (subscripted slice false o i) (fun r s₃ => wpAny (model prog w) A (letTemporaryGo value o r >>= fun _ => pure r) Q E s₃) E s₂ := by
    rw [hs o i]
    exact wpAny_operating (wpAny_mono h₂ (fun r s₃ h₃ => wpAny_bind (wpAny_letTemporaryGo (wpAny_pure h₃))) fun _ _ x => x)
  first
    | exact wpAny_pure (wpAny_bind fin)
    | exact wpAny_bind (wpAny_pure (wpAny_bind fin))
    | exact wpAny_bind fin
theorem dict_typeIs {X : Cx} {pins : List (Addr × Obj)} {σ : St} {H : Hp} {s : Shared} {a : Addr} {y : V} {o : Option V} (I : Inv X pins σ H s) (g : DGet H a y o) : s.TypeIs (.ref a) "dict" := by
  rcases g with ⟨kvs, k, e, _, _⟩ | ⟨kvs, k, b, e, _, _, _⟩
  · obtain ⟨_, _, vs, _, dd⟩ := dk_rd I.hok e
    exact dd.typeIs
  · obtain ⟨_, _, xs, _, dd⟩ := dt_rd I.hok e
    exact dd.typeIs
noncomputable def tDGet (td ty : TE) : TE := fun σ H Q => td σ H fun x H1 => ty σ H1 fun y H2 => ∃ a v, x = .ref a ∧ DGet H2 a y (some v) ∧ Q v H2
noncomputable def sDPut (td ty tv : TE) : TS := fun D σ H => tv σ H fun v H1 => td σ H1 fun x H2 => ty σ H2 fun y H3 => ∃ a H4, x = .ref a ∧ DPut H3 a y v H4 ∧ D.nx σ H4
section
variable {X : Cx} {o i e value : Expr} {pos pos' tpos : Pos} {td ty tv : TE}
theorem pe_dget (hu : X.A.units + 1 < cLine) (ho : PE X o td) (hi : PE X i ty) (hs : NoSl i) : PE X (.Subscript o i pos) (tDGet td ty) := by
  intro pins s σ H Q I h
  refine subD_of PySem.F.slot_dict_getitem.lookup hs (thn (ho pins s σ H _ I h) fun u s1 ⟨x, H1, I1, rx, q1⟩ => thn (hi pins s1 σ H1 _ I1 q1) fun iv s2 ⟨y, H2, I2, ry, a, v, ex, g, q2⟩ => ?_)
  subst ex
  obtain rfl : u = Value.ref a := rx
  exact ⟨dict_typeIs I2 g, d_getItem hu I2 g ry fun w' s3 I3 rw' => ⟨v, H2, I3, rw', q2⟩⟩
theorem ps_dput (hu : X.A.units + 1 < cLine) (ho : PE X o td) (hi : PE X i ty) (hv : PE X value tv) (hs : swapsWith value (some (.Subscript o i pos')) pos.line X.env = pure false) :
    PS X (.Assign [.Subscript o i pos'] value pos) (sDPut td ty tv) := by
  intro pins s σ H D I h
  refine wpAny_Assign_Subscript (thn (hv pins s σ H _ I h) fun r s1 ⟨v, H1, I1, rv, q1⟩ => thn (ho pins s1 σ H1 _ I1 q1) fun u s2 ⟨x, H2, I2, rx, q2⟩ => thn (hi pins s2 σ H2 _ I2 q2) fun iv s3 ⟨y, H3, I3, ry, a, H4, ex, g, q3⟩ => ?_) hs
  subst ex
  obtain rfl : u = Value.ref a := rx
  exact d_setItem hu I3 g ry rv fun s4 I4 => ⟨σ, H4, I4, q3⟩
end
theorem dk_empty {P : Program} {w : World} {H : Hp} (h : Heap) (hb : sysModules < h.objs.size) : ObjOk P w H (h.push { cls := .type "dict", data := .dict #[] }) h.objs.size (.dK []) :=
  ⟨Nat.zero_le _, beq_eq_false_iff_ne.mpr (Ne.symm (Nat.ne_of_lt hb)), [], .nil, Heap.DictOf.new h⟩
noncomputable def tDNewK : TE := fun _ H Q => ∀ p, H p = none → Q (.ref p) (upd H p (.dK []))
section
variable {X : Cx} {pos : Pos}
theorem pe_dnewK : PE X (.Dict [] [] pos) tDNewK := fun pins s σ H Q I h =>
  wpAny_Dict_empty ⟨.ref s.heap.objs.size, _, I.laid (a := s.heap.objs.size) (o := .dK []) (t' := s.toks) (fun _ _ q => Heap.get?_push_of_some _ q) (Nat.le_refl _) (dk_empty s.heap I.big), rfl, h _ (I.hok.fresh (Nat.le_refl _))⟩
end
noncomputable def tPairs : List (TE × TE) → St → Hp → (List (V × V) → Hp → Prop) → Prop
  | [], _, H, Q => Q [] H
  | (tk, tv) :: r, σ, H, Q => tk σ H fun x H1 => tv σ H1 fun y H2 => tPairs r σ H2 fun ps H3 => Q ((x, y) :: ps) H3
noncomputable def mergeK (kvs more : List (Key × V)) : List (Key × V) := more.foldl (fun acc kv => putK acc kv.1 kv.2) kvs
noncomputable def tDisp (trs : List (TE × TE)) : TE := fun σ H Q => ∀ p, H p = none → tPairs trs σ (upd H p (.dK [])) fun ps H2 => H2 p = some (.dK []) ∧ ∃ kvs : List (Key × V), ps = kvs.map (fun kv => (kV kv.1, kv.2)) ∧ kvs.length ≤ 15 ∧ Q (.ref p) (upd H2 p (.dK (mergeK [] kvs)))
structure M1 (X : Cx) (o : Expr) (m : Str) (apos : Pos) (e : Expr) (cpos : Pos) : Prop where
  base : attributeBase o m X.env (eval o X.env) = eval o X.env
  few : ((backTo cpos (starEach [e] X.env)).all (fun x => !x.1) && (backToKw cpos (keywordEach [] X.env)).all (fun x => x.1.isSome)
    && decide (([e] : List Expr).length + ([] : List Keyword).length + (if ([] : List Keyword).isEmpty then 0 else 1) < 30)) = true
  line : (apos.endLine == cpos.line) = true
  trees : backTo cpos (starEach [e] X.env) = [(false, eval e X.env)]
structure M2 (X : Cx) (o : Expr) (m : Str) (apos : Pos) (e f : Expr) (cpos : Pos) : Prop where
  base : attributeBase o m X.env (eval o X.env) = eval o X.env
  few : ((backTo cpos (starEach [e, f] X.env)).all (fun x => !x.1) && (backToKw cpos (keywordEach [] X.env)).all (fun x => x.1.isSome)
    && decide (([e, f] : List Expr).length + ([] : List Keyword).length + (if ([] : List Keyword).isEmpty then 0 else 1) < 30)) = true
  line : (apos.endLine == cpos.line) = true
  trees : backTo cpos (starEach [e, f] X.env) = [(false, eval e X.env), (false, eval f X.env)]
noncomputable def IsD (H : Hp) (a : Addr) : Prop := (∃ kvs, Rd H a (.dK kvs)) ∨ ∃ kvs, Rd H a (.dT kvs)
theorem isD_at {X : Cx} {pins : List (Addr × Obj)} {σ : St} {H : Hp} {s : Shared} {a : Addr} (I : Inv X pins σ H s) (d : IsD H a) :
    s.TypeIs (.ref a) "dict" ∧ (∀ b, Value.ref a = .ref b → ∃ ob, s.heap.get? b = some ob ∧ ob.dict = none) ∧ (a == sysModules) = false := by
  rcases d with ⟨kvs, e⟩ | ⟨kvs, e⟩
  · obtain ⟨_, hd, vs, _, dd⟩ := dk_rd I.hok e
    refine ⟨dd.typeIs, fun b q => ?_, hd⟩
    cases q
    obtain ⟨ob, _, _, h1, h2, _⟩ := dd
    exact ⟨ob, h1, h2.2.1⟩
  · obtain ⟨_, hd, xs, _, dd⟩ := dt_rd I.hok e
    refine ⟨dd.typeIs, fun b q => ?_, hd⟩
    cases q
    obtain ⟨ob, _, _, h1, h2, _⟩ := dd
    exact ⟨ob, h1, h2.2.1⟩
section
variable {X : Cx} {pins : List (Addr × Obj)} {σ : St} {H : Hp} {s : Shared} {a : Addr} {y d : V} {u r : Value} {o : Option V} {A : Around} {E : Value → Shared → Prop}
theorem d_get2 {Q : Value → Shared → Prop} (hu : A.units + 1 < cLine) (I : Inv X pins σ H s) (g : DGet H a y o) (ry : RelV y u) (rd : RelV d r) (h : ∀ w' s', Inv X pins σ H s' → RelV (o.getD d) w' → Q w' s') :
    wpAny (model X.prog X.w) A (call (.builtin "dict.get") [.ref a, u, r]) Q E s := by
  rcases g with ⟨kvs, k, e, ey, l⟩ | ⟨kvs, k, b, e, ey, eb, l⟩
  · subst ey
    obtain ⟨z, hd, vs, rel, dd⟩ := dk_rd I.hok e
    refine call_meetsIn PySem.F.slot_dict_get dd.typeIs PySem.F.entry_dict_get (PySem.F.args_dict_get_3 _ _ _) (meets_dict_get_default (mixKind X.prog X.w) a (kV_is ry) hd r) ⟨_, dd.mapOf, h _ _ (I.tok _) ?_⟩
    rw [l]
    exact (rel.val k).getD rd
  · subst ey
    cases (show u = Value.ref b from ry)
    obtain ⟨z, hd, xs, rel, dd⟩ := dt_rd I.hok e
    refine call_meetsIn PySem.F.slot_dict_get dd.typeIs PySem.F.entry_dict_get (PySem.F.args_dict_get_3 _ _ _) (meetsH_dict_get_default (tupleKind (mixKind X.prog X.w)) a b hd r) ⟨tupleKind_room_in1 hu, k, xs, key_of I.hok eb, dd, h _ _ (I.tok _) ?_⟩
    rw [l]
    exact (rel.val k).getD rd
end
noncomputable def tDGet2 (td ty tx : TE) : TE := fun σ H Q => td σ H fun x H1 => ∃ a, x = .ref a ∧ IsD H1 a ∧ ty σ H1 fun y H2 => tx σ H2 fun z H3 => ∃ o, DGet H3 a y o ∧ Q (o.getD z) H3
section
variable {X : Cx} {o e f : Expr} {apos cpos : Pos} {td ty tx : TE}
theorem pe_dget2 (hu : X.A.units + 1 < cLine) (ho : PE X o td) (he : PE X e ty) (hf : PE X f tx) (m : M2 X o "get" apos e f cpos) : PE X (.Call (.Attribute o "get" apos) [e, f] [] cpos) (tDGet2 td ty tx) := by
  intro pins s σ H Q I h
  refine wpAny_Call_method m.base m.few m.line PySem.F.plainAttrs_dict PySem.F.slot_dict_get PySem.F.type_dict_get (thn (ho pins s σ H _ I h) fun u s1 ⟨x, H1, I1, rx, a, ex, d, q1⟩ => ?_)
  subst ex
  obtain rfl : u = Value.ref a := rx
  obtain ⟨t1, t2, _⟩ := isD_at I1 d
  refine ⟨t1, t2, ?_⟩
  rw [m.trees]
  refine Calls.callWith_builtin rfl (Calls.evalArgs_plain (Calls.spliced_cons (thn (he pins s1 σ H1 _ I1 q1) fun iv s2 ⟨y, H2, I2, ry, q2⟩ =>
    Calls.spliced_cons (thn (hf pins s2 σ H2 _ I2 q2) fun fv s3 ⟨z, H3, I3, rz, ov, g, q3⟩ => Calls.spliced_nil ?_))))
  exact d_get2 hu I3 g ry rz fun w' s4 I4 rw' => ⟨_, H3, I4, rw', q3⟩
end
section
variable {X : Cx} {pins : List (Addr × Obj)} {σ : St} {H : Hp} {s : Shared} {a : Addr} {kvs : List (Key × V)} {A : Around} {E : Value → Shared → Prop}
theorem d_copyOf {Q : Value → Shared → Prop} (I : Inv X pins σ H s) (e : Rd H a (.dK kvs)) (h : ∀ p s', H p = none → Inv X pins σ (upd H p (.dK kvs)) s' → Q (.ref p) s') : wpAny (model X.prog X.w) A (call (.type "dict") [.ref a]) Q E s := by
  obtain ⟨z, hd, vs, rel, dd⟩ := dk_rd I.hok e
  refine kt_call_dict hd dd (by rw [← rel.length]; exact z) fun h' dd' hs => ?_
  refine h _ _ (I.hok.fresh (Nat.le_refl _)) (I.laid (a := s.heap.objs.size) (o := .dK kvs) (t' := s.toks) (fun b q hq => ?_) (Nat.le_refl _) (dk_new z (beq_eq_false_iff_ne.mpr (Ne.symm (Nat.ne_of_lt I.big))) rel dd'))
  exact (hs.2 b (Nat.ne_of_lt (Heap.lt_size hq))).trans (Heap.get?_push_of_some _ hq)
end
section
variable {X : Cx} {pins : List (Addr × Obj)} {σ : St} {H : Hp} {s : Shared} {a : Addr} {y : V} {u : Value} {A : Around} {E : Value → Shared → Prop}
end
end L2
namespace Att
open PySem PySem.W PySem.Calls PyProof.Rows
theorem ints_of_wellAll {P : Params} {h : Heap} : ∀ (ns : List Int) (vs : List Value), WellAll P h vs (ns.map WData.int) → IntsAre vs ns := by
  intro ns
  induction ns with
  | nil =>
    intro vs w
    rw [List.map_nil] at w
    cases w
    exact .nil
  | cons n ns ih =>
    intro vs w
    rw [List.map_cons] at w
    cases w with
    | cons a b =>
      cases a
      exact .cons _ _ (ih _ b)
theorem script_of {l : OpenLaw} {n : Nat} (hn : l.most = some n) {P : Params} {h : Heap} {args : List WData} {vals : List Value}
    (hpre : l.row.toRowW.claim.pre args = true) (hwl : WellAll P h vals args) :
    ∃ a vs ns, vals = [Value.ref a] ∧ args = [WData.list (ns.map WData.int)] ∧ h.get? a = some { cls := .type "list", data := .seq vs.toArray } ∧ IntsAre vs ns ∧ ns.length ≤ n := by
  have hsh : WShape.hasAll [] args [.list .int] = true := (pre_splitW hpre).1
  have hc : l.pre.holds [] { args := args } = true := (pre_splitW hpre).2
  obtain ⟨d, r, rfl, h1, h2⟩ := hasAllW_cons hsh
  obtain rfl := hasAllW_nil h2
  obtain ⟨xs, rfl, h3⟩ := hasW_list h1
  obtain ⟨ns, rfl⟩ := items_int h3
  have hlen : ns.length ≤ n := by
    unfold OpenLaw.pre at hc
    have h4 : (WTm.not (.lt (.lit (.int (n : Int))) (.len (.arg 0)))).holds [] { args := [.list (ns.map .int)] } = true := by
      have h4 := (holds_andW hc).1
      rw [hn] at h4
      exact h4
    have h5 := condW_of h4 (w_not (w_lt w_lit (w_len_list (w_arg rfl))))
    rw [List.length_map] at h5
    refine Nat.le_of_not_lt fun q => ?_
    have q' : (n : Int) < ((ns.length : Nat) : Int) := by omega
    first
      | (rw [decide_eq_true q'] at h5; exact absurd h5 (by decide))
      | (simp at h5; omega)
  cases hwl with
  | cons w1 w2 =>
    cases w2
    cases w1 with
    | list ho hall => exact ⟨_, _, ns, rfl, rfl, ho, ints_of_wellAll ns _ hall, hlen⟩
theorem post_true (l : OpenLaw) (args : List WData) : l.row.toRowW.claim.post args (.bool true) args = true :=
  postW_of (r := l.row.toRowW) (X := (true == true))
    (show WShape.has [] (.bool true) .bool = true by first | rfl | decide | simp [WShape.has, WShape.arms, WShape.armsAll])
    (show (WTm.eq .res (.lit (.bool true))).value [] { args := args, res := some (.bool true), after := args } = some (.bool (true == true)) from w_eq_bool (w_res rfl) w_lit) rfl
section
variable {prog : Program} {w : World} {A : Around} {E : Value → Shared → Prop} {s : Shared} {K : Frag}
end
end Att
namespace L2
open PySem PySem.Spec PyProof.Rows
theorem vals_ints : ∀ {vs : List Value} {ns : List Int}, IntsAre vs ns → Vals (ns.map V.int) vs
  | _, _, .nil => .nil
  | _, _, .cons n t h => .cons ⟨t, rfl⟩ (vals_ints h)
noncomputable def Only (H : Hp) : Prop := ∀ b, H b = none ∨ ∃ o xs, H b = some (.frz o (.lst xs))
theorem law_call {P : Program} {w : World} {K : PySem.W.Frag} {mg mb : Str → Option Value} {CX : CXT} {k : Nat} {fa a : Addr} {fd : FuncData} {x : Str} {sp : Sp} {s₁ : Shared} {vs : List Value} {ns : List Int}
    (KX : K.In s₁.heap) (hns : s₁.heap.Ns mainGlobals mg) (hb : s₁.heap.Ns builtinsNs mb) (hbb : ∀ x : Str, x ≠ "__name__" → mb x = bootBuiltins x) (hlim : s₁.heap.NoLimit) (hg : s₁.gens = #[])
    (ha : s₁.heap.get? a = some { cls := .type "list", data := .seq vs.toArray }) (hi : IntsAre vs ns) (hl : ns.length ≤ sizeLine) (hr : Room k callerA)
    (F : ∀ base : Heap, K.In base → base.Ns mainGlobals mg → FnOk P w K mg base CX k fa fd [x] sp) (hbind : ∀ (s : Shared) (u : Value), BindsTo s fd ⟨[u], []⟩ [(x, u)])
    (hsp : ∀ H : Hp, Only H → SqL K H a (ns.map V.int) → sp [.ref a] H (fun v _ => v = .bl true) fun _ _ _ => False)
    (hCX : ∀ H e s', CX [] H s₁ (fun _ _ _ => False) e s' → False) :
    codeAny (model P w) callerA (.call (.ref fa) ⟨[.ref a], []⟩) (fun r s' => r = .ok (.ret (.bool true)) ∧ OldK s₁.heap s'.heap ∧ s'.os = s₁.os ∧ AllBare s'.gens) s₁ := by
  have rv := vals_ints hi
  have lenV := hi.length
  have core : ∀ H : Hp, Only H → SqL K H a (ns.map V.int) → HOk P w H s₁.heap → (∀ b, H b ≠ none → b = a) → (H a ≠ none → K.lookup a = none) →
      codeAny (model P w) callerA (.call (.ref fa) ⟨[.ref a], []⟩) (fun r s' => r = .ok (.ret (.bool true)) ∧ OldK s₁.heap s'.heap ∧ s'.os = s₁.os ∧ AllBare s'.gens) s₁ := by
    intro H hO hS hok hA hK
    have base_of : ∀ {b : Addr} {o : Obj}, s₁.heap.get? b = some o → H b = none → (hidT s₁.heap H).get? b = some o := fun e n => hidT_get e n
    have noA : ∀ {b : Addr} {o : Obj} {es : Array DictEntry} {ep : Nat}, s₁.heap.get? b = some o → o.data = .dict es ep → H b = none := fun {b o es ep} e d => by
      cases q : H b with
      | none => rfl
      | some u =>
        have e' : b = a := hA b (by rw [q]; simp)
        subst e'
        rw [ha] at e; cases e
        have d' : Data.seq vs.toArray _ = Data.dict es ep := d
        cases d'
    have nsK : ∀ {b : Addr} {m : Str → Option Value}, s₁.heap.Ns b m → (hidT s₁.heap H).Ns b m := fun {b m} ⟨o, es, ep, e, d, r⟩ => ⟨o, es, ep, base_of e (noA e d), d, r⟩
    have hKb : K.In (hidT s₁.heap H) := fun b o e => base_of (KX b o e) (by
      cases q : H b with
      | none => rfl
      | some u =>
        have e' : b = a := hA b (by rw [q]; simp)
        subst e'
        rw [hK (by rw [q]; simp)] at e; cases e)
    have hM : Mod K mg (hidT s₁.heap H) := ⟨hKb, nsK hns, ⟨mb, nsK hb, hbb⟩, let ⟨mc, h1, h2⟩ := hlim; ⟨mc, nsK h1, h2⟩⟩
    have e0 : Env0 P w K mg (hidT s₁.heap H) callerA [] s₁ H := ⟨rfl, hM, fun b o e => of_hidT e, Nat.le_of_eq (hidT_size _ _), trivial, fun b hb => absurd (show b ∈ ([] : List Addr) from hb) (by simp), hok, .of_eq hg⟩
    refine codeAny_mono ((F _ hKb (nsK hns)).run callerA [] s₁ H ⟨[.ref a], []⟩ [.ref a] [.ref a] _ _ hr e0 (hbind s₁ (.ref a)) (.cons rfl .nil) (hsp H hO hS)) fun r s' h => ?_
    cases r with
    | error e => exact (hCX H e s' h).elim
    | ok fl =>
      cases fl with
      | next => exact False.elim h
      | brk => exact False.elim h
      | cont => exact False.elim h
      | ret u =>
        obtain ⟨v, H', os, bare, un, hok', r', q⟩ := h
        have q' : v = .bl true := q
        subst q'
        obtain rfl : u = Value.bool true := r'
        refine ⟨rfl, OldK.of_keep fun b o e => ?_, os, bare⟩
        cases q : H b with
        | none => exact un.keep b o e q (by intro z; exact absurd (show b ∈ ([] : List Addr) from z) (by simp)) (by simp)
        | some u =>
          rcases hO b with z | ⟨ob, xs, z⟩
          · rw [q] at z; cases z
          · have z2 := un.frzs b ob _ z
            obtain ⟨e1, _⟩ := hok b _ z
            obtain ⟨e2, _⟩ := hok' b _ z2
            rw [e] at e1; cases e1
            exact e2
  cases hk : K.lookup a with
  | some o =>
    have e := KX a o hk
    rw [ha] at e
    cases e
    refine core (fun _ => none) (fun _ => .inl rfl) (.inr ⟨_, vs.toArray, _, hk, rfl, rfl, rfl, by rw [List.size_toArray, lenV]; exact hl, by simpa using rv⟩) (fun b u z => by have z' : (none : Option HO) = some u := z; cases z') (fun b z => absurd rfl z) fun z => absurd rfl z
  | none =>
    refine core (fun b => if b = a then some (.frz { cls := .type "list", data := .seq vs.toArray } (.lst (ns.map V.int))) else none) (fun b => ?_) (.inl (.inr ⟨{ cls := .type "list", data := .seq vs.toArray }, if_pos rfl⟩)) (fun b u z => ?_) (fun b z => ?_) fun _ => hk
    · by_cases hb : b = a
      · exact .inr ⟨_, _, if_pos hb⟩
      · exact .inl (if_neg hb)
    · by_cases hb : b = a
      · have z' := (if_pos hb).symm.trans z
        cases z'
        subst hb
        exact ⟨ha, by rw [List.length_map]; exact hl, vs, _, rv, ha⟩
      · have z' := (if_neg hb).symm.trans z
        cases z'
    · by_cases hb : b = a
      · exact hb
      · exact absurd (if_neg hb) z
end L2
namespace L2
open PySem PySem.Spec PyProof.Rows
noncomputable abbrev KOf {K : PySem.W.Frag} {h : Heap} (_ : K.In h) : PySem.W.Frag := K
end L2
namespace L2
open PySem PySem.Spec PyProof.Rows
noncomputable def inClass (s : Stmt) (j : Nat) : Stmt := match s with
  | .ClassDef _ _ _ body _ _ _ _ _ _ _ => body.getD j (.Pass ⟨0, 0, 0, 0⟩)
  | _ => .Pass ⟨0, 0, 0, 0⟩
noncomputable def defArgs (s : Stmt) : Arguments := match s with
  | .FunctionDef _ a _ _ _ _ _ _ _ _ => a
  | _ => { posonlyargs := [], args := [], vararg := none, kwonlyargs := [], kw_defaults := [], kwarg := none, defaults := [] }
noncomputable def defBody (s : Stmt) : List Stmt := match s with
  | .FunctionDef _ _ b _ _ _ _ _ _ _ => b
  | _ => []
noncomputable def defScope (s : Stmt) : Scope := match s with
  | .FunctionDef _ _ _ _ _ _ sc _ _ _ => sc
  | _ => { kind := .function, names := [], isGenerator := false, isCoroutine := false }
noncomputable abbrev CX0 : CXT := fun _ _ _ _ _ _ => False
noncomputable abbrev E0 : XK := fun _ _ _ => False
theorem pass0 {X : Cx} : Passes CX0 X E0 := fun _ _ _ _ _ _ _ h => h.elim
structure Fun (K : PySem.W.Frag) (x qual : Str) (st : Stmt) (f : Addr) (fd : FuncData) : Prop where
  ex : ∃ (oc : Value) (od : Option Addr) (kV doc pm : Value) (an : Option Addr) (cdv ct : Value) (osl : Array (Option Value)),
    fd = PySem.W.fnOf x qual (defArgs st) (defBody st) (defScope st) .none kV doc pm an cdv ct ∧ K.lookup f = some ⟨oc, od, .func fd, osl⟩ ∧ PySem.W.codeIn K cdv qual = true
  kp : PySem.W.keepIn K (.ref f) = true
section
variable {P : Program} {w : World} {K : PySem.W.Frag} {mg : Str → Option Value} {base : Heap}
theorem Fun.ok {x qual : Str} {st : Stmt} {f : Addr} {fd : FuncData} {N ps : List Str} {k : Nat} {sp : Sp} (F : Fun K x qual st f fd) (S : FnScope N ps (defScope st)) (len : ∀ vs H Q E, sp vs H Q E → vs.length = ps.length)
    (hbody : ∀ (cdv : Value) (A : Around) (outer : List Env) (s : Shared) (H : Hp) (vs : List V) (Q : VK) (E : XK), Room k (A.deeper (envOfC qual (defScope st) s.heap.objs.size f cdv)) → sp vs H Q E →
      ∃ t, PSs (cxOf CX0 P w K mg base N qual (defScope st) f cdv A outer s H E).nox (defBody st) t ∧ t { nx := fun _ H' => Q .non H', rt := Q } (start N vs) H) : FnOk P w K mg base CX0 (k + 1) f fd ps sp := by
  obtain ⟨oc, od, kV, doc, pm, an, cdv, ct, osl, rfl, lk, hcd⟩ := F.ex
  refine fn_of lk hcd S len fun A outer s H vs Q E hr hsp => ?_
  obtain ⟨t, h, q⟩ := hbody cdv A outer s H vs Q E hr hsp
  exact ⟨t, h.nox, q⟩
theorem Fun.binds {x qual : Str} {st : Stmt} {f : Addr} {fd : FuncData} {ps : List Str} (F : Fun K x qual st f fd)
    (h : ∀ (kV doc pm : Value) (an : Option Addr) (cdv ct : Value) (us : List Value), us.length = ps.length → bindArgs (PySem.W.fnOf x qual (defArgs st) (defBody st) (defScope st) .none kV doc pm an cdv ct) ⟨us, []⟩ = pure (ps.zip us)) : Binds K fd ps [] := by
  obtain ⟨oc, od, kV, doc, pm, an, cdv, ct, osl, rfl, lk, hcd⟩ := F.ex
  exact .all (h kV doc pm an cdv ct)
theorem fun_mk {x qual : Str} {st : Stmt} {f : Addr} {oc : Value} {od an : Option Addr} {osl : Array (Option Value)} {kV doc pm cdv ct : Value} (l : K.lookup f = some ⟨oc, od, .func (PySem.W.fnOf x qual (defArgs st) (defBody st) (defScope st) .none kV doc pm an cdv ct), osl⟩)
    (c : PySem.W.codeIn K cdv qual = true) (k : PySem.W.keepIn K (.ref f) = true) : Fun K x qual st f (PySem.W.fnOf x qual (defArgs st) (defBody st) (defScope st) .none kV doc pm an cdv ct) := ⟨⟨oc, od, kV, doc, pm, an, cdv, ct, osl, rfl, l, c⟩, k⟩
end
theorem hu_of {A : Around} {k : Nat} (hr : Room k A) : A.units + 1 < cLine := Nat.lt_of_le_of_lt (Nat.add_le_add_left (by decide : 1 ≤ 64) _) hr.units
section
variable {X : Cx}
end
theorem iteF {A B : Prop} (h : B) : if false = true then A else B := by
  rw [if_neg Bool.false_ne_true]
  exact h
theorem iteT {A B : Prop} (h : A) : if true = true then A else B := by
  rw [if_pos rfl]
  exact h
noncomputable def Same (H H' : Hp) : Prop := ∀ b o, H b = some o → H' b = some o
theorem Same.refl (H : Hp) : Same H H := fun _ _ h => h
theorem Same.trans {H H1 H2 : Hp} (a : Same H H1) (b : Same H1 H2) : Same H H2 := fun c o h => b c o (a c o h)
theorem Same.free {H H' : Hp} (e : Same H H') {l : Addr} (h : H' l = Option.none) : H l = Option.none := by
  cases q : H l with
  | none => rfl
  | some o =>
    rw [e l o q] at h
    cases h
theorem Same.seq {K : PySem.W.Frag} {H H' : Hp} {a : Addr} {xs : List V} (e : Same H H') (h : SqL K H a xs) : SqL K H' a xs := by
  rcases h with (h | ⟨o, h⟩) | h
  · exact .inl (.inl (e _ _ h))
  · exact .inl (.inr ⟨o, e _ _ h⟩)
  · exact .inr h
section
variable {X : Cx}
end
section
variable {κ : Type} [DecidableEq κ]
end
end L2
set_option Elab.async false
set_option linter.all false
set_option maxRecDepth 100000
set_option maxHeartbeats 4000000
namespace L2
open PySem PySem.Spec PyProof.Rows
noncomputable def clOf (env : Env) : List (Str × NameKind) → List (Str × Addr) → List (Str × Addr)
  | [], acc => acc
  | (n, k) :: r, acc => if k = .free then clOf env r ((n, (env.cells.lookup n).getD 0) :: acc) else clOf env r acc
theorem forIn_cl {env : Env} (f : (Str × NameKind) → List (Str × Addr) → Sem (ForInStep (List (Str × Addr))))
    (h1 : ∀ n r c, env.cells.lookup n = some c → f (n, .free) r = pure (.yield ((n, c) :: r))) (h2 : ∀ n k r, k ≠ .free → f (n, k) r = pure (.yield r)) :
    ∀ (l : List (Str × NameKind)) (acc : List (Str × Addr)), (∀ y ∈ l, y.2 = .free → ∃ c, env.cells.lookup y.1 = some c) → forIn l acc f = pure (clOf env l acc)
  | [], acc, _ => by rw [List.forIn_nil]; rfl
  | (n, k) :: r, acc, h => by
    have hr : ∀ y ∈ r, y.2 = .free → ∃ c, env.cells.lookup y.1 = some c := fun y hy => h y (List.mem_cons_of_mem _ hy)
    rw [List.forIn_cons]
    by_cases hk : k = .free
    · subst hk
      obtain ⟨c, hc⟩ := h _ List.mem_cons_self rfl
      have hc : env.cells.lookup n = some c := hc
      rw [h1 n acc c hc]
      have ih := forIn_cl f h1 h2 r ((n, c) :: acc) hr
      show (forIn r ((n, c) :: acc) f) = _
      rw [ih]
      unfold clOf
      rw [if_pos rfl, hc]
      rw [← clOf.eq_def]
      rfl
    · rw [h2 n k acc hk]
      have ih := forIn_cl f h1 h2 r acc hr
      show (forIn r acc f) = _
      rw [ih]
      conv => rhs; unfold clOf
      rw [if_neg hk]
theorem closure_of {scope : Scope} {env : Env} (h : ∀ y ∈ scope.names, y.2 = .free → ∃ c, env.cells.lookup y.1 = some c) : closureFor scope env = pure (clOf env scope.names []) := by
  unfold closureFor
  have e := forIn_cl (env := env) (fun x r => if x.2 == NameKind.free then do let c ← cellOf env x.1; pure (ForInStep.yield ((x.1, c) :: r)) else pure (ForInStep.yield r))
    (fun n r c hc => by
      have e : cellOf env n = pure c := by unfold cellOf; rw [hc]
      show (if (NameKind.free == NameKind.free) = true then _ else _) = _
      rw [if_pos (by decide), e]
      rfl)
    (fun n k r hk => by
      show (if (k == NameKind.free) = true then _ else _) = _
      rw [if_neg (by intro z; exact hk (eq_of_beq z))]) scope.names [] h
  exact (congrArg (fun m => m >>= fun cs => (pure cs : Sem (List (Str × Addr)))) e)
theorem clOf_mem {env : Env} : ∀ (l : List (Str × NameKind)) (acc : List (Str × Addr)) (y : Str) (c : Addr), (∀ y ∈ l, y.2 = .free → ∃ c, env.cells.lookup y.1 = some c) → (∀ y c, acc.lookup y = some c → env.cells.lookup y = some c) →
    (clOf env l acc).lookup y = some c → env.cells.lookup y = some c
  | [], acc, y, c, _, ha, e => ha y c e
  | (n, k) :: r, acc, y, c, h, ha, e => by
    have hr : ∀ y ∈ r, y.2 = .free → ∃ c, env.cells.lookup y.1 = some c := fun y hy => h y (List.mem_cons_of_mem _ hy)
    unfold clOf at e
    by_cases hk : k = .free
    · rw [if_pos hk] at e
      refine clOf_mem r _ y c hr (fun z d q => ?_) e
      rw [List.lookup_cons] at q
      cases hz : z == n with
      | true =>
        rw [hz] at q
        have q' : (env.cells.lookup n).getD 0 = d := Option.some.inj q
        obtain ⟨c', hc'⟩ := h _ List.mem_cons_self hk
        have hc' : env.cells.lookup n = some c' := hc'
        rw [hc'] at q'
        have q' : c' = d := q'
        rw [eq_of_beq hz, hc', q']
      | false =>
        rw [hz] at q
        exact ha z d q
    · rw [if_neg hk] at e
      exact clOf_mem r acc y c hr ha e
theorem clOf_acc {env : Env} : ∀ (l : List (Str × NameKind)) (acc : List (Str × Addr)) (y : Str), (∃ c, acc.lookup y = some c) → ∃ c, (clOf env l acc).lookup y = some c
  | [], _, _, h => h
  | (n, k) :: r, acc, y, h => by
    unfold clOf
    by_cases hk : k = .free
    · rw [if_pos hk]
      refine clOf_acc r _ y ?_
      rw [List.lookup_cons]
      cases hz : y == n with
      | true => exact ⟨_, rfl⟩
      | false => exact h
    · rw [if_neg hk]
      exact clOf_acc r acc y h
theorem clOf_has {env : Env} : ∀ (l : List (Str × NameKind)) (acc : List (Str × Addr)) (y : Str), (y, NameKind.free) ∈ l → ∃ c, (clOf env l acc).lookup y = some c
  | [], _, _, h => by simp at h
  | (n, k) :: r, acc, y, h => by
    unfold clOf
    by_cases hk : k = .free
    · rw [if_pos hk]
      rcases List.mem_cons.mp h with e | e
      · refine clOf_acc r _ y ?_
        have e1 : y = n := congrArg Prod.fst e
        rw [List.lookup_cons, e1]
        simp
      · exact clOf_has r _ y e
    · rw [if_neg hk]
      rcases List.mem_cons.mp h with e | e
      · exact absurd (congrArg Prod.snd e).symm hk
      · exact clOf_has r acc y e
theorem relabel_lookup (scope : Scope) (env : Env) (y : Str) : (relabel scope env).names.lookup y = (scope.names.lookup y).map fun k => if (k == NameKind.free && env.scope.kind == .function && env.kindOf y == some .cell) = true then .cell else k := by
  show (scope.names.map _).lookup y = _
  induction scope.names with
  | nil => rfl
  | cons p r ih =>
    obtain ⟨n, k⟩ := p
    rw [List.map_cons, List.lookup_cons (a := y) (k := n) (b := k)]
    cases hz : y == n with
    | true =>
      have e : y = n := eq_of_beq hz
      subst e
      show List.lookup y ((if (k == NameKind.free && env.scope.kind == .function && env.kindOf y == some .cell) = true then (y, NameKind.cell) else (y, k)) :: _) = some (if _ then _ else _)
      by_cases hc : (k == NameKind.free && env.scope.kind == .function && env.kindOf y == some .cell) = true
      · rw [if_pos hc, if_pos hc]; simp
      · rw [if_neg hc, if_neg hc]; simp
    | false =>
      show List.lookup y ((if (k == NameKind.free && env.scope.kind == .function && env.kindOf n == some .cell) = true then (n, NameKind.cell) else (n, k)) :: _) = _
      by_cases hc : (k == NameKind.free && env.scope.kind == .function && env.kindOf n == some .cell) = true
      · rw [if_pos hc, List.lookup_cons, hz]; exact ih
      · rw [if_neg hc, List.lookup_cons, hz]; exact ih
noncomputable def cxComp (X : Cx) (scope : Scope) (x : Str) (N' : List Str) (C : Addr) (s : Shared) (H : Hp) (fp : List Addr) (pn : List (Addr × Obj)) : Cx where
  prog := X.prog
  w := X.w
  K := X.K
  mg := X.mg
  base := X.base
  A := X.A
  N := x :: N'
  s₀ := s
  H₀ := H
  env := compEnvC scope (clOf X.env scope.names []) C X.env
  outer := X.stack
  stack := X.stack
  ex := fp
  fn := fun _ => false
  calm := X.calm
  pn := pn
  xe := fun _ _ => False
section
variable {X : Cx} {pins : List (Addr × Obj)} {σ : St} {H : Hp} {s : Shared}
structure CompSc (X : Cx) (scope : Scope) (x : Str) (N' : List Str) : Prop where
  loc : scope.names.lookup x = some .local
  nocell : ∀ y ∈ scope.names, y.2 ≠ .cell
  kind : scope.kind = .function
  names : ∀ y ∈ scope.names, y.2 = .local → scope.names.lookup y.1 = some .local
  free : ∀ y ∈ scope.names, y.2 = .free → X.env.kindOf y.1 = some .cell ∨ X.env.kindOf y.1 = some .free
  nin : x ∉ N'
  nd : N'.Nodup
  len : N'.length = X.N.length
  sub : ∀ (i : Nat) (y : Str), N'[i]? = some y → X.N[i]? = some y ∨ scope.names.lookup y = none
  only : ∀ y ∈ scope.names, y.2 = .local → y.1 = x ∨ y.1 ∉ N'
theorem Inv.compIn {scope : Scope} {x : Str} {N' : List Str} {fp : List Addr} {h1 : Heap} {tk : Nat} {m : Str → Option Value} (S : CompSc X scope x N') (I : Inv X pins σ H s) (hf : ∀ b ∈ fp, FpOk X pins H b) (hfl : ∀ b ∈ fp, b < s.heap.objs.size)
    (hn : h1.Ns s.heap.objs.size m) (hsb : ∀ b o, s.heap.get? b = some o → h1.get? b = some o) :
    Inv (cxComp X scope x N' s.heap.objs.size s H fp (X.pn ++ pins)) [] (none :: σ) H { s with heap := h1, toks := tk } := by
  have hcells : ∀ y ∈ scope.names, y.2 = .free → ∃ c, X.env.cells.lookup y.1 = some c := fun y hy hk => I.ok.has y.1 (S.free y hy hk)
  have sub : ∀ y c, (clOf X.env scope.names []).lookup y = some c → X.env.cells.lookup y = some c := fun y c e => clOf_mem _ _ y c hcells (fun z d q => by simp at q) e
  have lk : ∀ (y : Str) (k : NameKind), (relabel scope X.env).names.lookup y = some k → k = .cell ∨ k = .free → scope.names.lookup y = some .free := fun y k e hk => by
    rw [relabel_lookup] at e
    cases q : scope.names.lookup y with
    | none => rw [q] at e; cases e
    | some k0 =>
      rw [q] at e
      have e' : (if (k0 == NameKind.free && X.env.scope.kind == .function && X.env.kindOf y == some .cell) = true then NameKind.cell else k0) = k := Option.some.inj e
      by_cases hc : (k0 == NameKind.free && X.env.scope.kind == .function && X.env.kindOf y == some .cell) = true
      · simp only [Bool.and_eq_true] at hc
        rw [eq_of_beq hc.1.1]
      · rw [if_neg hc] at e'
        subst e'
        rcases hk with hk | hk
        · exact absurd hk (S.nocell _ (PySem.mem_of_lookup q))
        · rw [hk]
  have lt : ∀ {b : Addr} {o : Obj}, s.heap.get? b = some o → b ≠ s.heap.objs.size := fun e => Nat.ne_of_lt (Heap.lt_size e)
  refine ⟨⟨I.ok.mod, by show (relabel scope X.env).kind = _; exact S.kind, I.ok.glob, I.ok.blt, Nat.le_refl _, fun y z c e1 e2 => I.ok.inj y z c (sub y c e1) (sub z c e2), fun y hy => ?_, fun y c hz => (by cases hz), I.ok.hd, I.ok.frames, .inl rfl,
    fun b hb => ⟨Nat.ne_of_lt (hfl b hb), fun y c e => (hf b hb).2.2.2.2.1 y c (sub y c e)⟩, I.bs, Nat.le_trans I.ok.bsz I.sz, fun b o e hb => ?_, fun b hb hz => ?_, I.stack, I.stkFree⟩,
    rfl, I.bare, Un.kept hsb, ⟨m, hn, fun i y v h1 h2 h3 => ?_⟩, fun y c e => ?_, I.hok.fresh (Nat.le_refl _), fun y c e => I.freeC y c (sub y c e), fun p hp => ?_, I.hok.kept hsb, ?_⟩
  · have hy : (relabel scope X.env).names.lookup y = some .cell ∨ (relabel scope X.env).names.lookup y = some .free := hy
    have q : scope.names.lookup y = some .free := hy.elim (fun z => lk y _ z (.inl rfl)) fun z => lk y _ z (.inr rfl)
    exact clOf_has _ _ y (PySem.mem_of_lookup q)
  · obtain ⟨_, _, _, f3, _, _⟩ := hf b hb
    rcases f3 with f3 | f3
    · exact I.ok.noex b o e f3
    · exact absurd (Nat.lt_of_lt_of_le (Heap.lt_size e) (Nat.le_trans I.ok.bsz f3)) (Nat.lt_irrefl _)
  · have hz : b ∈ frs X.stack := hz
    obtain ⟨_, f1, f2, _⟩ := hf b hb
    rcases List.mem_cons.mp (I.stkSub b hz) with z | z
    · exact f1 z
    · exact f2 z
  · cases i with
    | zero => simp at h2
    | succ i =>
      have h1 : N'[i]? = some y := by simpa [cxComp] using h1
      have h2 : σ[i]? = some (some v) := by simpa using h2
      have hne : N'[i]? ≠ some x := fun z => S.nin (List.mem_of_getElem? z)
      have h3 : Vis (relabel scope X.env) y := h3
      obtain ⟨m', hn', hl'⟩ := I.loc
      have q : scope.names.lookup y = some .free := by
        rcases h3 with z | z | z
        · exfalso
          rw [relabel_lookup] at z
          cases q : scope.names.lookup y with
          | none => rw [q] at z; cases z
          | some k0 =>
            rw [q] at z
            have e' : (if (k0 == NameKind.free && X.env.scope.kind == .function && X.env.kindOf y == some .cell) = true then NameKind.cell else k0) = .local := Option.some.inj z
            by_cases hc : (k0 == NameKind.free && X.env.scope.kind == .function && X.env.kindOf y == some .cell) = true
            · rw [if_pos hc] at e'; cases e'
            · rw [if_neg hc] at e'
              subst e'
              rcases S.only _ (PySem.mem_of_lookup q) rfl with w | w
              · exact hne (by rw [h1]; exact congrArg some w)
              · exact w (List.mem_of_getElem? h1)
        · exact lk y _ z (.inl rfl)
        · exact lk y _ z (.inr rfl)
      obtain ⟨c, hc⟩ := clOf_has (env := X.env) scope.names [] y (PySem.mem_of_lookup q)
      have hk : X.env.kindOf y = some .cell ∨ X.env.kindOf y = some .free := S.free _ (PySem.mem_of_lookup q) rfl
      have h1' : X.N[i]? = some y := (S.sub i y h1).resolve_right fun z => by rw [q] at z; cases z
      obtain ⟨u, r, l⟩ := hl' i y v h1' h2 (.inr hk)
      refine ⟨u, r, ?_⟩
      have kd : (compEnvC scope (clOf X.env scope.names []) s.heap.objs.size X.env).kindOf y = some .cell ∨ (compEnvC scope (clOf X.env scope.names []) s.heap.objs.size X.env).kindOf y = some .free := by
        rcases h3 with z | z | z
        · exfalso
          rw [relabel_lookup, q] at z
          have e' : (if (NameKind.free == NameKind.free && X.env.scope.kind == .function && X.env.kindOf y == some .cell) = true then NameKind.cell else NameKind.free) = .local := Option.some.inj z
          by_cases hc : (NameKind.free == NameKind.free && X.env.scope.kind == .function && X.env.kindOf y == some .cell) = true
          · rw [if_pos hc] at e'; cases e'
          · rw [if_neg hc] at e'; cases e'
        · exact .inl z
        · exact .inr z
      rcases l with ⟨a, _⟩ | ⟨_, c', hc', ic⟩
      · rcases hk with k | k <;> (rw [k] at a; cases a)
      · have e : X.env.cells.lookup y = some c := sub y c hc
        rw [e] at hc'
        cases hc'
        obtain ⟨o, ho, hd⟩ := ic
        exact .inr ⟨kd, c, hc, ⟨o, hsb _ _ ho, hd⟩⟩
  · obtain ⟨v, o, ho, hd⟩ := I.cell y c (sub y c e)
    exact ⟨v, o, hsb _ _ ho, hd⟩
  · have hp : p ∈ X.pn ++ pins := by
      have hp : p ∈ (X.pn ++ pins) ++ [] := hp
      rwa [List.append_nil] at hp
    obtain ⟨e, n, ne, nf, d⟩ := I.pin p hp
    refine ⟨hsb _ _ e, n, lt e, fun hz => ?_, d⟩
    have hz : p.1 ∈ frs X.stack := hz
    rcases List.mem_cons.mp (I.stkSub _ hz) with z | z
    · exact ne z
    · exact nf z
  · show (none :: σ).length = (x :: N').length
    rw [List.length_cons, List.length_cons, I.len, S.len]
noncomputable def PTs (X : Cx) (ifs : List Expr) (t : TT) : Prop :=
  ∀ (pins : List (Addr × Obj)) (s : Shared) (σ : St) (H : Hp) (Q : Bool → Hp → Prop) (E : Value → Shared → Prop), Inv X pins σ H s → t σ H Q →
    wpAny (model X.prog X.w) X.A (forIn ifs true fun c r => if r = true then do let ok ← isTrue c X.env (eval c X.env); pure (ForInStep.yield ok) else pure (ForInStep.yield r)) (TP X pins σ Q) E s
noncomputable def tYes : TT := fun _ H Q => Q true H
theorem pts_nil : PTs X [] tYes := fun _ _ _ H _ _ I h => wpAny_tests_nil ⟨H, I, h⟩
theorem comp_loop {prog : Program} {w : World} {A : Around} {R : Result → Shared → Prop} {s : Shared} {elt target iter : Expr} {ifs : List Expr} {scope : Scope} {pos : Pos} {it acc : Value} {env : Env} (J : Nat → Shared → Prop)
    (turn : ∀ n s, J n s → wpAny (model prog w) A (pyNext it) (fun r s1 => match r with
      | none => R (.ok .next) s1
      | some v => wpAny (model prog w) A (letOwnedTupleGo target it v) (fun _ s2 => wpAny (model prog w) A (assign target env v) (fun _ s3 =>
          wpAny (model prog w) A (forIn ifs true fun c r => if r = true then do let ok ← isTrue c env (eval c env); pure (ForInStep.yield ok) else pure (ForInStep.yield r)) (fun ok s4 =>
            if ok = true then wpAny (model prog w) A (eval elt env) (fun y s5 => wpAny (model prog w) A (call (.builtin "list.append") [acc, y]) (fun _ s6 => ∃ m, m < n ∧ J m s6) (fun _ _ => False) s5) (fun _ _ => False) s4
            else ∃ m, m < n ∧ J m s4) (fun _ _ => False) s3) (fun _ _ => False) s2) (fun _ _ => False) s1) (fun _ _ => False) s)
    (n : Nat) (h : J n s) : codeAny (model prog w) A (.compLoop (.ListComp elt [⟨target, iter, ifs, 0⟩] scope pos) 0 it acc env) R s := by
  have no : ∀ {α : Type} {t : Sem α} {Q : α → Shared → Prop} {E : Value → Shared → Prop} {s : Shared}, wpAny (model prog w) A t Q (fun _ _ => False) s → wpAny (model prog w) A t Q E s :=
    fun q => wpAny_mono q (fun _ _ z => z) fun _ _ z => z.elim
  refine codeAny_loop rfl J (fun n s hJ => ?_) n h
  refine wpAny_noted (m := compTurn (.ListComp elt [⟨target, iter, ifs, 0⟩] scope pos) 0 it acc env) ?_
  rw [compTurn_list]
  refine wpAny_bind (wpAny_standAt (wpAny_bind (no (thn (turn n s hJ) fun r s1 q1 => ?_))))
  cases r with
  | none => exact wpAny_pure q1
  | some v =>
    refine no ?_
    refine wpAny_bind (thn q1 fun _ s2 q2 => wpAny_bind (thn q2 fun _ s3 q3 => wpAny_bind (thn q3 fun ok s4 q4 => ?_)))
    cases ok with
    | false => exact wpAny_pure ⟨rfl, q4⟩
    | true => exact wpAny_bind (wpAny_bind (thn q4 fun y s5 q5 => wpAny_bind (thn q5 fun _ s6 q6 => wpAny_pure (wpAny_pure ⟨rfl, q6⟩))))
noncomputable def CompW (J : It) (tt : TT) (te : TE) (σ : St) (Q : VK) (D : Addr) (H1 : Hp) : Prop := ∃ W : Nat → Nat → List V → Hp → Prop, (∃ m, W 0 m [] (upd H1 D (.lst []))) ∧
  ∀ i m ys H', W i m ys H' → (J.stop i H' ∧ Q (.ref D) H') ∨ (J.go i H' ∧ ∀ v H2, J.yld i H' v H2 → tt (some v :: σ) H2 fun b H3 =>
    if b = true then te (some v :: σ) H3 fun y H4 => H4 D = some (.lst ys) ∧ ys.length < sizeLine ∧ ∃ m', m' < m ∧ W (i + 1) m' (ys ++ [y]) (upd H4 D (.lst (ys ++ [y])))
    else ∃ m', m' < m ∧ W (i + 1) m' ys H3)
noncomputable def tComp (wi : TI) (tt : TT) (te : TE) : TE := fun σ H Q => wi σ H fun J H1 => ∀ D, H1 D = none → CompW J tt te σ Q D H1
theorem comp_core {elt iter : Expr} {x : Str} {N' : List Str} {px : Pos} {ifs : List Expr} {scope : Scope} {pos : Pos} {tt : TT} {te : TE} (hc : X.calm = true) (S : CompSc X scope x N')
    (ht : ∀ C s H fp pn, PTs (cxComp X scope x N' C s H fp pn) ifs tt) (he : ∀ C s H fp pn, PE (cxComp X scope x N' C s H fp pn) elt te) {Q : VK} {itv : Value} {s2 : Shared} {RR : Value → Addr → Result → Shared → Prop}
    (h2 : PIE X pins σ (.Name x px) (fun J H1 => ∀ D, H1 D = none → CompW J tt te σ Q D H1) itv s2)
    (hend : ∀ (D C : Addr) (H6 : Hp) (s7 : Shared) (m7 : Str → Option Value), Inv X pins σ H6 s7 → s7.heap.Ns C m7 → FpOk X pins H6 C → Q (.ref D) H6 → RR (.ref D) C (.ok .next) s7) :
    wpAny (model X.prog X.w) X.A (newList []) (fun acc s3 => wpAny (model X.prog X.w) X.A (newFunctionEnv scope X.env.globals (clOf X.env scope.names []) [] X.env.qual none .none (some X.env)) (fun cenv s4 =>
      codeAny (model X.prog X.w) X.A (.compStart (.ListComp elt [⟨.Name x px, iter, ifs, 0⟩] scope pos) 0 itv acc { cenv with scope := relabel scope X.env }) (RR acc cenv.locals) s4) X.xe s3) X.xe s2 := by
  obtain ⟨it, fp, tn, J, H2, e, I2, T, st2, f2, hW⟩ := h2
  subst e
  have hlt : ∀ b ∈ fp, b < s2.heap.objs.size := fun b hb => by
    obtain ⟨o, ho, _⟩ := T.obj _ _ st2 b hb
    exact Heap.lt_size ho
  obtain ⟨W, ⟨m0, w0⟩, hturn⟩ := hW s2.heap.objs.size (I2.hok.fresh (Nat.le_refl _))
  refine wpAny_newObj_type ?_ (by show 0 ≤ sizeLine; exact Nat.zero_le _)
  have I3 : Inv X pins σ (upd H2 s2.heap.objs.size (.lst [])) { s2 with heap := s2.heap.push { cls := .type "list", data := .seq ([] : List Value).toArray } } := I2.lnew (t' := s2.toks) .nil (Nat.zero_le _)
  have f3 : ∀ b ∈ fp, FpOk X pins (upd H2 s2.heap.objs.size (.lst [])) b := fun b hb => by
    obtain ⟨g0, g⟩ := f2 b hb
    exact ⟨by rw [upd_ne (Nat.ne_of_lt (hlt b hb))]; exact g0, g⟩
  have st3 : tn 0 (s2.heap.push { cls := .type "list", data := .seq ([] : List Value).toArray }) := T.keep _ _ _ st2 fun b _ o e => Heap.get?_push_of_some _ e
  have hlt3 : ∀ b ∈ fp, b < (s2.heap.push { cls := .type "list", data := .seq ([] : List Value).toArray }).objs.size := fun b hb => by rw [Heap.size_push]; exact Nat.lt_succ_of_lt (hlt b hb)
  generalize hs3 : ({ s2 with heap := s2.heap.push { cls := .type "list", data := .seq ([] : List Value).toArray } } : Shared) = s3 at I3
  have eh : s3.heap = s2.heap.push { cls := .type "list", data := .seq ([] : List Value).toArray } := by rw [← hs3]
  rw [← eh] at st3 hlt3
  show wpAny _ _ (newFunctionEnv scope X.env.globals (clOf X.env scope.names []) [] X.env.qual none .none (some X.env)) _ _ _
  refine wpAny_newFunctionEnv S.nocell (by intro y hy; simp at hy) (fun h4 hns4 hsb4 => ?_) S.kind
  have hk4 : ∀ b o, s3.heap.get? b = some o → h4.get? b = some o := fun b o e => (hsb4.2 b (Nat.ne_of_lt (Heap.lt_size e))).trans (Heap.get?_push_of_some _ e)
  have I4 := Inv.compIn (tk := s3.toks + ([] : List (Str × Value)).length) S I3 f3 hlt3 hns4 hk4
  have st4 : tn 0 h4 := T.keep _ _ _ st3 fun b _ o e => hk4 b o e
  have fx : ∀ {H' : Hp}, (∀ b ∈ fp, H' b = none) → ∀ b ∈ fp, FpOk (cxComp X scope x N' s3.heap.objs.size s3 (upd H2 s2.heap.objs.size (.lst [])) fp (X.pn ++ pins)) [] H' b := fun {H'} hn b hb => by
    obtain ⟨_, g1, g2, g3, g4, g5⟩ := f3 b hb
    refine ⟨hn b hb, Nat.ne_of_lt (hlt3 b hb), I4.ok.exfs b hb, .inl hb, fun y c e => (I4.ok.exf b hb).2 y c e, fun p hp => g5 p ?_⟩
    have hp : p ∈ (X.pn ++ pins) ++ [] := hp
    rwa [List.append_nil] at hp
  have loop : ∀ s5 : Shared, (∃ (i n : Nat) (o : Option V) (ys : List V) (H5 : Hp), Inv (cxComp X scope x N' s3.heap.objs.size s3 (upd H2 s2.heap.objs.size (.lst [])) fp (X.pn ++ pins)) [] (o :: σ) H5 s5 ∧ tn i s5.heap ∧ (∀ b ∈ fp, H5 b = none) ∧ W i n ys H5) →
      codeAny (model X.prog X.w) X.A (.compLoop (.ListComp elt [⟨.Name x px, iter, ifs, 0⟩] scope pos) 0 (.ref it) (.ref s2.heap.objs.size) (compEnvC scope (clOf X.env scope.names []) s3.heap.objs.size X.env))
        (RR (.ref s2.heap.objs.size) s3.heap.objs.size) s5 := by
    rintro s5 ⟨i5, n5, o5, ys5, H5, I5, st5, fr5, w5⟩
    refine comp_loop (fun n s' => ∃ (i : Nat) (o : Option V) (ys : List V) (H5 : Hp), Inv (cxComp X scope x N' s3.heap.objs.size s3 (upd H2 s2.heap.objs.size (.lst [])) fp (X.pn ++ pins)) [] (o :: σ) H5 s' ∧ tn i s'.heap ∧ (∀ b ∈ fp, H5 b = none) ∧ W i n ys H5) ?_ n5 ⟨i5, o5, ys5, H5, I5, st5, fr5, w5⟩
    rintro n s6 ⟨i, o, ys, H6, I6, st6, fr6, w6⟩
    rcases hturn i n ys H6 w6 with ⟨stop, qn⟩ | ⟨go, step⟩
    · refine thn (T.done (cxComp X scope x N' s3.heap.objs.size s3 (upd H2 s2.heap.objs.size (.lst [])) fp (X.pn ++ pins)) rfl rfl rfl hc i [] s6 _ H6 _ I6 (fx fr6) st6 stop) fun r s7 ⟨hr, I7⟩ => ?_
      subst hr
      obtain ⟨m7, hn7, _⟩ := id I7.loc
      have I8 : Inv X pins σ H6 s7 := I3.call' I7.os I7.base I7.hok I7.bare fun b hb => by
        obtain ⟨_, g1, g2, g3, g4, g5⟩ := f3 b hb
        exact ⟨g3, g1, g4, g5⟩
      have f8 : FpOk X pins H6 s3.heap.objs.size := I3.fpOk (Nat.le_refl _) I7.free
      exact hend _ _ H6 s7 m7 I8 hn7 f8 qn
    · refine thn (T.item (cxComp X scope x N' s3.heap.objs.size s3 (upd H2 s2.heap.objs.size (.lst [])) fp (X.pn ++ pins)) rfl rfl rfl hc i [] s6 _ H6 _ I6 (fx fr6) st6 go) fun r s7 ⟨u, hr, h7⟩ => ?_
      subst hr
      refine thn h7 fun _ s8 ⟨v, H8, I8, r8, y8, st8, fr8⟩ => ?_
      have I8' := I8.pinned (fx fr8) (T.obj _ _ st8)
      refine wpAny_assign_Name (store_ok I8' (i := 0) (List.nodup_cons.mpr ⟨S.nin, S.nd⟩) rfl (.inl (lookup_relabel_local S.loc)) r8 (fun s9 I9 => ?_) (.inr (lookup_relabel_local S.loc)))
      have I9 : Inv (cxComp X scope x N' s3.heap.objs.size s3 (upd H2 s2.heap.objs.size (.lst [])) fp (X.pn ++ pins)) ([] ++ pinsAt fp s8.heap) (some v :: σ) H8 s9 := I9
      refine thn (ht _ _ _ _ _ _ s9 (some v :: σ) H8 _ _ I9 (step v H8 y8)) fun b s10 ⟨H10, I10, q10⟩ => ?_
      have back : ∀ {s' : Shared} {H' : Hp} {ys' : List V} {m' : Nat}, Inv (cxComp X scope x N' s3.heap.objs.size s3 (upd H2 s2.heap.objs.size (.lst [])) fp (X.pn ++ pins)) ([] ++ pinsAt fp s8.heap) (some v :: σ) H' s' → W (i + 1) m' ys' H' →
          ∃ (i : Nat) (o : Option V) (ys : List V) (H5 : Hp), Inv (cxComp X scope x N' s3.heap.objs.size s3 (upd H2 s2.heap.objs.size (.lst [])) fp (X.pn ++ pins)) [] (o :: σ) H5 s' ∧ tn i s'.heap ∧ (∀ b ∈ fp, H5 b = none) ∧ W i m' ys H5 := fun {s' H' ys' m'} I' w' => by
        refine ⟨i + 1, some v, ys', H', I'.unpinned, T.keep _ _ _ st8 fun b hb o e => (I'.pin (b, o) (List.mem_append_right _ (List.mem_append_right _ (mem_pinsAt hb e)))).1, fun b hb => ?_, w'⟩
        obtain ⟨o, e, d⟩ := T.obj _ _ st8 b hb
        exact (I'.pin (b, o) (List.mem_append_right _ (List.mem_append_right _ (mem_pinsAt hb e)))).2.1
      cases b with
      | false =>
        rw [if_neg Bool.false_ne_true] at q10 ⊢
        obtain ⟨m', hm, w'⟩ := q10
        exact ⟨m', hm, back I10 w'⟩
      | true =>
        rw [if_pos rfl] at q10 ⊢
        refine thn (he _ _ _ _ _ _ s10 (some v :: σ) H10 _ I10 q10) fun y s11 ⟨yv, H11, I11, r11, hD, hz, m', hm, w'⟩ => ?_
        have ap := mt_append (X := cxComp X scope x N' s3.heap.objs.size s3 (upd H2 s2.heap.objs.size (.lst [])) fp (X.pn ++ pins)) _ s11 (some v :: σ) H11 (.ref s2.heap.objs.size) [yv] (.ref s2.heap.objs.size) [y] (fun _ H' => W (i + 1) m' (ys ++ [yv]) H') I11 rfl (.cons r11 .nil) ⟨_, ys, yv, rfl, rfl, hD, hz, w'⟩
        exact thn ap fun _ s12 ⟨_, H12, I12, _, w12⟩ => ⟨m', hm, back I12 w12⟩
  have l4 := loop { s3 with heap := h4, toks := s3.toks + ([] : List (Str × Value)).length } ⟨0, m0, none, [], _, I4, st4, fun b hb => (f3 b hb).1, w0⟩
  exact codeAny_compStart_list l4 (T.self _ _ _ _ _ st4 l4)
theorem pe_comp {elt iter : Expr} {x : Str} {N' : List Str} {px : Pos} {ifs : List Expr} {scope : Scope} {pos : Pos} {wi : TI} {tt : TT} {te : TE} (hc : X.calm = true) (hi : PI X (.Name x px) iter wi) (S : CompSc X scope x N')
    (ht : ∀ C s H fp pn, PTs (cxComp X scope x N' C s H fp pn) ifs tt) (he : ∀ C s H fp pn, PE (cxComp X scope x N' C s H fp pn) elt te) (hs : ∀ x, foldedSetIterable iter X.env x = pure x := by intro _; rfl) :
    PE X (.ListComp elt [⟨.Name x px, iter, ifs, 0⟩] scope pos) (tComp wi tt te) := by
  intro pins s σ H Q I h
  have hcells : ∀ y ∈ scope.names, y.2 = .free → ∃ c, X.env.cells.lookup y.1 = some c := fun y hy hk => I.ok.has y.1 (S.free y hy hk)
  rw [eval_ListComp]
  refine wpAny_comprehension_free (use := none) rfl hs (closure_of hcells) S.kind S.names (thn (hi pins s σ H _ I h) fun xv s1 h1 => thn h1 fun itv s2 h2 => ?_)
  refine comp_core (RR := fun acc C => compPost (model X.prog X.w) X.A X.xe none (EP X pins σ Q) acc C) hc S ht he h2 fun D C H6 s7 m7 I8 hn7 f8 qn => ?_
  refine ⟨m7, hn7, fun h' hs' => ?_⟩
  obtain ⟨g0, g1, g2, g3, g4, g5⟩ := f8
  exact ⟨.ref D, H6, I8.turned (t' := s7.toks) (fun b o hb e => (hs'.2 b hb).trans e) g0 g1 g3 g4 g5, rfl, qn⟩
theorem ps_comp {elt iter : Expr} {x y : Str} {N' : List Str} {i : Nat} {px py : Pos} {ifs : List Expr} {scope : Scope} {pos spos : Pos} {wi : TI} {tt : TT} {te : TE} (hN : X.N.Nodup) (hiy : X.N[i]? = some y) (hy : Loc X.env.scope y) (hc : X.calm = true) (hi : PI X (.Name x px) iter wi) (S : CompSc X scope x N')
    (ht : ∀ C s H fp pn, PTs (cxComp X scope x N' C s H fp pn) ifs tt) (he : ∀ C s H fp pn, PE (cxComp X scope x N' C s H fp pn) elt te)
    (hsw : swapsWith (.ListComp elt [⟨.Name x px, iter, ifs, 0⟩] scope pos) (some (.Name y py)) spos.line X.env = pure true := by rfl) (hs : ∀ x, foldedSetIterable iter X.env x = pure x := by intro _; rfl)
    (hf : X.fn y = true ∨ X.env.scope.names.lookup y = some .local := by first | exact .inl rfl | exact .inr rfl | assumption) :
    PS X (.Assign [.Name y py] (.ListComp elt [⟨.Name x px, iter, ifs, 0⟩] scope pos) spos) (tAsg (tComp wi tt te) (gName i)) := by
  intro pins s σ H D I h
  have hcells : ∀ y ∈ scope.names, y.2 = .free → ∃ c, X.env.cells.lookup y.1 = some c := fun y hy hk => I.ok.has y.1 (S.free y hy hk)
  rw [exec_Assign_Name_used _ _ _ _ hsw]
  refine wpAny_bind (wpAny_standAt (wpAny_bind ?_))
  show wpAny _ X.A (do let _ ← comprehension (.ListComp elt [⟨.Name x px, iter, ifs, 0⟩] scope pos) scope X.env _ (newList []) false (eval iter X.env) (some (assign (.Name y py) X.env))) _ _ s
  refine wpAny_bind (thn (wpAny_comprehension_free (use := some (assign (.Name y py) X.env)) (Q := fun _ s' => SP X pins D .next s') rfl hs (closure_of hcells) S.kind S.names
    (thn (hi pins s σ H _ I h) fun xv s1 h1 => thn h1 fun itv s2 h2 => ?_)) fun _ s' hq => wpAny_pure (wpAny_pure hq))
  refine comp_core (RR := fun acc C => compPost (model X.prog X.w) X.A X.xe (some (assign (.Name y py) X.env)) (fun _ s' => SP X pins D .next s') acc C) hc S ht he h2 fun L C H6 s7 m7 I8 hn7 f8 qn => ?_
  obtain ⟨g0, g1, g2, g3, g4, g5⟩ := f8
  show wpAny _ X.A (assign (.Name y py) X.env (.ref L)) _ _ _
  refine wpAny_assign_Name (store_ok2 I8 hN hiy hy (v := .ref L) (u := .ref L) rfl (fun s8 I9 hch => ?_) hf)
  obtain ⟨a, hsb, ha⟩ := hch
  have hCa : C ≠ a := by
    rcases ha with z | z
    · rw [z]; exact g1
    · exact fun w => g4 _ _ z w.symm
  refine ⟨m7, hn7.sameBut hsb hCa, fun h' hs' => ?_⟩
  exact ⟨_, H6, I9.turned (t' := s8.toks) (fun b o hb e => (hs'.2 b hb).trans e) g0 g1 g3 g4 g5, qn⟩
end
end L2
set_option Elab.async false
set_option linter.all false
set_option maxRecDepth 100000
set_option maxHeartbeats 4000000
namespace L2
open PySem PySem.Spec PyProof.Rows
noncomputable def compOk (sc scope : Scope) (N N' : List Str) (x : Str) : Bool :=
  decide (scope.names.lookup x = some .local) && scope.names.all (fun y => decide (y.2 ≠ .cell)) && decide (scope.kind = .function) && scope.names.all (fun y => decide (y.2 = .local → scope.names.lookup y.1 = some .local)) &&
  scope.names.all (fun y => decide (y.2 = .free → sc.names.lookup y.1 = some .cell ∨ sc.names.lookup y.1 = some .free)) && decide (x ∉ N') && decide N'.Nodup && decide (N'.length = N.length) &&
  (List.range N'.length).all (fun i => match N'[i]? with | some y => decide (N[i]? = some y ∨ scope.names.lookup y = none) | none => true) && scope.names.all (fun y => decide (y.2 = .local → y.1 = x ∨ y.1 ∉ N'))
theorem comp_sc {X : Cx} {scope : Scope} {x : Str} (sc : Scope) (N N' : List Str) (hsc : X.env.scope = sc) (hN : X.N = N) (h : compOk sc scope N N' x = true) : CompSc X scope x N' := by
  subst hsc hN
  unfold compOk at h
  simp only [Bool.and_eq_true, List.all_eq_true, decide_eq_true_eq] at h
  obtain ⟨⟨⟨⟨⟨⟨⟨⟨⟨h1, h2⟩, h3⟩, h4⟩, h5⟩, h6⟩, h7⟩, h7'⟩, h8'⟩, h8⟩ := h
  refine ⟨h1, h2, h3, h4, h5, h6, h7, h7', fun i y e => ?_, h8⟩
  have hi : i < N'.length := (List.getElem?_eq_some_iff.mp e).1
  have z := h8' i (List.mem_range.mpr hi)
  rw [e] at z
  exact of_decide_eq_true z
noncomputable def Its (x : Str) : It := ⟨fun i _ => i < x.cps.size, fun i H v H' => H' = H ∧ ∃ c, x.cps[i]? = some c ∧ v = .str ⟨#[c]⟩, fun i _ => x.cps.size = i⟩
section
variable {X : Cx} {tg : Expr}
noncomputable def iStr (tl : TE) : TI := fun σ H R => tl σ H fun v H1 => ∃ x, v = .str x ∧ R (Its x) H1
end
structure Row (J : It) (n : Nat) (vs : Nat → V) (Ok : Hp → Prop) : Prop where
  go : ∀ i H, i < n → Ok H → J.go i H
  yld : ∀ i H v H', i < n → Ok H → J.yld i H v H' → H' = H ∧ v = vs i
  stop : ∀ H, Ok H → J.stop n H
theorem row_range (lo : Int) (n : Nat) : Row (Itr lo n) n (fun i => .int (lo + i)) (fun _ => True) := ⟨fun i H h _ => h, fun i H v H' _ _ h => h, fun H _ => Nat.le_refl n⟩
theorem row_list {K : PySem.W.Frag} {a : Addr} {xs : List V} : Row (Itl K a) xs.length (fun i => xs.getD i .non) (fun H => SqL K H a xs) := ⟨fun i H h q => ⟨xs, xs[i], q, by simp [h]⟩, fun i H v H' hi q h => by
  obtain ⟨e, y⟩ := h
  refine ⟨e, ?_⟩
  have := y xs q
  rw [List.getD_eq_getElem?_getD, this]; rfl, fun H q => ⟨xs, q, Nat.le_refl _⟩⟩
theorem row_tup {K : PySem.W.Frag} {a : Addr} {xs : List V} : Row (Itt K a) xs.length (fun i => xs.getD i .non) (fun H => SqT K H a xs) := ⟨fun i H h q => ⟨xs, xs[i], q, by simp [h]⟩, fun i H v H' hi q h => by
  obtain ⟨e, y⟩ := h
  refine ⟨e, ?_⟩
  have := y xs q
  rw [List.getD_eq_getElem?_getD, this]; rfl, fun H q => ⟨xs, q, Nat.le_refl _⟩⟩
noncomputable def ForW (J : It) (g : TG) (tb : TS) (D : Ends) (σ : St) (H : Hp) : Prop := ∃ W : Nat → Nat → St → Hp → Prop, (∃ m, W 0 m σ H) ∧ ∀ i m σ H, W i m σ H →
      (J.stop i H ∧ D.nx σ H) ∨ (J.go i H ∧ ∃ N : St → Hp → Prop, (∀ σ' H', N σ' H' → ∃ m', m' < m ∧ W (i + 1) m' σ' H') ∧ ∀ x H', J.yld i H x H' → g x σ H' fun σ2 H2 => tb { D with nx := N, ct := N, bk := D.nx } σ2 H2)
theorem for_row {J : It} {n : Nat} {vs : Nat → V} {Ok : Hp → Prop} (R : Row J n vs Ok) {g : TG} {tb : TS} {D : Ends} {σ : St} {H : Hp} (Pv : Nat → St → Hp → Prop) (h0 : Pv 0 σ H) (hok : ∀ i σ H, Pv i σ H → Ok H)
    (hs : ∀ i σ H, i < n → Pv i σ H → g (vs i) σ H fun σ2 H2 => tb { D with nx := Pv (i + 1), ct := Pv (i + 1), bk := D.nx } σ2 H2) (hd : ∀ σ H, Pv n σ H → D.nx σ H) :
    ForW J g tb D σ H := by
  refine ⟨fun i m σ H => m = n - i ∧ i ≤ n ∧ Pv i σ H, ⟨n, by simp, Nat.zero_le _, h0⟩, ?_⟩
  rintro i m σ H ⟨rfl, hi, p⟩
  by_cases hlt : i < n
  · refine .inr ⟨R.go i H hlt (hok i σ H p), Pv (i + 1), fun σ' H' p' => ⟨n - (i + 1), by omega, rfl, hlt, p'⟩, fun x H' y => ?_⟩
    obtain ⟨e1, e2⟩ := R.yld i H x H' hlt (hok i σ H p) y
    subst e1 e2
    exact hs i σ _ hlt p
  · have e : i = n := by omega
    subst e
    exact .inl ⟨R.stop H (hok i σ H p), hd σ H p⟩
theorem comp_row {J : It} {n : Nat} {vs : Nat → V} {Ok : Hp → Prop} (R : Row J n vs Ok) {te : TE} {Q : VK} {σ : St} {H1 : Hp} {D : Addr} (Pv : Nat → List V → Hp → Prop) (hn : n ≤ sizeLine) (h0 : Pv 0 [] (upd H1 D (.lst []))) (hok : ∀ i ys H, Pv i ys H → Ok H)
    (hs : ∀ i ys H (Q' : VK), i < n → ys.length = i → Pv i ys H → (∀ y H4, H4 D = some (.lst ys) → Pv (i + 1) (ys ++ [y]) (upd H4 D (.lst (ys ++ [y]))) → Q' y H4) → te (some (vs i) :: σ) H Q')
    (hd : ∀ ys H, ys.length = n → Pv n ys H → Q (.ref D) H) :
    CompW J tYes te σ Q D H1 := by
  refine ⟨fun i m ys H => m = n - i ∧ i ≤ n ∧ ys.length = i ∧ Pv i ys H, ⟨n, by simp, Nat.zero_le _, rfl, h0⟩, ?_⟩
  rintro i m ys H ⟨rfl, hi, hl, p⟩
  by_cases hlt : i < n
  · refine .inr ⟨R.go i H hlt (hok i ys H p), fun v H2 y => ?_⟩
    obtain ⟨e1, e2⟩ := R.yld i H v H2 hlt (hok i ys H p) y
    subst e1 e2
    exact hs i ys _ _ hlt hl p fun v H4 q1 q2 => ⟨q1, by omega, n - (i + 1), by omega, rfl, hlt, by simp [hl], q2⟩
  · have e : i = n := by omega
    subst e
    exact .inl ⟨R.stop H (hok _ ys H p), hd ys H hl p⟩
end L2
set_option Elab.async false
set_option linter.all false
set_option maxRecDepth 100000
set_option maxHeartbeats 4000000
namespace L2
open PySem PySem.Spec PyProof.Rows
noncomputable def mVar (i : Nat) : TE := fun σ H Q => match σ[i]? with | some (some v) => Q v H | _ => False
noncomputable def mB (Q : Bool → Hp → Prop) : VK := fun z H' => match z with | .bl k => Q k H' | _ => False
theorem mB_eq (Q : Bool → Hp → Prop) : mB Q = fun z H' => ∃ k, z = .bl k ∧ Q k H' := by
  funext z H'
  cases z <;> simp [mB]
section
variable {X : Cx} {a b c e : Expr} {ta tb tc te : TE} {pos : Pos}
theorem mv (i : Nat) {x : Str} {pos : Pos} (hN : X.N[i]? = some x := by rfl) (hv : Vis X.env.scope x := by first | exact Or.inl rfl | exact Or.inr (Or.inl rfl) | exact Or.inr (Or.inr rfl)) (hd : (x == ("__debug__" : Str)) = false := by decide)
    (hcd : (x == ("__classdict__" : Str)) = false := by decide) : PE X (.Name x pos) (mVar i) := by
  intro pins s σ H Q I h
  refine pe_var hN hv hd hcd pins s σ H Q I ?_
  unfold mVar at h
  split at h
  · rename_i v q; exact ⟨v, q, h⟩
  · exact h.elim
noncomputable def m2 (C : Int → Int → Prop) (g : Int → Int → V) : R2 := fun x y H Q => match x, y with
  | .int i, .int j => C i j ∧ Q (g i j) H
  | _, _ => False
noncomputable def m20 (g : Int → Int → V) : R2 := fun x y H Q => match x, y with
  | .int i, .int j => Q (g i j) H
  | _, _ => False
theorem m2_to {C : Int → Int → Prop} {g : Int → Int → V} {x y : V} {H : Hp} {Q : VK} (h : m2 C g x y H Q) : rI C g x y H Q := by
  cases x <;> cases y <;> first | exact (show False from h).elim | exact ⟨_, _, rfl, rfl, h⟩
theorem m20_to {g : Int → Int → V} {x y : V} {H : Hp} {Q : VK} (h : m20 g x y H Q) : rI0 g x y H Q := by
  cases x <;> cases y <;> first | exact (show False from h).elim | exact ⟨_, _, rfl, rfl, h⟩
theorem OpR.imp {f : Value → Value → Sem Value} {r r' : R2} (h : OpR X f r) (k : ∀ x y H Q, r' x y H Q → r x y H Q) : OpR X f r' := fun pins s σ H x y v u Q I rx ry q => h pins s σ H x y v u Q I rx ry (k x y H Q q)
noncomputable def mAdd (K : PySem.W.Frag) : R2 := fun x y H Q => match x, y with
  | .int i, .int j => Q (.int (i + j)) H
  | .str i, .str j => i.length + j.length ≤ sizeLine ∧ Q (.str (i ++ j)) H
  | .ref p, .ref q => (∃ xs ys, H p = some (.lst xs) ∧ H q = some (.lst ys) ∧ xs.length + ys.length ≤ sizeLine ∧ ∀ d, H d = none → Q (.ref d) (upd H d (.lst (xs ++ ys)))) ∨
      ∃ xs ys, SqT K H p xs ∧ SqT K H q ys ∧ xs ≠ [] ∧ xs.length + ys.length ≤ sizeLine ∧ (ys = [] → Q (.ref p) H) ∧ (ys ≠ [] → ∀ d, H d = none → Q (.ref d) (upd H d (.tup (xs ++ ys))))
  | _, _ => False
theorem mo_add : OpR X (binaryOp .Add) (mAdd X.K) := by
  refine (op_add.or (op_add_str.or (op_cat.or op_catT))).imp fun x y H Q h => ?_
  cases x <;> cases y <;> first
    | exact (show False from h).elim
    | exact .inl ⟨_, _, rfl, rfl, h⟩
    | exact .inr (.inl ⟨_, _, rfl, rfl, h⟩)
    | (rcases h with ⟨xs, ys, h1, h2, h3, h4⟩ | ⟨xs, ys, h1, h2, h3, h4, h5⟩
       · exact .inr (.inr (.inl ⟨_, _, xs, ys, rfl, rfl, h1, h2, h3, h4⟩))
       · exact .inr (.inr (.inr ⟨_, _, xs, ys, rfl, rfl, h1, h2, h3, h4, h5⟩)))
theorem mo_sub : OpR X (binaryOp .Sub) (m20 fun i j => .int (i - j)) := op_sub.imp fun _ _ _ _ h => m20_to h
noncomputable def mMul : R2 := fun x y H Q => match x, y with
  | .int i, .int j => IntMulOk i j ∧ Q (.int (i * j)) H
  | .ref l, .int k => ∃ xs, H l = some (.lst xs) ∧ -(2 ^ 63) ≤ k ∧ k < 2 ^ 63 ∧ xs.length * k.toNat ≤ sizeLine ∧ ∀ p, H p = none → Q (.ref p) (upd H p (.lst (List.replicate k.toNat xs).flatten))
  | _, _ => False
theorem op_mulW : OpR X (binaryOp .Mult) (rI (fun i j => IntMulOk i j) fun i j => .int (i * j)) := opI fun _ _ _ _ _ _ _ hc q => mul_int q hc
theorem mo_mul : OpR X (binaryOp .Mult) mMul := by
  refine (op_mulW.or op_rep).imp fun x y H Q h => ?_
  cases x <;> cases y <;> first
    | exact (show False from h).elim
    | exact .inl ⟨_, _, rfl, rfl, h⟩
    | (obtain ⟨xs, h1, h2, h3, h4, h5⟩ := h; exact .inr ⟨_, _, xs, rfl, rfl, h1, h2, h3, h4, h5⟩)
theorem mo_fdiv : OpR X (binaryOp .FloorDiv) (m2 CDiv fun i j => .int (i / j)) := op_fdiv.imp fun _ _ _ _ h => m2_to h
theorem mo_mod : OpR X (binaryOp .Mod) (m2 (fun _ j => 0 < j) fun i j => .int (i % j)) := op_mod.imp fun _ _ _ _ h => m2_to h
theorem mo_pow : OpR X (binaryOp .Pow) (m2 CPow fun i j => .int (i ^ j.toNat)) := op_pow.imp fun _ _ _ _ h => m2_to h
theorem mo_lt : OpR X (compareOp .Lt) (m20 fun i j => .bl (decide (i < j))) := op_lt.imp fun _ _ _ _ h => m20_to h
theorem mo_gt : OpR X (compareOp .Gt) (m20 fun i j => .bl (decide (j < i))) := op_gt.imp fun _ _ _ _ h => m20_to h
theorem mo_ge : OpR X (compareOp .GtE) (m20 fun i j => .bl (decide (j ≤ i))) := op_ge.imp fun _ _ _ _ h => m20_to h
noncomputable def mEq (n : Bool) : R2 := fun x y H Q => match x, y with
  | .int i, .int j => Q (.bl (n ^^ decide (i = j))) H
  | .str i, .str j => Q (.bl (n ^^ decide (i = j))) H
  | .bl i, .bl j => Q (.bl (n ^^ decide (i = j))) H
  | .non, .non => Q (.bl (n ^^ true)) H
  | .non, .int _ => Q (.bl n) H
  | .non, .str _ => Q (.bl n) H
  | .non, .bl _ => Q (.bl n) H
  | .int _, .non => Q (.bl n) H
  | .str _, .non => Q (.bl n) H
  | .bl _, .non => Q (.bl n) H
  | .int _, .str _ => Q (.bl n) H
  | .str _, .int _ => Q (.bl n) H
  | .bl _, .str _ => Q (.bl n) H
  | .str _, .bl _ => Q (.bl n) H
  | _, _ => False
theorem mo_eq : OpR X (compareOp .Eq) (mEq false) := by
  refine op_eq.imp fun x y H Q h => ?_
  cases x <;> cases y <;> first
    | exact (show False from h).elim
    | exact ⟨rfl, by simpa [mEq] using h⟩
theorem mo_ne : OpR X (compareOp .NotEq) (mEq true) := by
  refine op_ne.imp fun x y H Q h => ?_
  cases x <;> cases y <;> first
    | exact (show False from h).elim
    | exact ⟨rfl, by simpa [mEq] using h⟩
noncomputable def mTest (t : TE) : TT := fun σ H Q => t σ H (mB Q)
theorem mTest_eq (t : TE) : mTest t = tTest t := by
  funext σ H Q
  show t σ H (mB Q) = t σ H _
  rw [mB_eq]
theorem mt_cmp {op : CmpOp} {r : R2} (ho : OpR X (compareOp op) r) (ha : PE X a ta) (hb : PE X b tb) (hm : behindInMarks op b = false) : PT X (.Compare a [op] [b] pos) (mTest (tOp r ta tb)) := by
  rw [mTest_eq]; exact pt_cmpR ho ha hb hm
noncomputable def mChain (r r' : R2) (ta tb tc : TE) : TE := fun σ H Q => ta σ H fun x H1 => tb σ H1 fun y H2 => r x y H2 (mB fun k H3 => if k = true then tc σ H3 fun w' H4 => r' y w' H4 Q else Q (.bl false) H3)
noncomputable def mTru (K : PySem.W.Frag) (Q : Bool → Hp → Prop) : VK := fun x H => match x with
  | .non => Q false H
  | .bl b => Q b H
  | .int i => Q (decide (i ≠ 0)) H
  | .str y => y.length ≤ sizeLine ∧ Q (decide (y.length ≠ 0)) H
  | .ref p => (∃ xs, SqL K H p xs ∧ Q (!xs.isEmpty) H) ∨ (∃ xs, SqT K H p xs ∧ Q (!xs.isEmpty) H) ∨ ∃ kvs, H p = some (.dK kvs) ∧ Q (!kvs.isEmpty) H
  | _ => False
theorem mTru_to {K : PySem.W.Frag} {Q : Bool → Hp → Prop} {x : V} {H : Hp} (h : mTru K Q x H) : ∃ k, TruV K x H k ∧ Q k H := by
  cases x with
  | non => exact ⟨_, rfl, h⟩
  | bl b => exact ⟨_, rfl, h⟩
  | int i =>
    have h : Q (decide (i ≠ 0)) H := h
    refine ⟨i != 0, rfl, ?_⟩
    have e : (i != 0) = decide (i ≠ 0) := by
      rw [Bool.eq_iff_iff]; simp
    rw [e]; exact h
  | str y =>
    obtain ⟨h1, h⟩ : y.length ≤ sizeLine ∧ Q (decide (y.length ≠ 0)) H := h
    refine ⟨((y.length : Int) != 0), ⟨h1, rfl⟩, ?_⟩
    have e : ((y.length : Int) != 0) = decide (y.length ≠ 0) := by
      rw [Bool.eq_iff_iff]; simp
    rw [e]; exact h
  | ref p =>
    rcases h with ⟨xs, h1, h2⟩ | ⟨xs, h1, h2⟩ | ⟨xs, h1, h2⟩
    · exact ⟨_, .inl ⟨xs, h1, rfl⟩, h2⟩
    · exact ⟨_, .inr (.inl ⟨xs, h1, rfl⟩), h2⟩
    · exact ⟨_, .inr (.inr ⟨xs, h1, rfl⟩), h2⟩
  | _ => exact (show False from h).elim
noncomputable def mTrue (K : PySem.W.Frag) (ta : TE) : TT := fun σ H Q => ta σ H (mTru K Q)
theorem mt_tru (ha : PE X a ta) (he : ∀ whole, isTrue a X.env whole = (do let v ← whole; standAt a.pos; holding [v] (truthy v)) := by intro _; rfl) : PT X a (mTrue X.K ta) := by
  intro pins s σ H Q I h
  exact isTrue_plain (thn (ha pins s σ H _ I h) fun v s1 ⟨x, H1, I1, r1, q1⟩ => tru_ok pins s1 σ H1 x v Q I1 r1 (mTru_to q1)) (he _)
noncomputable def mAndV (ta tb : TE) : TE := fun σ H Q => ta σ H (mB fun c H1 => if c = true then tb σ H1 Q else Q (.bl false) H1)
noncomputable def mOrV (ta tb : TE) : TE := fun σ H Q => ta σ H (mB fun c H1 => if c = true then Q (.bl true) H1 else tb σ H1 Q)
variable {rest : List Expr}
theorem me_and (ha : PE X a ta) (hb : PE X (.BoolOp .And (b :: rest) pos) tb) : PE X (.BoolOp .And (a :: b :: rest) pos) (mAndV ta tb) := by
  have e : mAndV ta tb = tAndV ta tb := by funext σ H Q; unfold mAndV tAndV; rw [mB_eq]
  rw [e]; exact pe_and ha hb
noncomputable def mIx (K : PySem.W.Frag) : R2 := fun x y H Q => match x, y with
  | .ref p, .int i => (∃ xs v, SqL K H p xs ∧ atI xs i = some v ∧ Q v H) ∨ ∃ xs v, SqT K H p xs ∧ atI xs i = some v ∧ Q v H
  | .str z, .int i => z.length ≤ sizeLine ∧ ∃ c, atI z.cps.toList i = some c ∧ Q (.str ⟨#[c]⟩) H
  | _, _ => False
theorem mi_seq : IxR X (mIx X.K) := by
  intro value slice pins s σ H x y v u Q I rx ry h hs
  refine ix_seq value slice pins s σ H x y v u Q I rx ry ?_ hs
  cases x <;> cases y <;> first
    | exact (show False from h).elim
    | (rcases h with ⟨xs, v, h1, h2, h3⟩ | ⟨xs, v, h1, h2, h3⟩
       · exact .inl ⟨_, xs, _, v, rfl, rfl, h1, h2, h3⟩
       · exact .inr (.inl ⟨_, xs, _, v, rfl, rfl, h1, h2, h3⟩))
    | (obtain ⟨h1, c, h2, h3⟩ := h; exact .inr (.inr ⟨_, _, c, rfl, rfl, h1, h2, h3⟩))
noncomputable def inS (i j : Str) : Bool := !(Builtin.Str.occurrences j i 0 j.length 1).isEmpty
noncomputable def mInS (n : Bool) : R2 := fun x y H Q => match x, y with
  | .str i, .str j => Q (.bl (n ^^ inS i j)) H
  | _, _ => False
noncomputable def mI (R : Option Int → Hp → Prop) : VK := fun x H1 => match x with | .int i => R (some i) H1 | _ => False
noncomputable def mPart (t : TE) : TO := fun σ H Q => t σ H (mI Q)
theorem mp_some (h : PE X e te) : PO X (some e) (mPart te) := by
  have q : mPart te = tPart te := by
    funext σ H Q
    unfold mPart tPart
    congr 1
    funext x H1
    cases x <;> simp [mI]
  rw [q]; exact po_some h
noncomputable def mLen (K : PySem.W.Frag) : List V → Hp → VK → Prop := fun vs H Q => match vs with
  | [.str y] => y.length ≤ sizeLine ∧ Q (.int y.length) H
  | [.ref p] => (∃ xs, SqL K H p xs ∧ Q (.int xs.length) H) ∨ ∃ xs, SqT K H p xs ∧ Q (.int xs.length) H
  | _ => False
theorem mc_len : CallR X (.builtin "len") (mLen X.K) := by
  intro pins s σ H xs us Q I r h
  refine call_len pins s σ H xs us Q I r ?_
  unfold mLen at h
  split at h
  · exact ⟨_, _, rfl, ⟨h.1, rfl⟩, h.2⟩
  · rcases h with ⟨ys, h1, h2⟩ | ⟨ys, h1, h2⟩
    · exact ⟨_, _, rfl, .inl ⟨ys, h1, rfl⟩, h2⟩
    · exact ⟨_, _, rfl, .inr ⟨ys, h1, rfl⟩, h2⟩
  · exact h.elim
theorem kit_same (K : PySem.W.Frag) (t : Value) : PySem.W.kitOne K t t = some true := by
  unfold PySem.W.kitOne
  rw [if_pos (by simp)]
end
end L2
set_option Elab.async false
set_option linter.all false
set_option maxRecDepth 100000
set_option maxHeartbeats 4000000
namespace L2
open PySem PySem.Spec PyProof.Rows
section
variable {X : Cx} {a b c e : Expr} {ta tb tc te : TE} {pos : Pos}
noncomputable def mNotV (K : PySem.W.Frag) (ta : TE) : TE := fun σ H Q => ta σ H (mTru K fun b H' => Q (.bl (!b)) H')
theorem me_not (ha : PE X a ta) : PE X (.UnaryOp .Not a pos) (mNotV X.K ta) := by
  intro pins s σ H Q I h
  refine UnaryOp_ (thn (ha pins s σ H _ I h) fun v s1 ⟨x, H1, I1, r1, q1⟩ => ?_)
  exact not_of (thn (tru_ok pins s1 σ H1 x v _ I1 r1 (mTru_to q1)) fun b s2 ⟨H2, I2, q2⟩ => ⟨.bl (!b), H2, I2, rfl, q2⟩)
noncomputable def mAppend : V → List V → Hp → VK → Prop := fun x vs H Q => match x, vs with
  | .ref l, [y] => ∃ xs, H l = some (.lst xs) ∧ xs.length < sizeLine ∧ Q .non (upd H l (.lst (xs ++ [y])))
  | _, _ => False
theorem mm_append : MtR X "list.append" mAppend := by
  intro pins s σ H x xs v us Q I rx rs h
  refine mt_append pins s σ H x xs v us Q I rx rs ?_
  unfold mAppend at h
  split at h
  · obtain ⟨ys, h1, h2, h3⟩ := h
    exact ⟨_, ys, _, rfl, rfl, h1, h2, h3⟩
  · exact h.elim
noncomputable def mPop : V → List V → Hp → VK → Prop := fun x vs H Q => match x, vs with
  | .ref l, [] => ∃ xs y, H l = some (.lst (xs ++ [y])) ∧ Q y (upd H l (.lst xs))
  | _, _ => False
theorem mm_pop : MtR X "list.pop" mPop := by
  intro pins s σ H x xs v us Q I rx rs h
  refine mt_pop pins s σ H x xs v us Q I rx rs ?_
  unfold mPop at h
  split at h
  · obtain ⟨ys, y, h1, h2⟩ := h
    exact ⟨_, _, y, rfl, rfl, h1, by simp, by rw [List.dropLast_concat]; exact h2⟩
  · exact h.elim
noncomputable def mRev : V → List V → Hp → VK → Prop := fun x vs H Q => match x, vs with
  | .ref l, [] => ∃ xs, H l = some (.lst xs) ∧ Q .non (upd H l (.lst xs.reverse))
  | _, _ => False
theorem mm_reverse : MtR X "list.reverse" mRev := by
  intro pins s σ H x xs v us Q I rx rs h
  refine mt_reverse pins s σ H x xs v us Q I rx rs ?_
  unfold mRev at h
  split at h
  · obtain ⟨ys, h1, h2⟩ := h
    exact ⟨_, _, rfl, rfl, h1, h2⟩
  · exact h.elim
noncomputable def mUn (g : Int → Int) : V → Hp → VK → Prop := fun x H Q => match x with | .int i => Q (.int (g i)) H | _ => False
end
section
variable {X : Cx}
theorem pe_gint {x : Str} {z : Int} {tk : Tok} {pos : Pos} (hg : Gl X x) (hm : X.mg x = some (.int z tk)) (hd : (x == ("__debug__" : Str)) = false := by decide) : PE X (.Name x pos) (tC (.int z)) := pe_glob hg hm ⟨tk, rfl⟩ hd
end
section
variable {X : Cx} {a b c e o : Expr} {es : List Expr} {ta tb tc te to : TE} {t : TA} {pos : Pos} {tg l : Expr} {tl : TE}
theorem pe_bty {x : Str} {n : String} {pos : Pos} (hg : Gl X x) (hm : X.mg x = none) (hv : bootBuiltins x = some (.type n)) (hn : x ≠ "__name__" := by decide) (hd : (x == ("__debug__" : Str)) = false := by decide) : PE X (.Name x pos) (tC (.ty n)) := pe_bltn hg hm hv rfl hn hd
theorem ko_add (K : PySem.W.Frag) (h : X.K = K) : OpR X (binaryOp .Add) (mAdd K) := h ▸ mo_add
theorem kt_tru (K : PySem.W.Frag) (h : X.K = K) (ha : PE X a ta) (he : ∀ whole, isTrue a X.env whole = (do let v ← whole; standAt a.pos; holding [v] (truthy v)) := by intro _; rfl) : PT X a (mTrue K ta) := h ▸ mt_tru ha he
theorem ke_not (K : PySem.W.Frag) (h : X.K = K) (ha : PE X a ta) : PE X (.UnaryOp .Not a pos) (mNotV K ta) := h ▸ me_not ha
theorem ki_seq (K : PySem.W.Frag) (h : X.K = K) : IxR X (mIx K) := h ▸ mi_seq
theorem kc_len (K : PySem.W.Frag) (h : X.K = K) : CallR X (.builtin "len") (mLen K) := h ▸ mc_len
theorem kpi_list (K : PySem.W.Frag) (h : X.K = K) (hl : PE X l tl) : PI X tg l (iList K tl) := h ▸ pi_list hl
theorem kpi_tup (K : PySem.W.Frag) (h : X.K = K) (hl : PE X l tl) : PI X tg l (iTup K tl) := h ▸ pi_tup hl
theorem ke_bm0 (K : PySem.W.Frag) (h : X.K = K) {name : Str} {apos cpos : Pos} {T id : String} {r : V → List V → Hp → VK → Prop} (pa : PlainAttrs T) (slot : Slot T name id) (hty : typeOf (.builtin id) = pure (.type "method_descriptor")) (hm : MtR X id r) (ho : PE X o to)
    (hbase : attributeBase o name X.env (eval o X.env) = eval o X.env := by rfl) (hline : (apos.endLine == cpos.line) = true := by rfl) : PE X (.Call (.Attribute o name apos) [] [] cpos) (tBM0 K T r to) := h ▸ pe_bm0 pa slot hty hm ho hbase hline
theorem ke_bm (K : PySem.W.Frag) (h : X.K = K) {name : Str} {apos cpos : Pos} {T id : String} {r : V → List V → Hp → VK → Prop} (pa : PlainAttrs T) (slot : Slot T name id) (hty : typeOf (.builtin id) = pure (.type "method_descriptor")) (hm : MtR X id r) (ho : PE X o to) (ha : PA X (e :: es) t)
    (hbase : attributeBase o name X.env (eval o X.env) = eval o X.env := by rfl)
    (hfew : ((backTo cpos (starEach (e :: es) X.env)).all (fun x => !x.1) && (backToKw cpos (keywordEach [] X.env)).all (fun x => x.1.isSome)
      && decide ((e :: es).length + ([] : List Keyword).length + (if ([] : List Keyword).isEmpty then 0 else 1) < 30)) = true := by rfl)
    (hline : (apos.endLine == cpos.line) = true := by rfl) (hs : starEach (e :: es) X.env = (false, eval e X.env) :: starEach es X.env := by rfl) (hplain : (backTo cpos (starEach es X.env)).any (·.1) = false := by rfl) :
    PE X (.Call (.Attribute o name apos) (e :: es) [] cpos) (tBM K T r to t) := h ▸ pe_bm pa slot hty hm ho ha hbase hfew hline hs hplain
theorem xor_n {b c : Bool} (h : (false ^^ b) = c) : b = c := by cases b <;> exact h
end
theorem atI_lt {α : Type} {xs : List α} {i : Int} (h0 : 0 ≤ i) (h1 : i < (xs.length : Int)) : ∃ v, atI xs i = some v ∧ xs[i.toNat]? = some v := by
  have hk : i.toNat < xs.length := by omega
  have ek : i = ((i.toNat : Nat) : Int) := by omega
  have q : xs[i.toNat]? = some xs[i.toNat] := List.getElem?_eq_getElem hk
  refine ⟨xs[i.toNat], ?_, q⟩
  have := atI_nat q
  rw [← ek] at this
  exact this
theorem same_new {H : Hp} {p : Addr} (h : H p = none) (o : HO) : Same H (upd H p o) := fun b u q => by rw [upd_ne (ne_of_none q h)]; exact q
theorem same_upd {H H' : Hp} {p : Addr} {o : HO} (e : Same H H') (h : H p = none) : Same H (upd H' p o) := fun b u q => by rw [upd_ne (ne_of_none q h)]; exact e b u q
theorem Same.tup {K : PySem.W.Frag} {H H' : Hp} {a : Addr} {xs : List V} (e : Same H H') (h : SqT K H a xs) : SqT K H' a xs := by
  rcases h with (h | ⟨o, h⟩) | h
  · exact .inl (.inl (e _ _ h))
  · exact .inl (.inr ⟨o, e _ _ h⟩)
  · exact .inr h
theorem cdiv_i {i j : Int} (h1 : 0 < j) (h2 : j < 1073741824) : CDiv i j := ⟨h1, h2⟩
theorem mulOk_right {i j : Int} (h : -(2 ^ 64) < j ∧ j < 2 ^ 64) : IntMulOk i j := CMul.ok (.inr h)
theorem mulOk_left {i j : Int} (h : -(2 ^ 64) < i ∧ i < 2 ^ 64) : IntMulOk i j := CMul.ok (.inl h)
section
variable {K : PySem.W.Frag} {σ : St} {H : Hp} {Q : VK} {D : Ends} {ta tb tc te : TE} {t u : TS} {A B : TT} {P : Bool → Hp → Prop} {v x y : V} {i j : Int} {n : Nat} {b : Bool} {p q : Str}
theorem mVar_i (h : σ[n]? = some (some v)) (k : Q v H) : mVar n σ H Q := by unfold mVar; rw [h]; exact k
theorem tC_i (k : Q v H) : tC v σ H Q := k
theorem tOp_i {r : R2} (k : ta σ H fun x H1 => tb σ H1 fun y H2 => r x y H2 Q) : tOp r ta tb σ H Q := k
theorem tUn_i {r : V → Hp → VK → Prop} (k : ta σ H fun x H1 => r x H1 Q) : tUn r ta σ H Q := k
theorem mUn_i {g : Int → Int} (k : Q (.int (g i)) H) : mUn g (.int i) H Q := k
theorem m20_i {g : Int → Int → V} (k : Q (g i j) H) : m20 g (.int i) (.int j) H Q := k
theorem m2_i {C : Int → Int → Prop} {g : Int → Int → V} (c : C i j) (k : Q (g i j) H) : m2 C g (.int i) (.int j) H Q := ⟨c, k⟩
theorem mAdd_i (k : Q (.int (i + j)) H) : mAdd K (.int i) (.int j) H Q := k
theorem mAdd_s (c : p.length + q.length ≤ sizeLine) (k : Q (.str (p ++ q)) H) : mAdd K (.str p) (.str q) H Q := ⟨c, k⟩
theorem mMul_i (c : IntMulOk i j) (k : Q (.int (i * j)) H) : mMul (.int i) (.int j) H Q := ⟨c, k⟩
theorem mEq_i (k : Q (.bl (b ^^ decide (i = j))) H) : mEq b (.int i) (.int j) H Q := k
theorem mEq_s (k : Q (.bl (b ^^ decide (p = q))) H) : mEq b (.str p) (.str q) H Q := k
theorem mEq_b {c d : Bool} (k : Q (.bl (b ^^ decide (c = d))) H) : mEq b (.bl c) (.bl d) H Q := k
theorem mInS_i (k : Q (.bl (b ^^ inS p q)) H) : mInS b (.str p) (.str q) H Q := k
theorem mB_i (k : P b H) : mB P (.bl b) H := k
theorem mTest_i (k : ta σ H (mB P)) : mTest ta σ H P := k
theorem mTrue_i (k : ta σ H (mTru K P)) : mTrue K ta σ H P := k
theorem mTru_b (k : P b H) : mTru K P (.bl b) H := k
theorem mChain_i {r r' : R2} (k : ta σ H fun x H1 => tb σ H1 fun y H2 => r x y H2 (mB fun k H3 => if k = true then tc σ H3 fun w' H4 => r' y w' H4 Q else Q (.bl false) H3)) : mChain r r' ta tb tc σ H Q := k
theorem mAndV_i (k : ta σ H (mB fun c H1 => if c = true then tb σ H1 Q else Q (.bl false) H1)) : mAndV ta tb σ H Q := k
theorem mOrV_i (k : ta σ H (mB fun c H1 => if c = true then Q (.bl true) H1 else tb σ H1 Q)) : mOrV ta tb σ H Q := k
theorem mNotV_i (k : ta σ H (mTru K fun b H' => Q (.bl (!b)) H')) : mNotV K ta σ H Q := k
theorem tIf_i (k : A σ H fun c H1 => if c = true then ta σ H1 Q else tb σ H1 Q) : tIf A ta tb σ H Q := k
theorem tAnd_i (k : A σ H fun c H1 => if c = true then B σ H1 P else P false H1) : tAnd A B σ H P := k
theorem tOr_i (k : A σ H fun c H1 => if c = true then P true H1 else B σ H1 P) : tOr A B σ H P := k
theorem tNot_i (k : A σ H fun c H1 => P (!c) H1) : tNot A σ H P := k
theorem tSeq_i (k : t { D with nx := u D } σ H) : tSeq t u D σ H := k
theorem tNext_i (k : D.nx σ H) : tNext D σ H := k
theorem tRet_i (k : te σ H D.rt) : tRet te D σ H := k
theorem tIfS_i (k : A σ H fun b H1 => if b = true then t D σ H1 else u D σ H1) : tIfS A t u D σ H := k
theorem tAsg_i {g : TG} (k : te σ H fun x H1 => g x σ H1 D.nx) : tAsg te g D σ H := k
theorem tDrop_i (k : te σ H fun _ H1 => D.nx σ H1) : tDrop te D σ H := k
theorem gName_i {N : St → Hp → Prop} (k : N (σ.set n (some v)) H) : gName n v σ H N := k
theorem tCB_i {r : List V → Hp → VK → Prop} {a : TA} (k : a σ H fun vs H1 => r vs H1 Q) : tCB r a σ H Q := k
theorem tCons_i {a : TA} {R : List V → Hp → Prop} (k : ta σ H fun x H1 => a σ H1 fun xs H2 => R (x :: xs) H2) : tCons ta a σ H R := k
theorem tNil_i {R : List V → Hp → Prop} (k : R [] H) : tNil σ H R := k
theorem tBM_i {T : String} {r : V → List V → Hp → VK → Prop} {a : TA} (k : ta σ H fun x H1 => tyV K T x H1 ∧ a σ H1 fun xs H2 => r x xs H2 Q) : tBM K T r ta a σ H Q := k
theorem tBM0_i {T : String} {r : V → List V → Hp → VK → Prop} (k : ta σ H fun x H1 => tyV K T x H1 ∧ r x [] H1 Q) : tBM0 K T r ta σ H Q := k
theorem tTup_i {a : TA} (k : a σ H fun xs H1 => xs.length ≤ sizeLine ∧ ∀ p, H1 p = none → Q (.ref p) (upd H1 p (.tup xs))) : tTup a σ H Q := k
theorem tLst_i {a : TA} (k : a σ H fun xs H1 => xs.length ≤ sizeLine ∧ ∀ p, H1 p = none → Q (.ref p) (upd H1 p (.lst xs))) : tLst a σ H Q := k
theorem tSl_i {r : V → Option Int → Option Int → Hp → VK → Prop} {tl th : TO} (k : te σ H fun x H1 => tl σ H1 fun l H2 => th σ H2 fun u H3 => r x l u H3 Q) : tSl r te tl th σ H Q := k
theorem tNoPart_i {R : Option Int → Hp → Prop} (k : R none H) : tNoPart σ H R := k
theorem mPart_i {R : Option Int → Hp → Prop} (k : te σ H (mI R)) : mPart te σ H R := k
theorem mI_i {R : Option Int → Hp → Prop} (k : R (some i) H) : mI R (.int i) H := k
theorem mLen_l {a : Addr} {xs : List V} (c : SqL K H a xs) (k : Q (.int xs.length) H) : mLen K [.ref a] H Q := .inl ⟨xs, c, k⟩
theorem mLen_t {a : Addr} {xs : List V} (c : SqT K H a xs) (k : Q (.int xs.length) H) : mLen K [.ref a] H Q := .inr ⟨xs, c, k⟩
theorem mIx_l {a : Addr} {xs : List V} (c : SqL K H a xs) (e : atI xs i = some v) (k : Q v H) : mIx K (.ref a) (.int i) H Q := .inl ⟨xs, v, c, e, k⟩
theorem mIx_t {a : Addr} {xs : List V} (c : SqT K H a xs) (e : atI xs i = some v) (k : Q v H) : mIx K (.ref a) (.int i) H Q := .inr ⟨xs, v, c, e, k⟩
theorem mIx_s {c : Nat} (z : p.length ≤ sizeLine) (e : atI p.cps.toList i = some c) (k : Q (.str ⟨#[c]⟩) H) : mIx K (.str p) (.int i) H Q := ⟨z, c, e, k⟩
theorem mAppend_i {a : Addr} {xs : List V} (e : H a = some (.lst xs)) (c : xs.length < sizeLine) (k : Q .non (upd H a (.lst (xs ++ [v])))) : mAppend (.ref a) [v] H Q := ⟨xs, e, c, k⟩
theorem iteB {c d : Prop} (h1 : b = true → c) (h2 : b = false → d) : if b = true then c else d := by
  cases b with
  | true => exact h1 rfl
  | false => exact h2 rfl
theorem tCall0_i {sp : Sp} {E : XK} {a : TA} (k : a σ H fun vs H1 => sp vs H1 Q E) : tCall sp [] E a σ H Q := by
  unfold tCall
  have e : (fun (vs : List V) (H1 : Hp) => sp (vs ++ []) H1 Q E) = fun vs H1 => sp vs H1 Q E := by funext vs H1; rw [List.append_nil]
  rw [e]; exact k
theorem tFor_i {wi : TI} {g : TG} (k : wi σ H fun J H1 => ForW J g t D σ H1) : tFor wi g t D σ H := k
theorem iStr_i {R : It → Hp → Prop} (k : ta σ H fun v H1 => ∃ x, v = .str x ∧ R (Its x) H1) : iStr ta σ H R := k
theorem iList_i {R : It → Hp → Prop} (k : ta σ H fun x H1 => ∃ a, x = .ref a ∧ (∃ xs, SqL K H1 a xs) ∧ R (Itl K a) H1) : iList K ta σ H R := k
theorem iTup_i {R : It → Hp → Prop} (k : ta σ H fun x H1 => ∃ a, x = .ref a ∧ (∃ xs, SqT K H1 a xs) ∧ R (Itt K a) H1) : iTup K ta σ H R := k
theorem iRng1_i {a : TA} {R : It → Hp → Prop} (k : a σ H fun vs H1 => ∃ j : Int, vs = [.int j] ∧ -(2 ^ 62) ≤ j ∧ j < 2 ^ 62 ∧ R (Itr 0 j.toNat) H1) : iRng1 a σ H R := k
theorem tComp_i {wi : TI} {tt : TT} (k : wi σ H fun J H1 => ∀ D, H1 D = none → CompW J tt te σ Q D H1) : tComp wi tt te σ H Q := k
theorem seq_rest (Post : St → Hp → Prop) (h1 : ∀ σ' H', Post σ' H' → u D σ' H') (h2 : (∀ σ' H', Post σ' H' → u D σ' H') → t { D with nx := u D } σ H) : tSeq t u D σ H := h2 h1
theorem ix_str_lt {z : Str} {i : Int} (h0 : 0 ≤ i) (h1 : i < (z.length : Int)) : ∃ c, atI z.cps.toList i = some c := by
  obtain ⟨c, hc, _⟩ := atI_lt (xs := z.cps.toList) h0 (by simp only [Array.length_toList]; exact h1)
  exact ⟨c, hc⟩
end
end L2
set_option Elab.async false
set_option linter.all false
set_option maxRecDepth 100000
set_option maxHeartbeats 4000000
namespace L2
open PySem PySem.Spec PyProof.Rows
mutual
inductive Den (K : PySem.W.Frag) (H : Hp) : V → PyData → Prop
  | non : Den K H .non .none
  | bl (b : Bool) : Den K H (.bl b) (.bool b)
  | int (i : Int) : Den K H (.int i) (.int i)
  | str (x : Str) : Den K H (.str x) (.str x)
  | tup {a : Addr} {us : List V} {ds : List PyData} : SqT K H a us → DenL K H us ds → Den K H (.ref a) (.tuple ds)
inductive DenL (K : PySem.W.Frag) (H : Hp) : List V → List PyData → Prop
  | nil : DenL K H [] []
  | cons {u : V} {us : List V} {d : PyData} {ds : List PyData} : Den K H u d → DenL K H us ds → DenL K H (u :: us) (d :: ds)
end
mutual
theorem Den.monoT {K : PySem.W.Frag} {H H' : Hp} (e : ∀ a xs, SqT K H a xs → SqT K H' a xs) : ∀ {v : V} {d : PyData}, Den K H v d → Den K H' v d
  | _, _, .non => .non
  | _, _, .bl b => .bl b
  | _, _, .int i => .int i
  | _, _, .str x => .str x
  | _, _, .tup h l => .tup (e _ _ h) (DenL.monoT e l)
theorem DenL.monoT {K : PySem.W.Frag} {H H' : Hp} (e : ∀ a xs, SqT K H a xs → SqT K H' a xs) : ∀ {v : List V} {d : List PyData}, DenL K H v d → DenL K H' v d
  | _, _, .nil => .nil
  | _, _, .cons h l => .cons (Den.monoT e h) (DenL.monoT e l)
end
theorem Den.mono {K : PySem.W.Frag} {H H' : Hp} (e : Same H H') {v : V} {d : PyData} (h : Den K H v d) : Den K H' v d := h.monoT fun _ _ q => e.tup q
theorem DenL.mono {K : PySem.W.Frag} {H H' : Hp} (e : Same H H') {v : List V} {d : List PyData} (h : DenL K H v d) : DenL K H' v d := h.monoT fun _ _ q => e.tup q
theorem tup_lst {K : PySem.W.Frag} {H : Hp} {p : Addr} {ys : List V} {o : HO} (h : H p = some (.lst ys)) : ∀ a xs, SqT K H a xs → SqT K (upd H p o) a xs := fun a xs q => by
  rcases q with (q | ⟨o', q⟩) | q
  · exact .inl (.inl (by rw [upd_ne (ne_of q h (fun z => by cases z))]; exact q))
  · exact .inl (.inr ⟨o', by rw [upd_ne (ne_of q h (fun z => by cases z))]; exact q⟩)
  · exact .inr q
theorem Den.lst {K : PySem.W.Frag} {H : Hp} {p : Addr} {ys : List V} {o : HO} (h : H p = some (.lst ys)) {v : V} {d : PyData} (q : Den K H v d) : Den K (upd H p o) v d := q.monoT (tup_lst h)
theorem DenL.lst {K : PySem.W.Frag} {H : Hp} {p : Addr} {ys : List V} {o : HO} (h : H p = some (.lst ys)) {v : List V} {d : List PyData} (q : DenL K H v d) : DenL K (upd H p o) v d := q.monoT (tup_lst h)
section
variable {K : PySem.W.Frag} {H : Hp}
theorem DenL.length : ∀ {us : List V} {ds : List PyData}, DenL K H us ds → us.length = ds.length
  | _, _, .nil => rfl
  | _, _, .cons _ l => by rw [List.length_cons, List.length_cons, DenL.length l]
theorem DenL.get : ∀ {us : List V} {ds : List PyData} {i : Nat} {u : V}, DenL K H us ds → us[i]? = some u → ∃ d, ds[i]? = some d ∧ Den K H u d
  | _, _, _, _, .nil, e => by simp at e
  | _, _, 0, _, .cons h _, e => by simp at e; subst e; exact ⟨_, rfl, h⟩
  | _, _, i + 1, u, .cons _ l, e => by
    obtain ⟨d, h1, h2⟩ := DenL.get (i := i) (u := u) l (by simpa using e)
    exact ⟨d, by simpa using h1, h2⟩
theorem DenL.append : ∀ {us vs : List V} {ds es : List PyData}, DenL K H us ds → DenL K H vs es → DenL K H (us ++ vs) (ds ++ es)
  | _, _, _, _, .nil, l => l
  | _, _, _, _, .cons h t, l => .cons h (DenL.append t l)
theorem DenL.take : ∀ {us : List V} {ds : List PyData} (n : Nat), DenL K H us ds → DenL K H (us.take n) (ds.take n)
  | _, _, 0, _ => .nil
  | _, _, _ + 1, .nil => .nil
  | _, _, n + 1, .cons h t => .cons h (DenL.take n t)
theorem DenL.drop : ∀ {us : List V} {ds : List PyData} (n : Nat), DenL K H us ds → DenL K H (us.drop n) (ds.drop n)
  | _, _, 0, l => l
  | _, _, _ + 1, .nil => .nil
  | _, _, n + 1, .cons _ t => DenL.drop n t
end
section
variable {X : Cx} {pins : List (Addr × Obj)} {σ : St} {H : Hp} {s : Shared}
theorem depthAll_get : ∀ {ds : List PyData} {i : Nat} {d : PyData}, ds[i]? = some d → d.depth ≤ PyData.depthAll ds
  | [], _, _, e => by simp at e
  | x :: r, 0, d, e => by simp at e; subst e; unfold PyData.depthAll; omega
  | x :: r, i + 1, d, e => by
    have := depthAll_get (ds := r) (i := i) (d := d) (by simpa using e)
    unfold PyData.depthAll; omega
theorem eq_same (I : Inv X pins σ H s) : ∀ (n : Nat) (A : Around) (d : PyData) (v v' : V) (u u' : Value), d.depth ≤ n → A.units + n < cLine → Den X.K H v d → Den X.K H v' d → RelV v u → RelV v' u' → SeqAt.EqAt A s u u' true := by
  intro n
  induction n with
  | zero =>
    intro A d v v' u u' hd hu h h' r r'
    cases h with
    | non => cases h'; cases r; cases r'; exact SeqAt.EqAt.same _
    | bl b => cases h'; cases r; cases r'; exact SeqAt.EqAt.same _
    | int i =>
      cases h'
      obtain ⟨t, rfl⟩ := r
      obtain ⟨t', rfl⟩ := r'
      have := SeqAt.EqAt.int_int (A := A) (s := s) i t i t'
      simpa using this
    | str x =>
      cases h'
      obtain ⟨t, rfl⟩ := r
      obtain ⟨t', rfl⟩ := r'
      have := SeqAt.EqAt.str_str (A := A) (s := s) x t x t'
      simpa using this
    | tup _ _ => simp [PyData.depth] at hd
  | succ n ih =>
    intro A d v v' u u' hd hu h h' r r'
    cases h with
    | non => cases h'; cases r; cases r'; exact SeqAt.EqAt.same _
    | bl b => cases h'; cases r; cases r'; exact SeqAt.EqAt.same _
    | int i =>
      cases h'
      obtain ⟨t, rfl⟩ := r
      obtain ⟨t', rfl⟩ := r'
      have := SeqAt.EqAt.int_int (A := A) (s := s) i t i t'
      simpa using this
    | str x =>
      cases h'
      obtain ⟨t, rfl⟩ := r
      obtain ⟨t', rfl⟩ := r'
      have := SeqAt.EqAt.str_str (A := A) (s := s) x t x t'
      simpa using this
    | @tup a us ds hs hl =>
      cases h' with
      | @tup b us' _ hs' hl' =>
        cases r
        cases r'
        by_cases e : a = b
        · subst e; exact SeqAt.EqAt.same _
        · obtain ⟨its, rv, p, _⟩ := I.tuple hs
          obtain ⟨its', rv', p', _⟩ := I.tuple hs'
          have l1 := rv.length
          have l2 := rv'.length
          have l3 := hl.length
          have l4 := hl'.length
          have hd' : PyData.depthAll ds ≤ n := by simp only [PyData.depth] at hd; omega
          have key := SeqAt.RcAt.tuples (A := A) (e := fun _ => true) (show s.heap.IsTuple a its.toArray from p) (show s.heap.IsTuple b its'.toArray from p') (by omega) (fun j h1 h2 => by
            have h1 : j < its.length := by simpa using h1
            have h2 : j < its'.length := by simpa using h2
            have x1 : us[j]? = some us[j] := List.getElem?_eq_getElem (by omega)
            have x2 : us'[j]? = some us'[j] := List.getElem?_eq_getElem (by omega)
            obtain ⟨d, e1, d1⟩ := hl.get x1
            obtain ⟨d', e2, d2⟩ := hl'.get x2
            rw [e1] at e2; cases e2
            obtain ⟨w1, y1, z1⟩ := rv.get x1
            obtain ⟨w2, y2, z2⟩ := rv'.get x2
            have q1 : its.toArray[j] = w1 := by
              have := List.getElem?_eq_getElem h1
              rw [y1] at this
              simpa using (Option.some.inj this).symm
            have q2 : its'.toArray[j] = w2 := by
              have := List.getElem?_eq_getElem h2
              rw [y2] at this
              simpa using (Option.some.inj this).symm
            rw [q1, q2]
            exact ih A.in1 d _ _ _ _ (Nat.le_trans (depthAll_get e1) hd') (by show A.units + 1 + n < cLine; omega) d1 d2 z1 z2)
          have e3 : its.toArray.size = its'.toArray.size := by simp only [List.size_toArray]; omega
          rw [e3] at key
          have e4 : ((List.range (min its'.toArray.size its'.toArray.size)).all (fun _ => true) && its'.toArray.size == its'.toArray.size) = true := by simp
          rw [e4] at key
          exact SeqAt.EqAt.of_refs e key
end
section
variable {X : Cx} {a b c e : Expr} {ta tb tc te : TE} {pos : Pos} {tg l : Expr} {tl : TE}
noncomputable def dEq (K : PySem.W.Frag) (n : Bool) : R2 := fun x y H Q => ∃ (p q : Addr) (us us' : List V) (ds : List PyData), x = .ref p ∧ y = .ref q ∧ ((SqT K H p us ∧ SqT K H q us') ∨ (SqL K H p us ∧ SqL K H q us')) ∧ DenL K H us ds ∧ DenL K H us' ds ∧ PyData.depthAll ds ≤ 149 ∧ Q (.bl (!n)) H
theorem items_eq {pins : List (Addr × Obj)} {σ : St} {H : Hp} {s : Shared} (I : Inv X pins σ H s) {A : Around} {us us' : List V} {ds : List PyData} {its its' : List Value} (hl : DenL X.K H us ds) (hl' : DenL X.K H us' ds) (rv : Vals us its) (rv' : Vals us' its') (hd : PyData.depthAll ds ≤ 149) (hu : A.units + 150 < cLine) :
    ∀ j (h1 : j < its.toArray.size) (h2 : j < its'.toArray.size), SeqAt.EqAt A.in1 s its.toArray[j] its'.toArray[j] true := fun j h1 h2 => by
  have l1 := rv.length
  have l2 := rv'.length
  have l3 := hl.length
  have l4 := hl'.length
  have h1 : j < its.length := by simpa using h1
  have h2 : j < its'.length := by simpa using h2
  have x1 : us[j]? = some us[j] := List.getElem?_eq_getElem (by omega)
  have x2 : us'[j]? = some us'[j] := List.getElem?_eq_getElem (by omega)
  obtain ⟨d, e1, d1⟩ := hl.get x1
  obtain ⟨d', e2, d2⟩ := hl'.get x2
  rw [e1] at e2; cases e2
  obtain ⟨w1, y1, z1⟩ := rv.get x1
  obtain ⟨w2, y2, z2⟩ := rv'.get x2
  have q1 : its.toArray[j] = w1 := by
    have := List.getElem?_eq_getElem h1
    rw [y1] at this
    simpa using (Option.some.inj this).symm
  have q2 : its'.toArray[j] = w2 := by
    have := List.getElem?_eq_getElem h2
    rw [y2] at this
    simpa using (Option.some.inj this).symm
  rw [q1, q2]
  exact eq_same I 149 A.in1 d _ _ _ _ (Nat.le_trans (depthAll_get e1) hd) (by show A.units + 1 + 149 < cLine; omega) d1 d2 z1 z2
theorem ko_eqD (K : PySem.W.Frag) (hK : X.K = K) (hu : X.A.units + 150 < cLine) : OpR X (compareOp .Eq) (dEq K false) := by
  subst hK
  intro pins s σ H x y v u Q I rx ry h
  obtain ⟨p, q, us, us', ds, rfl, rfl, h, hl, hl', hd, k⟩ := h
  cases rx
  cases ry
  rcases h with ⟨hs, hs'⟩ | ⟨hs, hs'⟩
  · obtain ⟨its, rv, p1, _⟩ := I.tuple hs
    obtain ⟨its', rv', p2, _⟩ := I.tuple hs'
    have e3 : its.toArray.size = its'.toArray.size := by simp only [List.size_toArray]; rw [← rv.length, ← rv'.length, hl.length, hl'.length]
    refine SeqAt.eq_tupleAt (e := fun _ => true) (show s.heap.IsTuple p its.toArray from p1) (show s.heap.IsTuple q its'.toArray from p2) (by omega) (items_eq I hl hl' rv rv' hd hu) ?_
    rw [e3]
    exact ⟨.bl true, H, I, by simp [RelV], k⟩
  · obtain ⟨its, rv, p1, _⟩ := I.list hs
    obtain ⟨its', rv', p2, _⟩ := I.list hs'
    have e3 : its.toArray.size = its'.toArray.size := by simp only [List.size_toArray]; rw [← rv.length, ← rv'.length, hl.length, hl'.length]
    refine SeqAt.eq_listAt (e := fun _ => true) p1.isList p2.isList e3 (by omega) (items_eq I hl hl' rv rv' hd hu) ?_
    exact ⟨.bl true, H, I, by simp [RelV], k⟩
theorem room150 {k : Nat} {A : Around} (hr : Room k A) : A.units + 150 < cLine := by have := hr.un; omega
noncomputable def mSlL (K : PySem.W.Frag) : V → Option Int → Option Int → Hp → VK → Prop := fun x lo hi H Q => ∃ a xs, x = .ref a ∧ SqL K H a xs ∧ ∀ p, H p = none → Q (.ref p) (upd H p (.lst (cutV xs lo hi)))
theorem ks_list (K : PySem.W.Frag) (h : X.K = K) : SlR X (mSlL K) := h ▸ sl_list
noncomputable def mTup (K : PySem.W.Frag) : List V → Hp → VK → Prop := fun vs H Q => ∃ p ys, vs = [.ref p] ∧ ((SqL K H p ys ∧ ∀ l, H l = none → Q (.ref l) (upd H l (.tup ys))) ∨ (SqT K H p ys ∧ Q (.ref p) H))
theorem kc_tuple (K : PySem.W.Frag) (h : X.K = K) : CallR X (.type "tuple") (mTup K) := h ▸ call_tuple_of
noncomputable def mMin : List V → Hp → VK → Prop := fun vs H Q => ∃ i j, vs = [.int i, .int j] ∧ Q (.int (if j < i then j else i)) H
theorem mc_min (hc : X.calm = true) : CallR X (.builtin "min") mMin := call_min2 hc
noncomputable def mMax : List V → Hp → VK → Prop := fun vs H Q => ∃ i j, vs = [.int i, .int j] ∧ Q (.int (if j > i then j else i)) H
end
open PySem.AutoSeq1 in
open PySem.MeetsSeq PySem.MeetsSeq2 PySem.MeetsSeq3 in
theorem extend_tup (l : Addr) (items : Array Value) (n : Nat) (b : Addr) (items2 : Array Value) (n2 : Nat) (dd : Option Addr) (sl : Array (Option Value)) (hs0 : ¬(!items.isEmpty && Builtin.List.listTooLong (items.size + items2.size)) = true) (hs1 : items.size ≤ sizeLine) (hs2 : items.size + items2.size ≤ sizeLine + 1) :
    Meets (Builtin.«list.extend» ⟨[.ref l, .ref b], []⟩) (fun _ R s => s.heap.get? l = some { cls := .type "list", dict := none, data := .seq items n, slots := #[] } ∧ s.heap.get? b = some { cls := .type "tuple", dict := dd, data := .seq items2 n2, slots := sl } ∧
      R (.ok (.ret Value.none)) { s with heap := s.heap.update l (Obj.mapSeq fun x => x ++ items2), toks := s.toks }) :=
  .of_wp fun prog w A R s h => by
    obtain ⟨hp, g, d, tk, os⟩ := s
    obtain ⟨hl, hb, h⟩ := h
    have f1 := idx_int
    have f2 := PySem.AutoSeq1.sub_tuple_tuple
    have f3 := PySem.AutoSeq1.sub_list_list
    have f4 := PySem.AutoSeq1.sub_tuple_list
    have f5 := PySem.AutoSeq1.sub_list_tuple
    have hz' : (items ++ items2).size ≤ sizeLine + 1 := by rw [Array.size_append]; exact hs2
    wp_walk using (wpAny_updateSeq hl rfl (hz := hs1) (_hz' := hz')), wpAny_loadPart' hl, wpAny_loadPart' hb
    exact ⟨_, rfl, h⟩
section
variable {X : Cx}
noncomputable def mExt (K : PySem.W.Frag) : V → List V → Hp → VK → Prop := fun x vs H Q => ∃ l b xs zs, x = .ref l ∧ vs = [.ref b] ∧ H l = some (.lst xs) ∧ (H b = some (.lst zs) ∨ SqT K H b zs) ∧ xs.length + zs.length ≤ sizeLine ∧ Q .non (upd H l (.lst (xs ++ zs)))
theorem km_extend (K : PySem.W.Frag) (hK : X.K = K) : MtR X "list.extend" (mExt K) := by
  subst hK
  intro pins s σ H x vs v us Q I rx rv h
  obtain ⟨l, b, xs, zs, e1, e2, hH, hB, hz, q⟩ := h
  rcases hB with hB | hB
  · exact mt_extend pins s σ H x vs v us Q I rx rv ⟨l, b, xs, zs, e1, e2, hH, hB, hz, q⟩
  · subst e1 e2
    cases rx
    obtain ⟨u, rfl, ru⟩ := rv.one
    cases ru
    obtain ⟨z, its, n, r, hl, e⟩ := I.lstM hH
    obtain ⟨its2, r2, pl, z2⟩ := I.tuple hB
    obtain ⟨⟨cls, dd, data, sl⟩, ho, hc, n2, hd⟩ := pl
    simp only at hc hd
    subst hc hd
    have hl2 := r2.length
    have hsz : its.toArray.size + its2.toArray.size ≤ sizeLine := by rw [List.size_toArray, List.size_toArray]; omega
    have hlong : ¬ (!its.toArray.isEmpty && Builtin.List.listTooLong (its.toArray.size + its2.toArray.size)) = true := by
      rw [notLongL hsz, Bool.and_false]
      exact Bool.false_ne_true
    refine call_meets F.slot_list_extend ⟨_, e, rfl⟩ F.entry_list_extend (F.args_list_extend_2 _ _) (extend_tup l its.toArray n b its2.toArray n2 dd sl hlong (by rw [List.size_toArray]; omega) (by omega)) ⟨e, ho, ?_⟩
    refine ⟨.non, _, I.lset (its' := its ++ its2) hH e (by simp) (r.append r2) ?_, rfl, q⟩
    rw [List.length_append]
    omega
end
section
variable {prog : Program} {w : World} {A : Around} {E : Value → Shared → Prop} {s : Shared}
end
section
variable {X : Cx}
end
section
variable {σ : St} {H : Hp} {D : Ends} {t : TS} {c : TT}
noncomputable def WhileW (c : TT) (t : TS) (D : Ends) (σ : St) (H : Hp) : Prop := tWhile c t D σ H
theorem tWhile_i (k : WhileW c t D σ H) : tWhile c t D σ H := k
theorem while_row (Pv : Nat → St → Hp → Prop) (n : Nat) (h0 : Pv n σ H)
    (hs : ∀ n σ H (R : Bool → Hp → Prop), Pv n σ H → (∀ H1, (∀ (D' : Ends), D'.rt = D.rt → D'.bk = D.nx → (∀ σ' H' m, m < n → Pv m σ' H' → D'.nx σ' H') → (∀ σ' H' m, m < n → Pv m σ' H' → D'.ct σ' H') → t D' σ H1) → R true H1) → (∀ H1, D.nx σ H1 → R false H1) → c σ H R) : WhileW c t D σ H := by
  refine ⟨Pv, ⟨n, h0⟩, fun m σ H p => ?_⟩
  refine hs m σ H _ p (fun H1 k => ?_) (fun H1 k => k)
  exact ⟨fun σ' H' => ∃ m', m' < m ∧ Pv m' σ' H', fun _ _ h => h, k _ rfl rfl (fun _ _ m' hm hp => ⟨m', hm, hp⟩) (fun _ _ m' hm hp => ⟨m', hm, hp⟩)⟩
end
end L2
set_option Elab.async false
set_option linter.all false
set_option maxRecDepth 100000
set_option maxHeartbeats 4000000
namespace L2
open PySem PySem.Spec PyProof.Rows
theorem kit_ty {K : PySem.W.Frag} {T n : String} {b : Bool} (h : (if (Value.type T == Value.type n) = true then some true else if PySem.W.kitMeta n = true then (fastBuiltinMro T).map (·.contains (.type n)) else none) = some b) : PySem.W.kitOne K (.type T) (.type n) = some b := h
section
variable {X : Cx} {a : Expr} {ta : TE}
noncomputable def tyN (K : PySem.W.Frag) (H : Hp) : V → String → Prop
  | .non, T => T = "NoneType"
  | .bl _, T => T = "bool"
  | .int _, T => T = "int"
  | .str _, T => T = "str"
  | .ref p, T => (T = "list" ∧ ∃ xs, SqL K H p xs) ∨ (T = "tuple" ∧ ∃ xs, SqT K H p xs) ∨ (T = "dict" ∧ ∃ kvs, H p = some (.dK kvs))
  | _, _ => False
noncomputable def mIs (K : PySem.W.Frag) : List V → Hp → VK → Prop := fun vs H Q => ∃ x n T b, vs = [x, .ty n] ∧ tyN K H x T ∧ (∀ K' : PySem.W.Frag, PySem.W.kitOne K' (.type T) (.type n) = some b) ∧ Q (.bl b) H
theorem kc_is (K : PySem.W.Frag) (hK : X.K = K) : CallR X (.builtin "isinstance") (mIs K) := by
  subst hK
  intro pins s σ H xs us Q I r h
  obtain ⟨x, n, T, b, rfl, ht, hk, q⟩ := h
  obtain ⟨u, w', rfl, r1, r2⟩ := vals2 r
  cases r2
  have fin : ∀ tk, EP X pins σ Q (.bool b) { s with toks := tk } := fun tk => ⟨.bl b, H, I.tok _, rfl, q⟩
  cases x with
  | non => cases ht; exact isinst_ok I r1 .non (hk _) fin
  | bl y => cases ht; exact isinst_ok I r1 (.bl y) (hk _) fin
  | int i => cases ht; exact isinst_ok I r1 (.int i) (hk _) fin
  | str z => cases ht; exact isinst_ok I r1 (.str z) (hk _) fin
  | ref p =>
    cases r1
    rcases ht with ⟨rfl, xs, hs⟩ | ⟨rfl, xs, hs⟩ | ⟨rfl, kvs, hs⟩
    · obtain ⟨its, _, ⟨o, n', h1, h2, _⟩, _⟩ := I.list hs
      exact PySem.W.kia_one PySem.W.kitx_list I.kIn ⟨o, h1, h2⟩ (hk _) (fun z => nomatch z) fin
    · obtain ⟨its, _, ⟨o, h1, h2, _⟩, _⟩ := I.tuple hs
      exact PySem.W.kia_one PySem.W.kitx_tuple I.kIn ⟨o, h1, h2⟩ (hk _) (fun z => nomatch z) fin
    · exact isinst_ok (x := .ref p) I rfl (.dK hs) (hk _) fin
  | _ => exact (show False from ht).elim
end
section
variable {K : PySem.W.Frag} {H : Hp} {Q : VK} {i : Int} {p : Str} {b : Bool} {a : Addr} {xs : List V}
theorem is_str (k : Q (.bl true) H) : mIs K [.str p, .ty "str"] H Q := ⟨_, _, _, true, rfl, rfl, fun _ => kit_same _ _, k⟩
theorem is_int (k : Q (.bl true) H) : mIs K [.int i, .ty "int"] H Q := ⟨_, _, _, true, rfl, rfl, fun _ => kit_same _ _, k⟩
theorem is_bool (k : Q (.bl true) H) : mIs K [.bl b, .ty "bool"] H Q := ⟨_, _, _, true, rfl, rfl, fun _ => kit_same _ _, k⟩
theorem is_int_bool (k : Q (.bl false) H) : mIs K [.int i, .ty "bool"] H Q := ⟨_, _, _, false, rfl, rfl, fun _ => kit_ty (by decide +kernel), k⟩
theorem is_tup (c : SqT K H a xs) (k : Q (.bl true) H) : mIs K [.ref a, .ty "tuple"] H Q := ⟨_, _, _, true, rfl, .inr (.inl ⟨rfl, xs, c⟩), fun _ => kit_same _ _, k⟩
theorem atI_mem {α : Type} {xs : List α} {i : Int} {v : α} (h : atI xs i = some v) : v ∈ xs := by
  obtain ⟨j, _, e, _⟩ := atI_get h
  exact List.mem_of_getElem? e
theorem str_app (l m : List Nat) : (⟨l.toArray⟩ : Str) ++ ⟨m.toArray⟩ = ⟨(l ++ m).toArray⟩ := by
  apply Str.ext'
  show l.toArray ++ m.toArray = (l ++ m).toArray
  simp
theorem str_len (l : List Nat) : (⟨l.toArray⟩ : Str).length = l.length := by simp [Str.length]
theorem ints_at {ns : List Int} {i : Int} {v : V} (h : atI (ns.map V.int) i = some v) : ∃ n, v = .int n := by
  have := atI_mem h
  obtain ⟨n, _, e⟩ := List.mem_map.mp this
  exact ⟨n, e.symm⟩
theorem ints_get {ns : List Int} {i : Nat} (h : i < (ns.map V.int).length) : ∃ n, (ns.map V.int).getD i .non = .int n := by
  rw [List.length_map] at h
  rw [List.getD_eq_getElem?_getD, List.getElem?_map, List.getElem?_eq_getElem h]
  exact ⟨_, rfl⟩
theorem mSlL_i {lo hi : Option Int} (c : SqL K H a xs) (k : ∀ p, H p = none → Q (.ref p) (upd H p (.lst (cutV xs lo hi)))) : mSlL K (.ref a) lo hi H Q := ⟨a, xs, rfl, c, k⟩
theorem mTup_l (c : SqL K H a xs) (k : ∀ l, H l = none → Q (.ref l) (upd H l (.tup xs))) : mTup K [.ref a] H Q := ⟨a, xs, rfl, .inl ⟨c, k⟩⟩
theorem mMin_i {j : Int} (k : Q (.int (if j < i then j else i)) H) : mMin [.int i, .int j] H Q := ⟨i, j, rfl, k⟩
theorem mExt_t {zs : List V} {l : Addr} (e : H l = some (.lst xs)) (c : SqT K H a zs) (z : xs.length + zs.length ≤ sizeLine) (k : Q .non (upd H l (.lst (xs ++ zs)))) : mExt K (.ref l) [.ref a] H Q := ⟨l, a, xs, zs, rfl, rfl, e, .inr c, z, k⟩
theorem mPop_i {l : Addr} {v : V} (e : H l = some (.lst (xs ++ [v]))) (k : Q v (upd H l (.lst xs))) : mPop (.ref l) [] H Q := ⟨xs, v, e, k⟩
theorem mAdd_l {q : Addr} {ys : List V} (e1 : H a = some (.lst xs)) (e2 : H q = some (.lst ys)) (z : xs.length + ys.length ≤ sizeLine) (k : ∀ d, H d = none → Q (.ref d) (upd H d (.lst (xs ++ ys)))) : mAdd K (.ref a) (.ref q) H Q := .inl ⟨xs, ys, e1, e2, z, k⟩
theorem iRng2_i {σ : St} {ta : TA} {R : It → Hp → Prop} (k : ta σ H fun vs H1 => ∃ i j : Int, vs = [.int i, .int j] ∧ (-(2 ^ 62) ≤ i ∧ i < 2 ^ 62 ∧ -(2 ^ 62) ≤ j ∧ j < 2 ^ 62) ∧ R (Itr i (j - i).toNat) H1) : iRng2 ta σ H R := k
end
end L2
set_option Elab.async false
set_option linter.all false
set_option maxRecDepth 100000
set_option maxHeartbeats 4000000
namespace L2
open PySem PySem.Spec PyProof.Rows
section
variable {X : Cx}
theorem preSum_eq (ns : List Int) : ∀ n, n ≤ ns.length → preSum (fun i => ns.getD i 0) n = (ns.take n).sum
  | 0, _ => by simp [preSum]
  | n + 1, h => by
    have hn : n < ns.length := by omega
    rw [preSum, preSum_eq ns n (by omega), List.take_add_one, List.sum_append, List.getElem?_eq_getElem hn, List.getD_eq_getElem?_getD, List.getElem?_eq_getElem hn]
    simp
noncomputable def mSum (K : PySem.W.Frag) : List V → Hp → VK → Prop := fun vs H Q => ∃ (p : Addr) (ns : List Int), vs = [.ref p] ∧ SqL K H p (ns.map V.int) ∧ (∀ n ∈ ns, 0 ≤ n) ∧ ns.sum < 2 ^ 62 ∧ Q (.int ns.sum) H
theorem sum_nn : ∀ {ns : List Int}, (∀ n ∈ ns, 0 ≤ n) → 0 ≤ ns.sum
  | [], _ => by simp
  | a :: r, h => by
    have h1 := h a List.mem_cons_self
    have h2 := sum_nn (ns := r) fun n hn => h n (List.mem_cons_of_mem _ hn)
    rw [List.sum_cons]; omega
theorem kc_sum (K : PySem.W.Frag) (hK : X.K = K) (hc : X.calm = true) : CallR X (.builtin "sum") (mSum K) := by
  subst hK
  intro pins s σ H xs us Q I r h
  obtain ⟨p, ns, rfl, hs, hn, hm, q⟩ := h
  obtain ⟨u, rfl, r1⟩ := vals1 r
  cases r1
  obtain ⟨its, rv, pl, hz⟩ := I.list hs
  have hi : IntsAre its ns := intsAre_of rv
  have hlen : its.length = ns.length := hi.length
  have hl : p < s.heap.objs.size := by
    obtain ⟨o, n, h1, _⟩ := pl
    exact Heap.lt_size h1
  have part : ∀ j, j ≤ ns.length → 0 ≤ (ns.take j).sum ∧ (ns.take j).sum ≤ ns.sum := fun j hj => by
    have e := List.take_append_drop j ns
    have h1 := sum_nn (ns := ns.take j) fun n hm => hn n (List.mem_of_mem_take hm)
    have h2 := sum_nn (ns := ns.drop j) fun n hm => hn n (List.mem_of_mem_drop hm)
    have h3 : (ns.take j ++ ns.drop j).sum = ns.sum := by rw [e]
    rw [List.sum_append] at h3
    omega
  refine call_sum_walk (wpAny_pyIter_list pl.isList ?_)
  refine ⟨s.heap.objs.size, [s.heap.objs.size, p], [s.heap.objs.size], its.toArray.size, _, _, fun i => ns.getD i 0, rfl, Walks.list (A := X.A.in1) (show X.A.in1.handled = none from I.ok.hd hc) s.heap.objs.size p (Nat.ne_of_lt hl) its.toArray,
    ⟨⟨_, Heap.get?_push_size _ rfl, rfl, rfl⟩, pl.isList.at fun o e => Heap.get?_push_of_some _ e⟩, fun b hb => ?_, fun i v hv => ?_, fun j hj => ?_, fun h' tk t' hk => ?_⟩
  · rw [Heap.size_push]
    simp only [List.mem_cons, List.not_mem_nil, or_false] at hb
    rcases hb with rfl | rfl
    · exact Nat.lt_succ_self _
    · exact Nat.lt_succ_of_lt hl
  · have hv : its.toArray[i]? = some v := hv
    rw [List.getElem?_toArray] at hv
    have hil : i < ns.length := by
      have := (List.getElem?_eq_some_iff.mp hv).1
      omega
    have x1 : (ns.map V.int)[i]? = some (.int ns[i]) := by rw [List.getElem?_map, List.getElem?_eq_getElem hil]; rfl
    obtain ⟨w, e1, e2⟩ := rv.get x1
    rw [e1] at hv
    cases hv
    obtain ⟨t, rfl⟩ := e2
    refine ⟨t, ?_⟩
    show Value.int ns[i] t = Value.int (ns.getD i 0) t
    rw [List.getD_eq_getElem?_getD, List.getElem?_eq_getElem hil]
    rfl
  · have hj : j < ns.length := by simpa [hlen] using hj
    have h1 := part (j + 1) (by omega)
    have h3 : 0 ≤ ns.getD j 0 ∧ ns.getD j 0 ≤ ns.sum := by
      have e : (ns.take (j + 1)).sum = (ns.take j).sum + ns.getD j 0 := by
        rw [List.take_add_one, List.sum_append, List.getElem?_eq_getElem hj, List.getD_eq_getElem?_getD, List.getElem?_eq_getElem hj]
        simp
      have h0 := part j (by omega)
      have h4 : 0 ≤ ns.getD j 0 := by
        rw [List.getD_eq_getElem?_getD, List.getElem?_eq_getElem hj]
        exact hn _ (List.getElem_mem hj)
      omega
    rw [preSum_eq ns (j + 1) (by omega)]
    show InLong (ns.getD j 0) ∧ _
    unfold InLong
    omega
  · have e : preSum (fun i => ns.getD i 0) its.toArray.size = ns.sum := by
      rw [List.size_toArray, hlen, preSum_eq ns _ (Nat.le_refl _), List.take_length]
    rw [e]
    refine ⟨.int _, H, I.kept (fun b o e => hk b o ?_ (Heap.get?_push_of_some _ e)), ⟨_, rfl⟩, q⟩
    intro z
    have z : b = s.heap.objs.size := by simpa using z
    exact absurd (Heap.lt_size e) (by rw [z]; exact Nat.lt_irrefl _)
end
noncomputable abbrev tailS : Str := Str.ofString "abcdefghijklmnopqrstuvwxyzABCDEFGHIJKLMNOPQRSTUVWXYZ0123456789"
noncomputable abbrev one (c : Nat) : Str := ⟨#[c]⟩
noncomputable abbrev sp_l_number : Sp := fun vs H Q _ => match vs with | [.int c] => ∀ (n : Int) (H' : Hp), -(10 ^ 30) < n → n < 10 ^ 30 → Same H H' → Q (.int n) H' | _ => False
theorem ln {n : Nat} (h : n ≤ 100000) : n ≤ sizeLine := by rw [sizeLine_eq]; omega
theorem ln1 {n : Nat} (h : n < 100000) : n < sizeLine := by rw [sizeLine_eq]; omega
theorem tl62 : tailS.length = 62 := by decide +kernel
end L2
set_option Elab.async false
set_option linter.all false
set_option maxRecDepth 100000
set_option maxHeartbeats 4000000
namespace L2
open PySem PySem.Spec PyProof.Rows
section
variable {X : Cx} {e : Expr} {te : TE} {pos : Pos}
noncomputable def mAug (i : Nat) (te : TE) (ti : TIp) : TS := fun D σ H => ∃ x, σ[i]? = some (some x) ∧ te σ H fun y H1 => ti x y H1 fun z H2 => D.nx (σ.set i (some z)) H2
theorem mps_aug {i : Nat} {x : Str} {op : Operator} {ti : TIp} {pos' : Pos} (hN : X.N.Nodup) (hi : X.N[i]? = some x) (hx : Loc X.env.scope x) (he : PE X e te) (ho : PIp X op ti) (hf : X.fn x = true ∨ X.env.scope.names.lookup x = some .local := by first | exact .inl rfl | exact .inr rfl | assumption) :
    PS X (.AugAssign (.Name x pos') op e pos) (mAug i te ti) := ps_aug hN hi hx he ho hf
noncomputable def mIAdd : TIp := fun x y H Q => match x, y with
  | .int i, .int j => Q (.int (i + j)) H
  | .str i, .str j => i.length + j.length ≤ sizeLine ∧ Q (.str (i ++ j)) H
  | _, _ => False
theorem mi_add : PIp X .Add mIAdd := by
  intro pins s σ H x y v u Q I rx ry h
  refine (OpR.or iop_add iop_add_str) pins s σ H x y v u Q I rx ry ?_
  cases x <;> cases y <;> first
    | exact (show False from h).elim
    | exact .inl ⟨_, _, rfl, rfl, h⟩
    | exact .inr ⟨_, _, rfl, rfl, h.1, h.2⟩
end
section
variable {σ : St} {H : Hp} {Q : VK} {D : Ends} {te : TE} {n : Nat} {v : V} {i j : Int}
theorem mAug_i {ti : TIp} (h : σ[n]? = some (some v)) (k : te σ H fun y H1 => ti v y H1 fun z H2 => D.nx (σ.set n (some z)) H2) : mAug n te ti D σ H := ⟨v, h, k⟩
theorem mIAdd_i (k : Q (.int (i + j)) H) : mIAdd (.int i) (.int j) H Q := k
end
inductive Trm where
  | num (n : Int)
  | any (x : Str)
  | app (sg : Str) (ks : List Trm)
noncomputable abbrev numS : Str := Str.ofString "num"
noncomputable abbrev anyS : Str := Str.ofString "any"
noncomputable abbrev appS : Str := Str.ofString "app"
mutual
noncomputable def Trm.data : Trm → PyData
  | .num n => .tuple [.str numS, .int n]
  | .any x => .tuple [.str anyS, .str x]
  | .app sg ks => .tuple [.str appS, .str sg, .tuple (Trm.dataL ks)]
noncomputable def Trm.dataL : List Trm → List PyData
  | [] => []
  | t :: r => t.data :: Trm.dataL r
end
mutual
noncomputable def Trm.size : Trm → Nat
  | .num _ => 1
  | .any _ => 1
  | .app _ ks => 1 + Trm.sizeL ks
noncomputable def Trm.sizeL : List Trm → Nat
  | [] => 0
  | t :: r => t.size + Trm.sizeL r
end
theorem Trm.size_pos : ∀ t : Trm, 1 ≤ t.size
  | .num _ => Nat.le_refl 1
  | .any _ => Nat.le_refl 1
  | .app _ ks => by unfold Trm.size; omega
mutual
theorem Trm.depth_le : ∀ t : Trm, t.data.depth ≤ 2 * t.size
  | .num _ => by simp [Trm.data, Trm.size, PyData.depth, PyData.depthAll]
  | .any _ => by simp [Trm.data, Trm.size, PyData.depth, PyData.depthAll]
  | .app _ ks => by
    have := Trm.depthL_le ks
    simp only [Trm.data, Trm.size, PyData.depth, PyData.depthAll]
    omega
theorem Trm.depthL_le : ∀ ts : List Trm, PyData.depthAll (Trm.dataL ts) ≤ 2 * Trm.sizeL ts
  | [] => by simp [Trm.dataL, Trm.sizeL, PyData.depthAll]
  | t :: r => by
    have h1 := Trm.depth_le t
    have h2 := Trm.depthL_le r
    simp only [Trm.dataL, Trm.sizeL, PyData.depthAll]
    omega
end
theorem Trm.dataL_map : ∀ ts : List Trm, Trm.dataL ts = ts.map Trm.data
  | [] => rfl
  | t :: r => by rw [Trm.dataL, Trm.dataL_map r, List.map_cons]
theorem Trm.sizeL_map : ∀ ts : List Trm, Trm.sizeL ts = (ts.map Trm.size).sum
  | [] => rfl
  | t :: r => by rw [Trm.sizeL, Trm.sizeL_map r, List.map_cons, List.sum_cons]
theorem Trm.sizeL_app (a b : List Trm) : Trm.sizeL (a ++ b) = Trm.sizeL a + Trm.sizeL b := by
  rw [Trm.sizeL_map, Trm.sizeL_map, Trm.sizeL_map, List.map_append, List.sum_append]
theorem Trm.len_le (ts : List Trm) : ts.length ≤ Trm.sizeL ts := by
  induction ts with
  | nil => simp
  | cons t r ih =>
    have := t.size_pos
    rw [Trm.sizeL, List.length_cons]; omega
section
variable {K : PySem.W.Frag} {H : Hp} {v : V}
theorem den_num {n : Int} (h : Den K H v (Trm.num n).data) : ∃ a, v = .ref a ∧ SqT K H a [.str numS, .int n] := by
  unfold Trm.data at h
  cases h with
  | tup hs hl =>
    cases hl with
    | cons h1 hl =>
      cases hl with
      | cons h2 hl =>
        cases hl
        cases h1
        cases h2
        exact ⟨_, rfl, hs⟩
theorem den_any {x : Str} (h : Den K H v (Trm.any x).data) : ∃ a, v = .ref a ∧ SqT K H a [.str anyS, .str x] := by
  unfold Trm.data at h
  cases h with
  | tup hs hl =>
    cases hl with
    | cons h1 hl =>
      cases hl with
      | cons h2 hl =>
        cases hl
        cases h1
        cases h2
        exact ⟨_, rfl, hs⟩
theorem den_app {sg : Str} {ks : List Trm} (h : Den K H v (Trm.app sg ks).data) : ∃ a b us, v = .ref a ∧ SqT K H a [.str appS, .str sg, .ref b] ∧ SqT K H b us ∧ DenL K H us (Trm.dataL ks) := by
  unfold Trm.data at h
  cases h with
  | tup hs hl =>
    cases hl with
    | cons h1 hl =>
      cases hl with
      | cons h2 hl =>
        cases hl with
        | cons h3 hl =>
          cases hl
          cases h1
          cases h2
          cases h3 with
          | tup hb hk => exact ⟨_, _, _, rfl, hs, hb, hk⟩
theorem num_den {a : Addr} {n : Int} (h : SqT K H a [.str numS, .int n]) : Den K H (.ref a) (Trm.num n).data := by
  unfold Trm.data
  exact .tup h (.cons (.str _) (.cons (.int _) .nil))
theorem any_den {a : Addr} {x : Str} (h : SqT K H a [.str anyS, .str x]) : Den K H (.ref a) (Trm.any x).data := by
  unfold Trm.data
  exact .tup h (.cons (.str _) (.cons (.str _) .nil))
theorem app_den {a b : Addr} {sg : Str} {ks : List Trm} {us : List V} (h : SqT K H a [.str appS, .str sg, .ref b]) (hb : SqT K H b us) (hk : DenL K H us (Trm.dataL ks)) : Den K H (.ref a) (Trm.app sg ks).data := by
  unfold Trm.data
  exact .tup h (.cons (.str _) (.cons (.str _) (.cons (.tup hb hk) .nil)))
theorem den_head {t : Trm} (h : Den K H v t.data) : ∃ a us ds, v = .ref a ∧ SqT K H a us ∧ DenL K H us ds ∧ t.data = .tuple ds := by
  cases t with
  | num n => unfold Trm.data at h ⊢; cases h with | tup hs hl => exact ⟨_, _, _, rfl, hs, hl, rfl⟩
  | any x => unfold Trm.data at h ⊢; cases h with | tup hs hl => exact ⟨_, _, _, rfl, hs, hl, rfl⟩
  | app sg ks => unfold Trm.data at h ⊢; cases h with | tup hs hl => exact ⟨_, _, _, rfl, hs, hl, rfl⟩
theorem DenL.snoc {us : List V} {ds : List PyData} {d : PyData} (h : DenL K H us (ds ++ [d])) : ∃ us' u, us = us' ++ [u] ∧ DenL K H us' ds ∧ Den K H u d := by
  induction ds generalizing us with
  | nil =>
    cases h with
    | cons h1 h2 =>
      cases h2
      exact ⟨[], _, rfl, .nil, h1⟩
  | cons x r ih =>
    cases h with
    | cons h1 h2 =>
      obtain ⟨us', u, rfl, a, b⟩ := ih h2
      exact ⟨_ :: us', u, rfl, .cons h1 a, b⟩
theorem DenL.nil_inv {us : List V} (h : DenL K H us []) : us = [] := by cases h; rfl
theorem DenL.at {us : List V} {ds : List PyData} {i : Int} {d : PyData} (h : DenL K H us ds) (e : atI ds i = some d) : ∃ u, atI us i = some u ∧ Den K H u d := by
  obtain ⟨j, h1, h2, h3, h4, h5⟩ := atI_get e
  have hl := h.length
  have hj : j < us.length := by omega
  obtain ⟨d', e1, e2⟩ := h.get (List.getElem?_eq_getElem hj)
  rw [h2] at e1
  cases e1
  refine ⟨us[j], ?_, e2⟩
  unfold atI at e ⊢
  rw [hl]
  cases q : ixN ds.length i with
  | none => rw [q] at e; cases e
  | some k =>
    rw [q] at e
    have := (ixN_seq q).1
    rw [h1] at this
    cases this
    exact List.getElem?_eq_getElem hj
end
end L2
set_option Elab.async false
set_option linter.all false
set_option maxRecDepth 100000
set_option maxHeartbeats 4000000
namespace L2
open PySem PySem.Spec PyProof.Rows
noncomputable def Itv (K : PySem.W.Frag) (a : Addr) (n : Nat) : It := ⟨fun i H => ∃ xs, SqL K H a xs ∧ xs.length = n ∧ i < n, fun i H x H' => H' = H ∧ ∀ xs, SqL K H a xs → xs[n - 1 - i]? = some x, fun i _ => i = n⟩
theorem turn_rev {P : Program} {w : World} {K : PySem.W.Frag} {tg : Expr} (a it : Addr) (n : Nat) : Turn P w K tg (Itv K a n) [it] it (fun i h => h.IsRevIter it a ((n : Int) - 1 - (i : Nat))) where
  mem := by simp
  obj := fun i h st b hb => by
    have e : b = it := by simpa using hb
    subst e
    obtain ⟨o, e, c, d⟩ := st
    exact ⟨o, e, fun v z => by rw [d] at z; cases z⟩
  keep := fun i h h' st k => st.at fun o e => k it (by simp) o e
  item := by
    intro X hP hw hK hc i pins s σ H E I hf st hg
    subst hP hw hK
    obtain ⟨xs, hq, hn, hi⟩ := hg
    obtain ⟨its, rv, p, hz⟩ := I.list hq
    have hj : n - 1 - i < xs.length := by omega
    obtain ⟨u, hu, ru⟩ := rv.get (List.getElem?_eq_getElem hj)
    obtain ⟨f0, f1, f2, f3, f4, f5⟩ := hf it (by simp)
    have e1 : (n : Int) - 1 - (i : Nat) = ((n - 1 - i : Nat) : Int) := by omega
    rw [e1] at st
    refine wpAny_pyNext_rev_item st p.isList (x := u) (by simpa using hu) fun h' st' sb => ?_
    have I1 : Inv X pins σ H { s with heap := h' } := I.turned (t' := s.toks) (fun b o hb e => (sb.2 b hb).trans e) f0 f1 f3 f4 f5
    obtain ⟨o, e, c, d⟩ := id st'
    have e2 : ((n - 1 - i : Nat) : Int) - 1 = (n : Int) - 1 - ((i + 1 : Nat) : Int) := by omega
    rw [e2] at st'
    exact ⟨u, rfl, go_of (s := { s with heap := h' }) e c d (by decide) ⟨xs[n - 1 - i], H, I1, ru, ⟨rfl, fun ys hy => by rw [I.list_inj hy hq]; exact List.getElem?_eq_getElem hj⟩, st', fun b hb => (hf b hb).1⟩⟩
  done := by
    intro X hP hw hK hc i pins s σ H E I hf st hg
    subst hP hw hK
    obtain ⟨f0, f1, f2, f3, f4, f5⟩ := hf it (by simp)
    have hg : i = n := hg
    subst hg
    have e1 : (i : Int) - 1 - (i : Nat) = -1 := by omega
    rw [e1] at st
    exact wpAny_pyNext_rev_end (I.ok.hd hc) st fun h' eb => ⟨rfl, I.turned (t' := s.toks) (fun b o hb e => eb b o hb e) f0 f1 f3 f4 f5⟩
  self := fun _ _ _ _ _ st h => wpAny_pyIter_revIter st h
section
variable {X : Cx} {tg : Expr}
noncomputable def iRev (K : PySem.W.Frag) (ta : TA) : TI := fun σ H R => ta σ H fun vs H1 => ∃ a xs, vs = [.ref a] ∧ SqL K H1 a xs ∧ R (Itv K a xs.length) H1
theorem kpi_rev (K : PySem.W.Frag) (hK : X.K = K) {a : Expr} {ta : TA} {p pos : Pos} (hg : Gl X "reversed") (hm : X.mg "reversed" = none) (ha : PA X [a] ta) (hs : starEach [a] X.env = [(false, eval a X.env)] := by rfl) : PI X tg (.Call (.Name "reversed" p) [a] [] pos) (iRev K ta) := by
  subst hK
  intro pins s σ H R I h
  refine Call_ (ld_blt I hg hm boot_reversed (PyProof.Rows.callWith_type1 (thn (ha pos pins s σ H _ I h) fun us s1 ⟨vs, H1, I1, r1, q1⟩ => ?_) hs rfl))
  obtain ⟨l, xs, e, hq, q⟩ := q1
  subst e
  cases r1 with
  | cons r rr =>
    cases rr
    cases r
    obtain ⟨its, rv, pl, hz⟩ := I1.list hq
    have hlen := rv.length
    refine call_reversed_list pl.isList (wpAny_pyIter_revIter (l := l) (i := (its.toArray.size : Int) - 1) ⟨_, Heap.get?_push_size _ rfl, rfl, rfl⟩ ?_)
    refine ⟨s1.heap.objs.size, [s1.heap.objs.size], _, _, H1, rfl, I1.kept (t' := s1.toks) fun b o e => Heap.get?_push_of_some _ e, turn_rev l _ xs.length, ?_, fun b hb => ?_, q⟩
    · have e1 : (xs.length : Int) - 1 - ((0 : Nat) : Int) = (its.toArray.size : Int) - 1 := by simp only [List.size_toArray]; omega
      show Heap.IsRevIter _ _ _ ((xs.length : Int) - 1 - ((0 : Nat) : Int))
      rw [e1]
      exact ⟨_, Heap.get?_push_size _ rfl, rfl, rfl⟩
    · have e : b = s1.heap.objs.size := by simpa using hb
      subst e
      exact I1.fpOk (Nat.le_refl _) (I1.hok.fresh (Nat.le_refl _))
end
theorem row_rev {K : PySem.W.Frag} {a : Addr} {xs : List V} : Row (Itv K a xs.length) xs.length (fun i => xs.getD (xs.length - 1 - i) .non) (fun H => SqL K H a xs) := ⟨fun i H h q => ⟨xs, q, rfl, h⟩, fun i H v H' hi q h => by
  obtain ⟨e, y⟩ := h
  refine ⟨e, ?_⟩
  have := y xs q
  rw [List.getD_eq_getElem?_getD, this]; rfl, fun H q => rfl⟩
theorem iRev_i {K : PySem.W.Frag} {σ : St} {H : Hp} {ta : TA} {R : It → Hp → Prop} (k : ta σ H fun vs H1 => ∃ a xs, vs = [.ref a] ∧ SqL K H1 a xs ∧ R (Itv K a xs.length) H1) : iRev K ta σ H R := k
end L2
set_option Elab.async false
set_option linter.all false
set_option maxRecDepth 100000
set_option maxHeartbeats 4000000
namespace L2
open PySem PySem.Spec PyProof.Rows
theorem dig_val (k : Nat) (h : k < 10) : (Nat.digitChar k).toNat = 48 + k := by
  have : k = 0 ∨ k = 1 ∨ k = 2 ∨ k = 3 ∨ k = 4 ∨ k = 5 ∨ k = 6 ∨ k = 7 ∨ k = 8 ∨ k = 9 := by omega
  rcases this with rfl | rfl | rfl | rfl | rfl | rfl | rfl | rfl | rfl | rfl <;> rfl
noncomputable def figsOf (n : Nat) : List Nat := (Nat.toDigits 10 n).map Char.toNat
theorem figs_lt {n : Nat} (h : n < 10) : figsOf n = [48 + n] := by
  unfold figsOf
  rw [Nat.toDigits_of_lt_base h, List.map_cons, List.map_nil, dig_val n h]
theorem figs_str (n : Nat) : ((toString (n : Int) : String) : Str) = ⟨(figsOf n).toArray⟩ := text_ofNat n
section
variable {X : Cx}
noncomputable def mStr : List V → Hp → VK → Prop := fun vs H Q => match vs with
  | [.int i] => i.natAbs.log2 < 1920 ∧ Q (.str (toString i)) H
  | _ => False
theorem mc_str : CallR X (.type "str") mStr := by
  intro pins s σ H xs us Q I r h
  refine call_str_int pins s σ H xs us Q I r ?_
  unfold mStr at h
  split at h
  · exact ⟨_, rfl, h.1, h.2⟩
  · exact h.elim
theorem log_small {i : Int} (h0 : 0 ≤ i) (h1 : i < 10 ^ 30) : i.natAbs.log2 < 1920 := by
  by_cases h : i.natAbs = 0
  · rw [h]; decide
  · refine (Nat.log2_lt h).mpr ?_
    refine Nat.lt_of_lt_of_le (m := 10 ^ 30) (by omega) ?_
    refine Nat.le_trans (m := 2 ^ 100) (by decide +kernel) (Nat.pow_le_pow_right (by decide) (by decide))
theorem mStr_i {i : Int} {H : Hp} {Q : VK} (h0 : 0 ≤ i) (h1 : i < 10 ^ 30) (k : Q (.str ⟨(figsOf i.toNat).toArray⟩) H) : mStr [.int i] H Q := by
  refine ⟨log_small h0 h1, ?_⟩
  obtain ⟨n, rfl⟩ := Int.eq_ofNat_of_zero_le h0
  have e := figs_str n
  rw [Int.toNat_natCast] at k
  rw [← e] at k
  exact k
noncomputable def mRepS : R2 := fun x y H Q => ∃ (c : Nat) (k : Int), x = .str ⟨#[c]⟩ ∧ y = .int k ∧ 0 ≤ k ∧ k ≤ 1000 ∧ Q (.str ⟨(List.replicate k.toNat c).toArray⟩) H
theorem fold_one (c : Nat) : ∀ (n : Nat) (a : List Nat), (List.replicate n (#[c] : Array Nat)).foldl (· ++ ·) a.toArray = (a ++ List.replicate n c).toArray
  | 0, a => by simp
  | n + 1, a => by
    rw [List.replicate_succ, List.foldl_cons, show a.toArray ++ #[c] = (a ++ [c]).toArray by simp, fold_one c n (a ++ [c]), List.append_assoc, List.replicate_succ]
    rfl
theorem txt_mul_one {c : Nat} {k : Int} (h0 : 0 ≤ k) : Txt.mul ⟨#[c]⟩ k = ⟨(List.replicate k.toNat c).toArray⟩ := by
  unfold Txt.mul
  split
  · have : k = 0 := by omega
    subst this; rfl
  · split
    · rename_i h1 h2
      have : k = 1 := by
        rw [Bool.or_eq_true] at h2
        rcases h2 with h2 | h2
        · simpa using h2
        · simp [Str.length] at h2
      subst this; rfl
    · have := fold_one c k.toNat []
      rw [List.nil_append] at this
      exact congrArg Str.mk this
theorem ko_repS : OpR X (binaryOp .Mult) mRepS := by
  intro pins s σ H x y v u Q I rx ry h
  obtain ⟨c, k, rfl, rfl, h0, h1, q⟩ := h
  obtain ⟨t, rfl⟩ := rx
  obtain ⟨t', rfl⟩ := ry
  have e1 : (⟨#[c]⟩ : Str).length = 1 := rfl
  refine SB.mul ⟨?_, fun _ _ => ?_, fun _ _ => ?_⟩ fun t' k' => ⟨.str _, H, I.tok _, ⟨_, rfl⟩, ?_⟩
  · rw [decide_eq_false (by omega), decide_eq_false (by omega)]; rfl
  · rw [e1]
    have h2 : (0 : Int) < k := by omega
    have : (1 : Int) ≤ (2 ^ 63 - 1) / k := Int.le_ediv_of_mul_le h2 (by omega)
    omega
  · rw [e1, Nat.one_mul]
    exact decide_eq_false (show ¬ (k.toNat > sizeLine) by rw [sizeLine_eq]; omega)
  · rw [txt_mul_one h0]; exact q
theorem ko_inV (K : PySem.W.Frag) (h : X.K = K) : OpR X (compareOp .In) (rIn K false) := h ▸ op_in_seq
theorem mMax_i {i j : Int} {H : Hp} {Q : VK} (k : Q (.int (if j > i then j else i)) H) : mMax [.int i, .int j] H Q := ⟨i, j, rfl, k⟩
theorem mRepS_i {c : Nat} {k : Int} {H : Hp} {Q : VK} (h0 : 0 ≤ k) (h1 : k ≤ 1000) (q : Q (.str ⟨(List.replicate k.toNat c).toArray⟩) H) : mRepS (.str ⟨#[c]⟩) (.int k) H Q := ⟨c, k, rfl, rfl, h0, h1, q⟩
end
end L2
set_option Elab.async false
set_option linter.all false
set_option maxRecDepth 100000
set_option maxHeartbeats 4000000
namespace L2
open PySem PySem.Spec PyProof.Rows
section
variable {X : Cx}
end
end L2
namespace L2
open PySem PySem.Spec PyProof.Rows
section
variable {X : Cx}
noncomputable def rDIn (n : Bool) : R2 := fun x y H Q => ∃ a o, y = .ref a ∧ DGet H a x o ∧ Q (.bl (n ^^ o.isSome)) H
theorem ko_inD (hu : X.A.units + 1 < cLine) : OpR X (compareOp .In) (rDIn false) := by
  intro pins s σ H x y v u Q I rx ry h
  obtain ⟨a, o, rfl, g, q⟩ := h
  cases ry
  exact d_in hu I g rx fun s3 I3 => ⟨.bl _, H, I3, rfl, by simpa using q⟩
end
section
variable {σ : St} {H : Hp} {Q : VK} {D : Ends} {td ty tx tv : TE}
theorem tDGet_i (k : td σ H fun x H1 => ty σ H1 fun y H2 => ∃ a v, x = .ref a ∧ DGet H2 a y (some v) ∧ Q v H2) : tDGet td ty σ H Q := k
theorem tDGet2_i (k : td σ H fun x H1 => ∃ a, x = .ref a ∧ IsD H1 a ∧ ty σ H1 fun y H2 => tx σ H2 fun z H3 => ∃ o, DGet H3 a y o ∧ Q (o.getD z) H3) : tDGet2 td ty tx σ H Q := k
theorem sDPut_i (k : tv σ H fun v H1 => td σ H1 fun x H2 => ty σ H2 fun y H3 => ∃ a H4, x = .ref a ∧ DPut H3 a y v H4 ∧ D.nx σ H4) : sDPut td ty tv D σ H := k
theorem tDisp_i {trs : List (TE × TE)} (k : ∀ p, H p = none → tPairs trs σ (upd H p (.dK [])) fun ps H2 => H2 p = some (.dK []) ∧ ∃ kvs : List (Key × V), ps = kvs.map (fun kv => (kV kv.1, kv.2)) ∧ kvs.length ≤ 15 ∧ Q (.ref p) (upd H2 p (.dK (mergeK [] kvs)))) : tDisp trs σ H Q := k
theorem tPairs_c {tk tv : TE} {r : List (TE × TE)} {R : List (V × V) → Hp → Prop} (k : tk σ H fun x H1 => tv σ H1 fun y H2 => tPairs r σ H2 fun ps H3 => R ((x, y) :: ps) H3) : tPairs ((tk, tv) :: r) σ H R := k
theorem tPairs_n {R : List (V × V) → Hp → Prop} (k : R [] H) : tPairs [] σ H R := k
end
end L2
set_option Elab.async false
set_option linter.all false
set_option maxRecDepth 100000
set_option maxHeartbeats 4000000
namespace L2
open PySem PySem.Spec PyProof.Rows
section
variable {X : Cx}
noncomputable def mIsN (n : Bool) : R2 := fun x y H Q => y = .non ∧ Q (.bl (n ^^ decide (x = .non))) H
theorem isN_non {n : Bool} {H : Hp} {Q : VK} (k : Q (.bl (!n)) H) : mIsN n .non .non H Q := ⟨rfl, by rw [decide_eq_true rfl, Bool.xor_true]; exact k⟩
theorem isN_ref {n : Bool} {a : Addr} {H : Hp} {Q : VK} (k : Q (.bl n) H) : mIsN n (.ref a) .non H Q := ⟨rfl, by rw [decide_eq_false (fun z => by cases z), Bool.xor_false]; exact k⟩
noncomputable def mInt : List V → Hp → VK → Prop := fun vs H Q => match vs with
  | [.int i] => Q (.int i) H
  | [.bl b] => Q (.int (if b then 1 else 0)) H
  | _ => False
theorem mc_int : CallR X (.type "int") mInt := by
  intro pins s σ H xs us Q I r h
  refine call_int1 pins s σ H xs us Q I r ?_
  unfold mInt at h
  split at h
  · exact .inl ⟨_, rfl, h⟩
  · exact .inr ⟨_, rfl, h⟩
  · exact h.elim
theorem mInt_b {b : Bool} {H : Hp} {Q : VK} (k : Q (.int (if b then 1 else 0)) H) : mInt [.bl b] H Q := k
end
noncomputable def But (p : Addr) (H H' : Hp) : Prop := ∀ b o, b ≠ p → H b = some o → H' b = some o
theorem But.refl (p : Addr) (H : Hp) : But p H H := fun _ _ _ h => h
theorem But.trans {p : Addr} {H H1 H2 : Hp} (a : But p H H1) (b : But p H1 H2) : But p H H2 := fun c o n h => b c o n (a c o n h)
theorem but_upd {p : Addr} {H : Hp} (o : HO) : But p H (upd H p o) := fun b u n h => by rw [upd_ne n]; exact h
theorem But.tup {K : PySem.W.Frag} {p : Addr} {H H' : Hp} {ys : List V} (e : But p H H') (hp : H p = some (.lst ys)) {a : Addr} {xs : List V} (h : SqT K H a xs) : SqT K H' a xs := by
  rcases h with (h | ⟨o, h⟩) | h
  · exact .inl (.inl (e _ _ (fun z => by subst z; rw [hp] at h; cases h) h))
  · exact .inl (.inr ⟨o, e _ _ (fun z => by subst z; rw [hp] at h; cases h) h⟩)
  · exact .inr h
theorem But.den {K : PySem.W.Frag} {p : Addr} {H H' : Hp} {ys : List V} (e : But p H H') (hp : H p = some (.lst ys)) {v : V} {d : PyData} (h : Den K H v d) : Den K H' v d := h.monoT fun _ _ q => e.tup hp q
theorem sIx_to (n : Nat) (m : Int) (h : 0 ≤ m) : HT.sIx n n (some m) = min m.toNat n := by
  unfold HT.sIx
  have e : ¬ (m < 0) := by omega
  simp only [e, if_false]
theorem sIx_none (n k : Nat) : HT.sIx n k none = k := rfl
end L2
set_option Elab.async false
set_option linter.all false
set_option maxRecDepth 100000
set_option maxHeartbeats 4000000
namespace L2
open PySem PySem.Spec PyProof.Rows
section
variable {X : Cx} {pins : List (Addr × Obj)} {σ : St} {H : Hp} {s : Shared} {h' : Heap}
end
noncomputable def Ite (K : PySem.W.Frag) (a : Addr) (n : Nat) : It := ⟨fun i H => i < n ∧ ∃ xs, SqL K H a xs ∧ xs.length = n, fun i H v H' => ∃ T x, H T = none ∧ v = .ref T ∧ H' = upd H T (.tup [.int i, x]) ∧ ∀ xs, SqL K H a xs → xs[i]? = some x, fun i H => i = n ∧ ∃ xs, SqL K H a xs ∧ xs.length = n⟩
section
variable {X : Cx}
noncomputable def iEnum (K : PySem.W.Frag) (ta : TA) : TI := fun σ H R => ta σ H fun vs H1 => ∃ a xs, vs = [.ref a] ∧ SqL K H1 a xs ∧ R (Ite K a xs.length) H1
end
theorem iEnum_i {K : PySem.W.Frag} {σ : St} {H : Hp} {ta : TA} {R : It → Hp → Prop} (k : ta σ H fun vs H1 => ∃ a xs, vs = [.ref a] ∧ SqL K H1 a xs ∧ R (Ite K a xs.length) H1) : iEnum K ta σ H R := k
end L2
set_option Elab.async false
set_option linter.all false
set_option maxRecDepth 100000
set_option maxHeartbeats 4000000
namespace L2
open PySem PySem.Spec PyProof.Rows PySem.W
noncomputable def RawD (h : Heap) (a : Addr) (es : Array DictEntry) (ep : Nat) : Prop := ∃ o, h.get? a = some o ∧ o.ExactDict ∧ o.data = .dict es ep
theorem RawD.on {h h' : Heap} {a : Addr} {es : Array DictEntry} {ep : Nat} (x : RawD h a es ep) (k : ∀ o, h.get? a = some o → h'.get? a = some o) : RawD h' a es ep := let ⟨o, p, r⟩ := x; ⟨o, k o p, r⟩
theorem RawD.lt {h : Heap} {a : Addr} {es : Array DictEntry} {ep : Nat} (x : RawD h a es ep) : a < h.objs.size := let ⟨_, p, _⟩ := x; Heap.lt_size p
theorem RawD.ty {s : Shared} {a : Addr} {es : Array DictEntry} {ep : Nat} (x : RawD s.heap a es ep) : s.TypeIs (.ref a) "dict" := let ⟨o, p, c, _⟩ := x; ⟨o, p, c.1⟩
section
variable {prog : Program} {w : World} {A : Around} {E : Value → Shared → Prop} {s : Shared} {d : Addr} {es : Array DictEntry} {ep : Nat}
end
end L2
set_option Elab.async false
set_option linter.all false
set_option maxRecDepth 100000
set_option maxHeartbeats 4000000
namespace L2
open PySem PySem.Spec PyProof.Rows PySem.W
section
variable {X : Cx}
end
end L2
set_option Elab.async false
set_option linter.all false
set_option maxRecDepth 100000
set_option maxHeartbeats 4000000
namespace L2
open PySem PySem.Spec PyProof.Rows PySem.W
open PySem.AutoSeq1 (wpAny_loadPart')
noncomputable def EqIn (prog : Program) (w : World) (A : Around) (s : Shared) (y x : Value) : Prop := ∀ (E : Value → Shared → Prop) (Q : Bool → Shared → Prop), Q true s → wpAny (model prog w) A (eqBool y x) Q E s
section
variable {prog : Program} {w : World} {A : Around} {E : Value → Shared → Prop} {s : Shared}
theorem EqIn.at {y x : Value} (h : SeqAt.EqAt A s y x true) : EqIn prog w A s y x := fun E Q q => h prog w E Q q
variable {K : Type} [DecidableEq K] {knd : HeapKind prog w K}
end
section
variable {X : Cx}
end
end L2
set_option Elab.async false
set_option linter.all false
set_option maxRecDepth 100000
set_option maxHeartbeats 4000000
namespace L2
open PySem PySem.Spec PyProof.Rows PySem.W
section
variable {X : Cx}
end
section
variable {K : PySem.W.Frag} {σ : St} {H : Hp} {Q : VK} {D : Ends} {a : Addr} {xs : List V} {n : Nat}
theorem gCons_i {t : TG} {u : TGs} {v : V} {r : List V} {N : St → Hp → Prop} (k : t v σ H fun σ' H' => u r σ' H' N) : gCons t u (v :: r) σ H N := ⟨v, r, rfl, k⟩
theorem gNil_i {N : St → Hp → Prop} (k : N σ H) : gNil [] σ H N := ⟨rfl, k⟩
end
end L2
set_option Elab.async false
set_option linter.all false
set_option maxRecDepth 100000
set_option maxHeartbeats 4000000
namespace L2
open PySem PySem.Spec PyProof.Rows PySem.W
section
variable {X : Cx}
end
end L2
set_option Elab.async false
set_option linter.all false
set_option maxRecDepth 100000
set_option maxHeartbeats 4000000
namespace Att
open PySem PySem.W PySem.Calls PyProof.Rows
theorem bits_of {ns : List Int} (h : WData.layableAll [WData.list (ns.map WData.int)] = true) : ∀ i ∈ ns, Builtin.Int.intBits i ≤ 1048576 := by
  have h1 : (WData.list (ns.map WData.int)).layable = true := by
    unfold WData.layableAll at h
    simpa using h
  obtain ⟨g1, g2, h2⟩ := layableW_iff.mp h1
  have h3 : WData.weightAll (ns.map WData.int) ≤ 2 ^ 20 := h2
  clear h h1 h2 g1 g2
  induction ns with
  | nil => intro i hi; exact absurd hi (by simp)
  | cons n r ih =>
    rw [List.map_cons] at h3
    have h4 : (WData.int n).weight + 1 + WData.weightAll (r.map WData.int) ≤ 2 ^ 20 := h3
    intro i hi
    rcases List.mem_cons.mp hi with e | e
    · subst e
      have : (WData.int i).weight = Builtin.Int.intBits i := rfl
      omega
    · exact ih (by omega) i e
theorem attach_callB {l : OpenLaw} {n : Nat} {q : Program} {loose : List Str} {XP : (Str → Option Value) → Heap → Prop} {YP : World → Heap → Prop} {d : DefRec}
    (hn : l.most = some n) (hdf : d.params.defaults = [])
    (call : ∀ (w : World) (s₀ s₁ : Shared) (mg mb : Str → Option Value) (fa : Addr) (o : Obj) (pm cd doc : Value) (a : Addr) (vs : List Value) (ns : List Int),
      Ground q loose [] XP w s₀ mg mb s₁.heap → YP w s₁.heap →
      s₁.heap.get? fa = some o → o.data = .func (docDef d.name d.params d.body d.scope pm cd doc) → s₁.heap.CodeRec cd d.name → mg d.name = some (.ref fa) →
      s₁.heap.get? a = some { cls := .type "list", data := .seq vs.toArray } → IntsAre vs ns → ns.length ≤ n → (∀ i ∈ ns, Builtin.Int.intBits i ≤ 1048576) → s₁.gens = #[] →
      codeAny (model l.prog w) callerA (.call (.ref fa) ⟨[.ref a], []⟩) (fun r s' => r = .ok (.ret (.bool true)) ∧ OldK s₁.heap s'.heap ∧ s'.os = s₁.os ∧ AllBare s'.gens) s₁) :
    WalkO q loose XP YP l.row.toRowW d [] (fun f vs => PySem.call f vs) := by
  intro w s₀ s₁ mg mb G Y fa o pm cd doc dV kV ho hd hcd hD hmg hg args vals as hpre hlay hrd hwl hlo
  obtain rfl : dV = .none := Dflts.none hD hdf
  obtain rfl : kV = .none := Dflts.noKw hD
  obtain ⟨a, vs, ns, rfl, rfl, hobj, hints, hlen⟩ := script_of hn hpre hwl
  refine enter_call (codeAny_mono (call w s₀ s₁ mg mb fa o pm cd doc a vs ns G Y ho (fd_plain hd) hcd hmg hobj hints hlen (bits_of hlay) hg) fun r s' hq => ?_)
  obtain ⟨rfl, h2, h3, h4⟩ := hq
  exact ⟨.inl ⟨.bool true, .bool true, [], rfl, fun _ => rfl, .bool true, post_true l _, fun _ => ⟨List.Pairwise.nil, fun _ hm => (nomatch hm)⟩⟩, h2, h3, h4⟩
end Att
namespace L2
open PySem PySem.Spec PyProof.Rows
theorem walk_ofB {l : PySem.W.OpenLaw} {n k : Nat} {q : Program} {loose : List Str} {XP : (Str → Option Value) → Heap → Prop} {YP : World → Heap → Prop} {d : DefRec} {K : Params → PySem.W.Frag} {CX : World → CXT} {sp : World → Sp} {x : Str}
    (hn : l.most = some n) (hn2 : n ≤ sizeLine) (hdf : d.params.defaults = []) (hr : Room k callerA)
    (hY : ∀ (w : World) (h : Heap), YP w h → (K w.params).In h)
    (F : ∀ (w : World) (mg : Str → Option Value) (fa : Addr) (h : Heap), (K w.params).In h → h.Ns mainGlobals mg → mg d.name = some (.ref fa) →
      ∃ fd : FuncData, (∀ (s : Shared) (u : Value), BindsTo s fd ⟨[u], []⟩ [(x, u)]) ∧
        ∀ base : Heap, (K w.params).In base → base.Ns mainGlobals mg → FnOk l.prog w (K w.params) mg base (CX w) k fa fd [x] (sp w))
    (hsp : ∀ (w : World) (H : Hp) (a : Addr) (ns : List Int), ns.length ≤ n → (∀ i ∈ ns, Builtin.Int.intBits i ≤ 1048576) → Only H → SqL (K w.params) H a (ns.map V.int) → sp w [.ref a] H (fun v _ => v = .bl true) fun _ _ _ => False)
    (hCX : ∀ (w : World) (H : Hp) (s : Shared) (e : Value) (s' : Shared), CX w [] H s (fun _ _ _ => False) e s' → False) :
    PySem.W.WalkO q loose XP YP l.row.toRowW d [] (fun f vs => PySem.call f vs) := by
  refine Att.attach_callB hn hdf fun w s₀ s₁ mg mb fa o pm cd doc a vs ns G Y ho hd hcd hmg hobj hints hlen hbits hg => ?_
  have KX := hY w _ Y
  obtain ⟨fd, hb, hF⟩ := F w mg fa _ KX G.T.g hmg
  exact law_call KX G.T.g G.T.b G.T.builtins G.T.nolimit hg hobj hints (Nat.le_trans hlen hn2) hr hF hb (fun H hO hS => hsp w H a ns hlen hbits hO hS) fun H e s' => hCX w H s₁ e s'
theorem mulOk_bits {a b : Int} (h : Builtin.Int.intBits a + Builtin.Int.intBits b ≤ 8388608) : IntMulOk a b := by
  unfold IntMulOk Builtin.Int.intTooBig
  intro z
  simp only [Bool.and_eq_true, decide_eq_true_eq] at z
  have h2 := z.2
  have hb : ((bitsLine : Nat) : Int) = 134217728 := by decide
  omega
theorem bits_lt (x : Int) (k : Nat) (h : x.natAbs < 2 ^ k) : Builtin.Int.intBits x ≤ k := by
  unfold Builtin.Int.intBits
  by_cases h0 : x = 0
  · subst h0; simp
  · have hz : (x == 0) = false := beq_eq_false_iff_ne.mpr h0
    rw [hz]
    simp only [Bool.false_eq_true, if_false]
    have h1 : x.natAbs ≠ 0 := by omega
    have := (Nat.log2_lt h1).mpr h
    omega
theorem lt_bits (x : Int) (k : Nat) (h : Builtin.Int.intBits x ≤ k) : x.natAbs < 2 ^ k := by
  unfold Builtin.Int.intBits at h
  by_cases h0 : x = 0
  · subst h0; simp; exact Nat.two_pow_pos k
  · have hz : (x == 0) = false := beq_eq_false_iff_ne.mpr h0
    rw [hz] at h
    simp only [Bool.false_eq_true, if_false] at h
    have h1 : x.natAbs ≠ 0 := by omega
    exact (Nat.log2_lt h1).mp (by omega)
end L2
set_option Elab.async false
set_option linter.all false
set_option maxRecDepth 100000
set_option maxHeartbeats 4000000
namespace L2
open PySem PySem.Spec PyProof.Rows PySem.W
structure QS (X : Cx) (st : Stmt) (t : TS) : Prop where
  ps : PS X st t
structure QSs (X : Cx) (l : List Stmt) (t : TS) : Prop where
  pss : PSs X l t
section
variable {X : Cx} {pos pos' : Pos} {e k v : Expr} {te tk tv : TE} {st : Stmt} {rest : List Stmt} {t u : TS}
theorem qss_cons (h1 : QS X st t) (h2 : QSs X rest u) : QSs X (st :: rest) (tSeq t u) := ⟨pss_cons h1.ps h2.pss⟩
theorem qss_one (h1 : QS X st t) : QSs X [st] t := ⟨pss_one h1.ps⟩
end
section
variable {X : Cx} {pos : Pos} {e : Expr} {te : TE}
end
section
variable {X : Cx} {tg : Expr}
noncomputable def iSeq (K : PySem.W.Frag) (tl : TE) : TI := fun σ H R => tl σ H fun x H1 => ∃ a, x = .ref a ∧ ((∃ xs, SqL K H1 a xs ∧ R (Itl K a) H1) ∨ ∃ xs, SqT K H1 a xs ∧ R (Itt K a) H1)
theorem iSeq_i {K : PySem.W.Frag} {σ : St} {H : Hp} {ta : TE} {R : It → Hp → Prop} (k : ta σ H fun x H1 => ∃ a, x = .ref a ∧ ((∃ xs, SqL K H1 a xs ∧ R (Itl K a) H1) ∨ ∃ xs, SqT K H1 a xs ∧ R (Itt K a) H1)) : iSeq K ta σ H R := k
noncomputable def mAbs : List V → Hp → VK → Prop := fun vs H Q => ∃ i, vs = [.int i] ∧ Q (.int (if i < 0 then -i else i)) H
theorem mAbs_i {i : Int} {H : Hp} {Q : VK} (k : Q (.int (if i < 0 then -i else i)) H) : mAbs [.int i] H Q := ⟨i, rfl, k⟩
end
end L2
set_option Elab.async false
set_option linter.all false
set_option maxRecDepth 100000
set_option maxHeartbeats 4000000
namespace L2
open PySem PySem.Spec PyProof.Rows PySem.W
noncomputable def TbIs (h : Heap) (T : Addr) : Prop := ∃ oT ts, h.get? T = some oT ∧ oT.data = .fields ts ∧ ts[3]? = some Value.none
structure Left (fs : List Addr) (ea : Addr) (o : Obj) (ok : Addr → Prop) (h h' : Heap) : Prop where
  keep : ∀ b u, b ≠ ea → ¬ ok b → b ∉ fs → h.get? b = some u → h'.get? b = some u
  slot : ∀ b u, b ≠ ea → ¬ ok b → h.get? b = some u → ∃ sl, h'.get? b = some { u with slots := sl }
  there : ∀ b u, h.get? b = some u → ∃ u', h'.get? b = some u'
  tb : ∃ T, h.objs.size ≤ T ∧ TbIs h' T ∧ h'.get? ea = some (o.mapFields (·.setIfInBounds 1 (.ref T)))
theorem mf_data {o : Obj} {vs : Array Value} (f : Array Value → Array Value) (h : o.data = .fields vs) : (o.mapFields f).data = .fields (f vs) := Obj.data_mapFields h f
theorem mf_dict (o : Obj) (f : Array Value → Array Value) : (o.mapFields f).dict = o.dict := by
  unfold Obj.mapFields
  split <;> rfl
section
variable {M : Model} {A : Around} {E : Value → Shared → Prop}
theorem leave_entry {s : Shared} {base : Heap} {env : Env} {outer : List Env} {L ea : Addr} {o : Obj} {vs : Array Value} {hd0 : Value} {had : Bool} {Q : Unit → Shared → Prop}
    (fr : A.frames = some (env :: outer)) (ff : s.heap.FunFrames base (env :: outer)) (fe : env.frame = some L) (ge : s.heap.get? ea = some o) (gd : o.data = .fields vs) (g1 : 1 < vs.size)
    (q : ∀ h', Left (frs (env :: outer)) ea o (fun _ => False) s.heap h' → Q () { s with heap := h' }) :
    wpAny M A (do let a ← frameOf env; let pl ← entryPlaceOf L had; let b ← EntryCells.newEntry hd0 a .none (rawInt L) .none pl; setField (.ref ea) 1 b) (fun _ s1 => wpAny M A (setFlight (.ref ea) none) Q E s1) E s := by
  have nea : ea ∉ frs (env :: outer) := fun z => by
    obtain ⟨_, u, hu, hn⟩ := ff.mem z
    rw [ge] at hu
    cases hu
    exact hn vs gd
  refine wpAny_bind (wpAny_frameOf_fun fr ff fe fun hA sA => ?_)
  refine wpAny_bind (wpAny_entryPlaceOf fun pl hpl => ?_)
  unfold EntryCells.newEntry newFields
  refine wpAny_bind (wpAny_newObj_type ?_ (hpl.sizeOk5 _ _ _ _ _))
  generalize hob : ({ cls := .type "traceback", dict := none, data := .fields ([hd0, .ref L, .none, rawInt L, .none] ++ (if pl.isEmpty then List.replicate 6 Value.none else pl)).toArray } : Obj) = ob
  have obd : ob.data = .fields ([hd0, .ref L, .none, rawInt L, .none] ++ (if pl.isEmpty then List.replicate 6 Value.none else pl)).toArray := by rw [← hob]
  have eA : hA.get? ea = some o := (sA.2.1 ea nea).trans ge
  have eB := Heap.get?_push_of_some (h := hA) ob eA
  have nT : hA.objs.size ≠ ea := Nat.ne_of_gt (Heap.lt_size eA)
  refine wpAny_setField eB gd g1 ?_
  have dC := mf_data (·.setIfInBounds 1 (Value.ref hA.objs.size)) gd
  have eC := Heap.get?_update_self (Obj.mapFields (·.setIfInBounds 1 (Value.ref hA.objs.size))) eB (Obj.isFreed_of_fields dC)
  have tC := (Heap.get?_update_other (hA.push ob) (Obj.mapFields (·.setIfInBounds 1 (Value.ref hA.objs.size))) (Ne.symm nT)).trans (Heap.get?_push_size hA (by cases ob; cases hob; rfl))
  have sz3 : 3 < ([hd0, .ref L, .none, rawInt L, .none] ++ (if pl.isEmpty then List.replicate 6 Value.none else pl)).toArray.size := by
    simp only [List.size_toArray, List.length_append, List.length_cons, List.length_nil]
    omega
  unfold setFlight
  refine wpAny_bind (wpAny_field eC dC (x := .ref hA.objs.size) (by simp [g1]) ?_)
  rw [if_pos (show (Value.ref hA.objs.size != Value.none) = true from by simp)]
  refine wpAny_setField tC obd sz3 (q _ ?_)
  have kept : ∀ b u, b ≠ ea → hA.get? b = some u → (((hA.push ob).update ea (Obj.mapFields (·.setIfInBounds 1 (Value.ref hA.objs.size)))).update hA.objs.size (Obj.mapFields (·.setIfInBounds 3 ((none : Option Addr).elim Value.none fun f => rawInt f)))).get? b = some u := fun b u hb hu => by
    rw [Heap.get?_update_other _ _ (Nat.ne_of_gt (Heap.lt_size hu)), Heap.get?_update_other _ _ (Ne.symm hb)]
    exact Heap.get?_push_of_some _ hu
  refine ⟨fun b u hb _ hf hu => kept b u hb ((sA.2.1 b hf).trans hu), fun b u hb _ hu => ?_, fun b u hu => ?_, hA.objs.size, ?_, ?_, ?_⟩
  · obtain ⟨sl, e⟩ := sA.2.2 b u hu
    exact ⟨sl, kept b _ hb e⟩
  · by_cases hb : b = ea
    · subst hb
      exact ⟨_, by rw [Heap.get?_update_other _ _ nT]; exact eC⟩
    · obtain ⟨sl, e⟩ := sA.2.2 b u hu
      exact ⟨_, kept b _ hb e⟩
  · rw [sA.1]
    exact Nat.le_refl _
  · exact ⟨_, _, Heap.get?_update_self _ tC (Obj.isFreed_of_fields (mf_data _ obd)), mf_data _ obd, by simp [sz3]⟩
  · rw [Heap.get?_update_other _ _ nT]
    exact eC
theorem leave_any {s : Shared} {base : Heap} {env : Env} {outer : List Env} {L ea : Addr} {o : Obj} {vs : Array Value} {ok : Addr → Prop} {Q : Unit → Shared → Prop}
    (fr : A.frames = some (env :: outer)) (ff : s.heap.FunFrames base (env :: outer)) (fe : env.frame = some L) (ge : s.heap.get? ea = some o) (gd : o.data = .fields vs)
    (tb : vs[1]? = some .none ∨ ∃ T, vs[1]? = some (.ref T) ∧ T ≠ ea ∧ ok T ∧ TbIs s.heap T)
    (q : ∀ h', Left (frs (env :: outer)) ea o ok s.heap h' → Q () { s with heap := h' }) : wpAny M A (noteFrame (.ref ea) env) (fun _ s1 => wpAny M A (setFlight (.ref ea) none) Q E s1) E s := by
  unfold noteFrame
  simp only [fe]
  rcases tb with g | ⟨T, g, nT, kT, oT, ts, hT, dT, t3⟩
  · refine wpAny_bind (wpAny_field ge gd g ?_)
    rw [if_neg (by decide)]
    refine leave_entry fr ff fe ge gd (Array.getElem?_eq_some_iff.mp g).1 fun h' l => q h' ⟨fun b u hb _ => l.keep b u hb id, fun b u hb _ => l.slot b u hb id, l.there, l.tb⟩
  · refine wpAny_bind (wpAny_field ge gd g ?_)
    rw [if_pos (show (Value.ref T != Value.none) = true from by simp)]
    refine wpAny_bind (wpAny_field hT dT t3 ?_)
    rw [if_neg (show ¬ ((Value.none == rawInt L) = true) from by simp [rawInt])]
    refine wpAny_bind (wpAny_setField hT dT (Array.getElem?_eq_some_iff.mp t3).1 ?_)
    have oth : ∀ b, b ≠ T → (s.heap.update T (Obj.mapFields (·.setIfInBounds 3 Value.none))).get? b = s.heap.get? b := fun b hb => Heap.get?_update_other _ _ (Ne.symm hb)
    have self := Heap.get?_update_self (Obj.mapFields (·.setIfInBounds 3 Value.none)) hT (Obj.isFreed_of_fields (mf_data _ dT))
    have nrec : ∀ b u, s.heap.get? b = some u → (∀ ws, u.data ≠ .fields ws) → b ≠ T := fun b u hu hn z => by
      subst z
      rw [hT] at hu
      cases hu
      exact hn ts dT
    refine leave_entry fr (ff.of_keeps fun b u hu hn => ⟨u, (oth b (nrec b u hu hn)).trans hu, rfl⟩) fe ((oth ea (Ne.symm nT)).trans ge) gd (Array.getElem?_eq_some_iff.mp g).1 fun h' l => q h' ⟨fun b u hb hk hf hu => l.keep b u hb id hf ((oth b (fun z => hk (z ▸ kT))).trans hu), fun b u hb hk hu => l.slot b u hb id ((oth b (fun z => hk (z ▸ kT))).trans hu), fun b u hu => ?_, ?_⟩
    · by_cases hb : b = T
      · subst hb
        exact l.there b _ self
      · exact l.there b u ((oth b hb).trans hu)
    · obtain ⟨T2, h1, h2, h3⟩ := l.tb
      exact ⟨T2, by rw [Heap.size_after_update] at h1; exact h1, h2, h3⟩
end
end L2
set_option Elab.async false
set_option linter.all false
set_option maxRecDepth 100000
set_option maxHeartbeats 4000000
namespace L2
open PySem PySem.W
noncomputable abbrev newS : String := "ValueError.__new__"
structure XCls (K : Frag) (C : Addr) (bm : List Value) : Prop where
  obj : ∃ nm q N bs sn sub ab col dd k0 k1 k2 k3 k5, K.lookup C = some (excClassObj nm q C N bs bm true sn sub ab col dd k0 k1 k2 k3 k5 newS)
  hasV : bm.contains (.type "ValueError") = true
  hasB : bm.contains (.type "BaseException") = true
  noA : bm.contains (.type "AttributeError") = false
  noN : bm.contains (.type "NameError") = false
section
variable {prog : Program} {w : World} {A : Around} {E : Value → Shared → Prop} {R : Result → Shared → Prop} {h : Heap} {g : Array GenState} {d : Drawn} {t : Nat} {os : OsState}
variable {nm q : Str} {C N : Addr} {bs bm : List Value} {sn : List Str} {sub : List Value} {ab : Bool} {col : Option Bool} {dd : Option Addr} {k0 k1 k2 k3 k5 : Option Value}
theorem x_check (hV : bm.contains (.type "ValueError") = true) {rest : List Value} {Q : Unit → Shared → Prop} (hC : h.get? C = some (excClassObj nm q C N bs bm true sn sub ab col dd k0 k1 k2 k3 k5 newS)) (hq : Q () ⟨h, g, d, t, os⟩) :
    wpAny (model prog w) A (checkBuiltinCall newS ⟨.ref C :: rest, []⟩) Q E ⟨h, g, d, t, os⟩ := by
  have F := PySem.F.excBase_ValueError
  have hc : (Value.ref C :: bm).contains (.type "ValueError") = true := by rw [List.contains_cons, hV, Bool.or_true]
  have hs := F.noStar
  simp only [checkBuiltinCall, F.newKind, F.newSplit, F.newRow]
  repeat (first | refine wpAny_loadPart_at hC ?_ | (refine wpAny_isSubtype_exc hC ?_; rw [hc]) | refine wpAny_staticBase_exc hC ?_ | refine wpAny_madeBy_exc hC ?_ | simp only [bne_self_eq_false, Bool.false_eq_true, if_false] | wp_step)
  exact hq
theorem x_new (hV : bm.contains (.type "ValueError") = true) (hA : bm.contains (.type "AttributeError") = false) (hN : bm.contains (.type "NameError") = false) {rest : List Value} (hC : h.get? C = some (excClassObj nm q C N bs bm true sn sub ab col dd k0 k1 k2 k3 k5 newS))
    (hq : R (.ok (.ret (.ref (h.objs.size + 1)))) ⟨(h.push { cls := .type "tuple", data := .seq rest.toArray }).push { cls := .ref C, data := .fields #[.ref h.objs.size, .none, .none, .none, .bool false, .none] }, g, d, t, os⟩) (hl : rest.length ≤ sizeLine) :
    codeAny (model prog w) A (.builtin newS ⟨.ref C :: rest, []⟩) R ⟨h, g, d, t, os⟩ := by
  have F := PySem.F.excBase_ValueError
  have he := F.ends
  have c1 : (Value.ref C :: bm).contains (.type "ValueError") = true := by rw [List.contains_cons, hV, Bool.or_true]
  have c2 : (Value.ref C :: bm).contains (.type "AttributeError") = false := by rw [List.contains_cons, hA]; rfl
  have c3 : (Value.ref C :: bm).contains (.type "NameError") = false := by rw [List.contains_cons, hN]; rfl
  refine codeAny_builtinAt F.entry ?_
  unfold Builtin.«BaseException.__new__»
  refine wpAt_bind ?_
  show wpAt _ _ _ (stack >>= _) _ _ _
  refine wpAt_bind (wpAt_stack fun p below => wpAt_of_wpAny ?_)
  wp_walk
  refine wpAt_of_wpAny ?_
  rw [F.owner]
  repeat (first | with_reducible refine wpAny_madeHere_exc F.canon hC ?_ | with_reducible refine wpAny_loadPart_at hC ?_ | (with_reducible refine wpAny_isSubtype_exc hC ?_; first | rw [c1] | rw [c2] | rw [c3]) | wp_step)
  show R _ _
  rw [Heap.size_push]
  exact hq
theorem x_tcall {K : Frag} {fI : Addr} (KX : K.In h) (X : XCls K C bm) (hI : findIn K (.ref C) "__init__" = some (some (.ref fI))) (hf : typeIn K (.ref fI) = some (.type "function")) {rest : List Value} {Q : PySem.Fin → Shared → Prop} (hl : rest.length ≤ sizeLine)
    (hq : wpAny (model prog w) A (call (.ref fI) (.ref (h.objs.size + 1) :: rest)) (fun r s' => r = .none ∧ Q (.done (.ret (.ref (h.objs.size + 1)))) s') E ⟨((h.push { cls := .type "tuple", data := .seq rest.toArray }).push { cls := .ref C, data := .fields #[.ref h.objs.size, .none, .none, .none, .bool false, .none] }), g, d, t, os⟩) :
    wpAny (model prog w) A (Builtin.«type.__call__» ⟨.ref C :: rest, []⟩) Q E ⟨h, g, d, t, os⟩ := by
  obtain ⟨nm, q, N, bs, sn, sub, ab, col, dd, k0, k1, k2, k3, k5, hC'⟩ := X.obj
  have hC := KX _ _ hC'
  have F := PySem.F.excBase_ValueError
  repeat (first | with_reducible refine wpAny_loadPart_at hC ?_ | with_reducible refine wpAny_madeBy_exc hC ?_ | wp_step)
  refine codeAny_call_builtin_code (Code.quiet_builtin _ F.quiet) (x_check X.hasV hC ?_)
  refine x_new X.hasV X.noA X.noN hC ?_ hl
  show wpAny _ _ _ _ _ _
  have kp : ∀ b o, h.get? b = some o → ((h.push { cls := .type "tuple", data := .seq rest.toArray }).push { cls := .ref C, data := .fields #[.ref h.objs.size, .none, .none, .none, .bool false, .none] }).get? b = some o := fun b o e => Heap.get?_push_of_some _ (Heap.get?_push_of_some _ e)
  have hC2 := kp _ _ hC
  have KX2 : K.In ((h.push { cls := .type "tuple", data := .seq rest.toArray }).push { cls := .ref C, data := .fields #[.ref h.objs.size, .none, .none, .none, .bool false, .none] }) := KX.keeps kp
  have hget : ((h.push { cls := .type "tuple", data := .seq rest.toArray }).push { cls := .ref C, data := .fields #[.ref h.objs.size, .none, .none, .none, .bool false, .none] }).get? (h.objs.size + 1) = some { cls := .ref C, data := .fields #[.ref h.objs.size, .none, .none, .none, .bool false, .none] } := by heap_get
  have cC : (Value.ref C :: bm).contains (.ref C) = true := by simp
  unfold isInstance
  repeat (first | with_reducible refine wpAny_loadPart_at hget ?_ | (with_reducible refine wpAny_isSubtype_exc hC2 ?_; rw [cC]) | wp_step)
  show wpAny _ _ (typeLookup (.ref C) _) _ _ _
  refine (looks_findIn KX2 hI).here ?_
  refine wpAny_holding (wpAny_bind ((bind_fn KX2 _ hf).here ?_))
  refine wpAny_bind (wpAny_mono hq (fun r s' hr => ?_) fun _ _ x => x)
  obtain ⟨rfl, hQ⟩ := hr
  wp_walk
  exact hQ
theorem x_call {K : Frag} {fI : Addr} (KX : K.In h) (X : XCls K C bm) (hI : findIn K (.ref C) "__init__" = some (some (.ref fI))) (hf : typeIn K (.ref fI) = some (.type "function")) {rest : List Value} {Q : Value → Shared → Prop} (hl : rest.length ≤ sizeLine)
    (hq : wpAny (model prog w) (A.under (.builtin "type.__call__" ⟨.ref C :: rest, []⟩)) (call (.ref fI) (.ref (h.objs.size + 1) :: rest)) (fun r s' => r = .none ∧ Q (.ref (h.objs.size + 1)) s') E ⟨((h.push { cls := .type "tuple", data := .seq rest.toArray }).push { cls := .ref C, data := .fields #[.ref h.objs.size, .none, .none, .none, .bool false, .none] }), g, d, t, os⟩) :
    wpAny (model prog w) A (call (.ref C) rest) Q E ⟨h, g, d, t, os⟩ := by
  obtain ⟨nm, q, N, bs, sn, sub, ab, col, dd, k0, k1, k2, k3, k5, hC'⟩ := X.obj
  have hC := KX _ _ hC'
  have f1 := tc_lookup
  have f2 := tc_bind (.ref C)
  have hT : (⟨h, g, d, t, os⟩ : Shared).TypeIs (.ref C) "type" := ⟨_, hC, rfl⟩
  refine wpAny_call (codeAny_of_tree ?_)
  show wpAny _ _ (callAny (.ref C) _) _ _ _
  repeat (any_goals (first | assumption | with_reducible refine wpAny_loadPart_at hC ?_ | wp_step))
  refine ⟨rfl, ?_⟩
  exact codeAny_call_builtin_at (Code.quiet_builtin _ (by decide +kernel)) entry_typeCall (wpAny_check_type_call_sub hC (x_tcall KX X hI hf hl hq))
end
end L2
set_option Elab.async false
set_option linter.all false
set_option maxRecDepth 100000
set_option maxHeartbeats 4000000
namespace L2
open PySem PySem.W
section
variable {prog : Program} {w : World} {A : Around} {E : Value → Shared → Prop} {R : Result → Shared → Prop} {h : Heap} {g : Array GenState} {d : Drawn} {t : Nat} {os : OsState} {K : Frag} {C e : Addr} {bm : List Value} {o : Obj} {vs : Array Value}
theorem x_init (KX : K.In h) (X : XCls K C bm) (he : h.get? e = some o) (hc : o.cls = .ref C) (hd : o.data = .fields vs) {t0 : Addr} (h0 : vs[0]? = some (.ref t0)) {v : Value} {Q : Value → Shared → Prop}
    (hq : Q .none ⟨(h.push { cls := .type "tuple", data := .seq [v].toArray }).update e (Obj.mapFields (·.setIfInBounds 0 (.ref h.objs.size))), g, d, t, os⟩) :
    wpAny (model prog w) A (call (.builtin "ValueError.__init__") [.ref e, v]) Q E ⟨h, g, d, t, os⟩ := by
  obtain ⟨nm, q, N, bs, sn, sub, ab, col, dd, k0, k1, k2, k3, k5, hC'⟩ := X.obj
  have hC := KX _ _ hC'
  have F := PySem.F.excBase_ValueError
  have c1 : (Value.ref C :: bm).contains (.type "ValueError") = true := by rw [List.contains_cons, X.hasV, Bool.or_true]
  have hs := F.noStar
  have ck : ∀ Q' : Unit → Shared → Prop, Q' () ⟨h, g, d, t, os⟩ → ∀ A' E', wpAny (model prog w) A' (checkBuiltinCall "ValueError.__init__" ⟨[.ref e, v], []⟩) Q' E' ⟨h, g, d, t, os⟩ := by
    intro Q' hq' A' E'
    simp only [checkBuiltinCall, F.initKind, F.initSplit, F.initRow]
    repeat (first | (with_reducible refine wpAny_loadPart_at he ?_; rw [hc]) | with_reducible refine wpAny_loadPart_at hC ?_ | (with_reducible refine wpAny_isSubtype_exc hC ?_; rw [c1]) | wp_step)
    exact hq'
  refine wpAny_call (codeAny_call_builtin F.init.plain F.initEntry (ck _ ?_ _ _))
  unfold Builtin.«BaseException.__init__»
  dsimp only
  rw [if_neg (by simp)]
  unfold newTuple Builtin.BaseException.bexcPut
  have hz : 0 < vs.size := (Array.getElem?_eq_some_iff.mp h0).1
  have he1 := Heap.get?_push_of_some (h := h) { cls := .type "tuple", data := .seq [v].toArray } he
  refine wpAny_bind (wpAny_newObj_type (wpAny_bind (wpAny_bind (wpAny_field he1 hd h0 (wpAny_bind (wpAny_setField he1 hd hz ?_))))) (by show [v].toArray.size ≤ sizeLine; rw [List.size_toArray, sizeLine_eq]; simp))
  exact wpAny_letGo (wpAny_pure hq)
theorem x_raise {M : Model} {env : Env} {s : Shared} {x : Sem Value} {Q : Flow → Shared → Prop} (hh : A.handled = none)
    (hx : wpAny M A x (fun v s1 => ∃ e o vs C bm, v = .ref e ∧ XCls K C bm ∧ K.In s1.heap ∧ s1.heap.get? e = some o ∧ o.cls = .ref C ∧ o.data = .fields vs ∧ vs[1]? = some .none ∧ E (.ref e) s1) E s) :
    wpAny M A (raiseStmt env (some x) none) Q E s := by
  unfold raiseStmt
  refine wpAny_bind (wpAny_mono hx (fun v s1 h1 => ?_) fun _ _ x => x)
  obtain ⟨e, o, vs, C, bm, rfl, X, KX, he, hc, hd, h1, hE⟩ := h1
  obtain ⟨hp, g, d, tk, os⟩ := s1
  obtain ⟨nm, q, N, bs, sn, sub, ab, col, dd, k0, k1, k2, k3, k5, hC'⟩ := X.obj
  have hC := KX _ _ hC'
  have cB : (Value.ref C :: bm).contains (.type "BaseException") = true := by rw [List.contains_cons, X.hasB, Bool.or_true]
  obtain ⟨oc, od, odt, osl⟩ := o
  dsimp only at hc hd
  subst hc hd
  repeat (first | with_reducible refine wpAny_loadPart_at he ?_ | with_reducible refine wpAny_loadPart_at hC ?_ | (with_reducible refine wpAny_isSubtype_exc hC ?_; rw [cB]) | (with_reducible refine wpAny_field he rfl h1 ?_) | wp_step)
  exact wpAny_raiseNew_none hh hE
theorem x_get (KX : K.In h) (X : XCls K C bm) (ga : findIn K (.ref C) "__getattribute__" = some (some (.builtin "BaseException.__getattribute__"))) (gx : findIn K (.ref C) "__getattr__" = some none) {name : Str} (hn : findIn K (.ref C) name = some none)
    (he : h.get? e = some o) (hc : o.cls = .ref C) {dx : Addr} (hdx : o.dict = some dx) (hd : o.data = .fields vs) {mA : Str → Option Value} (hm : h.Ns1 dx mA) {v : Value} (hv : mA name = some v) (hh : handedIn v = true) {expr : Bool} {Q : Value → Shared → Prop} (hq : Q v ⟨h, g, d, t + 1, os⟩) :
    wpAny (model prog w) A (getAttr (.ref e) name expr) Q E ⟨h, g, d, t, os⟩ := by
  obtain ⟨nm, q, N, bs, sn, sub, ab, col, dd, k0, k1, k2, k3, k5, hC'⟩ := X.obj
  have hC := KX _ _ hC'
  have cB : (Value.ref C :: bm).contains (.type "BaseException") = true := by rw [List.contains_cons, X.hasB, Bool.or_true]
  have FB := PySem.F.excAttr_ValueError
  obtain ⟨oc, od, odt, osl⟩ := o
  dsimp only at hc hd hdx
  subst hc hd hdx
  have f3 := FB.ga.bind (.ref e)
  have hx0 : (expr && onTheHeap (Value.builtin "BaseException.__getattribute__")) = false := by cases expr <;> rfl
  have hx2 : (Value.builtin "BaseException.__getattribute__" == Value.builtin "object.__getattribute__") = false := by decide +kernel
  have hx1 : (onTheHeap (Value.ref C) && Value.builtin "BaseException.__getattribute__" == Value.builtin "object.__getattribute__") = false := by rw [hx2]; rfl
  unfold getAttr getAttrBy
  repeat (any_goals (first | assumption | with_reducible refine wpAny_loadPart_at he ?_ | with_reducible refine (looks_findIn KX ga).here ?_ | with_reducible refine (looks_findIn KX gx).here ?_ | wp_step))
  have hk : builtinKind "BaseException.__getattribute__" = some .slot := by decide +kernel
  have hsp : splitId "BaseException.__getattribute__" = some ("BaseException", "__getattribute__") := by decide +kernel
  have hargs := PySem.F.args_bexc_ga (.ref e) (.str name t)
  have ck : ∀ (Q' : Unit → Shared → Prop) (u : Nat), Q' () ⟨h, g, d, u, os⟩ → ∀ A' E', wpAny (model prog w) A' (checkBuiltinCall "BaseException.__getattribute__" ⟨[.ref e, .str name t], []⟩) Q' E' ⟨h, g, d, u, os⟩ := by
    intro Q' u hq' A' E'
    simp only [checkBuiltinCall, hk, hsp]
    refine wpAny_bind ?_
    unfold isInstance
    repeat (first | with_reducible refine wpAny_loadPart_at he ?_ | (with_reducible refine wpAny_isSubtype_exc hC ?_; rw [cB]) | wp_step)
    exact hq'
  refine codeAny_call_builtin FB.ga.plain PySem.F.entry_bexc_ga (ck _ _ ?_ _ _)
  obtain ⟨od, hod, hl⟩ := lookIn_ns hm
  have J : InstAt h e ⟨.ref C, some dx, .fields vs, osl⟩ C (some od) := ⟨he, rfl, rfl, hod⟩
  have hdI : hasDictIn K C = true := by unfold hasDictIn clsIn; rw [show List.lookup C K = _ from hC']; rfl
  have L0 := J.type (M := model prog w)
  have L1 := looks_find (M := model prog w) KX J (findObj_own hdI hn rfl (by rw [hl, hv]))
  unfold Builtin.«object.__getattribute__»
  refine wpAny_bind (wpAny_of_eq (a := (Value.ref e, [Value.str name t])) rfl ?_)
  refine wpAny_bind (wpAny_pure (wpAny_bind (L0.at (wpAny_bind (L1.at ?_)))))
  refine wpAny_pure ?_
  show wpAny _ _ (handedOut v) _ _ _
  rw [handedOut_of hh]
  exact wpAny_pure hq
theorem x_refuse (self : Value) (what : Str) : ∀ l : List Value, (∀ v ∈ l, ∃ a, v = Value.ref a) → ∀ r, refuseLoop self what (l ++ r) = refuseLoop self what r
  | [], _, _ => rfl
  | v :: l, h, r => by
    obtain ⟨a, rfl⟩ := h v List.mem_cons_self
    rw [List.cons_append, refuseLoop_ref, x_refuse self what l (fun v hv => h v (List.mem_cons_of_mem _ hv)) r]
noncomputable def XUp (bm : List Value) : Prop := ∃ l : List Value, (∀ v ∈ l, ∃ a, v = Value.ref a) ∧ bm = l ++ [.type "ValueError", .type "Exception", .type "BaseException", .type "object"]
theorem x_set (KX : K.In h) (X : XCls K C bm) (U : XUp bm) (sa : findIn K (.ref C) "__setattr__" = some (some (.builtin "object.__setattr__"))) {name : Str} (hn : findIn K (.ref C) name = some none)
    (he : h.get? e = some o) (hc : o.cls = .ref C) (hd : o.data = .fields vs) {mA : Str → Option Value} {ns : List Str} (hw : PySem.Within mA ns) (hz : ns.length ≤ 1000) (hm : (o.dict = none ∧ ∀ n, mA n = none) ∨ ∃ dx, o.dict = some dx ∧ dx ≠ e ∧ h.Ns1 dx mA) {v : Value} {Q : Unit → Shared → Prop}
    (hq : ∀ h' dx tk, (o.dict = some dx ∨ (o.dict = none ∧ h.objs.size ≤ dx)) → h'.get? e = some { o with dict := some dx } → dx ≠ e → h'.Ns1 dx (fun y => if y = name then some v else mA y) → (∀ b u, b ≠ e → b ≠ dx → h.get? b = some u → h'.get? b = some u) → Q () ⟨h', g, d, tk, os⟩) :
    wpAny (model prog w) A (setAttr (.ref e) name v) Q E ⟨h, g, d, t, os⟩ := by
  obtain ⟨nm, q, N, bs, sn, sub, ab, col, dd, k0, k1, k2, k3, k5, hC'⟩ := X.obj
  have hC := KX _ _ hC'
  obtain ⟨l, hl, hbm⟩ := U
  have SF := PySem.F.store_ValueError
  have hpass : refuseLoop (.ref e) "__setattr__" (.ref C :: bm) = pure () := by
    rw [refuseLoop_ref, hbm, x_refuse _ _ l hl]
    exact SF.passes (.ref e)
  have cO : (Value.ref C :: bm).contains (.type "object") = true := by rw [List.contains_cons, hbm]; simp
  obtain ⟨oc, od, odt, osl⟩ := o
  dsimp only at hc hd
  subst hc hd
  have f3 := SF.slot.bind (.ref e)
  have ck : ∀ (Q' : Unit → Shared → Prop) (u : Nat) (nv : Value), Q' () ⟨h, g, d, u, os⟩ → ∀ A' E', wpAny (model prog w) A' (checkBuiltinCall "object.__setattr__" ⟨[.ref e, nv, v], []⟩) Q' E' ⟨h, g, d, u, os⟩ := by
    intro Q' u nv hq' A' E'
    have ha := SF.args (.ref e) nv v
    simp only [checkBuiltinCall, SF.kind, SF.split]
    refine wpAny_bind ?_
    unfold isInstance
    repeat (first | with_reducible refine wpAny_loadPart_at he ?_ | (with_reducible refine wpAny_isSubtype_exc hC ?_; rw [cO]) | wp_step)
    exact hq'
  unfold setAttr callSpecial? specialOf
  repeat (any_goals (first | assumption | with_reducible refine wpAny_loadPart_at he ?_ | with_reducible refine (looks_findIn KX sa).here ?_ | wp_step))
  refine codeAny_call_builtin SF.slot.plain SF.entry (ck _ _ _ ?_ _ _)
  unfold Builtin.«object.__setattr__»
  repeat (first | rw [refuse_eq] | rw [hpass] | with_reducible refine wpAny_loadPart_at he ?_ | with_reducible refine wpAny_mroOf_exc hC ?_ | with_reducible refine (looks_findIn KX hn).here ?_ | wp_step)
  rcases hm with ⟨hdn, hmA⟩ | ⟨dx, hdx, hne, hns⟩
  · dsimp only at hdn
    subst hdn
    dsimp only
    rw [if_neg (by simp [typeHasDict])]
    have he1 : (h.push { cls := .type "dict", data := .dict #[] }).get? e = some ⟨.ref C, none, .fields vs, osl⟩ := Heap.get?_push_of_some _ he
    have nes : e ≠ h.objs.size := Nat.ne_of_lt (Heap.lt_size he)
    refine wpAny_bind (wpAny_alloc' ?_)
    refine wpAny_bind (wpAny_update' he1 ?_)
    refine wpAny_pure ?_
    have gd := (Heap.get?_update_ne (h.push { cls := .type "dict", data := .dict #[] }) h.objs.size e (fun o => { cls := o.cls, dict := some h.objs.size, data := o.data, slots := o.slots }) nes.symm).trans (Heap.get?_push_at rfl rfl)
    have nd : ((h.push { cls := .type "dict", data := .dict #[] }).update e fun o => { cls := o.cls, dict := some h.objs.size, data := o.data, slots := o.slots }).Ns h.objs.size (fun _ => none) := ⟨_, #[], _, gd, rfl, fun _ z => absurd z (by simp), fun _ => rfl⟩
    show wpAny _ _ (Builtin.ObjectAttr.storeInDict h.objs.size (.str name _) name v) _ _ _
    unfold Builtin.ObjectAttr.storeInDict Builtin.ObjectAttr.newKeyGuard
    refine wpAny_bind (wpAny_pure (wpAny_bind (wpAny_nsSet1 (Heap.Ns1.of_empty nd) fun h' hn' hs => ?_)))
    obtain ⟨oD, esD, epD, hoD, hdD, hcD⟩ := hn'.count (PySem.Within.cons name v PySem.Within.nil)
    refine wpAny_bind (wpAny_lookBehind hoD (by rw [hdD]; exact pastItsLine_dict (Nat.le_trans hcD (by rw [List.length_cons, List.length_nil, sizeLine_eq]; omega))) ?_)
    wp_walk
    have ge' : h'.get? e = some ⟨.ref C, some h.objs.size, .fields vs, osl⟩ := (hs.2 e nes).trans (Heap.get?_update_self _ he1 rfl)
    refine hq h' h.objs.size _ (.inr ⟨rfl, Nat.le_refl _⟩) ge' nes.symm ?_ (fun b u hb hbd hu => ?_)
    · obtain ⟨o', es, ep, e1, e2, e3, eu, e4⟩ := hn'
      exact ⟨o', es, ep, e1, e2, e3, eu, fun y => by rw [e4 y]; by_cases hy : y = name <;> simp [hy, hmA]⟩
    · exact (hs.2 b hbd).trans ((Heap.get?_update_ne _ _ _ _ hb).trans (Heap.get?_push_of_some _ hu))
  · dsimp only at hdx
    subst hdx
    dsimp only
    refine wpAny_pure ?_
    show wpAny _ _ (Builtin.ObjectAttr.storeInDict dx (.str name _) name v) _ _ _
    unfold Builtin.ObjectAttr.storeInDict Builtin.ObjectAttr.newKeyGuard
    refine wpAny_bind (wpAny_pure (wpAny_bind (wpAny_nsSet1 hns fun h' hn' hs => ?_)))
    obtain ⟨oD, esD, epD, hoD, hdD, hcD⟩ := hn'.count (PySem.Within.cons name v hw)
    refine wpAny_bind (wpAny_lookBehind hoD (by rw [hdD]; exact pastItsLine_dict (Nat.le_trans hcD (by rw [List.length_cons, sizeLine_eq]; omega))) ?_)
    wp_walk
    exact hq h' dx _ (.inl rfl) ((hs.2 e hne.symm).trans he) hne hn' (fun b u hb hbd hu => (hs.2 b hbd).trans hu)
theorem x_match (KX : K.In h) (X : XCls K C bm) (he : h.get? e = some o) (hc : o.cls = .ref C) {C' : Addr} {bm' : List Value} (X' : XCls K C' bm') {Q : Bool → Shared → Prop} (hq : Q ((Value.ref C :: bm).contains (.ref C')) ⟨h, g, d, t, os⟩) :
    wpAny (model prog w) A (excMatches (.ref e) (.ref C')) Q E ⟨h, g, d, t, os⟩ := by
  obtain ⟨nm, q, N, bs, sn, sub, ab, col, dd, k0, k1, k2, k3, k5, hC'⟩ := X.obj
  have hC := KX _ _ hC'
  obtain ⟨nm', q', N', bs', sn', sub', ab', col', dd', l0, l1, l2, l3, l5, hD'⟩ := X'.obj
  have hD := KX _ _ hD'
  have cB : (Value.ref C' :: bm').contains (.type "BaseException") = true := by rw [List.contains_cons, X'.hasB, Bool.or_true]
  have f := tc_notTuple
  generalize hb : (Value.ref C :: bm).contains (.ref C') = b at hq
  unfold excMatches
  repeat (first | (with_reducible refine wpAny_loadPart_at he ?_; rw [hc]) | with_reducible refine wpAny_loadPart_at hD ?_ | (with_reducible refine wpAny_isSubtype_exc hD ?_; rw [cB]) | (with_reducible refine wpAny_isSubtype_exc hC ?_; rw [hb]) | wp_step)
  cases b <;> (wp_walk; exact hq)
end
end L2
set_option Elab.async false
set_option linter.all false
set_option maxRecDepth 100000
set_option maxHeartbeats 4000000
namespace L2
open PySem PySem.Spec PyProof.Rows PySem.W
noncomputable def XFp (e C : Addr) (dx : Option Addr) (fr : Bool) (h : Heap) : Prop := ∃ o vs t0 x, h.get? e = some o ∧ o.cls = .ref C ∧ o.dict = dx ∧ o.data = .fields vs ∧ vs[0]? = some (Value.ref t0) ∧ vs[1]? = some x ∧ (fr = true → x = .none)
noncomputable def XF (e C : Addr) (dx : Option Addr) (fr : Bool) : HO := .ext (XFp e C dx fr)
theorem XFp.on {e C : Addr} {dx : Option Addr} {fr : Bool} {h h' : Heap} (x : XFp e C dx fr h) (k : ∀ o, h.get? e = some o → h'.get? e = some o) : XFp e C dx fr h' := by
  obtain ⟨o, vs, t0, y, a, b⟩ := x
  exact ⟨o, vs, t0, y, k o a, b⟩
theorem xf_ok {P : Program} {w : World} {H : Hp} {h : Heap} {e C : Addr} {dx : Option Addr} {fr : Bool} (x : XFp e C dx fr h) : ObjOk P w H h e (XF e C dx fr) := ⟨x, let ⟨o, _, _, _, a, _⟩ := x; ⟨o, a⟩, fun _ _ z k => z.on k⟩
theorem xf_of {P : Program} {w : World} {H : Hp} {h : Heap} {e C : Addr} {dx : Option Addr} {fr : Bool} (ok : HOk P w H h) (a : H e = some (XF e C dx fr)) : XFp e C dx fr h := (ok e _ a).1
theorem upd_self {H : Hp} {a : Addr} {o : HO} (h : H a = some o) : upd H a o = H := by
  funext b
  by_cases e : b = a
  · subst e; rw [upd_same, h]
  · rw [upd_ne e]
noncomputable def TbOf (s : Shared) (ea : Addr) (H' : Hp) (h : Heap) : Prop := ∃ o vs T, h.get? ea = some o ∧ o.data = .fields vs ∧ vs[1]? = some (Value.ref T) ∧ T ≠ ea ∧ s.heap.objs.size ≤ T ∧ H' T = none ∧ TbIs h T
noncomputable def CXo (P : Program) (w : World) : CXT := fun outer H s E e s' => ∃ ea C dx H', e = .ref ea ∧ H' ea = some (XF ea C dx false) ∧ s'.os = s.os ∧ AllBare s'.gens ∧ Un (frs outer) [] H H' s.heap s'.heap ∧ HOk P w H' s'.heap ∧ TbOf s ea H' s'.heap ∧ E (.ref C) (some ea) H'
section
variable {X : Cx} {pins : List (Addr × Obj)} {σ : St} {H : Hp} {s : Shared}
noncomputable def TOk (X : Cx) (pins : List (Addr × Obj)) (H : Hp) (T : Addr) : Prop := X.s₀.heap.objs.size ≤ T ∧ T ≠ X.env.locals ∧ (∀ x c, X.env.cells.lookup x = some c → c ≠ T) ∧ (∀ p ∈ X.pn ++ pins, p.1 ≠ T) ∧ H T = none
theorem inv_left {h' : Heap} {ea C : Addr} {dx : Option Addr} {fr : Bool} {o : Obj} {ok : Addr → Prop} {ch : List Addr} (I : Inv X pins σ H s) (hx : H ea = some (XF ea C dx fr)) (ge : s.heap.get? ea = some o) (l : Left (frs X.stack) ea o ok s.heap h') (hok : ∀ T, ok T → T ∈ ch) (hch : ∀ T ∈ ch, TOk X pins H T) (hnew : fr = false) :
    Inv X pins σ H { s with heap := h' } := by
  subst hnew
  have ntr : ∀ b u, H b = some u → ¬ ok b := fun b u e z => by rw [(hch b (hok b z)).2.2.2.2] at e; cases e
  have nfr : ∀ b u, H b = some u → b ∉ frs X.stack := fun b u e z => by rw [I.stkFree b z] at e; cases e
  have hk : HOk X.prog X.w H h' := fun a u e => by
    by_cases ha : a = ea
    · subst ha
      rw [hx] at e
      cases e
      obtain ⟨o', vs, t0, y, a1, a2, a3, a4, a5, a6, _⟩ := xf_of I.hok hx
      rw [ge] at a1
      cases a1
      obtain ⟨T, _, _, gT⟩ := l.tb
      refine xf_ok ⟨_, _, t0, .ref T, gT, ?_, ?_, mf_data _ a4, ?_, ?_, fun z => by cases z⟩
      · rw [Obj.cls_mapFields]; exact a2
      · rw [mf_dict]; exact a3
      · rw [Array.getElem?_setIfInBounds_ne (by decide)]; exact a5
      · have := (Array.getElem?_eq_some_iff.mp a6).1
        simp [this]
    · refine (I.hok a u e).stay (fun b v hb q => ?_) (fun _ q => q) fun _ _ q => q
      rcases hb with rfl | hb
      · exact l.keep b v ha (ntr b u e) (nfr b u e) q
      · refine l.keep b v (fun z => ?_) (ntr b _ hb) (nfr b _ hb) q
        rw [z, hx] at hb
        cases hb
  refine I.step (g' := s.gens) (d' := s.drawn) (t' := s.toks) (ch := ch) (fun b hb => ⟨.inr (hch b hb).1, (hch b hb).2.1, (hch b hb).2.2.1, (hch b hb).2.2.2.1⟩) (fun b u hL hf hc e n => ?_) (fun b u hL hf hc e n => ?_) (fun _ _ _ _ n => n) (fun b u hc e => l.there b u e) (fun _ _ e => e) (fun _ _ _ e => e) (fun b ps e => ⟨#[], by rw [e]; simp⟩) (fun m hm => ?_) hk I.bare
  · refine l.keep b u (fun z => by rw [z, hx] at n; cases n) (fun z => hc (hok b z)) (fun z => ?_) e
    rcases List.mem_cons.mp (I.stkSub b z) with z | z
    · exact hL z
    · exact hf z
  · exact l.slot b u (fun z => by rw [z, hx] at n; cases n) (fun z => hc (hok b z)) e
  · obtain ⟨u, es, ep, e, r⟩ := hm
    obtain ⟨sl, e2⟩ := l.slot _ u (fun z => by have := I.free; rw [z, hx] at this; cases this) (fun z => (hch _ (hok _ z)).2.1 rfl) e
    exact ⟨_, es, ep, e2, r⟩
theorem tok_new {T : Addr} (I : Inv X pins σ H s) (h : s.heap.objs.size ≤ T) {H' : Hp} (hn : H' T = none) : TOk X pins H' T := by
  refine ⟨Nat.le_trans I.sz h, fun z => ?_, fun x c e z => ?_, fun p hp z => ?_, hn⟩
  · rw [z] at h; exact absurd I.lt (Nat.not_lt.mpr h)
  · obtain ⟨v, o, ho, _⟩ := I.cell x c e
    rw [z] at ho
    exact absurd (Heap.lt_size ho) (Nat.not_lt.mpr h)
  · obtain ⟨hp1, _⟩ := I.pin p hp
    rw [z] at hp1
    exact absurd (Heap.lt_size hp1) (Nat.not_lt.mpr h)
theorem tb_left {ea : Addr} {o : Obj} {vs : Array Value} {ok : Addr → Prop} {fs : List Addr} {h' : Heap} (I : Inv X pins σ H s) (ge : s.heap.get? ea = some o) (gd : o.data = .fields vs) (g1 : 1 < vs.size) (l : Left fs ea o ok s.heap h') : TbOf s ea H h' := by
  obtain ⟨T, h1, h2, h3⟩ := l.tb
  exact ⟨_, _, T, h3, mf_data _ gd, by simp [g1], fun z => absurd (Heap.lt_size ge) (by rw [← z]; exact Nat.not_lt.mpr h1), h1, I.hok.fresh h1, h2⟩
end
section
variable {P : Program} {w : World} {K : Frag} {mg : Str → Option Value} {base : Heap} {N : List Str} {qual : Str} {scope : Scope} {f : Addr} {cd : Value} {A : Around} {outer : List Env} {s : Shared} {H : Hp} {E : XK}
theorem xe_of {pins : List (Addr × Obj)} {σ : St} {H' : Hp} {s2 : Shared} {ea C : Addr} {dx : Option Addr} (I : Inv (cxOf (CXo P w) P w K mg base N qual scope f cd A outer s H E) pins σ H' s2) (hx : H' ea = some (XF ea C dx false))
    (tb : ∀ vs o, s2.heap.get? ea = some o → o.data = .fields vs → vs[1]? = some .none ∨ ∃ T, vs[1]? = some (.ref T) ∧ T ≠ ea ∧ TOk (cxOf (CXo P w) P w K mg base N qual scope f cd A outer s H E) pins H' T ∧ TbIs s2.heap T) (hE : E (.ref C) (some ea) H') :
    (cxOf (CXo P w) P w K mg base N qual scope f cd A outer s H E).xe (.ref ea) s2 := by
  obtain ⟨o, vs, t0, y, a1, a2, a3, a4, a5, a6, _⟩ := xf_of I.hok hx
  have g1 := (Array.getElem?_eq_some_iff.mp a6).1
  show wpAny _ _ (leaving _ (.ref ea)) _ _ s2
  have fin : ∀ (ok : Addr → Prop) (ch : List Addr) (h' : Heap), (∀ T, ok T → T ∈ ch) → (∀ T ∈ ch, TOk (cxOf (CXo P w) P w K mg base N qual scope f cd A outer s H E) pins H' T) → Left (frs (cxOf (CXo P w) P w K mg base N qual scope f cd A outer s H E).stack) ea o ok s2.heap h' → CXo P w outer H s E (.ref ea) { s2 with heap := h' } := fun ok ch h' hok hch l => by
    have I2 := inv_left I hx a1 l hok hch rfl
    refine ⟨ea, C, dx, H', rfl, hx, I2.os, I2.bare, I2.base, I2.hok, ?_, hE⟩
    obtain ⟨o2, vs2, T, b1, b2, b3, b4, b5, b6, b7⟩ := tb_left I a1 a4 g1 l
    exact ⟨o2, vs2, T, b1, b2, b3, b4, Nat.le_trans I.sz b5, b6, b7⟩
  refine wpAny_bind ?_
  rcases tb vs o a1 a4 with z | ⟨T, z1, z2, z3, z4⟩
  · exact leave_any (ok := fun _ => False) I.ok.frames I.stack rfl a1 a4 (.inl z) fun h' l => fin _ [] h' (fun _ z => z.elim) (fun _ z => absurd z List.not_mem_nil) l
  · exact leave_any (ok := fun b => b = T) I.ok.frames I.stack rfl a1 a4 (.inr ⟨T, z1, z2, rfl, z4⟩) fun h' l => fin _ [T] h' (fun _ z => List.mem_singleton.mpr z) (fun b z => by rw [List.mem_singleton.mp z]; exact z3) l
end
end L2
set_option Elab.async false
set_option linter.all false
set_option maxRecDepth 100000
set_option maxHeartbeats 4000000
namespace L2
open PySem PySem.Spec PyProof.Rows PySem.W
section
variable {X : Cx} {pins : List (Addr × Obj)} {σ : St} {H : Hp} {s : Shared} {pos apos np : Pos} {a b o e value : Expr} {es : List Expr} {t : TA} {te ta tv : TE} {f x : Str}
theorem boot_ValueError : bootBuiltins "ValueError" = some (.type "ValueError") := by rfl
noncomputable def tBInit (K : Frag) (t : TA) : TE := fun σ H Q => t σ H fun vs H2 => ∃ e C dx fr bm y, vs = [.ref e, y] ∧ H2 e = some (XF e C dx fr) ∧ XCls K C bm ∧ Q .non H2
theorem pe_binit {pl : Sem Bool} (hg : Gl X "ValueError") (hm : X.mg "ValueError" = none) (ha : PA X [a, b] t) (hst : starEach [a, b] X.env = (false, eval a X.env) :: starEach [b] X.env := by rfl) (hpl : (backTo pos (starEach [b] X.env)).any (·.1) = false := by rfl)
    (ht : eval (.Call (.Attribute (.Name "ValueError" np) "__init__" apos) [a, b] [] pos) X.env = (do
      let ov ← eval (.Name "ValueError" np) X.env
      standAt apos.atName
      let (f, first) ← holding [ov] (getMethod ov "__init__" pl)
      callWith pos f first (backTo pos (starEach [a, b] X.env)) (backToKw pos (keywordEach [] X.env))) := by rfl) :
    PE X (.Call (.Attribute (.Name "ValueError" np) "__init__" apos) [a, b] [] pos) (tBInit X.K t) := by
  intro pins s σ H Q I h
  refine PySem.W.methodCall_KW (pl := pl) (thn ((pe_bty (X := X) (pos := np) hg hm boot_ValueError) pins s σ H (fun v H1 => v = .ty "ValueError" ∧ H1 = H) I ⟨rfl, rfl⟩) fun u s1 ⟨y, H1, I1, ry, e1, e2⟩ => ?_) ht
  subst e1 e2
  obtain rfl : u = Value.type "ValueError" := ry
  obtain ⟨m, F⟩ := I1.fr
  refine method_type F I1.ok.mod.kin (by kernel_rfl) (by decide +kernel) (v := .builtin "ValueError.__init__") (by kernel_rfl) (by decide +kernel) ?_
  have I2 := I1.tok (s1.toks + 1)
  refine callWith_builtin1 (thn (ha pos pins _ σ H1 _ I2 h) fun us s2 ⟨vs, H2, I3, r, q⟩ => ?_) hst hpl
  obtain ⟨ea, C, dx, fr, bm, y, rfl, hx, Xc, q⟩ := q
  obtain ⟨u1, us1, rfl, r1, r2⟩ : ∃ u1 us1, us = u1 :: us1 ∧ RelV (.ref ea) u1 ∧ Vals [y] us1 := by cases r with | cons p q => exact ⟨_, _, rfl, p, q⟩
  obtain ⟨u2, rfl, r3⟩ := r2.one
  obtain rfl : u1 = Value.ref ea := r1
  obtain ⟨ob, ws, t0, z, a1, a2, a3, a4, a5, a6, a7⟩ := xf_of I3.hok hx
  obtain ⟨hp, g, d, tk, os⟩ := s2
  refine x_init I3.kIn Xc a1 a2 a4 a5 ?_
  refine ⟨.non, H2, ?_, rfl, q⟩
  have k1 : ∀ b u, b ≠ ea → hp.get? b = some u → ((hp.push { cls := .type "tuple", data := .seq [u2].toArray }).update ea (Obj.mapFields (·.setIfInBounds 0 (.ref hp.objs.size)))).get? b = some u := fun b u hb hu => by
    rw [Heap.get?_update_other _ _ (Ne.symm hb)]
    exact Heap.get?_push_of_some _ hu
  have k2 := Heap.get?_update_self (Obj.mapFields (·.setIfInBounds 0 (.ref hp.objs.size))) (Heap.get?_push_of_some { cls := .type "tuple", data := .seq [u2].toArray } a1) (Obj.isFreed_of_fields (mf_data _ a4))
  have sz0 := (Array.getElem?_eq_some_iff.mp a5).1
  have := I3.write (t' := tk) (o := XF ea C dx fr) (x := ea) (e := ea) (by rw [hx]; exact True.intro) (.inl rfl) k1 ⟨_, k2⟩ (xf_ok ⟨_, _, hp.objs.size, z, k2, by rw [Obj.cls_mapFields]; exact a2, by rw [mf_dict]; exact a3, mf_data _ a4, by simp [sz0], by rw [Array.getElem?_setIfInBounds_ne (by decide)]; exact a6, a7⟩)
  rw [upd_self hx] at this
  exact this
structure XAttr (K : Frag) (C : Addr) : Prop where
  ga : findIn K (.ref C) "__getattribute__" = some (some (.builtin "BaseException.__getattribute__"))
  gx : findIn K (.ref C) "__getattr__" = some none
  sa : findIn K (.ref C) "__setattr__" = some (some (.builtin "object.__setattr__"))
noncomputable def tXSet (K : Frag) (ta tv : TE) (f : Str) : TS := fun D σ H => tv σ H fun y H1 => ta σ H1 fun x H2 => ∃ e C bm fr, x = .ref e ∧ XCls K C bm ∧ XUp bm ∧ XAttr K C ∧ NoAttr K C f ∧
  ((H2 e = some (XF e C none fr) ∧ ∀ dx, H2 dx = none → dx ≠ e → D.nx σ (upd (upd H2 dx (.xd [(f, y)])) e (XF e C (some dx) fr))) ∨ (∃ dx fs, H2 e = some (XF e C (some dx) fr) ∧ H2 dx = some (.xd fs) ∧ fs.length ≤ 900 ∧ D.nx σ (upd H2 dx (.xd (putF f y fs)))))
theorem within_of {mA : Str → Option Value} {fs : List (Str × V)} (h : ∀ f, RelO (fs.lookup f) (mA f)) : PySem.Within mA (fs.map (·.1)) := fun y hy => by
  cases e : fs.lookup y with
  | none =>
    have := h y
    rw [e] at this
    exact absurd (RelO.none_of this) hy
  | some v =>
    have := List.mem_map_of_mem (f := (·.1)) (PySem.mem_of_lookup e)
    exact this
theorem ps_xset (ha : PE X o ta) (hv : PE X value tv) (hs : swapsWith value (some (.Attribute o f apos)) pos.line X.env = pure false := by rfl) : PS X (.Assign [.Attribute o f apos] value pos) (tXSet X.K ta tv f) := by
  intro pins s σ H D I h
  refine plainObj_wpAny_Assign_Attribute (thn (hv pins s σ H _ I h) fun u s1 ⟨y, H1, I1, ry, q⟩ => thn (ha pins s1 σ H1 _ I1 q) fun ov s2 ⟨x, H2, I2, rx, ea, C, bm, fr, ex, Xc, U, Xa, n, q2⟩ => ?_) hs
  subst ex
  obtain rfl : ov = Value.ref ea := rx
  obtain ⟨hp, g, d, tk, os⟩ := s2
  rcases q2 with ⟨hx, q3⟩ | ⟨dx, fs, hx, hd, hl, q3⟩
  · obtain ⟨ob, ws, t0, z, a1, a2, a3, a4, a5, a6, a7⟩ := xf_of I2.hok hx
    refine x_set (mA := fun _ => none) (ns := []) I2.kIn Xc U Xa.sa n a1 a2 a4 (fun y hy => absurd rfl hy) (by simp) (.inl ⟨a3, fun _ => rfl⟩) fun h' dx tk' hdx g1 g2 g3 g4 => ?_
    have hsz : hp.objs.size ≤ dx := by
      rcases hdx with z | z
      · rw [a3] at z; cases z
      · exact z.2
    refine ⟨σ, _, ?_, q3 dx (I2.hok.fresh hsz) g2⟩
    have gg : ∀ b u, b ≠ ea → hp.get? b = some u → h'.get? b = some u := fun b u hb hu => g4 b u hb (Nat.ne_of_lt (Nat.lt_of_lt_of_le (Heap.lt_size hu) hsz)) hu
    have hfree := I2.hok.fresh hsz
    have okd : ObjOk X.prog X.w (upd (upd H2 dx (.xd [(f, y)])) ea (XF ea C (some dx) fr)) h' dx (.xd [(f, y)]) := ⟨_, g3, fun k => by
      by_cases hk : k = f
      · subst hk
        simp only [List.lookup, beq_self_eq_true, if_true]
        exact ry
      · have hb : (k == f) = false := beq_eq_false_iff_ne.mpr hk
        simp only [List.lookup, hb, if_neg hk]
        exact trivial⟩
    have okh : HOk X.prog X.w (upd (upd H2 dx (.xd [(f, y)])) ea (XF ea C (some dx) fr)) h' := fun b v hb => by
      by_cases h1 : b = ea
      · subst h1
        rw [upd_same] at hb
        cases hb
        exact xf_ok ⟨_, ws, t0, z, g1, a2, rfl, a4, a5, a6, a7⟩
      · rw [upd_ne h1] at hb
        by_cases h2 : b = dx
        · subst h2
          rw [upd_same] at hb
          cases hb
          exact okd
        · rw [upd_ne h2] at hb
          have nd : ∀ c u, H2 c = some u → c ≠ dx := fun c u hc z => by rw [z, hfree] at hc; cases hc
          refine (I2.hok b v hb).stay (fun c w' hc qq => gg c w' ?_ qq) (fun c qq => ?_) fun c xs qq => ?_
          · rcases hc with rfl | hc
            · exact h1
            · exact fun zz => by rw [zz, hx] at hc; cases hc
          · rw [upd_ne (fun zz => by rw [zz, hx] at qq; cases qq), upd_ne (nd c _ qq)]; exact qq
          · rw [upd_ne (fun zz => by rw [zz, hx] at qq; cases qq), upd_ne (nd c _ qq)]; exact qq
    refine I2.un (t' := tk') ?_ okh
    refine ⟨fun b u e n hb hx' => gg b u (fun zz => by rw [zz, hx] at n; cases n) e, fun b u e n hb hx' => ⟨u.slots, gg b u (fun zz => by rw [zz, hx] at n; cases n) e⟩, fun b u e n hx' => ?_, fun b u e hx' => ?_, fun b xs e => ?_, fun b u xs e => ?_, fun b ps e => ⟨#[], ?_⟩⟩
    · rw [upd_ne (fun zz => by rw [zz, hx] at n; cases n), upd_ne (Nat.ne_of_lt (Nat.lt_of_lt_of_le (Heap.lt_size e) hsz))]; exact n
    · by_cases h1 : b = ea
      · subst h1; exact ⟨_, g1⟩
      · exact ⟨u, gg b u h1 e⟩
    · rw [upd_ne (fun zz => by rw [zz, hx] at e; cases e), upd_ne (fun zz => by rw [zz, hfree] at e; cases e)]; exact e
    · rw [upd_ne (fun zz => by rw [zz, hx] at e; cases e), upd_ne (fun zz => by rw [zz, hfree] at e; cases e)]; exact e
    · rw [upd_ne (fun zz => by rw [zz, hx] at e; cases e), upd_ne (fun zz => by rw [zz, hfree] at e; cases e), e]; simp
  · obtain ⟨ob, ws, t0, z, a1, a2, a3, a4, a5, a6, a7⟩ := xf_of I2.hok hx
    obtain ⟨mA, hm, hr⟩ := (show ObjOk X.prog X.w H2 hp dx (.xd fs) from I2.hok dx _ hd)
    have hne : dx ≠ ea := fun zz => by rw [zz, hx] at hd; cases hd
    refine x_set (mA := mA) (ns := fs.map (·.1)) I2.kIn Xc U Xa.sa n a1 a2 a4 (within_of hr) (by rw [List.length_map]; omega) (.inr ⟨dx, a3, hne, hm⟩) fun h' dx' tk' hdx g1 g2 g3 g4 => ?_
    obtain rfl : dx' = dx := by
      rcases hdx with z | z
      · rw [a3] at z; exact (Option.some.inj z).symm
      · rw [a3] at z; cases z.1
    refine ⟨σ, _, ?_, q3⟩
    have gg : ∀ b u, b ≠ dx' → hp.get? b = some u → h'.get? b = some u := fun b u hb hu => by
      by_cases h1 : b = ea
      · subst h1
        rw [a1] at hu
        cases hu
        rw [g1, ← a3]
      · exact g4 b u h1 hb hu
    have nw : ObjOk X.prog X.w (upd H2 dx' (.xd (putF f y fs))) h' dx' (.xd (putF f y fs)) := ⟨_, g3, fun k => by
      rw [lookup_putF]
      by_cases hk : k = f
      · rw [if_pos hk, if_pos hk]
        exact ry
      · rw [if_neg hk, if_neg hk]
        exact hr k⟩
    have okh : HOk X.prog X.w (upd H2 dx' (.xd (putF f y fs))) h' := fun b v hb => by
      by_cases h1 : b = dx'
      · subst h1
        rw [upd_same] at hb
        cases hb
        exact nw
      · rw [upd_ne h1] at hb
        refine (I2.hok b v hb).stay (fun c w' hc qq => gg c w' ?_ qq) (fun c qq => ?_) fun c xs qq => ?_
        · rcases hc with rfl | hc
          · exact h1
          · exact fun zz => by rw [zz, hd] at hc; cases hc
        · rw [upd_ne (fun zz => by rw [zz, hd] at qq; cases qq)]; exact qq
        · rw [upd_ne (fun zz => by rw [zz, hd] at qq; cases qq)]; exact qq
    refine I2.un (t' := tk') ?_ okh
    refine ⟨fun b u e n hb hx' => gg b u (fun zz => by rw [zz, hd] at n; cases n) e, fun b u e n hb hx' => ⟨u.slots, gg b u (fun zz => by rw [zz, hd] at n; cases n) e⟩, fun b u e n hx' => ?_, fun b u e hx' => ?_, fun b xs e => ?_, fun b u xs e => ?_, fun b ps e => ⟨#[], ?_⟩⟩
    · rw [upd_ne (fun zz => by rw [zz, hd] at n; cases n)]; exact n
    · by_cases h1 : b = dx'
      · subst h1
        exact let ⟨u, _, _, e, _⟩ := g3; ⟨u, e⟩
      · exact ⟨u, gg b u h1 e⟩
    · rw [upd_ne (fun zz => by rw [zz, hd] at e; cases e)]; exact e
    · rw [upd_ne (fun zz => by rw [zz, hd] at e; cases e)]; exact e
    · rw [upd_ne (fun zz => by rw [zz, hd] at e; cases e), e]; simp
noncomputable def tXGet (K : Frag) (ta : TE) (f : Str) : TE := fun σ H Q => ta σ H fun x H1 => ∃ e C bm dx fs fr v, x = .ref e ∧ H1 e = some (XF e C (some dx) fr) ∧ XCls K C bm ∧ XAttr K C ∧ NoAttr K C f ∧ H1 dx = some (.xd fs) ∧ fs.lookup f = some v ∧ Q v H1
theorem pe_xget (he : PE X e ta) (hb : attributeBase e f X.env (eval e X.env) = eval e X.env := by rfl) : PE X (.Attribute e f pos) (tXGet X.K ta f) := by
  intro pins s σ H Q I h
  refine attr_of hb (thn (he pins s σ H _ I h) fun u s1 ⟨x, H1, I1, rx, ea, C, bm, dx, fs, fr, v, ex, hx, Xc, Xa, n, hd, l, q⟩ => ?_)
  subst ex
  obtain rfl : u = Value.ref ea := rx
  obtain ⟨hp, g, d, tk, os⟩ := s1
  obtain ⟨ob, ws, t0, z, a1, a2, a3, a4, a5, a6, a7⟩ := xf_of I1.hok hx
  obtain ⟨mA, hm, hr⟩ := (show ObjOk X.prog X.w H1 hp dx (.xd fs) from I1.hok dx _ hd)
  obtain ⟨u, hu, ru⟩ := RelO.some_of (v := v) (o := mA f) (by rw [← l]; exact hr f)
  exact x_get I1.kIn Xc Xa.ga Xa.gx n a1 a2 a3 a4 hm hu (handed_of ru) ⟨v, H1, I1.tok _, ru, q⟩
end
end L2
set_option Elab.async false
set_option linter.all false
set_option maxRecDepth 100000
set_option maxHeartbeats 4000000
namespace L2
open PySem PySem.Spec PyProof.Rows PySem.W
section
variable {X : Cx} {CX : CXT} {k : Nat} {f C : Addr} {fd : FuncData} {ps : List Str} {sp : Sp} {dvs : List V} {ds : List Value} {E : XK} {x m : Str} {p pos apos np : Pos} {e o : Expr} {es : List Expr} {ta te : TE} {t : TA} {bm : List Value}
structure XMk (K : Frag) (C : Addr) (bm : List Value) (f : Addr) : Prop where
  cls : XCls K C bm
  init : findIn K (.ref C) "__init__" = some (some (.ref f))
  fn : typeIn K (.ref f) = some (.type "function")
  kp : keepIn K (.ref C) = true
theorem run_exc {pins : List (Addr × Obj)} {σ : St} {H : Hp} {s : Shared} {Q : VK} {us : List Value} {vs : List V} (M : XMk X.K C bm f) (F : FnOk X.prog X.w X.K X.mg X.base CX k f fd ps sp) (hr : Room (k + 1) X.A) (hb : Binds X.K fd ps ds) (hd : Vals dvs ds)
    (hx : Passes CX X E) (I : Inv X pins σ H s) (r : Vals vs us) (hl0 : us.length ≤ 1000)
    (h : ∀ e, H e = none → sp (.ref e :: (vs ++ dvs)) (upd H e (XF e C none true)) (fun v H2 => v = .non ∧ Q (.ref e) H2) E) :
    wpAny (model X.prog X.w) X.A (call (.ref C) us) (EP X pins σ Q) X.xe s := by
  obtain ⟨hp, g, d, tk, os⟩ := s
  have hq := h (hp.objs.size + 1) (I.hok.fresh (Nat.le_succ _))
  have I2 : Inv X pins σ (upd H (hp.objs.size + 1) (XF (hp.objs.size + 1) C none true)) ⟨(hp.push { cls := .type "tuple", data := .seq us.toArray }).push { cls := .ref C, data := .fields #[.ref hp.objs.size, .none, .none, .none, .bool false, .none] }, g, d, tk, os⟩ := by
    refine I.laid (t' := tk) (fun b u e => Heap.get?_push_of_some _ (Heap.get?_push_of_some _ e)) (Nat.le_succ _) (xf_ok ⟨{ cls := .ref C, data := .fields #[.ref hp.objs.size, .none, .none, .none, .bool false, .none] }, #[.ref hp.objs.size, .none, .none, .none, .bool false, .none], hp.objs.size, .none, ?_, rfl, rfl, rfl, rfl, rfl, fun _ => rfl⟩)
    heap_get
  have r2 : Vals (V.ref (hp.objs.size + 1) :: (vs ++ dvs)) (Value.ref (hp.objs.size + 1) :: (us ++ ds)) := .cons rfl (r.append hd)
  have hl : (Value.ref (hp.objs.size + 1) :: us ++ ds).length = ps.length := by
    have q := r2.length
    rw [F.len _ _ _ _ hq] at q
    exact q.symm
  refine x_call I.kIn M.cls M.init M.fn (by rw [sizeLine_eq]; omega) (wpAny_call (codeAny_mono (F.run _ X.stack _ _ ⟨Value.ref (hp.objs.size + 1) :: us, []⟩ (Value.ref (hp.objs.size + 1) :: (us ++ ds)) _ _ E (hr.make C us []) (I2.env0.make C us []) (hb _ (Value.ref (hp.objs.size + 1) :: us) I2.kIn hl) r2 hq) fun r s' hq' => ?_))
  cases r with
  | error e => exact hx pins σ _ _ e s' I2 hq'
  | ok fl =>
    cases fl with
    | ret u =>
      obtain ⟨v, H', I3, rv, ev, q3⟩ := I2.after hq'
      subst ev
      exact ⟨rv, ⟨V.ref (hp.objs.size + 1), H', I3, rfl, q3⟩⟩
    | next => exact False.elim hq'
    | brk => exact False.elim hq'
    | cont => exact False.elim hq'
noncomputable def tXMake (C : Addr) (sp : Sp) (dvs : List V) (E : XK) (t : TA) : TE := fun σ H Q => t σ H fun vs H1 => vs.length ≤ 1000 ∧ ∀ e, H1 e = none → sp (.ref e :: (vs ++ dvs)) (upd H1 e (XF e C none true)) (fun v H2 => v = .non ∧ Q (.ref e) H2) E
theorem pe_xmake (M : XMk X.K C bm f) (F : FnOk X.prog X.w X.K X.mg X.base CX k f fd ps sp) (hr : Room (k + 1) X.A) (hg : Gl X x) (hm : X.mg x = some (.ref C)) (hb : Binds X.K fd ps ds) (hd : Vals dvs ds) (hx : Passes CX X E)
    (ha : PA X (e :: es) t) (hdb : (x == ("__debug__" : Str)) = false := by decide) (he : starEach (e :: es) X.env = (false, eval e X.env) :: starEach es X.env := by rfl) (hpl : (backTo pos (starEach es X.env)).any (·.1) = false := by rfl) :
    PE X (.Call (.Name x p) (e :: es) [] pos) (tXMake C sp dvs E t) := by
  intro pins s σ H Q I h
  refine wpAny_Call_Name_kw (ld_glob I hg hm ?_ hdb)
  refine PySem.W.callWith_K (h₀ := X.base) I.ok.mod.kin M.kp (thn (ha pos pins s σ H _ I h) fun us s1 ⟨vs, H1, I1, r, ql, q⟩ => ⟨I1.kIn, ?_⟩) he hpl
  exact run_exc M F hr hb hd hx I1 r (show us.length ≤ 1000 by rw [← r.length]; exact ql) q
noncomputable def XeOk (X : Cx) (EX : XK) : Prop := ∀ (pins : List (Addr × Obj)) (σ : St) (H : Hp) (s : Shared) (ea C : Addr) (dx : Option Addr), Inv X pins σ H s → H ea = some (XF ea C dx false) → (∃ o vs, s.heap.get? ea = some o ∧ o.data = .fields vs ∧ vs[1]? = some Value.none) → EX (.ref C) (some ea) H → X.xe (.ref ea) s
theorem xeOk_cx {P : Program} {w : World} {K : Frag} {mg : Str → Option Value} {base : Heap} {N : List Str} {qual : Str} {scope : Scope} {f : Addr} {cd : Value} {A : Around} {outer : List Env} {s : Shared} {H : Hp} {E : XK} : XeOk (cxOf (CXo P w) P w K mg base N qual scope f cd A outer s H E) E := fun pins σ H' s2 ea C dx I hx ⟨o, vs, g1, g2, g3⟩ hE =>
  xe_of I hx (fun vs' o' c1 c2 => .inl (by rw [g1] at c1; cases c1; rw [g2] at c2; cases c2; exact g3)) hE
noncomputable def tRaise (EX : XK) (K : Frag) (te : TE) : TS := fun _ σ H => te σ H fun v H1 => ∃ e C dx bm, v = .ref e ∧ XCls K C bm ∧ H1 e = some (XF e C dx true) ∧ EX (.ref C) (some e) (upd H1 e (XF e C dx false))
theorem ps_raise {EX : XK} (hc : X.calm = true) (hE : XeOk X EX) (he : PE X e te) : PS X (.Raise (some e) none pos) (tRaise EX X.K te) := by
  intro pins s σ H D I h
  show wpAny _ _ (do standAt pos; raiseStmt X.env (some (do let v ← eval e X.env; standAt pos; pure v)) none) _ _ s
  refine wpAny_bind (wpAny_standAt (x_raise (K := X.K) (I.ok.hd hc) (wpAny_bind (thn (he pins s σ H _ I h) fun v s1 ⟨y, H1, I1, ry, q⟩ => wpAny_bind (wpAny_standAt (wpAny_pure ?_))))))
  obtain ⟨ea, C, dx, bm, rfl, Xc, hx, hq⟩ := q
  obtain rfl : v = Value.ref ea := ry
  obtain ⟨ob, ws, t0, z, a1, a2, a3, a4, a5, a6, a7⟩ := xf_of I1.hok hx
  have a6 : ws[1]? = some Value.none := by rw [a6, a7 rfl]
  refine ⟨ea, ob, ws, C, bm, rfl, Xc, I1.kIn, a1, a2, a4, a6, ?_⟩
  have I2 : Inv X pins σ (upd H1 ea (XF ea C dx false)) s1 := by
    have := I1.write (t' := s1.toks) (h' := s1.heap) (o := XF ea C dx false) (x := ea) (e := ea) (by rw [hx]; exact True.intro) (.inl rfl) (fun _ _ _ z => z) ⟨_, a1⟩ (xf_ok ⟨ob, ws, t0, .none, a1, a2, a3, a4, a5, a6, fun z => by cases z⟩)
    exact this
  exact hE pins σ _ s1 ea C dx I2 upd_same ⟨ob, ws, a1, a4, a6⟩ hq
structure XClsM (K : Frag) (C : Addr) (m : Str) (f : Addr) : Prop where
  ga : specialIn K (.ref C) "__getattribute__" = some (some (.builtin "type.__getattribute__"))
  rd : readsIn K C (.type "type") = true
  at_ : findCls K (.ref C) (.type "type") m = some (.val (.ref f))
  kp : keepIn K (.ref f) = true
end
theorem Fun.okX {P : Program} {w : World} {K : Frag} {mg : Str → Option Value} {base : Heap} {x qual : Str} {st : Stmt} {f : Addr} {fd : FuncData} {N ps : List Str} {k : Nat} {sp : Sp} (F : Fun K x qual st f fd) (S : FnScope N ps (defScope st)) (len : ∀ vs H Q E, sp vs H Q E → vs.length = ps.length)
    (hbody : ∀ (cdv : Value) (A : Around) (outer : List Env) (s : Shared) (H : Hp) (vs : List V) (Q : VK) (E : XK), Room k (A.deeper (envOfC qual (defScope st) s.heap.objs.size f cdv)) → sp vs H Q E →
      ∃ t, PSs (cxOf (CXo P w) P w K mg base N qual (defScope st) f cdv A outer s H E) (defBody st) t ∧ t { nx := fun _ H' => Q .non H', rt := Q } (start N vs) H) : FnOk P w K mg base (CXo P w) (k + 1) f fd ps sp := by
  obtain ⟨oc, od, kV, doc, pm, an, cdv, ct, osl, rfl, lk, hcd⟩ := F.ex
  exact fn_of lk hcd S len fun A outer s H vs Q E hr hsp => hbody cdv A outer s H vs Q E hr hsp
end L2
set_option Elab.async false
set_option linter.all false
set_option maxRecDepth 100000
set_option maxHeartbeats 4000000
namespace L2
open PySem PySem.Spec PyProof.Rows PySem.W
noncomputable def Cx.inX (X : Cx) (ea : Addr) : Cx := { X with A := X.A.mark (some (.ref ea)), calm := false, xe := fun _ _ => False }
section
variable {X : Cx} {pins : List (Addr × Obj)} {σ : St} {H : Hp} {s : Shared} {ea : Addr}
theorem Inv.inX (I : Inv X pins σ H s) (ea : Addr) : Inv (X.inX ea) pins σ H s :=
  ⟨⟨I.ok.mod, I.ok.kind, I.ok.glob, I.ok.blt, I.ok.above, I.ok.inj, I.ok.has, I.ok.cab, (fun z => by cases z), I.ok.frames, I.ok.stk, I.ok.exf, I.ok.bs, I.ok.bsz, I.ok.noex, I.ok.exfs, I.ok.funs, I.ok.frf⟩, I.os, I.bare, I.base, I.loc, I.cell, I.free, I.freeC, I.pin, I.hok, I.len⟩
theorem Inv.outX (ok : X.Ok) (I : Inv (X.inX ea) pins σ H s) : Inv X pins σ H s := ⟨ok, I.os, I.bare, I.base, I.loc, I.cell, I.free, I.freeC, I.pin, I.hok, I.len⟩
theorem SP.outX (ok : X.Ok) {D : Ends} {f : Flow} {s' : Shared} (h : SP (X.inX ea) pins D f s') : SP X pins D f s' := by
  cases f with
  | next => obtain ⟨σ', H', I, q⟩ := h; exact ⟨σ', H', I.outX ok, q⟩
  | brk => obtain ⟨σ', H', I, q⟩ := h; exact ⟨σ', H', I.outX ok, q⟩
  | cont => obtain ⟨σ', H', I, q⟩ := h; exact ⟨σ', H', I.outX ok, q⟩
  | ret u => obtain ⟨v, σ', H', I, r, q⟩ := h; exact ⟨v, σ', H', I.outX ok, r, q⟩
theorem gone_ok {M : Model} {A : Around} {E : Value → Shared → Prop} {n : Nat} {nm : Str} {pos : Pos} {Q : Unit → Shared → Prop} (I : Inv X pins σ H s) (hN : X.N.Nodup) (hn : X.N[n]? = some nm) (hk : X.env.kindOf nm = some .local) (h : ∀ s', Inv X pins (σ.set n none) H s' → Q () s') :
    wpAny M A (do bindName X.env nm .none; unbindBehindTheSuite X.env nm pos) Q E s := by
  obtain ⟨m, hm, hl⟩ := id I.loc
  have hcls : (X.env.scope.kind == .class || (X.env.scope.kind == .module && X.env.locals != X.env.globals)) = false := by rw [I.ok.kind]; rfl
  refine wpAny_nameGoes_keeps hk hm hcls fun h' v hm' hs => h _ ?_
  have ne0 : ∀ b o, X.s₀.heap.get? b = some o → b ≠ X.env.locals := fun b o e => Nat.ne_of_lt (Nat.lt_of_lt_of_le (Heap.lt_size e) I.ok.above)
  refine ⟨I.ok, I.os, I.bare, ⟨fun b o e n hb hx => (hs.2 b (ne0 b o e)).trans (I.base.keep b o e n hb hx), fun b o e n hb hx => ?_, I.base.free, fun b o e hx => ?_, I.base.tups, I.base.frzs, I.base.tbls⟩, ⟨_, hm', fun j y v' e1 e2 e3 => ?_⟩, fun y c e => ?_, I.free, I.freeC, fun p hp => ?_, fun b u e => ?_, by simpa using I.len⟩
  · obtain ⟨sl, e1⟩ := I.base.slot b o e n hb hx
    exact ⟨sl, (hs.2 b (ne0 b o e)).trans e1⟩
  · obtain ⟨o', e1⟩ := I.base.there b o e hx
    exact ⟨o', (hs.2 b (ne0 b o e)).trans e1⟩
  · by_cases hj : j = n
    · subst hj
      have hlt : j < σ.length := by rw [I.len]; exact (List.getElem?_eq_some_iff.mp hn).1
      rw [List.getElem?_set_self hlt] at e2
      cases e2
    · rw [List.getElem?_set_ne (Ne.symm hj)] at e2
      obtain ⟨u', r', q⟩ := hl j y v' e1 e2 e3
      refine ⟨u', r', ?_⟩
      rcases q with ⟨k, e⟩ | ⟨k, c, e, z⟩
      · refine .inl ⟨k, ?_⟩
        have : y ≠ nm := fun e => hj (nodup_ix hN e1 (e ▸ hn))
        simp [this, e]
      · exact .inr ⟨k, c, e, z.sameBut hs (I.cne y c e)⟩
  · obtain ⟨w', z⟩ := I.cell y c e
    exact ⟨w', z.sameBut hs (I.cne y c e)⟩
  · obtain ⟨e, n', ne, nf, d⟩ := I.pin p hp
    exact ⟨(hs.2 p.1 ne).trans e, n', ne, nf, d⟩
  · refine (I.hok b u e).stay (fun c w' hc q => (hs.2 c ?_).trans q) (fun _ q => q) fun _ _ q => q
    rintro rfl
    rcases hc with z | z
    · rw [← z, I.free] at e; cases e
    · rw [I.free] at z; cases z
theorem fly_ok {M : Model} {A : Around} {E : Value → Shared → Prop} {T : Addr} {o : Obj} {vs : Array Value} {Q : Unit → Shared → Prop} (I : Inv X pins σ H s) (ge : s.heap.get? ea = some o) (gd : o.data = .fields vs) (g1 : vs[1]? = some (.ref T)) (hT : TOk X pins H T) (tb : TbIs s.heap T)
    (q : ∀ s', Inv X pins σ H s' → Q () s') : wpAny M A (setFlight (.ref ea) none) Q E s := by
  obtain ⟨oT, ts, h1, h2, h3⟩ := tb
  unfold setFlight
  refine wpAny_bind (wpAny_field ge gd g1 ?_)
  rw [if_pos (show (Value.ref T != Value.none) = true from by simp)]
  refine wpAny_setField h1 h2 (Array.getElem?_eq_some_iff.mp h3).1 (q _ ?_)
  exact I.turned (t' := s.toks) (it := T) (fun b u hb hu => by rw [Heap.get?_update_other _ _ (Ne.symm hb)]; exact hu) hT.2.2.2.2 hT.2.1 (.inr hT.1) hT.2.2.1 hT.2.2.2.1
noncomputable abbrev Ends.gone (D : Ends) (n : Nat) : Ends := { nx := fun σ' H' => D.nx (σ'.set n none) H', rt := D.rt, bk := fun σ' H' => D.bk (σ'.set n none) H', ct := fun σ' H' => D.ct (σ'.set n none) H' }
noncomputable def MetAt (X : Cx) (pins : List (Addr × Obj)) (H : Hp) (ea : Addr) (h : Heap) : Prop := ∃ o vs T, h.get? ea = some o ∧ o.data = .fields vs ∧ vs[1]? = some (Value.ref T) ∧ T ≠ ea ∧ TOk X pins H T ∧ TbIs h T
theorem handle_as {C C' : Addr} {dx : Option Addr} {bm bm' : List Value} {cx nm : Str} {cp hpos : Pos} {n : Nat} {b0 : Stmt} {suite : List Stmt} {ts : TS} {D : Ends} (hst : X.stack = X.env :: X.outer) (hfr : X.env.frame = some X.env.locals) (I : Inv X pins σ H s) (hx : H ea = some (XF ea C dx false)) (tb : MetAt X pins H ea s.heap)
    (Xc : XCls X.K C bm) (Xd : XCls X.K C' bm') (hm : (Value.ref C :: bm).contains (.ref C') = true) (hg : Gl X cx) (hmc : X.mg cx = some (.ref C')) (hdb : (cx == ("__debug__" : Str)) = false) (hN : X.N.Nodup) (hn : X.N[n]? = some nm) (hk : X.env.kindOf nm = some .local) (hloc : Loc X.env.scope nm) (hf : X.fn nm = true ∨ X.env.scope.names.lookup nm = some .local)
    (hs : PSs (X.inX ea) (b0 :: suite) ts) (h : ts (D.gone n) (σ.set n (some (.ref ea))) H) :
    wpAny (model X.prog X.w) X.A (noteFrame (.ref ea) X.env) (fun _ s2 => wpAny (model X.prog X.w) X.A (setFlight (.ref ea) none) (fun _ s3 => wpAny (model X.prog X.w) X.A (handleBy (.ref ea) X.env [.ExceptHandler (some (.Name cx cp)) (some nm) (b0 :: suite) hpos]) (SP X pins D) X.xe s3) X.xe s2) X.xe s := by
  obtain ⟨o, vs, T, a1, a2, a3, a4, a5, a6⟩ := tb
  have frs' : X.A.frames = some (X.env :: X.outer) := by rw [← hst]; exact I.ok.frames
  have ff : s.heap.FunFrames X.base (X.env :: X.outer) := by rw [← hst]; exact I.stack
  refine leave_any (ok := fun b => b = T) frs' ff hfr a1 a2 (.inr ⟨T, a3, a4, rfl, a6⟩) fun h' l => ?_
  rw [← hst] at l
  have I2 := inv_left I hx a1 l (ch := [T]) (fun _ z => List.mem_singleton.mpr z) (fun b z => by rw [List.mem_singleton.mp z]; exact a5) rfl
  obtain ⟨o2, vs2, T2, c1, c2, c3, c4, c5, c6, c7⟩ := tb_left I a1 a2 (Array.getElem?_eq_some_iff.mp a3).1 l
  have c8 : TOk X pins H T2 := tok_new I c5 c6
  generalize hs3 : ({ s with heap := h' } : Shared) = s3 at I2
  have c1 : s3.heap.get? ea = some o2 := by rw [← hs3]; exact c1
  have c7 : TbIs s3.heap T2 := by rw [← hs3]; exact c7
  refine wpAny_handleBy_cons (codeAny_handlers_test (ld_glob (X := X.inX ea) (I2.inX ea) hg hmc ?_ hdb)) (by intro q; cases q)
  obtain ⟨ob, ws, t0, z, d1, d2, d3, d4, d5, d6, d7⟩ := xf_of I2.hok hx
  obtain ⟨hp, g, d, tk, os⟩ := s3
  refine x_match I2.kIn Xc d1 d2 Xd ?_
  rw [hm]
  refine codeAny_handlers_suite_as ?_
  refine fly_ok I2 c1 c2 c3 c8 c7 fun s5 I5 => ?_
  refine store_ok I5 hN hn hloc (v := .ref ea) rfl (fun s6 I6 => ?_) hf
  refine wpAny_mono (hs pins s6 _ H (D.gone n) (I6.inX ea) h) (fun f s7 q7 => ?_) fun _ _ z => z.elim
  have ok := I.ok
  cases f with
  | next => obtain ⟨σ', H', I', q⟩ := q7; exact gone_ok (I'.outX ok) hN hn hk fun s8 I8 => ⟨_, H', I8, q⟩
  | brk => obtain ⟨σ', H', I', q⟩ := q7; exact gone_ok (I'.outX ok) hN hn hk fun s8 I8 => ⟨_, H', I8, q⟩
  | cont => obtain ⟨σ', H', I', q⟩ := q7; exact gone_ok (I'.outX ok) hN hn hk fun s8 I8 => ⟨_, H', I8, q⟩
  | ret u => obtain ⟨v, σ', H', I', r, q⟩ := q7; exact gone_ok (I'.outX ok) hN hn hk fun s8 I8 => ⟨v, _, H', I8, r, q⟩
end
section
variable {X : Cx} {k : Nat} {f C' : Addr} {fd : FuncData} {ps : List Str} {sp : Sp} {dvs : List V} {ds : List Value} {x y nm cx : Str} {p pos apos cp hpos py tpos : Pos} {e : Expr} {es : List Expr} {t : TA} {bm' : List Value} {b0 : Stmt} {suite : List Stmt} {ts : TS} {i n : Nat}
noncomputable def tTry (K : Frag) (C' : Addr) (sp : Sp) (dvs : List V) (t : TA) (ok : Ends → St → V → Hp → Prop) (hd : Ends → St → Addr → Hp → Prop) : TS := fun D σ H => t σ H fun vs H1 => sp (vs ++ dvs) H1 (fun v H2 => ok D σ v H2) (fun c eo H2 => ∀ ea, eo = some ea → ∃ C dx bm, c = .ref C ∧ H2 ea = some (XF ea C dx false) ∧ XCls K C bm ∧ (Value.ref C :: bm).contains (.ref C') = true ∧ hd D σ ea H2)
theorem try_call {pins : List (Addr × Obj)} {s : Shared} {σ : St} {H : Hp} {D : Ends} {ok : Ends → St → V → Hp → Prop} {hd : Ends → St → Addr → Hp → Prop} {Eh : Value → Shared → Prop} (F : FnOk X.prog X.w X.K X.mg X.base (CXo X.prog X.w) k f fd ps sp) (hr : Room k X.A) (hg : Gl X x) (hm : X.mg x = some (.ref f)) (hk : keepIn X.K (.ref f) = true) (hb : Binds X.K fd ps ds) (hvd : Vals dvs ds) (ha : PA X.nox (e :: es) t)
    (hE : ∀ ea C dx bm H' s', Inv X pins σ H' s' → H' ea = some (XF ea C dx false) → MetAt X pins H' ea s'.heap → XCls X.K C bm → (Value.ref C :: bm).contains (.ref C') = true → hd D σ ea H' → Eh (.ref ea) s')
    (I : Inv X pins σ H s) (h : tTry X.K C' sp dvs t ok hd D σ H) (hdb : (x == ("__debug__" : Str)) = false) (he : starEach (e :: es) X.env = (false, eval e X.env) :: starEach es X.env) (hpl : (backTo pos (starEach es X.env)).any (·.1) = false) :
    wpAny (model X.prog X.w) X.A (eval (.Call (.Name x p) (e :: es) [] pos) X.env) (EP X pins σ (ok D σ)) Eh s := by
  refine wpAny_Call_Name_kw (ld_glob I hg hm ?_ hdb)
  refine PySem.W.callWith_K (h₀ := X.base) I.ok.mod.kin hk (wpAny_mono (ha pos pins s σ H _ (I.wish _) h) (fun us s1 ⟨vs, H1, I1, r, q⟩ => ⟨I1.kIn, ?_⟩) fun _ _ z => z.elim) he hpl
  have I1 := I1.unwish
  have r2 : Vals (vs ++ dvs) (us ++ ds) := r.append hvd
  have hl : (us ++ ds).length = ps.length := by rw [← r2.length]; exact F.len _ _ _ _ q
  refine wpAny_call (codeAny_mono (F.run X.A X.stack s1 H1 ⟨us, []⟩ (us ++ ds) (vs ++ dvs) _ _ hr I1.env0 (hb s1 us I1.kIn hl) r2 q) fun r s' hq => ?_)
  cases r with
  | error e =>
    obtain ⟨ea, C, dx, H', rfl, hx, os, bare, un, hok, tb, hu⟩ := hq
    have I2 := I1.call' (ch := []) os un hok bare (fun _ z => absurd z List.not_mem_nil)
    obtain ⟨o, vs', T, b1, b2, b3, b4, b5, b6, b7⟩ := tb
    obtain ⟨C2, dx2, bm, e1, e2, e3, e4, e5⟩ := hu ea rfl
    exact hE ea C2 dx2 bm H' s' I2 e2 ⟨o, vs', T, b1, b2, b3, b4, tok_new I1 b5 b6, b7⟩ e3 e4 e5
  | ok fl =>
    cases fl with
    | ret u => exact I1.after hq
    | next => exact False.elim hq
    | brk => exact False.elim hq
    | cont => exact False.elim hq
theorem try_drop {pins : List (Addr × Obj)} {s : Shared} {σ : St} {H : Hp} {D : Ends} {Eh : Value → Shared → Prop} (hs : swapsWith e none pos.line X.env = pure false)
    (h : wpAny (model X.prog X.w) X.A (eval e X.env) (EP X pins σ fun v H2 => D.nx σ H2) Eh s) (I : Inv X pins σ H s) :
    wpAny (model X.prog X.w) X.A (execs [.Expr e pos] X.env) (fun f s1 => match f with | .next => wpAny (model X.prog X.w) X.A (execs [] X.env) (SP X pins D) X.xe s1 | f => SP X pins D f s1) Eh s := by
  refine wpAny_execs_cons (wpAny_Expr_any (thn h fun v s1 ⟨z, H1, I1, r1, q1⟩ => wpAny_execs_nil (wpAny_execs_nil ⟨_, H1, I1, q1⟩)) ?_ hs)
  have := I.ok.kind
  simp [interactive, this]
theorem ps_trydo_as (hst : X.stack = X.env :: X.outer) (hfr : X.env.frame = some X.env.locals) (F : FnOk X.prog X.w X.K X.mg X.base (CXo X.prog X.w) k f fd ps sp) (hr : Room k X.A) (hg : Gl X x) (hm : X.mg x = some (.ref f)) (hk : keepIn X.K (.ref f) = true) (hb : Binds X.K fd ps ds) (hvd : Vals dvs ds) (ha : PA X.nox (e :: es) t)
    (hN : X.N.Nodup) (hgc : Gl X cx) (hmc : X.mg cx = some (.ref C')) (Xd : XCls X.K C' bm') (hn : X.N[n]? = some nm) (hkn : X.env.kindOf nm = some .local) (hlo : Loc X.env.scope nm) (hs : ∀ ea, PSs (X.inX ea) (b0 :: suite) ts)
    (hfn : X.fn nm = true ∨ X.env.scope.names.lookup nm = some .local := by first | exact .inl rfl | exact .inr rfl) (hsw : swapsWith (.Call (.Name x p) (e :: es) [] pos) none apos.line X.env = pure false := by rfl) (hdb : (x == ("__debug__" : Str)) = false := by decide) (hdc : (cx == ("__debug__" : Str)) = false := by decide)
    (he : starEach (e :: es) X.env = (false, eval e X.env) :: starEach es X.env := by rfl) (hpl : (backTo pos (starEach es X.env)).any (·.1) = false := by rfl) :
    PS X (.Try [.Expr (.Call (.Name x p) (e :: es) [] pos) apos] [.ExceptHandler (some (.Name cx cp)) (some nm) (b0 :: suite) hpos] [] [] tpos) (tTry X.K C' sp dvs t (fun D σ v H2 => D.nx σ H2) (fun D σ ea H2 => ts (D.gone n) (σ.set n (some (.ref ea))) H2)) := by
  intro pins s σ H D I h
  refine wpAny_Try_except (try_drop hsw (try_call (D := D) F hr hg hm hk hb hvd ha (fun ea C dx bm H' s' I' hx tb Xc hc hh => ?_) I h hdb he hpl) I)
  exact handle_as hst hfr I' hx tb Xc Xd hc hgc hmc hdc hN hn hkn hlo hfn (hs ea) hh
end
end L2
set_option Elab.async false
set_option linter.all false
set_option maxRecDepth 100000
set_option maxHeartbeats 4000000
namespace L2
open PySem PySem.Spec PyProof.Rows PySem.W
structure FunD (K : Frag) (x qual : Str) (st : Stmt) (f : Addr) (fd : FuncData) (dV : Value) : Prop where
  ex : ∃ (oc : Value) (od : Option Addr) (kV doc pm : Value) (an : Option Addr) (cdv ct : Value) (osl : Array (Option Value)),
    fd = fnOf x qual (defArgs st) (defBody st) (defScope st) dV kV doc pm an cdv ct ∧ K.lookup f = some ⟨oc, od, .func fd, osl⟩ ∧ codeIn K cdv qual = true
  kp : keepIn K (.ref f) = true
section
variable {P : Program} {w : World} {K : Frag} {mg : Str → Option Value} {base : Heap}
theorem FunD.ok {dV : Value} {x qual : Str} {st : Stmt} {f : Addr} {fd : FuncData} {N ps : List Str} {k : Nat} {sp : Sp} (F : FunD K x qual st f fd dV) (S : FnScope N ps (defScope st)) (len : ∀ vs H Q E, sp vs H Q E → vs.length = ps.length)
    (hbody : ∀ (cdv : Value) (A : Around) (outer : List Env) (s : Shared) (H : Hp) (vs : List V) (Q : VK) (E : XK), Room k (A.deeper (envOfC qual (defScope st) s.heap.objs.size f cdv)) → sp vs H Q E →
      ∃ t, PSs (cxOf CX0 P w K mg base N qual (defScope st) f cdv A outer s H E).nox (defBody st) t ∧ t { nx := fun _ H' => Q .non H', rt := Q } (start N vs) H) : FnOk P w K mg base CX0 (k + 1) f fd ps sp := by
  obtain ⟨oc, od, kV, doc, pm, an, cdv, ct, osl, rfl, lk, hcd⟩ := F.ex
  refine fn_of lk hcd S len fun A outer s H vs Q E hr hsp => ?_
  obtain ⟨t, h, q⟩ := hbody cdv A outer s H vs Q E hr hsp
  exact ⟨t, h.nox, q⟩
theorem funD_mk {dV : Value} {x qual : Str} {st : Stmt} {f : Addr} {oc : Value} {od an : Option Addr} {osl : Array (Option Value)} {kV doc pm cdv ct : Value} (l : K.lookup f = some ⟨oc, od, .func (fnOf x qual (defArgs st) (defBody st) (defScope st) dV kV doc pm an cdv ct), osl⟩)
    (c : codeIn K cdv qual = true) (k : keepIn K (.ref f) = true) : FunD K x qual st f (fnOf x qual (defArgs st) (defBody st) (defScope st) dV kV doc pm an cdv ct) dV := ⟨⟨oc, od, kV, doc, pm, an, cdv, ct, osl, rfl, l, c⟩, k⟩
end
end L2
set_option Elab.async false
set_option linter.all false
set_option maxRecDepth 100000
set_option maxHeartbeats 4000000
namespace L2
open PySem PySem.Spec PyProof.Rows PySem.W
section
variable {X : Cx}
theorem ke_xget {e : Expr} {f : Str} {pos : Pos} {ta : TE} (K : Frag) (h : X.K = K) (he : PE X e ta) (hb : attributeBase e f X.env (eval e X.env) = eval e X.env := by rfl) : PE X (.Attribute e f pos) (tXGet K ta f) := h ▸ pe_xget he hb
end
theorem inV_strs (x : Str) : ∀ xs : List Str, inV (.str x) (xs.map V.str) = decide (x ∈ xs)
  | [] => by simp [inV]
  | y :: r => by
    have ih := inV_strs x r
    unfold inV at ih ⊢
    rw [List.map_cons, List.any_cons, ih]
    by_cases h : y = x
    · subst h; simp [eqV]
    · have h2 : x ≠ y := fun z => h z.symm
      simp [eqV, h, h2]
theorem all_flat (xs : List Str) : (xs.map V.str).all flatV = true := by
  rw [List.all_eq_true]
  intro v hv
  obtain ⟨x, _, rfl⟩ := List.mem_map.mp hv
  rfl
theorem in_strs {K : Frag} {H : Hp} {Q : VK} {p : Addr} {x : Str} (xs : List Str) (h : SqL K H p (xs.map V.str) ∨ SqT K H p (xs.map V.str)) (k : Q (.bl (decide (x ∈ xs))) H) : rIn K false (.str x) (.ref p) H Q := ⟨p, _, rfl, h, rfl, all_flat xs, by rw [inV_strs]; exact k⟩
section
variable {K : Frag} {σ : St} {H : Hp} {Q : VK} {D : Ends} {t : TA} {te ta tv : TE} {f : Str} {sp : Sp} {dvs : List V} {E EX : XK} {C C' : Addr}
theorem tRaise_i (k : te σ H fun v H1 => ∃ e C dx bm, v = .ref e ∧ XCls K C bm ∧ H1 e = some (XF e C dx true) ∧ EX (.ref C) (some e) (upd H1 e (XF e C dx false))) : tRaise EX K te D σ H := k
theorem tXMake_i (k : t σ H fun vs H1 => vs.length ≤ 1000 ∧ ∀ e, H1 e = none → sp (.ref e :: (vs ++ dvs)) (upd H1 e (XF e C none true)) (fun v H2 => v = .non ∧ Q (.ref e) H2) E) : tXMake C sp dvs E t σ H Q := k
theorem tTry_i {ok : Ends → St → V → Hp → Prop} {hd : Ends → St → Addr → Hp → Prop} (k : t σ H fun vs H1 => sp (vs ++ dvs) H1 (fun v H2 => ok D σ v H2) (fun c eo H2 => ∀ ea, eo = some ea → ∃ C dx bm, c = .ref C ∧ H2 ea = some (XF ea C dx false) ∧ XCls K C bm ∧ (Value.ref C :: bm).contains (.ref C') = true ∧ hd D σ ea H2)) : tTry K C' sp dvs t ok hd D σ H := k
theorem tXGet_i (k : ta σ H fun x H1 => ∃ e C bm dx fs fr v, x = .ref e ∧ H1 e = some (XF e C (some dx) fr) ∧ XCls K C bm ∧ XAttr K C ∧ NoAttr K C f ∧ H1 dx = some (.xd fs) ∧ fs.lookup f = some v ∧ Q v H1) : tXGet K ta f σ H Q := k
theorem tBInit_i (k : t σ H fun vs H2 => ∃ e C dx fr bm y, vs = [.ref e, y] ∧ H2 e = some (XF e C dx fr) ∧ XCls K C bm ∧ Q .non H2) : tBInit K t σ H Q := k
theorem tXSet_i (k : tv σ H fun y H1 => ta σ H1 fun x H2 => ∃ e C bm fr, x = .ref e ∧ XCls K C bm ∧ XUp bm ∧ XAttr K C ∧ NoAttr K C f ∧
  ((H2 e = some (XF e C none fr) ∧ ∀ dx, H2 dx = none → dx ≠ e → D.nx σ (upd (upd H2 dx (.xd [(f, y)])) e (XF e C (some dx) fr))) ∨ (∃ dx fs, H2 e = some (XF e C (some dx) fr) ∧ H2 dx = some (.xd fs) ∧ fs.length ≤ 900 ∧ D.nx σ (upd H2 dx (.xd (putF f y fs)))))) : tXSet K ta tv f D σ H := k
end
noncomputable def rowS : Str := Str.ofString "row"
structure Born (H H' : Hp) (e C : Addr) (fr : Bool) (fs : List (Str × V)) : Prop where
  ex : ∃ dx, H dx = none ∧ dx ≠ e ∧ H' e = some (XF e C (some dx) fr) ∧ H' dx = some (.xd fs)
  keep : ∀ b, b ≠ e → ∀ o, H b = some o → H' b = some o
noncomputable def IsX (H : Hp) (ea C : Addr) (fs : List (Str × V)) : Prop := ∃ dx, H ea = some (XF ea C (some dx) false) ∧ H dx = some (.xd fs)
theorem IsX.mono {H H' : Hp} {ea C : Addr} {fs : List (Str × V)} (h : IsX H ea C fs) (s : Same H H') : IsX H' ea C fs := by
  obtain ⟨dx, a, b⟩ := h
  exact ⟨dx, s _ _ a, s _ _ b⟩
noncomputable abbrev sp_TrailError_init (K : Frag) : Sp := fun vs H Q _ => match vs with
  | [.ref e, v, .int r] => ∃ C bm fr, XCls K C bm ∧ XUp bm ∧ XAttr K C ∧ NoAttr K C rowS ∧ H e = some (XF e C none fr) ∧ ∀ H', Born H H' e C fr [(rowS, .int r)] → Q .non H'
  | _ => False
theorem born_raise {H H1 H2 : Hp} {e C : Addr} {fs : List (Str × V)} (hn : H e = none) (s : Same H H1) (h1 : H1 e = none) (b : Born (upd H1 e (XF e C none true)) H2 e C true fs) : ∃ dx, H2 e = some (XF e C dx true) ∧ IsX (upd H2 e (XF e C dx false)) e C fs ∧ Same H (upd H2 e (XF e C dx false)) := by
  obtain ⟨⟨dx, a1, a2, a3, a4⟩, k⟩ := b
  refine ⟨some dx, a3, ⟨dx, upd_same, by rw [upd_ne a2]; exact a4⟩, fun c o hc => ?_⟩
  have hce : c ≠ e := fun z => by rw [z, hn] at hc; cases hc
  rw [upd_ne hce]
  exact k c hce o (by rw [upd_ne hce]; exact s c o hc)
end L2
set_option Elab.async false
set_option linter.all false
set_option maxRecDepth 100000
set_option maxHeartbeats 4000000
namespace L2
open PySem PySem.Spec PyProof.Rows PySem.W
structure RoomN (k : Nat) (A : Around) : Prop where
  dp : A.depth + 3 * k + 5 < recursionLimit
  un : A.units + 16 * k + 200 < cLine
theorem RoomN.mono {j k : Nat} {A : Around} (r : RoomN k A) (h : j ≤ k) : RoomN j A := ⟨by have := r.dp; omega, by have := r.un; omega⟩
theorem RoomN.deeper {k : Nat} {A : Around} (r : RoomN (k + 1) A) (env : Env) : RoomN k (A.deeper env) :=
  ⟨by have := r.dp; show A.depth + 1 + 3 * k + 5 < _; omega, by have := r.un; show A.units + 3 + 16 * k + 200 < _; omega⟩
theorem RoomN.depth {k : Nat} {A : Around} (r : RoomN k A) : A.depth < recursionLimit := by have := r.dp; omega
theorem RoomN.of {k : Nat} {A : Around} (r : Room k A) : RoomN k A := ⟨r.dp, r.un⟩
structure FnOkN (P : Program) (w : World) (K : Frag) (mg : Str → Option Value) (base : Heap) (k : Nat) (f : Addr) (fd : FuncData) (ps : List Str) (sp : Sp) : Prop where
  len : ∀ vs H Q E, sp vs H Q E → vs.length = ps.length
  run : ∀ (A : Around) (outer : List Env) (s : Shared) (H : Hp) (args : Args) (us : List Value) (vs : List V) (Q : VK) (E : XK), RoomN k A → Env0 P w K mg base A outer s H → BindsTo s fd args (ps.zip us) → Vals vs us → sp vs H Q E →
    codeAny (model P w) A (.call (.ref f) args) (CR CX0 outer P w H s Q E) s
theorem FnOkN.fn {P : Program} {w : World} {K : Frag} {mg : Str → Option Value} {base : Heap} {k : Nat} {f : Addr} {fd : FuncData} {ps : List Str} {sp : Sp} (F : FnOkN P w K mg base k f fd ps sp) : FnOk P w K mg base CX0 k f fd ps sp :=
  ⟨F.len, fun A outer s H args us vs Q E hr => F.run A outer s H args us vs Q E (.of hr)⟩
section
variable {P : Program} {w : World} {K : Frag} {mg : Str → Option Value} {base : Heap} {N ps : List Str} {qual : Str} {scope : Scope} {f : Addr} {cd : Value} {A : Around} {outer : List Env} {s s1 : Shared} {H : Hp} {E : XK} {us : List Value} {vs : List V}
end
section
variable {X : Cx} {k : Nat} {f : Addr} {fd : FuncData} {ps : List Str} {sp : Sp} {dvs : List V} {ds : List Value} {x : Str} {p pos : Pos} {e : Expr} {es : List Expr} {t : TA}
end
structure XIs (K : Frag) (C : Addr) : Prop where
  ha : findIn K (.ref C) "__class__" = some (some (.builtin "object.__class__"))
  hn : specialIn K (.builtin "object.__class__") "__get__" = some (some (.builtin "getset_descriptor.__get__"))
  htk : takesIn K (.builtin "object.__class__") = some true
  hm : mroIn K C (.type "object") = some true
section
variable {prog : Program} {w : World} {A : Around} {E : Value → Shared → Prop} {s : Shared} {K : Frag} {C e : Addr} {bm : List Value} {ox od : Obj}
theorem x_class {Q : Option Value → Shared → Prop} (KX : K.In s.heap) (X : XCls K C bm) (XA : XAttr K C) (Z : XIs K C) (J : InstAt s.heap e ox C (some od)) (hq : Q (some (.ref C)) { s with toks := s.toks + 1 }) :
    wpAny (model prog w) A (getAttr? (.ref e) "__class__") Q E s := by
  obtain ⟨h, g, d, t, os⟩ := s
  obtain ⟨oxc, oxd, oxt, oxs⟩ := ox
  have hoc0 : oxc = .ref C := J.cls
  subst hoc0
  have KX : K.In h := KX
  have J : InstAt h e ⟨.ref C, oxd, oxt, oxs⟩ C (some od) := J
  obtain ⟨nm, q, N, bs, sn, sub, ab, col, dd, k0, k1, k2, k3, k5, hC'⟩ := X.obj
  have hC := KX _ _ hC'
  have cB : (Value.ref C :: bm).contains (.type "BaseException") = true := by rw [List.contains_cons, X.hasB, Bool.or_true]
  have FB := PySem.F.excAttr_ValueError
  have he : h.get? e = some ⟨.ref C, oxd, oxt, oxs⟩ := J.at_
  have ga := XA.ga
  have gx := XA.gx
  have f3 := FB.ga.bind (.ref e)
  have hx0 : (false && onTheHeap (Value.builtin "BaseException.__getattribute__")) = false := rfl
  have hx2 : (Value.builtin "BaseException.__getattribute__" == Value.builtin "object.__getattribute__") = false := by decide +kernel
  have hx1 : (onTheHeap (Value.ref C) && Value.builtin "BaseException.__getattribute__" == Value.builtin "object.__getattribute__") = false := by rw [hx2]; rfl
  have L0 := J.type (M := model prog w)
  have hcs : (clsIn K C).isSome = true := by unfold clsIn; rw [show List.lookup C K = _ from hC']; rfl
  have L1 := looks_find (M := model prog w) KX J (findObj_data hcs Z.ha Z.hn Z.htk)
  unfold getAttr? getAttrBy? getAttrBy
  repeat (any_goals (first | assumption | with_reducible refine wpAny_loadPart_at he ?_ | with_reducible refine (looks_findIn KX ga).here ?_ | with_reducible refine (looks_findIn KX gx).here ?_ | wp_step | dsimp only))
  have hk : builtinKind "BaseException.__getattribute__" = some .slot := by decide +kernel
  have hsp : splitId "BaseException.__getattribute__" = some ("BaseException", "__getattribute__") := by decide +kernel
  have hargs := PySem.F.args_bexc_ga (.ref e) (.str "__class__" t)
  have ck : ∀ (Q' : Unit → Shared → Prop) (u : Nat), Q' () ⟨h, g, d, u, os⟩ → ∀ A' E', wpAny (model prog w) A' (checkBuiltinCall "BaseException.__getattribute__" ⟨[.ref e, .str "__class__" t], []⟩) Q' E' ⟨h, g, d, u, os⟩ := by
    intro Q' u hq' A' E'
    simp only [checkBuiltinCall, hk, hsp]
    refine wpAny_bind ?_
    unfold isInstance
    repeat (first | with_reducible refine wpAny_loadPart_at he ?_ | (with_reducible refine wpAny_isSubtype_exc hC ?_; rw [cB]) | wp_step)
    exact hq'
  refine codeAny_call_builtin FB.ga.plain PySem.F.entry_bexc_ga (ck _ _ ?_ _ _)
  unfold Builtin.«object.__getattribute__»
  refine wpAny_bind (wpAny_of_eq (a := (Value.ref e, [Value.str "__class__" t])) rfl ?_)
  refine wpAny_bind (wpAny_pure (wpAny_bind (L0.at (wpAny_bind (L1.at ?_)))))
  show wpAny _ _ (holding [Value.builtin "object.__class__"] (call (.builtin "getset_descriptor.__get__") [.builtin "object.__class__", .ref e, .ref C]) >>= ret) _ _ _
  refine wpAny_bind (wpAny_holding (wpAny_call (class_get (od := some od) KX J Z.hm ?_)))
  refine wpAny_pure ?_
  exact handed_on rfl (wpAny_pure hq)
theorem kitx_x (X : XCls K C bm) (XA : XAttr K C) (Z : XIs K C) : KitX K (.ref e) (.ref C) (fun h => ∃ ox od, InstAt h e ox C (some od)) where
  ty := fun _ _ _ I => by obtain ⟨ox, od, I⟩ := I; exact I.type
  it := fun _ _ KX _ => by
    obtain ⟨nm, q, N, bs, sn, sub, ab, col, dd, k0, k1, k2, k3, k5, hC'⟩ := X.obj
    intro A' Q' E' s' k q
    unfold isType loadHead
    exact wpAny_bind (wpAny_loadPart (k _ _ (KX _ _ hC')) (wpAny_pure q))
  ne := fun h tp dd its n sl KX htp => by
    obtain ⟨nm, q, N, bs, sn, sub, ab, col, dd, k0, k1, k2, k3, k5, hC'⟩ := X.obj
    refine Bool.eq_false_iff.mpr fun q => ?_
    have e : C = tp := Value.ref.inj (beq_iff_eq.mp q)
    subst e
    have z := (KX _ _ hC').symm.trans htp
    exact nomatch (show Data.cls _ = Data.seq its.toArray n from congrArg Obj.data (Option.some.inj z))
  ca := fun KX I k => by obtain ⟨ox, od, I⟩ := I; exact x_class KX X XA Z I k
end
section
variable {X : Cx}
noncomputable def isOf (K : Frag) (C : Addr) (b : Bool) : V → Prop
  | .ref D => kitOne K (.ref C) (.ref D) = some b
  | .ty T => kitOne K (.ref C) (.type T) = some b
  | _ => False
noncomputable def mIsX (K : Frag) : List V → Hp → VK → Prop := fun vs H Q => ∃ ea C dx fr bm fs c b, vs = [.ref ea, c] ∧ H ea = some (XF ea C (some dx) fr) ∧ H dx = some (.xd fs) ∧ XCls K C bm ∧ XAttr K C ∧ XIs K C ∧ isOf K C b c ∧ Q (.bl b) H
theorem kc_isX (K : Frag) (hK : X.K = K) : CallR X (.builtin "isinstance") (mIsX K) := by
  subst hK
  intro pins s σ H xs us Q I r h
  obtain ⟨ea, C, dx, fr, bm, fs, c, b, rfl, hx, hd, Xc, Xa, Z, hc, q⟩ := h
  obtain ⟨u, w', rfl, r1, r2⟩ := vals2 r
  obtain rfl : u = Value.ref ea := r1
  have fin : ∀ tk, EP X pins σ Q (.bool b) { s with toks := tk } := fun tk => ⟨.bl b, H, I.tok _, rfl, q⟩
  obtain ⟨ob, ws, t0, z, a1, a2, a3, a4, a5, a6, a7⟩ := xf_of I.hok hx
  obtain ⟨mA, hm, hr⟩ := (show ObjOk X.prog X.w H s.heap dx (.xd fs) from I.hok dx _ hd)
  obtain ⟨od, hod, hl⟩ := lookIn_ns hm
  obtain ⟨oc, odi, odt, osl⟩ := ob
  dsimp only at a2 a3 a4
  subst a2 a3 a4
  have J : ∃ ox od, InstAt s.heap ea ox C (some od) := ⟨⟨.ref C, some dx, .fields ws, osl⟩, od, a1, rfl, rfl, hod⟩
  cases c with
  | ref D =>
    obtain rfl : w' = Value.ref D := r2
    exact kia_one (kitx_x Xc Xa Z) I.kIn J hc (fun z => nomatch z) fin
  | ty T =>
    obtain rfl : w' = Value.type T := r2
    exact kia_one (kitx_x Xc Xa Z) I.kIn J hc (fun z => nomatch z) fin
  | _ => exact (show False from hc).elim
theorem isX_i {K : Frag} {H : Hp} {Q : VK} {ea C dx : Addr} {fr : Bool} {bm : List Value} {fs : List (Str × V)} {c : V} {b : Bool} (h1 : H ea = some (XF ea C (some dx) fr)) (h2 : H dx = some (.xd fs)) (Xc : XCls K C bm) (Xa : XAttr K C) (Z : XIs K C) (h : isOf K C b c) (k : Q (.bl b) H) : mIsX K [.ref ea, c] H Q :=
  ⟨ea, C, dx, fr, bm, fs, c, b, rfl, h1, h2, Xc, Xa, Z, h, k⟩
theorem tPar_i {i j : Nat} {ta : TA} {D : Ends} {σ : St} {H : Hp} (k : ta σ H fun vs H1 => ∃ v w, vs = [v, w] ∧ D.nx ((σ.set i (some v)).set j (some w)) H1) : tPar i j ta D σ H := k
end
end L2
set_option Elab.async false
set_option linter.all false
set_option maxRecDepth 100000
set_option maxHeartbeats 4000000
namespace L2
open PySem PySem.Spec PyProof.Rows
section
variable {X : Cx} {pins : List (Addr × Obj)} {σ : St} {H : Hp} {s : Shared} {h' : Heap}
end
noncomputable def Izp (K : PySem.W.Frag) (a b : Addr) (n m : Nat) : It := ⟨fun i H => i < min n m ∧ ∃ xs ys, SqL K H a xs ∧ SqL K H b ys ∧ xs.length = n ∧ ys.length = m, fun i H v H' => ∃ T x y, H T = none ∧ v = .ref T ∧ H' = upd H T (.tup [x, y]) ∧ (∀ xs, SqL K H a xs → xs[i]? = some x) ∧ (∀ ys, SqL K H b ys → ys[i]? = some y), fun i H => i = min n m ∧ ∃ xs ys, SqL K H a xs ∧ SqL K H b ys ∧ xs.length = n ∧ ys.length = m⟩
section
variable {X : Cx}
noncomputable def iZip (K : PySem.W.Frag) (ta : TA) : TI := fun σ H R => ta σ H fun vs H1 => ∃ a b xs ys, vs = [.ref a, .ref b] ∧ SqL K H1 a xs ∧ SqL K H1 b ys ∧ R (Izp K a b xs.length ys.length) H1
end
theorem iZip_i {K : PySem.W.Frag} {σ : St} {H : Hp} {ta : TA} {R : It → Hp → Prop} (k : ta σ H fun vs H1 => ∃ a b xs ys, vs = [.ref a, .ref b] ∧ SqL K H1 a xs ∧ SqL K H1 b ys ∧ R (Izp K a b xs.length ys.length) H1) : iZip K ta σ H R := k
end L2
set_option Elab.async false
set_option linter.all false
set_option maxRecDepth 100000
set_option maxHeartbeats 4000000
namespace L2
open PySem PySem.Spec PyProof.Rows
section
variable {X : Cx} {pos : Pos} {e : Expr} {te : TE}
noncomputable def tF3i (te : TE) : TE := fun σ H Q => te σ H fun x H1 => ∃ i : Int, x = .int i ∧ i.natAbs.log2 < 1920 ∧ (Str.ofString (toString i)).length ≤ 100 ∧ ∀ z : Str, Q (.str z) H1
theorem pe_f3i {a b : Str} {j1 j2 p1 p2 p3} (he : PE X e te) (ha : a.length ≤ 1000 := by decide +kernel) (hb : b.length ≤ 1000 := by decide +kernel) : PE X (.JoinedStr [.Constant (.str a) j1 p1, .FormattedValue e (-1) none p2, .Constant (.str b) j2 p3] pos) (tF3i te) := by
  intro pins s σ H Q I h
  have z9 : 100000 ≤ sizeLine := by decide
  refine JoinedStr_many (joinParts_cons (Calls.Constant_str ?_))
  have hz : ∀ {x : Str}, x.length ≤ sizeLine → (Str.empty ++ x).length ≤ sizeLine := fun {x} q => by rw [strLen_append]; show 0 + x.length ≤ _; omega
  have ea : ∀ x : Str, Str.empty ++ x = x := fun x => by apply Str.ext'; show (#[] : Array Nat) ++ x.cps = x.cps; simp
  · refine ⟨hz (by omega), joinParts_cons (FormattedValue_plain (thn (he pins _ σ H _ (I.tok _) h) fun v s1 ⟨x, H1, I1, r1, q1⟩ => ?_))⟩
    obtain ⟨i, rfl, hl, hy, q⟩ := q1
    obtain ⟨t, rfl⟩ := r1
    refine formatField_int_small hl ?_
    rw [ea]
    generalize Str.ofString (toString i) = y at hy ⊢
    refine ⟨by rw [strLen_append]; omega, ?_⟩
    show wpAny _ _ (joinParts (a ++ y) [eval (.Constant (.str b) j2 p3) X.env]) _ _ _
    refine joinParts_cons (Calls.Constant_str ⟨by rw [strLen_append, strLen_append]; omega, joinParts_nil ?_ (by rw [strLen_append, strLen_append]; omega)⟩)
    exact ⟨.str (a ++ y ++ b), H1, ((I1.tok _).tok _).tok _, ⟨_, rfl⟩, q _⟩
theorem tF3i_i {σ : St} {H : Hp} {Q : VK} (k : te σ H fun x H1 => ∃ i : Int, x = .int i ∧ i.natAbs.log2 < 1920 ∧ (Str.ofString (toString i)).length ≤ 100 ∧ ∀ z : Str, Q (.str z) H1) : tF3i te σ H Q := k
end
noncomputable def onX (H : Hp) (C : Addr) (E : XK) : Prop := ∀ ea H', Same H H' → IsX H' ea C [(rowS, .int 0)] → E (.ref C) (some ea) H'
theorem onX.mono {H H1 : Hp} {C : Addr} {E : XK} (h : onX H C E) (s : Same H H1) : onX H1 C E := fun ea H' s' i => h ea H' (s.trans s') i
theorem look_row1 (a : V) : List.lookup (Str.ofString "row") [(rowS, a)] = some a := by
  have h1 : (Str.ofString "row" == rowS) = true := by decide +kernel
  simp only [List.lookup, h1]
end L2
set_option Elab.async false
set_option linter.all false
set_option maxRecDepth 100000
set_option maxHeartbeats 4000000
namespace L2
open PySem PySem.Spec PyProof.Rows
section
variable {X : Cx} {es rest : List Expr} {k : Nat} {pos : Pos} {env : Env} {te : TE} {t : TA}
noncomputable def notStar : Expr → Bool
  | .Starred _ _ => false
  | _ => true
theorem star_any {e : Expr} (h : notStar e = true) : starEach (e :: rest) env = (false, eval e env) :: starEach rest env := by
  rw [starEach]
  intro a p z
  rw [z] at h
  cases h
theorem pa_con {e : Expr} (ha : PE X e te) (hr : PA X rest t) (h : notStar e = true := by rfl) : PA X (e :: rest) (tCons te t) := pa_cons ha hr (star_any h)
theorem sw_tup {n : Option Expr} {l : Nat} : swapsWith (.Tuple es k pos) n l env = pure false := rfl
theorem sw_lst {n : Option Expr} {l : Nat} : swapsWith (.List es pos) n l env = pure false := rfl
theorem sw_bin {a b : Expr} {op : Operator} {n : Option Expr} {l : Nat} : swapsWith (.BinOp a op b pos) n l env = pure false := rfl
theorem sw_sub {a b : Expr} {n : Option Expr} {l : Nat} : swapsWith (.Subscript a b pos) n l env = pure false := rfl
theorem sw_call {a : Expr} {kw : List Keyword} {n : Option Expr} {l : Nat} : swapsWith (.Call a es kw pos) n l env = pure false := rfl
end
section
variable {X : Cx} {a b e : Expr} {es rest : List Expr} {k : Nat} {pos pos' : Pos} {te ta tb : TE} {t : TA} {u v : TS} {st : Stmt} {x : Str}
theorem qs_of (h : PS X st u) : QS X st u := ⟨h⟩
theorem qs_if {c : Expr} {l m : List Stmt} {tc : TT} (hc : PT X c tc) (ha : QSs X l u) (hb : QSs X m v) : QS X (.If c l m pos) (tIfS tc u v) := ⟨ps_if hc ha.pss hb.pss⟩
theorem qss_nil : QSs X [] tNext := ⟨pss_nil⟩
end
end L2
set_option Elab.async false
set_option linter.all false
set_option maxRecDepth 100000
set_option maxHeartbeats 4000000
namespace L2
open PySem PySem.Spec PyProof.Rows PySem.W
theorem vals_ref : ∀ {ds : List Addr} {us : List Value}, Vals (ds.map V.ref) us → us = ds.map Value.ref
  | [], _, .nil => rfl
  | d :: ds, _, .cons r t => by
    have e := vals_ref t
    obtain rfl : _ = Value.ref d := r
    rw [e]
    rfl
section
variable {X : Cx}
noncomputable def mIsXT (K : Frag) : List V → Hp → VK → Prop := fun vs H Q => ∃ ea C dx fr bm fs tp, ∃ (ds : List Addr) (b : Bool), vs = [.ref ea, .ref tp] ∧ H ea = some (XF ea C (some dx) fr) ∧ H dx = some (.xd fs) ∧ XCls K C bm ∧ XAttr K C ∧ XIs K C ∧ SqT K H tp (ds.map V.ref) ∧ kitAny K (.ref C) (ds.map Value.ref) = some b ∧ Q (.bl b) H
theorem kc_isXT (K : Frag) (hK : X.K = K) : CallR X (.builtin "isinstance") (mIsXT K) := by
  subst hK
  intro pins s σ H xs us Q I r h
  obtain ⟨ea, C, dx, fr, bm, fs, tp, ds, b, rfl, hx, hd, Xc, Xa, Z, ht, hc, q⟩ := h
  obtain ⟨u, w', rfl, r1, r2⟩ := vals2 r
  obtain rfl : u = Value.ref ea := r1
  obtain rfl : w' = Value.ref tp := r2
  have fin : ∀ tk, EP X pins σ Q (.bool b) { s with toks := tk } := fun tk => ⟨.bl b, H, I.tok _, rfl, q⟩
  obtain ⟨ob, ws, t0, z, a1, a2, a3, a4, a5, a6, a7⟩ := xf_of I.hok hx
  obtain ⟨mA, hm, hr⟩ := (show ObjOk X.prog X.w H s.heap dx (.xd fs) from I.hok dx _ hd)
  obtain ⟨od, hod, hl⟩ := lookIn_ns hm
  obtain ⟨oc, odi, odt, osl⟩ := ob
  dsimp only at a2 a3 a4
  subst a2 a3 a4
  have J : ∃ ox od, InstAt s.heap ea ox C (some od) := ⟨⟨.ref C, some dx, .fields ws, osl⟩, od, a1, rfl, rfl, hod⟩
  obtain ⟨its, rv, ⟨⟨c1, c2, c3, c4⟩, g1, g2, n, g3⟩, _⟩ := I.tuple ht
  dsimp only at g2 g3
  subst g2 g3
  have e := vals_ref rv
  subst e
  exact kia_tup (kitx_x Xc Xa Z) I.kIn J g1 hc (fun z => nomatch z) fin
theorem isXT_i {K : Frag} {H : Hp} {Q : VK} {ea C dx tp : Addr} {fr : Bool} {bm : List Value} {fs : List (Str × V)} (ds : List Addr) {b : Bool} (h1 : H ea = some (XF ea C (some dx) fr)) (h2 : H dx = some (.xd fs)) (Xc : XCls K C bm) (Xa : XAttr K C) (Z : XIs K C) (ht : SqT K H tp (ds.map V.ref)) (h : kitAny K (.ref C) (ds.map Value.ref) = some b) (k : Q (.bl b) H) : mIsXT K [.ref ea, .ref tp] H Q :=
  ⟨ea, C, dx, fr, bm, fs, tp, ds, b, rfl, h1, h2, Xc, Xa, Z, ht, h, k⟩
end
theorem passN {P : Program} {w : World} {X : Cx} : Passes (CXo P w) X (fun _ _ _ => False) := fun _ _ _ _ _ _ _ h => by
  obtain ⟨_, _, _, _, _, _, _, _, _, _, _, hE⟩ := h
  exact hE.elim
section
variable {X : Cx} {pos : Pos} {e : Expr} {te : TE}
noncomputable def tFr (te : TE) : TE := fun σ H Q => te σ H fun x H1 => ∃ y, x = .str y ∧ (∀ c ∈ y.cps.toList, c < 16 ^ 8) ∧ y.length ≤ 5000 ∧ ∀ z : Str, Q (.str z) H1
theorem tFr_i {σ : St} {H : Hp} {Q : VK} (k : te σ H fun x H1 => ∃ y, x = .str y ∧ (∀ c ∈ y.cps.toList, c < 16 ^ 8) ∧ y.length ≤ 5000 ∧ ∀ z : Str, Q (.str z) H1) : tFr te σ H Q := k
noncomputable def tF2 (te : TE) : TE := fun σ H Q => te σ H fun x H1 => ∃ y, x = .str y ∧ y.length ≤ 5000 ∧ ∀ z : Str, Q (.str z) H1
theorem tF2_i {σ : St} {H : Hp} {Q : VK} (k : te σ H fun x H1 => ∃ y, x = .str y ∧ y.length ≤ 5000 ∧ ∀ z : Str, Q (.str z) H1) : tF2 te σ H Q := k
end
end L2
set_option Elab.async false
set_option linter.all false
set_option maxRecDepth 100000
set_option maxHeartbeats 4000000
namespace L2
open PySem PySem.Spec PyProof.Rows PySem.W
theorem attrQ_miss_list {prog : Program} {w : World} {A : Around} {E : Value → Shared → Prop} {s : Shared} {a : Addr} {o : Obj} {xs : Array Value} {k : Nat} {name : Str} {Q : Option Value → Shared → Prop}
    (hx : s.heap.get? a = some o) (hc : o.cls = .type "list") (hdat : o.data = .seq xs k) (hd : o.dict = none) (hmiss : typeLookup (.type "list") name = pure none) (hname : (["__module__", "__name__", "__qualname__", "__doc__", "__annotations__"] : List Str).contains name = false) (hA : A.handled = none)
    (h : ∀ h' tk, (∀ b o, s.heap.get? b = some o → h'.get? b = some o) → Q none { s with heap := h', toks := tk }) (hsz : name.length + 100 ≤ sizeLine) :
    wpAny (model prog w) A (getAttr? (.ref a) name) Q E s := by
  obtain ⟨c, dct, dat, sl⟩ := o
  simp only at hc hdat hd
  subst hc hdat hd
  obtain ⟨hp, g, d, tk, os⟩ := s
  have hT : ∀ tk', (⟨hp, g, d, tk', os⟩ : Shared).TypeIs (.ref a) "list" := fun _ => ⟨_, hx, rfl⟩
  have f1 := sub_AttributeError
  have f3 := F.slot_list_getattribute.lookup
  have f4 := F.slot_list_getattribute.bind (.ref a)
  have f5 := am_list_getattr_none
  unfold getAttr? getAttrBy? getAttrBy
  repeat (any_goals (first | assumption | exact hT _ | ((with_reducible show wpAny _ _ (call (Value.builtin "list.__getattribute__") _ _) _ _ _); refine call_meets F.slot_list_getattribute (hT _) am_entry_list_getattribute (F.args_list_getattribute_2 _ _) (meets_getattribute_miss_list a xs k sl name _ hmiss hname hsz) ⟨hx, hA, fun h' tk' e hx' => ?_⟩) | wp_step))
  obtain ⟨t', u', he⟩ := hx'.there
  show wpAny _ _ (getattributeRaised _ _ _ _ _ _ _) _ _ _
  unfold getattributeRaised
  repeat (any_goals (first | assumption | wp_step))
  exact h _ _ hx'.of.keeps
namespace FD
theorem lk_list_keys : typeLookup (.type "list") "keys" = pure none := by rw [typeLookup_type, builtinLookup_eq_fast]; kernel_rfl
theorem entry_loop : entryFor table "dict.update.loop" = some Builtin.«dict.update.loop» := entryFor_of_tree (by kernel_rfl)
theorem plain_loop : plainId "dict.update.loop" = true := by decide +kernel
end FD
section
variable {prog : Program} {w : World} {A : Around} {R : Result → Shared → Prop}
theorem pairItems_tup {E : Value → Shared → Prop} {s : Shared} {T : Addr} {k v : Value} {Q : List Value → Shared → Prop} (h : IsTup s.heap T #[k, v]) (q : Q [k, v] s) : wpAny (model prog w) A (Builtin.Dict.pairItems (.ref T)) Q E s := by
  obtain ⟨o, ho, hc, n, hd⟩ := h
  unfold Builtin.Dict.pairItems
  refine wpAny_bind (wpAny_typeOf (T := "tuple") ⟨o, ho, hc⟩ ?_)
  rw [if_pos (by decide)]
  unfold seqItems?
  refine wpAny_bind (wpAny_bind (wpAny_load ho ?_))
  rw [hd]
  exact wpAny_pure (wpAny_pure q)
noncomputable def TupsAt {K : Type} [DecidableEq K] (knd : PySem.KeyKind prog w K) (ts : List Addr) (kvs : List (K × Value)) (h : Heap) : Prop := ∀ (i : Nat) (T : Addr), ts[i]? = some T → ∃ (kk : K) (key val : Value), kvs[i]? = some (kk, val) ∧ knd.is kk key = true ∧ IsTup h T #[key, val]
theorem TupsAt.keep {K : Type} [DecidableEq K] {knd : PySem.KeyKind prog w K} {ts : List Addr} {kvs : List (K × Value)} {h h' : Heap} (x : TupsAt knd ts kvs h) (k : ∀ T ∈ ts, ∀ o, h.get? T = some o → h'.get? T = some o) : TupsAt knd ts kvs h' := fun i T e => by
  obtain ⟨kk, key, val, e1, e2, o, ho, r⟩ := x i T e
  exact ⟨kk, key, val, e1, e2, o, k T (List.mem_of_getElem? e) o ho, r⟩
theorem take_stored {K : Type} [DecidableEq K] {kvs : List (K × Value)} (hn : (kvs.map (·.1)).Nodup) {i : Nat} {k : K} {v : Value} (e : kvs[i]? = some (k, v)) : stored (kvs.take i) k v = kvs.take (i + 1) := by
  have hi : i < kvs.length := (List.getElem?_eq_some_iff.mp e).1
  have h0 : valueAt (kvs.take i) k = none := by
    cases q : valueAt (kvs.take i) k with
    | none => rfl
    | some x =>
      exfalso
      have hm : k ∈ (kvs.take i).map (·.1) := by
        revert q
        generalize kvs.take i = l
        intro q
        induction l with
        | nil => simp [valueAt] at q
        | cons p r ih =>
          by_cases hp : p.1 = k
          · simp [hp]
          · refine List.mem_cons_of_mem _ (ih ?_)
            simpa [valueAt, hp] using q
      have hsplit : kvs.map (·.1) = (kvs.take i).map (·.1) ++ (kvs.drop i).map (·.1) := by rw [← List.map_append, List.take_append_drop]
      rw [hsplit] at hn
      have hk : k ∈ (kvs.drop i).map (·.1) := by
        have e2 : kvs.drop i = kvs[i] :: kvs.drop (i + 1) := List.drop_eq_getElem_cons hi
        have e3 : kvs[i] = (k, v) := by
          have := List.getElem?_eq_getElem hi
          rw [e] at this
          exact (Option.some.inj this).symm
        rw [e2, e3]
        simp
      exact (List.nodup_append.mp hn).2.2 k hm k hk rfl
  rw [stored_absent h0, List.take_add_one, e]
  rfl
theorem loop_pairs {K : Type} [DecidableEq K] {knd : PySem.KeyKind prog w K} (hh : A.in1.handled = none) (I S ax : Addr) (ts : List Addr) (kvs : List (K × Value)) (hl : kvs.length = ts.length) (hn : (kvs.map (·.1)).Nodup) (hb : ts.length ≤ sizeLine) (hSI : S ≠ I) (haI : ax ≠ I) (hSa : S ≠ ax) (hT : ∀ T ∈ ts, T ≠ S ∧ T ≠ I) :
    ∀ (k i : Nat) (s : Shared) (t : Tok), ts.length - i = k → i ≤ ts.length → s.heap.IsListIter I ax i ∧ s.heap.IsList ax (ts.map Value.ref).toArray → s.heap.DictOf knd S (kvs.take i) → TupsAt knd ts kvs s.heap →
      (∀ h' tk, h'.DictOf knd S kvs → (∀ b o, b ≠ S → b ≠ I → s.heap.get? b = some o → h'.get? b = some o) → R (.ok (.ret .none)) { s with heap := h', toks := tk }) →
      codeAny (model prog w) A (.builtin "dict.update.loop" ⟨[.ref S, .ref I, .int i t, .none], []⟩) R s := by
  have W := Walks.list (prog := prog) (w := w) (A := A.in1) hh I ax haI (ts.map Value.ref).toArray
  have hsz : (ts.map Value.ref).toArray.size = ts.length := by simp
  rw [hsz] at W
  intro k
  induction k with
  | zero =>
    intro i s t hk hi hst hS hTs hR
    have hin : i = ts.length := by omega
    subst hin
    refine codeAny_builtin FD.entry_loop ?_
    rw [Around.under_plainId FD.plain_loop _]
    show wpAny _ A.in1 (pyNext (.ref I) >>= _) _ _ s
    refine wpAny_bind (W.done s _ _ hst fun h' tk hm => ?_)
    show wpAny _ A.in1 (Builtin.Dict.addKeywords S [] >>= fun _ => ret Value.none) _ _ _
    refine wpAny_bind (wpAny_pure (wpAny_pure (hR _ _ ?_ fun b o h1 h2 e => hm b o (by simpa using h2) e)))
    rw [← hl, List.take_length] at hS
    obtain ⟨o, es, ep, ho, r⟩ := hS
    exact ⟨o, es, ep, hm S o (by simpa using hSI) ho, r⟩
  | succ k ih =>
    intro i s t hk hi hst hS hTs hR
    have hlt : i < ts.length := by omega
    refine codeAny_builtin FD.entry_loop ?_
    rw [Around.under_plainId FD.plain_loop _]
    show wpAny _ A.in1 (pyNext (.ref I) >>= _) _ _ s
    refine wpAny_bind (W.item i s _ _ hlt hst fun v h' tk hP hst' hm => ?_)
    have hP : (ts.map Value.ref).toArray[i]? = some v := hP
    rw [List.getElem?_toArray, List.getElem?_map, List.getElem?_eq_getElem hlt] at hP
    have hP : Value.ref ts[i] = v := Option.some.inj hP
    subst hP
    have hTs' : TupsAt knd ts kvs h' := hTs.keep fun T hT' o ho => hm T o (by simpa using (hT T hT').2) ho
    obtain ⟨kk, key, val, e1, e2, tp⟩ := hTs' i ts[i] (List.getElem?_eq_getElem hlt)
    have hS' : h'.DictOf knd S (kvs.take i) := by
      obtain ⟨o, es, ep, ho, r⟩ := hS
      exact ⟨o, es, ep, hm S o (by simpa using hSI) ho, r⟩
    refine wpAny_bind (wpAny_holding (wpAny_bind (wpAny_tryCatch (pairItems_tup tp ?_))))
    show wpAny _ A.in1 (holding [key, val] (dictSet S key val)) _ _ _
    refine wpAny_holding (wpAny_dictSet_pairs (s := { s with heap := h', toks := tk }) e2 hS' (fun h2 hd2 hsb => ?_) (by rw [List.length_take]; omega))
    rw [take_stored hn e1] at hd2
    refine wpAny_pure ⟨plainId_quiet FD.plain_loop _, ih (i + 1) _ _ (by omega) hlt ?_ hd2 (hTs'.keep fun T hT' o ho => ?_) fun h3 tk3 hd3 hk3 => ?_⟩
    · refine W.frame (i + 1) h' h2 hst' fun b hb o ho => ?_
      have hb : b = I ∨ b = ax := by simpa using hb
      have hbS : b ≠ S := by
        rcases hb with z | z
        · rw [z]; exact Ne.symm hSI
        · rw [z]; exact Ne.symm hSa
      rw [hsb.2 b hbS]
      exact ho
    · rw [hsb.2 T (hT T hT').1]; exact ho
    · refine hR h3 tk3 hd3 fun b o h1 h2' e => hk3 b o h1 h2' ?_
      rw [hsb.2 b h1]
      exact hm b o (by simpa using h2') e
theorem call_dict_pairs {E : Value → Shared → Prop} {s : Shared} {K : Type} [DecidableEq K] {knd : PySem.KeyKind prog w K} {a : Addr} {ts : List Addr} {kvs : List (K × Value)} {Q : Value → Shared → Prop} (hh : A.handled = none) (ha : PlainL s.heap a (ts.map Value.ref).toArray) (hl : kvs.length = ts.length) (hn : (kvs.map (·.1)).Nodup) (hb : ts.length ≤ sizeLine) (hTs : TupsAt knd ts kvs s.heap)
    (h : ∀ h' tk, h'.DictOf knd s.heap.objs.size kvs → (∀ b o, s.heap.get? b = some o → h'.get? b = some o) → Q (.ref s.heap.objs.size) { s with heap := h', toks := tk }) :
    wpAny (model prog w) A (call (.type "dict") [.ref a]) Q E s := by
  refine callType_codes (Q₁ := fun obj s₁ => obj = .ref s.heap.objs.size ∧ s₁ = { s with heap := s.heap.push { cls := .type "dict", data := .dict #[] } }) F.kt_called_dict (F.kt_typeCall_dict_1 _) F.entry_dict_init (kt_code_dict_new _ ⟨rfl, rfl⟩) ?_
  rintro obj s₁ ⟨rfl, rfl⟩
  have hnew : (s.heap.push { cls := .type "dict", data := .dict #[] }).DictOf knd s.heap.objs.size [] := Heap.DictOf.new s.heap
  obtain ⟨oa, na, hoa, ca, da, ea⟩ := ha
  have hla : a < s.heap.objs.size := Heap.lt_size hoa
  have hpa : (s.heap.push { cls := .type "dict", data := .dict #[] }).get? a = some oa := Heap.get?_push_of_some _ hoa
  refine ⟨hnew.typeIs, F.args_dict_init_2 _ _, ?_⟩
  unfold Builtin.«dict.__init__»
  refine wpAny_bind ?_
  unfold Builtin.Dict.selfAndRest
  refine wpAny_bind (wpAny_notOrdered_dict hnew.typeIs ?_)
  show wpAny _ _ (pure (s.heap.objs.size, [Value.ref a])) _ _ _
  refine wpAny_pure ?_
  show wpAny _ _ (Builtin.Dict.updateFrom "dict.__init__" s.heap.objs.size (.ref a) [] .none) _ _ _
  unfold Builtin.Dict.updateFrom
  refine wpAny_bind (wpAny_typeOf (T := "list") ⟨oa, hpa, ca⟩ ?_)
  rw [if_pos (by decide)]
  refine wpAny_bind (attrQ_miss_list (s := { s with heap := s.heap.push { cls := .type "dict", data := .dict #[] } }) hpa ca ea da FD.lk_list_keys (by decide +kernel) hh (fun h' tk hk => ?_) (by decide +kernel))
  dsimp only [Option.isNone]
  rw [if_pos rfl]
  refine wpAny_bind (wpAny_rule ?_)
  have hk : ∀ b o, (s.heap.push { cls := .type "dict", data := .dict #[] }).get? b = some o → h'.get? b = some o := hk
  have pl : PlainL h' a (ts.map Value.ref).toArray := ⟨oa, na, hk a oa hpa, ca, da, ea⟩
  have hS0 : h'.DictOf knd s.heap.objs.size [] := by
    obtain ⟨o, es, ep, ho, r⟩ := hnew
    exact ⟨o, es, ep, hk _ o ho, r⟩
  have hSlt : s.heap.objs.size < h'.objs.size := by
    obtain ⟨o, es, ep, ho, r⟩ := hS0
    exact Heap.lt_size ho
  have hTlt : ∀ T ∈ ts, T < s.heap.objs.size := fun T hT => by
    obtain ⟨i, hi, e⟩ := List.mem_iff_getElem.mp hT
    obtain ⟨_, _, _, _, _, o, ho, _⟩ := hTs i T (by rw [List.getElem?_eq_getElem hi, e])
    exact Heap.lt_size ho
  refine wpAny_bind (wpAny_pyIter_list (s := { s with heap := h', toks := tk }) pl.isList ?_)
  refine wpAny_pure ⟨plainId_quiet FD.plain_loop _, ?_⟩
  have hpush : ∀ b o, h'.get? b = some o → (h'.push { cls := .type "list_iterator", data := .fields #[.ref a, .int 0 0] }).get? b = some o := fun b o e => Heap.get?_push_of_some _ e
  refine loop_pairs (knd := knd) (A := A.in1) hh h'.objs.size s.heap.objs.size a ts kvs hl hn hb (Nat.ne_of_lt hSlt) (Nat.ne_of_lt (Nat.lt_trans hla hSlt)) (Ne.symm (Nat.ne_of_lt hla)) (fun T hT => ⟨Nat.ne_of_lt (hTlt T hT), Nat.ne_of_lt (Nat.lt_trans (hTlt T hT) hSlt)⟩) (ts.length - 0) 0 _ _ rfl (Nat.zero_le _) ⟨⟨_, Heap.get?_push_size _ rfl, rfl, rfl⟩, pl.isList.at fun o e => hpush _ _ e⟩ ?_ (hTs.keep fun T hT o ho => hpush _ _ (hk _ _ (Heap.get?_push_of_some _ ho))) fun h3 tk3 hd3 hk3 => ?_
  · obtain ⟨o, es, ep, ho, r⟩ := hS0
    exact ⟨o, es, ep, hpush _ o ho, r⟩
  · refine ⟨rfl, h h3 tk3 hd3 fun b o e => hk3 b o ?_ ?_ (hpush _ _ (hk _ _ (Heap.get?_push_of_some _ e)))⟩
    · exact Nat.ne_of_lt (Heap.lt_size e)
    · exact Nat.ne_of_lt (Nat.lt_trans (Heap.lt_size e) hSlt)
end
section
variable {X : Cx}
noncomputable def PairsAt (K : Frag) (H : Hp) (us : List V) (rs : List (Str × V)) : Prop := ∃ ts : List Addr, us = ts.map V.ref ∧ ts.length = rs.length ∧ ∀ (i : Nat) (T : Addr) (k : Str) (v : V), ts[i]? = some T → rs[i]? = some (k, v) → SqT K H T [.str k, v]
noncomputable def mDictP (K : Frag) : List V → Hp → VK → Prop := fun vs H Q => ∃ (p : Addr) (us : List V) (rs : List (Str × V)), vs = [.ref p] ∧ SqL K H p us ∧ PairsAt K H us rs ∧ (rs.map (·.1)).Nodup ∧ rs.length ≤ sizeLine ∧ ∀ q, H q = none → Q (.ref q) (upd H q (.dK (rs.map fun r => (Sum.inr r.1, r.2))))
theorem kc_dictP (K : Frag) (hK : X.K = K) (hc : X.calm = true) : CallR X (.type "dict") (mDictP K) := by
  subst hK
  intro pins s σ H xs us Q I r h
  obtain ⟨p, vs, rs, rfl, hs, ⟨ts, rfl, hlen, hts⟩, hn, hz, q⟩ := h
  obtain ⟨u, rfl, r1⟩ := vals1 r
  obtain rfl : u = Value.ref p := r1
  obtain ⟨its, rv, pl, _⟩ := I.list hs
  have ei := vals_ref rv
  subst ei
  have hex : ∀ i : Nat, i < rs.length → ∃ (T : Addr) (k : Str) (v : V) (val : Value) (tk : Tok), ts[i]? = some T ∧ rs[i]? = some (k, v) ∧ RelV v val ∧ IsTup s.heap T #[.str k tk, val] := fun i hi => by
    have e1 : ts[i]? = some ts[i] := List.getElem?_eq_getElem (by omega)
    have e2 : rs[i]? = some (rs[i].1, rs[i].2) := List.getElem?_eq_getElem hi
    obtain ⟨its, rv, tp, _⟩ := I.tuple (hts i _ _ _ e1 e2)
    obtain ⟨a1, a2, rfl, b1, b2⟩ := vals2 rv
    obtain ⟨tk, rfl⟩ := b1
    exact ⟨_, _, _, a2, tk, e1, e2, b2, tp⟩
  have hvs : ∀ n, n ≤ rs.length → ∃ ws : List (Key × Value), ws.length = n ∧ (∀ i, i < n → ∃ (k : Str) (v : V) (val : Value), rs[i]? = some (k, v) ∧ ws[i]? = some (Sum.inr k, val) ∧ RelV v val ∧ ∃ (T : Addr) (tk : Tok), ts[i]? = some T ∧ IsTup s.heap T #[.str k tk, val]) := fun n => by
    induction n with
    | zero => intro _; exact ⟨[], rfl, fun i hi => absurd hi (Nat.not_lt_zero i)⟩
    | succ n ih =>
      intro hn1
      obtain ⟨ws, hl, hw⟩ := ih (by omega)
      obtain ⟨T, k, v, val, tk, e1, e2, e3, e4⟩ := hex n (by omega)
      refine ⟨ws ++ [(Sum.inr k, val)], by simp [hl], fun i hi => ?_⟩
      by_cases hin : i < n
      · obtain ⟨k', v', val', f1, f2, f3⟩ := hw i hin
        exact ⟨k', v', val', f1, by rw [List.getElem?_append_left (by omega)]; exact f2, f3⟩
      · have : i = n := by omega
        subst this
        exact ⟨k, v, val, e2, by rw [List.getElem?_append_right (by omega), hl]; simp, e3, T, tk, e1, e4⟩
  obtain ⟨ws, hwl, hw⟩ := hvs rs.length (Nat.le_refl _)
  have hkeys : ws.map (·.1) = rs.map fun r => (Sum.inr r.1 : Key) := by
    apply List.ext_getElem?
    intro i
    by_cases hi : i < rs.length
    · obtain ⟨k, v, val, f1, f2, _⟩ := hw i hi
      rw [List.getElem?_map, List.getElem?_map, f1, f2]
      rfl
    · rw [List.getElem?_eq_none (by rw [List.length_map]; omega), List.getElem?_eq_none (by rw [List.length_map]; omega)]
  have hnod : (ws.map (·.1)).Nodup := by
    rw [hkeys]
    have : (rs.map fun r => (Sum.inr r.1 : Key)) = (rs.map (·.1)).map (fun x => (Sum.inr x : Key)) := by rw [List.map_map]; rfl
    rw [this]
    exact List.Pairwise.map _ (fun a b hab e => hab (Sum.inr.inj e)) hn
  have hrel : KV (rs.map fun r => ((Sum.inr r.1 : Key), r.2)) ws := by
    have key : ∀ (l : List (Str × V)) (m : List (Key × Value)), l.length = m.length → (∀ i, i < l.length → ∃ (k : Str) (v : V) (val : Value), l[i]? = some (k, v) ∧ m[i]? = some (Sum.inr k, val) ∧ RelV v val) → KV (l.map fun r => ((Sum.inr r.1 : Key), r.2)) m := fun l => by
      induction l with
      | nil => intro m hm _; cases m with | nil => exact .nil | cons _ _ => simp at hm
      | cons x l ih =>
        intro m hm hx
        cases m with
        | nil => simp at hm
        | cons y m =>
          obtain ⟨k, v, val, f1, f2, f3⟩ := hx 0 (by simp)
          have f1 : x = (k, v) := by simpa using f1
          have f2 : y = (Sum.inr k, val) := by simpa using f2
          subst f1 f2
          exact .cons ⟨rfl, f3⟩ (ih m (by simpa using hm) fun i hi => by simpa using hx (i + 1) (by simpa using hi))
    exact key rs ws hwl.symm fun i hi => by obtain ⟨k, v, val, f1, f2, f3, _⟩ := hw i hi; exact ⟨k, v, val, f1, f2, f3⟩
  refine call_dict_pairs (knd := mixKind X.prog X.w) (I.ok.hd hc) pl (by omega) hnod (by omega) (fun i T e => ?_) fun h' tk hd hk => ?_
  · have hi : i < rs.length := by have := (List.getElem?_eq_some_iff.mp e).1; omega
    obtain ⟨k, v, val, f1, f2, f3, T', tk, f4, f5⟩ := hw i hi
    rw [e] at f4
    cases f4
    exact ⟨Sum.inr k, .str k tk, val, f2, mixKind_str _ _ _ _, f5⟩
  · refine ⟨.ref _, upd H s.heap.objs.size (.dK (rs.map fun r => (Sum.inr r.1, r.2))), ?_, rfl, q _ (I.hok.fresh (Nat.le_refl _))⟩
    exact I.laid (a := s.heap.objs.size) (o := .dK _) (t' := tk) hk (Nat.le_refl _) (dk_new (by rw [List.length_map]; exact hz) (beq_eq_false_iff_ne.mpr (Ne.symm (Nat.ne_of_lt I.big))) hrel hd)
end
end L2
set_option Elab.async false
set_option linter.all false
set_option maxRecDepth 100000
set_option maxHeartbeats 4000000
namespace L2
open PySem PySem.Spec PyProof.Rows PySem.W
section
variable {X : Cx}
noncomputable def dEqK (K : Frag) (n : Bool) : R2 := fun x y H Q => ∃ (a b : Addr) (ka kb : List (Key × V)), x = .ref a ∧ y = .ref b ∧ H a = some (.dK ka) ∧ H b = some (.dK kb) ∧ ka.length = kb.length ∧ (∀ k v, (k, v) ∈ ka → ∃ v' d, valV kb k = some v' ∧ Den K H v d ∧ Den K H v' d ∧ d.depth ≤ 140) ∧ Q (.bl (!n)) H
theorem keq_hits {pins : List (Addr × Obj)} {σ : St} {H : Hp} {s : Shared} (I : Inv X pins σ H s) {A : Around} (hu : A.units + 150 < cLine) {kb : List (Key × V)} {vb : List (Key × Value)} (rb : KV kb vb) :
    ∀ {ka : List (Key × V)} {va : List (Key × Value)}, KV ka va → (∀ k v, (k, v) ∈ ka → ∃ v' d, valV kb k = some v' ∧ Den X.K H v d ∧ Den X.K H v' d ∧ d.depth ≤ 140) → KeqHits A.in1 s vb va true
  | [], [], _, _ => .nil
  | (k, v) :: r, (k', u) :: m, .cons h t, hx => by
    obtain ⟨e1, e2⟩ := h
    have e1 : k = k' := e1
    subst e1
    obtain ⟨v', d, f1, f2, f3, f4⟩ := hx k v List.mem_cons_self
    have hv := rb.val k
    rw [f1] at hv
    obtain ⟨u', g1, g2⟩ := RelO.some_of (v := v') (o := valueAt vb k) hv
    have he : SeqAt.EqAt A.in1 s u u' true := eq_same I 140 A.in1 d v v' u u' f4 (by show A.units + 1 + 140 < cLine; omega) f2 f3 e2 g2
    have := KeqHits.hit (k := k) (v := u) g1 he (keq_hits I hu rb t fun k2 v2 h2 => hx k2 v2 (List.mem_cons_of_mem _ h2))
    simpa using this
theorem ko_eqK (K : Frag) (hK : X.K = K) (hu : X.A.units + 150 < cLine) : OpR X (compareOp .Eq) (dEqK K false) := by
  subst hK
  intro pins s σ H x y v u Q I rx ry h
  obtain ⟨a, b, ka, kb, rfl, rfl, ha, hb, hl, hx, k⟩ := h
  cases rx
  cases ry
  obtain ⟨z1, hd1, va, ra, da⟩ := dk_of I.hok ha
  obtain ⟨z2, hd2, vb, rb, db⟩ := dk_of I.hok hb
  refine keq_eq hd1 hd2 da db (by omega) (fun _ => keq_hits I hu rb ra hx) ?_
  have e : (va.length == vb.length && true) = true := by
    rw [← Paired.length ra, ← Paired.length rb, hl]; simp
  rw [e]
  exact ⟨.bl true, H, I, rfl, k⟩
noncomputable def mDictK : List V → Hp → VK → Prop := fun vs H Q => ∃ (a : Addr) (kvs : List (Key × V)), vs = [.ref a] ∧ H a = some (.dK kvs) ∧ ∀ p, H p = none → Q (.ref p) (upd H p (.dK kvs))
theorem mc_dictK : CallR X (.type "dict") mDictK := by
  intro pins s σ H xs us Q I r h
  obtain ⟨a, kvs, rfl, ha, q⟩ := h
  obtain ⟨u, rfl, r1⟩ := vals1 r
  obtain rfl : u = Value.ref a := r1
  exact d_copyOf I (.inl ha) fun p s' hp I' => ⟨.ref p, _, I', rfl, q p hp⟩
end
noncomputable abbrev Rws := List (Str × Trm)
noncomputable def PutsOk (K : Frag) (H : Hp) (kvs : List (Key × V)) (rows : Rws) : Prop := Paired (fun (p : Key × V) (q : Str × Trm) => p.1 = Sum.inr q.1 ∧ Den K H p.2 q.2.data) kvs rows
noncomputable def lookR (rows : Rws) (x : Str) : Option Trm := (rows.find? fun r => decide (r.1 = x)).map (·.2)
noncomputable def putR (rows : Rws) (x : Str) (t : Trm) : Rws := if (rows.any fun r => decide (r.1 = x)) = true then rows.map (fun r => if r.1 = x then (r.1, t) else r) else rows ++ [(x, t)]
section
variable {K : Frag} {H H' : Hp} {kvs : List (Key × V)} {rows : Rws}
theorem PutsOk.mono (h : PutsOk K H kvs rows) (s : Same H H') : PutsOk K H' kvs rows := Paired.mapP h fun _ _ z => ⟨z.1, z.2.mono s⟩
theorem PutsOk.monoT (h : PutsOk K H kvs rows) (e : ∀ a xs, SqT K H a xs → SqT K H' a xs) : PutsOk K H' kvs rows := Paired.mapP h fun _ _ z => ⟨z.1, z.2.monoT e⟩
theorem PutsOk.len (h : PutsOk K H kvs rows) : kvs.length = rows.length := Paired.length h
theorem key_inr (a b : Str) : ((Sum.inr a : Key) = Sum.inr b) ↔ a = b := ⟨fun h => Sum.inr.inj h, fun h => by rw [h]⟩
theorem PutsOk.get : ∀ {kvs : List (Key × V)} {rows : Rws}, PutsOk K H kvs rows → ∀ x : Str, (lookR rows x = none ∧ valV kvs (Sum.inr x) = none) ∨ ∃ t v, lookR rows x = some t ∧ valV kvs (Sum.inr x) = some v ∧ Den K H v t.data
  | [], [], _, x => .inl ⟨rfl, rfl⟩
  | (k, v) :: kr, (y, t) :: rr, .cons h r, x => by
    obtain ⟨e1, e2⟩ := h
    have e1 : k = Sum.inr y := e1
    subst e1
    by_cases hx : y = x
    · subst hx
      refine .inr ⟨t, v, ?_, ?_, e2⟩
      · simp [lookR]
      · simp [valV]
    · have ih := PutsOk.get r x
      have n1 : lookR ((y, t) :: rr) x = lookR rr x := by simp [lookR, hx]
      have n2 : valV ((Sum.inr y, v) :: kr) (Sum.inr x) = valV kr (Sum.inr x) := by simp [valV, hx]
      rw [n1, n2]
      exact ih
theorem PutsOk.any : ∀ {kvs : List (Key × V)} {rows : Rws}, PutsOk K H kvs rows → ∀ x : Str, (kvs.any fun kv => decide (kv.1 = Sum.inr x)) = rows.any fun r => decide (r.1 = x)
  | [], [], _, x => rfl
  | (k, v) :: kr, (y, t) :: rr, .cons h r, x => by
    have e1 : k = Sum.inr y := h.1
    subst e1
    rw [List.any_cons, List.any_cons, PutsOk.any r x]
    congr 1
    exact decide_eq_decide.mpr (key_inr y x)
theorem PutsOk.put (h : PutsOk K H kvs rows) {x : Str} {v : V} {t : Trm} (d : Den K H v t.data) : PutsOk K H (putK kvs (Sum.inr x) v) (putR rows x t) := by
  unfold putK putR
  rw [h.any x]
  split
  · rename_i hz0
    clear hz0
    induction kvs generalizing rows with
    | nil => cases rows with | nil => exact .nil | cons _ _ => cases h
    | cons p r ih =>
      cases rows with
      | nil => cases h
      | cons q m =>
        cases h with
        | cons e f =>
          refine .cons ?_ (ih f)
          dsimp only
          obtain ⟨e1, e2⟩ := e
          by_cases hx : q.1 = x
          · rw [if_pos hx, if_pos (by rw [e1, hx])]
            exact ⟨e1, d⟩
          · rw [if_neg hx, if_neg (by rw [e1]; exact fun z => hx (Sum.inr.inj z))]
            exact ⟨e1, e2⟩
  · rename_i hz0
    clear hz0
    induction kvs generalizing rows with
    | nil => cases rows with | nil => exact .cons ⟨rfl, d⟩ .nil | cons _ _ => cases h
    | cons p r ih =>
      cases rows with
      | nil => cases h
      | cons q m =>
        cases h with
        | cons e f => exact .cons e (ih f)
theorem PutsOk.mem : ∀ {kvs : List (Key × V)} {rows : Rws}, PutsOk K H kvs rows → ∀ {k : Key} {v : V}, (k, v) ∈ kvs → ∃ x t, (x, t) ∈ rows ∧ k = Sum.inr x ∧ Den K H v t.data
  | [], [], _, k, v, hm => by simp at hm
  | p :: kr, q :: rr, .cons h r, k, v, hm => by
    rcases List.mem_cons.mp hm with e | e
    · subst e
      exact ⟨q.1, q.2, by simp, h.1, h.2⟩
    · obtain ⟨x, t, h1, h2, h3⟩ := PutsOk.mem r e
      exact ⟨x, t, List.mem_cons_of_mem _ h1, h2, h3⟩
theorem look_mem : ∀ {rows : Rws} {x : Str} {t : Trm}, lookR rows x = some t → (x, t) ∈ rows
  | [], x, t, h => by simp [lookR] at h
  | (y, u) :: r, x, t, h => by
    by_cases hx : y = x
    · have : u = t := by simpa [lookR, hx] using h
      subst this hx
      exact List.mem_cons_self
    · exact List.mem_cons_of_mem _ (look_mem (by simpa [lookR, hx] using h))
theorem mem_look : ∀ {rows : Rws} {x : Str} {t : Trm}, (rows.map (·.1)).Nodup → (x, t) ∈ rows → lookR rows x = some t
  | [], x, t, _, h => by simp at h
  | (y, u) :: r, x, t, hn, h => by
    rw [List.map_cons, List.nodup_cons] at hn
    rcases List.mem_cons.mp h with e | e
    · cases e
      simp [lookR]
    · have hx : y ≠ x := fun z => hn.1 (by rw [z]; exact List.mem_map.mpr ⟨_, e, rfl⟩)
      have := mem_look hn.2 e
      simpa [lookR, hx] using this
theorem look_none {rows : Rws} {x : Str} (h : x ∉ rows.map (·.1)) : lookR rows x = none := by
  cases e : lookR rows x with
  | none => rfl
  | some t => exact absurd (List.mem_map.mpr ⟨_, look_mem e, rfl⟩) h
theorem any_iff {rows : Rws} {x : Str} : (rows.any fun r => decide (r.1 = x)) = true ↔ x ∈ rows.map (·.1) := by
  simp [List.any_eq_true]
theorem putR_new {rows : Rws} {x : Str} {t : Trm} (h : x ∉ rows.map (·.1)) : putR rows x t = rows ++ [(x, t)] := by
  unfold putR
  rw [if_neg (fun z => h (any_iff.mp z))]
theorem putR_keys {rows : Rws} {x : Str} {t : Trm} (h : x ∈ rows.map (·.1)) : (putR rows x t).map (·.1) = rows.map (·.1) := by
  unfold putR
  rw [if_pos (any_iff.mpr h), List.map_map]
  refine List.map_congr_left fun r _ => ?_
  show (if r.1 = x then (r.1, t) else r).1 = r.1
  split <;> rfl
theorem putR_nodup {rows : Rws} {x : Str} {t : Trm} (h : (rows.map (·.1)).Nodup) : ((putR rows x t).map (·.1)).Nodup := by
  by_cases hx : x ∈ rows.map (·.1)
  · rw [putR_keys hx]; exact h
  · rw [putR_new hx, List.map_append]
    refine List.nodup_append.mpr ⟨h, by simp, fun a ha b hb e => hx ?_⟩
    have : b = x := by simpa using hb
    rw [← this, ← e]
    exact ha
theorem look_put {rows : Rws} {x y : Str} {t : Trm} : lookR (putR rows x t) y = if y = x then some t else lookR rows y := by
  unfold putR
  split
  · rename_i h
    have hm := any_iff.mp h
    clear h
    induction rows with
    | nil => simp at hm
    | cons r m ih =>
      obtain ⟨k, u⟩ := r
      by_cases hk : k = x
      · subst hk
        by_cases hy : y = k
        · subst hy; simp [lookR]
        · rw [if_neg hy]
          have hy' : ¬ k = y := fun z => hy z.symm
          have e : lookR (((k, u) :: m).map fun r => if r.1 = k then (r.1, t) else r) y = lookR (m.map fun r => if r.1 = k then (r.1, t) else r) y := by simp [lookR, hy']
          have e2 : lookR ((k, u) :: m) y = lookR m y := by simp [lookR, hy']
          rw [e, e2]
          by_cases hm2 : k ∈ m.map (·.1)
          · rw [ih hm2, if_neg hy]
          · congr 1
            conv => rhs; rw [← List.map_id m]
            refine List.map_congr_left fun r hr => ?_
            rw [if_neg (fun z => hm2 (List.mem_map.mpr ⟨r, hr, z⟩))]
            rfl
      · have hm2 : x ∈ m.map (·.1) := by
          rcases List.mem_cons.mp hm with z | z
          · exact absurd z.symm hk
          · exact z
        by_cases hy : k = y
        · subst hy
          simp [lookR, hk]
        · have e : lookR (((k, u) :: m).map fun r => if r.1 = x then (r.1, t) else r) y = lookR (m.map fun r => if r.1 = x then (r.1, t) else r) y := by simp [lookR, hk, hy]
          have e2 : lookR ((k, u) :: m) y = lookR m y := by simp [lookR, hy]
          rw [e, e2]
          exact ih hm2
  · rename_i h
    have hm : x ∉ rows.map (·.1) := fun z => h (any_iff.mpr z)
    clear h
    induction rows with
    | nil =>
      by_cases hy : y = x
      · subst hy; simp [lookR]
      · have : ¬ x = y := fun z => hy z.symm
        simp [lookR, hy, this]
    | cons r m ih =>
      obtain ⟨k, u⟩ := r
      have hm2 : x ∉ m.map (·.1) := fun z => hm (List.mem_cons_of_mem _ z)
      by_cases hy : k = y
      · subst hy
        have : ¬ k = x := fun z => hm (by rw [← z]; simp)
        simp [lookR, this]
      · have e : lookR ((k, u) :: m ++ [(x, t)]) y = lookR (m ++ [(x, t)]) y := by simp [lookR, hy]
        have e2 : lookR ((k, u) :: m) y = lookR m y := by simp [lookR, hy]
        rw [e, e2]
        exact ih hm2
theorem eq_puts {Q : VK} {a b : Addr} {ka kb : List (Key × V)} {n : Bool} (ha : H a = some (.dK ka)) (hb : H b = some (.dK kb)) (pa : PutsOk K H ka rows) (pb : PutsOk K H kb rows) (hn : (rows.map (·.1)).Nodup) (hz : ∀ r ∈ rows, r.2.size ≤ 70) (k : Q (.bl (!n)) H) : dEqK K n (.ref a) (.ref b) H Q := by
  refine ⟨a, b, ka, kb, rfl, rfl, ha, hb, by rw [pa.len, pb.len], fun kk v hm => ?_, k⟩
  obtain ⟨x, t, h1, rfl, h3⟩ := pa.mem hm
  have e := mem_look hn h1
  rcases pb.get x with ⟨c1, c2⟩ | ⟨t', v', c1, c2, c3⟩
  · rw [e] at c1; cases c1
  · rw [e] at c1
    cases c1
    have := Trm.depth_le t
    have := hz _ h1
    have hs : t.size ≤ 70 := this
    exact ⟨v', t.data, c2, h3, c3, by omega⟩
end
end L2
set_option Elab.async false
set_option linter.all false
set_option maxRecDepth 100000
set_option maxHeartbeats 4000000
namespace My
open PySem PySem.Spec PyProof.Rows L2
local macro_rules | `(tactic| walk_at "stq") => `(tactic| first | refine tAsg_i ?_ | refine gName_i ?_ | refine tRet_i ?_ | refine tIfS_i ?_ | refine tNext_i ?_ | refine tDrop_i ?_ | refine mTest_i ?_ | refine mTrue_i ?_ | refine mTru_b ?_ | refine mB_i ?_ | refine tOp_i ?_ | refine tUn_i ?_ | refine mUn_i ?_ | refine m20_i ?_ | refine mAdd_i ?_ | refine mEq_i ?_ | refine mEq_s ?_ | refine mEq_b ?_ | refine mInS_i ?_ | (refine' mVar_i ?hv ?_; (case hv => with_unfolding_all rfl)) | refine tC_i ?_ | refine mChain_i ?_ | refine mAndV_i ?_ | refine mOrV_i ?_ | refine mNotV_i ?_ | refine tIf_i ?_ | refine tAnd_i ?_ | refine tOr_i ?_ | refine tNot_i ?_ | refine tCB_i ?_ | refine tCall0_i ?_ | refine tCons_i ?_ | refine tNil_i ?_ | refine tBM_i ?_ | refine tBM0_i ?_ | refine tTup_i ?_ | refine tLst_i ?_ | refine tSl_i ?_ | refine tNoPart_i ?_ | refine mPart_i ?_ | refine mI_i ?_ | refine is_str ?_ | refine is_bool ?_ | refine is_int ?_ | refine is_int_bool ?_ | refine mMin_i ?_ | refine isN_non ?_ | refine isN_ref ?_ | refine mInt_b ?_ | refine mMax_i ?_ | refine tDGet_i ?_ | refine tDGet2_i ?_ | refine sDPut_i ?_ | refine tDisp_i ?_ | refine tPairs_c ?_ | refine tPairs_n ?_ | refine iRng2_i ?_ | refine iRev_i ?_ | refine iEnum_i ?_ | refine iSeq_i ?_ | refine mAbs_i ?_ | refine gCons_i ?_ | refine gNil_i ?_ | refine tWhile_i ?_ | (refine' mAug_i ?hw ?_; (case hw => with_unfolding_all rfl)) | refine mIAdd_i ?_ | refine tFor_i ?_ | refine tRaise_i ?_ | refine tXMake_i ?_ | refine tTry_i ?_ | refine tXGet_i ?_ | refine tBInit_i ?_ | refine tXSet_i ?_ | refine tPar_i ?_ | refine tF3i_i ?_ | refine iZip_i ?_ | refine tFr_i ?_ | refine tF2_i ?_ | refine iSeq_i ?_ | refine iStr_i ?_ | refine iList_i ?_ | refine iTup_i ?_ | refine iRng1_i ?_ | refine tComp_i ?_ | (refine m2_i ?hc ?_; (case hc => first | (show (0 : Int) < _; decide) | exact cdiv_i (by decide) (by decide))))
local macro_rules | `(tactic| walk_at "stp") => `(tactic| repeat (with_reducible first | refine tSeq_i ?_ | walk_at "stq"))
local macro_rules | `(tactic| walk_at "stm") => `(tactic| repeat (with_reducible walk_at "stq"))
noncomputable def top (i : Nat) : Stmt := PySem.Challenge.pw_goaltrail_k21_written_out.main.body.getD i (.Pass ⟨0, 0, 0, 0⟩)
noncomputable abbrev s_TrailError_init : Stmt := inClass (top 1) 0
noncomputable abbrev s_NotLayered_init : Stmt := inClass (top 7) 0
noncomputable abbrev s_Fault_init : Stmt := inClass (top 8) 0
noncomputable abbrev s_app : Stmt := top 11
noncomputable abbrev s_walked : Stmt := top 13
noncomputable abbrev s_parts_up_to : Stmt := top 14
noncomputable abbrev s_written_out : Stmt := top 15
noncomputable abbrev s_put_in : Stmt := top 16
noncomputable abbrev s_l_cell : Stmt := top 18
noncomputable abbrev s_l_names : Stmt := top 19
noncomputable abbrev s_l_number : Stmt := top 20
noncomputable abbrev s_l_sign : Stmt := top 21
noncomputable abbrev s_l_term : Stmt := top 22
noncomputable abbrev s_l_puts : Stmt := top 23
noncomputable abbrev s_l_size : Stmt := top 24
noncomputable abbrev s_l_sizes : Stmt := top 25
noncomputable abbrev s_l_read : Stmt := top 26
noncomputable abbrev s_l_is_term : Stmt := top 27
noncomputable abbrev s_l_refused : Stmt := top 28
noncomputable abbrev s_l_written : Stmt := top 29
noncomputable abbrev s_l_wrapped : Stmt := top 30
noncomputable abbrev s_law : Stmt := top 31
theorem sc_TrailError_init : FnScope ["self", "words", "row"] ["self", "words", "row"] (defScope s_TrailError_init) := ⟨rfl, rfl, rfl, by decide +kernel, rfl, by decide +kernel, by decide +kernel⟩
theorem sc_app : FnScope ["sign", "kids"] ["sign", "kids"] (defScope s_app) := ⟨rfl, rfl, rfl, by decide +kernel, rfl, by decide +kernel, by decide +kernel⟩
theorem sc_walked : FnScope ["term", "puts", "at"] ["term", "puts"] (defScope s_walked) := ⟨rfl, rfl, rfl, by decide +kernel, rfl, by decide +kernel, by decide +kernel⟩
theorem sc_parts_up_to : FnScope ["term", "puts", "most", "count", "todo", "part"] ["term", "puts", "most"] (defScope s_parts_up_to) := ⟨rfl, rfl, rfl, by decide +kernel, rfl, by decide +kernel, by decide +kernel⟩
theorem sc_written_out : FnScope ["term", "puts"] ["term", "puts"] (defScope s_written_out) := ⟨rfl, rfl, rfl, by decide +kernel, rfl, by decide +kernel, by decide +kernel⟩
theorem sc_put_in : FnScope ["term", "puts", "part"] ["term", "puts"] (defScope s_put_in) := ⟨rfl, rfl, rfl, by decide +kernel, rfl, by decide +kernel, by decide +kernel⟩
theorem sc_l_cell : FnScope ["_law_script", "_law_k", "_law_number_here"] ["_law_script", "_law_k"] (defScope s_l_cell) := ⟨rfl, rfl, rfl, by decide +kernel, rfl, by decide +kernel, by decide +kernel⟩
theorem sc_l_names : FnScope ["_law_cell_here", "_law_many", "_law_first", "_law_signs", "_law_size_here", "_law_at", "_law_names_here", "_law_j", "_law_name", "_law_k", "_law_place"] ["_law_cell_here", "_law_many", "_law_first"] (defScope s_l_names) := ⟨rfl, rfl, rfl, by decide +kernel, rfl, by decide +kernel, by decide +kernel⟩
theorem sc_l_number : FnScope ["_law_cell_here"] ["_law_cell_here"] (defScope s_l_number) := ⟨rfl, rfl, rfl, by decide +kernel, rfl, by decide +kernel, by decide +kernel⟩
theorem sc_l_sign : FnScope ["_law_cell_here", "_law_many", "_law_words"] ["_law_cell_here", "_law_many", "_law_words"] (defScope s_l_sign) := ⟨rfl, rfl, rfl, by decide +kernel, rfl, by decide +kernel, by decide +kernel⟩
theorem sc_l_term : FnScope ["_law_cells", "_law_names_here", "_law_words", "_law_left", "_law_cell_here", "_law_many", "_law_kids"] ["_law_cells", "_law_names_here", "_law_words"] (defScope s_l_term) := ⟨rfl, rfl, rfl, by decide +kernel, rfl, by decide +kernel, by decide +kernel⟩
theorem sc_l_puts : FnScope ["_law_script", "_law_names_here", "_law_words", "_law_start", "_law_rows", "_law_j", "_law_cell_here", "_law_later", "_law_cells"] ["_law_script", "_law_names_here", "_law_words", "_law_start"] (defScope s_l_puts) := ⟨rfl, rfl, rfl, by decide +kernel, rfl, by decide +kernel, by decide +kernel⟩
theorem sc_l_size : FnScope ["_law_term_here", "_law_sizes_here"] ["_law_term_here", "_law_sizes_here"] (defScope s_l_size) := ⟨rfl, rfl, rfl, by decide +kernel, rfl, by decide +kernel, by decide +kernel⟩
theorem sc_l_sizes : FnScope ["_law_names_here", "_law_puts_here", "_law_sizes_here", "_law_name"] ["_law_names_here", "_law_puts_here"] (defScope s_l_sizes) := ⟨rfl, rfl, rfl, by decide +kernel, rfl, by decide +kernel, by decide +kernel⟩
theorem sc_l_read : FnScope ["_law_term_here", "_law_puts_here"] ["_law_term_here", "_law_puts_here"] (defScope s_l_read) := ⟨rfl, rfl, rfl, by decide +kernel, rfl, by decide +kernel, by decide +kernel⟩
theorem sc_l_is_term : FnScope ["_law_thing", "_law_left", "_law_one"] ["_law_thing"] (defScope s_l_is_term) := ⟨rfl, rfl, rfl, by decide +kernel, rfl, by decide +kernel, by decide +kernel⟩
theorem sc_l_refused : FnScope ["_law_term_here", "_law_puts_here", "_law_kinds", "e"] ["_law_term_here", "_law_puts_here"] (defScope s_l_refused) := ⟨rfl, rfl, rfl, by decide +kernel, rfl, by decide +kernel, by decide +kernel⟩
theorem sc_l_written : FnScope ["_law_term_here", "_law_puts_here", "_law_names_here", "_law_handed", "_law_found"] ["_law_term_here", "_law_puts_here", "_law_names_here"] (defScope s_l_written) := ⟨rfl, rfl, rfl, by decide +kernel, rfl, by decide +kernel, by decide +kernel⟩
theorem sc_l_wrapped : FnScope ["_law_term_here", "_law_puts_here", "_law_names_here", "_law_words", "_law_cell_here", "_law_size_here", "_law_due", "_law_kids"] ["_law_term_here", "_law_puts_here", "_law_names_here", "_law_words", "_law_cell_here"] (defScope s_l_wrapped) := ⟨rfl, rfl, rfl, by decide +kernel, rfl, by decide +kernel, by decide +kernel⟩
theorem sc_law : FnScope ["_law_script", "_law_names_here", "_law_words", "_law_puts_here", "_law_cells", "_law_term_here", "_law_later"] ["_law_script"] (defScope s_law) := ⟨rfl, rfl, rfl, by decide +kernel, rfl, by decide +kernel, by decide +kernel⟩
set_option genInjectivity false in
structure Ad where
  k_TrailError : Addr
  k_NoText : Addr
  k_NoSign : Addr
  k_NoRule : Addr
  k_Big : Addr
  k_HasKeep : Addr
  k_NotLayered : Addr
  k_Fault : Addr
  a_TrailError_init : Addr
  d_TrailError_init : FuncData
  v_TrailError_init : Addr
  w_TrailError_init_0 : Tok
  a_NotLayered_init : Addr
  d_NotLayered_init : FuncData
  v_NotLayered_init : Addr
  w_NotLayered_init_0 : Tok
  a_Fault_init : Addr
  d_Fault_init : FuncData
  v_Fault_init : Addr
  w_Fault_init_0 : Tok
  a_app : Addr
  d_app : FuncData
  a_walked : Addr
  d_walked : FuncData
  a_parts_up_to : Addr
  d_parts_up_to : FuncData
  a_written_out : Addr
  d_written_out : FuncData
  a_put_in : Addr
  d_put_in : FuncData
  a_l_cell : Addr
  d_l_cell : FuncData
  a_l_names : Addr
  d_l_names : FuncData
  a_l_number : Addr
  d_l_number : FuncData
  a_l_sign : Addr
  d_l_sign : FuncData
  a_l_term : Addr
  d_l_term : FuncData
  a_l_puts : Addr
  d_l_puts : FuncData
  a_l_size : Addr
  d_l_size : FuncData
  a_l_sizes : Addr
  d_l_sizes : FuncData
  a_l_read : Addr
  d_l_read : FuncData
  a_l_is_term : Addr
  d_l_is_term : FuncData
  a_l_refused : Addr
  d_l_refused : FuncData
  a_l_written : Addr
  d_l_written : FuncData
  a_l_wrapped : Addr
  d_l_wrapped : FuncData
  a_law : Addr
  d_law : FuncData
  t_MOST_PARTS : Tok
structure Txt (K : PySem.W.Frag) (mg : Str → Option Value) (t : Ad) : Prop where
  m_TrailError : mg "TrailError" = some (.ref t.k_TrailError)
  x_TrailError : XCls K t.k_TrailError [.type "ValueError", .type "Exception", .type "BaseException", .type "object"]
  u_TrailError : XUp [.type "ValueError", .type "Exception", .type "BaseException", .type "object"]
  at_TrailError : XAttr K t.k_TrailError
  no_TrailError_row : NoAttr K t.k_TrailError "row"
  no_TrailError_ring : NoAttr K t.k_TrailError "ring"
  no_TrailError_word : NoAttr K t.k_TrailError "word"
  mk_TrailError : XMk K t.k_TrailError [.type "ValueError", .type "Exception", .type "BaseException", .type "object"] t.a_TrailError_init
  cm_TrailError : XClsM K t.k_TrailError "__init__" t.a_TrailError_init
  m_NoText : mg "NoText" = some (.ref t.k_NoText)
  x_NoText : XCls K t.k_NoText [.ref t.k_TrailError, .type "ValueError", .type "Exception", .type "BaseException", .type "object"]
  u_NoText : XUp [.ref t.k_TrailError, .type "ValueError", .type "Exception", .type "BaseException", .type "object"]
  at_NoText : XAttr K t.k_NoText
  no_NoText_row : NoAttr K t.k_NoText "row"
  no_NoText_ring : NoAttr K t.k_NoText "ring"
  no_NoText_word : NoAttr K t.k_NoText "word"
  mk_NoText : XMk K t.k_NoText [.ref t.k_TrailError, .type "ValueError", .type "Exception", .type "BaseException", .type "object"] t.a_TrailError_init
  m_NoSign : mg "NoSign" = some (.ref t.k_NoSign)
  x_NoSign : XCls K t.k_NoSign [.ref t.k_TrailError, .type "ValueError", .type "Exception", .type "BaseException", .type "object"]
  u_NoSign : XUp [.ref t.k_TrailError, .type "ValueError", .type "Exception", .type "BaseException", .type "object"]
  at_NoSign : XAttr K t.k_NoSign
  no_NoSign_row : NoAttr K t.k_NoSign "row"
  no_NoSign_ring : NoAttr K t.k_NoSign "ring"
  no_NoSign_word : NoAttr K t.k_NoSign "word"
  mk_NoSign : XMk K t.k_NoSign [.ref t.k_TrailError, .type "ValueError", .type "Exception", .type "BaseException", .type "object"] t.a_TrailError_init
  m_NoRule : mg "NoRule" = some (.ref t.k_NoRule)
  x_NoRule : XCls K t.k_NoRule [.ref t.k_TrailError, .type "ValueError", .type "Exception", .type "BaseException", .type "object"]
  u_NoRule : XUp [.ref t.k_TrailError, .type "ValueError", .type "Exception", .type "BaseException", .type "object"]
  at_NoRule : XAttr K t.k_NoRule
  no_NoRule_row : NoAttr K t.k_NoRule "row"
  no_NoRule_ring : NoAttr K t.k_NoRule "ring"
  no_NoRule_word : NoAttr K t.k_NoRule "word"
  mk_NoRule : XMk K t.k_NoRule [.ref t.k_TrailError, .type "ValueError", .type "Exception", .type "BaseException", .type "object"] t.a_TrailError_init
  m_Big : mg "Big" = some (.ref t.k_Big)
  x_Big : XCls K t.k_Big [.ref t.k_TrailError, .type "ValueError", .type "Exception", .type "BaseException", .type "object"]
  u_Big : XUp [.ref t.k_TrailError, .type "ValueError", .type "Exception", .type "BaseException", .type "object"]
  at_Big : XAttr K t.k_Big
  no_Big_row : NoAttr K t.k_Big "row"
  no_Big_ring : NoAttr K t.k_Big "ring"
  no_Big_word : NoAttr K t.k_Big "word"
  mk_Big : XMk K t.k_Big [.ref t.k_TrailError, .type "ValueError", .type "Exception", .type "BaseException", .type "object"] t.a_TrailError_init
  is_Big : XIs K t.k_Big
  iz_Big_Big : PySem.W.kitOne K (.ref t.k_Big) (.ref t.k_Big) = some true
  iz_Big_ValueError : PySem.W.kitOne K (.ref t.k_Big) (.type "ValueError") = some true
  iy_Big_Fault_HasKeep_NoRule : PySem.W.kitAny K (.ref t.k_Big) [.ref t.k_Fault, .ref t.k_HasKeep, .ref t.k_NoRule] = some false
  iy_Big_NoSign_NoText_NotLayered : PySem.W.kitAny K (.ref t.k_Big) [.ref t.k_NoSign, .ref t.k_NoText, .ref t.k_NotLayered] = some false
  m_HasKeep : mg "HasKeep" = some (.ref t.k_HasKeep)
  x_HasKeep : XCls K t.k_HasKeep [.ref t.k_TrailError, .type "ValueError", .type "Exception", .type "BaseException", .type "object"]
  u_HasKeep : XUp [.ref t.k_TrailError, .type "ValueError", .type "Exception", .type "BaseException", .type "object"]
  at_HasKeep : XAttr K t.k_HasKeep
  no_HasKeep_row : NoAttr K t.k_HasKeep "row"
  no_HasKeep_ring : NoAttr K t.k_HasKeep "ring"
  no_HasKeep_word : NoAttr K t.k_HasKeep "word"
  mk_HasKeep : XMk K t.k_HasKeep [.ref t.k_TrailError, .type "ValueError", .type "Exception", .type "BaseException", .type "object"] t.a_TrailError_init
  m_NotLayered : mg "NotLayered" = some (.ref t.k_NotLayered)
  x_NotLayered : XCls K t.k_NotLayered [.ref t.k_TrailError, .type "ValueError", .type "Exception", .type "BaseException", .type "object"]
  u_NotLayered : XUp [.ref t.k_TrailError, .type "ValueError", .type "Exception", .type "BaseException", .type "object"]
  at_NotLayered : XAttr K t.k_NotLayered
  no_NotLayered_row : NoAttr K t.k_NotLayered "row"
  no_NotLayered_ring : NoAttr K t.k_NotLayered "ring"
  no_NotLayered_word : NoAttr K t.k_NotLayered "word"
  mk_NotLayered : XMk K t.k_NotLayered [.ref t.k_TrailError, .type "ValueError", .type "Exception", .type "BaseException", .type "object"] t.a_NotLayered_init
  m_Fault : mg "Fault" = some (.ref t.k_Fault)
  x_Fault : XCls K t.k_Fault [.ref t.k_TrailError, .type "ValueError", .type "Exception", .type "BaseException", .type "object"]
  u_Fault : XUp [.ref t.k_TrailError, .type "ValueError", .type "Exception", .type "BaseException", .type "object"]
  at_Fault : XAttr K t.k_Fault
  no_Fault_row : NoAttr K t.k_Fault "row"
  no_Fault_ring : NoAttr K t.k_Fault "ring"
  no_Fault_word : NoAttr K t.k_Fault "word"
  mk_Fault : XMk K t.k_Fault [.ref t.k_TrailError, .type "ValueError", .type "Exception", .type "BaseException", .type "object"] t.a_Fault_init
  F_TrailError_init : FunD K "__init__" "TrailError.__init__" s_TrailError_init t.a_TrailError_init t.d_TrailError_init (.ref t.v_TrailError_init)
  b_TrailError_init : Binds K t.d_TrailError_init ["self", "words", "row"] []
  bd_TrailError_init : Binds K t.d_TrailError_init ["self", "words", "row"] [.int 0 t.w_TrailError_init_0]
  F_NotLayered_init : FunD K "__init__" "NotLayered.__init__" s_NotLayered_init t.a_NotLayered_init t.d_NotLayered_init (.ref t.v_NotLayered_init)
  b_NotLayered_init : Binds K t.d_NotLayered_init ["self", "ring", "row"] []
  bd_NotLayered_init : Binds K t.d_NotLayered_init ["self", "ring", "row"] [.int 0 t.w_NotLayered_init_0]
  F_Fault_init : FunD K "__init__" "Fault.__init__" s_Fault_init t.a_Fault_init t.d_Fault_init (.ref t.v_Fault_init)
  b_Fault_init : Binds K t.d_Fault_init ["self", "word", "row"] []
  bd_Fault_init : Binds K t.d_Fault_init ["self", "word", "row"] [.int 0 t.w_Fault_init_0]
  F_app : Fun K "app" "app" s_app t.a_app t.d_app
  b_app : Binds K t.d_app ["sign", "kids"] []
  m_app : mg "app" = some (.ref t.a_app)
  F_walked : Fun K "walked" "walked" s_walked t.a_walked t.d_walked
  b_walked : Binds K t.d_walked ["term", "puts"] []
  m_walked : mg "walked" = some (.ref t.a_walked)
  F_parts_up_to : Fun K "parts_up_to" "parts_up_to" s_parts_up_to t.a_parts_up_to t.d_parts_up_to
  b_parts_up_to : Binds K t.d_parts_up_to ["term", "puts", "most"] []
  m_parts_up_to : mg "parts_up_to" = some (.ref t.a_parts_up_to)
  F_written_out : Fun K "written_out" "written_out" s_written_out t.a_written_out t.d_written_out
  b_written_out : Binds K t.d_written_out ["term", "puts"] []
  m_written_out : mg "written_out" = some (.ref t.a_written_out)
  F_put_in : Fun K "put_in" "put_in" s_put_in t.a_put_in t.d_put_in
  b_put_in : Binds K t.d_put_in ["term", "puts"] []
  m_put_in : mg "put_in" = some (.ref t.a_put_in)
  F_l_cell : Fun K "_law_cell" "_law_cell" s_l_cell t.a_l_cell t.d_l_cell
  b_l_cell : Binds K t.d_l_cell ["_law_script", "_law_k"] []
  m_l_cell : mg "_law_cell" = some (.ref t.a_l_cell)
  F_l_names : Fun K "_law_names" "_law_names" s_l_names t.a_l_names t.d_l_names
  b_l_names : Binds K t.d_l_names ["_law_cell_here", "_law_many", "_law_first"] []
  m_l_names : mg "_law_names" = some (.ref t.a_l_names)
  F_l_number : Fun K "_law_number" "_law_number" s_l_number t.a_l_number t.d_l_number
  b_l_number : Binds K t.d_l_number ["_law_cell_here"] []
  m_l_number : mg "_law_number" = some (.ref t.a_l_number)
  F_l_sign : Fun K "_law_sign" "_law_sign" s_l_sign t.a_l_sign t.d_l_sign
  b_l_sign : Binds K t.d_l_sign ["_law_cell_here", "_law_many", "_law_words"] []
  m_l_sign : mg "_law_sign" = some (.ref t.a_l_sign)
  F_l_term : Fun K "_law_term" "_law_term" s_l_term t.a_l_term t.d_l_term
  b_l_term : Binds K t.d_l_term ["_law_cells", "_law_names_here", "_law_words"] []
  m_l_term : mg "_law_term" = some (.ref t.a_l_term)
  F_l_puts : Fun K "_law_puts" "_law_puts" s_l_puts t.a_l_puts t.d_l_puts
  b_l_puts : Binds K t.d_l_puts ["_law_script", "_law_names_here", "_law_words", "_law_start"] []
  m_l_puts : mg "_law_puts" = some (.ref t.a_l_puts)
  F_l_size : Fun K "_law_size" "_law_size" s_l_size t.a_l_size t.d_l_size
  b_l_size : Binds K t.d_l_size ["_law_term_here", "_law_sizes_here"] []
  m_l_size : mg "_law_size" = some (.ref t.a_l_size)
  F_l_sizes : Fun K "_law_sizes" "_law_sizes" s_l_sizes t.a_l_sizes t.d_l_sizes
  b_l_sizes : Binds K t.d_l_sizes ["_law_names_here", "_law_puts_here"] []
  m_l_sizes : mg "_law_sizes" = some (.ref t.a_l_sizes)
  F_l_read : Fun K "_law_read" "_law_read" s_l_read t.a_l_read t.d_l_read
  b_l_read : Binds K t.d_l_read ["_law_term_here", "_law_puts_here"] []
  m_l_read : mg "_law_read" = some (.ref t.a_l_read)
  F_l_is_term : Fun K "_law_is_term" "_law_is_term" s_l_is_term t.a_l_is_term t.d_l_is_term
  b_l_is_term : Binds K t.d_l_is_term ["_law_thing"] []
  m_l_is_term : mg "_law_is_term" = some (.ref t.a_l_is_term)
  F_l_refused : Fun K "_law_refused" "_law_refused" s_l_refused t.a_l_refused t.d_l_refused
  b_l_refused : Binds K t.d_l_refused ["_law_term_here", "_law_puts_here"] []
  m_l_refused : mg "_law_refused" = some (.ref t.a_l_refused)
  F_l_written : Fun K "_law_written" "_law_written" s_l_written t.a_l_written t.d_l_written
  b_l_written : Binds K t.d_l_written ["_law_term_here", "_law_puts_here", "_law_names_here"] []
  m_l_written : mg "_law_written" = some (.ref t.a_l_written)
  F_l_wrapped : Fun K "_law_wrapped" "_law_wrapped" s_l_wrapped t.a_l_wrapped t.d_l_wrapped
  b_l_wrapped : Binds K t.d_l_wrapped ["_law_term_here", "_law_puts_here", "_law_names_here", "_law_words", "_law_cell_here"] []
  m_l_wrapped : mg "_law_wrapped" = some (.ref t.a_l_wrapped)
  F_law : Fun K "law" "law" s_law t.a_law t.d_law
  b_law : Binds K t.d_law ["_law_script"] []
  m_law : mg "law" = some (.ref t.a_law)
  n_ValueError : mg "ValueError" = none
  n_bool : mg "bool" = none
  n_dict : mg "dict" = none
  n_int : mg "int" = none
  n_isinstance : mg "isinstance" = none
  n_len : mg "len" = none
  n_list : mg "list" = none
  n_min : mg "min" = none
  n_range : mg "range" = none
  n_reversed : mg "reversed" = none
  n_str : mg "str" = none
  n_sum : mg "sum" = none
  n_tuple : mg "tuple" = none
  m_MOST_PARTS : mg "MOST_PARTS" = some (.int 40 t.t_MOST_PARTS)
theorem em_eq : Str.ofString "" = ⟨([] : List Nat).toArray⟩ := by decide +kernel
theorem cell_bits {B : Nat} {x c : Int} (h : x.natAbs < 2 ^ B) (g : c.natAbs < 8388608) : (c + 31337 * x).natAbs < 2 ^ (B + 24) := by
  have h1 := Int.natAbs_add_le c (31337 * x)
  have h2 : (31337 * x).natAbs = 31337 * x.natAbs := Int.natAbs_mul 31337 x
  rw [Nat.pow_add]
  have h3 := Nat.two_pow_pos B
  generalize 2 ^ B = M at *
  rw [h2] at h1
  have h4 : M * 2 ^ 24 = 16777216 * M := by rw [Nat.mul_comm]
  omega
noncomputable abbrev sp_l_cell (K : PySem.W.Frag) : Sp := fun vs H Q _ => match vs with | [.ref a, .int k] => ∃ ns : List Int, SqL K H a (ns.map V.int) ∧ (∀ n ∈ ns, Builtin.Int.intBits n ≤ 1048576) ∧ 0 ≤ k ∧ k ≤ 1000 ∧ ∀ v, Q (.int v) H | _ => False
noncomputable abbrev sp_l_number : Sp := fun vs H Q _ => match vs with | [.int c] => ∀ v, Q (.int v) H | _ => False
noncomputable abbrev sp_l_names (K : PySem.W.Frag) : Sp := fun vs H Q _ => match vs with | [.int c, .int m, .str first] => 1 ≤ m ∧ m ≤ 9 ∧ first.length = 26 ∧ first.cps.toList.Nodup ∧ ∀ (p : Addr) (xs : List Str) (H' : Hp), xs.length = m.toNat → xs.Nodup → (∀ x ∈ xs, x.length ≤ 30) → Same H H' → H' p = some (.lst (xs.map V.str)) → Q (.ref p) H' | _ => False
noncomputable abbrev sp_l_sign (K : PySem.W.Frag) : Sp := fun vs H Q _ => match vs with | [.int c, .int m, .ref wp] => ∃ ws : List Str, SqL K H wp (ws.map V.str) ∧ 1 ≤ ws.length ∧ ws.length ≤ 10 ∧ (∀ x ∈ ws, x.length ≤ 30) ∧ ∀ (x : Str) (H' : Hp), x.length ≤ 30 → Same H H' → Q (.str x) H' | _ => False
mutual
noncomputable def vin (xs : List Str) : Trm → Prop
  | .num _ => True
  | .any x => x ∈ xs
  | .app _ ks => vinL xs ks
noncomputable def vinL (xs : List Str) : List Trm → Prop
  | [] => True
  | t :: r => vin xs t ∧ vinL xs r
end
theorem vinL_iff {xs : List Str} : ∀ {ts : List Trm}, vinL xs ts ↔ ∀ t ∈ ts, vin xs t
  | [] => ⟨fun _ _ h => by simp at h, fun _ => by simp [vinL]⟩
  | t :: r => by
    simp only [vinL, List.mem_cons, forall_eq_or_imp]
    exact and_congr_right fun _ => vinL_iff
noncomputable abbrev sp_l_term (K : PySem.W.Frag) : Sp := fun vs H Q _ => match vs with | [.ref cp, .ref np, .ref wp] => ∃ (cs : List Int) (xs ws : List Str), SqL K H cp (cs.map V.int) ∧ cs.length ≤ 40 ∧ SqL K H np (xs.map V.str) ∧ 1 ≤ xs.length ∧ xs.length ≤ 20 ∧ SqL K H wp (ws.map V.str) ∧ 1 ≤ ws.length ∧ ws.length ≤ 10 ∧ (∀ x ∈ ws, x.length ≤ 30) ∧ ∀ (x : V) (t : Trm) (H' : Hp), Same H H' → Den K H' x t.data → vin xs t → t.size ≤ 2 * cs.length + 1 → Q x H' | _ => False
theorem nodup_range_map {f : Nat → Str} : ∀ (m : Nat), (∀ i j, i < m → j < m → f i = f j → i = j) → ((List.range m).map f).Nodup
  | 0, _ => by simp
  | m + 1, h => by
    rw [List.range_succ, List.map_append]
    refine List.nodup_append.mpr ⟨nodup_range_map m fun i j hi hj e => h i j (by omega) (by omega) e, by simp, fun a ha b hb e => ?_⟩
    obtain ⟨i, hi, rfl⟩ := List.mem_map.mp ha
    have hb : b = f m := by simpa using hb
    have := h i m (by have := List.mem_range.mp hi; omega) (by omega) (e.trans hb)
    have := List.mem_range.mp hi
    omega
theorem tail_nodup : tailS.cps.toList.Nodup := by decide +kernel
theorem getD_inj {l : List Nat} (h : l.Nodup) {i j : Nat} (hi : i < l.length) (hj : j < l.length) (e : l.getD i 0 = l.getD j 0) : i = j := by
  rw [List.getD_eq_getElem?_getD, List.getD_eq_getElem?_getD, List.getElem?_eq_getElem hi, List.getElem?_eq_getElem hj] at e
  have e : l[i] = l[j] := e
  have hp := List.pairwise_iff_getElem.mp h
  rcases Nat.lt_trichotomy i j with z | z | z
  · exact absurd e (hp i j hi hj z)
  · exact z
  · exact absurd e.symm (hp j i hj hi z)
noncomputable def plc (c : Int) (at_ k j : Nat) : Int := c / (7 * (k : Int) + 11) + k + (j : Int) * (if k = at_ then 1 else 0)
noncomputable def chN (c : Int) (first : List Nat) (at_ : Nat) (j k : Nat) : Nat := if k = 0 then first.getD (plc c at_ k j % 26).toNat 0 else tailS.cps.toList.getD (plc c at_ k j % 62).toNat 0
noncomputable def nm3 (c : Int) (first : List Nat) (at_ size : Nat) (j : Nat) : Str := ⟨((List.range size).map (chN c first at_ j)).toArray⟩
theorem st_inj' {x y : List Nat} (h : (⟨x.toArray⟩ : Str) = ⟨y.toArray⟩) : x = y := by
  have h := congrArg (fun s : Str => s.cps.toList) h
  simpa using h
theorem nm3_inj {c : Int} {first : List Nat} {at_ size i j : Nat} (hf : first.Nodup) (hl : first.length = 26) (ha : at_ < size) (hi : i < 9) (hj : j < 9) (e : nm3 c first at_ size i = nm3 c first at_ size j) : i = j := by
  have e := congrArg (fun l => l[at_]?) (st_inj' e)
  simp only [List.getElem?_map, List.getElem?_range ha, Option.map_some, Option.some.injEq] at e
  have l62 : tailS.cps.toList.length = 62 := by decide +kernel
  unfold chN plc at e
  rw [if_pos rfl] at e
  by_cases h0 : at_ = 0
  · rw [if_pos h0, if_pos h0] at e
    have := getD_inj hf (by omega) (by omega) e
    omega
  · rw [if_neg h0, if_neg h0] at e
    have := getD_inj tail_nodup (by omega) (by omega) e
    omega
theorem atI_getD {l : List Nat} {i : Int} (h0 : 0 ≤ i) (h1 : i < (l.length : Int)) : atI l i = some (l.getD i.toNat 0) := by
  obtain ⟨v, e1, e2⟩ := atI_lt h0 h1
  rw [e1, List.getD_eq_getElem?_getD, e2]
  rfl
theorem strs_at {xs : List Str} {i : Int} {v : V} (h : atI (xs.map V.str) i = some v) : ∃ x, v = .str x ∧ x ∈ xs := by
  have := atI_mem h
  obtain ⟨x, hx, rfl⟩ := List.mem_map.mp this
  exact ⟨x, rfl, hx⟩
theorem sIx_lo (n : Nat) (m : Int) (h : 0 ≤ m) : HT.sIx n 0 (some m) = min m.toNat n := by rw [← sIx_to n m h]; rfl
theorem cut_to (us : List V) (m : Int) (h : 0 ≤ m) : cutV us none (some m) = us.take m.toNat := by
  unfold cutV
  rw [sIx_none, sIx_to _ _ h, List.drop_zero, Nat.sub_zero]
  by_cases hm : m.toNat ≤ us.length
  · rw [Nat.min_eq_left hm]
  · rw [Nat.min_eq_right (by omega), List.take_length, List.take_of_length_le (by omega)]
theorem cut_from (us : List V) (m : Int) (h : 0 ≤ m) : cutV us (some m) none = us.drop m.toNat := by
  unfold cutV
  rw [sIx_none, sIx_lo _ _ h]
  by_cases hm : m.toNat ≤ us.length
  · rw [Nat.min_eq_left hm, List.take_of_length_le (by rw [List.length_drop]; omega)]
  · rw [Nat.min_eq_right (by omega), List.drop_length, List.drop_of_length_le (by omega)]
    simp
theorem dataL_take (ts : List Trm) (n : Nat) : (Trm.dataL ts).take n = Trm.dataL (ts.take n) := by rw [Trm.dataL_map, Trm.dataL_map, List.map_take]
theorem dataL_drop (ts : List Trm) (n : Nat) : (Trm.dataL ts).drop n = Trm.dataL (ts.drop n) := by rw [Trm.dataL_map, Trm.dataL_map, List.map_drop]
theorem dataL_app (a b : List Trm) : Trm.dataL (a ++ b) = Trm.dataL a ++ Trm.dataL b := by rw [Trm.dataL_map, Trm.dataL_map, Trm.dataL_map, List.map_append]
theorem sizeL_cut (ts : List Trm) (n : Nat) : Trm.sizeL (ts.take n) + Trm.sizeL (ts.drop n) = Trm.sizeL ts := by rw [← Trm.sizeL_app, List.take_append_drop]
theorem none_back {H H' : Hp} {p : Addr} (s : Same H H') (h : H' p = none) : H p = none := by
  cases e : H p with
  | none => rfl
  | some o => rw [s _ _ e] at h; cases h
structure LeftOk (K : PySem.W.Frag) (H : Hp) (us : List V) (xs : List Str) (ts : List Trm) : Prop where
  den : DenL K H us (Trm.dataL ts)
  vs : ∀ t ∈ ts, vin xs t
theorem LeftOk.len {K : PySem.W.Frag} {H : Hp} {us : List V} {xs : List Str} {ts : List Trm} (h : LeftOk K H us xs ts) : us.length = ts.length := by
  have := h.den.length
  rw [Trm.dataL_map, List.length_map] at this
  exact this
theorem LeftOk.mono {K : PySem.W.Frag} {H H' : Hp} {us : List V} {xs : List Str} {ts : List Trm} (h : LeftOk K H us xs ts) (s : Same H H') : LeftOk K H' us xs ts := ⟨h.den.mono s, h.vs⟩
theorem LeftOk.snoc {K : PySem.W.Frag} {H : Hp} {us : List V} {xs : List Str} {ts : List Trm} {u : V} {t : Trm} (h : LeftOk K H us xs ts) (d : Den K H u t.data) (v : vin xs t) : LeftOk K H (us ++ [u]) xs (ts ++ [t]) := by
  refine ⟨?_, fun y hy => ?_⟩
  · rw [dataL_app]
    exact h.den.append (.cons d .nil)
  · rcases List.mem_append.mp hy with z | z
    · exact h.vs y z
    · rw [List.mem_singleton.mp z]; exact v
theorem LeftOk.take {K : PySem.W.Frag} {H : Hp} {us : List V} {xs : List Str} {ts : List Trm} (h : LeftOk K H us xs ts) (n : Nat) : LeftOk K H (us.take n) xs (ts.take n) := ⟨by rw [← dataL_take]; exact h.den.take n, fun t ht => h.vs t (List.mem_of_mem_take ht)⟩
theorem LeftOk.drop {K : PySem.W.Frag} {H : Hp} {us : List V} {xs : List Str} {ts : List Trm} (h : LeftOk K H us xs ts) (n : Nat) : LeftOk K H (us.drop n) xs (ts.drop n) := ⟨by rw [← dataL_drop]; exact h.den.drop n, fun t ht => h.vs t (List.mem_of_mem_drop ht)⟩
section
variable {P : Program} {w : World} {K : PySem.W.Frag} {mg : Str → Option Value} {base : Heap} {t : Ad}
theorem ok_TrailError_init (T : Txt K mg t)  : FnOk P w K mg base CX0 1 t.a_TrailError_init t.d_TrailError_init ["self", "words", "row"] (sp_TrailError_init K) := by
  refine T.F_TrailError_init.ok sc_TrailError_init (fun vs H Q E h => ?_) (fun cdv A outer s H vs Q E hr h => ?_)
  · unfold sp_TrailError_init at h
    split at h
    · rfl
    · exact h.elim
  unfold sp_TrailError_init at h
  split at h
  rotate_left
  · exact h.elim
  refine ⟨_, (pss_cons (ps_expr (pe_binit rfl T.n_ValueError (pa_con (mv 0) (pa_con (mv 1) pa_nil)))) (pss_one (ps_xset (mv 0) (mv 2)))), ?_⟩
  rename_i e v r
  obtain ⟨C, bm, fr, Xc, U, Xa, n1, hx, q⟩ := h
  walk_at "stp"
  refine ⟨e, C, none, fr, bm, v, rfl, hx, Xc, ?_⟩
  walk_at "stp"
  refine ⟨e, C, bm, fr, rfl, Xc, U, Xa, n1, .inl ⟨hx, fun dx hdx hne => ?_⟩⟩
  refine q _ ⟨⟨dx, hdx, hne, upd_same, by rw [upd_ne hne]; exact upd_same⟩, fun b hb o ho => ?_⟩
  rw [upd_ne hb, upd_ne (fun z => by rw [z, hdx] at ho; cases ho)]
  exact ho
theorem ok_l_cell (T : Txt K mg t)  : FnOk P w K mg base CX0 1 t.a_l_cell t.d_l_cell ["_law_script", "_law_k"] (sp_l_cell K) := by
  refine T.F_l_cell.ok sc_l_cell (fun vs H Q E h => ?_) (fun cdv A outer s H vs Q E hr h => ?_)
  · unfold sp_l_cell at h
    split at h
    · rfl
    · exact h.elim
  unfold sp_l_cell at h
  split at h
  rotate_left
  · exact h.elim
  refine ⟨_, (pss_cons (ps_if (mt_cmp mo_lt (mv 1) (pe_callB (kc_len K rfl) rfl T.n_len PySem.boot_len (pa_con (mv 0) pa_nil)) (nomark _)) (pss_one (ps_ret (pe_ix (ki_seq K rfl) (mv 0) (mv 1) (fun _ _ => rfl)))) pss_nil) (pss_cons (ps_set (i := 2) (hs := sw_bin) sc_l_cell.nd rfl (by first | exact Or.inl rfl | exact Or.inr rfl) (pe_op (ko_add K rfl) (pe_op mo_mul pe_int (mv 1)) pe_int)) (pss_cons (ps_if (mt_cmp mo_gt (pe_callB (kc_len K rfl) rfl T.n_len PySem.boot_len (pa_con (mv 0) pa_nil)) pe_int (nomark _)) (pss_one (ps_set (i := 2) (hs := sw_bin) sc_l_cell.nd rfl (by first | exact Or.inl rfl | exact Or.inr rfl) (pe_op (ko_add K rfl) (mv 2) (pe_op mo_mul pe_int (pe_ix (ki_seq K rfl) (mv 0) (pe_op mo_mod (pe_op mo_mul pe_int (mv 1)) (pe_callB (kc_len K rfl) rfl T.n_len PySem.boot_len (pa_con (mv 0) pa_nil))) (fun _ _ => rfl)))))) pss_nil) (pss_one (ps_ret (pe_op mo_mod (pe_op mo_mul (mv 2) (mv 2)) pe_int)))))), ?_⟩
  rename_i a k
  obtain ⟨ns, hS, hb, h0, h1, q⟩ := h
  walk_at "stp"
  refine mLen_l hS ?_
  walk_at "stp"
  rw [List.length_map]
  refine iteB (fun e => ?_) (fun e => ?_)
  · have hk := of_decide_eq_true e
    walk_at "stp"
    obtain ⟨v, hv, hv2⟩ := atI_lt (xs := ns.map V.int) h0 (by rw [List.length_map]; exact hk)
    obtain ⟨x, rfl⟩ := ints_at hv
    refine mIx_l hS hv ?_
    exact q _
  walk_at "stp"
  refine mMul_i (mulOk_left (by decide)) ?_
  walk_at "stp"
  refine mLen_l hS ?_
  walk_at "stp"
  rw [List.length_map]
  refine iteB (fun e => ?_) (fun e => ?_)
  · have hl := of_decide_eq_true e
    walk_at "stp"
    refine mMul_i (mulOk_left (by decide)) ?_
    walk_at "stp"
    refine mLen_l hS ?_
    walk_at "stp"
    rw [List.length_map]
    refine m2_i (show (0 : Int) < (ns.length : Int) from hl) ?_
    walk_at "stp"
    have b1 := Int.emod_nonneg (5 * k) (show (ns.length : Int) ≠ 0 by omega)
    have b2 := Int.emod_lt_of_pos (5 * k) hl
    obtain ⟨v, hv, hv2⟩ := atI_lt (xs := ns.map V.int) b1 (by rw [List.length_map]; exact b2)
    obtain ⟨x, hx, rfl⟩ := List.mem_map.mp (atI_mem hv)
    refine mIx_l hS hv ?_
    walk_at "stp"
    refine mMul_i (mulOk_left (by decide)) ?_
    walk_at "stp"
    have hbx := bits_lt _ _ (cell_bits (c := 7919 * k + 17) (lt_bits x _ (hb x hx)) (by omega))
    refine mMul_i (mulOk_bits (by omega)) ?_
    walk_at "stp"
    exact q _
  · walk_at "stp"
    refine mMul_i (mulOk_left (by omega)) ?_
    walk_at "stp"
    exact q _
theorem ok_l_number (T : Txt K mg t)  : FnOk P w K mg base CX0 1 t.a_l_number t.d_l_number ["_law_cell_here"] (sp_l_number) := by
  refine T.F_l_number.ok sc_l_number (fun vs H Q E h => ?_) (fun cdv A outer s H vs Q E hr h => ?_)
  · unfold sp_l_number at h
    split at h
    · rfl
    · exact h.elim
  unfold sp_l_number at h
  split at h
  rotate_left
  · exact h.elim
  refine ⟨_, (pss_cons (ps_if (mt_cmp mo_eq (pe_op mo_mod (mv 0) pe_int) pe_int (nomark _)) (pss_one (ps_ret (pe_op (ko_add K rfl) (pe_op mo_sub (pe_op mo_mod (pe_op mo_mul (pe_op mo_fdiv (mv 0) pe_int) pe_int) (pe_op mo_sub (pe_op mo_mul pe_int (pe_op mo_pow pe_int pe_int)) pe_int)) (pe_op mo_pow pe_int pe_int)) pe_int))) pss_nil) (pss_one (ps_ret (pe_op mo_sub (pe_op mo_mod (pe_op mo_fdiv (mv 0) pe_int) pe_int) pe_int)))), ?_⟩
  rename_i c
  have q := h
  walk_at "stp"
  refine iteB (fun e => ?_) (fun e => ?_)
  · walk_at "stp"
    refine mMul_i (mulOk_right (by decide)) ?_
    walk_at "stp"
    refine m2_i (C := CPow) ⟨by decide, by decide, by decide⟩ ?_
    walk_at "stp"
    refine mMul_i (mulOk_left (by decide)) ?_
    walk_at "stp"
    refine m2_i (C := CPow) ⟨by decide, by decide, by decide⟩ ?_
    walk_at "stp"
    exact q _
  · walk_at "stp"
    exact q _
theorem ok_l_names (T : Txt K mg t)  : FnOk P w K mg base CX0 1 t.a_l_names t.d_l_names ["_law_cell_here", "_law_many", "_law_first"] (sp_l_names K) := by
  refine T.F_l_names.ok sc_l_names (fun vs H Q E h => ?_) (fun cdv A outer s H vs Q E hr h => ?_)
  · unfold sp_l_names at h
    split at h
    · rfl
    · exact h.elim
  unfold sp_l_names at h
  split at h
  rotate_left
  · exact h.elim
  refine ⟨_, (pss_cons (ps_set (i := 3) sc_l_names.nd rfl (by first | exact Or.inl rfl | exact Or.inr rfl) pe_str) (pss_cons (ps_if (mt_cmp mo_eq (pe_op mo_mod (mv 0) pe_int) pe_int (nomark _)) (pss_one (ps_ret (pe_comp rfl (pi_range1 rfl T.n_range (pa_con (mv 1) pa_nil)) (comp_sc (defScope s_l_names) ["_law_cell_here", "_law_many", "_law_first", "_law_signs", "_law_size_here", "_law_at", "_law_names_here", "_law_j", "_law_name", "_law_k", "_law_place"] ["_law_cell_here", "_law_many", "_law_first", "_law_signs", "_law_size_here", "_law_at", "_law_names_here", "_law_j", "_law_name", "%_law_k", "_law_place"] rfl rfl (by decide +kernel)) (fun _ _ _ _ _ => pts_nil) (fun _ _ _ _ _ => (pe_op (ko_add K rfl) (pe_ix (ki_seq K rfl) (mv 3) pe_int (fun _ _ => rfl)) (pe_callTy mc_str rfl T.n_str boot_str (pa_con (pe_op (ko_add K rfl) pe_int (pe_op mo_mod (pe_op (ko_add K rfl) (mv 0) (pe_op mo_fdiv (mv 1) pe_int)) (mv 2))) pa_nil))))))) pss_nil) (pss_cons (ps_if (mt_cmp mo_eq (pe_op mo_mod (mv 0) pe_int) pe_int (nomark _)) (pss_one (ps_ret (pe_comp rfl (pi_range1 rfl T.n_range (pa_con (mv 1) pa_nil)) (comp_sc (defScope s_l_names) ["_law_cell_here", "_law_many", "_law_first", "_law_signs", "_law_size_here", "_law_at", "_law_names_here", "_law_j", "_law_name", "_law_k", "_law_place"] ["_law_cell_here", "_law_many", "_law_first", "_law_signs", "_law_size_here", "_law_at", "_law_names_here", "_law_j", "_law_name", "%_law_k", "_law_place"] rfl rfl (by decide +kernel)) (fun _ _ _ _ _ => pts_nil) (fun _ _ _ _ _ => (pe_op (ko_add K rfl) (pe_ix (ki_seq K rfl) (mv 3) (pe_op mo_mod (pe_op mo_fdiv (mv 1) pe_int) pe_int) (fun _ _ => rfl)) (pe_op ko_repS (pe_ix (ki_seq K rfl) (mv 4) (pe_op mo_mod (pe_op mo_fdiv (mv 1) pe_int) pe_int) (fun _ _ => rfl)) (mv 0))))))) pss_nil) (pss_cons (ps_set (i := 4) (hs := sw_bin) sc_l_names.nd rfl (by first | exact Or.inl rfl | exact Or.inr rfl) (pe_op (ko_add K rfl) pe_int (pe_op mo_mod (pe_op mo_fdiv (mv 0) pe_int) pe_int))) (pss_cons (ps_set (i := 5) (hs := sw_bin) sc_l_names.nd rfl (by first | exact Or.inl rfl | exact Or.inr rfl) (pe_op mo_mod (pe_op mo_fdiv (mv 0) pe_int) (mv 4))) (pss_cons (ps_set (i := 6) (hs := sw_lst) sc_l_names.nd rfl (by first | exact Or.inl rfl | exact Or.inr rfl) (pe_lst pa_nil)) (pss_cons (ps_for PassesOwn.never rfl (pi_range1 rfl T.n_range (pa_con (mv 1) pa_nil)) (pg_name (i := 7) sc_l_names.nd rfl (by first | exact Or.inl rfl | exact Or.inr rfl)) (pss_cons (ps_set (i := 8) sc_l_names.nd rfl (by first | exact Or.inl rfl | exact Or.inr rfl) pe_str) (pss_cons (ps_for PassesOwn.never rfl (pi_range1 rfl T.n_range (pa_con (mv 4) pa_nil)) (pg_name (i := 9) sc_l_names.nd rfl (by first | exact Or.inl rfl | exact Or.inr rfl)) (pss_cons (ps_set (i := 10) (hs := sw_bin) sc_l_names.nd rfl (by first | exact Or.inl rfl | exact Or.inr rfl) (pe_op (ko_add K rfl) (pe_op (ko_add K rfl) (pe_op mo_fdiv (mv 0) (pe_op (ko_add K rfl) (pe_op mo_mul pe_int (mv 9)) pe_int)) (mv 9)) (pe_op mo_mul (mv 7) (pe_callTy mc_int rfl T.n_int boot_int (pa_con (pe_cmpR mo_eq (mv 9) (mv 5) (nomark _)) pa_nil))))) (pss_one (ps_set (i := 8) (hs := sw_bin) sc_l_names.nd rfl (by first | exact Or.inl rfl | exact Or.inr rfl) (pe_op (ko_add K rfl) (mv 8) (pe_ifExp (mt_cmp mo_eq (mv 9) pe_int (nomark _)) (pe_ix (ki_seq K rfl) (mv 2) (pe_op mo_mod (mv 10) pe_int) (fun _ _ => rfl)) (pe_ix (ki_seq K rfl) (mv 3) (pe_op mo_mod (mv 10) pe_int) (fun _ _ => rfl)))))))) (pss_one (ps_expr (ke_bm K rfl PySem.F.plainAttrs_list PySem.F.slot_list_append PySem.F.type_list_append mm_append (mv 6) (pa_con (mv 8) pa_nil))))))) (pss_one (ps_ret (mv 6)))))))))), ?_⟩
  rename_i c m first
  obtain ⟨h1, h2, hf, hn, q⟩ := h
  have fl : first.length ≤ sizeLine := ln (by omega)
  have fl' : first.cps.toList.length = 26 := by rw [← hf]; simp [Str.length]
  have l62 : tailS.cps.toList.length = 62 := by decide +kernel
  have tl : tailS.length ≤ sizeLine := ln (by rw [tl62]; decide)
  walk_at "stp"
  refine iteB (fun e => ?_) (fun e => ?_)
  · obtain ⟨a0, ha0⟩ := ix_str_lt (z := first) (i := 20) (by decide) (by omega)
    walk_at "stp"
    refine ⟨m, rfl, by omega, by omega, fun D hD => ?_⟩
    refine comp_row (row_range 0 m.toNat) (fun i ys H' => Same H H' ∧ ys = (List.range i).map (fun k => V.str ((fun k : Nat => (⟨(a0 :: figsOf (1 + (0 + (k : Int) + c / 4) % m).toNat).toArray⟩ : Str)) k)) ∧ H' D = some (.lst ys)) (ln (by omega)) ⟨same_new hD _, rfl, upd_same⟩ (fun _ _ _ _ => trivial) (fun i ys H' Q' hi hl' hP k => ?_) (fun ys H' hl' hP => ?_)
    · obtain ⟨g1, g2, g3⟩ := hP
      walk_at "stp"
      refine mIx_s fl ha0 ?_
      walk_at "stp"
      refine m2_i (show (0 : Int) < m by omega) ?_
      walk_at "stp"
      have b1 := Int.emod_nonneg (0 + (i : Int) + c / 4) (show m ≠ 0 by omega)
      have b2 := Int.emod_lt_of_pos (0 + (i : Int) + c / 4) (show 0 < m by omega)
      refine mStr_i (by omega) (by omega) ?_
      have fg := figs_lt (n := (1 + (0 + (i : Int) + c / 4) % m).toNat) (by omega)
      refine mAdd_s (ln (by rw [fg]; show 1 + 1 ≤ 100000; decide)) ?_
      rw [show (⟨#[a0]⟩ : Str) ++ ⟨(figsOf (1 + (0 + (i : Int) + c / 4) % m).toNat).toArray⟩ = ⟨(a0 :: figsOf (1 + (0 + (i : Int) + c / 4) % m).toNat).toArray⟩ from str_app [a0] _]
      refine k _ _ g3 ⟨same_upd g1 hD, ?_, upd_same⟩
      rw [g2, List.range_succ, List.map_append]
      rfl
    · obtain ⟨g1, g2, g3⟩ := hP
      refine q D ((List.range m.toNat).map (fun k : Nat => (⟨(a0 :: figsOf (1 + (0 + (k : Int) + c / 4) % m).toNat).toArray⟩ : Str))) H' (by simp) (nodup_range_map _ fun i j hi hj e => ?_) (fun x hx => ?_) g1 (by rw [List.map_map]; exact g2 ▸ g3)
      · have e := (List.cons.inj (st_inj' e)).2
        have c1 := Int.emod_nonneg (0 + (i : Int) + c / 4) (show m ≠ 0 by omega)
        have c2 := Int.emod_lt_of_pos (0 + (i : Int) + c / 4) (show 0 < m by omega)
        have c3 := Int.emod_nonneg (0 + (j : Int) + c / 4) (show m ≠ 0 by omega)
        have c4 := Int.emod_lt_of_pos (0 + (j : Int) + c / 4) (show 0 < m by omega)
        rw [figs_lt (by omega), figs_lt (by omega)] at e
        have e : (0 + (i : Int) + c / 4) % m = (0 + (j : Int) + c / 4) % m := by
          have := (List.cons.inj e).1
          omega
        have d := Int.emod_eq_emod_iff_emod_sub_eq_zero.mp e
        obtain ⟨w1, hw⟩ := Int.dvd_of_emod_eq_zero d
        have hw : (i : Int) - j = m * w1 := by omega
        rcases Int.lt_trichotomy w1 0 with z | z | z
        · have : m * w1 ≤ m * (-1) := Int.mul_le_mul_of_nonneg_left (by omega) (by omega)
          omega
        · subst z
          omega
        · have : m * 1 ≤ m * w1 := Int.mul_le_mul_of_nonneg_left (by omega) (by omega)
          omega
      · obtain ⟨i, hi, rfl⟩ := List.mem_map.mp hx
        have hi := List.mem_range.mp hi
        have c1 := Int.emod_nonneg (0 + (i : Int) + c / 4) (show m ≠ 0 by omega)
        have c2 := Int.emod_lt_of_pos (0 + (i : Int) + c / 4) (show 0 < m by omega)
        rw [str_len, figs_lt (by omega)]
        show 2 ≤ 30
        decide
  walk_at "stp"
  refine iteB (fun e => ?_) (fun e => ?_)
  · obtain ⟨a0, ha0⟩ := ix_str_lt (z := first) (i := c / 4 % 26) (by omega) (by omega)
    obtain ⟨b0, hb0⟩ := ix_str_lt (z := tailS) (i := c / 104 % 62) (by omega) (by rw [tl62]; omega)
    walk_at "stp"
    refine ⟨m, rfl, by omega, by omega, fun D hD => ?_⟩
    refine comp_row (row_range 0 m.toNat) (fun i ys H' => Same H H' ∧ ys = (List.range i).map (fun k => V.str ((fun k : Nat => (⟨(a0 :: List.replicate k b0).toArray⟩ : Str)) k)) ∧ H' D = some (.lst ys)) (ln (by omega)) ⟨same_new hD _, rfl, upd_same⟩ (fun _ _ _ _ => trivial) (fun i ys H' Q' hi hl' hP k => ?_) (fun ys H' hl' hP => ?_)
    · obtain ⟨g1, g2, g3⟩ := hP
      walk_at "stp"
      refine mIx_s fl ha0 ?_
      walk_at "stp"
      refine mIx_s tl hb0 ?_
      walk_at "stp"
      refine mRepS_i (by omega) (by omega) ?_
      rw [show (0 + (i : Int)).toNat = i by omega]
      refine mAdd_s (ln (by have e9 := str_len (List.replicate i b0); rw [List.length_replicate] at e9; rw [e9]; show 1 + i ≤ 100000; omega)) ?_
      rw [show (⟨#[a0]⟩ : Str) ++ ⟨(List.replicate i b0).toArray⟩ = ⟨(a0 :: List.replicate i b0).toArray⟩ from str_app [a0] _]
      refine k _ _ g3 ⟨same_upd g1 hD, ?_, upd_same⟩
      rw [g2, List.range_succ, List.map_append]
      rfl
    · obtain ⟨g1, g2, g3⟩ := hP
      refine q D ((List.range m.toNat).map (fun k : Nat => (⟨(a0 :: List.replicate k b0).toArray⟩ : Str))) H' (by simp) (nodup_range_map _ fun i j hi hj e => ?_) (fun x hx => ?_) g1 (by rw [List.map_map]; exact g2 ▸ g3)
      · have e := congrArg List.length (st_inj' e)
        simpa using e
      · obtain ⟨i, hi, rfl⟩ := List.mem_map.mp hx
        have hi := List.mem_range.mp hi
        rw [str_len, List.length_cons, List.length_replicate]
        omega
  walk_at "stp"
  have z0 : 0 ≤ c / 4 % 12 ∧ c / 4 % 12 < 12 := by omega
  generalize c / 4 % 12 = sz at z0 ⊢
  refine m2_i (show (0 : Int) < 1 + sz by omega) ?_
  walk_at "stp"
  have a1 := Int.emod_nonneg (c / 48) (show 1 + sz ≠ 0 by omega)
  have a2 := Int.emod_lt_of_pos (c / 48) (show 0 < 1 + sz by omega)
  generalize c / 48 % (1 + sz) = ac at a1 a2 ⊢
  obtain ⟨at_, rfl⟩ : ∃ n : Nat, ac = (n : Int) := ⟨ac.toNat, by omega⟩
  obtain ⟨size, hsz⟩ : ∃ n : Nat, 1 + sz = (n : Int) := ⟨(1 + sz).toNat, by omega⟩
  rw [hsz] at a2 ⊢
  have hs12 : 1 ≤ size ∧ size ≤ 12 := by omega
  refine ⟨ln (by show 0 ≤ 100000; decide), fun p1 hp1 => ?_⟩
  have sp1 : Same H (upd H p1 (.lst [])) := same_new hp1 _
  have kp1 : (upd H p1 (.lst [])) p1 = some (.lst []) := upd_same
  generalize upd H p1 (.lst []) = H1 at sp1 kp1 ⊢
  walk_at "stp"
  refine ⟨m, rfl, by omega, by omega, ?_⟩
  refine for_row (row_range 0 m.toNat) (fun i σ' H' => ∃ (o7 o8 o9 o10 : Option V), σ' = [some (.int c), some (.int m), some (.str first), some (.str tailS), some (.int size), some (.int at_), some (.ref p1), o7, o8, o9, o10] ∧ Same H H' ∧ H' p1 = some (.lst (((List.range i).map (nm3 c first.cps.toList at_ size)).map V.str))) ⟨none, none, none, none, rfl, sp1, kp1⟩ (fun _ _ _ _ => trivial) (fun i σ' H' hi hP => ?_) (fun σ' H' hP => ?_)
  · obtain ⟨o7, o8, o9, o10, rfl, s1, k1⟩ := hP
    have hi9 : i < 9 := by omega
    walk_at "stp"
    refine ⟨size, rfl, by omega, by omega, ?_⟩
    refine for_row (row_range 0 (size : Int).toNat) (fun n σ2 H2 => ∃ (o9 o10 : Option V), σ2 = [some (.int c), some (.int m), some (.str first), some (.str tailS), some (.int size), some (.int at_), some (.ref p1), some (.int (0 + (i : Int))), some (.str ⟨((List.range n).map (chN c first.cps.toList at_ i)).toArray⟩), o9, o10] ∧ H2 = H') ⟨_, _, by rw [show (⟨((List.range 0).map (chN c first.cps.toList at_ i)).toArray⟩ : Str) = Str.ofString "" by rw [em_eq]; rfl]; rfl, rfl⟩ (fun _ _ _ _ => trivial) (fun n σ2 H2 hn2 hP => ?_) (fun σ2 H2 hP => ?_)
    · obtain ⟨o9, o10, rfl, rfl⟩ := hP
      have hn12 : n < 12 := by omega
      walk_at "stp"
      refine mMul_i (mulOk_left (by decide)) ?_
      walk_at "stp"
      refine m2_i (C := CDiv) (cdiv_i (by omega) (by omega)) ?_
      walk_at "stp"
      have eb : (if (false ^^ decide ((0 + (n : Int)) = (at_ : Int))) = true then (1 : Int) else 0) = if n = at_ then 1 else 0 := by
        by_cases h : n = at_
        · rw [if_pos h, if_pos (by rw [Bool.false_xor]; exact decide_eq_true (by omega))]
        · rw [if_neg h, if_neg (by rw [Bool.false_xor, decide_eq_false (by omega)]; exact Bool.false_ne_true)]
      rw [eb]
      refine mMul_i (mulOk_left (by omega)) ?_
      walk_at "stp"
      have ep : c / (7 * (0 + (n : Int)) + 11) + (0 + (n : Int)) + (0 + (i : Int)) * (if n = at_ then 1 else 0) = plc c at_ n i := by
        unfold plc
        simp only [Int.zero_add]
      rw [ep]
      have hadd : ∀ d : Nat, (⟨((List.range n).map (chN c first.cps.toList at_ i)).toArray⟩ : Str).length + (⟨#[d]⟩ : Str).length ≤ sizeLine := fun d => ln (by rw [str_len, List.length_map, List.length_range]; show n + 1 ≤ 100000; omega)
      refine iteB (fun e => ?_) (fun e => ?_)
      · have hn0 : n = 0 := by have := of_decide_eq_true (xor_n e); omega
        walk_at "stp"
        refine mIx_s fl (atI_getD (l := first.cps.toList) (by omega) (by rw [fl']; omega)) ?_
        refine mAdd_s (hadd _) ?_
        rw [show (⟨((List.range n).map (chN c first.cps.toList at_ i)).toArray⟩ : Str) ++ ⟨#[first.cps.toList.getD (plc c at_ n i % 26).toNat 0]⟩ = ⟨((List.range (n + 1)).map (chN c first.cps.toList at_ i)).toArray⟩ by
          rw [List.range_succ, List.map_append, ← str_app]
          congr 1
          simp only [List.map_cons, List.map_nil, chN, if_pos hn0]]
        walk_at "stp"
        exact ⟨_, _, rfl, rfl⟩
      · have hn0 : n ≠ 0 := by have := of_decide_eq_false (xor_n e); omega
        walk_at "stp"
        refine mIx_s tl (atI_getD (l := tailS.cps.toList) (by omega) (by rw [l62]; omega)) ?_
        refine mAdd_s (hadd _) ?_
        rw [show (⟨((List.range n).map (chN c first.cps.toList at_ i)).toArray⟩ : Str) ++ ⟨#[tailS.cps.toList.getD (plc c at_ n i % 62).toNat 0]⟩ = ⟨((List.range (n + 1)).map (chN c first.cps.toList at_ i)).toArray⟩ by
          rw [List.range_succ, List.map_append, ← str_app]
          congr 1
          simp only [List.map_cons, List.map_nil, chN, if_neg hn0]]
        walk_at "stp"
        exact ⟨_, _, rfl, rfl⟩
    · obtain ⟨o9, o10, rfl, rfl⟩ := hP
      walk_at "stp"
      refine ⟨.inl ⟨rfl, _, SqL.of k1⟩, ?_⟩
      walk_at "stp"
      refine mAppend_i k1 (ln1 (by rw [List.length_map, List.length_map, List.length_range]; omega)) ?_
      refine ⟨_, _, _, _, rfl, same_upd s1 hp1, ?_⟩
      rw [upd_same, List.range_succ, List.map_append, List.map_append]
      rfl
  · obtain ⟨o7, o8, o9, o10, rfl, s1, k1⟩ := hP
    walk_at "stp"
    refine q p1 _ H' (by simp) (nodup_range_map _ fun i j hi hj e => nm3_inj hn fl' (by omega) (by omega) (by omega) e) (fun x hx => ?_) s1 k1
    obtain ⟨i, hi, rfl⟩ := List.mem_map.mp hx
    show (⟨((List.range size).map _).toArray⟩ : Str).length ≤ 30
    rw [str_len, List.length_map, List.length_range]
    omega
end
section
variable {P : Program} {w : World} {K : PySem.W.Frag} {mg : Str → Option Value} {base : Heap} {t : Ad}
theorem ok_l_sign (T : Txt K mg t)  : FnOk P w K mg base CX0 1 t.a_l_sign t.d_l_sign ["_law_cell_here", "_law_many", "_law_words"] (sp_l_sign K) := by
  refine T.F_l_sign.ok sc_l_sign (fun vs H Q E h => ?_) (fun cdv A outer s H vs Q E hr h => ?_)
  · unfold sp_l_sign at h
    split at h
    · rfl
    · exact h.elim
  unfold sp_l_sign at h
  split at h
  rotate_left
  · exact h.elim
  refine ⟨_, (pss_cons (ps_if (PW.pt (pw_and (mt_cmp mo_eq (pe_op mo_mod (mv 0) pe_int) pe_int (nomark _)) (pw_and1 (mt_cmp mo_eq (mv 1) pe_int (nomark _))))) (pss_one (ps_ret (pe_ix (ki_seq K rfl) (pe_lst (pa_con pe_str (pa_con pe_str (pa_con pe_str (pa_con pe_str (pa_con pe_str (pa_con pe_str (pa_con pe_str (pa_con pe_str (pa_con pe_str (pa_con pe_str pa_nil))))))))))) (pe_op mo_mod (pe_op mo_fdiv (mv 0) pe_int) pe_int) (fun _ _ => rfl)))) pss_nil) (pss_cons (ps_if (PW.pt (pw_and (mt_cmp mo_eq (pe_op mo_mod (mv 0) pe_int) pe_int (nomark _)) (pw_and1 (mt_cmp mo_eq (mv 1) pe_int (nomark _))))) (pss_one (ps_ret pe_str)) pss_nil) (pss_cons (ps_if (mt_cmp mo_eq (pe_op mo_mod (mv 0) pe_int) pe_int (nomark _)) (pss_one (ps_ret (pe_ix (ki_seq K rfl) (pe_lst (pa_con pe_str (pa_con pe_str (pa_con pe_str (pa_con pe_str (pa_con pe_str (pa_con pe_str pa_nil))))))) (pe_op mo_mod (pe_op mo_fdiv (mv 0) pe_int) pe_int) (fun _ _ => rfl)))) pss_nil) (pss_one (ps_ret (pe_ix (ki_seq K rfl) (mv 2) (pe_op mo_mod (pe_op mo_fdiv (mv 0) pe_int) (pe_callB (kc_len K rfl) rfl T.n_len PySem.boot_len (pa_con (mv 2) pa_nil))) (fun _ _ => rfl))))))), ?_⟩
  rename_i c m wp
  obtain ⟨ws, hW, w1, w2, w3, q⟩ := h
  have last : ∀ J, J = H → (∀ x ∈ ws, Q (.str x) J) := fun J e x hx => by subst e; exact q x _ (w3 x hx) (Same.refl _)
  walk_at "stp"
  have step2 : ∀ (P : Prop), P → P := fun _ h => h
  by_cases c0 : c % 5 = 0
  · refine iteB (fun e => ?_) (fun e => absurd c0 (of_decide_eq_false (xor_n e)))
    walk_at "stp"
    refine iteB (fun e => ?_) (fun e => ?_)
    · walk_at "stp"
      refine ⟨ln (by show 10 ≤ 100000; decide), fun p1 hp1 => ?_⟩
      have sp1 : Same H (upd H p1 (.lst [.str (Str.ofString "+"), .str (Str.ofString "="), .str (Str.ofString "[|]"), .str (Str.ofString "<="), .str (Str.ofString "/:"), .str (Str.ofString ":="), .str (Str.ofString "-"), .str (Str.ofString "*"), .str (Str.ofString "#"), .str (Str.ofString "@@@")])) := same_new hp1 _
      have kp1 : (upd H p1 (.lst [.str (Str.ofString "+"), .str (Str.ofString "="), .str (Str.ofString "[|]"), .str (Str.ofString "<="), .str (Str.ofString "/:"), .str (Str.ofString ":="), .str (Str.ofString "-"), .str (Str.ofString "*"), .str (Str.ofString "#"), .str (Str.ofString "@@@")])) p1 = some (.lst [.str (Str.ofString "+"), .str (Str.ofString "="), .str (Str.ofString "[|]"), .str (Str.ofString "<="), .str (Str.ofString "/:"), .str (Str.ofString ":="), .str (Str.ofString "-"), .str (Str.ofString "*"), .str (Str.ofString "#"), .str (Str.ofString "@@@")]) := upd_same
      generalize upd H p1 (.lst [.str (Str.ofString "+"), .str (Str.ofString "="), .str (Str.ofString "[|]"), .str (Str.ofString "<="), .str (Str.ofString "/:"), .str (Str.ofString ":="), .str (Str.ofString "-"), .str (Str.ofString "*"), .str (Str.ofString "#"), .str (Str.ofString "@@@")]) = H1 at sp1 kp1 ⊢
      walk_at "stp"
      obtain ⟨x, hx, hx1⟩ : ∃ x : Str, atI [V.str (Str.ofString "+"), V.str (Str.ofString "="), V.str (Str.ofString "[|]"), V.str (Str.ofString "<="), V.str (Str.ofString "/:"), V.str (Str.ofString ":="), V.str (Str.ofString "-"), V.str (Str.ofString "*"), V.str (Str.ofString "#"), V.str (Str.ofString "@@@")] (c / 5 % 10) = some (.str x) ∧ x.length ≤ 30 := by
        have hi : c / 5 % 10 = 0 ∨ c / 5 % 10 = 1 ∨ c / 5 % 10 = 2 ∨ c / 5 % 10 = 3 ∨ c / 5 % 10 = 4 ∨ c / 5 % 10 = 5 ∨ c / 5 % 10 = 6 ∨ c / 5 % 10 = 7 ∨ c / 5 % 10 = 8 ∨ c / 5 % 10 = 9 := by omega
        rcases hi with z | z | z | z | z | z | z | z | z | z <;> rw [z] <;> exact ⟨_, rfl, by decide +kernel⟩
      refine mIx_l (SqL.of kp1) hx ?_
      exact q x _ hx1 sp1
    walk_at "stp"
    refine iteB (fun e => ?_) (fun e => absurd c0 (of_decide_eq_false (xor_n e)))
    walk_at "stp"
    refine iteB (fun e => ?_) (fun e => ?_)
    · walk_at "stp"
      exact q _ _ (by decide +kernel) (Same.refl _)
    walk_at "stp"
    refine iteB (fun e => by have := of_decide_eq_true (xor_n e); omega) (fun e => ?_)
    walk_at "stp"
    refine mLen_l hW ?_
    walk_at "stp"
    rw [List.length_map]
    refine m2_i (show (0 : Int) < (ws.length : Int) by omega) ?_
    walk_at "stp"
    have b1 := Int.emod_nonneg (c / 5) (show (ws.length : Int) ≠ 0 by omega)
    have b2 := Int.emod_lt_of_pos (c / 5) (show (0 : Int) < (ws.length : Int) by omega)
    obtain ⟨v, hv, _⟩ := atI_lt (xs := ws.map V.str) b1 (by rw [List.length_map]; exact b2)
    obtain ⟨x, rfl, hx⟩ := strs_at hv
    refine mIx_l hW hv ?_
    exact last _ rfl x hx
  refine iteB (fun e => absurd (of_decide_eq_true (xor_n e)) c0) (fun e => ?_)
  walk_at "stp"
  refine iteF ?_
  walk_at "stp"
  refine iteB (fun e => absurd (of_decide_eq_true (xor_n e)) c0) (fun e => ?_)
  walk_at "stp"
  refine iteF ?_
  walk_at "stp"
  refine iteB (fun e => ?_) (fun e => ?_)
  · walk_at "stp"
    refine ⟨ln (by show 6 ≤ 100000; decide), fun p1 hp1 => ?_⟩
    have sp1 : Same H (upd H p1 (.lst [.str (Str.ofString "any"), .str (Str.ofString "num"), .str (Str.ofString "app"), .str (Str.ofString "not"), .str (Str.ofString "keep"), .str (Str.ofString "a")])) := same_new hp1 _
    have kp1 : (upd H p1 (.lst [.str (Str.ofString "any"), .str (Str.ofString "num"), .str (Str.ofString "app"), .str (Str.ofString "not"), .str (Str.ofString "keep"), .str (Str.ofString "a")])) p1 = some (.lst [.str (Str.ofString "any"), .str (Str.ofString "num"), .str (Str.ofString "app"), .str (Str.ofString "not"), .str (Str.ofString "keep"), .str (Str.ofString "a")]) := upd_same
    generalize upd H p1 (.lst [.str (Str.ofString "any"), .str (Str.ofString "num"), .str (Str.ofString "app"), .str (Str.ofString "not"), .str (Str.ofString "keep"), .str (Str.ofString "a")]) = H1 at sp1 kp1 ⊢
    walk_at "stp"
    obtain ⟨x, hx, hx1⟩ : ∃ x : Str, atI [V.str (Str.ofString "any"), V.str (Str.ofString "num"), V.str (Str.ofString "app"), V.str (Str.ofString "not"), V.str (Str.ofString "keep"), V.str (Str.ofString "a")] (c / 5 % 6) = some (.str x) ∧ x.length ≤ 30 := by
      have hi : c / 5 % 6 = 0 ∨ c / 5 % 6 = 1 ∨ c / 5 % 6 = 2 ∨ c / 5 % 6 = 3 ∨ c / 5 % 6 = 4 ∨ c / 5 % 6 = 5 := by omega
      rcases hi with z | z | z | z | z | z <;> rw [z] <;> exact ⟨_, rfl, by decide +kernel⟩
    refine mIx_l (SqL.of kp1) hx ?_
    exact q x _ hx1 sp1
  walk_at "stp"
  refine mLen_l hW ?_
  walk_at "stp"
  rw [List.length_map]
  refine m2_i (show (0 : Int) < (ws.length : Int) by omega) ?_
  walk_at "stp"
  have b1 := Int.emod_nonneg (c / 5) (show (ws.length : Int) ≠ 0 by omega)
  have b2 := Int.emod_lt_of_pos (c / 5) (show (0 : Int) < (ws.length : Int) by omega)
  obtain ⟨v, hv, _⟩ := atI_lt (xs := ws.map V.str) b1 (by rw [List.length_map]; exact b2)
  obtain ⟨x, rfl, hx⟩ := strs_at hv
  refine mIx_l hW hv ?_
  exact last _ rfl x hx
theorem ok_l_term (T : Txt K mg t) (G_l_number : FnOk P w K mg base CX0 1 t.a_l_number t.d_l_number ["_law_cell_here"] (sp_l_number)) (G_l_sign : FnOk P w K mg base CX0 1 t.a_l_sign t.d_l_sign ["_law_cell_here", "_law_many", "_law_words"] (sp_l_sign K)) : FnOk P w K mg base CX0 2 t.a_l_term t.d_l_term ["_law_cells", "_law_names_here", "_law_words"] (sp_l_term K) := by
  refine T.F_l_term.ok sc_l_term (fun vs H Q E h => ?_) (fun cdv A outer s H vs Q E hr h => ?_)
  · unfold sp_l_term at h
    split at h
    · rfl
    · exact h.elim
  unfold sp_l_term at h
  split at h
  rotate_left
  · exact h.elim
  refine ⟨_, (pss_cons (ps_set (i := 3) (hs := sw_lst) sc_l_term.nd rfl (by first | exact Or.inl rfl | exact Or.inr rfl) (pe_lst pa_nil)) (pss_cons (ps_for PassesOwn.never rfl (kpi_list K rfl (mv 0)) (pg_name (i := 4) sc_l_term.nd rfl (by first | exact Or.inl rfl | exact Or.inr rfl)) (pss_one (ps_if (mt_cmp mo_eq (pe_op mo_mod (mv 4) pe_int) pe_int (nomark _)) (pss_one (ps_expr (ke_bm K rfl PySem.F.plainAttrs_list PySem.F.slot_list_append PySem.F.type_list_append mm_append (mv 3) (pa_con (pe_tup (pa_con pe_str (pa_con (pe_call G_l_number (hr.mono (by first | decide | omega)) rfl T.m_l_number T.F_l_number.kp T.b_l_number .nil pass0 (pa_con (pe_op mo_fdiv (mv 4) pe_int) pa_nil)) pa_nil))) pa_nil)))) (pss_one (ps_if (mt_cmp mo_lt (pe_op mo_mod (mv 4) pe_int) pe_int (nomark _)) (pss_one (ps_expr (ke_bm K rfl PySem.F.plainAttrs_list PySem.F.slot_list_append PySem.F.type_list_append mm_append (mv 3) (pa_con (pe_tup (pa_con pe_str (pa_con (pe_ix (ki_seq K rfl) (mv 1) (pe_op mo_mod (pe_op mo_fdiv (mv 4) pe_int) (pe_callB (kc_len K rfl) rfl T.n_len PySem.boot_len (pa_con (mv 1) pa_nil))) (fun _ _ => rfl)) pa_nil))) pa_nil)))) (pss_cons (ps_set (i := 5) (hs := sw_call) sc_l_term.nd rfl (by first | exact Or.inl rfl | exact Or.inr rfl) (pe_callB (mc_min rfl) rfl T.n_min boot_min (pa_con (pe_op mo_mod (pe_op mo_fdiv (mv 4) pe_int) pe_int) (pa_con (pe_callB (kc_len K rfl) rfl T.n_len PySem.boot_len (pa_con (mv 3) pa_nil)) pa_nil)))) (pss_cons (ps_set (i := 6) (hs := sw_call) sc_l_term.nd rfl (by first | exact Or.inl rfl | exact Or.inr rfl) (pe_callTy (kc_tuple K rfl) rfl T.n_tuple boot_tuple (pa_con (pe_slice (ks_list K rfl) (mv 3) (mp_some (pe_op mo_sub (pe_callB (kc_len K rfl) rfl T.n_len PySem.boot_len (pa_con (mv 3) pa_nil)) (mv 5))) po_none) pa_nil))) (pss_one (ps_set (i := 3) (hs := sw_bin) sc_l_term.nd rfl (by first | exact Or.inl rfl | exact Or.inr rfl) (pe_op (ko_add K rfl) (pe_slice (ks_list K rfl) (mv 3) po_none (mp_some (pe_op mo_sub (pe_callB (kc_len K rfl) rfl T.n_len PySem.boot_len (pa_con (mv 3) pa_nil)) (mv 5)))) (pe_lst (pa_con (pe_tup (pa_con pe_str (pa_con (pe_call G_l_sign (hr.mono (by first | decide | omega)) rfl T.m_l_sign T.F_l_sign.kp T.b_l_sign .nil pass0 (pa_con (pe_op mo_fdiv (mv 4) pe_int) (pa_con (mv 5) (pa_con (mv 2) pa_nil)))) (pa_con (mv 6) pa_nil)))) pa_nil)))))))))))) (pss_cons (ps_while PassesOwn.never (mt_cmp mo_gt (pe_callB (kc_len K rfl) rfl T.n_len PySem.boot_len (pa_con (mv 3) pa_nil)) pe_int (nomark _)) (pss_cons (ps_set (i := 5) (hs := sw_call) sc_l_term.nd rfl (by first | exact Or.inl rfl | exact Or.inr rfl) (pe_callB (mc_min rfl) rfl T.n_min boot_min (pa_con pe_int (pa_con (pe_callB (kc_len K rfl) rfl T.n_len PySem.boot_len (pa_con (mv 3) pa_nil)) pa_nil)))) (pss_one (ps_set (i := 3) (hs := sw_bin) sc_l_term.nd rfl (by first | exact Or.inl rfl | exact Or.inr rfl) (pe_op (ko_add K rfl) (pe_slice (ks_list K rfl) (mv 3) po_none (mp_some (pe_op mo_sub (pe_callB (kc_len K rfl) rfl T.n_len PySem.boot_len (pa_con (mv 3) pa_nil)) (mv 5)))) (pe_lst (pa_con (pe_tup (pa_con pe_str (pa_con (pe_ix (ki_seq K rfl) (mv 2) pe_int (fun _ _ => rfl)) (pa_con (pe_callTy (kc_tuple K rfl) rfl T.n_tuple boot_tuple (pa_con (pe_slice (ks_list K rfl) (mv 3) (mp_some (pe_op mo_sub (pe_callB (kc_len K rfl) rfl T.n_len PySem.boot_len (pa_con (mv 3) pa_nil)) (mv 5))) po_none) pa_nil)) pa_nil)))) pa_nil))))))) (pss_cons (ps_if (mt_cmp mo_eq (pe_callB (kc_len K rfl) rfl T.n_len PySem.boot_len (pa_con (mv 3) pa_nil)) pe_int (nomark _)) (pss_one (ps_ret (pe_tup (pa_con pe_str (pa_con pe_int pa_nil))))) pss_nil) (pss_one (ps_ret (pe_ix (ki_seq K rfl) (mv 3) pe_int (fun _ _ => rfl)))))))), ?_⟩
  rename_i cp np wp
  obtain ⟨cs, xs, ws, hC, c1, hX, x1, x2, hW, w1, w2, w3, q⟩ := h
  walk_at "stp"
  refine ⟨ln (by show 0 ≤ 100000; decide), fun p1 hp1 => ?_⟩
  have sp1 : Same H (upd H p1 (.lst [])) := same_new hp1 _
  have kp1 : (upd H p1 (.lst [])) p1 = some (.lst []) := upd_same
  generalize upd H p1 (.lst []) = H1 at sp1 kp1 ⊢
  walk_at "stp"
  refine ⟨cp, rfl, ⟨_, sp1.seq hC⟩, ?_⟩
  refine for_row (row_list (xs := cs.map V.int)) (fun i σ' H' => ∃ (o4 o5 o6 : Option V) (p : Addr) (us : List V) (ts : List Trm), σ' = [some (.ref cp), some (.ref np), some (.ref wp), some (.ref p), o4, o5, o6] ∧ Same H H' ∧ H p = none ∧ H' p = some (.lst us) ∧ LeftOk K H' us xs ts ∧ Trm.sizeL ts ≤ i ∧ ts.length ≤ i) ⟨none, none, none, p1, [], [], rfl, sp1, hp1, kp1, ⟨.nil, fun t ht => by simp at ht⟩, Nat.le_refl _, Nat.le_refl _⟩ (fun i σ' H' hP => by obtain ⟨_, _, _, _, _, _, _, s, _⟩ := hP; exact s.seq hC) (fun i σ' H' hi hP => ?_) (fun σ' H' hP => ?_)
  · obtain ⟨o4, o5, o6, p, us, ts, rfl, s1, hp, kp, lo, z1, z2⟩ := hP
    obtain ⟨c, hc⟩ := ints_get hi
    rw [hc]
    have hi40 : i < 40 := by rw [List.length_map] at hi; omega
    have lul := lo.len
    walk_at "stp"
    refine iteB (fun e => ?_) (fun e => ?_)
    · walk_at "stp"
      refine ⟨.inl ⟨rfl, _, SqL.of kp⟩, ?_⟩
      walk_at "stp"
      refine fun v => ?_
      walk_at "stp"
      refine ⟨ln (by show 2 ≤ 100000; decide), fun p2 hp2 => ?_⟩
      have sp2 : Same H' (upd H' p2 (.tup [.str (Str.ofString "num"), .int v])) := same_new hp2 _
      have kp2 : (upd H' p2 (.tup [.str (Str.ofString "num"), .int v])) p2 = some (.tup [.str (Str.ofString "num"), .int v]) := upd_same
      generalize upd H' p2 (.tup [.str (Str.ofString "num"), .int v]) = H2 at sp2 kp2 ⊢
      walk_at "stp"
      refine mAppend_i (sp2 _ _ kp) (ln1 (by omega)) ?_
      have lo2 := (lo.mono sp2).snoc (num_den (SqT.of kp2)) (t := .num v) trivial
      refine ⟨_, _, _, p, _, ts ++ [.num v], rfl, same_upd (s1.trans sp2) hp, hp, upd_same, ⟨lo2.den.lst (sp2 _ _ kp), lo2.vs⟩, ?_, ?_⟩
      · rw [Trm.sizeL_app]; simp only [Trm.sizeL, Trm.size]; omega
      · rw [List.length_append, List.length_singleton]; omega
    walk_at "stp"
    refine iteB (fun e => ?_) (fun e => ?_)
    · walk_at "stp"
      refine ⟨.inl ⟨rfl, _, SqL.of kp⟩, ?_⟩
      walk_at "stp"
      refine mLen_l (s1.seq hX) ?_
      walk_at "stp"
      rw [List.length_map]
      refine m2_i (show (0 : Int) < (xs.length : Int) by omega) ?_
      walk_at "stp"
      have b1 := Int.emod_nonneg (c / 7) (show (xs.length : Int) ≠ 0 by omega)
      have b2 := Int.emod_lt_of_pos (c / 7) (show (0 : Int) < (xs.length : Int) by omega)
      obtain ⟨v, hv, _⟩ := atI_lt (xs := xs.map V.str) b1 (by rw [List.length_map]; exact b2)
      obtain ⟨x, rfl, hx⟩ := strs_at hv
      refine mIx_l (s1.seq hX) hv ?_
      walk_at "stp"
      refine ⟨ln (by show 2 ≤ 100000; decide), fun p2 hp2 => ?_⟩
      have sp2 : Same H' (upd H' p2 (.tup [.str (Str.ofString "any"), .str x])) := same_new hp2 _
      have kp2 : (upd H' p2 (.tup [.str (Str.ofString "any"), .str x])) p2 = some (.tup [.str (Str.ofString "any"), .str x]) := upd_same
      generalize upd H' p2 (.tup [.str (Str.ofString "any"), .str x]) = H2 at sp2 kp2 ⊢
      walk_at "stp"
      refine mAppend_i (sp2 _ _ kp) (ln1 (by omega)) ?_
      have lo2 := (lo.mono sp2).snoc (any_den (SqT.of kp2)) (t := .any x) (by simpa [vin] using hx)
      refine ⟨_, _, _, p, _, ts ++ [.any x], rfl, same_upd (s1.trans sp2) hp, hp, upd_same, ⟨lo2.den.lst (sp2 _ _ kp), lo2.vs⟩, ?_, ?_⟩
      · rw [Trm.sizeL_app]; simp only [Trm.sizeL, Trm.size]; omega
      · rw [List.length_append, List.length_singleton]; omega
    walk_at "stp"
    refine mLen_l (SqL.of kp) ?_
    walk_at "stp"
    obtain ⟨mn, hmn, hm1⟩ : ∃ mn : Nat, (if (us.length : Int) < c / 7 % 5 then (us.length : Int) else c / 7 % 5) = (mn : Int) ∧ mn ≤ us.length := by
      split
      · exact ⟨us.length, rfl, Nat.le_refl _⟩
      · exact ⟨(c / 7 % 5).toNat, by omega, by omega⟩
    rw [hmn]
    refine mLen_l (SqL.of kp) ?_
    walk_at "stp"
    refine mSlL_i (SqL.of kp) (fun p2 hp2 => ?_)
    rw [cut_from _ _ (show (0 : Int) ≤ (us.length : Int) - mn by omega), show ((us.length : Int) - (mn : Int)).toNat = us.length - mn by omega]
    have s2 := same_new hp2 (.lst (us.drop (us.length - mn)))
    have k2 : (upd H' p2 (.lst (us.drop (us.length - mn)))) p2 = some (.lst (us.drop (us.length - mn))) := upd_same
    generalize upd H' p2 (.lst (us.drop (us.length - mn))) = H2 at s2 k2 ⊢
    walk_at "stp"
    refine mTup_l (SqL.of k2) (fun p3 hp3 => ?_)
    have s3 := same_new hp3 (.tup (us.drop (us.length - mn)))
    have k3 : (upd H2 p3 (.tup (us.drop (us.length - mn)))) p3 = some (.tup (us.drop (us.length - mn))) := upd_same
    generalize upd H2 p3 (.tup (us.drop (us.length - mn))) = H3 at s3 k3 ⊢
    have s13 := s2.trans s3
    walk_at "stp"
    refine mLen_l (SqL.of (s13 _ _ kp)) ?_
    walk_at "stp"
    refine mSlL_i (SqL.of (s13 _ _ kp)) (fun p4 hp4 => ?_)
    rw [cut_to _ _ (show (0 : Int) ≤ (us.length : Int) - mn by omega), show ((us.length : Int) - (mn : Int)).toNat = us.length - mn by omega]
    have s4 := same_new hp4 (.lst (us.take (us.length - mn)))
    have k4 : (upd H3 p4 (.lst (us.take (us.length - mn)))) p4 = some (.lst (us.take (us.length - mn))) := upd_same
    generalize upd H3 p4 (.lst (us.take (us.length - mn))) = H4 at s4 k4 ⊢
    walk_at "stp"
    refine ⟨ws, ((s1.trans s13).trans s4).seq hW, w1, w2, w3, fun sg H5 hsg s5 => ?_⟩
    walk_at "stp"
    refine ⟨ln (by show 3 ≤ 100000; decide), fun p6 hp6 => ?_⟩
    have sp6 : Same H5 (upd H5 p6 (.tup [.str (Str.ofString "app"), .str sg, .ref p3])) := same_new hp6 _
    have kp6 : (upd H5 p6 (.tup [.str (Str.ofString "app"), .str sg, .ref p3])) p6 = some (.tup [.str (Str.ofString "app"), .str sg, .ref p3]) := upd_same
    generalize upd H5 p6 (.tup [.str (Str.ofString "app"), .str sg, .ref p3]) = H6 at sp6 kp6 ⊢
    walk_at "stp"
    refine ⟨ln (by show 1 ≤ 100000; decide), fun p7 hp7 => ?_⟩
    have sp7 : Same H6 (upd H6 p7 (.lst [.ref p6])) := same_new hp7 _
    have kp7 : (upd H6 p7 (.lst [.ref p6])) p7 = some (.lst [.ref p6]) := upd_same
    generalize upd H6 p7 (.lst [.ref p6]) = H7 at sp7 kp7 ⊢
    walk_at "stp"
    have s57 := s5.trans (sp6.trans sp7)
    refine mAdd_l (s57 _ _ k4) kp7 (ln (by rw [List.length_take, List.length_singleton]; omega)) (fun p8 hp8 => ?_)
    have s8 := same_new hp8 (.lst (us.take (us.length - mn) ++ [.ref p6]))
    have s48 := s4.trans (s57.trans s8)
    have s18 := s13.trans s48
    have lo8 := lo.mono s18
    have dapp : Den K (upd H7 p8 (.lst (us.take (us.length - mn) ++ [.ref p6]))) (.ref p6) (Trm.app sg (ts.drop (us.length - mn))).data := app_den (SqT.of (s8 _ _ (sp7 _ _ kp6))) (SqT.of (s48 _ _ k3)) (lo8.drop _).den
    walk_at "stp"
    refine ⟨_, _, _, p8, _, ts.take (us.length - mn) ++ [.app sg (ts.drop (us.length - mn))], rfl, s1.trans s18, none_back (s1.trans (s13.trans (s4.trans s57))) hp8, upd_same, (lo8.take _).snoc dapp (by simp only [vin]; exact vinL_iff.mpr (lo8.drop _).vs), ?_, ?_⟩
    · have := sizeL_cut ts (us.length - mn)
      rw [Trm.sizeL_app]
      simp only [Trm.sizeL, Trm.size]
      omega
    · rw [List.length_append, List.length_singleton, List.length_take]
      omega
  · obtain ⟨o4, o5, o6, p, us, ts, rfl, s1, hp, kp, lo, z1, z2⟩ := hP
    rw [List.length_map] at z1 z2
    walk_at "stp"
    refine while_row (fun n σ' J => ∃ (o5 : Option V) (p : Addr) (us : List V) (ts : List Trm), σ' = [some (.ref cp), some (.ref np), some (.ref wp), some (.ref p), o4, o5, o6] ∧ Same H J ∧ J p = some (.lst us) ∧ LeftOk K J us xs ts ∧ Trm.sizeL ts + ts.length ≤ 2 * cs.length ∧ n = ts.length) ts.length ⟨o5, p, us, ts, rfl, s1, kp, lo, by omega, rfl⟩ (fun n σ' J R hP kT kF => ?_)
    obtain ⟨o5, p, us, ts, rfl, s1, kp, lo, z1, z2⟩ := hP
    have lul := lo.len
    walk_at "stp"
    refine mLen_l (SqL.of kp) ?_
    walk_at "stp"
    by_cases hl : 1 < us.length
    · rw [decide_eq_true (by omega)]
      refine kT _ (fun D' f1 f2 hnx hct => ?_)
      walk_at "stp"
      refine mLen_l (SqL.of kp) ?_
      walk_at "stp"
      obtain ⟨mn, hmn, hm1, hm2⟩ : ∃ mn : Nat, (if (us.length : Int) < 4 then (us.length : Int) else 4) = (mn : Int) ∧ mn ≤ us.length ∧ 2 ≤ mn := by
        split
        · exact ⟨us.length, rfl, Nat.le_refl _, by omega⟩
        · exact ⟨4, rfl, by omega, by omega⟩
      rw [hmn]
      refine mLen_l (SqL.of kp) ?_
      walk_at "stp"
      refine mSlL_i (SqL.of kp) (fun p4 hp4 => ?_)
      rw [cut_to _ _ (show (0 : Int) ≤ (us.length : Int) - mn by omega), show ((us.length : Int) - (mn : Int)).toNat = us.length - mn by omega]
      have s4 := same_new hp4 (.lst (us.take (us.length - mn)))
      have k4 : (upd J p4 (.lst (us.take (us.length - mn)))) p4 = some (.lst (us.take (us.length - mn))) := upd_same
      generalize upd J p4 (.lst (us.take (us.length - mn))) = H4 at s4 k4 ⊢
      walk_at "stp"
      obtain ⟨v0, hv0, _⟩ := atI_lt (xs := ws.map V.str) (i := 0) (by decide) (by rw [List.length_map]; omega)
      obtain ⟨sg, rfl, hsg⟩ := strs_at hv0
      refine mIx_l ((s1.trans s4).seq hW) hv0 ?_
      walk_at "stp"
      refine mLen_l (SqL.of (s4 _ _ kp)) ?_
      walk_at "stp"
      refine mSlL_i (SqL.of (s4 _ _ kp)) (fun p2 hp2 => ?_)
      rw [cut_from _ _ (show (0 : Int) ≤ (us.length : Int) - mn by omega), show ((us.length : Int) - (mn : Int)).toNat = us.length - mn by omega]
      have s2 := same_new hp2 (.lst (us.drop (us.length - mn)))
      have k2 : (upd H4 p2 (.lst (us.drop (us.length - mn)))) p2 = some (.lst (us.drop (us.length - mn))) := upd_same
      generalize upd H4 p2 (.lst (us.drop (us.length - mn))) = H2 at s2 k2 ⊢
      walk_at "stp"
      refine mTup_l (SqL.of k2) (fun p3 hp3 => ?_)
      have s3 := same_new hp3 (.tup (us.drop (us.length - mn)))
      have k3 : (upd H2 p3 (.tup (us.drop (us.length - mn)))) p3 = some (.tup (us.drop (us.length - mn))) := upd_same
      generalize upd H2 p3 (.tup (us.drop (us.length - mn))) = H3 at s3 k3 ⊢
      walk_at "stp"
      refine ⟨ln (by show 3 ≤ 100000; decide), fun p6 hp6 => ?_⟩
      have sp6 : Same H3 (upd H3 p6 (.tup [.str (Str.ofString "app"), .str sg, .ref p3])) := same_new hp6 _
      have kp6 : (upd H3 p6 (.tup [.str (Str.ofString "app"), .str sg, .ref p3])) p6 = some (.tup [.str (Str.ofString "app"), .str sg, .ref p3]) := upd_same
      generalize upd H3 p6 (.tup [.str (Str.ofString "app"), .str sg, .ref p3]) = H6 at sp6 kp6 ⊢
      walk_at "stp"
      refine ⟨ln (by show 1 ≤ 100000; decide), fun p7 hp7 => ?_⟩
      have sp7 : Same H6 (upd H6 p7 (.lst [.ref p6])) := same_new hp7 _
      have kp7 : (upd H6 p7 (.lst [.ref p6])) p7 = some (.lst [.ref p6]) := upd_same
      generalize upd H6 p7 (.lst [.ref p6]) = H7 at sp7 kp7 ⊢
      walk_at "stp"
      have s37 := sp6.trans sp7
      have s27 := s2.trans (s3.trans s37)
      refine mAdd_l (s27 _ _ k4) kp7 (ln (by rw [List.length_take, List.length_singleton]; omega)) (fun p8 hp8 => ?_)
      have s8 := same_new hp8 (.lst (us.take (us.length - mn) ++ [.ref p6]))
      have s18 := s4.trans (s27.trans s8)
      have lo8 := lo.mono s18
      have dapp : Den K (upd H7 p8 (.lst (us.take (us.length - mn) ++ [.ref p6]))) (.ref p6) (Trm.app sg (ts.drop (us.length - mn))).data := app_den (SqT.of (s8 _ _ (sp7 _ _ kp6))) (SqT.of (s8 _ _ (s37 _ _ k3))) (lo8.drop _).den
      walk_at "stp"
      refine hnx _ _ (ts.length - mn + 1) (by omega) ⟨_, p8, _, ts.take (us.length - mn) ++ [.app sg (ts.drop (us.length - mn))], rfl, s1.trans s18, upd_same, (lo8.take _).snoc dapp (by simp only [vin]; exact vinL_iff.mpr (lo8.drop _).vs), ?_, ?_⟩
      · have := sizeL_cut ts (us.length - mn)
        rw [Trm.sizeL_app, List.length_append, List.length_singleton, List.length_take]
        simp only [Trm.sizeL, Trm.size]
        omega
      · rw [List.length_append, List.length_singleton, List.length_take]
        omega
    · rw [decide_eq_false (by omega)]
      refine kF _ ?_
      walk_at "stp"
      refine mLen_l (SqL.of kp) ?_
      walk_at "stp"
      match ts, us, lo, kp, lul, hl, z1 with
      | [], us, lo, kp, lul, hl, z1 =>
        refine iteB (fun e => ?_) (fun e => by have := of_decide_eq_false (xor_n e); simp at lul; simp [lul] at this)
        walk_at "stp"
        refine ⟨ln (by show 2 ≤ 100000; decide), fun p9 hp9 => ?_⟩
        exact q _ (.num 0) _ (s1.trans (same_new hp9 _)) (num_den (SqT.of upd_same)) (by simp [vin]) (by simp [Trm.size])
      | [t0], us, lo, kp, lul, hl, z1 =>
        match us, lo, kp, lul with
        | [u0], lo, kp, _ =>
        refine iteB (fun e => by have := of_decide_eq_true (xor_n e); simp at this) (fun e => ?_)
        walk_at "stp"
        refine mIx_l (SqL.of kp) (v := u0) rfl ?_
        have d0 := lo.den
        simp only [Trm.dataL] at d0
        cases d0 with
        | cons d1 d2 =>
          refine q _ t0 _ s1 d1 (lo.vs t0 (by simp)) ?_
          simp only [Trm.sizeL, List.length_singleton] at z1
          omega
      | _ :: _ :: _, us, lo, kp, lul, hl, z1 =>
        simp only [List.length_cons] at lul
        omega
end
mutual
inductive Full (rows : Rws) : Trm → Trm → Prop
  | num (n : Int) : Full rows (.num n) (.num n)
  | no {x : Str} : lookR rows x = none → Full rows (.any x) (.any x)
  | yes {x : Str} {u t : Trm} : lookR rows x = some u → Full rows u t → Full rows (.any x) t
  | app {s : Str} {ks ls : List Trm} : FullL rows ks ls → Full rows (.app s ks) (.app s ls)
inductive FullL (rows : Rws) : List Trm → List Trm → Prop
  | nil : FullL rows [] []
  | cons {t t' : Trm} {r r' : List Trm} : Full rows t t' → FullL rows r r' → FullL rows (t :: r) (t' :: r')
end
inductive Wlk (rows : Rws) : Nat → Trm → Trm → Prop
  | stop {t : Trm} : (∀ x, t = .any x → lookR rows x = none) → Wlk rows 0 t t
  | step {n : Nat} {x : Str} {u t : Trm} : lookR rows x = some u → Wlk rows n u t → Wlk rows (n + 1) (.any x) t
noncomputable def hnf (rows : Rws) (u : Trm) : Prop := ∀ x, u = .any x → lookR rows x = none
theorem Wlk.hnf {rows : Rws} : ∀ {n : Nat} {t u : Trm}, Wlk rows n t u → hnf rows u
  | _, _, _, .stop h => h
  | _, _, _, .step _ w => w.hnf
theorem Full.walk {rows : Rws} : ∀ {t t' : Trm}, Full rows t t' → ∃ n u, Wlk rows n t u ∧ Full rows u t'
  | _, _, .num n => ⟨0, _, .stop (fun x h => by cases h), .num n⟩
  | _, _, .no h => ⟨0, _, .stop (fun x e => by cases e; exact h), .no h⟩
  | _, _, .yes h f => by
    obtain ⟨n, u, w, g⟩ := f.walk
    exact ⟨n + 1, u, .step h w, g⟩
  | _, _, .app h => ⟨0, _, .stop (fun x e => by cases e), .app h⟩
theorem Wlk.size {rows : Rws} {B : Nat} (hr : ∀ r ∈ rows, r.2.size ≤ B) : ∀ {n : Nat} {t u : Trm}, Wlk rows n t u → t.size ≤ B → u.size ≤ B
  | _, _, _, .stop _, h => h
  | _, _, _, .step e w, _ => w.size hr (hr _ (look_mem e))
theorem FullL.len {rows : Rws} : ∀ {a b : List Trm}, FullL rows a b → a.length = b.length
  | _, _, .nil => rfl
  | _, _, .cons _ r => by rw [List.length_cons, List.length_cons, r.len]
theorem FullL.append {rows : Rws} : ∀ {a b c d : List Trm}, FullL rows a b → FullL rows c d → FullL rows (a ++ c) (b ++ d)
  | _, _, _, _, .nil, h => h
  | _, _, _, _, .cons x r, h => .cons x (r.append h)
theorem FullL.snoc {rows : Rws} : ∀ {a : List Trm} {x : Trm} {b : List Trm}, FullL rows (a ++ [x]) b → ∃ b' y, b = b' ++ [y] ∧ FullL rows a b' ∧ Full rows x y
  | [], x, _, .cons h .nil => ⟨[], _, rfl, .nil, h⟩
  | _ :: a, x, _, .cons h r => by
    obtain ⟨b', y, rfl, h1, h2⟩ := FullL.snoc (a := a) r
    exact ⟨_ :: b', y, rfl, .cons h h1, h2⟩
theorem kids_small {s : Str} {ks : List Trm} {B : Nat} (h : (Trm.app s ks).size ≤ B) : ∀ t ∈ ks, t.size ≤ B := fun t ht => by
  obtain ⟨a, b, rfl⟩ := List.append_of_mem ht
  simp only [Trm.size, Trm.sizeL_app, Trm.sizeL] at h
  omega
theorem nil_or_snoc' {α : Type} (l : List α) : l = [] ∨ ∃ r x, l = r ++ [x] := by
  cases l.eq_nil_or_concat with
  | inl h => exact .inl h
  | inr h => obtain ⟨r, x, h⟩ := h; exact .inr ⟨r, x, by simpa using h⟩
theorem q1 : decide (numS = anyS) = false := by decide +kernel
theorem q2 : decide (appS = anyS) = false := by decide +kernel
theorem q3 : decide (anyS = anyS) = true := by decide +kernel
theorem q4 : decide (numS = appS) = false := by decide +kernel
theorem q5 : decide (anyS = appS) = false := by decide +kernel
theorem q6 : decide (appS = appS) = true := by decide +kernel
theorem q7 : decide (numS = numS) = true := by decide +kernel
theorem q8 : decide (appS = numS) = false := by decide +kernel
structure PutAt (K : PySem.W.Frag) (H : Hp) (a : Addr) (rows : Rws) : Prop where
  ex : ∃ kvs, H a = some (.dK kvs) ∧ PutsOk K H kvs rows
theorem PutAt.mono {K : PySem.W.Frag} {H H' : Hp} {a : Addr} {rows : Rws} (h : PutAt K H a rows) (s : Same H H') : PutAt K H' a rows := by
  obtain ⟨kvs, h1, h2⟩ := h.ex
  exact ⟨kvs, s _ _ h1, h2.mono s⟩
theorem PutAt.lst {K : PySem.W.Frag} {H : Hp} {a p : Addr} {rows : Rws} {ys : List V} {o : HO} (h : PutAt K H a rows) (hp : H p = some (.lst ys)) : PutAt K (upd H p o) a rows := by
  obtain ⟨kvs, h1, h2⟩ := h.ex
  refine ⟨kvs, ?_, h2.monoT (tup_lst hp)⟩
  rw [upd_ne (fun z => by rw [z, hp] at h1; cases h1)]
  exact h1
theorem PutAt.get {K : PySem.W.Frag} {H : Hp} {a : Addr} {rows : Rws} (h : PutAt K H a rows) (x : Str) : (lookR rows x = none ∧ DGet H a (.str x) none) ∨ ∃ t v, lookR rows x = some t ∧ DGet H a (.str x) (some v) ∧ Den K H v t.data := by
  obtain ⟨kvs, h1, h2⟩ := h.ex
  rcases h2.get x with ⟨c1, c2⟩ | ⟨t, v, c1, c2, c3⟩
  · refine .inl ⟨c1, ?_⟩
    have := DGet.k (k := Sum.inr x) h1
    rw [c2] at this
    exact this
  · refine .inr ⟨t, v, c1, ?_, c3⟩
    have := DGet.k (k := Sum.inr x) h1
    rw [c2] at this
    exact this
noncomputable abbrev sp_walked (K : PySem.W.Frag) : Sp := fun vs H Q _ => match vs with | [v, .ref pd] => ∃ (rows : Rws) (t : Trm) (n : Nat) (u : Trm), PutAt K H pd rows ∧ Den K H v t.data ∧ Wlk rows n t u ∧ ∀ v', Den K H v' u.data → Q v' H | _ => False
noncomputable def upTo (n : Nat) (most : Int) : Int := if (n : Int) ≤ most then n else most + 1
noncomputable abbrev sp_parts_up_to (K : PySem.W.Frag) : Sp := fun vs H Q _ => match vs with | [v, .ref pd, .int most] => ∃ (rows : Rws) (t t' : Trm), PutAt K H pd rows ∧ Den K H v t.data ∧ Full rows t t' ∧ t.size ≤ 70 ∧ (∀ r ∈ rows, r.2.size ≤ 70) ∧ 0 ≤ most ∧ most ≤ 1000 ∧ ∀ H', Same H H' → Q (.int (upTo t'.size most)) H' | _ => False
mutual
noncomputable def wsz (sz : Str → Nat) : Trm → Nat
  | .num _ => 1
  | .any x => sz x
  | .app _ ks => 1 + wszL sz ks
noncomputable def wszL (sz : Str → Nat) : List Trm → Nat
  | [] => 0
  | t :: r => wsz sz t + wszL sz r
end
mutual
theorem wsz_le {sz : Str → Nat} {M : Nat} (h1 : 1 ≤ M) (h : ∀ x, sz x ≤ M) : ∀ t : Trm, wsz sz t ≤ t.size * M
  | .num _ => by simp only [wsz, Trm.size]; omega
  | .any x => by simp only [wsz, Trm.size]; have := h x; omega
  | .app _ ks => by
    have := wszL_le h1 h ks
    simp only [wsz, Trm.size]
    rw [Nat.add_mul]
    omega
theorem wszL_le {sz : Str → Nat} {M : Nat} (h1 : 1 ≤ M) (h : ∀ x, sz x ≤ M) : ∀ ts : List Trm, wszL sz ts ≤ Trm.sizeL ts * M
  | [] => by simp [wszL]
  | t :: r => by
    have h2 := wsz_le h1 h t
    have h3 := wszL_le h1 h r
    simp only [wszL, Trm.sizeL]
    rw [Nat.add_mul]
    omega
end
theorem wszL_map (sz : Str → Nat) : ∀ ts : List Trm, (ts.map fun t => (wsz sz t : Int)).sum = (wszL sz ts : Int)
  | [] => rfl
  | t :: r => by rw [List.map_cons, List.sum_cons, wszL_map sz r]; simp only [wszL]; omega
noncomputable def SzAt (H : Hp) (a : Addr) (m : Nat) (sz : Str → Nat) : Prop := ∃ kvs : List (Key × V), H a = some (.dK kvs) ∧ kvs.length ≤ m ∧ ∀ x, (valV kvs (Sum.inr x) = none ∧ sz x = 1) ∨ valV kvs (Sum.inr x) = some (.int (sz x))
theorem SzAt.mono {H H' : Hp} {a : Addr} {m : Nat} {sz : Str → Nat} (h : SzAt H a m sz) (s : Same H H') : SzAt H' a m sz := by
  obtain ⟨kvs, h1, h2⟩ := h
  exact ⟨kvs, s _ _ h1, h2⟩
theorem SzAt.get {H : Hp} {a : Addr} {m : Nat} {sz : Str → Nat} (h : SzAt H a m sz) (x : Str) : ∃ o, DGet H a (.str x) o ∧ o.getD (.int 1) = .int (sz x) := by
  obtain ⟨kvs, h1, _, h3⟩ := h
  refine ⟨_, DGet.k (k := Sum.inr x) h1, ?_⟩
  rcases h3 x with ⟨e1, e2⟩ | e
  · rw [e1, e2]; rfl
  · rw [e]; rfl
theorem SzAt.isD {H : Hp} {a : Addr} {m : Nat} {sz : Str → Nat} (h : SzAt H a m sz) : IsD H a := by
  obtain ⟨kvs, h1, _⟩ := h
  exact .inl ⟨kvs, .inl h1⟩
theorem SzAt.put {H : Hp} {a : Addr} {m : Nat} {sz : Str → Nat} (h : SzAt H a m sz) (hm : m ≤ 5000) (x : Str) (n : Nat) : ∃ H', DPut H a (.str x) (.int n) H' ∧ SzAt H' a (m + 1) (fun y => if y = x then n else sz y) ∧ ∃ o, H' = upd H a o := by
  obtain ⟨kvs, h1, h2, h3⟩ := h
  refine ⟨_, .inl ⟨kvs, Sum.inr x, h1, rfl, ln1 (by omega), rfl⟩, ⟨_, upd_same, ?_, fun y => ?_⟩, _, rfl⟩
  · unfold putK
    split
    · rw [List.length_map]; omega
    · rw [List.length_append, List.length_singleton]; omega
  · rw [valV_put]
    dsimp only
    by_cases e : y = x
    · subst e
      rw [if_pos rfl, if_pos rfl]
      exact .inr rfl
    · rw [if_neg (fun z => e (Sum.inr.inj z)), if_neg e]
      exact h3 y
noncomputable def SzF (rows : Rws) (sz : Str → Nat) (ys : List Str) : Prop := ∀ x ∈ ys, ∃ t', Full rows (.any x) t' ∧ sz x = t'.size
mutual
theorem full_of {rows : Rws} {sz : Str → Nat} {ys : List Str} (h : SzF rows sz ys) : ∀ t : Trm, vin ys t → ∃ t', Full rows t t' ∧ wsz sz t = t'.size
  | .num n, _ => ⟨_, .num n, by simp [wsz, Trm.size]⟩
  | .any x, hv => by
    obtain ⟨t', h1, h2⟩ := h x (by simpa [vin] using hv)
    exact ⟨t', h1, by simpa [wsz] using h2⟩
  | .app s ks, hv => by
    obtain ⟨ls, h1, h2⟩ := fullL_of h ks (by simpa [vin] using hv)
    exact ⟨_, .app h1, by simp [wsz, Trm.size, h2]⟩
theorem fullL_of {rows : Rws} {sz : Str → Nat} {ys : List Str} (h : SzF rows sz ys) : ∀ ts : List Trm, vinL ys ts → ∃ ls, FullL rows ts ls ∧ wszL sz ts = Trm.sizeL ls
  | [], _ => ⟨[], .nil, by simp [wszL, Trm.sizeL]⟩
  | t :: r, hv => by
    simp only [vinL] at hv
    obtain ⟨t', h1, h2⟩ := full_of h t hv.1
    obtain ⟨ls, h3, h4⟩ := fullL_of h r hv.2
    exact ⟨t' :: ls, .cons h1 h3, by simp [wszL, Trm.sizeL, h2, h4]⟩
end
mutual
theorem vin_mono {xs ys : List Str} (h : ∀ x ∈ xs, x ∈ ys) : ∀ t : Trm, vin xs t → vin ys t
  | .num _, _ => by simp [vin]
  | .any x, hv => by simp only [vin] at hv ⊢; exact h x hv
  | .app _ ks, hv => by simp only [vin] at hv ⊢; exact vinL_mono h ks hv
theorem vinL_mono {xs ys : List Str} (h : ∀ x ∈ xs, x ∈ ys) : ∀ ts : List Trm, vinL xs ts → vinL ys ts
  | [], _ => by simp [vinL]
  | t :: r, hv => by simp only [vinL] at hv ⊢; exact ⟨vin_mono h t hv.1, vinL_mono h r hv.2⟩
end
noncomputable def OrdX (xs ex : List Str) (rows : Rws) : Prop := ∀ (j : Nat) (x : Str) (t : Trm), xs[j]? = some x → lookR rows x = some t → vin (xs.drop (j + 1) ++ ex) t ∧ t.size ≤ 8
noncomputable abbrev sp_l_size (K : PySem.W.Frag) (n : Nat) : Sp := fun vs H Q _ => match vs with | [v, .ref ps] => ∃ (t : Trm) (m : Nat) (sz : Str → Nat), Den K H v t.data ∧ SzAt H ps m sz ∧ (∀ x, sz x ≤ 1073741824) ∧ t.size ≤ n ∧ n ≤ 1000 ∧ ∀ H', Same H H' → Q (.int (wsz sz t)) H' | _ => False
theorem no_l_size {K : PySem.W.Frag} {H : Hp} {v : V} {ps : Addr} {R : Trm → (Str → Nat) → Prop} (h : ∃ (t : Trm) (m : Nat) (sz : Str → Nat), Den K H v t.data ∧ SzAt H ps m sz ∧ (∀ x, sz x ≤ 1073741824) ∧ t.size ≤ 0 ∧ 0 ≤ 1000 ∧ R t sz) : False := by
  obtain ⟨t, _, _, _, _, _, z, _⟩ := h
  have := Trm.size_pos t
  omega
noncomputable abbrev sp_l_sizes (K : PySem.W.Frag) : Sp := fun vs H Q _ => match vs with | [.ref np, .ref pd] => ∃ (xs ex : List Str) (rows : Rws), SqL K H np (xs.map V.str) ∧ xs.Nodup ∧ xs.length ≤ 9 ∧ PutAt K H pd rows ∧ OrdX xs ex rows ∧ (∀ e ∈ ex, lookR rows e = none ∧ e ∉ xs) ∧ ∀ (p : Addr) (sz : Str → Nat) (H' : Hp), H p = none → Same H H' → SzAt H' p 9 sz → SzF rows sz (xs ++ ex) → (∀ x, sz x ≤ 134217728) → Q (.ref p) H' | _ => False
noncomputable def PR (K : PySem.W.Frag) (H : Hp) (us : List V) (rows : Rws) : Prop := Paired (fun (u : V) (q : Str × Trm) => ∃ (T : Addr) (v : V), u = .ref T ∧ SqT K H T [.str q.1, v] ∧ Den K H v q.2.data) us rows
theorem PR.mono {K : PySem.W.Frag} {H H' : Hp} {us : List V} {rows : Rws} (h : PR K H us rows) (s : Same H H') : PR K H' us rows := Paired.mapP h fun _ _ ⟨T, v, e, a, b⟩ => ⟨T, v, e, s.tup a, b.mono s⟩
theorem PR.lst {K : PySem.W.Frag} {H : Hp} {p : Addr} {ys us : List V} {o : HO} {rows : Rws} (h : PR K H us rows) (hp : H p = some (.lst ys)) : PR K (upd H p o) us rows := Paired.mapP h fun _ _ ⟨T, v, e, a, b⟩ => ⟨T, v, e, tup_lst hp _ _ a, b.lst hp⟩
theorem paired_app {α β : Type} {F : α → β → Prop} : ∀ {a : List α} {b : List β} {c : List α} {d : List β}, Paired F a b → Paired F c d → Paired F (a ++ c) (b ++ d)
  | _, _, _, _, .nil, h => h
  | _, _, _, _, .cons x r, h => .cons x (paired_app r h)
theorem paired_rev {α β : Type} {F : α → β → Prop} : ∀ {a : List α} {b : List β}, Paired F a b → Paired F a.reverse b.reverse
  | _, _, .nil => .nil
  | _, _, .cons x r => by
    rw [List.reverse_cons, List.reverse_cons]
    exact paired_app (paired_rev r) (.cons x .nil)
theorem PR.out {K : PySem.W.Frag} {H : Hp} : ∀ {us : List V} {rows : Rws}, PR K H us rows → ∃ rs : List (Str × V), PairsAt K H us rs ∧ rs.map (·.1) = rows.map (·.1) ∧ PutsOk K H (rs.map fun r => (Sum.inr r.1, r.2)) rows
  | _, _, .nil => ⟨[], ⟨[], rfl, rfl, fun i T k v h => by simp at h⟩, rfl, .nil⟩
  | _, _, .cons (b := q) ⟨T, v, e, a, b⟩ r => by
    obtain ⟨rs, ⟨ts, h1, h2, h3⟩, h4, h5⟩ := PR.out r
    refine ⟨(q.1, v) :: rs, ⟨T :: ts, by rw [e, h1]; rfl, by simp [h2], fun i T' k w h6 h7 => ?_⟩, by rw [List.map_cons, List.map_cons, h4], .cons ⟨rfl, b⟩ h5⟩
    cases i with
    | zero =>
      have h6 : T = T' := by simpa using h6
      have h7 : (q.1, v) = (k, w) := by simpa using h7
      cases h7
      subst h6
      exact a
    | succ i => exact h3 i T' k w (by simpa using h6) (by simpa using h7)
structure RowsIn (xs : List Str) (i : Nat) (rows : Rws) : Prop where
  each : ∀ r ∈ rows, ∃ j, j < i ∧ xs[j]? = some r.1 ∧ vin (xs.drop (j + 1)) r.2 ∧ r.2.size ≤ 8
  nod : (rows.map (·.1)).Nodup
  len : rows.length ≤ i
theorem RowsIn.snoc {xs : List Str} {i : Nat} {rows : Rws} {x : Str} {t : Trm} (hn : xs.Nodup) (h : RowsIn xs i rows) (hx : xs[i]? = some x) (hv : vin (xs.drop (i + 1)) t) (hz : t.size ≤ 8) : RowsIn xs (i + 1) (rows ++ [(x, t)]) := by
  refine ⟨fun r hr => ?_, ?_, by rw [List.length_append, List.length_singleton]; have := h.len; omega⟩
  · rcases List.mem_append.mp hr with z | z
    · obtain ⟨j, a, b⟩ := h.each r z
      exact ⟨j, by omega, b⟩
    · rw [List.mem_singleton.mp z]
      exact ⟨i, by omega, hx, hv, hz⟩
  · rw [List.map_append]
    refine List.nodup_append.mpr ⟨h.nod, by simp, fun a ha b hb e => ?_⟩
    have hb : b = x := by simpa using hb
    obtain ⟨r, hr, rfl⟩ := List.mem_map.mp ha
    obtain ⟨j, j1, j2, _⟩ := h.each r hr
    rw [e, hb, ← hx] at j2
    have := (List.getElem?_inj (List.getElem?_eq_some_iff.mp hx).1 hn).mp j2.symm
    omega
theorem RowsIn.next {xs : List Str} {i : Nat} {rows : Rws} (h : RowsIn xs i rows) : RowsIn xs (i + 1) rows := ⟨fun r hr => by obtain ⟨j, a, b⟩ := h.each r hr; exact ⟨j, by omega, b⟩, h.nod, by have := h.len; omega⟩
theorem RowsIn.rev {xs : List Str} {i : Nat} {rows : Rws} (h : RowsIn xs i rows) : RowsIn xs i rows.reverse := ⟨fun r hr => h.each r (List.mem_reverse.mp hr), by rw [List.map_reverse]; exact List.pairwise_reverse.mpr (List.Pairwise.imp (fun hab => Ne.symm hab) h.nod), by rw [List.length_reverse]; exact h.len⟩
theorem RowsIn.ord {xs : List Str} {i : Nat} {rows : Rws} (ex : List Str) (hn : xs.Nodup) (h : RowsIn xs i rows) : OrdX xs ex rows := fun j x t hj hl => by
  obtain ⟨k, k1, k2, k3, k4⟩ := h.each _ (look_mem hl)
  have k2 : xs[k]? = some x := k2
  have := (List.getElem?_inj (List.getElem?_eq_some_iff.mp hj).1 hn).mp (hj.trans k2.symm)
  subst this
  exact ⟨vin_mono (fun y hy => List.mem_append_left _ hy) _ k3, k4⟩
noncomputable abbrev sp_l_puts (K : PySem.W.Frag) : Sp := fun vs H Q _ => match vs with | [.ref a, .ref np, .ref wp, .int st] => ∃ (ns : List Int) (xs ws : List Str), SqL K H a (ns.map V.int) ∧ (∀ n ∈ ns, Builtin.Int.intBits n ≤ 1048576) ∧ SqL K H np (xs.map V.str) ∧ xs.Nodup ∧ xs.length = 9 ∧ SqL K H wp (ws.map V.str) ∧ 1 ≤ ws.length ∧ ws.length ≤ 10 ∧ (∀ x ∈ ws, x.length ≤ 30) ∧ 0 ≤ st ∧ st ≤ 100 ∧ ∀ (p : Addr) (rows : Rws) (H' : Hp), Same H H' → PutAt K H' p rows → RowsIn xs 7 rows → Q (.ref p) H' | _ => False
theorem butD_tup {K : PySem.W.Frag} {p : Addr} {H H' : Hp} {kv : List (Key × V)} (e : But p H H') (hp : H p = some (.dK kv)) : ∀ a xs, SqT K H a xs → SqT K H' a xs := fun a xs h => by
  rcases h with (h | ⟨o, h⟩) | h
  · exact .inl (.inl (e _ _ (fun z => by rw [z, hp] at h; cases h) h))
  · exact .inl (.inr ⟨o, e _ _ (fun z => by rw [z, hp] at h; cases h) h⟩)
  · exact .inr h
theorem butD_seq {K : PySem.W.Frag} {p : Addr} {H H' : Hp} {kv : List (Key × V)} (e : But p H H') (hp : H p = some (.dK kv)) {a : Addr} {xs : List V} (h : SqL K H a xs) : SqL K H' a xs := by
  rcases h with (h | ⟨o, h⟩) | h
  · exact .inl (.inl (e _ _ (fun z => by rw [z, hp] at h; cases h) h))
  · exact .inl (.inr ⟨o, e _ _ (fun z => by rw [z, hp] at h; cases h) h⟩)
  · exact .inr h
theorem eq_trm {K : PySem.W.Frag} {H : Hp} {Q : VK} {v v' : V} {u : Trm} {n : Bool} (h : Den K H v u.data) (h' : Den K H v' u.data) (hz : u.size ≤ 70) (k : Q (.bl (!n)) H) : dEq K n v v' H Q := by
  obtain ⟨a, us, ds, rfl, h1, h2, e⟩ := den_head h
  obtain ⟨b, us', ds', rfl, g1, g2, e'⟩ := den_head h'
  rw [e] at e'
  injection e' with e'
  subst e'
  have hd := Trm.depth_le u
  rw [e] at hd
  simp only [PyData.depth] at hd
  exact ⟨a, b, us, us', ds, rfl, rfl, .inl ⟨h1, g1⟩, h2, g2, by omega, k⟩
theorem PutAt.butD {K : PySem.W.Frag} {H H' : Hp} {a p : Addr} {rows : Rws} {kv : List (Key × V)} (h : PutAt K H a rows) (b : But p H H') (hp : H p = some (.dK kv)) (hne : a ≠ p) : PutAt K H' a rows := by
  obtain ⟨kvs, h1, h2⟩ := h.ex
  exact ⟨kvs, b _ _ hne h1, h2.monoT (butD_tup b hp)⟩
theorem SzAt.butD {H H' : Hp} {a p : Addr} {m : Nat} {sz : Str → Nat} (h : SzAt H a m sz) (b : But p H H') (hne : a ≠ p) : SzAt H' a m sz := by
  obtain ⟨kvs, h1, h2⟩ := h
  exact ⟨kvs, b _ _ hne h1, h2⟩
theorem butD_at {H H' : Hp} {a p : Addr} {kv : List (Key × V)} {l : List V} (b : But p H H') (hp : H p = some (.dK kv)) (h : H a = some (.lst l)) : H' a = some (.lst l) := b _ _ (fun z => by rw [z, hp] at h; cases h) h
theorem great_nodup : (Str.ofString "ABCDEFGHIJKLMNOPQRSTUVWXYZ").cps.toList.Nodup := by decide +kernel
theorem small_nodup : (Str.ofString "abcdefghijklmnopqrstuvwxyz").cps.toList.Nodup := by decide +kernel
noncomputable abbrev sp_law (K : PySem.W.Frag) : Sp := fun vs H Q _ => match vs with | [.ref a] => ∃ ns : List Int, SqL K H a (ns.map V.int) ∧ ns.length ≤ 63 ∧ (∀ n ∈ ns, Builtin.Int.intBits n ≤ 1048576) ∧ ∀ H', Q (.bl true) H' | _ => False
theorem FullL.get {rows : Rws} : ∀ {ks ls : List Trm} {i : Nat} {k : Trm}, FullL rows ks ls → ks[i]? = some k → ∃ l, ls[i]? = some l ∧ Full rows k l
  | _, _, i, k, .nil, h => by simp at h
  | _, _, 0, k, .cons f _, h => by
    simp only [List.getElem?_cons_zero, Option.some.injEq] at h
    subst h
    exact ⟨_, rfl, f⟩
  | _, _, i + 1, k, .cons _ r, h => by
    obtain ⟨l, h1, h2⟩ := FullL.get r (by simpa using h)
    exact ⟨l, by simpa using h1, h2⟩
theorem size_get {ls : List Trm} {i : Nat} {l : Trm} (h : ls[i]? = some l) : l.size ≤ Trm.sizeL ls := by
  have hi := (List.getElem?_eq_some_iff.mp h).1
  have e := Trm.sizeL_app (ls.take i) (ls.drop i)
  have hl : ls[i] = l := (List.getElem?_eq_some_iff.mp h).2
  rw [List.take_append_drop, List.drop_eq_getElem_cons hi, Trm.sizeL, hl] at e
  omega
noncomputable def onW (K : PySem.W.Frag) (H : Hp) (C : Addr) (Q : VK) (E : XK) (t' : Trm) : Bool → Prop
  | true => ∀ x H', Same H H' → Den K H' x t'.data → Q x H'
  | false => onX H C E
noncomputable abbrev sp_app (K : PySem.W.Frag) : Sp := fun vs H Q _ => match vs with | [.str sg, .ref p] => ∃ us ks, SqL K H p us ∧ DenL K H us (Trm.dataL ks) ∧ ∀ r H', Same H H' → Den K H' (.ref r) (Trm.app sg ks).data → Q (.ref r) H' | _ => False
noncomputable abbrev sp_put_in (K : PySem.W.Frag) (n : Nat) : Sp := fun vs H Q _ => match vs with | [v, .ref pd] => ∃ (rows : Rws) (t t' : Trm), PutAt K H pd rows ∧ Den K H v t.data ∧ Full rows t t' ∧ t'.size ≤ n ∧ n ≤ 100 ∧ ∀ x H', Same H H' → Den K H' x t'.data → Q x H' | _ => False
theorem no_put_in {K : PySem.W.Frag} {H : Hp} {v : V} {pd : Addr} {R : Trm → Prop} (h : ∃ (rows : Rws) (t t' : Trm), PutAt K H pd rows ∧ Den K H v t.data ∧ Full rows t t' ∧ t'.size ≤ 0 ∧ 0 ≤ 100 ∧ R t') : False := by
  obtain ⟨_, _, t', _, _, _, z, _⟩ := h
  have := Trm.size_pos t'
  omega
noncomputable abbrev sp_l_read (K : PySem.W.Frag) (n : Nat) : Sp := fun vs H Q _ => match vs with | [v, .ref pd] => ∃ (rows : Rws) (t t' : Trm), PutAt K H pd rows ∧ Den K H v t.data ∧ Full rows t t' ∧ t'.size ≤ n ∧ n ≤ 100 ∧ ∀ x H', Same H H' → Den K H' x t'.data → Q x H' | _ => False
theorem no_l_read {K : PySem.W.Frag} {H : Hp} {v : V} {pd : Addr} {R : Trm → Prop} (h : ∃ (rows : Rws) (t t' : Trm), PutAt K H pd rows ∧ Den K H v t.data ∧ Full rows t t' ∧ t'.size ≤ 0 ∧ 0 ≤ 100 ∧ R t') : False := by
  obtain ⟨_, _, t', _, _, _, z, _⟩ := h
  have := Trm.size_pos t'
  omega
noncomputable abbrev sp_written_out (K : PySem.W.Frag) (C : Addr) : Sp := fun vs H Q E => match vs with | [v, .ref pd] => ∃ (rows : Rws) (t t' : Trm), PutAt K H pd rows ∧ Den K H v t.data ∧ Full rows t t' ∧ t.size ≤ 70 ∧ (∀ r ∈ rows, r.2.size ≤ 70) ∧ onW K H C Q E t' (decide (t'.size ≤ 40)) | _ => False
noncomputable abbrev sp_l_is_term (K : PySem.W.Frag) : Sp := fun vs H Q _ => match vs with | [v] => ∃ t : Trm, Den K H v t.data ∧ t.size ≤ 1000 ∧ ∀ H', Same H H' → Q (.bl true) H' | _ => False
noncomputable abbrev sp_l_refused (K : PySem.W.Frag) : Sp := fun vs H Q _ => match vs with | [v, .ref pd] => ∃ (rows : Rws) (t t' : Trm), PutAt K H pd rows ∧ Den K H v t.data ∧ Full rows t t' ∧ t.size ≤ 70 ∧ (∀ r ∈ rows, r.2.size ≤ 70) ∧ 40 < t'.size ∧ ∀ H', Same H H' → Q (.bl true) H' | _ => False
structure RowsH (xs ex : List Str) (rows : Rws) : Prop where
  ord : OrdX xs ex rows
  exo : ∀ e ∈ ex, lookR rows e = none ∧ e ∉ xs
  nod : (rows.map (·.1)).Nodup
  big : ∀ r ∈ rows, r.2.size ≤ 70
  len : rows.length ≤ 100
noncomputable abbrev sp_l_written (K : PySem.W.Frag) : Sp := fun vs H Q _ => match vs with | [v, .ref pd, .ref np] => ∃ (xs ex : List Str) (rows : Rws) (t : Trm), SqL K H np (xs.map V.str) ∧ xs.Nodup ∧ xs.length ≤ 9 ∧ PutAt K H pd rows ∧ RowsH xs ex rows ∧ Den K H v t.data ∧ vin (xs ++ ex) t ∧ t.size ≤ 70 ∧ ∀ H', Same H H' → Q (.bl true) H' | _ => False
noncomputable abbrev sp_l_wrapped (K : PySem.W.Frag) : Sp := fun vs H Q _ => match vs with | [v, .ref pd, .ref np, .ref wp, .int c] => ∃ (xs ws : List Str) (rows : Rws) (t : Trm), SqL K H np (xs.map V.str) ∧ xs.Nodup ∧ xs.length ≤ 9 ∧ SqL K H wp (ws.map V.str) ∧ ws.length = 4 ∧ PutAt K H pd rows ∧ RowsH xs [] rows ∧ Den K H v t.data ∧ vin xs t ∧ t.size = 1 ∧ ∀ (x : V) (t2 : Trm) H', Same H H' → Den K H' x t2.data → vin xs t2 → t2.size ≤ 60 → Q x H' | _ => False
section
variable {P : Program} {w : World} {K : PySem.W.Frag} {mg : Str → Option Value} {base : Heap} {t : Ad}
theorem ok_walked (T : Txt K mg t)  : FnOk P w K mg base CX0 1 t.a_walked t.d_walked ["term", "puts"] (sp_walked K) := by
  refine T.F_walked.ok sc_walked (fun vs H Q E h => ?_) (fun cdv A outer s H vs Q E hr h => ?_)
  · unfold sp_walked at h
    split at h
    · rfl
    · exact h.elim
  unfold sp_walked at h
  split at h
  rotate_left
  · exact h.elim
  refine ⟨_, (pss_cons (ps_set (i := 2) sc_walked.nd rfl (by first | exact Or.inl rfl | exact Or.inr rfl) (mv 0)) (pss_cons (ps_while PassesOwn.never (PW.pt (pw_and (mt_cmp mo_eq (pe_ix (ki_seq K rfl) (mv 2) pe_int (fun _ _ => rfl)) pe_str (nomark _)) (pw_and1 (mt_cmp (ko_inD (hu_of hr)) (pe_ix (ki_seq K rfl) (mv 2) pe_int (fun _ _ => rfl)) (mv 1) (by with_unfolding_all rfl))))) (pss_one (ps_set (i := 2) (hs := sw_sub) sc_walked.nd rfl (by first | exact Or.inl rfl | exact Or.inr rfl) (pe_dget (hu_of hr) (mv 1) (pe_ix (ki_seq K rfl) (mv 2) pe_int (fun _ _ => rfl)) (fun _ _ => rfl))))) (pss_one (ps_ret (mv 2))))), ?_⟩
  rename_i v pd
  obtain ⟨rows, t0, n, u, hP, hd, hw, q⟩ := h
  walk_at "stp"
  refine while_row (fun n σ' H' => ∃ (v' : V) (t' : Trm), σ' = [some v, some (.ref pd), some v'] ∧ Den K H v' t'.data ∧ Wlk rows n t' u ∧ H' = H) n ⟨v, t0, rfl, hd, hw, rfl⟩ (fun n σ' H' R hP2 kT kF => ?_)
  obtain ⟨v', t', rfl, hd', hw', rfl⟩ := hP2
  have fin : hnf rows u → Den K H' v' u.data → R false H' := fun hh hdu => by
    refine kF _ ?_
    walk_at "stp"
    exact q _ hdu
  cases hw' with
  | stop hs =>
    cases u with
    | num m =>
      obtain ⟨a, rfl, hs1⟩ := den_num hd'
      walk_at "stp"
      refine mIx_t hs1 (v := .str numS) rfl ?_
      walk_at "stp"
      rw [Bool.false_xor, q1]
      refine iteF ?_
      exact fin hs hd'
    | app sg ks =>
      obtain ⟨a, b, us, rfl, hs1, hb, hk⟩ := den_app hd'
      walk_at "stp"
      refine mIx_t hs1 (v := .str appS) rfl ?_
      walk_at "stp"
      rw [Bool.false_xor, q2]
      refine iteF ?_
      exact fin hs hd'
    | any x =>
      obtain ⟨a, rfl, hs1⟩ := den_any hd'
      walk_at "stp"
      refine mIx_t hs1 (v := .str anyS) rfl ?_
      walk_at "stp"
      rw [Bool.false_xor, q3]
      refine iteT ?_
      walk_at "stp"
      refine mIx_t hs1 (v := .str x) rfl ?_
      walk_at "stp"
      rcases hP.get x with ⟨c1, c2⟩ | ⟨t, w', c1, c2, c3⟩
      · refine ⟨pd, _, rfl, c2, ?_⟩
        walk_at "stp"
        exact fin hs hd'
      · have := hs x rfl
        rw [c1] at this
        cases this
  | step hl hw2 =>
    rename_i m x ux
    obtain ⟨a, rfl, hs1⟩ := den_any hd'
    walk_at "stp"
    refine mIx_t hs1 (v := .str anyS) rfl ?_
    walk_at "stp"
    rw [Bool.false_xor, q3]
    refine iteT ?_
    walk_at "stp"
    refine mIx_t hs1 (v := .str x) rfl ?_
    walk_at "stp"
    rcases hP.get x with ⟨c1, c2⟩ | ⟨t, w', c1, c2, c3⟩
    · rw [hl] at c1
      cases c1
    · rw [hl] at c1
      cases c1
      refine ⟨pd, _, rfl, c2, ?_⟩
      walk_at "stp"
      refine kT _ (fun D' e1 e2 hnx hct => ?_)
      walk_at "stp"
      refine mIx_t hs1 (v := .str x) rfl ?_
      walk_at "stp"
      refine ⟨pd, _, rfl, c2, ?_⟩
      walk_at "stp"
      exact hnx _ _ m (by omega) ⟨_, _, rfl, c3, hw2, rfl⟩
theorem ok_parts_up_to (T : Txt K mg t) (G_walked : FnOk P w K mg base CX0 1 t.a_walked t.d_walked ["term", "puts"] (sp_walked K)) : FnOk P w K mg base CX0 2 t.a_parts_up_to t.d_parts_up_to ["term", "puts", "most"] (sp_parts_up_to K) := by
  refine T.F_parts_up_to.ok sc_parts_up_to (fun vs H Q E h => ?_) (fun cdv A outer s H vs Q E hr h => ?_)
  · unfold sp_parts_up_to at h
    split at h
    · rfl
    · exact h.elim
  unfold sp_parts_up_to at h
  split at h
  rotate_left
  · exact h.elim
  refine ⟨_, (pss_cons (ps_set (i := 3) sc_parts_up_to.nd rfl (by first | exact Or.inl rfl | exact Or.inr rfl) pe_int) (pss_cons (ps_set (i := 4) (hs := sw_lst) sc_parts_up_to.nd rfl (by first | exact Or.inl rfl | exact Or.inr rfl) (pe_lst (pa_con (mv 0) pa_nil))) (pss_cons (ps_while PassesOwn.never (kt_tru K rfl (mv 4)) (pss_cons (ps_if (mt_cmp mo_ge (mv 3) (mv 2) (nomark _)) (pss_one (ps_ret (pe_op (ko_add K rfl) (mv 2) pe_int))) pss_nil) (pss_cons (mps_aug (i := 3) sc_parts_up_to.nd rfl (by first | exact Or.inl rfl | exact Or.inr rfl) pe_int mi_add) (pss_cons (ps_set (i := 5) (hs := sw_call) sc_parts_up_to.nd rfl (by first | exact Or.inl rfl | exact Or.inr rfl) (pe_call G_walked (hr.mono (by first | decide | omega)) rfl T.m_walked T.F_walked.kp T.b_walked .nil pass0 (pa_con (ke_bm0 K rfl PySem.F.plainAttrs_list PySem.F.slot_list_pop PySem.F.type_list_pop mm_pop (mv 4)) (pa_con (mv 1) pa_nil)))) (pss_one (ps_if (mt_cmp mo_eq (pe_ix (ki_seq K rfl) (mv 5) pe_int (fun _ _ => rfl)) pe_str (nomark _)) (pss_one (ps_expr (ke_bm K rfl PySem.F.plainAttrs_list PySem.F.slot_list_extend PySem.F.type_list_extend (km_extend K rfl) (mv 4) (pa_con (pe_ix (ki_seq K rfl) (mv 5) pe_int (fun _ _ => rfl)) pa_nil)))) pss_nil)))))) (pss_one (ps_ret (mv 3)))))), ?_⟩
  rename_i v pd most
  obtain ⟨rows, t0, tf, hP, hd, hf, hz, hrz, hm0, hm1, q⟩ := h
  walk_at "stp"
  refine ⟨ln (by show 1 ≤ 100000; decide), fun p hp => ?_⟩
  have sp : Same H (upd H p (.lst [v])) := same_new hp _
  have kp : (upd H p (.lst [v])) p = some (.lst [v]) := upd_same
  generalize upd H p (.lst [v]) = H1 at sp kp ⊢
  walk_at "stp"
  refine while_row (fun n σ' H' => ∃ (us : List V) (ts ts' : List Trm) (c : Nat) (o : Option V), σ' = [some v, some (.ref pd), some (.int most), some (.int (c : Int)), some (.ref p), o] ∧ H' p = some (.lst us) ∧ DenL K H' us (Trm.dataL ts) ∧ FullL rows ts ts' ∧ c + Trm.sizeL ts' = tf.size ∧ (c : Int) ≤ most ∧ (∀ t ∈ ts, t.size ≤ 70) ∧ ts.length ≤ 1 + 70 * c ∧ n = Trm.sizeL ts' ∧ Same H H') tf.size ⟨[v], [t0], [tf], 0, none, rfl, kp, .cons (hd.mono sp) .nil, .cons hf .nil, by simp [Trm.sizeL], by omega, fun t ht => by rw [List.mem_singleton.mp ht]; exact hz, by simp, by simp [Trm.sizeL], sp⟩ (fun n σ' H' R hP2 kT kF => ?_)
  obtain ⟨us, ts, ts', c, o, rfl, h1, h2, h3, h4, h5, h6, h7, h8, h9⟩ := hP2
  walk_at "stp"
  refine .inl ⟨us, SqL.of h1, ?_⟩
  rcases nil_or_snoc' ts with rfl | ⟨ts0, t1, rfl⟩
  · have e := h2.nil_inv
    subst e
    cases h3
    refine kF H' ?_
    walk_at "stp"
    have e : upTo tf.size most = (c : Int) := by
      simp only [Trm.sizeL] at h4
      unfold upTo
      rw [if_pos (by omega)]
      omega
    rw [e] at q
    exact q H' h9
  · rw [Trm.dataL_map, List.map_append, ← Trm.dataL_map] at h2
    obtain ⟨us', u, rfl, g1, g2⟩ := DenL.snoc h2
    obtain ⟨tb, ty, rfl, f1, f2⟩ := h3.snoc
    rw [Trm.sizeL_app] at h4 h8
    have s1 : Trm.sizeL [ty] = ty.size := by simp [Trm.sizeL]
    rw [s1] at h4 h8
    have typ := ty.size_pos
    have e : (!(us' ++ [u]).isEmpty) = true := by simp
    rw [e]
    refine kT H' (fun D' e1 e2 hnx hct => ?_)
    walk_at "stp"
    refine iteB (fun e => ?_) (fun e => ?_)
    · have hc := of_decide_eq_true e
      walk_at "stp"
      have e : upTo tf.size most = most + 1 := by
        unfold upTo
        rw [if_neg (by omega)]
      rw [e] at q
      rw [e1]
      exact q H' h9
    have hc := of_decide_eq_false e
    have hlen := g1.length
    rw [Trm.dataL_map, List.length_map] at hlen
    rw [List.length_append, List.length_singleton] at h7
    walk_at "stp"
    refine ⟨.inl ⟨rfl, _, SqL.of h1⟩, ?_⟩
    refine mPop_i h1 ?_
    walk_at "stp"
    have f3 : DenL K (upd H' p (.lst us')) us' (Trm.dataL ts0) := g1.lst h1
    have f4 : Den K (upd H' p (.lst us')) u t1.data := g2.lst h1
    have f5 : Same H (upd H' p (.lst us')) := same_upd h9 hp
    have f6 : PutAt K (upd H' p (.lst us')) pd rows := (hP.mono h9).lst h1
    have k6 : (upd H' p (.lst us')) p = some (.lst us') := upd_same
    generalize upd H' p (.lst us') = J at f3 f4 f5 f6 k6 ⊢
    obtain ⟨nw, uw, w1, w2⟩ := f2.walk
    have hzu := w1.size hrz (h6 t1 (by simp))
    refine ⟨rows, t1, nw, uw, f6, f4, w1, fun v' dv => ?_⟩
    have hno := w1.hnf
    walk_at "stp"
    cases uw with
    | num m =>
      obtain ⟨a, rfl, hs⟩ := den_num dv
      cases w2
      refine mIx_t hs (v := .str numS) rfl ?_
      walk_at "stp"
      rw [Bool.false_xor, q4]
      refine iteF ?_
      walk_at "stp"
      exact hnx _ _ (Trm.sizeL tb) (by omega) ⟨us', ts0, tb, c + 1, _, rfl, k6, f3, f1, by simp only [Trm.size] at h4; omega, by omega, fun t ht => h6 t (by simp [ht]), by omega, rfl, f5⟩
    | any x =>
      obtain ⟨a, rfl, hs⟩ := den_any dv
      have hx := hno x rfl
      cases w2 with
      | yes e _ => rw [hx] at e; cases e
      | no _ =>
        refine mIx_t hs (v := .str anyS) rfl ?_
        walk_at "stp"
        rw [Bool.false_xor, q5]
        refine iteF ?_
        walk_at "stp"
        exact hnx _ _ (Trm.sizeL tb) (by omega) ⟨us', ts0, tb, c + 1, _, rfl, k6, f3, f1, by simp only [Trm.size] at h4; omega, by omega, fun t ht => h6 t (by simp [ht]), by omega, rfl, f5⟩
    | app sg ks =>
      obtain ⟨a, b, ku, rfl, hs, hb, hk⟩ := den_app dv
      cases w2 with
      | @app _ _ ls hkl =>
        have hkl2 := hk.length
        rw [Trm.dataL_map, List.length_map] at hkl2
        have hk70 : ks.length ≤ 70 := by
          have := Trm.len_le ks
          simp only [Trm.size] at hzu
          omega
        refine mIx_t hs (v := .str appS) rfl ?_
        walk_at "stp"
        rw [Bool.false_xor, q6]
        refine iteT ?_
        walk_at "stp"
        refine ⟨.inl ⟨rfl, _, SqL.of k6⟩, ?_⟩
        walk_at "stp"
        refine mIx_t hs (v := .ref b) rfl ?_
        walk_at "stp"
        refine mExt_t k6 hb (ln (by omega)) ?_
        simp only [Trm.size] at h4
        refine hnx _ _ (Trm.sizeL (tb ++ ls)) (by rw [Trm.sizeL_app]; simp only [Trm.size] at h8; omega) ⟨us' ++ ku, ts0 ++ ks, tb ++ ls, c + 1, _, rfl, upd_same, ?_, f1.append hkl, by rw [Trm.sizeL_app]; omega, by omega, fun t ht => ?_, by rw [List.length_append]; omega, rfl, same_upd f5 hp⟩
        · rw [Trm.dataL_map, List.map_append, ← Trm.dataL_map, ← Trm.dataL_map]
          exact (f3.append hk).lst k6
        · rcases List.mem_append.mp ht with z | z
          · exact h6 t (by simp [z])
          · exact kids_small hzu t z
theorem ok_app (T : Txt K mg t)  : FnOk P w K mg base CX0 1 t.a_app t.d_app ["sign", "kids"] (sp_app K) := by
  refine T.F_app.ok sc_app (fun vs H Q E h => ?_) (fun cdv A outer s H vs Q E hr h => ?_)
  · unfold sp_app at h
    split at h
    · rfl
    · exact h.elim
  unfold sp_app at h
  split at h
  rotate_left
  · exact h.elim
  refine ⟨_, (pss_one (ps_ret (pe_tup (pa_con pe_str (pa_con (mv 0) (pa_con (pe_callTy (kc_tuple K rfl) rfl T.n_tuple boot_tuple (pa_con (mv 1) pa_nil)) pa_nil)))))), ?_⟩
  rename_i sg p
  obtain ⟨us, ks, hS, hd, q⟩ := h
  walk_at "stp"
  refine mTup_l hS (fun p2 hp2 => ?_)
  have s2 := same_new hp2 (.tup us)
  have k2 : (upd H p2 (.tup us)) p2 = some (.tup us) := upd_same
  generalize upd H p2 (.tup us) = H2 at s2 k2 ⊢
  walk_at "stp"
  refine ⟨ln (by show 3 ≤ 100000; decide), fun p3 hp3 => ?_⟩
  have s3 := same_new hp3 (.tup [.str (Str.ofString "app"), .str sg, .ref p2])
  exact q _ _ (s2.trans s3) (app_den (SqT.of upd_same) (SqT.of (s3 _ _ k2)) (hd.mono (s2.trans s3)))
theorem st_put_in (T : Txt K mg t) (G_walked : FnOk P w K mg base CX0 1 t.a_walked t.d_walked ["term", "puts"] (sp_walked K)) (G_app : FnOk P w K mg base CX0 1 t.a_app t.d_app ["sign", "kids"] (sp_app K)) (n : Nat) (G_put_in : FnOk P w K mg base CX0 (n + 2) t.a_put_in t.d_put_in ["term", "puts"] (sp_put_in K n)) : FnOk P w K mg base CX0 (n + 2 + 1) t.a_put_in t.d_put_in ["term", "puts"] (sp_put_in K (n + 1)) := by
  refine T.F_put_in.ok (k := n + 2) sc_put_in (fun vs H Q E h => ?_) (fun cdv A outer s H vs Q E hr h => ?_)
  · unfold sp_put_in at h
    split at h
    · rfl
    · exact h.elim
  unfold sp_put_in at h
  split at h
  rotate_left
  · exact h.elim
  refine ⟨_, (pss_cons (ps_set (i := 2) (hs := sw_call) sc_put_in.nd rfl (by first | exact Or.inl rfl | exact Or.inr rfl) (pe_call G_walked (hr.mono (by first | decide | omega)) rfl T.m_walked T.F_walked.kp T.b_walked .nil pass0 (pa_con (mv 0) (pa_con (mv 1) pa_nil)))) (pss_cons (ps_if (mt_cmp mo_ne (pe_ix (ki_seq K rfl) (mv 2) pe_int (fun _ _ => rfl)) pe_str (nomark _)) (pss_one (ps_ret (mv 2))) pss_nil) (pss_one (ps_ret (pe_call G_app (hr.mono (by first | decide | omega)) rfl T.m_app T.F_app.kp T.b_app .nil pass0 (pa_con (pe_ix (ki_seq K rfl) (mv 2) pe_int (fun _ _ => rfl)) (pa_con (pe_comp rfl (kpi_tup K rfl (pe_ix (ki_seq K rfl) (mv 2) pe_int (fun _ _ => rfl))) (comp_sc (defScope s_put_in) ["term", "puts", "part"] ["term", "puts", "part"] rfl rfl (by decide +kernel)) (fun _ _ _ _ _ => pts_nil) (fun _ _ _ _ _ => (pe_call G_put_in (hr.mono (by first | decide | omega)) rfl T.m_put_in T.F_put_in.kp T.b_put_in .nil pass0 (pa_con (mv 0) (pa_con (mv 2) pa_nil))))) pa_nil))))))), ?_⟩
  rename_i v pd
  obtain ⟨rows, t0, t', hP0, hd, hf, hz, hn, q⟩ := h
  obtain ⟨nw, u, w1, w2⟩ := hf.walk
  have hno := w1.hnf
  walk_at "stp"
  refine ⟨rows, t0, nw, u, hP0, hd, w1, fun x dx => ?_⟩
  walk_at "stp"
  cases u with
  | num m =>
    obtain ⟨a, rfl, hs⟩ := den_num dx
    cases w2
    refine mIx_t hs (v := .str numS) rfl ?_
    walk_at "stp"
    refine iteB (fun e => ?_) (fun e => absurd e (by decide +kernel))
    walk_at "stp"
    exact q _ _ (Same.refl _) dx
  | any y =>
    obtain ⟨a, rfl, hs⟩ := den_any dx
    have hy := hno y rfl
    cases w2 with
    | yes e _ => rw [hy] at e; cases e
    | no _ =>
      refine mIx_t hs (v := .str anyS) rfl ?_
      walk_at "stp"
      refine iteB (fun e => ?_) (fun e => absurd e (by decide +kernel))
      walk_at "stp"
      exact q _ _ (Same.refl _) dx
  | app sg ks =>
    obtain ⟨a, b, us, rfl, hs, hb, hk⟩ := den_app dx
    cases w2 with
    | @app _ _ ls hkl =>
      have hl := hk.length
      rw [Trm.dataL_map, List.length_map] at hl
      have hll := hkl.len
      have hls := Trm.len_le ls
      simp only [Trm.size] at hz
      refine mIx_t hs (v := .str appS) rfl ?_
      walk_at "stp"
      refine iteB (fun e => absurd e (by decide +kernel)) (fun e => ?_)
      walk_at "stp"
      refine mIx_t hs (v := .str sg) rfl ?_
      walk_at "stp"
      refine mIx_t hs (v := .ref b) rfl ?_
      refine ⟨b, rfl, ⟨_, hb⟩, fun D hD => ?_⟩
      refine comp_row (row_tup (xs := us)) (fun i ys J => Same H J ∧ DenL K J ys (Trm.dataL (ls.take i)) ∧ J D = some (.lst ys)) (ln (by omega)) ⟨same_new hD _, .nil, upd_same⟩ (fun i ys J hP => hP.1.tup hb) (fun i ys J Q' hi' hl' hP k => ?_) (fun ys J hl' hP => ?_)
      · obtain ⟨g1, g2, g3⟩ := hP
        have hki : i < ks.length := by omega
        have hx : us[i]? = some us[i] := List.getElem?_eq_getElem hi'
        have hg : us.getD i .non = us[i] := by rw [List.getD_eq_getElem?_getD, hx]; rfl
        obtain ⟨d, e1, e2⟩ := hk.get hx
        rw [Trm.dataL_map, List.getElem?_map, List.getElem?_eq_getElem hki] at e1
        have e1 : ks[i].data = d := Option.some.inj e1
        subst e1
        obtain ⟨l, l1, l2⟩ := hkl.get (List.getElem?_eq_getElem hki)
        have lz := size_get l1
        walk_at "stp"
        rw [hg]
        refine ⟨rows, ks[i], l, hP0.mono g1, e2.mono g1, l2, by omega, by omega, fun x J2 s2 dx => ?_⟩
        refine k _ _ (s2 _ _ g3) ⟨same_upd (g1.trans s2) hD, ?_, upd_same⟩
        rw [List.take_add_one, l1, Trm.dataL_map, List.map_append, ← Trm.dataL_map]
        exact ((g2.mono s2).append (.cons dx .nil)).lst (s2 _ _ g3)
      obtain ⟨g1, g2, g3⟩ := hP
      rw [List.take_of_length_le (by omega)] at g2
      walk_at "stp"
      exact ⟨ys, ls, SqL.of g3, g2, fun r J2 s2 d2 => q _ _ (g1.trans s2) d2⟩
theorem ok_put_in (T : Txt K mg t) (G_walked : FnOk P w K mg base CX0 1 t.a_walked t.d_walked ["term", "puts"] (sp_walked K)) (G_app : FnOk P w K mg base CX0 1 t.a_app t.d_app ["sign", "kids"] (sp_app K)) (n : Nat) : FnOk P w K mg base CX0 (n + 2) t.a_put_in t.d_put_in ["term", "puts"] (sp_put_in K n) := by
  induction n with
  | zero =>
    have no : ∀ vs H Q E, (sp_put_in K 0) vs H Q E → False := fun vs H Q E h => by
      unfold sp_put_in at h
      split at h
      · exact no_put_in h
      · exact h
    exact ⟨fun vs H Q E h => (no vs H Q E h).elim, fun A outer s H args us vs Q E _ _ _ _ h => (no vs H Q E h).elim⟩
  | succ n ih =>
    have e : n + 1 + 2 = n + 2 + 1 := by omega
    rw [e]
    exact st_put_in T G_walked G_app n ih
theorem ok_written_out (T : Txt K mg t) (G_put_in : FnOk P w K mg base CX0 42 t.a_put_in t.d_put_in ["term", "puts"] (sp_put_in K 40)) (G_parts_up_to : FnOk P w K mg base CX0 2 t.a_parts_up_to t.d_parts_up_to ["term", "puts", "most"] (sp_parts_up_to K)) (G_TrailError_init : FnOk P w K mg base CX0 1 t.a_TrailError_init t.d_TrailError_init ["self", "words", "row"] (sp_TrailError_init K)) : FnOk P w K mg base (CXo P w) 43 t.a_written_out t.d_written_out ["term", "puts"] (sp_written_out K t.k_Big) := by
  refine T.F_written_out.okX sc_written_out (fun vs H Q E h => ?_) (fun cdv A outer s H vs Q E hr h => ?_)
  · unfold sp_written_out at h
    split at h
    · rfl
    · exact h.elim
  unfold sp_written_out at h
  split at h
  rotate_left
  · exact h.elim
  refine ⟨_, (pss_cons (ps_if (mt_cmp mo_gt (pe_call G_parts_up_to (hr.mono (by first | decide | omega)) rfl T.m_parts_up_to T.F_parts_up_to.kp T.b_parts_up_to .nil pass0 (pa_con (mv 0) (pa_con (mv 1) (pa_con (pe_gint rfl T.m_MOST_PARTS) pa_nil)))) (pe_gint rfl T.m_MOST_PARTS) (nomark _)) (pss_one (ps_raise rfl xeOk_cx (pe_xmake T.mk_Big G_TrailError_init (hr.mono (by first | decide | omega)) rfl T.m_Big T.bd_TrailError_init (show Vals [V.int 0] [Value.int 0 t.w_TrailError_init_0] from (.cons ⟨_, rfl⟩ .nil)) pass0 (pa_con (pe_f3i (pe_gint rfl T.m_MOST_PARTS)) pa_nil)))) pss_nil) (pss_one (ps_ret (pe_call G_put_in (hr.mono (by first | decide | omega)) rfl T.m_put_in T.F_put_in.kp T.b_put_in .nil pass0 (pa_con (mv 0) (pa_con (mv 1) pa_nil)))))), ?_⟩
  rename_i v pd
  obtain ⟨rows, t0, t', hP0, hd, hf, hz, hrz, q⟩ := h
  walk_at "stp"
  refine ⟨rows, t0, t', hP0, hd, hf, hz, hrz, by omega, by omega, fun H1 s1 => ?_⟩
  walk_at "stp"
  by_cases h40 : t'.size ≤ 40
  · rw [decide_eq_true h40] at q
    have q : ∀ x H', Same H H' → Den K H' x t'.data → Q x H' := q
    refine iteB (fun e => by have := of_decide_eq_true e; unfold upTo at this; rw [if_pos (by omega)] at this; omega) (fun e => ?_)
    walk_at "stp"
    exact ⟨rows, t0, t', hP0.mono s1, hd.mono s1, hf, h40, by omega, fun x J s2 dx => q x J (s1.trans s2) dx⟩
  · rw [decide_eq_false h40] at q
    have q : onX H t.k_Big E := q
    refine iteB (fun e => ?_) (fun e => by have := of_decide_eq_false e; unfold upTo at this; rw [if_neg (by omega)] at this; omega)
    walk_at "stp"
    refine ⟨40, rfl, by decide +kernel, by decide +kernel, fun z => ?_⟩
    walk_at "stp"
    refine ⟨by simp, fun ea hea => ?_⟩
    refine ⟨t.k_Big, _, true, T.x_Big, T.u_Big, T.at_Big, T.no_Big_row, upd_same, fun H9 b9 => ⟨rfl, ?_⟩⟩
    obtain ⟨dx9, h91, h92, h93⟩ := born_raise hea (Same.refl _) hea b9
    refine ⟨ea, t.k_Big, dx9, _, rfl, T.x_Big, h91, ?_⟩
    exact q ea _ (s1.trans h93) h92
end
section
variable {P : Program} {w : World} {K : PySem.W.Frag} {mg : Str → Option Value} {base : Heap} {t : Ad}
theorem st_l_size (T : Txt K mg t)  (n : Nat) (G_l_size : FnOk P w K mg base CX0 (n + 1) t.a_l_size t.d_l_size ["_law_term_here", "_law_sizes_here"] (sp_l_size K n)) : FnOk P w K mg base CX0 (n + 1 + 1) t.a_l_size t.d_l_size ["_law_term_here", "_law_sizes_here"] (sp_l_size K (n + 1)) := by
  refine T.F_l_size.ok (k := n + 1) sc_l_size (fun vs H Q E h => ?_) (fun cdv A outer s H vs Q E hr h => ?_)
  · unfold sp_l_size at h
    split at h
    · rfl
    · exact h.elim
  unfold sp_l_size at h
  split at h
  rotate_left
  · exact h.elim
  refine ⟨_, (pss_cons (ps_if (mt_cmp mo_eq (pe_ix (ki_seq K rfl) (mv 0) pe_int (fun _ _ => rfl)) pe_str (nomark _)) (pss_one (ps_ret (pe_dget2 (hu_of hr) (mv 1) (pe_ix (ki_seq K rfl) (mv 0) pe_int (fun _ _ => rfl)) pe_int ⟨rfl, rfl, rfl, rfl⟩))) pss_nil) (pss_cons (ps_if (mt_cmp mo_eq (pe_ix (ki_seq K rfl) (mv 0) pe_int (fun _ _ => rfl)) pe_str (nomark _)) (pss_one (ps_ret pe_int)) pss_nil) (pss_one (ps_ret (pe_op (ko_add K rfl) pe_int (pe_callB (kc_sum K rfl rfl) rfl T.n_sum boot_sum (pa_con (pe_comp rfl (kpi_tup K rfl (pe_ix (ki_seq K rfl) (mv 0) pe_int (fun _ _ => rfl))) (comp_sc (defScope s_l_size) ["_law_term_here", "_law_sizes_here"] ["_law_term_here", "_law_sizes_here"] rfl rfl (by decide +kernel)) (fun _ _ _ _ _ => pts_nil) (fun _ _ _ _ _ => (pe_call G_l_size (hr.mono (by first | decide | omega)) rfl T.m_l_size T.F_l_size.kp T.b_l_size .nil pass0 (pa_con (mv 0) (pa_con (mv 2) pa_nil))))) pa_nil))))))), ?_⟩
  rename_i v ps
  obtain ⟨t0, m, sz, hd, hS, hB, hz, hn, q⟩ := h
  cases t0 with
  | any x =>
    obtain ⟨a, rfl, hs⟩ := den_any hd
    walk_at "stp"
    refine mIx_t hs (v := .str anyS) rfl ?_
    walk_at "stp"
    rw [Bool.false_xor, q3]
    refine iteT ?_
    walk_at "stp"
    refine ⟨ps, rfl, hS.isD, ?_⟩
    walk_at "stp"
    refine mIx_t hs (v := .str x) rfl ?_
    walk_at "stp"
    obtain ⟨o, h1, h2⟩ := hS.get x
    refine ⟨o, h1, ?_⟩
    rw [h2]
    have e : wsz sz (.any x) = sz x := by simp [wsz]
    rw [e] at q
    exact q H (Same.refl _)
  | num k =>
    obtain ⟨a, rfl, hs⟩ := den_num hd
    have e : wsz sz (.num k) = 1 := by simp [wsz]
    rw [e] at q
    walk_at "stp"
    refine mIx_t hs (v := .str numS) rfl ?_
    walk_at "stp"
    rw [Bool.false_xor, q1]
    refine iteF ?_
    walk_at "stp"
    refine mIx_t hs (v := .str numS) rfl ?_
    walk_at "stp"
    rw [Bool.false_xor, q7]
    refine iteT ?_
    walk_at "stp"
    exact q H (Same.refl _)
  | app sg ks =>
    obtain ⟨a, b, us, rfl, hs, hb, hk⟩ := den_app hd
    walk_at "stp"
    refine mIx_t hs (v := .str appS) rfl ?_
    walk_at "stp"
    rw [Bool.false_xor, q2]
    refine iteF ?_
    walk_at "stp"
    refine mIx_t hs (v := .str appS) rfl ?_
    walk_at "stp"
    rw [Bool.false_xor, q8]
    refine iteF ?_
    walk_at "stp"
    refine mIx_t hs (v := .ref b) rfl ?_
    refine ⟨b, rfl, ⟨_, hb⟩, fun D hD => ?_⟩
    simp only [Trm.size] at hz
    have hl := hk.length
    rw [Trm.dataL_map, List.length_map] at hl
    have l4 := Trm.len_le ks
    refine comp_row (row_tup (xs := us)) (fun i ys H' => Same H H' ∧ ys = ((ks.take i).map fun t : Trm => V.int (wsz sz t)) ∧ H' D = some (.lst ys)) (ln (by omega)) ⟨same_new hD _, rfl, upd_same⟩ (fun i ys H' hP => hP.1.tup hb) (fun i ys H' Q' hi' hl' hP k => ?_) (fun ys H' hl' hP => ?_)
    · obtain ⟨g1, g2, g3⟩ := hP
      have hki : i < ks.length := by omega
      have hx : us[i]? = some us[i] := List.getElem?_eq_getElem hi'
      have hg : us.getD i .non = us[i] := by rw [List.getD_eq_getElem?_getD, hx]; rfl
      obtain ⟨d, e1, e2⟩ := hk.get hx
      rw [Trm.dataL_map, List.getElem?_map, List.getElem?_eq_getElem hki] at e1
      have e1 : ks[i].data = d := Option.some.inj e1
      subst e1
      walk_at "stp"
      rw [hg]
      have hsz : ks[i].size ≤ Trm.sizeL ks := by
        have e := Trm.sizeL_app (ks.take i) (ks.drop i)
        rw [List.take_append_drop, List.drop_eq_getElem_cons hki, Trm.sizeL] at e
        omega
      refine ⟨ks[i], m, sz, e2.mono g1, hS.mono g1, hB, by omega, by omega, fun H2 s2 => ?_⟩
      refine k _ _ (s2 _ _ g3) ⟨same_upd (g1.trans s2) hD, ?_, upd_same⟩
      rw [g2, List.take_add_one, List.getElem?_eq_getElem hki, List.map_append]
      rfl
    · obtain ⟨g1, g2, g3⟩ := hP
      have e : ks.take us.length = ks := List.take_of_length_le (by omega)
      rw [e] at g2
      have hbd := wszL_le (M := 1073741824) (by decide) hB ks
      walk_at "stp"
      refine ⟨D, ks.map fun t : Trm => (wsz sz t : Int), rfl, SqL.of (by rw [List.map_map]; exact g2 ▸ g3), fun n hn => ?_, ?_, ?_⟩
      · obtain ⟨t, _, rfl⟩ := List.mem_map.mp hn
        omega
      · rw [wszL_map]
        have : Trm.sizeL ks * 1073741824 ≤ 1000 * 1073741824 := Nat.mul_le_mul_right _ (by omega)
        omega
      · walk_at "stp"
        rw [wszL_map]
        have e : (1 : Int) + (wszL sz ks : Int) = ((wsz sz (.app sg ks) : Nat) : Int) := by simp only [wsz]; omega
        rw [e]
        exact q H' g1
theorem ok_l_size (T : Txt K mg t)  (n : Nat) : FnOk P w K mg base CX0 (n + 1) t.a_l_size t.d_l_size ["_law_term_here", "_law_sizes_here"] (sp_l_size K n) := by
  induction n with
  | zero =>
    have no : ∀ vs H Q E, (sp_l_size K 0) vs H Q E → False := fun vs H Q E h => by
      unfold sp_l_size at h
      split at h
      · exact no_l_size h
      · exact h
    exact ⟨fun vs H Q E h => (no vs H Q E h).elim, fun A outer s H args us vs Q E _ _ _ _ h => (no vs H Q E h).elim⟩
  | succ n ih =>
    have e : n + 1 + 1 = n + 1 + 1 := by omega
    rw [e]
    exact st_l_size T  n ih
theorem ok_l_sizes (T : Txt K mg t) (G_l_size : FnOk P w K mg base CX0 71 t.a_l_size t.d_l_size ["_law_term_here", "_law_sizes_here"] (sp_l_size K 70)) : FnOk P w K mg base CX0 72 t.a_l_sizes t.d_l_sizes ["_law_names_here", "_law_puts_here"] (sp_l_sizes K) := by
  refine T.F_l_sizes.ok sc_l_sizes (fun vs H Q E h => ?_) (fun cdv A outer s H vs Q E hr h => ?_)
  · unfold sp_l_sizes at h
    split at h
    · rfl
    · exact h.elim
  unfold sp_l_sizes at h
  split at h
  rotate_left
  · exact h.elim
  refine ⟨_, (pss_cons (ps_set (i := 2) sc_l_sizes.nd rfl (by first | exact Or.inl rfl | exact Or.inr rfl) pe_dnewK) (pss_cons (ps_for PassesOwn.never rfl (kpi_rev K rfl rfl T.n_reversed (pa_con (mv 0) pa_nil)) (pg_name (i := 3) sc_l_sizes.nd rfl (by first | exact Or.inl rfl | exact Or.inr rfl)) (pss_one (ps_if (mt_cmp (ko_inD (hu_of hr)) (mv 3) (mv 1) (by with_unfolding_all rfl)) (pss_one (ps_dput (hu_of hr) (mv 2) (mv 3) (pe_call G_l_size (hr.mono (by first | decide | omega)) rfl T.m_l_size T.F_l_size.kp T.b_l_size .nil pass0 (pa_con (pe_dget (hu_of hr) (mv 1) (mv 3) (fun _ _ => rfl)) (pa_con (mv 2) pa_nil))) rfl)) pss_nil))) (pss_one (ps_ret (mv 2))))), ?_⟩
  rename_i np pd
  obtain ⟨xs, ex, rows, hX, hn, h9, hP, hO, hE, q⟩ := h
  walk_at "stp"
  refine fun ps hps => ?_
  have s1 := same_new hps (.dK [])
  have k1 : SzAt (upd H ps (.dK [])) ps 0 (fun _ => 1) := ⟨[], upd_same, Nat.le_refl _, fun x => .inl ⟨rfl, rfl⟩⟩
  generalize upd H ps (.dK []) = H1 at s1 k1 ⊢
  walk_at "stp"
  refine ⟨np, _, rfl, s1.seq hX, ?_⟩
  refine for_row (row_rev (xs := xs.map V.str)) (fun i σ' H' => ∃ (o : Option V) (sz : Str → Nat), σ' = [some (.ref np), some (.ref pd), some (.ref ps), o] ∧ Same H H' ∧ SzAt H' ps i sz ∧ SzF rows sz (xs.drop (xs.length - i) ++ ex) ∧ (∀ x, sz x ≤ 8 ^ i) ∧ (∀ x, x ∉ xs.drop (xs.length - i) → sz x = 1)) ⟨none, fun _ => 1, rfl, s1, k1, fun x hx => by rw [Nat.sub_zero, List.drop_length, List.nil_append] at hx; exact ⟨_, .no (hE x hx).1, by simp [Trm.size]⟩, fun _ => by simp, fun _ _ => rfl⟩ (fun i σ' H' hP => by obtain ⟨_, _, _, s, _⟩ := hP; exact s.seq hX) (fun i σ' H' hi hP2 => ?_) (fun σ' H' hP2 => ?_)
  · obtain ⟨o, sz, rfl, s2, k2, f2, b2, z2⟩ := hP2
    rw [List.length_map] at hi ⊢
    have hj : xs.length - 1 - i < xs.length := by omega
    have hx0 : (xs.map V.str).getD (xs.length - 1 - i) .non = .str xs[xs.length - 1 - i] := by
      rw [List.getD_eq_getElem?_getD, List.getElem?_map, List.getElem?_eq_getElem hj]; rfl
    rw [hx0]
    have hdr : xs.drop (xs.length - (i + 1)) = xs[xs.length - 1 - i] :: xs.drop (xs.length - i) := by
      rw [show xs.length - (i + 1) = xs.length - 1 - i by omega, List.drop_eq_getElem_cons hj, show xs.length - 1 - i + 1 = xs.length - i by omega]
    have hget : xs[xs.length - 1 - i]? = some xs[xs.length - 1 - i] := List.getElem?_eq_getElem hj
    generalize xs[xs.length - 1 - i] = x at hdr hget ⊢
    have hxn : x ∉ xs.drop (xs.length - i) := by
      have : (xs.drop (xs.length - (i + 1))).Nodup := List.Nodup.sublist (List.drop_sublist _ _) hn
      rw [hdr, List.nodup_cons] at this
      exact this.1
    have hi9 : i < 9 := by omega
    have p8 : 8 ^ i ≤ 8 ^ 9 := Nat.pow_le_pow_right (by decide) (by omega)
    have p1 : 1 ≤ 8 ^ i := by have := Nat.pow_le_pow_right (n := 8) (by decide) (Nat.zero_le i); simpa using this
    have p9 : 8 ^ (i + 1) = 8 ^ i * 8 := Nat.pow_succ 8 i
    walk_at "stp"
    rcases (hP.mono s2).get x with ⟨c1, c2⟩ | ⟨t, w', c1, c2, c3⟩
    · refine ⟨pd, _, rfl, c2, ?_⟩
      walk_at "stp"
      refine iteF ?_
      walk_at "stp"
      refine ⟨_, sz, rfl, s2, ⟨k2.choose, k2.choose_spec.1, by have := k2.choose_spec.2.1; omega, k2.choose_spec.2.2⟩, fun y hy => ?_, fun y => by have := b2 y; omega, fun y hy => ?_⟩
      · rw [hdr, List.cons_append] at hy
        rcases List.mem_cons.mp hy with e | e
        · subst e
          exact ⟨_, .no c1, by rw [z2 _ hxn]; simp [Trm.size]⟩
        · exact f2 y e
      · exact z2 y (fun z => hy (by rw [hdr]; exact List.mem_cons_of_mem _ z))
    · refine ⟨pd, _, rfl, c2, ?_⟩
      walk_at "stp"
      refine iteT ?_
      walk_at "stp"
      refine ⟨pd, _, rfl, c2, ?_⟩
      walk_at "stp"
      obtain ⟨hv, h8⟩ := hO _ x t hget c1
      rw [show xs.length - 1 - i + 1 = xs.length - i by omega] at hv
      obtain ⟨t', g1, g2⟩ := full_of f2 t hv
      have hw := wsz_le p1 b2 t
      have hw8 : wsz sz t ≤ 8 ^ (i + 1) := by
        have : t.size * 8 ^ i ≤ 8 * 8 ^ i := Nat.mul_le_mul_right _ h8
        omega
      refine ⟨t, i, sz, c3, k2, fun y => by have := b2 y; omega, by omega, by omega, fun H3 s3 => ?_⟩
      walk_at "stp"
      obtain ⟨H4, d4, k4, o4, e4⟩ := (k2.mono s3).put (by omega) x (wsz sz t)
      refine ⟨ps, H4, rfl, d4, ?_⟩
      walk_at "stp"
      refine ⟨_, _, rfl, by rw [e4]; exact same_upd (s2.trans s3) hps, k4, fun y hy => ?_, fun y => ?_, fun y hy => ?_⟩
      · rw [hdr, List.cons_append] at hy
        rcases List.mem_cons.mp hy with e | e
        · subst e
          exact ⟨t', .yes c1 g1, by show (if y = y then _ else _) = _; rw [if_pos rfl]; exact g2⟩
        · have hyx : y ≠ x := fun z => by
            rcases List.mem_append.mp e with e | e
            · exact hxn (z ▸ e)
            · exact (hE y e).2 (by rw [z]; exact List.mem_of_getElem? hget)
          obtain ⟨u, h1, h2⟩ := f2 y e
          exact ⟨u, h1, by show (if y = x then _ else _) = _; rw [if_neg hyx]; exact h2⟩
      · split
        · exact hw8
        · have := b2 y; omega
      · rw [hdr] at hy
        show (if y = x then _ else _) = _
        rw [if_neg (fun z => hy (by rw [z]; exact List.mem_cons_self))]
        exact z2 y (fun z => hy (List.mem_cons_of_mem _ z))
  · obtain ⟨o, sz, rfl, s2, k2, f2, b2, z2⟩ := hP2
    rw [List.length_map] at k2 f2 b2 z2
    rw [Nat.sub_self, List.drop_zero] at f2 z2
    walk_at "stp"
    have p8 : 8 ^ xs.length ≤ 8 ^ 9 := Nat.pow_le_pow_right (by decide) h9
    refine q ps sz H' hps s2 ⟨k2.choose, k2.choose_spec.1, by have := k2.choose_spec.2.1; omega, k2.choose_spec.2.2⟩ f2 (fun x => by have := b2 x; omega)
theorem ok_l_puts (T : Txt K mg t) (G_l_cell : FnOk P w K mg base CX0 1 t.a_l_cell t.d_l_cell ["_law_script", "_law_k"] (sp_l_cell K)) (G_l_term : FnOk P w K mg base CX0 2 t.a_l_term t.d_l_term ["_law_cells", "_law_names_here", "_law_words"] (sp_l_term K)) : FnOk P w K mg base CX0 3 t.a_l_puts t.d_l_puts ["_law_script", "_law_names_here", "_law_words", "_law_start"] (sp_l_puts K) := by
  refine T.F_l_puts.ok sc_l_puts (fun vs H Q E h => ?_) (fun cdv A outer s H vs Q E hr h => ?_)
  · unfold sp_l_puts at h
    split at h
    · rfl
    · exact h.elim
  unfold sp_l_puts at h
  split at h
  rotate_left
  · exact h.elim
  refine ⟨_, (pss_cons (ps_set (i := 4) (hs := sw_lst) sc_l_puts.nd rfl (by first | exact Or.inl rfl | exact Or.inr rfl) (pe_lst pa_nil)) (pss_cons (ps_for PassesOwn.never rfl (pi_range1 rfl T.n_range (pa_con (pe_op mo_sub (pe_callB (kc_len K rfl) rfl T.n_len PySem.boot_len (pa_con (mv 1) pa_nil)) pe_int) pa_nil)) (pg_name (i := 5) sc_l_puts.nd rfl (by first | exact Or.inl rfl | exact Or.inr rfl)) (pss_cons (ps_set (i := 6) (hs := sw_call) sc_l_puts.nd rfl (by first | exact Or.inl rfl | exact Or.inr rfl) (pe_call G_l_cell (hr.mono (by first | decide | omega)) rfl T.m_l_cell T.F_l_cell.kp T.b_l_cell .nil pass0 (pa_con (mv 0) (pa_con (pe_op (ko_add K rfl) (mv 3) (pe_op mo_mul pe_int (mv 5))) pa_nil)))) (pss_cons (ps_set (i := 7) (hs := sw_sub) sc_l_puts.nd rfl (by first | exact Or.inl rfl | exact Or.inr rfl) (pe_slice (ks_list K rfl) (mv 1) (mp_some (pe_op (ko_add K rfl) (mv 5) pe_int)) po_none)) (pss_cons (ps_if (mt_cmp mo_eq (pe_op mo_mod (mv 6) pe_int) pe_int (nomark _)) (pss_one (ps_expr (ke_bm K rfl PySem.F.plainAttrs_list PySem.F.slot_list_append PySem.F.type_list_append mm_append (mv 4) (pa_con (pe_tup (pa_con (pe_ix (ki_seq K rfl) (mv 1) (mv 5) (fun _ _ => rfl)) (pa_con (pe_tup (pa_con pe_str (pa_con (pe_ix (ki_seq K rfl) (mv 7) (pe_op mo_mod (pe_op mo_fdiv (mv 6) pe_int) (pe_callB (kc_len K rfl) rfl T.n_len PySem.boot_len (pa_con (mv 7) pa_nil))) (fun _ _ => rfl)) pa_nil))) pa_nil))) pa_nil)))) pss_nil) (pss_one (ps_if (mt_cmp mo_gt (pe_op mo_mod (mv 6) pe_int) pe_int (nomark _)) (pss_cons (ps_comp (i := 8) sc_l_puts.nd rfl (by first | exact Or.inl rfl | exact Or.inr rfl) rfl (pi_range1 rfl T.n_range (pa_con (pe_op mo_mod (pe_op mo_fdiv (mv 6) pe_int) pe_int) pa_nil)) (comp_sc (defScope s_l_puts) ["_law_script", "_law_names_here", "_law_words", "_law_start", "_law_rows", "_law_j", "_law_cell_here", "_law_later", "_law_cells"] ["_law_script", "_law_names_here", "_law_words", "_law_start", "_law_rows", "_law_j", "_law_cell_here", "_law_later", "_law_cells"] rfl rfl (by decide +kernel)) (fun _ _ _ _ _ => pts_nil) (fun _ _ _ _ _ => (pe_call G_l_cell (hr.mono (by first | decide | omega)) rfl T.m_l_cell T.F_l_cell.kp T.b_l_cell .nil pass0 (pa_con (mv 1) (pa_con (pe_op (ko_add K rfl) (pe_op (ko_add K rfl) (pe_op (ko_add K rfl) (mv 4) (pe_op mo_mul pe_int (mv 6))) pe_int) (mv 0)) pa_nil))))) (pss_one (ps_expr (ke_bm K rfl PySem.F.plainAttrs_list PySem.F.slot_list_append PySem.F.type_list_append mm_append (mv 4) (pa_con (pe_tup (pa_con (pe_ix (ki_seq K rfl) (mv 1) (mv 5) (fun _ _ => rfl)) (pa_con (pe_call G_l_term (hr.mono (by first | decide | omega)) rfl T.m_l_term T.F_l_term.kp T.b_l_term .nil pass0 (pa_con (mv 8) (pa_con (mv 7) (pa_con (mv 2) pa_nil)))) pa_nil))) pa_nil))))) pss_nil)))))) (pss_cons (ps_if (mt_cmp mo_eq (pe_op mo_mod (pe_call G_l_cell (hr.mono (by first | decide | omega)) rfl T.m_l_cell T.F_l_cell.kp T.b_l_cell .nil pass0 (pa_con (mv 0) (pa_con (pe_op (ko_add K rfl) (mv 3) pe_int) pa_nil))) pe_int) pe_int (nomark _)) (pss_one (ps_expr (ke_bm0 K rfl PySem.F.plainAttrs_list PySem.F.slot_list_reverse PySem.F.type_list_reverse mm_reverse (mv 4)))) pss_nil) (pss_one (ps_ret (pe_callTy (kc_dictP K rfl rfl) rfl T.n_dict boot_dict (pa_con (mv 4) pa_nil))))))), ?_⟩
  rename_i a np wp st
  obtain ⟨ns, xs, ws, hS, hB, hX, hn, h9, hW, w1, w2, w3, hs0, hs1, q⟩ := h
  walk_at "stp"
  refine ⟨ln (by show 0 ≤ 100000; decide), fun p1 hp1 => ?_⟩
  have sp1 : Same H (upd H p1 (.lst [])) := same_new hp1 _
  have kp1 : (upd H p1 (.lst [])) p1 = some (.lst []) := upd_same
  generalize upd H p1 (.lst []) = H1 at sp1 kp1 ⊢
  walk_at "stp"
  refine mLen_l (sp1.seq hX) ?_
  walk_at "stp"
  rw [List.length_map, h9]
  refine ⟨7, rfl, by omega, by omega, ?_⟩
  refine for_row (row_range 0 (7 : Int).toNat) (fun i σ' H' => ∃ (o5 o6 o7 o8 : Option V) (us : List V) (rows : Rws), σ' = [some (.ref a), some (.ref np), some (.ref wp), some (.int st), some (.ref p1), o5, o6, o7, o8] ∧ Same H H' ∧ H' p1 = some (.lst us) ∧ PR K H' us rows ∧ RowsIn xs i rows) ⟨none, none, none, none, [], [], rfl, sp1, kp1, .nil, ⟨fun r hr => by simp at hr, by simp, Nat.le_refl _⟩⟩ (fun _ _ _ _ => trivial) (fun i σ' H' hi hP => ?_) (fun σ' H' hP => ?_)
  · obtain ⟨o5, o6, o7, o8, us, rows, rfl, s1, k1, pr, ri⟩ := hP
    have hi7 : i < 7 := hi
    have hul := Paired.length pr
    have hrl := ri.len
    have hxi : i < xs.length := by omega
    walk_at "stp"
    refine mMul_i (mulOk_left (by decide)) ?_
    walk_at "stp"
    refine ⟨ns, s1.seq hS, hB, by omega, by omega, fun c => ?_⟩
    walk_at "stp"
    refine mSlL_i (s1.seq hX) (fun p2 hp2 => ?_)
    rw [cut_from _ _ (show (0 : Int) ≤ 0 + (i : Int) + 1 by omega), show (0 + (i : Int) + 1).toNat = i + 1 by omega, ← List.map_drop]
    have s2 := same_new hp2 (.lst ((xs.drop (i + 1)).map V.str))
    have k2 : (upd H' p2 (.lst ((xs.drop (i + 1)).map V.str))) p2 = some (.lst ((xs.drop (i + 1)).map V.str)) := upd_same
    generalize upd H' p2 (.lst ((xs.drop (i + 1)).map V.str)) = H2 at s2 k2 ⊢
    have hdl : (xs.drop (i + 1)).length = 9 - (i + 1) := by rw [List.length_drop, h9]
    have s12 := s1.trans s2
    have hxg : xs[i]? = some xs[i] := List.getElem?_eq_getElem hxi
    have hat : atI (xs.map V.str) (0 + (i : Int)) = some (.str xs[i]) := by
      rw [Int.zero_add]
      exact atI_nat (by rw [List.getElem?_map, hxg]; rfl)
    walk_at "stm"
    (with_reducible refine seq_rest (fun σ' J => ∃ (us : List V) (rows : Rws), σ' = [some (.ref a), some (.ref np), some (.ref wp), some (.int st), some (.ref p1), some (.int (0 + (i : Int))), some (.int c), some (.ref p2), o8] ∧ Same H J ∧ J p1 = some (.lst us) ∧ J p2 = some (.lst ((xs.drop (i + 1)).map V.str)) ∧ PR K J us rows ∧ ((c % 4 = 1 ∧ RowsIn xs (i + 1) rows) ∨ (c % 4 ≠ 1 ∧ RowsIn xs i rows))) (fun σ' J hP => ?_) (fun kz => ?_))
    rotate_left
    · walk_at "stm"
      refine iteB (fun e => ?_) (fun e => ?_)
      rotate_left
      · with_reducible refine tNext_i ?_
        exact kz _ _ ⟨us, rows, rfl, s12, s2 _ _ k1, k2, pr.mono s2, .inr ⟨of_decide_eq_false (xor_n e), ri⟩⟩
      have ec := of_decide_eq_true (xor_n e)
      walk_at "stm"
      refine ⟨.inl ⟨rfl, _, SqL.of (s2 _ _ k1)⟩, ?_⟩
      walk_at "stm"
      refine mIx_l (s12.seq hX) hat ?_
      walk_at "stm"
      refine mLen_l (SqL.of k2) ?_
      walk_at "stm"
      rw [List.length_map]
      refine m2_i (show (0 : Int) < ((xs.drop (i + 1)).length : Int) by omega) ?_
      walk_at "stm"
      have b1 := Int.emod_nonneg (c / 4) (show ((xs.drop (i + 1)).length : Int) ≠ 0 by omega)
      have b2 := Int.emod_lt_of_pos (c / 4) (show (0 : Int) < ((xs.drop (i + 1)).length : Int) by omega)
      obtain ⟨v, hv, _⟩ := atI_lt (xs := (xs.drop (i + 1)).map V.str) b1 (by rw [List.length_map]; exact b2)
      obtain ⟨y, rfl, hy⟩ := strs_at hv
      refine mIx_l (SqL.of k2) hv ?_
      walk_at "stm"
      refine ⟨ln (by show 2 ≤ 100000; decide), fun p3 hp3 => ?_⟩
      have sp3 : Same H2 (upd H2 p3 (.tup [.str (Str.ofString "any"), .str y])) := same_new hp3 _
      have kp3 : (upd H2 p3 (.tup [.str (Str.ofString "any"), .str y])) p3 = some (.tup [.str (Str.ofString "any"), .str y]) := upd_same
      generalize upd H2 p3 (.tup [.str (Str.ofString "any"), .str y]) = H3 at sp3 kp3 ⊢
      walk_at "stm"
      refine ⟨ln (by show 2 ≤ 100000; decide), fun p4 hp4 => ?_⟩
      have sp4 : Same H3 (upd H3 p4 (.tup [.str xs[i], .ref p3])) := same_new hp4 _
      have kp4 : (upd H3 p4 (.tup [.str xs[i], .ref p3])) p4 = some (.tup [.str xs[i], .ref p3]) := upd_same
      generalize upd H3 p4 (.tup [.str xs[i], .ref p3]) = H4 at sp4 kp4 ⊢
      walk_at "stm"
      have s24 := sp3.trans sp4
      have s04 := s2.trans s24
      refine mAppend_i (s24 _ _ (s2 _ _ k1)) (ln1 (by omega)) ?_
      have pr4 : PR K H4 (us ++ [.ref p4]) (rows ++ [(xs[i], .any y)]) := paired_app (pr.mono s04) (.cons ⟨p4, .ref p3, rfl, SqT.of kp4, any_den (SqT.of (sp4 _ _ kp3))⟩ .nil)
      have hne : p2 ≠ p1 := fun z => by rw [z] at hp2; rw [k1] at hp2; cases hp2
      exact kz _ _ ⟨_, _, rfl, same_upd (s1.trans s04) hp1, upd_same, by rw [upd_ne hne]; exact s24 _ _ k2, pr4.lst (s24 _ _ (s2 _ _ k1)), .inl ⟨ec, ri.snoc hn hxg (by simpa [vin] using hy) (by simp [Trm.size])⟩⟩
    obtain ⟨us, rows, rfl, sJ, kJ, kJ2, prJ, hcase⟩ := hP
    have hul := Paired.length prJ
    walk_at "stp"
    rcases hcase with ⟨ec, riJ⟩ | ⟨ec, riJ⟩
    · refine iteB (fun e => by have := of_decide_eq_true e; omega) (fun e => ?_)
      walk_at "stp"
      exact ⟨_, _, _, _, us, rows, rfl, sJ, kJ, prJ, riJ⟩
    have hrl := riJ.len
    refine iteB (fun e => ?_) (fun e => ?_)
    rotate_left
    · walk_at "stp"
      exact ⟨_, _, _, _, us, rows, rfl, sJ, kJ, prJ, riJ.next⟩
    walk_at "stp"
    refine ⟨c / 4 % 4, rfl, by omega, by omega, fun D hD => ?_⟩
    refine comp_row (row_range 0 (c / 4 % 4).toNat) (fun n ys J2 => Same J J2 ∧ (∃ cs : List Int, ys = cs.map V.int ∧ cs.length = n) ∧ J2 D = some (.lst ys)) (ln (by omega)) ⟨same_new hD _, ⟨[], rfl, rfl⟩, upd_same⟩ (fun _ _ _ _ => trivial) (fun n ys J2 Q' hn' hl' hP k => ?_) (fun ys J2 hl' hP => ?_)
    · obtain ⟨g1, ⟨cs, g2, g3⟩, g4⟩ := hP
      walk_at "stp"
      refine mMul_i (mulOk_left (by decide)) ?_
      walk_at "stp"
      refine ⟨ns, (sJ.trans g1).seq hS, hB, by omega, by omega, fun v => ?_⟩
      exact k _ _ g4 ⟨same_upd g1 hD, ⟨cs ++ [v], by rw [g2, List.map_append]; rfl, by rw [List.length_append, g3]; rfl⟩, upd_same⟩
    obtain ⟨g1, ⟨cs, g2, g3⟩, g4⟩ := hP
    have sJ2 := sJ.trans g1
    have hcs : cs.length ≤ 3 := by omega
    subst g2
    walk_at "stp"
    refine ⟨.inl ⟨rfl, _, SqL.of (g1 _ _ kJ)⟩, ?_⟩
    walk_at "stp"
    refine mIx_l (sJ2.seq hX) hat ?_
    walk_at "stp"
    refine ⟨cs, xs.drop (i + 1), ws, SqL.of g4, by omega, SqL.of (g1 _ _ kJ2), by omega, by omega, sJ2.seq hW, w1, w2, w3, fun v t J3 s3 d3 v3 z3 => ?_⟩
    walk_at "stp"
    refine ⟨ln (by show 2 ≤ 100000; decide), fun p4 hp4 => ?_⟩
    have sp4 : Same J3 (upd J3 p4 (.tup [.str xs[i], v])) := same_new hp4 _
    have kp4 : (upd J3 p4 (.tup [.str xs[i], v])) p4 = some (.tup [.str xs[i], v]) := upd_same
    generalize upd J3 p4 (.tup [.str xs[i], v]) = J4 at sp4 kp4 ⊢
    walk_at "stp"
    have s24 := g1.trans (s3.trans sp4)
    refine mAppend_i (s24 _ _ kJ) (ln1 (by omega)) ?_
    have pr4 : PR K J4 (us ++ [.ref p4]) (rows ++ [(xs[i], t)]) := paired_app (prJ.mono s24) (.cons ⟨p4, v, rfl, SqT.of kp4, d3.mono sp4⟩ .nil)
    exact ⟨_, _, _, _, _, _, rfl, same_upd (sJ.trans s24) hp1, upd_same, pr4.lst (s24 _ _ kJ), riJ.snoc hn hxg v3 (by omega)⟩
  · obtain ⟨o5, o6, o7, o8, us, rows, rfl, s1, k1, pr, ri⟩ := hP
    have ri : RowsIn xs 7 rows := ri
    have fin : ∀ (J : Hp) (us : List V) (rows : Rws), Same H J → J p1 = some (.lst us) → PR K J us rows → RowsIn xs 7 rows → mDictP K [.ref p1] J Q := fun J us rows sJ kJ prJ riJ => by
      obtain ⟨rs, h1, h2, h3⟩ := prJ.out
      have hl := congrArg List.length h2
      rw [List.length_map, List.length_map] at hl
      have := riJ.len
      refine ⟨p1, us, rs, rfl, SqL.of kJ, h1, by rw [h2]; exact riJ.nod, ln (by omega), fun pq hq => ?_⟩
      exact q pq rows _ (sJ.trans (same_new hq _)) ⟨_, upd_same, h3.mono (same_new hq _)⟩ riJ
    walk_at "stp"
    refine ⟨ns, s1.seq hS, hB, by omega, by omega, fun c => ?_⟩
    walk_at "stp"
    refine iteB (fun e => ?_) (fun e => ?_)
    · walk_at "stp"
      refine ⟨.inl ⟨rfl, _, SqL.of k1⟩, ?_⟩
      refine ⟨us, k1, ?_⟩
      walk_at "stp"
      exact fin _ _ _ (same_upd s1 hp1) upd_same ((show PR K H' us.reverse rows.reverse from paired_rev pr).lst k1) ri.rev
    · walk_at "stp"
      exact fin _ _ _ s1 k1 pr ri
end
section
variable {P : Program} {w : World} {K : PySem.W.Frag} {mg : Str → Option Value} {base : Heap} {t : Ad}
theorem st_l_read (T : Txt K mg t)  (n : Nat) (G_l_read : FnOk P w K mg base CX0 (n + 2) t.a_l_read t.d_l_read ["_law_term_here", "_law_puts_here"] (sp_l_read K n)) : FnOk P w K mg base CX0 (n + 2 + 1) t.a_l_read t.d_l_read ["_law_term_here", "_law_puts_here"] (sp_l_read K (n + 1)) := by
  refine T.F_l_read.ok (k := n + 2) sc_l_read (fun vs H Q E h => ?_) (fun cdv A outer s H vs Q E hr h => ?_)
  · unfold sp_l_read at h
    split at h
    · rfl
    · exact h.elim
  unfold sp_l_read at h
  split at h
  rotate_left
  · exact h.elim
  refine ⟨_, (pss_cons (ps_while PassesOwn.never (PW.pt (pw_and (mt_cmp mo_eq (pe_ix (ki_seq K rfl) (mv 0) pe_int (fun _ _ => rfl)) pe_str (nomark _)) (pw_and1 (mt_cmp (ko_inD (hu_of hr)) (pe_ix (ki_seq K rfl) (mv 0) pe_int (fun _ _ => rfl)) (mv 1) (by with_unfolding_all rfl))))) (pss_one (ps_set (i := 0) (hs := sw_sub) sc_l_read.nd rfl (by first | exact Or.inl rfl | exact Or.inr rfl) (pe_dget (hu_of hr) (mv 1) (pe_ix (ki_seq K rfl) (mv 0) pe_int (fun _ _ => rfl)) (fun _ _ => rfl))))) (pss_cons (ps_if (mt_cmp mo_ne (pe_ix (ki_seq K rfl) (mv 0) pe_int (fun _ _ => rfl)) pe_str (nomark _)) (pss_one (ps_ret (mv 0))) pss_nil) (pss_one (ps_ret (pe_tup (pa_con pe_str (pa_con (pe_ix (ki_seq K rfl) (mv 0) pe_int (fun _ _ => rfl)) (pa_con (pe_callTy (kc_tuple K rfl) rfl T.n_tuple boot_tuple (pa_con (pe_comp rfl (kpi_tup K rfl (pe_ix (ki_seq K rfl) (mv 0) pe_int (fun _ _ => rfl))) (comp_sc (defScope s_l_read) ["_law_term_here", "_law_puts_here"] ["_law_term_here", "_law_puts_here"] rfl rfl (by decide +kernel)) (fun _ _ _ _ _ => pts_nil) (fun _ _ _ _ _ => (pe_call G_l_read (hr.mono (by first | decide | omega)) rfl T.m_l_read T.F_l_read.kp T.b_l_read .nil pass0 (pa_con (mv 0) (pa_con (mv 2) pa_nil))))) pa_nil)) pa_nil)))))))), ?_⟩
  rename_i v pd
  obtain ⟨rows, t0, tF, hP, hd, hf, hz, hn, q⟩ := h
  obtain ⟨n, u, hw, w2⟩ := hf.walk
  have hP0 := hP
  walk_at "stp"
  refine while_row (fun n σ' H' => ∃ (v' : V) (t' : Trm), σ' = [some v', some (.ref pd)] ∧ Den K H v' t'.data ∧ Wlk rows n t' u ∧ H' = H) n ⟨v, t0, rfl, hd, hw, rfl⟩ (fun n σ' H' R hP2 kT kF => ?_)
  obtain ⟨v', t', rfl, hd', hw', rfl⟩ := hP2
  have fin : hnf rows u → Den K H' v' u.data → R false H' := fun hh hdu => by
    refine kF _ ?_
    walk_at "stp"
    cases u with
    | num m =>
      obtain ⟨a, rfl, hs⟩ := den_num hdu
      cases w2
      refine mIx_t hs (v := .str numS) rfl ?_
      walk_at "stp"
      refine iteB (fun e => ?_) (fun e => absurd e (by decide +kernel))
      walk_at "stp"
      exact q _ _ (Same.refl _) hdu
    | any y =>
      obtain ⟨a, rfl, hs⟩ := den_any hdu
      have hy := hh y rfl
      cases w2 with
      | yes e _ => rw [hy] at e; cases e
      | no _ =>
        refine mIx_t hs (v := .str anyS) rfl ?_
        walk_at "stp"
        refine iteB (fun e => ?_) (fun e => absurd e (by decide +kernel))
        walk_at "stp"
        exact q _ _ (Same.refl _) hdu
    | app sg ks =>
      obtain ⟨a, b, us, rfl, hs, hb, hk⟩ := den_app hdu
      cases w2 with
      | @app _ _ ls hkl =>
        have hl := hk.length
        rw [Trm.dataL_map, List.length_map] at hl
        have hll := hkl.len
        have hls := Trm.len_le ls
        simp only [Trm.size] at hz
        refine mIx_t hs (v := .str appS) rfl ?_
        walk_at "stp"
        refine iteB (fun e => absurd e (by decide +kernel)) (fun e => ?_)
        walk_at "stp"
        refine mIx_t hs (v := .str sg) rfl ?_
        walk_at "stp"
        refine mIx_t hs (v := .ref b) rfl ?_
        refine ⟨b, rfl, ⟨_, hb⟩, fun D hD => ?_⟩
        refine comp_row (row_tup (xs := us)) (fun i ys J => Same H' J ∧ DenL K J ys (Trm.dataL (ls.take i)) ∧ J D = some (.lst ys)) (ln (by omega)) ⟨same_new hD _, .nil, upd_same⟩ (fun i ys J hP => hP.1.tup hb) (fun i ys J Q' hi' hl' hP k => ?_) (fun ys J hl' hP => ?_)
        · obtain ⟨g1, g2, g3⟩ := hP
          have hki : i < ks.length := by omega
          have hx : us[i]? = some us[i] := List.getElem?_eq_getElem hi'
          have hg : us.getD i .non = us[i] := by rw [List.getD_eq_getElem?_getD, hx]; rfl
          obtain ⟨d, e1, e2⟩ := hk.get hx
          rw [Trm.dataL_map, List.getElem?_map, List.getElem?_eq_getElem hki] at e1
          have e1 : ks[i].data = d := Option.some.inj e1
          subst e1
          obtain ⟨l, l1, l2⟩ := hkl.get (List.getElem?_eq_getElem hki)
          have lz := size_get l1
          walk_at "stp"
          rw [hg]
          refine ⟨rows, ks[i], l, hP0.mono g1, e2.mono g1, l2, by omega, by omega, fun x J2 s2 dx => ?_⟩
          refine k _ _ (s2 _ _ g3) ⟨same_upd (g1.trans s2) hD, ?_, upd_same⟩
          rw [List.take_add_one, l1, Trm.dataL_map, List.map_append, ← Trm.dataL_map]
          exact ((g2.mono s2).append (.cons dx .nil)).lst (s2 _ _ g3)
        obtain ⟨g1, g2, g3⟩ := hP
        rw [List.take_of_length_le (by omega)] at g2
        walk_at "stp"
        refine mTup_l (SqL.of g3) (fun p2 hp2 => ?_)
        have s2 := same_new hp2 (.tup ys)
        have k2 : (upd J p2 (.tup ys)) p2 = some (.tup ys) := upd_same
        generalize upd J p2 (.tup ys) = J2 at s2 k2 ⊢
        walk_at "stp"
        refine ⟨ln (by show 3 ≤ 100000; decide), fun p3 hp3 => ?_⟩
        have s3 := same_new hp3 (.tup [.str (Str.ofString "app"), .str sg, .ref p2])
        exact q _ _ (g1.trans (s2.trans s3)) (app_den (SqT.of upd_same) (SqT.of (s3 _ _ k2)) (g2.mono (s2.trans s3)))
  cases hw' with
  | stop hs =>
    cases u with
    | num m =>
      obtain ⟨a, rfl, hs1⟩ := den_num hd'
      walk_at "stp"
      refine mIx_t hs1 (v := .str numS) rfl ?_
      walk_at "stp"
      rw [Bool.false_xor, q1]
      refine iteF ?_
      exact fin hs hd'
    | app sg ks =>
      obtain ⟨a, b, us, rfl, hs1, hb, hk⟩ := den_app hd'
      walk_at "stp"
      refine mIx_t hs1 (v := .str appS) rfl ?_
      walk_at "stp"
      rw [Bool.false_xor, q2]
      refine iteF ?_
      exact fin hs hd'
    | any x =>
      obtain ⟨a, rfl, hs1⟩ := den_any hd'
      walk_at "stp"
      refine mIx_t hs1 (v := .str anyS) rfl ?_
      walk_at "stp"
      rw [Bool.false_xor, q3]
      refine iteT ?_
      walk_at "stp"
      refine mIx_t hs1 (v := .str x) rfl ?_
      walk_at "stp"
      rcases hP.get x with ⟨c1, c2⟩ | ⟨t, w', c1, c2, c3⟩
      · refine ⟨pd, _, rfl, c2, ?_⟩
        walk_at "stp"
        exact fin hs hd'
      · have := hs x rfl
        rw [c1] at this
        cases this
  | step hl hw2 =>
    rename_i m x ux
    obtain ⟨a, rfl, hs1⟩ := den_any hd'
    walk_at "stp"
    refine mIx_t hs1 (v := .str anyS) rfl ?_
    walk_at "stp"
    rw [Bool.false_xor, q3]
    refine iteT ?_
    walk_at "stp"
    refine mIx_t hs1 (v := .str x) rfl ?_
    walk_at "stp"
    rcases hP.get x with ⟨c1, c2⟩ | ⟨t, w', c1, c2, c3⟩
    · rw [hl] at c1
      cases c1
    · rw [hl] at c1
      cases c1
      refine ⟨pd, _, rfl, c2, ?_⟩
      walk_at "stp"
      refine kT _ (fun D' e1 e2 hnx hct => ?_)
      walk_at "stp"
      refine mIx_t hs1 (v := .str x) rfl ?_
      walk_at "stp"
      refine ⟨pd, _, rfl, c2, ?_⟩
      walk_at "stp"
      exact hnx _ _ m (by omega) ⟨_, _, rfl, c3, hw2, rfl⟩
theorem ok_l_read (T : Txt K mg t)  (n : Nat) : FnOk P w K mg base CX0 (n + 2) t.a_l_read t.d_l_read ["_law_term_here", "_law_puts_here"] (sp_l_read K n) := by
  induction n with
  | zero =>
    have no : ∀ vs H Q E, (sp_l_read K 0) vs H Q E → False := fun vs H Q E h => by
      unfold sp_l_read at h
      split at h
      · exact no_l_read h
      · exact h
    exact ⟨fun vs H Q E h => (no vs H Q E h).elim, fun A outer s H args us vs Q E _ _ _ _ h => (no vs H Q E h).elim⟩
  | succ n ih =>
    have e : n + 1 + 2 = n + 2 + 1 := by omega
    rw [e]
    exact st_l_read T  n ih
theorem ok_l_is_term (T : Txt K mg t)  : FnOk P w K mg base CX0 1 t.a_l_is_term t.d_l_is_term ["_law_thing"] (sp_l_is_term K) := by
  refine T.F_l_is_term.ok sc_l_is_term (fun vs H Q E h => ?_) (fun cdv A outer s H vs Q E hr h => ?_)
  · unfold sp_l_is_term at h
    split at h
    · rfl
    · exact h.elim
  unfold sp_l_is_term at h
  split at h
  rotate_left
  · exact h.elim
  refine ⟨_, (pss_cons (ps_set (i := 1) (hs := sw_lst) sc_l_is_term.nd rfl (by first | exact Or.inl rfl | exact Or.inr rfl) (pe_lst (pa_con (mv 0) pa_nil))) (pss_cons (ps_while PassesOwn.never (mt_cmp mo_gt (pe_callB (kc_len K rfl) rfl T.n_len PySem.boot_len (pa_con (mv 1) pa_nil)) pe_int (nomark _)) (pss_cons (ps_set (i := 2) (hs := sw_call) sc_l_is_term.nd rfl (by first | exact Or.inl rfl | exact Or.inr rfl) (ke_bm0 K rfl PySem.F.plainAttrs_list PySem.F.slot_list_pop PySem.F.type_list_pop mm_pop (mv 1))) (pss_cons (ps_if (PW.pt (pw_or (pt_not (kt_tru K rfl (pe_callB (kc_is K rfl) rfl T.n_isinstance boot_isinstance (pa_con (mv 2) (pa_con (pe_bty rfl T.n_tuple boot_tuple) pa_nil))))) (pw_or (mt_cmp mo_lt (pe_callB (kc_len K rfl) rfl T.n_len PySem.boot_len (pa_con (mv 2) pa_nil)) pe_int (nomark _)) (pw_or1 (pt_not (kt_tru K rfl (pe_callB (kc_is K rfl) rfl T.n_isinstance boot_isinstance (pa_con (pe_ix (ki_seq K rfl) (mv 2) pe_int (fun _ _ => rfl)) (pa_con (pe_bty rfl T.n_str boot_str) pa_nil))))))))) (pss_one (ps_ret pe_bl)) pss_nil) (pss_one (ps_if (mt_cmp mo_eq (pe_ix (ki_seq K rfl) (mv 2) pe_int (fun _ _ => rfl)) pe_str (nomark _)) (pss_one (ps_if (PW.pt (pw_or (mt_cmp mo_ne (pe_callB (kc_len K rfl) rfl T.n_len PySem.boot_len (pa_con (mv 2) pa_nil)) pe_int (nomark _)) (pw_or (pt_not (kt_tru K rfl (pe_callB (kc_is K rfl) rfl T.n_isinstance boot_isinstance (pa_con (pe_ix (ki_seq K rfl) (mv 2) pe_int (fun _ _ => rfl)) (pa_con (pe_bty rfl T.n_int boot_int) pa_nil))))) (pw_or1 (kt_tru K rfl (pe_callB (kc_is K rfl) rfl T.n_isinstance boot_isinstance (pa_con (pe_ix (ki_seq K rfl) (mv 2) pe_int (fun _ _ => rfl)) (pa_con (pe_bty rfl T.n_bool boot_bool) pa_nil)))))))) (pss_one (ps_ret pe_bl)) pss_nil)) (pss_one (ps_if (mt_cmp mo_eq (pe_ix (ki_seq K rfl) (mv 2) pe_int (fun _ _ => rfl)) pe_str (nomark _)) (pss_cons (ps_if (PW.pt (pw_or (mt_cmp mo_ne (pe_callB (kc_len K rfl) rfl T.n_len PySem.boot_len (pa_con (mv 2) pa_nil)) pe_int (nomark _)) (pw_or (pt_not (kt_tru K rfl (pe_callB (kc_is K rfl) rfl T.n_isinstance boot_isinstance (pa_con (pe_ix (ki_seq K rfl) (mv 2) pe_int (fun _ _ => rfl)) (pa_con (pe_bty rfl T.n_str boot_str) pa_nil))))) (pw_or1 (pt_not (kt_tru K rfl (pe_callB (kc_is K rfl) rfl T.n_isinstance boot_isinstance (pa_con (pe_ix (ki_seq K rfl) (mv 2) pe_int (fun _ _ => rfl)) (pa_con (pe_bty rfl T.n_tuple boot_tuple) pa_nil))))))))) (pss_one (ps_ret pe_bl)) pss_nil) (pss_one (ps_expr (ke_bm K rfl PySem.F.plainAttrs_list PySem.F.slot_list_extend PySem.F.type_list_extend (km_extend K rfl) (mv 1) (pa_con (pe_ix (ki_seq K rfl) (mv 2) pe_int (fun _ _ => rfl)) pa_nil))))) (pss_one (ps_if (PW.pt (pw_or (mt_cmp mo_ne (pe_ix (ki_seq K rfl) (mv 2) pe_int (fun _ _ => rfl)) pe_str (nomark _)) (pw_or (mt_cmp mo_ne (pe_callB (kc_len K rfl) rfl T.n_len PySem.boot_len (pa_con (mv 2) pa_nil)) pe_int (nomark _)) (pw_or1 (pt_not (kt_tru K rfl (pe_callB (kc_is K rfl) rfl T.n_isinstance boot_isinstance (pa_con (pe_ix (ki_seq K rfl) (mv 2) pe_int (fun _ _ => rfl)) (pa_con (pe_bty rfl T.n_str boot_str) pa_nil))))))))) (pss_one (ps_ret pe_bl)) pss_nil))))))))) (pss_one (ps_ret pe_bl)))), ?_⟩
  rename_i v
  obtain ⟨t0, hd, hz, q⟩ := h
  walk_at "stp"
  refine ⟨ln (by show 1 ≤ 100000; decide), fun p hp => ?_⟩
  have sp : Same H (upd H p (.lst [v])) := same_new hp _
  have kp : (upd H p (.lst [v])) p = some (.lst [v]) := upd_same
  generalize upd H p (.lst [v]) = H1 at sp kp ⊢
  walk_at "stp"
  refine while_row (fun n σ' H' => ∃ (us : List V) (ts : List Trm) (o : Option V), σ' = [some v, some (.ref p), o] ∧ H' p = some (.lst us) ∧ DenL K H' us (Trm.dataL ts) ∧ Trm.sizeL ts ≤ 1000 ∧ n = Trm.sizeL ts ∧ Same H H') t0.size ⟨[v], [t0], none, rfl, kp, .cons (hd.mono sp) .nil, by simp [Trm.sizeL]; omega, by simp [Trm.sizeL], sp⟩ (fun n σ' H' R hP kT kF => ?_)
  obtain ⟨us, ts, o, rfl, h1, h2, h3, h4, h5⟩ := hP
  walk_at "stp"
  refine mLen_l (SqL.of h1) ?_
  walk_at "stp"
  rcases nil_or_snoc' ts with rfl | ⟨ts', t1, rfl⟩
  · have e := h2.nil_inv
    subst e
    refine kF H' ?_
    walk_at "stp"
    exact q H' h5
  · rw [Trm.dataL_map, List.map_append, ← Trm.dataL_map] at h2
    obtain ⟨us', u, rfl, g1, g2⟩ := DenL.snoc h2
    rw [Trm.sizeL_app] at h3 h4
    have s1 : Trm.sizeL [t1] = t1.size := by simp [Trm.sizeL]
    rw [s1] at h3 h4
    have hul := g1.length
    rw [Trm.dataL_map, List.length_map] at hul
    have htl := Trm.len_le ts'
    rw [decide_eq_true (show (0 : Int) < ((us' ++ [u]).length : Int) by rw [List.length_append, List.length_singleton]; omega)]
    refine kT H' (fun D' e1 e2 hnx hct => ?_)
    walk_at "stp"
    refine ⟨.inl ⟨rfl, _, SqL.of h1⟩, ?_⟩
    refine mPop_i h1 ?_
    walk_at "stp"
    have f1 : DenL K (upd H' p (.lst us')) us' (Trm.dataL ts') := g1.lst h1
    have f2 : Den K (upd H' p (.lst us')) u t1.data := g2.lst h1
    have f3 : Same H (upd H' p (.lst us')) := same_upd h5 hp
    have f4 : (upd H' p (.lst us')) p = some (.lst us') := upd_same
    generalize upd H' p (.lst us') = J at f1 f2 f3 f4 ⊢
    have tp := t1.size_pos
    cases t1 with
    | num m =>
      obtain ⟨a, rfl, hs⟩ := den_num f2
      refine is_tup hs ?_
      walk_at "stp"
      refine iteF ?_
      walk_at "stp"
      refine mLen_t hs ?_
      walk_at "stp"
      refine iteB (fun e => absurd e (by simp)) (fun e => ?_)
      walk_at "stp"
      refine mIx_t hs (v := .str numS) rfl ?_
      walk_at "stp"
      refine iteF ?_
      walk_at "stp"
      refine mIx_t hs (v := .str numS) rfl ?_
      walk_at "stp"
      rw [Bool.false_xor, q7]
      refine iteT ?_
      walk_at "stp"
      refine mLen_t hs ?_
      walk_at "stp"
      refine iteB (fun e => absurd e (by simp)) (fun e => ?_)
      walk_at "stp"
      refine mIx_t hs (v := .int m) rfl ?_
      walk_at "stp"
      refine iteF ?_
      walk_at "stp"
      refine mIx_t hs (v := .int m) rfl ?_
      walk_at "stp"
      refine iteF ?_
      walk_at "stp"
      exact hnx _ _ (Trm.sizeL ts') (by omega) ⟨us', ts', _, rfl, f4, f1, by omega, rfl, f3⟩
    | any m =>
      obtain ⟨a, rfl, hs⟩ := den_any f2
      refine is_tup hs ?_
      walk_at "stp"
      refine iteF ?_
      walk_at "stp"
      refine mLen_t hs ?_
      walk_at "stp"
      refine iteB (fun e => absurd e (by simp)) (fun e => ?_)
      walk_at "stp"
      refine mIx_t hs (v := .str anyS) rfl ?_
      walk_at "stp"
      refine iteF ?_
      walk_at "stp"
      refine mIx_t hs (v := .str anyS) rfl ?_
      walk_at "stp"
      refine iteB (fun e => absurd e (by decide +kernel)) (fun e => ?_)
      walk_at "stp"
      refine mIx_t hs (v := .str anyS) rfl ?_
      walk_at "stp"
      rw [Bool.false_xor, q5]
      refine iteF ?_
      walk_at "stp"
      refine mIx_t hs (v := .str anyS) rfl ?_
      walk_at "stp"
      refine iteB (fun e => absurd e (by decide +kernel)) (fun e => ?_)
      walk_at "stp"
      refine mLen_t hs ?_
      walk_at "stp"
      refine iteB (fun e => absurd e (by simp)) (fun e => ?_)
      walk_at "stp"
      refine mIx_t hs (v := .str m) rfl ?_
      walk_at "stp"
      refine iteF ?_
      walk_at "stp"
      exact hnx _ _ (Trm.sizeL ts') (by omega) ⟨us', ts', _, rfl, f4, f1, by omega, rfl, f3⟩
    | app sg ks =>
      obtain ⟨a, b, ku, rfl, hs, hb, hk⟩ := den_app f2
      have hkl := hk.length
      rw [Trm.dataL_map, List.length_map] at hkl
      have hk2 := Trm.len_le ks
      refine is_tup hs ?_
      walk_at "stp"
      refine iteF ?_
      walk_at "stp"
      refine mLen_t hs ?_
      walk_at "stp"
      refine iteB (fun e => absurd e (by simp)) (fun e => ?_)
      walk_at "stp"
      refine mIx_t hs (v := .str appS) rfl ?_
      walk_at "stp"
      refine iteF ?_
      walk_at "stp"
      refine mIx_t hs (v := .str appS) rfl ?_
      walk_at "stp"
      refine iteB (fun e => absurd e (by decide +kernel)) (fun e => ?_)
      walk_at "stp"
      refine mIx_t hs (v := .str appS) rfl ?_
      walk_at "stp"
      rw [Bool.false_xor, q6]
      refine iteT ?_
      walk_at "stp"
      refine mLen_t hs ?_
      walk_at "stp"
      refine iteB (fun e => absurd e (by simp)) (fun e => ?_)
      walk_at "stp"
      refine mIx_t hs (v := .str sg) rfl ?_
      walk_at "stp"
      refine iteF ?_
      walk_at "stp"
      refine mIx_t hs (v := .ref b) rfl ?_
      walk_at "stp"
      refine is_tup hb ?_
      walk_at "stp"
      refine iteF ?_
      walk_at "stp"
      refine ⟨.inl ⟨rfl, _, SqL.of f4⟩, ?_⟩
      walk_at "stp"
      refine mIx_t hs (v := .ref b) rfl ?_
      walk_at "stp"
      simp only [Trm.size] at h3 h4
      refine mExt_t f4 hb (ln (by omega)) ?_
      refine hnx _ _ (Trm.sizeL (ts' ++ ks)) (by rw [Trm.sizeL_app]; omega) ⟨us' ++ ku, ts' ++ ks, _, rfl, upd_same, ?_, by rw [Trm.sizeL_app]; omega, rfl, same_upd f3 hp⟩
      rw [Trm.dataL_map, List.map_append, ← Trm.dataL_map, ← Trm.dataL_map]
      exact (f1.append hk).lst f4
end
section
variable {P : Program} {w : World} {K : PySem.W.Frag} {mg : Str → Option Value} {base : Heap} {t : Ad}
structure RowsK (xs : List Str) (rows : Rws) (n : Nat) : Prop where
  ord : OrdX xs [] rows
  nod : (rows.map (·.1)).Nodup
  big : ∀ r ∈ rows, r.2.size ≤ 70
  len : rows.length ≤ n
  kx : ∀ r ∈ rows, r.1 ∈ xs
theorem putR_mem {rows : Rws} {x : Str} {t : Trm} {r : Str × Trm} (h : r ∈ putR rows x t) : r ∈ rows ∨ r = (x, t) := by
  unfold putR at h
  split at h
  · obtain ⟨q, hq, e⟩ := List.mem_map.mp h
    by_cases hx : q.1 = x
    · rw [if_pos hx] at e
      exact .inr (by rw [← e, hx])
    · rw [if_neg hx] at e
      exact .inl (by rw [← e]; exact hq)
  · rcases List.mem_append.mp h with z | z
    · exact .inl z
    · exact .inr (List.mem_singleton.mp z)
theorem putR_len {rows : Rws} {x : Str} {t : Trm} : (putR rows x t).length ≤ rows.length + 1 := by
  unfold putR
  split
  · rw [List.length_map]; omega
  · rw [List.length_append, List.length_singleton]
    exact Nat.le_refl _
theorem ord_put {xs ex : List Str} {rows : Rws} {j : Nat} {x : Str} {t : Trm} (hn : xs.Nodup) (h : OrdX xs ex rows) (hj : xs[j]? = some x) (hv : vin (xs.drop (j + 1) ++ ex) t) (hz : t.size ≤ 8) : OrdX xs ex (putR rows x t) := fun i y u hi hl => by
  rw [look_put] at hl
  by_cases e : y = x
  · rw [if_pos e] at hl
    cases hl
    subst e
    have := (List.getElem?_inj (List.getElem?_eq_some_iff.mp hi).1 hn).mp (hi.trans hj.symm)
    subst this
    exact ⟨hv, hz⟩
  · rw [if_neg e] at hl
    exact h i y u hi hl
theorem RowsK.put {xs : List Str} {rows : Rws} {n j : Nat} {x : Str} {t : Trm} (hn : xs.Nodup) (h : RowsK xs rows n) (hj : xs[j]? = some x) (hv : vin (xs.drop (j + 1) ++ []) t) (hz : t.size ≤ 8) : RowsK xs (putR rows x t) (n + 1) := by
  refine ⟨ord_put hn h.ord hj hv hz, putR_nodup h.nod, fun r hr => ?_, by have := putR_len (rows := rows) (x := x) (t := t); have := h.len; omega, fun r hr => ?_⟩
  · rcases putR_mem hr with z | z
    · exact h.big r z
    · rw [z]; show t.size ≤ 70; omega
  · rcases putR_mem hr with z | z
    · exact h.kx r z
    · rw [z]; exact List.mem_of_getElem? hj
theorem RowsK.h {xs : List Str} {rows : Rws} {n : Nat} (h : RowsK xs rows n) (hn : n ≤ 100) : RowsH xs [] rows := ⟨h.ord, fun e he => by simp at he, h.nod, h.big, by have := h.len; omega⟩
theorem ord_ex {xs ex : List Str} {rows : Rws} (h : OrdX xs [] rows) : OrdX xs ex rows := fun j x t hj hl => by
  obtain ⟨a, b⟩ := h j x t hj hl
  exact ⟨vin_mono (fun y hy => by rw [List.append_nil] at hy; exact List.mem_append_left _ hy) t a, b⟩
theorem RowsK.putEx {xs : List Str} {rows : Rws} {n j : Nat} {x e : Str} {t : Trm} (hn : xs.Nodup) (h : RowsK xs rows n) (hnn : n ≤ 50) (he : e ∉ xs) (hj : xs[j]? = some x) (hv : vin (xs.drop (j + 1) ++ [e]) t) (hz : t.size ≤ 8) : RowsH xs [e] (putR rows x t) := by
  refine ⟨ord_put hn (ord_ex h.ord) hj hv hz, fun y hy => ?_, putR_nodup h.nod, fun r hr => ?_, by have := putR_len (rows := rows) (x := x) (t := t); have := h.len; omega⟩
  · rw [List.mem_singleton.mp hy]
    refine ⟨look_none fun z => ?_, he⟩
    obtain ⟨r, hr, e1⟩ := List.mem_map.mp z
    rcases putR_mem hr with z | z
    · exact he (by rw [← e1]; exact h.kx r z)
    · rw [z] at e1
      exact he (by rw [← e1]; exact List.mem_of_getElem? hj)
  · rcases putR_mem hr with z | z
    · exact h.big r z
    · rw [z]; show t.size ≤ 70; omega
theorem ok_l_refused (T : Txt K mg t) (G_written_out : FnOk P w K mg base (CXo P w) 43 t.a_written_out t.d_written_out ["term", "puts"] (sp_written_out K t.k_Big)) : FnOk P w K mg base CX0 44 t.a_l_refused t.d_l_refused ["_law_term_here", "_law_puts_here"] (sp_l_refused K) := by
  refine T.F_l_refused.ok sc_l_refused (fun vs H Q E h => ?_) (fun cdv A outer s H vs Q E hr h => ?_)
  · unfold sp_l_refused at h
    split at h
    · rfl
    · exact h.elim
  unfold sp_l_refused at h
  split at h
  rotate_left
  · exact h.elim
  refine ⟨_, (pss_cons (ps_set (i := 2) (hs := sw_lst) sc_l_refused.nd rfl (by first | exact Or.inl rfl | exact Or.inr rfl) (pe_lst pa_nil)) (pss_cons (ps_trydo_as (n := 3) rfl rfl G_written_out (hr.mono (by first | decide | omega)) rfl T.m_written_out T.F_written_out.kp T.b_written_out .nil (pa_con (mv 0) (pa_con (mv 1) pa_nil)) sc_l_refused.nd rfl T.m_TrailError T.x_TrailError rfl rfl (by first | exact Or.inl rfl | exact Or.inr rfl) (fun ea => (pss_cons (ps_set (i := 2) (hs := sw_lst) sc_l_refused.nd rfl (by first | exact Or.inl rfl | exact Or.inr rfl) (pe_lst (pa_con (pe_callB (kc_isX K rfl) rfl T.n_isinstance boot_isinstance (pa_con (mv 3) (pa_con (pe_glob (v := .ref t.k_Big) rfl T.m_Big rfl) pa_nil))) (pa_con (pe_callB (kc_isX K rfl) rfl T.n_isinstance boot_isinstance (pa_con (mv 3) (pa_con (pe_bty rfl T.n_ValueError boot_ValueError) pa_nil))) (pa_con (pe_callB (kc_isXT K rfl) rfl T.n_isinstance boot_isinstance (pa_con (mv 3) (pa_con (pe_tup (pa_con (pe_glob (v := .ref t.k_Fault) rfl T.m_Fault rfl) (pa_con (pe_glob (v := .ref t.k_HasKeep) rfl T.m_HasKeep rfl) (pa_con (pe_glob (v := .ref t.k_NoRule) rfl T.m_NoRule rfl) pa_nil)))) pa_nil))) (pa_con (ke_xget K rfl (mv 3)) pa_nil)))))) (pss_one (ps_set (i := 2) (hs := sw_bin) sc_l_refused.nd rfl (by first | exact Or.inl rfl | exact Or.inr rfl) (pe_op (ko_add K rfl) (mv 2) (pe_lst (pa_con (pe_callB (kc_isXT K rfl) rfl T.n_isinstance boot_isinstance (pa_con (mv 3) (pa_con (pe_tup (pa_con (pe_glob (v := .ref t.k_NoSign) rfl T.m_NoSign rfl) (pa_con (pe_glob (v := .ref t.k_NoText) rfl T.m_NoText rfl) (pa_con (pe_glob (v := .ref t.k_NotLayered) rfl T.m_NotLayered rfl) pa_nil)))) pa_nil))) pa_nil)))))))) (pss_one (ps_ret (me_and (pe_cmpR (ko_eqD K rfl (room150 hr)) (mv 2) (pe_lst (pa_con pe_bl (pa_con pe_bl (pa_con pe_bl (pa_con pe_int (pa_con pe_bl pa_nil)))))) (nomark _)) (pe_one (ke_not K rfl (pe_callB (kc_is K rfl) rfl T.n_isinstance boot_isinstance (pa_con (pe_ix (ki_seq K rfl) (mv 2) pe_int (fun _ _ => rfl)) (pa_con (pe_bty rfl T.n_bool boot_bool) pa_nil)))))))))), ?_⟩
  rename_i v pd
  obtain ⟨rows, t0, t', hP0, hd, hf, hz, hrz, h40, q⟩ := h
  walk_at "stp"
  refine ⟨ln (by show 0 ≤ 100000; decide), fun p0 hp0 => ?_⟩
  have sp0 : Same H (upd H p0 (.lst [])) := same_new hp0 _
  have kp0 : (upd H p0 (.lst [])) p0 = some (.lst []) := upd_same
  generalize upd H p0 (.lst []) = H0 at sp0 kp0 ⊢
  walk_at "stp"
  refine ⟨rows, t0, t', hP0.mono sp0, hd.mono sp0, hf, hz, hrz, ?_⟩
  rw [decide_eq_false (by omega)]
  refine fun ea H1 s1 i1 ea' e' => ?_
  cases e'
  obtain ⟨dx, x1, x2⟩ := i1
  refine ⟨t.k_Big, some dx, _, rfl, x1, T.x_Big, by simp, ?_⟩
  walk_at "stp"
  refine isX_i (C := t.k_Big) x1 x2 T.x_Big T.at_Big T.is_Big T.iz_Big_Big ?_
  walk_at "stp"
  refine isX_i (C := t.k_Big) x1 x2 T.x_Big T.at_Big T.is_Big T.iz_Big_ValueError ?_
  walk_at "stp"
  refine ⟨ln (by show 3 ≤ 100000; decide), fun p2 hp2 => ?_⟩
  have sp2 : Same H1 (upd H1 p2 (.tup [.ref t.k_Fault, .ref t.k_HasKeep, .ref t.k_NoRule])) := same_new hp2 _
  have kp2 : (upd H1 p2 (.tup [.ref t.k_Fault, .ref t.k_HasKeep, .ref t.k_NoRule])) p2 = some (.tup [.ref t.k_Fault, .ref t.k_HasKeep, .ref t.k_NoRule]) := upd_same
  generalize upd H1 p2 (.tup [.ref t.k_Fault, .ref t.k_HasKeep, .ref t.k_NoRule]) = H2 at sp2 kp2 ⊢
  walk_at "stp"
  refine isXT_i [t.k_Fault, t.k_HasKeep, t.k_NoRule] (sp2 _ _ x1) (sp2 _ _ x2) T.x_Big T.at_Big T.is_Big (SqT.of kp2) T.iy_Big_Fault_HasKeep_NoRule ?_
  walk_at "stp"
  refine ⟨ea, t.k_Big, _, dx, _, false, .int 0, rfl, sp2 _ _ x1, T.x_Big, T.at_Big, T.no_Big_row, sp2 _ _ x2, look_row1 _, ?_⟩
  walk_at "stp"
  refine ⟨ln (by show 4 ≤ 100000; decide), fun p3 hp3 => ?_⟩
  have sp3 : Same H2 (upd H2 p3 (.lst [.bl true, .bl true, .bl false, .int 0])) := same_new hp3 _
  have kp3 : (upd H2 p3 (.lst [.bl true, .bl true, .bl false, .int 0])) p3 = some (.lst [.bl true, .bl true, .bl false, .int 0]) := upd_same
  generalize upd H2 p3 (.lst [.bl true, .bl true, .bl false, .int 0]) = H3 at sp3 kp3 ⊢
  walk_at "stp"
  have s23 := sp2.trans sp3
  refine ⟨ln (by show 3 ≤ 100000; decide), fun p4 hp4 => ?_⟩
  have sp4 : Same H3 (upd H3 p4 (.tup [.ref t.k_NoSign, .ref t.k_NoText, .ref t.k_NotLayered])) := same_new hp4 _
  have kp4 : (upd H3 p4 (.tup [.ref t.k_NoSign, .ref t.k_NoText, .ref t.k_NotLayered])) p4 = some (.tup [.ref t.k_NoSign, .ref t.k_NoText, .ref t.k_NotLayered]) := upd_same
  generalize upd H3 p4 (.tup [.ref t.k_NoSign, .ref t.k_NoText, .ref t.k_NotLayered]) = H4 at sp4 kp4 ⊢
  walk_at "stp"
  have s24 := s23.trans sp4
  refine isXT_i [t.k_NoSign, t.k_NoText, t.k_NotLayered] (s24 _ _ x1) (s24 _ _ x2) T.x_Big T.at_Big T.is_Big (SqT.of kp4) T.iy_Big_NoSign_NoText_NotLayered ?_
  walk_at "stp"
  refine ⟨ln (by show 1 ≤ 100000; decide), fun p5 hp5 => ?_⟩
  have sp5 : Same H4 (upd H4 p5 (.lst [.bl false])) := same_new hp5 _
  have kp5 : (upd H4 p5 (.lst [.bl false])) p5 = some (.lst [.bl false]) := upd_same
  generalize upd H4 p5 (.lst [.bl false]) = H5 at sp5 kp5 ⊢
  walk_at "stp"
  refine mAdd_l ((sp4.trans sp5) _ _ kp3) kp5 (ln (by show 5 ≤ 100000; decide)) (fun p6 hp6 => ?_)
  have s6 := same_new hp6 (.lst ([.bl true, .bl true, .bl false, .int 0] ++ [.bl false]))
  have k6 : (upd H5 p6 (.lst ([.bl true, .bl true, .bl false, .int 0] ++ [.bl false]))) p6 = some (.lst [.bl true, .bl true, .bl false, .int 0, .bl false]) := upd_same
  generalize upd H5 p6 (.lst ([.bl true, .bl true, .bl false, .int 0] ++ [.bl false])) = H6 at s6 k6 ⊢
  walk_at "stp"
  refine ⟨ln (by show 5 ≤ 100000; decide), fun p7 hp7 => ?_⟩
  have sp7 : Same H6 (upd H6 p7 (.lst [.bl true, .bl true, .bl false, .int 0, .bl false])) := same_new hp7 _
  have kp7 : (upd H6 p7 (.lst [.bl true, .bl true, .bl false, .int 0, .bl false])) p7 = some (.lst [.bl true, .bl true, .bl false, .int 0, .bl false]) := upd_same
  generalize upd H6 p7 (.lst [.bl true, .bl true, .bl false, .int 0, .bl false]) = H7 at sp7 kp7 ⊢
  walk_at "stp"
  have dl : DenL K H7 [.bl true, .bl true, .bl false, .int 0, .bl false] [.bool true, .bool true, .bool false, .int 0, .bool false] := .cons (.bl _) (.cons (.bl _) (.cons (.bl _) (.cons (.int _) (.cons (.bl _) .nil))))
  refine ⟨p6, p7, _, _, _, rfl, rfl, .inr ⟨SqL.of (sp7 _ _ k6), SqL.of kp7⟩, dl, dl, by simp [PyData.depthAll, PyData.depth], ?_⟩
  walk_at "stp"
  refine iteT ?_
  walk_at "stp"
  refine mIx_l (SqL.of (sp7 _ _ k6)) (v := .int 0) rfl ?_
  walk_at "stp"
  exact q _ (sp0.trans (s1.trans (s24.trans (sp5.trans (s6.trans sp7)))))
theorem ok_l_written (T : Txt K mg t) (G_written_out : FnOk P w K mg base (CXo P w) 43 t.a_written_out t.d_written_out ["term", "puts"] (sp_written_out K t.k_Big)) (G_l_size : FnOk P w K mg base CX0 71 t.a_l_size t.d_l_size ["_law_term_here", "_law_sizes_here"] (sp_l_size K 70)) (G_l_is_term : FnOk P w K mg base CX0 1 t.a_l_is_term t.d_l_is_term ["_law_thing"] (sp_l_is_term K)) (G_l_sizes : FnOk P w K mg base CX0 72 t.a_l_sizes t.d_l_sizes ["_law_names_here", "_law_puts_here"] (sp_l_sizes K)) (G_l_refused : FnOk P w K mg base CX0 44 t.a_l_refused t.d_l_refused ["_law_term_here", "_law_puts_here"] (sp_l_refused K)) (G_l_read : FnOk P w K mg base CX0 42 t.a_l_read t.d_l_read ["_law_term_here", "_law_puts_here"] (sp_l_read K 40)) : FnOk P w K mg base CX0 73 t.a_l_written t.d_l_written ["_law_term_here", "_law_puts_here", "_law_names_here"] (sp_l_written K) := by
  refine T.F_l_written.ok sc_l_written (fun vs H Q E h => ?_) (fun cdv A outer s H vs Q E hr h => ?_)
  · unfold sp_l_written at h
    split at h
    · rfl
    · exact h.elim
  unfold sp_l_written at h
  split at h
  rotate_left
  · exact h.elim
  refine ⟨_, (pss_cons (ps_set (i := 3) (hs := sw_call) sc_l_written.nd rfl (by first | exact Or.inl rfl | exact Or.inr rfl) (pe_callTy mc_dictK rfl T.n_dict boot_dict (pa_con (mv 1) pa_nil))) (pss_cons (ps_if (mt_cmp mo_gt (pe_call G_l_size (hr.mono (by first | decide | omega)) rfl T.m_l_size T.F_l_size.kp T.b_l_size .nil pass0 (pa_con (mv 0) (pa_con (pe_call G_l_sizes (hr.mono (by first | decide | omega)) rfl T.m_l_sizes T.F_l_sizes.kp T.b_l_sizes .nil pass0 (pa_con (mv 2) (pa_con (mv 1) pa_nil))) pa_nil))) pe_int (nomark _)) (pss_one (ps_ret (me_and (pe_call G_l_refused (hr.mono (by first | decide | omega)) rfl T.m_l_refused T.F_l_refused.kp T.b_l_refused .nil pass0 (pa_con (mv 0) (pa_con (mv 3) pa_nil))) (pe_one (pe_cmpR (ko_eqK K rfl (room150 hr)) (mv 3) (mv 1) (nomark _)))))) pss_nil) (pss_cons (ps_set (i := 4) (hs := sw_call) sc_l_written.nd rfl (by first | exact Or.inl rfl | exact Or.inr rfl) (pe_call G_written_out (hr.mono (by first | decide | omega)) rfl T.m_written_out T.F_written_out.kp T.b_written_out .nil passN (pa_con (mv 0) (pa_con (mv 3) pa_nil)))) (pss_one (ps_ret (me_and (pe_call G_l_is_term (hr.mono (by first | decide | omega)) rfl T.m_l_is_term T.F_l_is_term.kp T.b_l_is_term .nil pass0 (pa_con (mv 4) pa_nil)) (me_and (pe_cmpR (ko_eqD K rfl (room150 hr)) (mv 4) (pe_call G_l_read (hr.mono (by first | decide | omega)) rfl T.m_l_read T.F_l_read.kp T.b_l_read .nil pass0 (pa_con (mv 0) (pa_con (mv 1) pa_nil))) (nomark _)) (pe_one (pe_cmpR (ko_eqK K rfl (room150 hr)) (mv 3) (mv 1) (nomark _)))))))))), ?_⟩
  rename_i v pd np
  obtain ⟨xs, ex, rows, t0, hX, hxn, hx9, hP0, hR, hd, hv, hz, q⟩ := h
  obtain ⟨kv, hpd, ok⟩ := hP0.ex
  walk_at "stp"
  refine ⟨pd, kv, rfl, hpd, fun pk hpk => ?_⟩
  have sk := same_new hpk (.dK kv)
  have hpk2 : (upd H pk (.dK kv)) pk = some (.dK kv) := upd_same
  generalize upd H pk (.dK kv) = H1 at sk hpk2 ⊢
  have ok2 := ok.mono sk
  have pk2 : PutAt K H1 pk rows := ⟨_, hpk2, ok2⟩
  have hpd2 := sk _ _ hpd
  walk_at "stp"
  refine ⟨xs, ex, rows, sk.seq hX, hxn, hx9, hP0.mono sk, hR.ord, hR.exo, fun ps sz H2 hps s2 k2 f2 b2 => ?_⟩
  obtain ⟨tF, hf, hw⟩ := full_of f2 t0 hv
  walk_at "stp"
  refine ⟨t0, 9, sz, hd.mono (sk.trans s2), k2, fun y => by have := b2 y; omega, hz, by omega, fun H3 s3 => ?_⟩
  walk_at "stp"
  rw [hw]
  have s13 := s2.trans s3
  have s03 := sk.trans s13
  refine iteB (fun e => ?_) (fun e => ?_)
  · have h40 : 40 < tF.size := by have := of_decide_eq_true e; omega
    walk_at "stp"
    refine ⟨rows, t0, tF, pk2.mono s13, hd.mono s03, hf, hz, hR.big, h40, fun H4 s4 => ?_⟩
    have s14 := s13.trans s4
    walk_at "stp"
    refine iteT ?_
    walk_at "stp"
    exact eq_puts (s14 _ _ hpk2) (s14 _ _ hpd2) (ok2.mono s14) (ok2.mono s14) hR.nod hR.big (q _ (sk.trans s14))
  · have h40 : tF.size ≤ 40 := by have := of_decide_eq_false e; omega
    walk_at "stp"
    refine ⟨rows, t0, tF, pk2.mono s13, hd.mono s03, hf, hz, hR.big, ?_⟩
    rw [decide_eq_true h40]
    refine fun x H4 s4 dx => ?_
    walk_at "stp"
    refine ⟨tF, dx, by omega, fun H5 s5 => ?_⟩
    walk_at "stp"
    refine iteT ?_
    have s15 := s13.trans (s4.trans s5)
    walk_at "stp"
    refine ⟨rows, t0, tF, (hP0.mono sk).mono s15, hd.mono (sk.trans s15), hf, h40, by omega, fun y H6 s6 dy => ?_⟩
    have s16 := s15.trans s6
    refine eq_trm (dx.mono (s5.trans s6)) dy (by omega) ?_
    walk_at "stp"
    refine iteT ?_
    walk_at "stp"
    exact eq_puts (s16 _ _ hpk2) (s16 _ _ hpd2) (ok2.mono s16) (ok2.mono s16) hR.nod hR.big (q _ (sk.trans s16))
theorem ok_l_wrapped (T : Txt K mg t) (G_l_size : FnOk P w K mg base CX0 71 t.a_l_size t.d_l_size ["_law_term_here", "_law_sizes_here"] (sp_l_size K 70)) (G_l_sizes : FnOk P w K mg base CX0 72 t.a_l_sizes t.d_l_sizes ["_law_names_here", "_law_puts_here"] (sp_l_sizes K)) : FnOk P w K mg base CX0 73 t.a_l_wrapped t.d_l_wrapped ["_law_term_here", "_law_puts_here", "_law_names_here", "_law_words", "_law_cell_here"] (sp_l_wrapped K) := by
  refine T.F_l_wrapped.ok sc_l_wrapped (fun vs H Q E h => ?_) (fun cdv A outer s H vs Q E hr h => ?_)
  · unfold sp_l_wrapped at h
    split at h
    · rfl
    · exact h.elim
  unfold sp_l_wrapped at h
  split at h
  rotate_left
  · exact h.elim
  refine ⟨_, (@QSs.pss _ _ _ (qss_cons (qs_of (ps_set (i := 5) (hs := sw_call) sc_l_wrapped.nd rfl (by first | exact Or.inl rfl | exact Or.inr rfl) (pe_call G_l_size (hr.mono (by first | decide | omega)) rfl T.m_l_size T.F_l_size.kp T.b_l_size .nil pass0 (pa_con (mv 0) (pa_con (pe_call G_l_sizes (hr.mono (by first | decide | omega)) rfl T.m_l_sizes T.F_l_sizes.kp T.b_l_sizes .nil pass0 (pa_con (mv 2) (pa_con (mv 1) pa_nil))) pa_nil))))) (qss_cons (qs_of (ps_set (i := 6) (hs := sw_bin) sc_l_wrapped.nd rfl (by first | exact Or.inl rfl | exact Or.inr rfl) (pe_op (ko_add K rfl) pe_int (pe_op mo_mod (mv 4) pe_int)))) (qss_cons (qs_of (ps_while PassesOwn.never (mt_cmp mo_lt (mv 5) (mv 6) (nomark _)) (pss_cons (ps_set (i := 4) (hs := sw_bin) sc_l_wrapped.nd rfl (by first | exact Or.inl rfl | exact Or.inr rfl) (pe_op (ko_add K rfl) (pe_op mo_fdiv (mv 4) pe_int) (pe_op mo_mul (mv 5) pe_int))) (pss_one (ps_if (PW.pt (pw_or (mt_cmp mo_eq (pe_op mo_sub (mv 6) (mv 5)) pe_int (nomark _)) (pw_or1 (mt_cmp mo_eq (pe_op mo_mod (mv 4) pe_int) pe_int (nomark _))))) (pss_cons (ps_set (i := 0) (hs := sw_tup) sc_l_wrapped.nd rfl (by first | exact Or.inl rfl | exact Or.inr rfl) (pe_tup (pa_con pe_str (pa_con (pe_ix (ki_seq K rfl) (mv 3) (pe_op mo_mod (mv 4) pe_int) (fun _ _ => rfl)) (pa_con (pe_tup (pa_con (mv 0) pa_nil)) pa_nil))))) (pss_one (ps_set (i := 5) (hs := sw_bin) sc_l_wrapped.nd rfl (by first | exact Or.inl rfl | exact Or.inr rfl) (pe_op (ko_add K rfl) (mv 5) pe_int)))) (pss_cons (ps_set (i := 7) (hs := sw_lst) sc_l_wrapped.nd rfl (by first | exact Or.inl rfl | exact Or.inr rfl) (pe_lst (pa_con (mv 0) (pa_con (pe_ix (ki_seq K rfl) (pe_lst (pa_con (pe_tup (pa_con pe_str (pa_con (pe_op mo_mod (mv 4) pe_int) pa_nil))) (pa_con (pe_tup (pa_con pe_str (pa_con (pe_ix (ki_seq K rfl) (mv 3) (pe_op mo_mod (pe_op mo_fdiv (mv 4) pe_int) pe_int) (fun _ _ => rfl)) (pa_con (pe_tup pa_nil) pa_nil)))) pa_nil))) (pe_op mo_mod (pe_op mo_fdiv (mv 4) pe_int) pe_int) (fun _ _ => rfl)) pa_nil)))) (pss_cons (ps_if (mt_cmp mo_eq (pe_op mo_mod (mv 4) pe_int) pe_int (nomark _)) (pss_one (ps_expr (ke_bm0 K rfl PySem.F.plainAttrs_list PySem.F.slot_list_reverse PySem.F.type_list_reverse mm_reverse (mv 7)))) pss_nil) (pss_cons (ps_set (i := 0) (hs := sw_tup) sc_l_wrapped.nd rfl (by first | exact Or.inl rfl | exact Or.inr rfl) (pe_tup (pa_con pe_str (pa_con (pe_ix (ki_seq K rfl) (mv 3) (pe_op mo_mod (mv 4) pe_int) (fun _ _ => rfl)) (pa_con (pe_callTy (kc_tuple K rfl) rfl T.n_tuple boot_tuple (pa_con (mv 7) pa_nil)) pa_nil))))) (pss_one (ps_set (i := 5) (hs := sw_bin) sc_l_wrapped.nd rfl (by first | exact Or.inl rfl | exact Or.inr rfl) (pe_op (ko_add K rfl) (mv 5) pe_int))))))))))) (qss_one (qs_of (ps_ret (mv 0)))))))), ?_⟩
  rename_i v pd np wp c
  obtain ⟨xs, ws, rows, t0, hX, hxn, hx9, hW, hw4, hP0, hR, hd, hv, hz1, q⟩ := h
  walk_at "stp"
  refine ⟨xs, [], rows, hX, hxn, hx9, hP0, hR.ord, hR.exo, fun ps sz H2 hps s2 k2 f2 b2 => ?_⟩
  walk_at "stp"
  refine ⟨t0, 9, sz, hd.mono s2, k2, fun y => by have := b2 y; omega, by omega, by omega, fun H3 s3 => ?_⟩
  have s03 := s2.trans s3
  generalize wsz sz t0 = w0
  walk_at "stp"
  have hdue : 0 ≤ c % 4 ∧ c % 4 < 4 := by omega
  generalize c % 4 = cd at hdue ⊢
  refine while_row (fun n σ' J => ∃ (v' : V) (t' : Trm) (c1 : Int) (w : Nat) (o7 : Option V), σ' = [some v', some (.ref pd), some (.ref np), some (.ref wp), some (.int c1), some (.int (w : Int)), some (.int (38 + cd)), o7] ∧ Same H J ∧ Den K J v' t'.data ∧ vin xs t' ∧ t'.size + w0 ≤ 1 + w ∧ (w ≤ w0 ∨ w ≤ 43) ∧ n = 50 - w) (50 - w0) ⟨v, t0, c, w0, none, rfl, s03, hd.mono s03, hv, by omega, .inl (Nat.le_refl _), rfl⟩ (fun n σ' J R hP kT kF => ?_)
  obtain ⟨v', t', c1, w, o7, rfl, sJ, dJ, vJ, zJ, wJ, hn⟩ := hP
  walk_at "stp"
  by_cases hlt : (w : Int) < 38 + cd
  · rw [decide_eq_true hlt]
    refine kT _ (fun D' f1 f2 hnx hct => ?_)
    walk_at "stp"
    refine mMul_i (mulOk_right (by decide)) ?_
    walk_at "stp"
    generalize c1 / 3 + (w : Int) * 7 = c2
    refine iteB (fun e => ?_) (fun e => ?_)
    · refine iteT ?_
      walk_at "stp"
      obtain ⟨vy, hvy, _⟩ := atI_lt (xs := ws.map V.str) (i := c2 % 4) (by omega) (by rw [List.length_map, hw4]; omega)
      obtain ⟨y, rfl, _⟩ := strs_at hvy
      refine mIx_l (sJ.seq hW) hvy ?_
      walk_at "stp"
      refine ⟨ln (by show 1 ≤ 100000; decide), fun p1 hp1 => ?_⟩
      have sp1 : Same J (upd J p1 (.tup [v'])) := same_new hp1 _
      have kp1 : (upd J p1 (.tup [v'])) p1 = some (.tup [v']) := upd_same
      generalize upd J p1 (.tup [v']) = J1 at sp1 kp1 ⊢
      walk_at "stp"
      refine ⟨ln (by show 3 ≤ 100000; decide), fun p2 hp2 => ?_⟩
      have sp2 : Same J1 (upd J1 p2 (.tup [.str (Str.ofString "app"), .str y, .ref p1])) := same_new hp2 _
      have kp2 : (upd J1 p2 (.tup [.str (Str.ofString "app"), .str y, .ref p1])) p2 = some (.tup [.str (Str.ofString "app"), .str y, .ref p1]) := upd_same
      generalize upd J1 p2 (.tup [.str (Str.ofString "app"), .str y, .ref p1]) = J2 at sp2 kp2 ⊢
      walk_at "stp"
      refine hnx _ _ (50 - (w + 1)) (by omega) ⟨_, .app y [t'], c2, w + 1, _, rfl, sJ.trans (sp1.trans sp2), app_den (SqT.of kp2) (SqT.of (sp2 _ _ kp1)) (.cons (dJ.mono (sp1.trans sp2)) .nil), by simp only [vin, vinL]; exact ⟨vJ, trivial⟩, by simp only [Trm.size, Trm.sizeL]; omega, .inr (by omega), rfl⟩
    walk_at "stp"
    refine iteB (fun e => ?_) (fun e => ?_)
    · walk_at "stp"
      obtain ⟨vy, hvy, _⟩ := atI_lt (xs := ws.map V.str) (i := c2 % 4) (by omega) (by rw [List.length_map, hw4]; omega)
      obtain ⟨y, rfl, _⟩ := strs_at hvy
      refine mIx_l (sJ.seq hW) hvy ?_
      walk_at "stp"
      refine ⟨ln (by show 1 ≤ 100000; decide), fun p1 hp1 => ?_⟩
      have sp1 : Same J (upd J p1 (.tup [v'])) := same_new hp1 _
      have kp1 : (upd J p1 (.tup [v'])) p1 = some (.tup [v']) := upd_same
      generalize upd J p1 (.tup [v']) = J1 at sp1 kp1 ⊢
      walk_at "stp"
      refine ⟨ln (by show 3 ≤ 100000; decide), fun p2 hp2 => ?_⟩
      have sp2 : Same J1 (upd J1 p2 (.tup [.str (Str.ofString "app"), .str y, .ref p1])) := same_new hp2 _
      have kp2 : (upd J1 p2 (.tup [.str (Str.ofString "app"), .str y, .ref p1])) p2 = some (.tup [.str (Str.ofString "app"), .str y, .ref p1]) := upd_same
      generalize upd J1 p2 (.tup [.str (Str.ofString "app"), .str y, .ref p1]) = J2 at sp2 kp2 ⊢
      walk_at "stp"
      refine hnx _ _ (50 - (w + 1)) (by omega) ⟨_, .app y [t'], c2, w + 1, _, rfl, sJ.trans (sp1.trans sp2), app_den (SqT.of kp2) (SqT.of (sp2 _ _ kp1)) (.cons (dJ.mono (sp1.trans sp2)) .nil), by simp only [vin, vinL]; exact ⟨vJ, trivial⟩, by simp only [Trm.size, Trm.sizeL]; omega, .inr (by omega), rfl⟩
    walk_at "stp"
    refine ⟨ln (by show 2 ≤ 100000; decide), fun p1 hp1 => ?_⟩
    have sp1 : Same J (upd J p1 (.tup [.str (Str.ofString "num"), .int (c2 % 100)])) := same_new hp1 _
    have kp1 : (upd J p1 (.tup [.str (Str.ofString "num"), .int (c2 % 100)])) p1 = some (.tup [.str (Str.ofString "num"), .int (c2 % 100)]) := upd_same
    generalize upd J p1 (.tup [.str (Str.ofString "num"), .int (c2 % 100)]) = J1 at sp1 kp1 ⊢
    walk_at "stp"
    obtain ⟨vy, hvy, _⟩ := atI_lt (xs := ws.map V.str) (i := c2 / 7 % 4) (by omega) (by rw [List.length_map, hw4]; omega)
    obtain ⟨y, rfl, _⟩ := strs_at hvy
    refine mIx_l ((sJ.trans sp1).seq hW) hvy ?_
    walk_at "stp"
    refine ⟨ln (by show 0 ≤ 100000; decide), fun p2 hp2 => ?_⟩
    have sp2 : Same J1 (upd J1 p2 (.tup [])) := same_new hp2 _
    have kp2 : (upd J1 p2 (.tup [])) p2 = some (.tup []) := upd_same
    generalize upd J1 p2 (.tup []) = J2 at sp2 kp2 ⊢
    walk_at "stp"
    refine ⟨ln (by show 3 ≤ 100000; decide), fun p3 hp3 => ?_⟩
    have sp3 : Same J2 (upd J2 p3 (.tup [.str (Str.ofString "app"), .str y, .ref p2])) := same_new hp3 _
    have kp3 : (upd J2 p3 (.tup [.str (Str.ofString "app"), .str y, .ref p2])) p3 = some (.tup [.str (Str.ofString "app"), .str y, .ref p2]) := upd_same
    generalize upd J2 p3 (.tup [.str (Str.ofString "app"), .str y, .ref p2]) = J3 at sp3 kp3 ⊢
    walk_at "stp"
    refine ⟨ln (by show 2 ≤ 100000; decide), fun p4 hp4 => ?_⟩
    have sp4 : Same J3 (upd J3 p4 (.lst [.ref p1, .ref p3])) := same_new hp4 _
    have kp4 : (upd J3 p4 (.lst [.ref p1, .ref p3])) p4 = some (.lst [.ref p1, .ref p3]) := upd_same
    generalize upd J3 p4 (.lst [.ref p1, .ref p3]) = J4 at sp4 kp4 ⊢
    walk_at "stp"
    obtain ⟨xl, tl, hxl, dxl, ztl, vtl⟩ : ∃ (xl : V) (tl : Trm), atI [V.ref p1, V.ref p3] (c2 / 5 % 2) = some xl ∧ Den K J4 xl tl.data ∧ tl.size = 1 ∧ vin xs tl := by
      have hi : c2 / 5 % 2 = 0 ∨ c2 / 5 % 2 = 1 := by omega
      rcases hi with z | z
      · exact ⟨_, .num (c2 % 100), by rw [z]; rfl, num_den (SqT.of ((sp2.trans (sp3.trans sp4)) _ _ kp1)), by simp [Trm.size], by simp [vin]⟩
      · exact ⟨_, .app y [], by rw [z]; rfl, app_den (SqT.of (sp4 _ _ kp3)) (SqT.of ((sp3.trans sp4) _ _ kp2)) .nil, by simp [Trm.size, Trm.sizeL], by simp [vin, vinL]⟩
    refine mIx_l (SqL.of kp4) hxl ?_
    walk_at "stm"
    have s14 := sp1.trans (sp2.trans (sp3.trans sp4))
    refine ⟨ln (by show 2 ≤ 100000; decide), fun p5 hp5 => ?_⟩
    have sp5 : Same J4 (upd J4 p5 (.lst [v', xl])) := same_new hp5 _
    have kp5 : (upd J4 p5 (.lst [v', xl])) p5 = some (.lst [v', xl]) := upd_same
    generalize upd J4 p5 (.lst [v', xl]) = J5 at sp5 kp5 ⊢
    walk_at "stm"
    have s15 := s14.trans sp5
    (with_reducible refine seq_rest (fun σ' L => ∃ (us : List V) (ks : List Trm), σ' = [some v', some (.ref pd), some (.ref np), some (.ref wp), some (.int c2), some (.int (w : Int)), some (.int (38 + cd)), some (.ref p5)] ∧ Same J L ∧ L p5 = some (.lst us) ∧ DenL K L us (Trm.dataL ks) ∧ (∀ k ∈ ks, vin xs k) ∧ Trm.sizeL ks = t'.size + 1 ∧ us.length = 2) (fun σ' L hP => ?_) (fun kz => ?_))
    rotate_left
    · walk_at "stm"
      refine iteB (fun e => ?_) (fun e => ?_)
      · walk_at "stm"
        refine ⟨.inl ⟨rfl, _, SqL.of kp5⟩, ?_⟩
        refine ⟨_, kp5, ?_⟩
        refine kz _ _ ⟨_, [tl, t'], rfl, same_upd s15 (none_back s14 hp5), upd_same, ?_, fun k hk => ?_, by simp only [Trm.sizeL]; omega, rfl⟩
        · exact DenL.lst kp5 (.cons (dxl.mono sp5) (.cons (dJ.mono s15) .nil))
        · rcases List.mem_cons.mp hk with z | z
          · rw [z]; exact vtl
          · rw [List.mem_singleton.mp z]; exact vJ
      · with_reducible refine tNext_i ?_
        refine kz _ _ ⟨_, [t', tl], rfl, s15, kp5, .cons (dJ.mono s15) (.cons (dxl.mono sp5) .nil), fun k hk => ?_, by simp only [Trm.sizeL]; omega, rfl⟩
        rcases List.mem_cons.mp hk with z | z
        · rw [z]; exact vJ
        · rw [List.mem_singleton.mp z]; exact vtl
    obtain ⟨us, ks, rfl, sL, kL, dL, vL, zL, uL⟩ := hP
    walk_at "stp"
    obtain ⟨vy2, hvy2, _⟩ := atI_lt (xs := ws.map V.str) (i := c2 % 4) (by omega) (by rw [List.length_map, hw4]; omega)
    obtain ⟨y2, rfl, _⟩ := strs_at hvy2
    refine mIx_l ((sJ.trans sL).seq hW) hvy2 ?_
    walk_at "stp"
    refine mTup_l (SqL.of kL) (fun p6 hp6 => ?_)
    have s6 := same_new hp6 (.tup us)
    have k6 : (upd L p6 (.tup us)) p6 = some (.tup us) := upd_same
    generalize upd L p6 (.tup us) = L6 at s6 k6 ⊢
    walk_at "stp"
    refine ⟨ln (by show 3 ≤ 100000; decide), fun p7 hp7 => ?_⟩
    have sp7 : Same L6 (upd L6 p7 (.tup [.str (Str.ofString "app"), .str y2, .ref p6])) := same_new hp7 _
    have kp7 : (upd L6 p7 (.tup [.str (Str.ofString "app"), .str y2, .ref p6])) p7 = some (.tup [.str (Str.ofString "app"), .str y2, .ref p6]) := upd_same
    generalize upd L6 p7 (.tup [.str (Str.ofString "app"), .str y2, .ref p6]) = L7 at sp7 kp7 ⊢
    walk_at "stp"
    refine hnx _ _ (50 - (w + 2)) (by omega) ⟨_, .app y2 ks, c2, w + 2, _, rfl, sJ.trans (sL.trans (s6.trans sp7)), app_den (SqT.of kp7) (SqT.of (sp7 _ _ k6)) (dL.mono (s6.trans sp7)), by simp only [vin]; exact vinL_iff.mpr vL, by simp only [Trm.size]; omega, .inr (by omega), rfl⟩
  · rw [decide_eq_false hlt]
    refine kF _ ?_
    walk_at "stp"
    exact q _ t' J sJ dJ vJ (by omega)
end
section
variable {P : Program} {w : World} {K : PySem.W.Frag} {mg : Str → Option Value} {base : Heap} {t : Ad}
theorem putR_old {rows : Rws} {x : Str} {v : Trm} (h : x ∈ rows.map (·.1)) : putR rows x v = rows.map (fun r => if r.1 = x then (r.1, v) else r) := by unfold putR; rw [if_pos (any_iff.mpr h)]
theorem put_put {rows : Rws} {x : Str} {t u : Trm} : putR (putR rows x t) x u = putR rows x u := by
  by_cases h : x ∈ rows.map (·.1)
  · have h2 : x ∈ (putR rows x t).map (·.1) := by rw [putR_keys h]; exact h
    have e1 : ∀ v : Trm, putR rows x v = rows.map (fun r => if r.1 = x then (r.1, v) else r) := fun v => by unfold putR; rw [if_pos (any_iff.mpr h)]
    have e2 : putR (putR rows x t) x u = (putR rows x t).map (fun r => if r.1 = x then (r.1, u) else r) := putR_old h2
    rw [e2, e1 t, e1 u, List.map_map]
    refine List.map_congr_left fun r _ => ?_
    show (if (if r.1 = x then (r.1, t) else r).1 = x then ((if r.1 = x then (r.1, t) else r).1, u) else (if r.1 = x then (r.1, t) else r)) = (if r.1 = x then (r.1, u) else r)
    by_cases e : r.1 = x
    · rw [if_pos e, if_pos e, if_pos e]
    · rw [if_neg e, if_neg e]
  · rw [putR_new h, putR_new h]
    have h2 : x ∈ (rows ++ [(x, t)]).map (·.1) := by simp
    unfold putR
    rw [if_pos (any_iff.mpr h2), List.map_append]
    congr 1
    · conv => rhs; rw [← List.map_id rows]
      refine List.map_congr_left fun r hr => ?_
      rw [if_neg (fun z => h (List.mem_map.mpr ⟨r, hr, z⟩))]
      rfl
    · simp
theorem ok_law (T : Txt K mg t) (G_l_names : FnOk P w K mg base CX0 1 t.a_l_names t.d_l_names ["_law_cell_here", "_law_many", "_law_first"] (sp_l_names K)) (G_l_puts : FnOk P w K mg base CX0 3 t.a_l_puts t.d_l_puts ["_law_script", "_law_names_here", "_law_words", "_law_start"] (sp_l_puts K)) (G_l_term : FnOk P w K mg base CX0 2 t.a_l_term t.d_l_term ["_law_cells", "_law_names_here", "_law_words"] (sp_l_term K)) (G_l_written : FnOk P w K mg base CX0 73 t.a_l_written t.d_l_written ["_law_term_here", "_law_puts_here", "_law_names_here"] (sp_l_written K)) (G_l_cell : FnOk P w K mg base CX0 1 t.a_l_cell t.d_l_cell ["_law_script", "_law_k"] (sp_l_cell K)) (G_l_wrapped : FnOk P w K mg base CX0 73 t.a_l_wrapped t.d_l_wrapped ["_law_term_here", "_law_puts_here", "_law_names_here", "_law_words", "_law_cell_here"] (sp_l_wrapped K)) (G_l_number : FnOk P w K mg base CX0 1 t.a_l_number t.d_l_number ["_law_cell_here"] (sp_l_number)) : FnOk P w K mg base CX0 74 t.a_law t.d_law ["_law_script"] (sp_law K) := by
  refine T.F_law.ok sc_law (fun vs H Q E h => ?_) (fun cdv A outer s H vs Q E hr h => ?_)
  · unfold sp_law at h
    split at h
    · rfl
    · exact h.elim
  unfold sp_law at h
  split at h
  rotate_left
  · exact h.elim
  refine ⟨_, (@QSs.pss _ _ _ (qss_cons (qs_of (ps_set (i := 1) (hs := sw_call) sc_law.nd rfl (by first | exact Or.inl rfl | exact Or.inr rfl) (pe_call G_l_names (hr.mono (by first | decide | omega)) rfl T.m_l_names T.F_l_names.kp T.b_l_names .nil pass0 (pa_con (pe_call G_l_cell (hr.mono (by first | decide | omega)) rfl T.m_l_cell T.F_l_cell.kp T.b_l_cell .nil pass0 (pa_con (mv 0) (pa_con pe_int pa_nil))) (pa_con pe_int (pa_con pe_str pa_nil)))))) (qss_cons (qs_of (ps_set (i := 2) (hs := sw_call) sc_law.nd rfl (by first | exact Or.inl rfl | exact Or.inr rfl) (pe_call G_l_names (hr.mono (by first | decide | omega)) rfl T.m_l_names T.F_l_names.kp T.b_l_names .nil pass0 (pa_con (pe_call G_l_cell (hr.mono (by first | decide | omega)) rfl T.m_l_cell T.F_l_cell.kp T.b_l_cell .nil pass0 (pa_con (mv 0) (pa_con pe_int pa_nil))) (pa_con pe_int (pa_con pe_str pa_nil)))))) (qss_cons (qs_of (ps_set (i := 3) (hs := sw_call) sc_law.nd rfl (by first | exact Or.inl rfl | exact Or.inr rfl) (pe_call G_l_puts (hr.mono (by first | decide | omega)) rfl T.m_l_puts T.F_l_puts.kp T.b_l_puts .nil pass0 (pa_con (mv 0) (pa_con (mv 1) (pa_con (mv 2) (pa_con pe_int pa_nil))))))) (qss_cons (qs_of (ps_comp (i := 4) sc_law.nd rfl (by first | exact Or.inl rfl | exact Or.inr rfl) rfl (pi_range1 rfl T.n_range (pa_con (pe_op mo_mod (pe_call G_l_cell (hr.mono (by first | decide | omega)) rfl T.m_l_cell T.F_l_cell.kp T.b_l_cell .nil pass0 (pa_con (mv 0) (pa_con pe_int pa_nil))) pe_int) pa_nil)) (comp_sc (defScope s_law) ["_law_script", "_law_names_here", "_law_words", "_law_puts_here", "_law_cells", "_law_term_here", "_law_later"] ["_law_script", "_law_names_here", "_law_words", "_law_puts_here", "_law_cells", "_law_term_here", "_law_later"] rfl rfl (by decide +kernel)) (fun _ _ _ _ _ => pts_nil) (fun _ _ _ _ _ => (pe_call G_l_cell (hr.mono (by first | decide | omega)) rfl T.m_l_cell T.F_l_cell.kp T.b_l_cell .nil pass0 (pa_con (mv 1) (pa_con (pe_op (ko_add K rfl) pe_int (mv 0)) pa_nil)))))) (qss_cons (qs_of (ps_set (i := 5) (hs := sw_call) sc_law.nd rfl (by first | exact Or.inl rfl | exact Or.inr rfl) (pe_call G_l_term (hr.mono (by first | decide | omega)) rfl T.m_l_term T.F_l_term.kp T.b_l_term .nil pass0 (pa_con (mv 4) (pa_con (mv 1) (pa_con (mv 2) pa_nil)))))) (qss_cons (qs_if (mt_cmp mo_eq (pe_op mo_mod (pe_call G_l_cell (hr.mono (by first | decide | omega)) rfl T.m_l_cell T.F_l_cell.kp T.b_l_cell .nil pass0 (pa_con (mv 0) (pa_con pe_int pa_nil))) pe_int) pe_int (nomark _)) (qss_cons (qs_of (ps_dput (hu_of hr) (mv 3) (pe_ix (ki_seq K rfl) (mv 1) pe_int (fun _ _ => rfl)) (pe_tup (pa_con pe_str (pa_con (pe_ix (ki_seq K rfl) (mv 2) pe_int (fun _ _ => rfl)) (pa_con (pe_tup (pa_con (pe_tup (pa_con pe_str (pa_con (pe_ix (ki_seq K rfl) (mv 1) (pe_op (ko_add K rfl) pe_int (pe_op mo_mod (pe_call G_l_cell (hr.mono (by first | decide | omega)) rfl T.m_l_cell T.F_l_cell.kp T.b_l_cell .nil pass0 (pa_con (mv 0) (pa_con pe_int pa_nil))) pe_int)) (fun _ _ => rfl)) pa_nil))) pa_nil)) pa_nil)))) rfl)) (qss_one (qs_of (ps_set (i := 5) (hs := sw_call) sc_law.nd rfl (by first | exact Or.inl rfl | exact Or.inr rfl) (pe_call G_l_wrapped (hr.mono (by first | decide | omega)) rfl T.m_l_wrapped T.F_l_wrapped.kp T.b_l_wrapped .nil pass0 (pa_con (pe_tup (pa_con pe_str (pa_con (pe_ix (ki_seq K rfl) (mv 1) pe_int (fun _ _ => rfl)) pa_nil))) (pa_con (mv 3) (pa_con (mv 1) (pa_con (mv 2) (pa_con (pe_op mo_fdiv (pe_op mo_mod (pe_call G_l_cell (hr.mono (by first | decide | omega)) rfl T.m_l_cell T.F_l_cell.kp T.b_l_cell .nil pass0 (pa_con (mv 0) (pa_con pe_int pa_nil))) (pe_op mo_pow pe_int pe_int)) pe_int) pa_nil)))))))))) qss_nil) (qss_cons (qs_if (pt_not (kt_tru K rfl (pe_call G_l_written (hr.mono (by first | decide | omega)) rfl T.m_l_written T.F_l_written.kp T.b_l_written .nil pass0 (pa_con (mv 5) (pa_con (mv 3) (pa_con (mv 1) pa_nil)))))) (qss_one (qs_of (ps_ret pe_bl))) qss_nil) (qss_cons (qs_of (ps_set (i := 6) (hs := sw_call) sc_law.nd rfl (by first | exact Or.inl rfl | exact Or.inr rfl) (pe_callTy mc_dictK rfl T.n_dict boot_dict (pa_con (mv 3) pa_nil)))) (qss_cons (qs_of (ps_dput (hu_of hr) (mv 6) (pe_ix (ki_seq K rfl) (mv 1) pe_int (fun _ _ => rfl)) (pe_tup (pa_con pe_str (pa_con (pe_ix (ki_seq K rfl) (mv 2) pe_int (fun _ _ => rfl)) (pa_con (pe_tup (pa_con (pe_tup (pa_con pe_str (pa_con pe_int pa_nil))) (pa_con (pe_tup (pa_con pe_str (pa_con pe_str pa_nil))) pa_nil))) pa_nil)))) rfl)) (qss_cons (qs_if (mt_cmp (ko_inV K rfl) pe_str (mv 1) (by with_unfolding_all rfl)) (qss_one (qs_of (ps_dput (hu_of hr) (mv 6) (pe_ix (ki_seq K rfl) (mv 1) pe_int (fun _ _ => rfl)) (pe_tup (pa_con pe_str (pa_con pe_int pa_nil))) rfl))) qss_nil) (qss_cons (qs_if (PW.pt (pw_or (pt_not (kt_tru K rfl (pe_call G_l_written (hr.mono (by first | decide | omega)) rfl T.m_l_written T.F_l_written.kp T.b_l_written .nil pass0 (pa_con (mv 5) (pa_con (mv 6) (pa_con (mv 1) pa_nil)))))) (pw_or1 (pt_not (kt_tru K rfl (pe_call G_l_written (hr.mono (by first | decide | omega)) rfl T.m_l_written T.F_l_written.kp T.b_l_written .nil pass0 (pa_con (mv 5) (pa_con (mv 3) (pa_con (mv 1) pa_nil))))))))) (qss_one (qs_of (ps_ret pe_bl))) qss_nil) (qss_cons (qs_of (ps_dput (hu_of hr) (mv 6) (pe_ix (ki_seq K rfl) (mv 1) pe_int (fun _ _ => rfl)) (pe_tup (pa_con pe_str (pa_con (pe_call G_l_number (hr.mono (by first | decide | omega)) rfl T.m_l_number T.F_l_number.kp T.b_l_number .nil pass0 (pa_con (pe_call G_l_cell (hr.mono (by first | decide | omega)) rfl T.m_l_cell T.F_l_cell.kp T.b_l_cell .nil pass0 (pa_con (mv 0) (pa_con pe_int pa_nil))) pa_nil)) pa_nil))) rfl)) (qss_one (qs_of (ps_ret (pe_call G_l_written (hr.mono (by first | decide | omega)) rfl T.m_l_written T.F_l_written.kp T.b_l_written .nil pass0 (pa_con (mv 5) (pa_con (mv 6) (pa_con (mv 1) pa_nil)))))))))))))))))))), ?_⟩
  rename_i a
  obtain ⟨ns, hS, hn0, hB, q⟩ := h
  walk_at "stp"
  refine ⟨ns, hS, hB, by omega, by omega, fun c0 => ?_⟩
  walk_at "stp"
  refine ⟨by omega, by omega, by decide +kernel, great_nodup, fun np xs H1 hx9 hxn hxl s1 k1 => ?_⟩
  have hx9 : xs.length = 9 := hx9
  walk_at "stp"
  refine ⟨ns, s1.seq hS, hB, by omega, by omega, fun c1 => ?_⟩
  walk_at "stp"
  refine ⟨by omega, by omega, by decide +kernel, small_nodup, fun wp ws H2 hw4 hwn hwl s2 k2 => ?_⟩
  have hw4 : ws.length = 4 := hw4
  have s02 := s1.trans s2
  walk_at "stp"
  refine ⟨ns, xs, ws, s02.seq hS, hB, SqL.of (s2 _ _ k1), hxn, hx9, SqL.of k2, by omega, by omega, hwl, by omega, by omega, fun pd rows H3 s3 p3 ri => ?_⟩
  have s03 := s02.trans s3
  walk_at "stp"
  refine ⟨ns, s03.seq hS, hB, by omega, by omega, fun c2 => ?_⟩
  walk_at "stp"
  refine ⟨c2 % 29, rfl, by omega, by omega, fun D hD => ?_⟩
  refine comp_row (row_range 0 (c2 % 29).toNat) (fun n ys J => Same H3 J ∧ (∃ cs : List Int, ys = cs.map V.int ∧ cs.length = n) ∧ J D = some (.lst ys)) (ln (by omega)) ⟨same_new hD _, ⟨[], rfl, rfl⟩, upd_same⟩ (fun _ _ _ _ => trivial) (fun n ys J Q' hn' hl' hP k => ?_) (fun ys H4 hl' hP => ?_)
  · obtain ⟨g1, ⟨cs, g2, g3⟩, g4⟩ := hP
    walk_at "stp"
    refine ⟨ns, (s03.trans g1).seq hS, hB, by omega, by omega, fun v => ?_⟩
    exact k _ _ g4 ⟨same_upd g1 hD, ⟨cs ++ [v], by rw [g2, List.map_append]; rfl, by rw [List.length_append, g3]; rfl⟩, upd_same⟩
  obtain ⟨g1, ⟨cs, g2, g3⟩, g4⟩ := hP
  have s04 := s03.trans g1
  have hcs : cs.length ≤ 28 := by omega
  subst g2
  have s14 := s2.trans (s3.trans g1)
  walk_at "stp"
  refine ⟨cs, xs, ws, SqL.of g4, by omega, SqL.of (s14 _ _ k1), by omega, by omega, SqL.of ((s3.trans g1) _ _ k2), by omega, by omega, hwl, fun v0 t0 H5 s5 d5 v5 z5 => ?_⟩
  have gx : ∀ j : Nat, j < 9 → ∃ x, xs[j]? = some x ∧ atI (xs.map V.str) (j : Int) = some (.str x) := fun j hj => by
    have e : xs[j]? = some xs[j] := List.getElem?_eq_getElem (by omega)
    exact ⟨_, e, atI_nat (by rw [List.getElem?_map, e]; rfl)⟩
  have gw : ∀ j : Nat, j < 4 → ∃ x, atI (ws.map V.str) (j : Int) = some (.str x) := fun j hj => by
    have e : ws[j]? = some ws[j] := List.getElem?_eq_getElem (by omega)
    exact ⟨_, atI_nat (by rw [List.getElem?_map, e]; rfl)⟩
  obtain ⟨x0, h0, hat0⟩ := gx 0 (by decide)
  obtain ⟨x7, h7, hat7⟩ := gx 7 (by decide)
  obtain ⟨x8, h8, hat8⟩ := gx 8 (by decide)
  obtain ⟨y2, hatw2⟩ := gw 2 (by decide)
  obtain ⟨y3, hatw3⟩ := gw 3 (by decide)
  have rk : RowsK xs rows 7 := ⟨ri.ord [] hxn, ri.nod, fun r hr => by obtain ⟨j, _, _, _, h⟩ := ri.each r hr; omega, ri.len, fun r hr => by obtain ⟨j, _, e, _⟩ := ri.each r hr; exact List.mem_of_getElem? e⟩
  have s05 := s04.trans s5
  have hS5 := s05.seq hS
  have k15 := s5 _ _ (s14 _ _ k1)
  have k25 := s5 _ _ ((s3.trans g1) _ _ k2)
  have p5 := (p3.mono g1).mono s5
  walk_at "stm"
  (with_reducible refine seq_rest (fun σ' J => ∃ (rows : Rws) (t : Trm) (v : V), σ' = [some (.ref a), some (.ref np), some (.ref wp), some (.ref pd), some (.ref D), some v, none] ∧ SqL K J a (ns.map V.int) ∧ J np = some (.lst (xs.map V.str)) ∧ J wp = some (.lst (ws.map V.str)) ∧ PutAt K J pd rows ∧ RowsK xs rows 8 ∧ Den K J v t.data ∧ vin xs t ∧ t.size ≤ 70) (fun σ' J hP => ?_) (fun kk => ?_))
  rotate_left
  · walk_at "stm"
    refine ⟨ns, hS5, hB, by omega, by omega, fun c3 => ?_⟩
    walk_at "stm"
    refine iteB (fun e => ?_) (fun e => ?_)
    rotate_left
    · with_reducible refine tNext_i ?_
      exact kk _ _ ⟨rows, t0, v0, rfl, hS5, k15, k25, p5, ⟨rk.ord, rk.nod, rk.big, by have := rk.len; omega, rk.kx⟩, d5, v5, by omega⟩
    walk_at "stp"
    refine mIx_l (SqL.of k25) hatw3 ?_
    walk_at "stp"
    refine ⟨ns, hS5, hB, by omega, by omega, fun c4 => ?_⟩
    walk_at "stp"
    obtain ⟨jn, hjn, hj8⟩ : ∃ jn : Nat, 1 + c4 % 8 = ((jn + 1 : Nat) : Int) ∧ jn < 8 := ⟨(c4 % 8).toNat, by omega, by omega⟩
    obtain ⟨xj, hj, hatj⟩ := gx (jn + 1) (by omega)
    rw [hjn]
    refine mIx_l (SqL.of k15) hatj ?_
    walk_at "stp"
    refine ⟨ln (by show 2 ≤ 100000; decide), fun q1 hq1 => ?_⟩
    have sq1 : Same H5 (upd H5 q1 (.tup [.str (Str.ofString "any"), .str xj])) := same_new hq1 _
    have kq1 : (upd H5 q1 (.tup [.str (Str.ofString "any"), .str xj])) q1 = some (.tup [.str (Str.ofString "any"), .str xj]) := upd_same
    generalize upd H5 q1 (.tup [.str (Str.ofString "any"), .str xj]) = W1 at sq1 kq1 ⊢
    walk_at "stp"
    refine ⟨ln (by show 1 ≤ 100000; decide), fun q2 hq2 => ?_⟩
    have sq2 : Same W1 (upd W1 q2 (.tup [.ref q1])) := same_new hq2 _
    have kq2 : (upd W1 q2 (.tup [.ref q1])) q2 = some (.tup [.ref q1]) := upd_same
    generalize upd W1 q2 (.tup [.ref q1]) = W2 at sq2 kq2 ⊢
    walk_at "stp"
    refine ⟨ln (by show 3 ≤ 100000; decide), fun q3 hq3 => ?_⟩
    have sq3 : Same W2 (upd W2 q3 (.tup [.str (Str.ofString "app"), .str y3, .ref q2])) := same_new hq3 _
    have kq3 : (upd W2 q3 (.tup [.str (Str.ofString "app"), .str y3, .ref q2])) q3 = some (.tup [.str (Str.ofString "app"), .str y3, .ref q2]) := upd_same
    generalize upd W2 q3 (.tup [.str (Str.ofString "app"), .str y3, .ref q2]) = W3 at sq3 kq3 ⊢
    walk_at "stp"
    have sW := sq1.trans (sq2.trans sq3)
    have dB : Den K W3 (.ref q3) (Trm.app y3 [.any xj]).data := app_den (SqT.of kq3) (SqT.of (sq3 _ _ kq2)) (.cons (any_den (SqT.of ((sq2.trans sq3) _ _ kq1))) .nil)
    refine mIx_l (SqL.of (sW _ _ k15)) hat0 ?_
    walk_at "stp"
    obtain ⟨kv5, hpd5, ok5⟩ := (p5.mono sW).ex
    have hl5 := ok5.len
    have hr5 := rk.len
    refine ⟨pd, _, rfl, .inl ⟨kv5, Sum.inr x0, hpd5, rfl, ln1 (by omega), rfl⟩, ?_⟩
    have bW4 : But pd W3 (upd W3 pd (.dK (putK kv5 (Sum.inr x0) (.ref q3)))) := but_upd _
    have hW4 : (upd W3 pd (.dK (putK kv5 (Sum.inr x0) (.ref q3)))) pd = some (.dK (putK kv5 (Sum.inr x0) (.ref q3))) := upd_same
    have oW4 := (PutsOk.put ok5 (x := x0) dB).monoT (butD_tup bW4 hpd5)
    generalize upd W3 pd (.dK (putK kv5 (Sum.inr x0) (.ref q3))) = W4 at bW4 hW4 oW4 ⊢
    have rk1 : RowsK xs (putR rows x0 (.app y3 [.any xj])) 8 := rk.put hxn h0 (by
      simp only [vin, vinL, List.append_nil]
      refine ⟨?_, trivial⟩
      have e2 : (xs.drop (0 + 1))[jn]? = some xj := by rw [List.getElem?_drop, show 0 + 1 + jn = jn + 1 by omega]; exact hj
      exact List.mem_of_getElem? e2) (by simp [Trm.size, Trm.sizeL])
    have p6 : PutAt K W4 pd (putR rows x0 (.app y3 [.any xj])) := ⟨_, hW4, oW4⟩
    have k16 := butD_at bW4 hpd5 (sW _ _ k15)
    have k26 := butD_at bW4 hpd5 (sW _ _ k25)
    have hS6 := butD_seq bW4 hpd5 (sW.seq hS5)
    walk_at "stp"
    refine mIx_l (SqL.of k16) hat0 ?_
    walk_at "stp"
    refine ⟨ln (by show 2 ≤ 100000; decide), fun q5 hq5 => ?_⟩
    have sq5 : Same W4 (upd W4 q5 (.tup [.str (Str.ofString "any"), .str x0])) := same_new hq5 _
    have kq5 : (upd W4 q5 (.tup [.str (Str.ofString "any"), .str x0])) q5 = some (.tup [.str (Str.ofString "any"), .str x0]) := upd_same
    generalize upd W4 q5 (.tup [.str (Str.ofString "any"), .str x0]) = W5 at sq5 kq5 ⊢
    walk_at "stp"
    refine ⟨ns, sq5.seq hS6, hB, by omega, by omega, fun c5 => ?_⟩
    walk_at "stp"
    refine m2_i (C := CPow) ⟨by decide, by decide, by decide⟩ ?_
    walk_at "stp"
    refine ⟨xs, ws, _, .any x0, SqL.of (sq5 _ _ k16), hxn, by omega, SqL.of (sq5 _ _ k26), hw4, p6.mono sq5, rk1.h (by omega), any_den (SqT.of kq5), by simp only [vin]; exact List.mem_of_getElem? h0, by simp [Trm.size], fun x t2 W6 s6 dx vx zx => ?_⟩
    walk_at "stm"
    have s56 := sq5.trans s6
    exact kk _ _ ⟨_, t2, x, rfl, s56.seq hS6, s56 _ _ k16, s56 _ _ k26, p6.mono s56, rk1, dx, vx, by omega⟩
  obtain ⟨rws, t, v, rfl, hSJ, k1J, k2J, pJ, rkJ, dJ, vJ, tz⟩ := hP
  have vJ0 : vin (xs ++ []) t := by rw [List.append_nil]; exact vJ
  walk_at "stp"
  refine ⟨xs, [], rws, t, SqL.of k1J, hxn, by omega, pJ, rkJ.h (by omega), dJ, vJ0, tz, fun J1 sJ1 => ?_⟩
  walk_at "stp"
  refine iteF ?_
  walk_at "stp"
  obtain ⟨kv1, hpd1, ok1⟩ := (pJ.mono sJ1).ex
  refine ⟨pd, kv1, rfl, hpd1, fun pk hpk => ?_⟩
  have sk := same_new hpk (.dK kv1)
  have hpk2 : (upd J1 pk (.dK kv1)) pk = some (.dK kv1) := upd_same
  generalize upd J1 pk (.dK kv1) = J2 at sk hpk2 ⊢
  have ok2 := ok1.mono sk
  have sJ2 := sJ1.trans sk
  have hne : pd ≠ pk := fun z => by rw [← z, hpd1] at hpk; cases hpk
  walk_at "stp"
  refine mIx_l (SqL.of (sJ2 _ _ k2J)) hatw2 ?_
  walk_at "stp"
  refine ⟨ln (by show 2 ≤ 100000; decide), fun n1 hn1 => ?_⟩
  have sn1 : Same J2 (upd J2 n1 (.tup [.str (Str.ofString "num"), .int 1])) := same_new hn1 _
  have kn1 : (upd J2 n1 (.tup [.str (Str.ofString "num"), .int 1])) n1 = some (.tup [.str (Str.ofString "num"), .int 1]) := upd_same
  generalize upd J2 n1 (.tup [.str (Str.ofString "num"), .int 1]) = N1 at sn1 kn1 ⊢
  walk_at "stp"
  refine ⟨ln (by show 2 ≤ 100000; decide), fun n2 hn2 => ?_⟩
  have sn2 : Same N1 (upd N1 n2 (.tup [.str (Str.ofString "any"), .str (Str.ofString "Other")])) := same_new hn2 _
  have kn2 : (upd N1 n2 (.tup [.str (Str.ofString "any"), .str (Str.ofString "Other")])) n2 = some (.tup [.str (Str.ofString "any"), .str (Str.ofString "Other")]) := upd_same
  generalize upd N1 n2 (.tup [.str (Str.ofString "any"), .str (Str.ofString "Other")]) = N2 at sn2 kn2 ⊢
  walk_at "stp"
  refine ⟨ln (by show 2 ≤ 100000; decide), fun n3 hn3 => ?_⟩
  have sn3 : Same N2 (upd N2 n3 (.tup [.ref n1, .ref n2])) := same_new hn3 _
  have kn3 : (upd N2 n3 (.tup [.ref n1, .ref n2])) n3 = some (.tup [.ref n1, .ref n2]) := upd_same
  generalize upd N2 n3 (.tup [.ref n1, .ref n2]) = N3 at sn3 kn3 ⊢
  walk_at "stp"
  refine ⟨ln (by show 3 ≤ 100000; decide), fun n4 hn4 => ?_⟩
  have sn4 : Same N3 (upd N3 n4 (.tup [.str (Str.ofString "app"), .str y2, .ref n3])) := same_new hn4 _
  have kn4 : (upd N3 n4 (.tup [.str (Str.ofString "app"), .str y2, .ref n3])) n4 = some (.tup [.str (Str.ofString "app"), .str y2, .ref n3]) := upd_same
  generalize upd N3 n4 (.tup [.str (Str.ofString "app"), .str y2, .ref n3]) = N4 at sn4 kn4 ⊢
  walk_at "stp"
  have sN := sn1.trans (sn2.trans (sn3.trans sn4))
  have dtt : Den K N4 (.ref n4) (Trm.app y2 [.num 1, .any (Str.ofString "Other")]).data := app_den (SqT.of kn4) (SqT.of (sn4 _ _ kn3)) (.cons (num_den (SqT.of ((sn2.trans (sn3.trans sn4)) _ _ kn1))) (.cons (any_den (SqT.of ((sn3.trans sn4) _ _ kn2))) .nil))
  have sJN := sJ2.trans sN
  refine mIx_l (SqL.of (sJN _ _ k1J)) hat8 ?_
  walk_at "stp"
  have hpk4 := sN _ _ hpk2
  have ok4 := ok2.mono sN
  have hl4 := ok4.len
  have hr4 := rkJ.len
  refine ⟨pk, _, rfl, .inl ⟨kv1, Sum.inr x8, hpk4, rfl, ln1 (by omega), rfl⟩, ?_⟩
  have bN5 : But pk N4 (upd N4 pk (.dK (putK kv1 (Sum.inr x8) (.ref n4)))) := but_upd _
  have hN5 : (upd N4 pk (.dK (putK kv1 (Sum.inr x8) (.ref n4)))) pk = some (.dK (putK kv1 (Sum.inr x8) (.ref n4))) := upd_same
  have oN5 := (PutsOk.put ok4 (x := x8) dtt).monoT (butD_tup bN5 hpk4)
  generalize upd N4 pk (.dK (putK kv1 (Sum.inr x8) (.ref n4))) = N5 at bN5 hN5 oN5 ⊢
  have k15' := butD_at bN5 hpk4 (sJN _ _ k1J)
  have hS5' := butD_seq bN5 hpk4 (sJN.seq hSJ)
  have d5' : Den K N5 v t.data := (dJ.mono sJN).monoT (butD_tup bN5 hpk4)
  have p5' : PutAt K N5 pd rws := ((pJ.mono sJN)).butD bN5 hpk4 hne
  have hl5 : (putK kv1 (Sum.inr x8) (.ref n4)).length ≤ 10 := by
    have e1 := oN5.len
    have e2 := putR_len (rows := rws) (x := x8) (t := .app y2 [.num 1, .any (Str.ofString "Other")])
    omega
  walk_at "stm"
  (with_reducible refine seq_rest (fun σ' L => ∃ (ex : List Str) (rw2 : Rws) (kv2 : List (Key × V)), σ' = [some (.ref a), some (.ref np), some (.ref wp), some (.ref pd), some (.ref D), some v, some (.ref pk)] ∧ SqL K L a (ns.map V.int) ∧ L np = some (.lst (xs.map V.str)) ∧ Den K L v t.data ∧ PutAt K L pd rws ∧ L pk = some (.dK kv2) ∧ PutsOk K L kv2 rw2 ∧ kv2.length ≤ 11 ∧ RowsH xs ex rw2 ∧ (∀ m : Int, RowsH xs ex (putR rw2 x7 (.num m)))) (fun σ' L hP => ?_) (fun kk => ?_))
  rotate_left
  · walk_at "stm"
    refine in_strs xs (.inl (SqL.of k15')) ?_
    walk_at "stm"
    refine iteB (fun e => ?_) (fun e => ?_)
    · walk_at "stp"
      refine ⟨ln (by show 2 ≤ 100000; decide), fun m1 hm1 => ?_⟩
      have sm1 : Same N5 (upd N5 m1 (.tup [.str (Str.ofString "num"), .int 7])) := same_new hm1 _
      have km1 : (upd N5 m1 (.tup [.str (Str.ofString "num"), .int 7])) m1 = some (.tup [.str (Str.ofString "num"), .int 7]) := upd_same
      generalize upd N5 m1 (.tup [.str (Str.ofString "num"), .int 7]) = M1 at sm1 km1 ⊢
      walk_at "stp"
      refine mIx_l (SqL.of (sm1 _ _ k15')) hat8 ?_
      walk_at "stp"
      have hpk5 := sm1 _ _ hN5
      have ok5' := oN5.mono sm1
      refine ⟨pk, _, rfl, .inl ⟨_, Sum.inr x8, hpk5, rfl, ln1 (by omega), rfl⟩, ?_⟩
      have bM2 : But pk M1 (upd M1 pk (.dK (putK (putK kv1 (Sum.inr x8) (.ref n4)) (Sum.inr x8) (.ref m1)))) := but_upd _
      have hM2 : (upd M1 pk (.dK (putK (putK kv1 (Sum.inr x8) (.ref n4)) (Sum.inr x8) (.ref m1)))) pk = some (.dK (putK (putK kv1 (Sum.inr x8) (.ref n4)) (Sum.inr x8) (.ref m1))) := upd_same
      have oM2 := (PutsOk.put ok5' (x := x8) (t := .num 7) (num_den (SqT.of km1))).monoT (butD_tup bM2 hpk5)
      generalize upd M1 pk (.dK (putK (putK kv1 (Sum.inr x8) (.ref n4)) (Sum.inr x8) (.ref m1))) = M2 at bM2 hM2 oM2 ⊢
      have e3 : putR (putR rws x8 (.app y2 [.num 1, .any (Str.ofString "Other")])) x8 (.num 7) = putR rws x8 (.num 7) := put_put
      rw [e3] at oM2
      have rk3 : RowsK xs (putR rws x8 (.num 7)) 9 := rkJ.put hxn h8 (by simp [vin]) (by simp [Trm.size])
      refine kk _ _ ⟨[], _, _, rfl, butD_seq bM2 hpk5 (sm1.seq hS5'), butD_at bM2 hpk5 (sm1 _ _ k15'), (d5'.mono sm1).monoT (butD_tup bM2 hpk5), (p5'.mono sm1).butD bM2 hpk5 hne, hM2, oM2, ?_, rk3.h (by omega), fun m => (rk3.put hxn h7 (by simp [vin]) (by simp [Trm.size])).h (by omega)⟩
      have e1 := oM2.len
      have e2 := putR_len (rows := rws) (x := x8) (t := .num 7)
      omega
    · have hO : Str.ofString "Other" ∉ xs := of_decide_eq_false e
      with_reducible refine tNext_i ?_
      have rh := rkJ.putEx (e := Str.ofString "Other") (t := .app y2 [.num 1, .any (Str.ofString "Other")]) hxn (by omega) hO h8 (by simp [vin, vinL]) (by simp [Trm.size, Trm.sizeL])
      refine kk _ _ ⟨[Str.ofString "Other"], _, _, rfl, hS5', k15', d5', p5', hN5, oN5, by omega, rh, fun m => ⟨ord_put hxn rh.ord h7 (by simp [vin]) (by simp [Trm.size]), fun y hy => ?_, putR_nodup rh.nod, fun r hr => ?_, ?_⟩⟩
      · obtain ⟨a1, a2⟩ := rh.exo y hy
        exact ⟨by rw [look_put, if_neg (fun z => a2 (by rw [z]; exact List.mem_of_getElem? h7))]; exact a1, a2⟩
      · rcases putR_mem hr with z | z
        · exact rh.big r z
        · rw [z]; simp [Trm.size]
      · have e1 := putR_len (rows := putR rws x8 (.app y2 [.num 1, .any (Str.ofString "Other")])) (x := x7) (t := .num m)
        have e2 := putR_len (rows := rws) (x := x8) (t := .app y2 [.num 1, .any (Str.ofString "Other")])
        omega
  obtain ⟨ex, rw2, kv2, rfl, hSL, k1L, dL, pL, hpkL, okL, hlL, rhL, rh7⟩ := hP
  have vL : vin (xs ++ ex) t := vin_mono (fun y hy => List.mem_append_left _ hy) t vJ
  walk_at "stp"
  refine ⟨xs, ex, rw2, t, SqL.of k1L, hxn, by omega, ⟨_, hpkL, okL⟩, rhL, dL, vL, tz, fun L1 sL1 => ?_⟩
  walk_at "stp"
  refine iteF ?_
  walk_at "stp"
  refine ⟨xs, [], rws, t, SqL.of (sL1 _ _ k1L), hxn, by omega, pL.mono sL1, rkJ.h (by omega), dL.mono sL1, vJ0, tz, fun L2 sL2 => ?_⟩
  have sL := sL1.trans sL2
  walk_at "stp"
  refine iteF ?_
  walk_at "stp"
  refine ⟨ns, sL.seq hSL, hB, by omega, by omega, fun c6 => ?_⟩
  walk_at "stp"
  refine fun m => ?_
  walk_at "stp"
  refine ⟨ln (by show 2 ≤ 100000; decide), fun l3 hl3 => ?_⟩
  have sl3 : Same L2 (upd L2 l3 (.tup [.str (Str.ofString "num"), .int m])) := same_new hl3 _
  have kl3 : (upd L2 l3 (.tup [.str (Str.ofString "num"), .int m])) l3 = some (.tup [.str (Str.ofString "num"), .int m]) := upd_same
  generalize upd L2 l3 (.tup [.str (Str.ofString "num"), .int m]) = L3 at sl3 kl3 ⊢
  walk_at "stp"
  have sL3 := sL.trans sl3
  refine mIx_l (SqL.of (sL3 _ _ k1L)) hat7 ?_
  walk_at "stp"
  have hpk8 := sL3 _ _ hpkL
  have ok8 := okL.mono sL3
  refine ⟨pk, _, rfl, .inl ⟨kv2, Sum.inr x7, hpk8, rfl, ln1 (by omega), rfl⟩, ?_⟩
  have bL4 : But pk L3 (upd L3 pk (.dK (putK kv2 (Sum.inr x7) (.ref l3)))) := but_upd _
  have hL4 : (upd L3 pk (.dK (putK kv2 (Sum.inr x7) (.ref l3)))) pk = some (.dK (putK kv2 (Sum.inr x7) (.ref l3))) := upd_same
  have oL4 := (PutsOk.put ok8 (x := x7) (t := .num m) (num_den (SqT.of kl3))).monoT (butD_tup bL4 hpk8)
  generalize upd L3 pk (.dK (putK kv2 (Sum.inr x7) (.ref l3))) = L4 at bL4 hL4 oL4 ⊢
  walk_at "stp"
  exact ⟨xs, ex, _, t, SqL.of (butD_at bL4 hpk8 (sL3 _ _ k1L)), hxn, by omega, ⟨_, hL4, oL4⟩, rh7 m, (dL.mono sL3).monoT (butD_tup bL4 hpk8), vL, tz, fun _ _ => q _⟩
theorem ok_all (T : Txt K mg t) : FnOk P w K mg base CX0 74 t.a_law t.d_law ["_law_script"] (sp_law K) := by
  have h_TrailError_init := ok_TrailError_init (P := P) (w := w) (base := base) T
  have h_app := ok_app (P := P) (w := w) (base := base) T
  have h_walked := ok_walked (P := P) (w := w) (base := base) T
  have h_l_cell := ok_l_cell (P := P) (w := w) (base := base) T
  have h_l_names := ok_l_names (P := P) (w := w) (base := base) T
  have h_l_number := ok_l_number (P := P) (w := w) (base := base) T
  have h_l_sign := ok_l_sign (P := P) (w := w) (base := base) T
  have h_l_is_term := ok_l_is_term (P := P) (w := w) (base := base) T
  have h_parts_up_to := ok_parts_up_to T h_walked
  have h_l_term := ok_l_term T h_l_number h_l_sign
  have h_l_puts := ok_l_puts T h_l_cell h_l_term
  have h_put_in := ok_put_in T h_walked h_app 40
  have h_l_read := ok_l_read (P := P) (w := w) (base := base) T  40
  have h_written_out := ok_written_out T h_put_in h_parts_up_to h_TrailError_init
  have h_l_refused := ok_l_refused T h_written_out
  have h_l_size := ok_l_size (P := P) (w := w) (base := base) T  70
  have h_l_sizes := ok_l_sizes T h_l_size
  have h_l_written := ok_l_written T h_written_out h_l_size h_l_is_term h_l_sizes h_l_refused h_l_read
  have h_l_wrapped := ok_l_wrapped T h_l_size h_l_sizes
  exact ok_law T h_l_names h_l_puts h_l_term h_l_written h_l_cell h_l_wrapped h_l_number
end
theorem txt_mk {K : PySem.W.Frag} {h : Heap} {mg : Str → Option Value} (X : K.In h) (G : h.Ns mainGlobals mg)
    {k_TrailError : Addr}
    {nm_TrailError q_TrailError : Str} {N_TrailError : Addr} {bs_TrailError : List Value} {sn_TrailError : List Str} {sub_TrailError : List Value} {ab_TrailError : Bool} {col_TrailError : Option Bool} {dd_TrailError : Option Addr} {k0_TrailError k1_TrailError k2_TrailError k3_TrailError k5_TrailError : Option Value}
    {k_NoText : Addr}
    {nm_NoText q_NoText : Str} {N_NoText : Addr} {bs_NoText : List Value} {sn_NoText : List Str} {sub_NoText : List Value} {ab_NoText : Bool} {col_NoText : Option Bool} {dd_NoText : Option Addr} {k0_NoText k1_NoText k2_NoText k3_NoText k5_NoText : Option Value}
    {k_NoSign : Addr}
    {nm_NoSign q_NoSign : Str} {N_NoSign : Addr} {bs_NoSign : List Value} {sn_NoSign : List Str} {sub_NoSign : List Value} {ab_NoSign : Bool} {col_NoSign : Option Bool} {dd_NoSign : Option Addr} {k0_NoSign k1_NoSign k2_NoSign k3_NoSign k5_NoSign : Option Value}
    {k_NoRule : Addr}
    {nm_NoRule q_NoRule : Str} {N_NoRule : Addr} {bs_NoRule : List Value} {sn_NoRule : List Str} {sub_NoRule : List Value} {ab_NoRule : Bool} {col_NoRule : Option Bool} {dd_NoRule : Option Addr} {k0_NoRule k1_NoRule k2_NoRule k3_NoRule k5_NoRule : Option Value}
    {k_Big : Addr}
    {nm_Big q_Big : Str} {N_Big : Addr} {bs_Big : List Value} {sn_Big : List Str} {sub_Big : List Value} {ab_Big : Bool} {col_Big : Option Bool} {dd_Big : Option Addr} {k0_Big k1_Big k2_Big k3_Big k5_Big : Option Value}
    {k_HasKeep : Addr}
    {nm_HasKeep q_HasKeep : Str} {N_HasKeep : Addr} {bs_HasKeep : List Value} {sn_HasKeep : List Str} {sub_HasKeep : List Value} {ab_HasKeep : Bool} {col_HasKeep : Option Bool} {dd_HasKeep : Option Addr} {k0_HasKeep k1_HasKeep k2_HasKeep k3_HasKeep k5_HasKeep : Option Value}
    {k_NotLayered : Addr}
    {nm_NotLayered q_NotLayered : Str} {N_NotLayered : Addr} {bs_NotLayered : List Value} {sn_NotLayered : List Str} {sub_NotLayered : List Value} {ab_NotLayered : Bool} {col_NotLayered : Option Bool} {dd_NotLayered : Option Addr} {k0_NotLayered k1_NotLayered k2_NotLayered k3_NotLayered k5_NotLayered : Option Value}
    {k_Fault : Addr}
    {nm_Fault q_Fault : Str} {N_Fault : Addr} {bs_Fault : List Value} {sn_Fault : List Str} {sub_Fault : List Value} {ab_Fault : Bool} {col_Fault : Option Bool} {dd_Fault : Option Addr} {k0_Fault k1_Fault k2_Fault k3_Fault k5_Fault : Option Value}
    {f0 : Addr} {od0 an0 : Option Addr} {sl0 : Array (Option Value)} {oc0 kV0 dc0 pm0 cd0 ct0 : Value}
    {v0 : Addr} {vd0 : Option Addr} {vn0 : Nat} {vs0 : Array (Option Value)} {w0_0 : Tok}
    {f1 : Addr} {od1 an1 : Option Addr} {sl1 : Array (Option Value)} {oc1 kV1 dc1 pm1 cd1 ct1 : Value}
    {v1 : Addr} {vd1 : Option Addr} {vn1 : Nat} {vs1 : Array (Option Value)} {w1_0 : Tok}
    {f2 : Addr} {od2 an2 : Option Addr} {sl2 : Array (Option Value)} {oc2 kV2 dc2 pm2 cd2 ct2 : Value}
    {v2 : Addr} {vd2 : Option Addr} {vn2 : Nat} {vs2 : Array (Option Value)} {w2_0 : Tok}
    {f3 : Addr} {od3 an3 : Option Addr} {sl3 : Array (Option Value)} {oc3 kV3 dc3 pm3 cd3 ct3 : Value}
    {f4 : Addr} {od4 an4 : Option Addr} {sl4 : Array (Option Value)} {oc4 kV4 dc4 pm4 cd4 ct4 : Value}
    {f5 : Addr} {od5 an5 : Option Addr} {sl5 : Array (Option Value)} {oc5 kV5 dc5 pm5 cd5 ct5 : Value}
    {f6 : Addr} {od6 an6 : Option Addr} {sl6 : Array (Option Value)} {oc6 kV6 dc6 pm6 cd6 ct6 : Value}
    {f7 : Addr} {od7 an7 : Option Addr} {sl7 : Array (Option Value)} {oc7 kV7 dc7 pm7 cd7 ct7 : Value}
    {f8 : Addr} {od8 an8 : Option Addr} {sl8 : Array (Option Value)} {oc8 kV8 dc8 pm8 cd8 ct8 : Value}
    {f9 : Addr} {od9 an9 : Option Addr} {sl9 : Array (Option Value)} {oc9 kV9 dc9 pm9 cd9 ct9 : Value}
    {f10 : Addr} {od10 an10 : Option Addr} {sl10 : Array (Option Value)} {oc10 kV10 dc10 pm10 cd10 ct10 : Value}
    {f11 : Addr} {od11 an11 : Option Addr} {sl11 : Array (Option Value)} {oc11 kV11 dc11 pm11 cd11 ct11 : Value}
    {f12 : Addr} {od12 an12 : Option Addr} {sl12 : Array (Option Value)} {oc12 kV12 dc12 pm12 cd12 ct12 : Value}
    {f13 : Addr} {od13 an13 : Option Addr} {sl13 : Array (Option Value)} {oc13 kV13 dc13 pm13 cd13 ct13 : Value}
    {f14 : Addr} {od14 an14 : Option Addr} {sl14 : Array (Option Value)} {oc14 kV14 dc14 pm14 cd14 ct14 : Value}
    {f15 : Addr} {od15 an15 : Option Addr} {sl15 : Array (Option Value)} {oc15 kV15 dc15 pm15 cd15 ct15 : Value}
    {f16 : Addr} {od16 an16 : Option Addr} {sl16 : Array (Option Value)} {oc16 kV16 dc16 pm16 cd16 ct16 : Value}
    {f17 : Addr} {od17 an17 : Option Addr} {sl17 : Array (Option Value)} {oc17 kV17 dc17 pm17 cd17 ct17 : Value}
    {f18 : Addr} {od18 an18 : Option Addr} {sl18 : Array (Option Value)} {oc18 kV18 dc18 pm18 cd18 ct18 : Value}
    {f19 : Addr} {od19 an19 : Option Addr} {sl19 : Array (Option Value)} {oc19 kV19 dc19 pm19 cd19 ct19 : Value}
    {f20 : Addr} {od20 an20 : Option Addr} {sl20 : Array (Option Value)} {oc20 kV20 dc20 pm20 cd20 ct20 : Value}
    {f21 : Addr} {od21 an21 : Option Addr} {sl21 : Array (Option Value)} {oc21 kV21 dc21 pm21 cd21 ct21 : Value}
    {t_MOST_PARTS : Tok}
    (ac_TrailError : PySem.W.nsIn K mainGlobals "TrailError" = some (some (.ref k_TrailError)))
    (oc_TrailError : K.lookup k_TrailError = some (excClassObj nm_TrailError q_TrailError k_TrailError N_TrailError bs_TrailError [.type "ValueError", .type "Exception", .type "BaseException", .type "object"] true sn_TrailError sub_TrailError ab_TrailError col_TrailError dd_TrailError k0_TrailError k1_TrailError k2_TrailError k3_TrailError k5_TrailError newS))
    (ga_TrailError : PySem.W.findIn K (.ref k_TrailError) "__getattribute__" = some (some (.builtin "BaseException.__getattribute__")))
    (gx_TrailError : PySem.W.findIn K (.ref k_TrailError) "__getattr__" = some none)
    (sa_TrailError : PySem.W.findIn K (.ref k_TrailError) "__setattr__" = some (some (.builtin "object.__setattr__")))
    (na_TrailError_row : PySem.W.findIn K (.ref k_TrailError) "row" = some none)
    (na_TrailError_ring : PySem.W.findIn K (.ref k_TrailError) "ring" = some none)
    (na_TrailError_word : PySem.W.findIn K (.ref k_TrailError) "word" = some none)
    (in_TrailError : PySem.W.findIn K (.ref k_TrailError) "__init__" = some (some (.ref f0)))
    (kc_TrailError : PySem.W.keepIn K (.ref k_TrailError) = true)
    (gm_TrailError : PySem.W.specialIn K (.ref k_TrailError) "__getattribute__" = some (some (.builtin "type.__getattribute__")))
    (rm_TrailError : PySem.W.readsIn K k_TrailError (.type "type") = true)
    (tm_TrailError : PySem.W.findCls K (.ref k_TrailError) (.type "type") "__init__" = some (.val (.ref f0)))
    (ac_NoText : PySem.W.nsIn K mainGlobals "NoText" = some (some (.ref k_NoText)))
    (oc_NoText : K.lookup k_NoText = some (excClassObj nm_NoText q_NoText k_NoText N_NoText bs_NoText [.ref k_TrailError, .type "ValueError", .type "Exception", .type "BaseException", .type "object"] true sn_NoText sub_NoText ab_NoText col_NoText dd_NoText k0_NoText k1_NoText k2_NoText k3_NoText k5_NoText newS))
    (ga_NoText : PySem.W.findIn K (.ref k_NoText) "__getattribute__" = some (some (.builtin "BaseException.__getattribute__")))
    (gx_NoText : PySem.W.findIn K (.ref k_NoText) "__getattr__" = some none)
    (sa_NoText : PySem.W.findIn K (.ref k_NoText) "__setattr__" = some (some (.builtin "object.__setattr__")))
    (na_NoText_row : PySem.W.findIn K (.ref k_NoText) "row" = some none)
    (na_NoText_ring : PySem.W.findIn K (.ref k_NoText) "ring" = some none)
    (na_NoText_word : PySem.W.findIn K (.ref k_NoText) "word" = some none)
    (in_NoText : PySem.W.findIn K (.ref k_NoText) "__init__" = some (some (.ref f0)))
    (kc_NoText : PySem.W.keepIn K (.ref k_NoText) = true)
    (ac_NoSign : PySem.W.nsIn K mainGlobals "NoSign" = some (some (.ref k_NoSign)))
    (oc_NoSign : K.lookup k_NoSign = some (excClassObj nm_NoSign q_NoSign k_NoSign N_NoSign bs_NoSign [.ref k_TrailError, .type "ValueError", .type "Exception", .type "BaseException", .type "object"] true sn_NoSign sub_NoSign ab_NoSign col_NoSign dd_NoSign k0_NoSign k1_NoSign k2_NoSign k3_NoSign k5_NoSign newS))
    (ga_NoSign : PySem.W.findIn K (.ref k_NoSign) "__getattribute__" = some (some (.builtin "BaseException.__getattribute__")))
    (gx_NoSign : PySem.W.findIn K (.ref k_NoSign) "__getattr__" = some none)
    (sa_NoSign : PySem.W.findIn K (.ref k_NoSign) "__setattr__" = some (some (.builtin "object.__setattr__")))
    (na_NoSign_row : PySem.W.findIn K (.ref k_NoSign) "row" = some none)
    (na_NoSign_ring : PySem.W.findIn K (.ref k_NoSign) "ring" = some none)
    (na_NoSign_word : PySem.W.findIn K (.ref k_NoSign) "word" = some none)
    (in_NoSign : PySem.W.findIn K (.ref k_NoSign) "__init__" = some (some (.ref f0)))
    (kc_NoSign : PySem.W.keepIn K (.ref k_NoSign) = true)
    (ac_NoRule : PySem.W.nsIn K mainGlobals "NoRule" = some (some (.ref k_NoRule)))
    (oc_NoRule : K.lookup k_NoRule = some (excClassObj nm_NoRule q_NoRule k_NoRule N_NoRule bs_NoRule [.ref k_TrailError, .type "ValueError", .type "Exception", .type "BaseException", .type "object"] true sn_NoRule sub_NoRule ab_NoRule col_NoRule dd_NoRule k0_NoRule k1_NoRule k2_NoRule k3_NoRule k5_NoRule newS))
    (ga_NoRule : PySem.W.findIn K (.ref k_NoRule) "__getattribute__" = some (some (.builtin "BaseException.__getattribute__")))
    (gx_NoRule : PySem.W.findIn K (.ref k_NoRule) "__getattr__" = some none)
    (sa_NoRule : PySem.W.findIn K (.ref k_NoRule) "__setattr__" = some (some (.builtin "object.__setattr__")))
    (na_NoRule_row : PySem.W.findIn K (.ref k_NoRule) "row" = some none)
    (na_NoRule_ring : PySem.W.findIn K (.ref k_NoRule) "ring" = some none)
    (na_NoRule_word : PySem.W.findIn K (.ref k_NoRule) "word" = some none)
    (in_NoRule : PySem.W.findIn K (.ref k_NoRule) "__init__" = some (some (.ref f0)))
    (kc_NoRule : PySem.W.keepIn K (.ref k_NoRule) = true)
    (ac_Big : PySem.W.nsIn K mainGlobals "Big" = some (some (.ref k_Big)))
    (oc_Big : K.lookup k_Big = some (excClassObj nm_Big q_Big k_Big N_Big bs_Big [.ref k_TrailError, .type "ValueError", .type "Exception", .type "BaseException", .type "object"] true sn_Big sub_Big ab_Big col_Big dd_Big k0_Big k1_Big k2_Big k3_Big k5_Big newS))
    (ga_Big : PySem.W.findIn K (.ref k_Big) "__getattribute__" = some (some (.builtin "BaseException.__getattribute__")))
    (gx_Big : PySem.W.findIn K (.ref k_Big) "__getattr__" = some none)
    (sa_Big : PySem.W.findIn K (.ref k_Big) "__setattr__" = some (some (.builtin "object.__setattr__")))
    (na_Big_row : PySem.W.findIn K (.ref k_Big) "row" = some none)
    (na_Big_ring : PySem.W.findIn K (.ref k_Big) "ring" = some none)
    (na_Big_word : PySem.W.findIn K (.ref k_Big) "word" = some none)
    (in_Big : PySem.W.findIn K (.ref k_Big) "__init__" = some (some (.ref f0)))
    (kc_Big : PySem.W.keepIn K (.ref k_Big) = true)
    (ja_Big : PySem.W.findIn K (.ref k_Big) "__class__" = some (some (.builtin "object.__class__")))
    (jn_Big : PySem.W.specialIn K (.builtin "object.__class__") "__get__" = some (some (.builtin "getset_descriptor.__get__")))
    (jt_Big : PySem.W.takesIn K (.builtin "object.__class__") = some true)
    (jm_Big : PySem.W.mroIn K k_Big (.type "object") = some true)
    (ac_HasKeep : PySem.W.nsIn K mainGlobals "HasKeep" = some (some (.ref k_HasKeep)))
    (oc_HasKeep : K.lookup k_HasKeep = some (excClassObj nm_HasKeep q_HasKeep k_HasKeep N_HasKeep bs_HasKeep [.ref k_TrailError, .type "ValueError", .type "Exception", .type "BaseException", .type "object"] true sn_HasKeep sub_HasKeep ab_HasKeep col_HasKeep dd_HasKeep k0_HasKeep k1_HasKeep k2_HasKeep k3_HasKeep k5_HasKeep newS))
    (ga_HasKeep : PySem.W.findIn K (.ref k_HasKeep) "__getattribute__" = some (some (.builtin "BaseException.__getattribute__")))
    (gx_HasKeep : PySem.W.findIn K (.ref k_HasKeep) "__getattr__" = some none)
    (sa_HasKeep : PySem.W.findIn K (.ref k_HasKeep) "__setattr__" = some (some (.builtin "object.__setattr__")))
    (na_HasKeep_row : PySem.W.findIn K (.ref k_HasKeep) "row" = some none)
    (na_HasKeep_ring : PySem.W.findIn K (.ref k_HasKeep) "ring" = some none)
    (na_HasKeep_word : PySem.W.findIn K (.ref k_HasKeep) "word" = some none)
    (in_HasKeep : PySem.W.findIn K (.ref k_HasKeep) "__init__" = some (some (.ref f0)))
    (kc_HasKeep : PySem.W.keepIn K (.ref k_HasKeep) = true)
    (ac_NotLayered : PySem.W.nsIn K mainGlobals "NotLayered" = some (some (.ref k_NotLayered)))
    (oc_NotLayered : K.lookup k_NotLayered = some (excClassObj nm_NotLayered q_NotLayered k_NotLayered N_NotLayered bs_NotLayered [.ref k_TrailError, .type "ValueError", .type "Exception", .type "BaseException", .type "object"] true sn_NotLayered sub_NotLayered ab_NotLayered col_NotLayered dd_NotLayered k0_NotLayered k1_NotLayered k2_NotLayered k3_NotLayered k5_NotLayered newS))
    (ga_NotLayered : PySem.W.findIn K (.ref k_NotLayered) "__getattribute__" = some (some (.builtin "BaseException.__getattribute__")))
    (gx_NotLayered : PySem.W.findIn K (.ref k_NotLayered) "__getattr__" = some none)
    (sa_NotLayered : PySem.W.findIn K (.ref k_NotLayered) "__setattr__" = some (some (.builtin "object.__setattr__")))
    (na_NotLayered_row : PySem.W.findIn K (.ref k_NotLayered) "row" = some none)
    (na_NotLayered_ring : PySem.W.findIn K (.ref k_NotLayered) "ring" = some none)
    (na_NotLayered_word : PySem.W.findIn K (.ref k_NotLayered) "word" = some none)
    (in_NotLayered : PySem.W.findIn K (.ref k_NotLayered) "__init__" = some (some (.ref f1)))
    (kc_NotLayered : PySem.W.keepIn K (.ref k_NotLayered) = true)
    (ac_Fault : PySem.W.nsIn K mainGlobals "Fault" = some (some (.ref k_Fault)))
    (oc_Fault : K.lookup k_Fault = some (excClassObj nm_Fault q_Fault k_Fault N_Fault bs_Fault [.ref k_TrailError, .type "ValueError", .type "Exception", .type "BaseException", .type "object"] true sn_Fault sub_Fault ab_Fault col_Fault dd_Fault k0_Fault k1_Fault k2_Fault k3_Fault k5_Fault newS))
    (ga_Fault : PySem.W.findIn K (.ref k_Fault) "__getattribute__" = some (some (.builtin "BaseException.__getattribute__")))
    (gx_Fault : PySem.W.findIn K (.ref k_Fault) "__getattr__" = some none)
    (sa_Fault : PySem.W.findIn K (.ref k_Fault) "__setattr__" = some (some (.builtin "object.__setattr__")))
    (na_Fault_row : PySem.W.findIn K (.ref k_Fault) "row" = some none)
    (na_Fault_ring : PySem.W.findIn K (.ref k_Fault) "ring" = some none)
    (na_Fault_word : PySem.W.findIn K (.ref k_Fault) "word" = some none)
    (in_Fault : PySem.W.findIn K (.ref k_Fault) "__init__" = some (some (.ref f2)))
    (kc_Fault : PySem.W.keepIn K (.ref k_Fault) = true)
    (iz_Big_Big : PySem.W.kitOne K (.ref k_Big) (.ref k_Big) = some true)
    (iz_Big_ValueError : PySem.W.kitOne K (.ref k_Big) (.type "ValueError") = some true)
    (iy_Big_Fault_HasKeep_NoRule : PySem.W.kitAny K (.ref k_Big) [.ref k_Fault, .ref k_HasKeep, .ref k_NoRule] = some false)
    (iy_Big_NoSign_NoText_NotLayered : PySem.W.kitAny K (.ref k_Big) [.ref k_NoSign, .ref k_NoText, .ref k_NotLayered] = some false)
    (l0 : K.lookup f0 = some ⟨oc0, od0, .func (PySem.W.fnOf "__init__" "TrailError.__init__" (defArgs s_TrailError_init) (defBody s_TrailError_init) (defScope s_TrailError_init) (.ref v0) kV0 dc0 pm0 an0 cd0 ct0), sl0⟩)
    (c0 : PySem.W.codeIn K cd0 "TrailError.__init__" = true)
    (k0 : PySem.W.keepIn K (.ref f0) = true)
    (v0_ : K.lookup v0 = some ⟨.type "tuple", vd0, .seq #[.int 0 w0_0] vn0, vs0⟩)
    (fn0 : PySem.W.typeIn K (.ref f0) = some (.type "function"))
    (l1 : K.lookup f1 = some ⟨oc1, od1, .func (PySem.W.fnOf "__init__" "NotLayered.__init__" (defArgs s_NotLayered_init) (defBody s_NotLayered_init) (defScope s_NotLayered_init) (.ref v1) kV1 dc1 pm1 an1 cd1 ct1), sl1⟩)
    (c1 : PySem.W.codeIn K cd1 "NotLayered.__init__" = true)
    (k1 : PySem.W.keepIn K (.ref f1) = true)
    (v1_ : K.lookup v1 = some ⟨.type "tuple", vd1, .seq #[.int 0 w1_0] vn1, vs1⟩)
    (fn1 : PySem.W.typeIn K (.ref f1) = some (.type "function"))
    (l2 : K.lookup f2 = some ⟨oc2, od2, .func (PySem.W.fnOf "__init__" "Fault.__init__" (defArgs s_Fault_init) (defBody s_Fault_init) (defScope s_Fault_init) (.ref v2) kV2 dc2 pm2 an2 cd2 ct2), sl2⟩)
    (c2 : PySem.W.codeIn K cd2 "Fault.__init__" = true)
    (k2 : PySem.W.keepIn K (.ref f2) = true)
    (v2_ : K.lookup v2 = some ⟨.type "tuple", vd2, .seq #[.int 0 w2_0] vn2, vs2⟩)
    (fn2 : PySem.W.typeIn K (.ref f2) = some (.type "function"))
    (a3 : PySem.W.nsIn K mainGlobals "app" = some (some (.ref f3)))
    (l3 : K.lookup f3 = some ⟨oc3, od3, .func (PySem.W.fnOf "app" "app" (defArgs s_app) (defBody s_app) (defScope s_app) .none kV3 dc3 pm3 an3 cd3 ct3), sl3⟩)
    (c3 : PySem.W.codeIn K cd3 "app" = true)
    (k3 : PySem.W.keepIn K (.ref f3) = true)
    (a4 : PySem.W.nsIn K mainGlobals "walked" = some (some (.ref f4)))
    (l4 : K.lookup f4 = some ⟨oc4, od4, .func (PySem.W.fnOf "walked" "walked" (defArgs s_walked) (defBody s_walked) (defScope s_walked) .none kV4 dc4 pm4 an4 cd4 ct4), sl4⟩)
    (c4 : PySem.W.codeIn K cd4 "walked" = true)
    (k4 : PySem.W.keepIn K (.ref f4) = true)
    (a5 : PySem.W.nsIn K mainGlobals "parts_up_to" = some (some (.ref f5)))
    (l5 : K.lookup f5 = some ⟨oc5, od5, .func (PySem.W.fnOf "parts_up_to" "parts_up_to" (defArgs s_parts_up_to) (defBody s_parts_up_to) (defScope s_parts_up_to) .none kV5 dc5 pm5 an5 cd5 ct5), sl5⟩)
    (c5 : PySem.W.codeIn K cd5 "parts_up_to" = true)
    (k5 : PySem.W.keepIn K (.ref f5) = true)
    (a6 : PySem.W.nsIn K mainGlobals "written_out" = some (some (.ref f6)))
    (l6 : K.lookup f6 = some ⟨oc6, od6, .func (PySem.W.fnOf "written_out" "written_out" (defArgs s_written_out) (defBody s_written_out) (defScope s_written_out) .none kV6 dc6 pm6 an6 cd6 ct6), sl6⟩)
    (c6 : PySem.W.codeIn K cd6 "written_out" = true)
    (k6 : PySem.W.keepIn K (.ref f6) = true)
    (a7 : PySem.W.nsIn K mainGlobals "put_in" = some (some (.ref f7)))
    (l7 : K.lookup f7 = some ⟨oc7, od7, .func (PySem.W.fnOf "put_in" "put_in" (defArgs s_put_in) (defBody s_put_in) (defScope s_put_in) .none kV7 dc7 pm7 an7 cd7 ct7), sl7⟩)
    (c7 : PySem.W.codeIn K cd7 "put_in" = true)
    (k7 : PySem.W.keepIn K (.ref f7) = true)
    (a8 : PySem.W.nsIn K mainGlobals "_law_cell" = some (some (.ref f8)))
    (l8 : K.lookup f8 = some ⟨oc8, od8, .func (PySem.W.fnOf "_law_cell" "_law_cell" (defArgs s_l_cell) (defBody s_l_cell) (defScope s_l_cell) .none kV8 dc8 pm8 an8 cd8 ct8), sl8⟩)
    (c8 : PySem.W.codeIn K cd8 "_law_cell" = true)
    (k8 : PySem.W.keepIn K (.ref f8) = true)
    (a9 : PySem.W.nsIn K mainGlobals "_law_names" = some (some (.ref f9)))
    (l9 : K.lookup f9 = some ⟨oc9, od9, .func (PySem.W.fnOf "_law_names" "_law_names" (defArgs s_l_names) (defBody s_l_names) (defScope s_l_names) .none kV9 dc9 pm9 an9 cd9 ct9), sl9⟩)
    (c9 : PySem.W.codeIn K cd9 "_law_names" = true)
    (k9 : PySem.W.keepIn K (.ref f9) = true)
    (a10 : PySem.W.nsIn K mainGlobals "_law_number" = some (some (.ref f10)))
    (l10 : K.lookup f10 = some ⟨oc10, od10, .func (PySem.W.fnOf "_law_number" "_law_number" (defArgs s_l_number) (defBody s_l_number) (defScope s_l_number) .none kV10 dc10 pm10 an10 cd10 ct10), sl10⟩)
    (c10 : PySem.W.codeIn K cd10 "_law_number" = true)
    (k10 : PySem.W.keepIn K (.ref f10) = true)
    (a11 : PySem.W.nsIn K mainGlobals "_law_sign" = some (some (.ref f11)))
    (l11 : K.lookup f11 = some ⟨oc11, od11, .func (PySem.W.fnOf "_law_sign" "_law_sign" (defArgs s_l_sign) (defBody s_l_sign) (defScope s_l_sign) .none kV11 dc11 pm11 an11 cd11 ct11), sl11⟩)
    (c11 : PySem.W.codeIn K cd11 "_law_sign" = true)
    (k11 : PySem.W.keepIn K (.ref f11) = true)
    (a12 : PySem.W.nsIn K mainGlobals "_law_term" = some (some (.ref f12)))
    (l12 : K.lookup f12 = some ⟨oc12, od12, .func (PySem.W.fnOf "_law_term" "_law_term" (defArgs s_l_term) (defBody s_l_term) (defScope s_l_term) .none kV12 dc12 pm12 an12 cd12 ct12), sl12⟩)
    (c12 : PySem.W.codeIn K cd12 "_law_term" = true)
    (k12 : PySem.W.keepIn K (.ref f12) = true)
    (a13 : PySem.W.nsIn K mainGlobals "_law_puts" = some (some (.ref f13)))
    (l13 : K.lookup f13 = some ⟨oc13, od13, .func (PySem.W.fnOf "_law_puts" "_law_puts" (defArgs s_l_puts) (defBody s_l_puts) (defScope s_l_puts) .none kV13 dc13 pm13 an13 cd13 ct13), sl13⟩)
    (c13 : PySem.W.codeIn K cd13 "_law_puts" = true)
    (k13 : PySem.W.keepIn K (.ref f13) = true)
    (a14 : PySem.W.nsIn K mainGlobals "_law_size" = some (some (.ref f14)))
    (l14 : K.lookup f14 = some ⟨oc14, od14, .func (PySem.W.fnOf "_law_size" "_law_size" (defArgs s_l_size) (defBody s_l_size) (defScope s_l_size) .none kV14 dc14 pm14 an14 cd14 ct14), sl14⟩)
    (c14 : PySem.W.codeIn K cd14 "_law_size" = true)
    (k14 : PySem.W.keepIn K (.ref f14) = true)
    (a15 : PySem.W.nsIn K mainGlobals "_law_sizes" = some (some (.ref f15)))
    (l15 : K.lookup f15 = some ⟨oc15, od15, .func (PySem.W.fnOf "_law_sizes" "_law_sizes" (defArgs s_l_sizes) (defBody s_l_sizes) (defScope s_l_sizes) .none kV15 dc15 pm15 an15 cd15 ct15), sl15⟩)
    (c15 : PySem.W.codeIn K cd15 "_law_sizes" = true)
    (k15 : PySem.W.keepIn K (.ref f15) = true)
    (a16 : PySem.W.nsIn K mainGlobals "_law_read" = some (some (.ref f16)))
    (l16 : K.lookup f16 = some ⟨oc16, od16, .func (PySem.W.fnOf "_law_read" "_law_read" (defArgs s_l_read) (defBody s_l_read) (defScope s_l_read) .none kV16 dc16 pm16 an16 cd16 ct16), sl16⟩)
    (c16 : PySem.W.codeIn K cd16 "_law_read" = true)
    (k16 : PySem.W.keepIn K (.ref f16) = true)
    (a17 : PySem.W.nsIn K mainGlobals "_law_is_term" = some (some (.ref f17)))
    (l17 : K.lookup f17 = some ⟨oc17, od17, .func (PySem.W.fnOf "_law_is_term" "_law_is_term" (defArgs s_l_is_term) (defBody s_l_is_term) (defScope s_l_is_term) .none kV17 dc17 pm17 an17 cd17 ct17), sl17⟩)
    (c17 : PySem.W.codeIn K cd17 "_law_is_term" = true)
    (k17 : PySem.W.keepIn K (.ref f17) = true)
    (a18 : PySem.W.nsIn K mainGlobals "_law_refused" = some (some (.ref f18)))
    (l18 : K.lookup f18 = some ⟨oc18, od18, .func (PySem.W.fnOf "_law_refused" "_law_refused" (defArgs s_l_refused) (defBody s_l_refused) (defScope s_l_refused) .none kV18 dc18 pm18 an18 cd18 ct18), sl18⟩)
    (c18 : PySem.W.codeIn K cd18 "_law_refused" = true)
    (k18 : PySem.W.keepIn K (.ref f18) = true)
    (a19 : PySem.W.nsIn K mainGlobals "_law_written" = some (some (.ref f19)))
    (l19 : K.lookup f19 = some ⟨oc19, od19, .func (PySem.W.fnOf "_law_written" "_law_written" (defArgs s_l_written) (defBody s_l_written) (defScope s_l_written) .none kV19 dc19 pm19 an19 cd19 ct19), sl19⟩)
    (c19 : PySem.W.codeIn K cd19 "_law_written" = true)
    (k19 : PySem.W.keepIn K (.ref f19) = true)
    (a20 : PySem.W.nsIn K mainGlobals "_law_wrapped" = some (some (.ref f20)))
    (l20 : K.lookup f20 = some ⟨oc20, od20, .func (PySem.W.fnOf "_law_wrapped" "_law_wrapped" (defArgs s_l_wrapped) (defBody s_l_wrapped) (defScope s_l_wrapped) .none kV20 dc20 pm20 an20 cd20 ct20), sl20⟩)
    (c20 : PySem.W.codeIn K cd20 "_law_wrapped" = true)
    (k20 : PySem.W.keepIn K (.ref f20) = true)
    (a21 : PySem.W.nsIn K mainGlobals "law" = some (some (.ref f21)))
    (l21 : K.lookup f21 = some ⟨oc21, od21, .func (PySem.W.fnOf "law" "law" (defArgs s_law) (defBody s_law) (defScope s_law) .none kV21 dc21 pm21 an21 cd21 ct21), sl21⟩)
    (c21 : PySem.W.codeIn K cd21 "law" = true)
    (k21 : PySem.W.keepIn K (.ref f21) = true)
    (z0 : PySem.W.nsIn K mainGlobals "ValueError" = some none)
    (z1 : PySem.W.nsIn K mainGlobals "bool" = some none)
    (z2 : PySem.W.nsIn K mainGlobals "dict" = some none)
    (z3 : PySem.W.nsIn K mainGlobals "int" = some none)
    (z4 : PySem.W.nsIn K mainGlobals "isinstance" = some none)
    (z5 : PySem.W.nsIn K mainGlobals "len" = some none)
    (z6 : PySem.W.nsIn K mainGlobals "list" = some none)
    (z7 : PySem.W.nsIn K mainGlobals "min" = some none)
    (z8 : PySem.W.nsIn K mainGlobals "range" = some none)
    (z9 : PySem.W.nsIn K mainGlobals "reversed" = some none)
    (z10 : PySem.W.nsIn K mainGlobals "str" = some none)
    (z11 : PySem.W.nsIn K mainGlobals "sum" = some none)
    (z12 : PySem.W.nsIn K mainGlobals "tuple" = some none)
    (y0 : PySem.W.nsIn K mainGlobals "MOST_PARTS" = some (some (.int 40 t_MOST_PARTS)))
    : ∃ t : Ad, Txt K mg t ∧ ∀ (s : Shared) (u : Value), BindsTo s t.d_law ⟨[u], []⟩ [("_law_script", u)] := by
  have F0 := funD_mk (st := s_TrailError_init) l0 c0 k0
  have F1 := funD_mk (st := s_NotLayered_init) l1 c1 k1
  have F2 := funD_mk (st := s_Fault_init) l2 c2 k2
  have F3 := fun_mk (st := s_app) l3 c3 k3
  have F4 := fun_mk (st := s_walked) l4 c4 k4
  have F5 := fun_mk (st := s_parts_up_to) l5 c5 k5
  have F6 := fun_mk (st := s_written_out) l6 c6 k6
  have F7 := fun_mk (st := s_put_in) l7 c7 k7
  have F8 := fun_mk (st := s_l_cell) l8 c8 k8
  have F9 := fun_mk (st := s_l_names) l9 c9 k9
  have F10 := fun_mk (st := s_l_number) l10 c10 k10
  have F11 := fun_mk (st := s_l_sign) l11 c11 k11
  have F12 := fun_mk (st := s_l_term) l12 c12 k12
  have F13 := fun_mk (st := s_l_puts) l13 c13 k13
  have F14 := fun_mk (st := s_l_size) l14 c14 k14
  have F15 := fun_mk (st := s_l_sizes) l15 c15 k15
  have F16 := fun_mk (st := s_l_read) l16 c16 k16
  have F17 := fun_mk (st := s_l_is_term) l17 c17 k17
  have F18 := fun_mk (st := s_l_refused) l18 c18 k18
  have F19 := fun_mk (st := s_l_written) l19 c19 k19
  have F20 := fun_mk (st := s_l_wrapped) l20 c20 k20
  have F21 := fun_mk (st := s_law) l21 c21 k21
  exact ⟨⟨k_TrailError, k_NoText, k_NoSign, k_NoRule, k_Big, k_HasKeep, k_NotLayered, k_Fault, f0, _, v0, w0_0, f1, _, v1, w1_0, f2, _, v2, w2_0, f3, _, f4, _, f5, _, f6, _, f7, _, f8, _, f9, _, f10, _, f11, _, f12, _, f13, _, f14, _, f15, _, f16, _, f17, _, f18, _, f19, _, f20, _, f21, _, t_MOST_PARTS⟩, ⟨PySem.W.mg_of X G ac_TrailError,
    ⟨⟨nm_TrailError, q_TrailError, N_TrailError, bs_TrailError, sn_TrailError, sub_TrailError, ab_TrailError, col_TrailError, dd_TrailError, k0_TrailError, k1_TrailError, k2_TrailError, k3_TrailError, k5_TrailError, oc_TrailError⟩, by simp, by simp, by simp, by simp⟩,
    ⟨[], by simp, rfl⟩,
    ⟨ga_TrailError, gx_TrailError, sa_TrailError⟩,
    na_TrailError_row,
    na_TrailError_ring,
    na_TrailError_word,
    ⟨⟨⟨nm_TrailError, q_TrailError, N_TrailError, bs_TrailError, sn_TrailError, sub_TrailError, ab_TrailError, col_TrailError, dd_TrailError, k0_TrailError, k1_TrailError, k2_TrailError, k3_TrailError, k5_TrailError, oc_TrailError⟩, by simp, by simp, by simp, by simp⟩, in_TrailError, fn0, kc_TrailError⟩,
    ⟨gm_TrailError, rm_TrailError, tm_TrailError, k0⟩,
    PySem.W.mg_of X G ac_NoText,
    ⟨⟨nm_NoText, q_NoText, N_NoText, bs_NoText, sn_NoText, sub_NoText, ab_NoText, col_NoText, dd_NoText, k0_NoText, k1_NoText, k2_NoText, k3_NoText, k5_NoText, oc_NoText⟩, by simp, by simp, by simp, by simp⟩,
    ⟨[.ref k_TrailError], by simp, rfl⟩,
    ⟨ga_NoText, gx_NoText, sa_NoText⟩,
    na_NoText_row,
    na_NoText_ring,
    na_NoText_word,
    ⟨⟨⟨nm_NoText, q_NoText, N_NoText, bs_NoText, sn_NoText, sub_NoText, ab_NoText, col_NoText, dd_NoText, k0_NoText, k1_NoText, k2_NoText, k3_NoText, k5_NoText, oc_NoText⟩, by simp, by simp, by simp, by simp⟩, in_NoText, fn0, kc_NoText⟩,
    PySem.W.mg_of X G ac_NoSign,
    ⟨⟨nm_NoSign, q_NoSign, N_NoSign, bs_NoSign, sn_NoSign, sub_NoSign, ab_NoSign, col_NoSign, dd_NoSign, k0_NoSign, k1_NoSign, k2_NoSign, k3_NoSign, k5_NoSign, oc_NoSign⟩, by simp, by simp, by simp, by simp⟩,
    ⟨[.ref k_TrailError], by simp, rfl⟩,
    ⟨ga_NoSign, gx_NoSign, sa_NoSign⟩,
    na_NoSign_row,
    na_NoSign_ring,
    na_NoSign_word,
    ⟨⟨⟨nm_NoSign, q_NoSign, N_NoSign, bs_NoSign, sn_NoSign, sub_NoSign, ab_NoSign, col_NoSign, dd_NoSign, k0_NoSign, k1_NoSign, k2_NoSign, k3_NoSign, k5_NoSign, oc_NoSign⟩, by simp, by simp, by simp, by simp⟩, in_NoSign, fn0, kc_NoSign⟩,
    PySem.W.mg_of X G ac_NoRule,
    ⟨⟨nm_NoRule, q_NoRule, N_NoRule, bs_NoRule, sn_NoRule, sub_NoRule, ab_NoRule, col_NoRule, dd_NoRule, k0_NoRule, k1_NoRule, k2_NoRule, k3_NoRule, k5_NoRule, oc_NoRule⟩, by simp, by simp, by simp, by simp⟩,
    ⟨[.ref k_TrailError], by simp, rfl⟩,
    ⟨ga_NoRule, gx_NoRule, sa_NoRule⟩,
    na_NoRule_row,
    na_NoRule_ring,
    na_NoRule_word,
    ⟨⟨⟨nm_NoRule, q_NoRule, N_NoRule, bs_NoRule, sn_NoRule, sub_NoRule, ab_NoRule, col_NoRule, dd_NoRule, k0_NoRule, k1_NoRule, k2_NoRule, k3_NoRule, k5_NoRule, oc_NoRule⟩, by simp, by simp, by simp, by simp⟩, in_NoRule, fn0, kc_NoRule⟩,
    PySem.W.mg_of X G ac_Big,
    ⟨⟨nm_Big, q_Big, N_Big, bs_Big, sn_Big, sub_Big, ab_Big, col_Big, dd_Big, k0_Big, k1_Big, k2_Big, k3_Big, k5_Big, oc_Big⟩, by simp, by simp, by simp, by simp⟩,
    ⟨[.ref k_TrailError], by simp, rfl⟩,
    ⟨ga_Big, gx_Big, sa_Big⟩,
    na_Big_row,
    na_Big_ring,
    na_Big_word,
    ⟨⟨⟨nm_Big, q_Big, N_Big, bs_Big, sn_Big, sub_Big, ab_Big, col_Big, dd_Big, k0_Big, k1_Big, k2_Big, k3_Big, k5_Big, oc_Big⟩, by simp, by simp, by simp, by simp⟩, in_Big, fn0, kc_Big⟩,
    ⟨ja_Big, jn_Big, jt_Big, jm_Big⟩,
    iz_Big_Big,
    iz_Big_ValueError,
    iy_Big_Fault_HasKeep_NoRule,
    iy_Big_NoSign_NoText_NotLayered,
    PySem.W.mg_of X G ac_HasKeep,
    ⟨⟨nm_HasKeep, q_HasKeep, N_HasKeep, bs_HasKeep, sn_HasKeep, sub_HasKeep, ab_HasKeep, col_HasKeep, dd_HasKeep, k0_HasKeep, k1_HasKeep, k2_HasKeep, k3_HasKeep, k5_HasKeep, oc_HasKeep⟩, by simp, by simp, by simp, by simp⟩,
    ⟨[.ref k_TrailError], by simp, rfl⟩,
    ⟨ga_HasKeep, gx_HasKeep, sa_HasKeep⟩,
    na_HasKeep_row,
    na_HasKeep_ring,
    na_HasKeep_word,
    ⟨⟨⟨nm_HasKeep, q_HasKeep, N_HasKeep, bs_HasKeep, sn_HasKeep, sub_HasKeep, ab_HasKeep, col_HasKeep, dd_HasKeep, k0_HasKeep, k1_HasKeep, k2_HasKeep, k3_HasKeep, k5_HasKeep, oc_HasKeep⟩, by simp, by simp, by simp, by simp⟩, in_HasKeep, fn0, kc_HasKeep⟩,
    PySem.W.mg_of X G ac_NotLayered,
    ⟨⟨nm_NotLayered, q_NotLayered, N_NotLayered, bs_NotLayered, sn_NotLayered, sub_NotLayered, ab_NotLayered, col_NotLayered, dd_NotLayered, k0_NotLayered, k1_NotLayered, k2_NotLayered, k3_NotLayered, k5_NotLayered, oc_NotLayered⟩, by simp, by simp, by simp, by simp⟩,
    ⟨[.ref k_TrailError], by simp, rfl⟩,
    ⟨ga_NotLayered, gx_NotLayered, sa_NotLayered⟩,
    na_NotLayered_row,
    na_NotLayered_ring,
    na_NotLayered_word,
    ⟨⟨⟨nm_NotLayered, q_NotLayered, N_NotLayered, bs_NotLayered, sn_NotLayered, sub_NotLayered, ab_NotLayered, col_NotLayered, dd_NotLayered, k0_NotLayered, k1_NotLayered, k2_NotLayered, k3_NotLayered, k5_NotLayered, oc_NotLayered⟩, by simp, by simp, by simp, by simp⟩, in_NotLayered, fn1, kc_NotLayered⟩,
    PySem.W.mg_of X G ac_Fault,
    ⟨⟨nm_Fault, q_Fault, N_Fault, bs_Fault, sn_Fault, sub_Fault, ab_Fault, col_Fault, dd_Fault, k0_Fault, k1_Fault, k2_Fault, k3_Fault, k5_Fault, oc_Fault⟩, by simp, by simp, by simp, by simp⟩,
    ⟨[.ref k_TrailError], by simp, rfl⟩,
    ⟨ga_Fault, gx_Fault, sa_Fault⟩,
    na_Fault_row,
    na_Fault_ring,
    na_Fault_word,
    ⟨⟨⟨nm_Fault, q_Fault, N_Fault, bs_Fault, sn_Fault, sub_Fault, ab_Fault, col_Fault, dd_Fault, k0_Fault, k1_Fault, k2_Fault, k3_Fault, k5_Fault, oc_Fault⟩, by simp, by simp, by simp, by simp⟩, in_Fault, fn2, kc_Fault⟩,
    F0,
    fun s us KX hl => by obtain ⟨_, _, _, rfl⟩ := L2.ex3 (show us.length = 3 by simpa using hl); exact .of_defaults (T := v0) rfl (KX _ _ v0_) rfl rfl rfl,
    fun s us KX hl => by obtain ⟨_, _, rfl⟩ := L2.ex2 (show us.length = 2 by simpa using hl); exact .of_defaults (T := v0) rfl (KX _ _ v0_) rfl rfl rfl,
    F1,
    fun s us KX hl => by obtain ⟨_, _, _, rfl⟩ := L2.ex3 (show us.length = 3 by simpa using hl); exact .of_defaults (T := v1) rfl (KX _ _ v1_) rfl rfl rfl,
    fun s us KX hl => by obtain ⟨_, _, rfl⟩ := L2.ex2 (show us.length = 2 by simpa using hl); exact .of_defaults (T := v1) rfl (KX _ _ v1_) rfl rfl rfl,
    F2,
    fun s us KX hl => by obtain ⟨_, _, _, rfl⟩ := L2.ex3 (show us.length = 3 by simpa using hl); exact .of_defaults (T := v2) rfl (KX _ _ v2_) rfl rfl rfl,
    fun s us KX hl => by obtain ⟨_, _, rfl⟩ := L2.ex2 (show us.length = 2 by simpa using hl); exact .of_defaults (T := v2) rfl (KX _ _ v2_) rfl rfl rfl,
    F3,
    F3.binds (ps := ["sign", "kids"]) (fun _ _ _ _ _ _ us hl => L2.us2 (P := fun us => bindArgs _ ⟨us, []⟩ = pure ((["sign", "kids"] : List Str).zip us)) hl fun _ _ => rfl),
    PySem.W.mg_of X G a3,
    F4,
    F4.binds (ps := ["term", "puts"]) (fun _ _ _ _ _ _ us hl => L2.us2 (P := fun us => bindArgs _ ⟨us, []⟩ = pure ((["term", "puts"] : List Str).zip us)) hl fun _ _ => rfl),
    PySem.W.mg_of X G a4,
    F5,
    F5.binds (ps := ["term", "puts", "most"]) (fun _ _ _ _ _ _ us hl => L2.us3 (P := fun us => bindArgs _ ⟨us, []⟩ = pure ((["term", "puts", "most"] : List Str).zip us)) hl fun _ _ _ => rfl),
    PySem.W.mg_of X G a5,
    F6,
    F6.binds (ps := ["term", "puts"]) (fun _ _ _ _ _ _ us hl => L2.us2 (P := fun us => bindArgs _ ⟨us, []⟩ = pure ((["term", "puts"] : List Str).zip us)) hl fun _ _ => rfl),
    PySem.W.mg_of X G a6,
    F7,
    F7.binds (ps := ["term", "puts"]) (fun _ _ _ _ _ _ us hl => L2.us2 (P := fun us => bindArgs _ ⟨us, []⟩ = pure ((["term", "puts"] : List Str).zip us)) hl fun _ _ => rfl),
    PySem.W.mg_of X G a7,
    F8,
    F8.binds (ps := ["_law_script", "_law_k"]) (fun _ _ _ _ _ _ us hl => L2.us2 (P := fun us => bindArgs _ ⟨us, []⟩ = pure ((["_law_script", "_law_k"] : List Str).zip us)) hl fun _ _ => rfl),
    PySem.W.mg_of X G a8,
    F9,
    F9.binds (ps := ["_law_cell_here", "_law_many", "_law_first"]) (fun _ _ _ _ _ _ us hl => L2.us3 (P := fun us => bindArgs _ ⟨us, []⟩ = pure ((["_law_cell_here", "_law_many", "_law_first"] : List Str).zip us)) hl fun _ _ _ => rfl),
    PySem.W.mg_of X G a9,
    F10,
    F10.binds (ps := ["_law_cell_here"]) (fun _ _ _ _ _ _ us hl => L2.us1 (P := fun us => bindArgs _ ⟨us, []⟩ = pure ((["_law_cell_here"] : List Str).zip us)) hl fun _ => rfl),
    PySem.W.mg_of X G a10,
    F11,
    F11.binds (ps := ["_law_cell_here", "_law_many", "_law_words"]) (fun _ _ _ _ _ _ us hl => L2.us3 (P := fun us => bindArgs _ ⟨us, []⟩ = pure ((["_law_cell_here", "_law_many", "_law_words"] : List Str).zip us)) hl fun _ _ _ => rfl),
    PySem.W.mg_of X G a11,
    F12,
    F12.binds (ps := ["_law_cells", "_law_names_here", "_law_words"]) (fun _ _ _ _ _ _ us hl => L2.us3 (P := fun us => bindArgs _ ⟨us, []⟩ = pure ((["_law_cells", "_law_names_here", "_law_words"] : List Str).zip us)) hl fun _ _ _ => rfl),
    PySem.W.mg_of X G a12,
    F13,
    F13.binds (ps := ["_law_script", "_law_names_here", "_law_words", "_law_start"]) (fun _ _ _ _ _ _ us hl => L2.us4 (P := fun us => bindArgs _ ⟨us, []⟩ = pure ((["_law_script", "_law_names_here", "_law_words", "_law_start"] : List Str).zip us)) hl fun _ _ _ _ => rfl),
    PySem.W.mg_of X G a13,
    F14,
    F14.binds (ps := ["_law_term_here", "_law_sizes_here"]) (fun _ _ _ _ _ _ us hl => L2.us2 (P := fun us => bindArgs _ ⟨us, []⟩ = pure ((["_law_term_here", "_law_sizes_here"] : List Str).zip us)) hl fun _ _ => rfl),
    PySem.W.mg_of X G a14,
    F15,
    F15.binds (ps := ["_law_names_here", "_law_puts_here"]) (fun _ _ _ _ _ _ us hl => L2.us2 (P := fun us => bindArgs _ ⟨us, []⟩ = pure ((["_law_names_here", "_law_puts_here"] : List Str).zip us)) hl fun _ _ => rfl),
    PySem.W.mg_of X G a15,
    F16,
    F16.binds (ps := ["_law_term_here", "_law_puts_here"]) (fun _ _ _ _ _ _ us hl => L2.us2 (P := fun us => bindArgs _ ⟨us, []⟩ = pure ((["_law_term_here", "_law_puts_here"] : List Str).zip us)) hl fun _ _ => rfl),
    PySem.W.mg_of X G a16,
    F17,
    F17.binds (ps := ["_law_thing"]) (fun _ _ _ _ _ _ us hl => L2.us1 (P := fun us => bindArgs _ ⟨us, []⟩ = pure ((["_law_thing"] : List Str).zip us)) hl fun _ => rfl),
    PySem.W.mg_of X G a17,
    F18,
    F18.binds (ps := ["_law_term_here", "_law_puts_here"]) (fun _ _ _ _ _ _ us hl => L2.us2 (P := fun us => bindArgs _ ⟨us, []⟩ = pure ((["_law_term_here", "_law_puts_here"] : List Str).zip us)) hl fun _ _ => rfl),
    PySem.W.mg_of X G a18,
    F19,
    F19.binds (ps := ["_law_term_here", "_law_puts_here", "_law_names_here"]) (fun _ _ _ _ _ _ us hl => L2.us3 (P := fun us => bindArgs _ ⟨us, []⟩ = pure ((["_law_term_here", "_law_puts_here", "_law_names_here"] : List Str).zip us)) hl fun _ _ _ => rfl),
    PySem.W.mg_of X G a19,
    F20,
    F20.binds (ps := ["_law_term_here", "_law_puts_here", "_law_names_here", "_law_words", "_law_cell_here"]) (fun _ _ _ _ _ _ us hl => L2.us5 (P := fun us => bindArgs _ ⟨us, []⟩ = pure ((["_law_term_here", "_law_puts_here", "_law_names_here", "_law_words", "_law_cell_here"] : List Str).zip us)) hl fun _ _ _ _ _ => rfl),
    PySem.W.mg_of X G a20,
    F21,
    F21.binds (ps := ["_law_script"]) (fun _ _ _ _ _ _ us hl => L2.us1 (P := fun us => bindArgs _ ⟨us, []⟩ = pure ((["_law_script"] : List Str).zip us)) hl fun _ => rfl),
    PySem.W.mg_of X G a21,
    PySem.W.mg_none_of X G z0,
    PySem.W.mg_none_of X G z1,
    PySem.W.mg_none_of X G z2,
    PySem.W.mg_none_of X G z3,
    PySem.W.mg_none_of X G z4,
    PySem.W.mg_none_of X G z5,
    PySem.W.mg_none_of X G z6,
    PySem.W.mg_none_of X G z7,
    PySem.W.mg_none_of X G z8,
    PySem.W.mg_none_of X G z9,
    PySem.W.mg_none_of X G z10,
    PySem.W.mg_none_of X G z11,
    PySem.W.mg_none_of X G z12,
    PySem.W.mg_of X G y0⟩, fun s u => .of_eq rfl⟩
theorem walk {l : PySem.W.OpenLaw} {q : Program} {loose : List Str} {XP : (Str → Option Value) → Heap → Prop} {YP : World → Heap → Prop} {d : DefRec} {K : Params → PySem.W.Frag} (hn : l.most = some 63) (hdf : d.params.defaults = [])
    (hY : ∀ (w : World) (h : Heap), YP w h → (K w.params).In h)
    (F : ∀ (w : World) (mg : Str → Option Value) (fa : Addr) (h : Heap), (K w.params).In h → h.Ns mainGlobals mg → mg d.name = some (.ref fa) →
      ∃ fd : FuncData, (∀ (s : Shared) (u : Value), BindsTo s fd ⟨[u], []⟩ [("_law_script", u)]) ∧ ∀ base : Heap, (K w.params).In base → base.Ns mainGlobals mg → FnOk l.prog w (K w.params) mg base CX0 74 fa fd ["_law_script"] (sp_law (K w.params))) :
    PySem.W.WalkO q loose XP YP l.row.toRowW d [] (fun f vs => PySem.call f vs) :=
  L2.walk_ofB (n := 63) (k := 74) (x := "_law_script") (CX := fun _ => CX0) (sp := fun w => sp_law (K w.params)) hn (by decide) hdf ⟨rfl, by decide, by decide⟩ hY F (fun _ _ a ns hl hb hO hS => ⟨ns, hS, hl, hb, fun _ => rfl⟩) fun _ _ _ _ _ z => z
end My
open PySem PySem.W PyProof.Rows
set_option maxRecDepth 100000 in
set_option maxHeartbeats 0 in
theorem PySem.Challenge.cw_goaltrail_k21_written_out_holds : PySem.Challenge.rw_goaltrail_k21_written_out.Holds := by
  w_on; o_law; k_head; (case hw => w_witness2)
  k_fill
  refine My.walk (l := PySem.Challenge.rw_goaltrail_k21_written_out) rfl rfl (fun w h Y => PySem.W.kIn_of Y) ?F
  case F =>
    intro w mg fa h KX G hmg
    have TT : ∃ t : My.Ad, My.Txt (L2.KOf KX) mg t ∧ ∀ (s : Shared) (u : Value), BindsTo s t.d_law ⟨[u], []⟩ [("_law_script", u)] := by
      dsimp only [L2.KOf]
      refine' My.txt_mk KX G ?ac_TrailError ?oc_TrailError ?ga_TrailError ?gx_TrailError ?sa_TrailError ?na_TrailError_row ?na_TrailError_ring ?na_TrailError_word ?in_TrailError ?kc_TrailError ?gm_TrailError ?rm_TrailError ?tm_TrailError ?ac_NoText ?oc_NoText ?ga_NoText ?gx_NoText ?sa_NoText ?na_NoText_row ?na_NoText_ring ?na_NoText_word ?in_NoText ?kc_NoText ?ac_NoSign ?oc_NoSign ?ga_NoSign ?gx_NoSign ?sa_NoSign ?na_NoSign_row ?na_NoSign_ring ?na_NoSign_word ?in_NoSign ?kc_NoSign ?ac_NoRule ?oc_NoRule ?ga_NoRule ?gx_NoRule ?sa_NoRule ?na_NoRule_row ?na_NoRule_ring ?na_NoRule_word ?in_NoRule ?kc_NoRule ?ac_Big ?oc_Big ?ga_Big ?gx_Big ?sa_Big ?na_Big_row ?na_Big_ring ?na_Big_word ?in_Big ?kc_Big ?ja_Big ?jn_Big ?jt_Big ?jm_Big ?ac_HasKeep ?oc_HasKeep ?ga_HasKeep ?gx_HasKeep ?sa_HasKeep ?na_HasKeep_row ?na_HasKeep_ring ?na_HasKeep_word ?in_HasKeep ?kc_HasKeep ?ac_NotLayered ?oc_NotLayered ?ga_NotLayered ?gx_NotLayered ?sa_NotLayered ?na_NotLayered_row ?na_NotLayered_ring ?na_NotLayered_word ?in_NotLayered ?kc_NotLayered ?ac_Fault ?oc_Fault ?ga_Fault ?gx_Fault ?sa_Fault ?na_Fault_row ?na_Fault_ring ?na_Fault_word ?in_Fault ?kc_Fault ?iz_Big_Big ?iz_Big_ValueError ?iy_Big_Fault_HasKeep_NoRule ?iy_Big_NoSign_NoText_NotLayered ?l0 ?c0 ?k0 ?v0_ ?fn0 ?l1 ?c1 ?k1 ?v1_ ?fn1 ?l2 ?c2 ?k2 ?v2_ ?fn2 ?a3 ?l3 ?c3 ?k3 ?a4 ?l4 ?c4 ?k4 ?a5 ?l5 ?c5 ?k5 ?a6 ?l6 ?c6 ?k6 ?a7 ?l7 ?c7 ?k7 ?a8 ?l8 ?c8 ?k8 ?a9 ?l9 ?c9 ?k9 ?a10 ?l10 ?c10 ?k10 ?a11 ?l11 ?c11 ?k11 ?a12 ?l12 ?c12 ?k12 ?a13 ?l13 ?c13 ?k13 ?a14 ?l14 ?c14 ?k14 ?a15 ?l15 ?c15 ?k15 ?a16 ?l16 ?c16 ?k16 ?a17 ?l17 ?c17 ?k17 ?a18 ?l18 ?c18 ?k18 ?a19 ?l19 ?c19 ?k19 ?a20 ?l20 ?c20 ?k20 ?a21 ?l21 ?c21 ?k21 ?z0 ?z1 ?z2 ?z3 ?z4 ?z5 ?z6 ?z7 ?z8 ?z9 ?z10 ?z11 ?z12 ?y0
      (case ac_TrailError => k_is)
      (case oc_TrailError => k_is)
      (case ga_TrailError => k_is)
      (case gx_TrailError => k_is)
      (case sa_TrailError => k_is)
      (case na_TrailError_row => k_is)
      (case na_TrailError_ring => k_is)
      (case na_TrailError_word => k_is)
      (case in_TrailError => k_is)
      (case kc_TrailError => k_is)
      (case gm_TrailError => k_is)
      (case rm_TrailError => k_is)
      (case tm_TrailError => k_is)
      (case ac_NoText => k_is)
      (case oc_NoText => k_is)
      (case ga_NoText => k_is)
      (case gx_NoText => k_is)
      (case sa_NoText => k_is)
      (case na_NoText_row => k_is)
      (case na_NoText_ring => k_is)
      (case na_NoText_word => k_is)
      (case in_NoText => k_is)
      (case kc_NoText => k_is)
      (case ac_NoSign => k_is)
      (case oc_NoSign => k_is)
      (case ga_NoSign => k_is)
      (case gx_NoSign => k_is)
      (case sa_NoSign => k_is)
      (case na_NoSign_row => k_is)
      (case na_NoSign_ring => k_is)
      (case na_NoSign_word => k_is)
      (case in_NoSign => k_is)
      (case kc_NoSign => k_is)
      (case ac_NoRule => k_is)
      (case oc_NoRule => k_is)
      (case ga_NoRule => k_is)
      (case gx_NoRule => k_is)
      (case sa_NoRule => k_is)
      (case na_NoRule_row => k_is)
      (case na_NoRule_ring => k_is)
      (case na_NoRule_word => k_is)
      (case in_NoRule => k_is)
      (case kc_NoRule => k_is)
      (case ac_Big => k_is)
      (case oc_Big => k_is)
      (case ga_Big => k_is)
      (case gx_Big => k_is)
      (case sa_Big => k_is)
      (case na_Big_row => k_is)
      (case na_Big_ring => k_is)
      (case na_Big_word => k_is)
      (case in_Big => k_is)
      (case kc_Big => k_is)
      (case ja_Big => k_is)
      (case jn_Big => k_is)
      (case jt_Big => k_is)
      (case jm_Big => k_is)
      (case ac_HasKeep => k_is)
      (case oc_HasKeep => k_is)
      (case ga_HasKeep => k_is)
      (case gx_HasKeep => k_is)
      (case sa_HasKeep => k_is)
      (case na_HasKeep_row => k_is)
      (case na_HasKeep_ring => k_is)
      (case na_HasKeep_word => k_is)
      (case in_HasKeep => k_is)
      (case kc_HasKeep => k_is)
      (case ac_NotLayered => k_is)
      (case oc_NotLayered => k_is)
      (case ga_NotLayered => k_is)
      (case gx_NotLayered => k_is)
      (case sa_NotLayered => k_is)
      (case na_NotLayered_row => k_is)
      (case na_NotLayered_ring => k_is)
      (case na_NotLayered_word => k_is)
      (case in_NotLayered => k_is)
      (case kc_NotLayered => k_is)
      (case ac_Fault => k_is)
      (case oc_Fault => k_is)
      (case ga_Fault => k_is)
      (case gx_Fault => k_is)
      (case sa_Fault => k_is)
      (case na_Fault_row => k_is)
      (case na_Fault_ring => k_is)
      (case na_Fault_word => k_is)
      (case in_Fault => k_is)
      (case kc_Fault => k_is)
      (case iz_Big_Big => kit_is)
      (case iz_Big_ValueError => kit_is)
      (case iy_Big_Fault_HasKeep_NoRule => kit_is)
      (case iy_Big_NoSign_NoText_NotLayered => kit_is)
      (case l0 => k_is)
      (case c0 => k_is)
      (case k0 => k_is)
      (case v0_ => k_is)
      (case fn0 => k_is)
      (case l1 => k_is)
      (case c1 => k_is)
      (case k1 => k_is)
      (case v1_ => k_is)
      (case fn1 => k_is)
      (case l2 => k_is)
      (case c2 => k_is)
      (case k2 => k_is)
      (case v2_ => k_is)
      (case fn2 => k_is)
      (case a3 => k_is)
      (case l3 => k_is)
      (case c3 => k_is)
      (case k3 => k_is)
      (case a4 => k_is)
      (case l4 => k_is)
      (case c4 => k_is)
      (case k4 => k_is)
      (case a5 => k_is)
      (case l5 => k_is)
      (case c5 => k_is)
      (case k5 => k_is)
      (case a6 => k_is)
      (case l6 => k_is)
      (case c6 => k_is)
      (case k6 => k_is)
      (case a7 => k_is)
      (case l7 => k_is)
      (case c7 => k_is)
      (case k7 => k_is)
      (case a8 => k_is)
      (case l8 => k_is)
      (case c8 => k_is)
      (case k8 => k_is)
      (case a9 => k_is)
      (case l9 => k_is)
      (case c9 => k_is)
      (case k9 => k_is)
      (case a10 => k_is)
      (case l10 => k_is)
      (case c10 => k_is)
      (case k10 => k_is)
      (case a11 => k_is)
      (case l11 => k_is)
      (case c11 => k_is)
      (case k11 => k_is)
      (case a12 => k_is)
      (case l12 => k_is)
      (case c12 => k_is)
      (case k12 => k_is)
      (case a13 => k_is)
      (case l13 => k_is)
      (case c13 => k_is)
      (case k13 => k_is)
      (case a14 => k_is)
      (case l14 => k_is)
      (case c14 => k_is)
      (case k14 => k_is)
      (case a15 => k_is)
      (case l15 => k_is)
      (case c15 => k_is)
      (case k15 => k_is)
      (case a16 => k_is)
      (case l16 => k_is)
      (case c16 => k_is)
      (case k16 => k_is)
      (case a17 => k_is)
      (case l17 => k_is)
      (case c17 => k_is)
      (case k17 => k_is)
      (case a18 => k_is)
      (case l18 => k_is)
      (case c18 => k_is)
      (case k18 => k_is)
      (case a19 => k_is)
      (case l19 => k_is)
      (case c19 => k_is)
      (case k19 => k_is)
      (case a20 => k_is)
      (case l20 => k_is)
      (case c20 => k_is)
      (case k20 => k_is)
      (case a21 => k_is)
      (case l21 => k_is)
      (case c21 => k_is)
      (case k21 => k_is)
      (case z0 => k_is)
      (case z1 => k_is)
      (case z2 => k_is)
      (case z3 => k_is)
      (case z4 => k_is)
      (case z5 => k_is)
      (case z6 => k_is)
      (case z7 => k_is)
      (case z8 => k_is)
      (case z9 => k_is)
      (case z10 => k_is)
      (case z11 => k_is)
      (case z12 => k_is)
      (case y0 => k_is)
    obtain ⟨t, T, e1⟩ := TT
    have e0 := hmg.symm.trans T.m_law
    cases e0
    exact ⟨t.d_law, e1, fun base kb nb => My.ok_all T⟩
