import PyProof.Rows.All
import Wide.All
import OpenK.AllK
import Wide.FinOn
import Lean
import PyProof.EqAt
import PyProof.EqKinds
import PyProof.TupleCall
import PyProof.NeKinds
import PyProof.DictUpdate
import KE.KDictList
import KE.KEqDict
import PyProof.Draws
import PyProof.Rows.EnumRows
import PyProof.StationsW
import PyProof.ExcClass3
import PyProof.RulesAs
import PyProof.ExcBaseAll.ValueError
import PyProof.InstStoreFacts
import PyProof.ExcArgsOwn
import PyProof.NsDelKeeps
import KE.RegKIsAll
import PyProof.Rows.LoopZipPat
import PyProof.StrLawsRepr
import PySem.Challenge.RW_goaltrail_k30_goals_and_rules
set_option Elab.async false
set_option linter.all false
set_option maxRecDepth 100000
namespace L2
open PySem PySem.Spec PyProof.Rows
abbrev Key := Sum Int Str
def keyIs : Key → Value → Bool
  | .inl k, v => Value.isInt k v
  | .inr x, v => Value.isStrOf x v
def keyH (w : World) : Key → Int
  | .inl k => hashInt k
  | .inr x => hashStr w x
theorem keyIs_shape : ∀ {k : Key} {v : Value}, keyIs k v = true → (∃ i t, k = Sum.inl i ∧ v = Value.int i t) ∨ (∃ x t, k = Sum.inr x ∧ v = Value.str x t)
  | .inl i, v, h => by
    obtain ⟨t, e⟩ := Value.isInt_shape (k := i) (v := v) h
    exact .inl ⟨i, t, rfl, e⟩
  | .inr x, v, h => by
    obtain ⟨t, e⟩ := Value.isStrOf_shape (x := x) (v := v) h
    exact .inr ⟨x, t, rfl, e⟩
theorem key_ll (a b : Int) : decide ((Sum.inl a : Key) = Sum.inl b) = (a == b) := by
  by_cases e : a = b
  · subst e; simp
  · have h : ¬ (Sum.inl a : Key) = Sum.inl b := fun q => e (Sum.inl.inj q)
    rw [decide_eq_false h]
    exact (beq_eq_false_iff_ne.mpr e).symm
theorem key_rr (a b : Str) : decide ((Sum.inr a : Key) = Sum.inr b) = decide (a = b) := by
  by_cases e : a = b
  · subst e; simp
  · have h : ¬ (Sum.inr a : Key) = Sum.inr b := fun q => e (Sum.inr.inj q)
    rw [decide_eq_false h, decide_eq_false e]
theorem key_lr (a : Int) (b : Str) : decide ((Sum.inl a : Key) = Sum.inr b) = false := decide_eq_false (fun q => nomatch q)
theorem key_rl (a : Str) (b : Int) : decide ((Sum.inr a : Key) = Sum.inl b) = false := decide_eq_false (fun q => nomatch q)
def mixKind (prog : Program) (w : World) : PySem.KeyKind prog w Key where
  is := keyIs
  hash := keyH w
  inj := fun v a b ha hb => by
    rcases keyIs_shape ha with ⟨i, t, rfl, rfl⟩ | ⟨x, t, rfl, rfl⟩
    · rcases keyIs_shape hb with ⟨j, u, rfl, e⟩ | ⟨y, u, rfl, e⟩
      · injection e with e1 _; rw [e1]
      · exact nomatch e
    · rcases keyIs_shape hb with ⟨j, u, rfl, e⟩ | ⟨y, u, rfl, e⟩
      · exact nomatch e
      · injection e with e1 _; rw [e1]
  byValue := fun k v h => by
    rcases keyIs_shape h with ⟨i, t, rfl, rfl⟩ | ⟨x, t, rfl, rfl⟩ <;> rfl
  pyHash := fun hv h => by
    rcases keyIs_shape hv with ⟨i, t, rfl, rfl⟩ | ⟨x, t, rfl, rfl⟩
    · exact wpAny_pyHash_int h
    · exact wpAny_pyHash_str h
  eqBool := fun hu hv h => by
    rcases keyIs_shape hu with ⟨i, t, rfl, rfl⟩ | ⟨x, t, rfl, rfl⟩
    · rcases keyIs_shape hv with ⟨j, u, rfl, rfl⟩ | ⟨y, u, rfl, rfl⟩
      · rw [key_ll] at h; exact wpAny_eqBool_int h
      · rw [key_lr] at h; exact SeqAt.EqAt.int_str i t y u _ _ _ _ h
    · rcases keyIs_shape hv with ⟨j, u, rfl, rfl⟩ | ⟨y, u, rfl, rfl⟩
      · rw [key_rl] at h; exact SeqAt.EqAt.str_int x t j u _ _ _ _ h
      · rw [key_rr] at h; exact wpAny_eqBool_str h
  «strs» := fun k x t v h => by
    rcases keyIs_shape h with ⟨i, u, rfl, e⟩ | ⟨y, u, rfl, e⟩
    · exact nomatch e
    · injection e with e1 _
      subst e1
      cases v <;> rfl
end L2
namespace L2
open PySem PySem.Spec PyProof.Rows
inductive V where
  | non | bl (b : Bool) | int (i : Int) | str (x : Str) | byt (b : Array UInt8) | flt (b : UInt64) | ref (a : Addr) | ty (n : String)
  deriving DecidableEq
def RelV : V → Value → Prop
  | .non, u => u = Value.none
  | .bl b, u => u = Value.bool b
  | .int i, u => ∃ t, u = Value.int i t
  | .str x, u => ∃ t, u = Value.str x t
  | .byt b, u => ∃ t, u = Value.bytes b t
  | .flt b, u => ∃ t, u = Value.float b t
  | .ref a, u => u = Value.ref a
  | .ty n, u => u = Value.type n
abbrev Vals : List V → List Value → Prop := Paired RelV
theorem Vals.length {xs : List V} {us : List Value} (r : Vals xs us) : xs.length = us.length := Paired.length r
theorem Vals.get : ∀ {xs : List V} {us : List Value} {i : Nat} {x : V}, Vals xs us → xs[i]? = some x → ∃ u, us[i]? = some u ∧ RelV x u
  | _, _, _, _, .nil, e => by simp at e
  | _, _, 0, _, .cons r _, e => by simp at e; subst e; exact ⟨_, rfl, r⟩
  | _, _, i + 1, x, .cons _ t, e => by
    obtain ⟨u, h1, h2⟩ := Vals.get (i := i) (x := x) t (by simpa using e)
    exact ⟨u, by simpa using h1, h2⟩
theorem Vals.set {x : V} {u : Value} (r : RelV x u) : ∀ {xs : List V} {us : List Value} (i : Nat), Vals xs us → Vals (xs.set i x) (us.set i u)
  | _, _, _, .nil => .nil
  | _, _, 0, .cons _ t => .cons r t
  | _, _, i + 1, .cons q t => .cons q (Vals.set r i t)
theorem Vals.append : ∀ {xs ys : List V} {us ws : List Value}, Vals xs us → Vals ys ws → Vals (xs ++ ys) (us ++ ws)
  | _, _, _, _, .nil, s => s
  | _, _, _, _, .cons r t, s => .cons r (Vals.append t s)
theorem Vals.take : ∀ {xs : List V} {us : List Value} (n : Nat), Vals xs us → Vals (xs.take n) (us.take n)
  | _, _, 0, _ => .nil
  | _, _, _ + 1, .nil => .nil
  | _, _, n + 1, .cons r t => .cons r (Vals.take n t)
theorem Vals.drop : ∀ {xs : List V} {us : List Value} (n : Nat), Vals xs us → Vals (xs.drop n) (us.drop n)
  | _, _, 0, r => r
  | _, _, _ + 1, .nil => .nil
  | _, _, n + 1, .cons _ t => Vals.drop n t
theorem Vals.none_of : ∀ {xs : List V} {us : List Value} {i : Nat}, Vals xs us → xs[i]? = none → us[i]? = none := fun {xs us i} r e => by
  have h1 := r.length
  have h2 : xs.length ≤ i := List.getElem?_eq_none_iff.mp e
  exact List.getElem?_eq_none_iff.mpr (by omega)
def RelO : Option V → Option Value → Prop
  | some v, some u => RelV v u
  | none, none => True
  | _, _ => False
def KV {κ : Type} : List (κ × V) → List (κ × Value) → Prop := Paired fun (p : κ × V) (q : κ × Value) => p.1 = q.1 ∧ RelV p.2 q.2
def kV : Key → V
  | .inl i => .int i
  | .inr x => .str x
inductive HO where
  | lst (xs : List V)
  | tup (xs : List V)
  | dK (kvs : List (Key × V)) | dT (kvs : List (List Key × V))
  | set (S : Int → Bool) (n : Nat)
  | ins (C dx : Addr) (fs : List (Str × V))
  | own (x : Addr)
  | xd (fs : List (Str × V))
  | met (f x : Addr)
  | rng (lo hi : Int)
  | frz (o : Obj) (u : HO)
  | tbl (ps : Array Value)
  | ext (φ : Heap → Prop)
abbrev Hp := Addr → Option HO
def upd (H : Hp) (a : Addr) (o : HO) : Hp := fun b => if b = a then some o else H b
theorem upd_same {H : Hp} {a : Addr} {o : HO} : upd H a o a = some o := by unfold upd; rw [if_pos rfl]
theorem upd_ne {H : Hp} {a b : Addr} {o : HO} (h : b ≠ a) : upd H a o b = H b := by unfold upd; rw [if_neg h]
theorem ne_of {H : Hp} {a b : Addr} {o u : HO} (h : H a = some o) (h' : H b = some u) (d : o ≠ u) : a ≠ b := by
  intro e; subst e; rw [h] at h'; exact d (Option.some.inj h')
theorem ne_of_none {H : Hp} {a b : Addr} {o : HO} (h : H a = some o) (h' : H b = none) : a ≠ b := by
  intro e; subst e; rw [h] at h'; cases h'
section
variable (P : Program) (w : World)
def ObjOk (H : Hp) (h : Heap) (a : Addr) : HO → Prop
  | .lst xs => xs.length ≤ sizeLine ∧ ∃ (its : List Value) (n : Nat), Vals xs its ∧ h.get? a = some { cls := .type "list", data := .seq its.toArray n }
  | .tup xs => xs.length ≤ sizeLine ∧ ∃ its : List Value, Vals xs its ∧ IsTup h a its.toArray
  | .dK kvs => kvs.length ≤ sizeLine ∧ (a == sysModules) = false ∧ ∃ vs, KV kvs vs ∧ h.DictOf (mixKind P w) a vs
  | .dT kvs => kvs.length ≤ sizeLine ∧ (a == sysModules) = false ∧ ∃ xs : List (List Key × Addr × Value),
      Paired (fun (p : List Key × V) (q : List Key × Addr × Value) => p.1 = q.1 ∧ H q.2.1 = some (.tup (p.1.map kV)) ∧ RelV p.2 q.2.2) kvs xs ∧
      ∃ o es ep, h.get? a = some o ∧ o.ExactDict ∧ o.data = .dict es ep ∧ es.toList = xs.map (entryOfKey (tupleKind (mixKind P w))) ∧ (xs.map (·.1)).Nodup
  | .set S n => h.SetOf (intKind P w) a S n
  | .ins C dx fs => H dx = some (.own a) ∧ fs.length ≤ 1000 ∧ dx ≠ a ∧ h.get? a = some (PySem.W.instObj C dx) ∧
      ∃ mA, h.Ns1 dx mA ∧ (∀ f, RelO (fs.lookup f) (mA f)) ∧ PySem.Within mA (fs.map (·.1))
  | .own _ => ∃ o, h.get? a = some o
  | .xd fs => ∃ mA, h.Ns1 a mA ∧ ∀ f, RelO (fs.lookup f) (mA f)
  | .rng lo hi => ∃ t u v, h.get? a = some { cls := .type "range", data := .fields #[.int lo t, .int hi u, .int 1 v] }
  | .frz o u => h.get? a = some o ∧ ObjOk H h a u
  | .tbl ps => h.get? a = some { cls := .none, data := .fields ps }
  | .met f x => h.get? a = some (PySem.W.methodObj (.ref f) (.ref x))
  | .ext φ => φ h ∧ (∃ o, h.get? a = some o) ∧ ∀ h1 h2 : Heap, φ h1 → (∀ o, h1.get? a = some o → h2.get? a = some o) → φ h2
def HOk (H : Hp) (h : Heap) : Prop := ∀ a o, H a = some o → ObjOk P w H h a o
end
section
variable {P : Program} {w : World} {H H' : Hp} {h h' : Heap} {a : Addr} {o : HO}
theorem ObjOk.lt (x : ObjOk P w H h a o) : a < h.objs.size := by
  cases o with
  | lst xs => obtain ⟨_, _, _, _, e⟩ := x; exact Heap.lt_size e
  | tup xs => obtain ⟨_, _, _, p⟩ := x; exact p.lt
  | dK kvs => obtain ⟨_, _, _, _, o, _, _, e, _⟩ := x; exact Heap.lt_size e
  | dT kvs => obtain ⟨_, _, _, _, o, _, _, e, _⟩ := x; exact Heap.lt_size e
  | set S n => obtain ⟨o, _, _, _, e, _⟩ := x; exact Heap.lt_size e
  | ins C dx fs => obtain ⟨_, _, _, e, _⟩ := x; exact Heap.lt_size e
  | own y => obtain ⟨_, e⟩ := x; exact Heap.lt_size e
  | xd fs => obtain ⟨_, ⟨_, _, _, e, _⟩, _⟩ := x; exact Heap.lt_size e
  | rng lo hi => obtain ⟨_, _, _, e⟩ := x; exact Heap.lt_size e
  | frz ob u => obtain ⟨e, _⟩ := x; exact Heap.lt_size e
  | tbl ps => exact Heap.lt_size (show h.get? a = some _ from x)
  | met f y => exact Heap.lt_size (show h.get? a = some _ from x)
  | ext φ => obtain ⟨_, ⟨_, e⟩, _⟩ := x; exact Heap.lt_size e
theorem Paired.mapP {α β : Type} {F G : α → β → Prop} : ∀ {l₁ : List α} {l₂ : List β}, Paired F l₁ l₂ → (∀ a b, F a b → G a b) → Paired G l₁ l₂
  | _, _, .nil, _ => .nil
  | _, _, .cons r t, f => .cons (f _ _ r) (Paired.mapP t f)
theorem ObjOk.stay (x : ObjOk P w H h a o) (k : ∀ b u, (b = a ∨ H b = some (.own a)) → h.get? b = some u → h'.get? b = some u)
    (ho : ∀ b, H b = some (.own a) → H' b = some (.own a)) (ht : ∀ b xs, H b = some (.tup xs) → H' b = some (.tup xs)) : ObjOk P w H' h' a o := by
  induction o with
  | lst xs => obtain ⟨z, its, n, r, e⟩ := x; exact ⟨z, its, n, r, k _ _ (.inl rfl) e⟩
  | tup xs => obtain ⟨z, its, r, ob, e, c⟩ := x; exact ⟨z, its, r, ob, k _ _ (.inl rfl) e, c⟩
  | dK kvs => obtain ⟨z, y, vs, r, ob, es, ep, e, c⟩ := x; exact ⟨z, y, vs, r, ob, es, ep, k _ _ (.inl rfl) e, c⟩
  | dT kvs =>
    obtain ⟨z, y, xs, r, ob, es, ep, e, c⟩ := x
    exact ⟨z, y, xs, Paired.mapP r fun p q z => ⟨z.1, ht _ _ z.2.1, z.2.2⟩, ob, es, ep, k _ _ (.inl rfl) e, c⟩
  | set S n => obtain ⟨ob, es, ep, t, e, c⟩ := x; exact ⟨ob, es, ep, t, k _ _ (.inl rfl) e, c⟩
  | ins C dx fs =>
    obtain ⟨d, z, ne, e, mA, ⟨od, es, ep, e2, c⟩, r⟩ := x
    exact ⟨ho _ d, z, ne, k _ _ (.inl rfl) e, mA, ⟨od, es, ep, k _ _ (.inr d) e2, c⟩, r⟩
  | own y => obtain ⟨ob, e⟩ := x; exact ⟨ob, k _ _ (.inl rfl) e⟩
  | xd fs => obtain ⟨mA, ⟨od, es, ep, e, c⟩, r⟩ := x; exact ⟨mA, ⟨od, es, ep, k _ _ (.inl rfl) e, c⟩, r⟩
  | rng lo hi => obtain ⟨t, u, v, e⟩ := x; exact ⟨t, u, v, k _ _ (.inl rfl) e⟩
  | frz ob u ih => obtain ⟨e, q⟩ := x; exact ⟨k _ _ (.inl rfl) e, ih q⟩
  | tbl ps =>
    have e : h.get? a = some { cls := .none, data := .fields ps } := x
    show h'.get? a = some { cls := .none, data := .fields ps }
    exact k a _ (.inl rfl) e
  | met f y =>
    have e : h.get? a = some (PySem.W.methodObj (.ref f) (.ref y)) := x
    show h'.get? a = some (PySem.W.methodObj (.ref f) (.ref y))
    exact k a _ (.inl rfl) e
  | ext φ => obtain ⟨p, ⟨o, e⟩, st⟩ := x; exact ⟨st _ _ p fun o q => k _ _ (.inl rfl) q, ⟨o, k _ _ (.inl rfl) e⟩, st⟩
theorem HOk.lt (x : HOk P w H h) (e : H a = some o) : a < h.objs.size := (x a o e).lt
theorem HOk.fresh (x : HOk P w H h) (e : h.objs.size ≤ a) : H a = none := by
  cases q : H a with
  | none => rfl
  | some u => exact absurd (Nat.lt_of_lt_of_le (x.lt q) e) (Nat.lt_irrefl _)
theorem HOk.kept (x : HOk P w H h) (k : ∀ b u, h.get? b = some u → h'.get? b = some u) : HOk P w H h' := fun a o e =>
  (x a o e).stay (fun b u _ q => k b u q) (fun _ q => q) fun _ _ q => q
theorem HOk.laid (x : HOk P w H h) (k : ∀ b u, h.get? b = some u → h'.get? b = some u) (hp : h.objs.size ≤ a) (new : ObjOk P w (upd H a o) h' a o) : HOk P w (upd H a o) h' := fun b u e => by
  have hn := x.fresh hp
  by_cases hb : b = a
  · subst hb; rw [upd_same] at e; cases e; exact new
  · rw [upd_ne hb] at e
    exact (x b u e).stay (fun c v _ q => k c v q) (fun c q => by rw [upd_ne (ne_of_none q hn)]; exact q) fun c xs q => by rw [upd_ne (ne_of_none q hn)]; exact q
end
def Rd (H : Hp) (a : Addr) (u : HO) : Prop := H a = some u ∨ ∃ o, H a = some (.frz o u)
theorem Rd.of {H : Hp} {a : Addr} {u : HO} (h : H a = some u) : Rd H a u := .inl h
theorem Rd.ok {P : Program} {w : World} {H : Hp} {h : Heap} {a : Addr} {u : HO} (r : Rd H a u) (x : HOk P w H h) : ObjOk P w H h a u := by
  rcases r with r | ⟨o, r⟩
  · exact x a u r
  · obtain ⟨_, q⟩ := x a _ r
    exact q
def Mut : Option HO → Prop
  | some (.lst _) => True
  | some (.dK _) => True
  | some (.dT _) => True
  | some (.set _ _) => True
  | some (.ins _ _ _) => True
  | some (.ext _) => True
  | _ => False
section
variable {P : Program} {w : World} {H : Hp} {h h' : Heap} {x e : Addr} {o' : HO}
theorem HOk.write (ok : HOk P w H h) (mu : Mut (H x)) (he : e = x ∨ H e = some (.own x)) (k : ∀ b u, b ≠ e → h.get? b = some u → h'.get? b = some u) (heo : ∃ u, h'.get? e = some u)
    (new : ObjOk P w (upd H x o') h' x o') : HOk P w (upd H x o') h' := fun b u q => by
  have nown : ∀ c y, H c = some (.own y) → c ≠ x := fun c y r z => by subst z; rw [r] at mu; exact mu
  have ntup : ∀ c xs, H c = some (.tup xs) → c ≠ x := fun c xs r z => by subst z; rw [r] at mu; exact mu
  by_cases hb : b = x
  · subst hb; rw [upd_same] at q; cases q; exact new
  · rw [upd_ne hb] at q
    by_cases hbe : b = e
    · have q' : H b = some (.own x) := by
        rcases he with z | z
        · exact absurd (hbe.trans z) hb
        · rw [hbe]; exact z
      rw [q] at q'; cases q'
      obtain ⟨v, hv⟩ := heo
      exact ⟨v, by rw [hbe]; exact hv⟩
    · refine (ok b u q).stay (fun c v hc r => k c v ?_ r) (fun c r => by rw [upd_ne (nown c b r)]; exact r) fun c xs r => by rw [upd_ne (ntup c xs r)]; exact r
      rcases hc with rfl | hc
      · exact hbe
      · rintro rfl
        rcases he with z | z
        · exact nown c b hc z
        · rw [hc] at z; cases z; exact hb rfl
end
structure Un (fs ex : List Addr) (H H' : Hp) (h h' : Heap) : Prop where
  keep : ∀ b o, h.get? b = some o → H b = none → b ∉ fs → b ∉ ex → h'.get? b = some o
  slot : ∀ b o, h.get? b = some o → H b = none → b ∈ fs → b ∉ ex → ∃ sl, h'.get? b = some { o with slots := sl }
  free : ∀ b o, h.get? b = some o → H b = none → b ∉ ex → H' b = none
  there : ∀ b o, h.get? b = some o → b ∉ ex → ∃ o', h'.get? b = some o'
  tups : ∀ b xs, H b = some (.tup xs) → H' b = some (.tup xs)
  frzs : ∀ b o u, H b = some (.frz o u) → H' b = some (.frz o u)
  tbls : ∀ b ps, H b = some (.tbl ps) → ∃ more, H' b = some (.tbl (ps ++ more))
section
variable {fs fs' ex ex' : List Addr} {H H1 H2 : Hp} {h h1 h2 h' : Heap} {a x e : Addr} {o : HO}
theorem Un.any (u : Un fs ex H H1 h h1) {b : Addr} {ob : Obj} (q : h.get? b = some ob) (n : H b = none) (hx : b ∉ ex) : ∃ sl, h1.get? b = some { ob with slots := sl } := by
  by_cases hb : b ∈ fs
  · exact u.slot b ob q n hb hx
  · exact ⟨ob.slots, u.keep b ob q n hb hx⟩
theorem Un.trans (a : Un fs ex H H1 h h1) (b : Un fs ex H1 H2 h1 h2) : Un fs ex H H2 h h2 where
  keep := fun c ob q n hc hx => b.keep c ob (a.keep c ob q n hc hx) (a.free c ob q n hx) hc hx
  slot := fun c ob q n hc hx => by
    obtain ⟨sl, e1⟩ := a.slot c ob q n hc hx
    obtain ⟨sl', e2⟩ := b.slot c _ e1 (a.free c ob q n hx) hc hx
    exact ⟨sl', e2⟩
  free := fun c ob q n hx => by
    obtain ⟨o', e1⟩ := a.there c ob q hx
    exact b.free c o' e1 (a.free c ob q n hx) hx
  there := fun c ob q hx => by
    obtain ⟨o', e1⟩ := a.there c ob q hx
    exact b.there c o' e1 hx
  tups := fun c xs q => b.tups c xs (a.tups c xs q)
  frzs := fun c ob xs q => b.frzs c ob xs (a.frzs c ob xs q)
  tbls := fun c ps q => by
    obtain ⟨m1, e1⟩ := a.tbls c ps q
    obtain ⟨m2, e2⟩ := b.tbls c _ e1
    exact ⟨m1 ++ m2, by rw [e2, Array.append_assoc]⟩
theorem Un.kept (k : ∀ b u, h.get? b = some u → h'.get? b = some u) : Un fs ex H H h h' :=
  ⟨fun b ob q _ _ _ => k b ob q, fun b ob q _ _ _ => ⟨ob.slots, k b ob q⟩, fun _ _ _ n _ => n, fun b ob q _ => ⟨ob, k b ob q⟩, fun _ _ q => q, fun _ _ _ q => q, fun _ ps q => ⟨#[], by rw [q]; simp⟩⟩
theorem Un.refl : Un fs ex H H h h := Un.kept fun _ _ q => q
theorem Un.laid (k : ∀ b u, h.get? b = some u → h'.get? b = some u) (hp : h.objs.size ≤ a) (hn : H a = none) : Un fs ex H (upd H a o) h h' where
  keep := fun b u q _ _ _ => k b u q
  slot := fun b u q _ _ _ => ⟨u.slots, k b u q⟩
  free := fun b u q n _ => by rw [upd_ne (Nat.ne_of_lt (Nat.lt_of_lt_of_le (Heap.lt_size q) hp))]; exact n
  there := fun b u q _ => ⟨u, k b u q⟩
  tups := fun b xs q => by rw [upd_ne (ne_of_none q hn)]; exact q
  frzs := fun b u xs q => by rw [upd_ne (ne_of_none q hn)]; exact q
  tbls := fun b ps q => ⟨#[], by rw [upd_ne (ne_of_none q hn), q]; simp⟩
theorem Un.write (mu : Mut (H x)) (he : e = x ∨ H e = some (.own x)) (k : ∀ b u, b ≠ e → h.get? b = some u → h'.get? b = some u) (heo : ∃ u, h'.get? e = some u) : Un fs ex H (upd H x o) h h' := by
  have hx : ∀ b, H b = none → b ≠ x := fun b n z => by subst z; rw [n] at mu; exact mu
  have hb : ∀ b, H b = none → b ≠ e := fun b n z => by
    subst z
    rcases he with r | r
    · exact hx b n r
    · rw [n] at r; cases r
  have hm : ∀ b u, H b = some u → ¬ Mut (some u) → b ≠ x := fun b u q nm z => by subst z; rw [q] at mu; exact nm mu
  refine ⟨fun b u q n _ _ => k b u (hb b n) q, fun b u q n _ _ => ⟨u.slots, k b u (hb b n) q⟩, fun b u q n _ => by rw [upd_ne (hx b n)]; exact n, fun b u q _ => ?_,
    fun b xs q => by rw [upd_ne (hm b _ q fun z => z)]; exact q, fun b u xs q => by rw [upd_ne (hm b _ q fun z => z)]; exact q, fun b ps q => ⟨#[], by rw [upd_ne (hm b _ q fun z => z), q]; simp⟩⟩
  by_cases hbe : b = e
  · subst hbe; exact heo
  · exact ⟨u, k b u hbe q⟩
theorem Un.mono (u : Un fs ex H H1 h h1) (hs : ∀ b ∈ fs, b ∈ fs') (hx : ∀ b ∈ ex, b ∈ ex') : Un fs' ex' H H1 h h1 :=
  ⟨fun b ob q n hb he => u.keep b ob q n (fun z => hb (hs b z)) fun z => he (hx b z), fun _ _ q n _ he => u.any q n fun z => he (hx _ z), fun b ob q n he => u.free b ob q n fun z => he (hx b z), fun b ob q he => u.there b ob q fun z => he (hx b z), u.tups, u.frzs, u.tbls⟩
end
def trk (h : Heap) (H : Hp) : List Addr := (List.range h.objs.size).filter fun a => (H a).isSome
def hidT (h : Heap) (H : Hp) : Heap := PySem.W.hideAll h (trk h H)
theorem hidT_size (h : Heap) (H : Hp) : (hidT h H).objs.size = h.objs.size := PySem.W.hideAll_size _ _
theorem hidT_get {h : Heap} {H : Hp} {b : Addr} {o : Obj} (e : h.get? b = some o) (n : H b = none) : (hidT h H).get? b = some o :=
  PySem.W.hideAll_get _ e fun hm => by
    have q : (H b).isSome = true := (List.mem_filter.mp hm).2
    rw [n] at q; simp at q
theorem of_hidT {h : Heap} {H : Hp} {b : Addr} {o : Obj} (e : (hidT h H).get? b = some o) : h.get? b = some o ∧ H b = none := by
  have e' : h.get? b = some o := PySem.W.of_hideAll (trk h H) e
  refine ⟨e', ?_⟩
  cases q : H b with
  | none => rfl
  | some x =>
    have hm : b ∈ trk h H := List.mem_filter.mpr ⟨List.mem_range.mpr (Heap.lt_size e'), by simp [q]⟩
    have z : (hidT h H).get? b = none := PySem.W.hideAll_none (trk h H) hm
    rw [z] at e; cases e
def allNews (g h : Heap) (L : Addr) : List (Addr × Obj) := (List.range h.objs.size).filterMap fun a => if a = L ∨ (g.get? a).isSome = true then none else (h.get? a).map fun o => (a, o)
def rest (g h : Heap) (L d : Addr) : List (Addr × Obj) := (allNews g h L).filter fun p => decide (p.1 ≠ d)
end L2
namespace L2
open PySem PySem.Spec PyProof.Rows
structure Mod (K : PySem.W.Frag) (mg : Str → Option Value) (base : Heap) : Prop where
  kin : K.In base
  glob : base.Ns mainGlobals mg
  blt : ∃ mb, base.Ns builtinsNs mb ∧ ∀ x : Str, x ≠ "__name__" → mb x = bootBuiltins x
  nolimit : base.NoLimit
structure Cx where
  prog : Program
  w : World
  K : PySem.W.Frag
  mg : Str → Option Value
  base : Heap
  A : Around
  N : List Str
  s₀ : Shared
  H₀ : Hp
  env : Env
  outer : List Env
  stack : List Env
  ex : List Addr
  fn : Str → Bool
  calm : Bool
  pn : List (Addr × Obj)
  xe : Value → Shared → Prop
def frs (l : List Env) : List Addr := l.filterMap (·.frame)
abbrev Cx.fs (X : Cx) : List Addr := frs X.outer
def Vis (sc : Scope) (x : Str) : Prop := sc.names.lookup x = some .local ∨ sc.names.lookup x = some .cell ∨ sc.names.lookup x = some .free
def Loc (sc : Scope) (x : Str) : Prop := sc.names.lookup x = some .local ∨ sc.names.lookup x = some .cell
def Look (env : Env) (h : Heap) (m : Str → Option Value) (x : Str) (u : Value) : Prop :=
  (env.kindOf x = some .local ∧ m x = some u) ∨ ((env.kindOf x = some .cell ∨ env.kindOf x = some .free) ∧ ∃ c, env.cells.lookup x = some c ∧ h.IsCell c (some u))
structure Cx.Ok (X : Cx) : Prop where
  mod : Mod X.K X.mg X.base
  kind : X.env.scope.kind = .function
  glob : X.env.globals = mainGlobals
  blt : X.env.builtins = builtinsNs
  above : X.s₀.heap.objs.size ≤ X.env.locals
  inj : ∀ x y c, X.env.cells.lookup x = some c → X.env.cells.lookup y = some c → x = y
  has : ∀ x, (X.env.kindOf x = some .cell ∨ X.env.kindOf x = some .free) → ∃ c, X.env.cells.lookup x = some c
  cab : ∀ x c, X.fn x = true → X.env.cells.lookup x = some c → X.s₀.heap.objs.size ≤ c
  hd : X.calm = true → X.A.handled = none
  frames : X.A.frames = some X.stack
  stk : X.stack = X.outer ∨ (X.stack = X.env :: X.outer ∧ X.env.frame = some X.env.locals)
  exf : ∀ b ∈ X.ex, b ≠ X.env.locals ∧ ∀ x c, X.env.cells.lookup x = some c → c ≠ b
  bs : ∀ b o, X.base.get? b = some o → X.s₀.heap.get? b = some o ∧ X.H₀ b = none
  bsz : X.base.objs.size ≤ X.s₀.heap.objs.size
  noex : ∀ b o, X.base.get? b = some o → b ∉ X.ex
  exfs : ∀ b ∈ X.ex, b ∉ X.fs
  funs : X.s₀.heap.FunFrames X.base X.outer
  frf : ∀ b ∈ X.fs, X.H₀ b = none
structure Inv (X : Cx) (pins : List (Addr × Obj)) (σ : List (Option V)) (H : Hp) (s : Shared) : Prop where
  ok : X.Ok
  os : s.os = X.s₀.os
  bare : AllBare s.gens
  base : Un X.fs X.ex X.H₀ H X.s₀.heap s.heap
  loc : ∃ m, s.heap.Ns X.env.locals m ∧ ∀ (i : Nat) (x : Str) (v : V), X.N[i]? = some x → σ[i]? = some (some v) → Vis X.env.scope x → ∃ u, RelV v u ∧ Look X.env s.heap m x u
  cell : ∀ x c, X.env.cells.lookup x = some c → ∃ v, s.heap.IsCell c v
  free : H X.env.locals = none
  freeC : ∀ x c, X.env.cells.lookup x = some c → H c = none
  pin : ∀ p ∈ X.pn ++ pins, s.heap.get? p.1 = some p.2 ∧ H p.1 = none ∧ p.1 ≠ X.env.locals ∧ p.1 ∉ X.fs ∧ ∀ v, p.2.data ≠ .cell v
  hok : HOk X.prog X.w H s.heap
  len : σ.length = X.N.length
section
variable {X : Cx} {pins : List (Addr × Obj)} {σ : List (Option V)} {H H' : Hp} {s : Shared} {h' : Heap}
theorem Cx.Ok.nofr (ok : X.Ok) {b : Addr} {o : Obj} (e : X.base.get? b = some o) : b ∉ X.fs := fun hb => by
  have := (ok.funs.mem hb).1
  rw [e] at this; cases this
theorem Inv.bs (I : Inv X pins σ H s) : ∀ b o, X.base.get? b = some o → s.heap.get? b = some o ∧ H b = none := fun b o e =>
  ⟨I.base.keep b o (I.ok.bs b o e).1 (I.ok.bs b o e).2 (I.ok.nofr e) (I.ok.noex b o e), I.base.free b o (I.ok.bs b o e).1 (I.ok.bs b o e).2 (I.ok.noex b o e)⟩
theorem Inv.bk (I : Inv X pins σ H s) : ∀ b o, X.base.get? b = some o → s.heap.get? b = some o := fun b o e => (I.bs b o e).1
theorem Inv.mod (I : Inv X pins σ H s) : Mod X.K X.mg X.base := I.ok.mod
theorem Inv.kIn (I : Inv X pins σ H s) : X.K.In s.heap := I.ok.mod.kin.keeps I.bk
theorem Inv.nolimit (I : Inv X pins σ H s) : s.heap.NoLimit := I.ok.mod.nolimit.keeps I.bk
theorem Inv.fr (I : Inv X pins σ H s) : ∃ m, Fr X.base X.env.locals s.heap m :=
  let ⟨m, hn, _⟩ := I.loc
  ⟨m, hn, I.bk, Nat.le_trans I.ok.bsz I.ok.above⟩
theorem Inv.lt (I : Inv X pins σ H s) : X.env.locals < s.heap.objs.size := let ⟨_, hn, _⟩ := I.loc; hn.lt
theorem Inv.sz (I : Inv X pins σ H s) : X.s₀.heap.objs.size ≤ s.heap.objs.size := Nat.le_trans I.ok.above (Nat.le_of_lt I.lt)
theorem Inv.nofs (I : Inv X pins σ H s) {a : Addr} (h : s.heap.objs.size ≤ a) : a ∉ X.fs := fun hb => by
  obtain ⟨_, o, ho, _⟩ := I.ok.funs.mem hb
  exact absurd (Nat.lt_of_lt_of_le (Heap.lt_size ho) (Nat.le_trans I.sz h)) (Nat.lt_irrefl _)
theorem Inv.cne (I : Inv X pins σ H s) : ∀ x c, X.env.cells.lookup x = some c → c ≠ X.env.locals := fun x c e z => by
  obtain ⟨v, o, ho, hd⟩ := I.cell x c e
  obtain ⟨m, ⟨o', es, ep, ho', hd', _⟩, _⟩ := I.loc
  rw [z, ho'] at ho; cases ho; rw [hd'] at hd; cases hd
theorem Inv.funs (I : Inv X pins σ H s) : s.heap.FunFrames X.base X.outer := by
  have all : ∀ (l : List Env), (∀ b ∈ frs l, b ∈ X.fs) → X.s₀.heap.FunFrames X.base l → s.heap.FunFrames X.base l := by
    intro l
    induction l with
    | nil => intro _ _; trivial
    | cons env r ih =>
      intro hs hl
      obtain ⟨hk, ⟨L, o, hf, hn, ho, hd⟩, hr⟩ := hl
      have hL : L ∈ X.fs := hs L (by unfold frs; rw [List.filterMap_cons, hf]; exact List.mem_cons_self)
      obtain ⟨sl, e⟩ := I.base.slot L o ho (I.ok.frf L hL) hL fun z => I.ok.exfs L z hL
      exact ⟨hk, ⟨L, _, hf, hn, e, hd⟩, ih (fun b hb => hs b (by unfold frs; rw [List.filterMap_cons, hf]; exact List.mem_cons_of_mem _ hb)) hr⟩
  exact all X.outer (fun _ hb => hb) I.ok.funs
theorem Inv.stack (I : Inv X pins σ H s) : s.heap.FunFrames X.base X.stack := by
  rcases I.ok.stk with e | ⟨e, hf⟩
  · rw [e]; exact I.funs
  · rw [e]
    obtain ⟨m, hn, _⟩ := I.loc
    refine .cons (by rw [I.ok.kind]; decide) hf hn ?_ I.funs
    exact Heap.get?_none_of_le (Nat.le_trans I.ok.bsz I.ok.above)
theorem Inv.stkSub (I : Inv X pins σ H s) : ∀ b ∈ frs X.stack, b ∈ X.env.locals :: X.fs := fun b hb => by
  rcases I.ok.stk with e | ⟨e, hf⟩
  · rw [e] at hb; exact List.mem_cons_of_mem _ hb
  · rw [e] at hb
    unfold frs at hb
    rw [List.filterMap_cons, hf] at hb
    exact hb
theorem Inv.stkFree (I : Inv X pins σ H s) : ∀ b ∈ frs X.stack, H b = none := fun b hb => by
  rcases List.mem_cons.mp (I.stkSub b hb) with e | hb
  · rw [e]; exact I.free
  · obtain ⟨_, o, ho, _⟩ := I.ok.funs.mem hb
    exact I.base.free b o ho (I.ok.frf b hb) fun z => I.ok.exfs b z hb
theorem Inv.step {g' : Array GenState} {t' : Nat} {d' : Drawn} {ch : List Addr} (I : Inv X pins σ H s)
    (hch : ∀ b ∈ ch, (b ∈ X.ex ∨ X.s₀.heap.objs.size ≤ b) ∧ b ≠ X.env.locals ∧ (∀ x c, X.env.cells.lookup x = some c → c ≠ b) ∧ ∀ p ∈ X.pn ++ pins, p.1 ≠ b)
    (keep : ∀ b o, b ≠ X.env.locals → b ∉ X.fs → b ∉ ch → s.heap.get? b = some o → H b = none → h'.get? b = some o)
    (slot : ∀ b o, b ≠ X.env.locals → b ∈ X.fs → b ∉ ch → s.heap.get? b = some o → H b = none → ∃ sl, h'.get? b = some { o with slots := sl }) (free : ∀ b o, b ∉ ch → s.heap.get? b = some o → H b = none → H' b = none)
    (there : ∀ b o, b ∉ ch → s.heap.get? b = some o → ∃ o', h'.get? b = some o')
    (tups : ∀ b xs, H b = some (.tup xs) → H' b = some (.tup xs)) (frzs : ∀ b o u, H b = some (.frz o u) → H' b = some (.frz o u)) (tbls : ∀ b ps, H b = some (.tbl ps) → ∃ more, H' b = some (.tbl (ps ++ more)))
    (ns : ∀ m, s.heap.Ns X.env.locals m → h'.Ns X.env.locals m) (hok : HOk X.prog X.w H' h') (hg : AllBare g') :
    Inv X pins σ H' { s with heap := h', gens := g', drawn := d', toks := t' } := by
  have neL : ∀ b o, X.s₀.heap.get? b = some o → b ≠ X.env.locals := fun b o e => Nat.ne_of_lt (Nat.lt_of_lt_of_le (Heap.lt_size e) I.ok.above)
  have neC : ∀ b o, X.s₀.heap.get? b = some o → b ∉ X.ex → b ∉ ch := fun b o e hx hb => by
    rcases (hch b hb).1 with z | z
    · exact hx z
    · exact absurd (Nat.lt_of_lt_of_le (Heap.lt_size e) z) (Nat.lt_irrefl _)
  have cellK : ∀ x c, X.env.cells.lookup x = some c → ∀ v, s.heap.IsCell c v → h'.IsCell c v := fun x c e v ⟨o, ho, hd⟩ => by
    have nch : c ∉ ch := fun z => (hch c z).2.2.1 x c e rfl
    by_cases hc : c ∈ X.fs
    · obtain ⟨sl, q⟩ := slot c o (I.cne x c e) hc nch ho (I.freeC x c e)
      exact ⟨_, q, hd⟩
    · exact ⟨o, keep c o (I.cne x c e) hc nch ho (I.freeC x c e), hd⟩
  refine ⟨I.ok, I.os, hg, ⟨fun b o e n hb hx => ?_, fun b o e n hb hx => ?_, fun b o e n hx => ?_, fun b o e hx => ?_, fun b xs e => tups b xs (I.base.tups b xs e), fun b o xs e => frzs b o xs (I.base.frzs b o xs e), fun b ps e => ?_⟩, ?_, fun x c e => ?_, ?_, fun x c e => ?_, fun p hp => ?_, hok, I.len⟩
  · exact keep b o (neL b o e) hb (neC b o e hx) (I.base.keep b o e n hb hx) (I.base.free b o e n hx)
  · obtain ⟨sl, e1⟩ := I.base.slot b o e n hb hx
    obtain ⟨sl', e2⟩ := slot b _ (neL b o e) hb (neC b o e hx) e1 (I.base.free b o e n hx)
    exact ⟨sl', e2⟩
  · obtain ⟨o', e1⟩ := I.base.there b o e hx
    exact free b o' (neC b o e hx) e1 (I.base.free b o e n hx)
  · obtain ⟨o', e1⟩ := I.base.there b o e hx
    exact there b o' (neC b o e hx) e1
  · obtain ⟨m1, e1⟩ := I.base.tbls b ps e
    obtain ⟨m2, e2⟩ := tbls b _ e1
    exact ⟨m1 ++ m2, by rw [e2, Array.append_assoc]⟩
  · obtain ⟨m, hn, hl⟩ := I.loc
    refine ⟨m, ns m hn, fun i x v e1 e2 e3 => ?_⟩
    obtain ⟨u, r, l⟩ := hl i x v e1 e2 e3
    refine ⟨u, r, ?_⟩
    rcases l with l | ⟨k, c, e, z⟩
    · exact .inl l
    · exact .inr ⟨k, c, e, cellK x c e _ z⟩
  · obtain ⟨v, z⟩ := I.cell x c e
    exact ⟨v, cellK x c e v z⟩
  · obtain ⟨m, ⟨o, _, _, ho, _⟩, _⟩ := I.loc
    exact free _ o (fun z => (hch _ z).2.1 rfl) ho I.free
  · obtain ⟨v, o, ho, hd⟩ := I.cell x c e
    exact free c o (fun z => (hch c z).2.2.1 x c e rfl) ho (I.freeC x c e)
  · obtain ⟨e, n, ne, nf, d⟩ := I.pin p hp
    have nch : p.1 ∉ ch := fun z => (hch p.1 z).2.2.2 p hp rfl
    exact ⟨keep p.1 p.2 ne nf nch e n, free p.1 p.2 nch e n, ne, nf, d⟩
theorem Inv.un {t' : Nat} (I : Inv X pins σ H s) (u : Un X.fs [] H H' s.heap h') (hok : HOk X.prog X.w H' h') : Inv X pins σ H' { s with heap := h', toks := t' } := by
  obtain ⟨m, ⟨o, es, ep, ho, r⟩, _⟩ := id I.loc
  obtain ⟨sl, hL⟩ := u.any ho I.free (by simp)
  exact I.step (g' := s.gens) (d' := s.drawn) (ch := []) (fun _ z => nomatch z) (fun b o _ hb _ e n => u.keep b o e n hb (by simp)) (fun b o _ hb _ e n => u.slot b o e n hb (by simp)) (fun b o _ e n => u.free b o e n (by simp)) (fun b o _ e => u.there b o e (by simp)) u.tups u.frzs u.tbls (fun m' hm => by
    obtain ⟨o', es', ep', ho', r'⟩ := hm
    rw [ho] at ho'; cases ho'
    exact ⟨_, es', ep', hL, r'⟩) hok I.bare
theorem Inv.call {g' : Array GenState} {t' : Nat} {d' : Drawn} {ch : List Addr} (I : Inv X pins σ H s) (u : Un (frs X.stack) ch H H' s.heap h') (hok : HOk X.prog X.w H' h') (hg : AllBare g')
    (hch : ∀ b ∈ ch, (b ∈ X.ex ∨ X.s₀.heap.objs.size ≤ b) ∧ b ≠ X.env.locals ∧ (∀ x c, X.env.cells.lookup x = some c → c ≠ b) ∧ ∀ p ∈ X.pn ++ pins, p.1 ≠ b) :
    Inv X pins σ H' { s with heap := h', gens := g', drawn := d', toks := t' } := by
  obtain ⟨m, ⟨o, es, ep, ho, r⟩, _⟩ := id I.loc
  obtain ⟨sl, hL⟩ := u.any ho I.free fun z => (hch _ z).2.1 rfl
  exact I.step (ch := ch) hch (fun b o hL hb hc e n => u.keep b o e n (fun z => (List.mem_cons.mp (I.stkSub b z)).elim hL hb) hc) (fun b o _ _ hc e n => u.any e n hc) (fun b o hc e n => u.free b o e n hc) (fun b o hc e => u.there b o e hc) u.tups u.frzs u.tbls (fun m' hm => by
    obtain ⟨o', es', ep', ho', r'⟩ := hm
    rw [ho] at ho'; cases ho'
    exact ⟨_, es', ep', hL, r'⟩) hok hg
theorem Inv.turned {t' : Nat} {it : Addr} (I : Inv X pins σ H s) (k : ∀ b o, b ≠ it → s.heap.get? b = some o → h'.get? b = some o) (hn : H it = none) (hL : it ≠ X.env.locals)
    (h1 : it ∈ X.ex ∨ X.s₀.heap.objs.size ≤ it) (h2 : ∀ x c, X.env.cells.lookup x = some c → c ≠ it) (h3 : ∀ p ∈ X.pn ++ pins, p.1 ≠ it) : Inv X pins σ H { s with heap := h', toks := t' } := by
  have nit : ∀ b u, H b = some u → b ≠ it := fun b u e z => by rw [z, hn] at e; cases e
  refine I.step (g' := s.gens) (d' := s.drawn) (ch := [it]) (fun b hb => ?_) (fun b o _ _ hc e _ => k b o (fun z => hc (by simp [z])) e) (fun b o _ _ hc e _ => ⟨o.slots, k b o (fun z => hc (by simp [z])) e⟩) (fun _ _ _ _ n => n)
    (fun b o hc e => ⟨o, k b o (fun z => hc (by simp [z])) e⟩) (fun _ _ e => e) (fun _ _ _ e => e) (fun b ps e => ⟨#[], by rw [e]; simp⟩) (fun m hm => ?_) (fun b u e => ?_) I.bare
  · have e : b = it := by simpa using hb
    subst e
    exact ⟨h1, hL, h2, h3⟩
  · obtain ⟨o, es, ep, ho, r⟩ := hm
    exact ⟨o, es, ep, k _ o (Ne.symm hL) ho, r⟩
  · refine (I.hok b u e).stay (fun c v hc q => k c v ?_ q) (fun _ q => q) fun _ _ q => q
    rcases hc with z | z
    · rw [z]; exact nit b u e
    · exact nit c _ z
theorem Inv.tok (I : Inv X pins σ H s) (t : Nat) : Inv X pins σ H { s with toks := t } := I.un (h' := s.heap) (t' := t) Un.refl I.hok
theorem Inv.kept {t' : Nat} (I : Inv X pins σ H s) (k : ∀ b u, s.heap.get? b = some u → h'.get? b = some u) : Inv X pins σ H { s with heap := h', toks := t' } := I.un (Un.kept k) (I.hok.kept k)
theorem Inv.laid {a : Addr} {o : HO} {t' : Nat} (I : Inv X pins σ H s) (k : ∀ b u, s.heap.get? b = some u → h'.get? b = some u) (hp : s.heap.objs.size ≤ a) (new : ObjOk X.prog X.w (upd H a o) h' a o) :
    Inv X pins σ (upd H a o) { s with heap := h', toks := t' } := I.un (Un.laid k hp (I.hok.fresh hp)) (I.hok.laid k hp new)
theorem Inv.write {x e : Addr} {o : HO} {t' : Nat} (I : Inv X pins σ H s) (mu : Mut (H x)) (he : e = x ∨ H e = some (.own x)) (k : ∀ b u, b ≠ e → s.heap.get? b = some u → h'.get? b = some u) (heo : ∃ u, h'.get? e = some u)
    (new : ObjOk X.prog X.w (upd H x o) h' x o) : Inv X pins σ (upd H x o) { s with heap := h', toks := t' } := I.un (Un.write mu he k heo) (I.hok.write mu he k heo new)
theorem Inv.pins_of {pins' : List (Addr × Obj)} (I : Inv X pins σ H s) (h : ∀ p ∈ pins', s.heap.get? p.1 = some p.2 ∧ H p.1 = none ∧ p.1 ≠ X.env.locals ∧ p.1 ∉ X.fs ∧ ∀ v, p.2.data ≠ .cell v) : Inv X pins' σ H s :=
  ⟨I.ok, I.os, I.bare, I.base, I.loc, I.cell, I.free, I.freeC, fun p hp => (List.mem_append.mp hp).elim (fun z => I.pin p (List.mem_append_left _ z)) (h p), I.hok, I.len⟩
theorem nodup_ix {N : List Str} (hN : N.Nodup) {i j : Nat} {x : Str} (a : N[i]? = some x) (b : N[j]? = some x) : i = j := by
  obtain ⟨h1, e1⟩ := List.getElem?_eq_some_iff.mp a
  obtain ⟨h2, e2⟩ := List.getElem?_eq_some_iff.mp b
  exact (List.getElem_inj hN).mp (e1.trans e2.symm)
theorem store_ok2 {M : Model} {A : Around} {E : Value → Shared → Prop} {i : Nat} {x : Str} {v : V} {u : Value} {Q : Unit → Shared → Prop} (I : Inv X pins σ H s) (hN : X.N.Nodup) (hi : X.N[i]? = some x) (hx : Loc X.env.scope x) (r : RelV v u)
    (h : ∀ s', Inv X pins (σ.set i (some v)) H s' → (∃ a, Heap.SameBut a s.heap s'.heap ∧ (a = X.env.locals ∨ X.env.cells.lookup x = some a)) → Q () s') (hf : X.fn x = true ∨ X.env.scope.names.lookup x = some .local := by first | exact .inl rfl | exact .inr rfl | assumption) : wpAny M A (storeName X.env x u) Q E s := by
  obtain ⟨m, hn, hl⟩ := id I.loc
  have hcls : (X.env.scope.kind == .class || (X.env.scope.kind == .module && X.env.locals != X.env.globals)) = false := by rw [I.ok.kind]; rfl
  have hiσ : i < σ.length := by rw [I.len]; exact (List.getElem?_eq_some_iff.mp hi).1
  have cne := I.cne
  have tracked : ∀ {a : Addr} {h' : Heap}, (∃ o, s.heap.get? a = some o ∧ H a = none) → Heap.SameBut a s.heap h' → HOk X.prog X.w H h' := fun {a h'} ha hs b ob e => by
    obtain ⟨_, _, hfree⟩ := ha
    refine (I.hok b ob e).stay (fun c w' hc q => (hs.2 c ?_).trans q) (fun _ q => q) fun _ _ q => q
    rintro rfl
    rcases hc with rfl | hc
    · rw [hfree] at e; cases e
    · rw [hfree] at hc; cases hc
  rcases hx with hk | hk
  · refine wpAny_storeName_local hk hn (fun h' hn' hs => ?_) hcls
    obtain ⟨oL, _, _, hoL, _⟩ := id hn
    refine h _ ⟨I.ok, I.os, I.bare, ⟨fun b o e n hb hx => ?_, fun b o e n hb hx => ?_, I.base.free, fun b o e hx => ?_, I.base.tups, I.base.frzs, I.base.tbls⟩, ⟨_, hn', fun j y v' e1 e2 e3 => ?_⟩, fun y c e => ?_, I.free, I.freeC, fun p hp => ?_, tracked ⟨oL, hoL, I.free⟩ hs, by simpa using I.len⟩ ⟨_, hs, .inl rfl⟩
    · exact (hs.2 b (Nat.ne_of_lt (Nat.lt_of_lt_of_le (Heap.lt_size e) I.ok.above))).trans (I.base.keep b o e n hb hx)
    · obtain ⟨sl, e1⟩ := I.base.slot b o e n hb hx
      exact ⟨sl, (hs.2 b (Nat.ne_of_lt (Nat.lt_of_lt_of_le (Heap.lt_size e) I.ok.above))).trans e1⟩
    · obtain ⟨o', e1⟩ := I.base.there b o e hx
      exact ⟨o', (hs.2 b (Nat.ne_of_lt (Nat.lt_of_lt_of_le (Heap.lt_size e) I.ok.above))).trans e1⟩
    · by_cases hj : j = i
      · subst hj
        rw [hi] at e1; cases e1
        rw [List.getElem?_set_self hiσ] at e2
        cases e2
        exact ⟨u, r, .inl ⟨hk, by simp⟩⟩
      · rw [List.getElem?_set_ne (Ne.symm hj)] at e2
        obtain ⟨u', r', q⟩ := hl j y v' e1 e2 e3
        refine ⟨u', r', ?_⟩
        rcases q with ⟨k, e⟩ | ⟨k, c, e, z⟩
        · refine .inl ⟨k, ?_⟩
          have : y ≠ x := fun e => hj (nodup_ix hN e1 (e ▸ hi))
          simp [this, e]
        · exact .inr ⟨k, c, e, z.sameBut hs (cne y c e)⟩
    · obtain ⟨w', z⟩ := I.cell y c e
      exact ⟨w', z.sameBut hs (cne y c e)⟩
    · obtain ⟨e, n, ne, nf, d⟩ := I.pin p hp
      exact ⟨(hs.2 p.1 ne).trans e, n, ne, nf, d⟩
  · have hfn : X.fn x = true := by
      rcases hf with z | z
      · exact z
      · rw [z] at hk; cases hk
    obtain ⟨c, hc⟩ := I.ok.has x (.inl hk)
    obtain ⟨w', z⟩ := I.cell x c hc
    refine wpAny_storeName_cell I.ok.kind hk hc z (fun h' hc' hs => ?_)
    obtain ⟨oc, hoc, hocd⟩ := id z
    refine h { s with heap := h' } ⟨I.ok, I.os, I.bare, ⟨fun b o e n hb hx => ?_, fun b o e n hb hx => ?_, I.base.free, fun b o e hx => ?_, I.base.tups, I.base.frzs, I.base.tbls⟩, ⟨m, hn.sameBut hs (Ne.symm (cne x c hc)), fun j y v' e1 e2 e3 => ?_⟩, fun y c' e => ?_, I.free, I.freeC, fun p hp => ?_, tracked ⟨oc, hoc, I.freeC x c hc⟩ hs, by simpa using I.len⟩ ⟨c, hs, .inr hc⟩
    · exact (hs.2 b (Nat.ne_of_lt (Nat.lt_of_lt_of_le (Heap.lt_size e) (I.ok.cab x c hfn hc)))).trans (I.base.keep b o e n hb hx)
    · obtain ⟨sl, e1⟩ := I.base.slot b o e n hb hx
      exact ⟨sl, (hs.2 b (Nat.ne_of_lt (Nat.lt_of_lt_of_le (Heap.lt_size e) (I.ok.cab x c hfn hc)))).trans e1⟩
    · obtain ⟨o', e1⟩ := I.base.there b o e hx
      exact ⟨o', (hs.2 b (Nat.ne_of_lt (Nat.lt_of_lt_of_le (Heap.lt_size e) (I.ok.cab x c hfn hc)))).trans e1⟩
    · by_cases hj : j = i
      · subst hj
        rw [hi] at e1; cases e1
        rw [List.getElem?_set_self hiσ] at e2
        cases e2
        exact ⟨u, r, .inr ⟨.inl hk, c, hc, hc'⟩⟩
      · rw [List.getElem?_set_ne (Ne.symm hj)] at e2
        obtain ⟨u', r', q⟩ := hl j y v' e1 e2 e3
        refine ⟨u', r', ?_⟩
        rcases q with q | ⟨k, c', e, z'⟩
        · exact .inl q
        · refine .inr ⟨k, c', e, z'.sameBut hs ?_⟩
          rintro rfl
          exact hj (nodup_ix hN e1 (I.ok.inj _ _ _ e hc ▸ hi))
    · by_cases hcc : c' = c
      · subst hcc; exact ⟨_, hc'⟩
      · obtain ⟨w2, z2⟩ := I.cell y c' e
        exact ⟨w2, z2.sameBut hs hcc⟩
    · obtain ⟨e, n, ne, nf, d⟩ := I.pin p hp
      refine ⟨(hs.2 p.1 ?_).trans e, n, ne, nf, d⟩
      intro q
      rw [q, hoc] at e
      have q' : oc = p.2 := Option.some.inj e
      exact d w' (by rw [← q']; exact hocd)
theorem store_ok {M : Model} {A : Around} {E : Value → Shared → Prop} {i : Nat} {x : Str} {v : V} {u : Value} {Q : Unit → Shared → Prop} (I : Inv X pins σ H s) (hN : X.N.Nodup) (hi : X.N[i]? = some x) (hx : Loc X.env.scope x) (r : RelV v u)
    (h : ∀ s', Inv X pins (σ.set i (some v)) H s' → Q () s') (hf : X.fn x = true ∨ X.env.scope.names.lookup x = some .local := by first | exact .inl rfl | exact .inr rfl | assumption) : wpAny M A (storeName X.env x u) Q E s :=
  store_ok2 I hN hi hx r (fun s' I' _ => h s' I') hf
theorem Inv.call' {s' : Shared} {ch : List Addr} (I : Inv X pins σ H s) (ho : s'.os = s.os) (u : Un (frs X.stack) ch H H' s.heap s'.heap) (hok : HOk X.prog X.w H' s'.heap) (hg : AllBare s'.gens)
    (hch : ∀ b ∈ ch, (b ∈ X.ex ∨ X.s₀.heap.objs.size ≤ b) ∧ b ≠ X.env.locals ∧ (∀ x c, X.env.cells.lookup x = some c → c ≠ b) ∧ ∀ p ∈ X.pn ++ pins, p.1 ≠ b) : Inv X pins σ H' s' := by
  obtain ⟨h', g', d', t', o'⟩ := s'
  have e : o' = s.os := ho
  subst e
  exact I.call (g' := g') (t' := t') (d' := d') u hok hg hch
end
abbrev XK := Value → Option Addr → Hp → Prop
abbrev St := List (Option V)
abbrev VK := V → Hp → Prop
abbrev TE := St → Hp → VK → Prop
abbrev TT := St → Hp → (Bool → Hp → Prop) → Prop
abbrev TA := St → Hp → (List V → Hp → Prop) → Prop
structure Ends where
  nx : St → Hp → Prop
  rt : VK
  bk : St → Hp → Prop := fun _ _ => False
  ct : St → Hp → Prop := fun _ _ => False
abbrev TS := Ends → St → Hp → Prop
def EP (X : Cx) (pins : List (Addr × Obj)) (σ : St) (Q : VK) (u : Value) (s' : Shared) : Prop := ∃ v H', Inv X pins σ H' s' ∧ RelV v u ∧ Q v H'
def TP (X : Cx) (pins : List (Addr × Obj)) (σ : St) (Q : Bool → Hp → Prop) (b : Bool) (s' : Shared) : Prop := ∃ H', Inv X pins σ H' s' ∧ Q b H'
def AP (X : Cx) (pins : List (Addr × Obj)) (σ : St) (Q : List V → Hp → Prop) (us : List Value) (s' : Shared) : Prop := ∃ vs H', Inv X pins σ H' s' ∧ Vals vs us ∧ Q vs H'
def SP (X : Cx) (pins : List (Addr × Obj)) (D : Ends) (f : Flow) (s' : Shared) : Prop :=
  match f with
  | .next => ∃ σ' H', Inv X pins σ' H' s' ∧ D.nx σ' H'
  | .brk => ∃ σ' H', Inv X pins σ' H' s' ∧ D.bk σ' H'
  | .cont => ∃ σ' H', Inv X pins σ' H' s' ∧ D.ct σ' H'
  | .ret u => ∃ v σ' H', Inv X pins σ' H' s' ∧ RelV v u ∧ D.rt v H'
def PE (X : Cx) (e : Expr) (t : TE) : Prop :=
  ∀ (pins : List (Addr × Obj)) (s : Shared) (σ : St) (H : Hp) (Q : VK), Inv X pins σ H s → t σ H Q → wpAny (model X.prog X.w) X.A (eval e X.env) (EP X pins σ Q) X.xe s
def PT (X : Cx) (e : Expr) (t : TT) : Prop :=
  ∀ (pins : List (Addr × Obj)) (s : Shared) (σ : St) (H : Hp) (Q : Bool → Hp → Prop), Inv X pins σ H s → t σ H Q → wpAny (model X.prog X.w) X.A (isTrue e X.env (eval e X.env)) (TP X pins σ Q) X.xe s
def PW (X : Cx) (e : Expr) (t : TT) : Prop :=
  ∀ (whole : Sem Value) (pins : List (Addr × Obj)) (s : Shared) (σ : St) (H : Hp) (Q : Bool → Hp → Prop), Inv X pins σ H s → t σ H Q → wpAny (model X.prog X.w) X.A (isTrue e X.env whole) (TP X pins σ Q) X.xe s
theorem PW.pt {X : Cx} {e : Expr} {t : TT} (h : PW X e t) : PT X e t := h _
def PA (X : Cx) (es : List Expr) (t : TA) : Prop :=
  ∀ (pos : Pos) (pins : List (Addr × Obj)) (s : Shared) (σ : St) (H : Hp) (Q : List V → Hp → Prop), Inv X pins σ H s → t σ H Q → wpAny (model X.prog X.w) X.A (spliced (backTo pos (starEach es X.env))) (AP X pins σ Q) X.xe s
def PS (X : Cx) (st : Stmt) (t : TS) : Prop :=
  ∀ (pins : List (Addr × Obj)) (s : Shared) (σ : St) (H : Hp) (D : Ends), Inv X pins σ H s → t D σ H → wpAny (model X.prog X.w) X.A (exec st X.env) (SP X pins D) X.xe s
def PSs (X : Cx) (st : List Stmt) (t : TS) : Prop :=
  ∀ (pins : List (Addr × Obj)) (s : Shared) (σ : St) (H : Hp) (D : Ends), Inv X pins σ H s → t D σ H → wpAny (model X.prog X.w) X.A (execs st X.env) (SP X pins D) X.xe s
theorem thn {α : Type} {t : Sem α} {Q Q' : α → Shared → Prop} {M : Model} {A : Around} {E : Value → Shared → Prop} {s : Shared} (h : wpAny M A t Q E s) (hQ : ∀ a s, Q a s → Q' a s) : wpAny M A t Q' E s := wpAny_mono h hQ fun _ _ x => x
end L2
namespace L2
open PySem PySem.Spec PyProof.Rows
section
variable {X : Cx}
def tVar (i : Nat) : TE := fun σ H Q => ∃ v, σ[i]? = some (some v) ∧ Q v H
def tC (v : V) : TE := fun _ H Q => Q v H
theorem pe_var {i : Nat} {x : Str} {pos : Pos} (hN : X.N[i]? = some x) (hv : Vis X.env.scope x) (hd : (x == ("__debug__" : Str)) = false := by decide) (hcd : (x == ("__classdict__" : Str)) = false := by decide) : PE X (.Name x pos) (tVar i) := by
  intro pins s σ H Q I h
  obtain ⟨v, e, h⟩ := h
  obtain ⟨m, hn, hl⟩ := I.loc
  obtain ⟨u, r, l⟩ := hl i x v hN e hv
  have fin : EP X pins σ Q u s := ⟨v, H, I, r, h⟩
  rcases l with ⟨hk, hm⟩ | ⟨hk, c, hc, hcell⟩
  · exact wpAny_Name (wpAny_loadName_local I.ok.kind hk hn hm fin) hd
  · rcases hk with hk | hk
    · exact wpAny_Name (wpAny_loadName_cell I.ok.kind hk hc hcell fin) hd
    · exact wpAny_Name (wpAny_loadName_free I.ok.kind hk hc hcell fin hcd) hd
theorem pe_int {i j pos} : PE X (.Constant (.int i) j pos) (tC (.int i)) := fun _ _ _ H _ I h => wpAny_Constant_int ⟨.int i, H, I.tok _, ⟨_, rfl⟩, h⟩
theorem pe_bl {b j pos} : PE X (.Constant (.bool b) j pos) (tC (.bl b)) := fun _ _ _ H _ I h => Constant_bool ⟨.bl b, H, I, rfl, h⟩
theorem pe_non {j pos} : PE X (.Constant .none j pos) (tC .non) := fun _ _ _ H _ I h => Constant_none ⟨.non, H, I, rfl, h⟩
theorem pe_str {x j pos} : PE X (.Constant (.str x) j pos) (tC (.str x)) := fun _ _ _ H _ I h => Calls.Constant_str ⟨.str x, H, I.tok _, ⟨_, rfl⟩, h⟩
def Gl (X : Cx) (x : Str) : Prop := X.env.kindOf x = some .globalImplicit
theorem ld_glob {E : Value → Shared → Prop} {pins : List (Addr × Obj)} {s : Shared} {σ : St} {H : Hp} {x : Str} {u : Value} {pos : Pos} {Q : Value → Shared → Prop} (I : Inv X pins σ H s) (hg : Gl X x) (hm : X.mg x = some u) (h : Q u s)
    (hd : (x == ("__debug__" : Str)) = false := by decide) : wpAny (model X.prog X.w) X.A (eval (.Name x pos) X.env) Q E s :=
  Calls.Name_function_global I.ok.kind hg (Calls.loadGlobal_global (by rw [I.ok.glob]; exact I.mod.glob.keeps I.bk) hm h) hd
theorem ld_blt {E : Value → Shared → Prop} {pins : List (Addr × Obj)} {s : Shared} {σ : St} {H : Hp} {x : Str} {u : Value} {pos : Pos} {Q : Value → Shared → Prop} (I : Inv X pins σ H s) (hg : Gl X x) (hm : X.mg x = none) (hv : bootBuiltins x = some u) (h : Q u s)
    (hn : x ≠ "__name__" := by decide) (hd : (x == ("__debug__" : Str)) = false := by decide) : wpAny (model X.prog X.w) X.A (eval (.Name x pos) X.env) Q E s := by
  obtain ⟨mb, h1, h2⟩ := I.mod.blt
  exact Calls.Name_function_global I.ok.kind hg (Calls.loadGlobal_builtin (by rw [I.ok.glob]; exact I.mod.glob.keeps I.bk) hm (by rw [I.ok.blt]; exact h1.keeps I.bk) ((h2 x hn).trans hv) h) hd
theorem pe_glob {x : Str} {v : V} {u : Value} {pos : Pos} (hg : Gl X x) (hm : X.mg x = some u) (r : RelV v u) (hd : (x == ("__debug__" : Str)) = false := by decide) : PE X (.Name x pos) (tC v) :=
  fun _ _ _ H _ I h => ld_glob I hg hm ⟨v, H, I, r, h⟩ hd
theorem pe_bltn {x : Str} {v : V} {u : Value} {pos : Pos} (hg : Gl X x) (hm : X.mg x = none) (hv : bootBuiltins x = some u) (r : RelV v u) (hn : x ≠ "__name__" := by decide) (hd : (x == ("__debug__" : Str)) = false := by decide) : PE X (.Name x pos) (tC v) :=
  fun _ _ _ H _ I h => ld_blt I hg hm hv ⟨v, H, I, r, h⟩ hn hd
variable {a b : Expr} {ta tb : TE} {pos : Pos}
variable {tA tB' : TT} {rest : List Expr}
def tAnd (t u : TT) : TT := fun σ H Q => t σ H fun c H1 => if c = true then u σ H1 Q else Q false H1
def tOr (t u : TT) : TT := fun σ H Q => t σ H fun c H1 => if c = true then Q true H1 else u σ H1 Q
def tNot (t : TT) : TT := fun σ H Q => t σ H fun c H1 => Q (!c) H1
theorem pw_or1 (ha : PT X a tA) : PW X (.BoolOp .Or [a] pos) tA := by
  intro wh pins s σ H Q I h
  refine isTrue_or (thn (ha pins s σ H Q I h) fun c s1 e => ?_)
  cases c with
  | false => exact isTrue_or_nil e
  | true => exact e
theorem pw_or (ha : PT X a tA) (hb : PW X (.BoolOp .Or (b :: rest) pos) tB') : PW X (.BoolOp .Or (a :: b :: rest) pos) (tOr tA tB') := by
  intro wh pins s σ H Q I h
  refine isTrue_or (thn (ha pins s σ H _ I h) fun c s1 ⟨H1, I1, q1⟩ => ?_)
  cases c with
  | true => exact ⟨H1, I1, q1⟩
  | false => exact hb wh pins s1 σ H1 Q I1 q1
theorem pt_not (ha : PT X a tA) : PT X (.UnaryOp .Not a pos) (tNot tA) := by
  intro pins s σ H Q I h
  exact isTrue_not (ha pins s σ H (fun c H1 => Q (!c) H1) I h)
def tAndV (ta tb : TE) : TE := fun σ H Q => ta σ H fun x H1 => ∃ c, x = .bl c ∧ if c = true then tb σ H1 Q else Q (.bl false) H1
def tOrV (ta tb : TE) : TE := fun σ H Q => ta σ H fun x H1 => ∃ c, x = .bl c ∧ if c = true then Q (.bl true) H1 else tb σ H1 Q
theorem pe_one {op} {t : TE} (h : PE X a t) : PE X (.BoolOp op [a] pos) t := fun pins s σ H Q I hw => BoolOp_one (h pins s σ H Q I hw)
theorem pe_and (ha : PE X a ta) (hb : PE X (.BoolOp .And (b :: rest) pos) tb) : PE X (.BoolOp .And (a :: b :: rest) pos) (tAndV ta tb) := by
  intro pins s σ H Q I h
  refine BoolOp_and (thn (ha pins s σ H _ I h) fun v s1 ⟨x, H1, I1, r1, q1⟩ => ?_)
  obtain ⟨c, rfl, q1⟩ := q1
  cases r1
  refine wpAny_truthy_bool ?_
  cases c with
  | true => exact hb pins s1 σ H1 Q I1 q1
  | false => exact ⟨.bl false, H1, I1, rfl, q1⟩
theorem pe_or (ha : PE X a ta) (hb : PE X (.BoolOp .Or (b :: rest) pos) tb) : PE X (.BoolOp .Or (a :: b :: rest) pos) (tOrV ta tb) := by
  intro pins s σ H Q I h
  refine BoolOp_or (thn (ha pins s σ H _ I h) fun v s1 ⟨x, H1, I1, r1, q1⟩ => ?_)
  obtain ⟨c, rfl, q1⟩ := q1
  cases r1
  refine wpAny_truthy_bool ?_
  cases c with
  | false => exact hb pins s1 σ H1 Q I1 q1
  | true => exact ⟨.bl true, H1, I1, rfl, q1⟩
def tIf (t : TT) (ta tb : TE) : TE := fun σ H Q => t σ H fun c H1 => if c = true then ta σ H1 Q else tb σ H1 Q
end
end L2
namespace L2
open PySem PySem.Spec PyProof.Rows
def SqL (K : PySem.W.Frag) (H : Hp) (a : Addr) (xs : List V) : Prop :=
  Rd H a (.lst xs) ∨
    ∃ (o : Obj) (its : Array Value) (n : Nat), K.lookup a = some o ∧ o.cls = .type "list" ∧ o.dict = none ∧ o.data = .seq its n ∧ its.size ≤ sizeLine ∧ Vals xs its.toList
def SqT (K : PySem.W.Frag) (H : Hp) (a : Addr) (xs : List V) : Prop :=
  Rd H a (.tup xs) ∨
    ∃ (o : Obj) (its : Array Value) (n : Nat), K.lookup a = some o ∧ o.cls = .type "tuple" ∧ o.data = .seq its n ∧ its.size ≤ sizeLine ∧ Vals xs its.toList
def absV : Value → Option V
  | .none => some .non
  | .bool b => some (.bl b)
  | .int i _ => some (.int i)
  | .str x _ => some (.str x)
  | .bytes b _ => some (.byt b)
  | .float b _ => some (.flt b)
  | .ref a => some (.ref a)
  | .type n => some (.ty n)
  | _ => none
theorem RelV.abs {x : V} {u : Value} (r : RelV x u) : absV u = some x := by
  cases x with
  | non => cases r; rfl
  | bl _ => cases r; rfl
  | int _ => obtain ⟨t, rfl⟩ := r; rfl
  | str _ => obtain ⟨t, rfl⟩ := r; rfl
  | byt _ => obtain ⟨t, rfl⟩ := r; rfl
  | flt _ => obtain ⟨t, rfl⟩ := r; rfl
  | ref _ => cases r; rfl
  | ty _ => cases r; rfl
theorem RelV.inj {x y : V} {u : Value} (r : RelV x u) (q : RelV y u) : x = y := Option.some.inj (r.abs.symm.trans q.abs)
theorem Vals.inj : ∀ {xs ys : List V} {us : List Value}, Vals xs us → Vals ys us → xs = ys
  | _, _, _, .nil, .nil => rfl
  | _, _, _, .cons r t, .cons r' t' => by rw [r.inj r', Vals.inj t t']
section
variable {X : Cx} {pins : List (Addr × Obj)} {σ : St} {H : Hp} {s : Shared} {a : Addr} {xs ys : List V}
theorem SqL.of {K : PySem.W.Frag} (h : H a = some (.lst xs)) : SqL K H a xs := .inl (.inl h)
theorem SqT.of {K : PySem.W.Frag} (h : H a = some (.tup xs)) : SqT K H a xs := .inl (.inl h)
theorem Inv.list (I : Inv X pins σ H s) (h : SqL X.K H a xs) : ∃ its : List Value, Vals xs its ∧ PlainL s.heap a its.toArray ∧ xs.length ≤ sizeLine := by
  rcases h with h | ⟨o, its, n, hk, hc, hd, hs, hz, r⟩
  · obtain ⟨z, its, n, r, e⟩ := h.ok I.hok
    exact ⟨its, r, ⟨_, n, e, rfl, rfl, rfl⟩, z⟩
  · refine ⟨its.toList, r, ⟨o, n, I.kIn a o hk, hc, hd, by simpa using hs⟩, ?_⟩
    have e := r.length
    simp only [Array.length_toList] at e
    omega
theorem Inv.tuple (I : Inv X pins σ H s) (h : SqT X.K H a xs) : ∃ its : List Value, Vals xs its ∧ IsTup s.heap a its.toArray ∧ xs.length ≤ sizeLine := by
  rcases h with h | ⟨o, its, n, hk, hc, hs, hz, r⟩
  · obtain ⟨z, its, r, p⟩ := h.ok I.hok
    exact ⟨its, r, p, z⟩
  · refine ⟨its.toList, r, ⟨o, I.kIn a o hk, hc, n, by simpa using hs⟩, ?_⟩
    have e := r.length
    simp only [Array.length_toList] at e
    omega
theorem Inv.list_inj (I : Inv X pins σ H s) (h : SqL X.K H a xs) (h' : SqL X.K H a ys) : xs = ys := by
  obtain ⟨its, r, ⟨o, n, e, _, _, d⟩, _⟩ := I.list h
  obtain ⟨its', r', ⟨o', n', e', _, _, d'⟩, _⟩ := I.list h'
  rw [e] at e'; cases e'
  rw [d] at d'
  injection d' with d1 _
  have : its = its' := by simpa using congrArg Array.toList d1
  subst this
  exact r.inj r'
theorem Inv.tuple_inj (I : Inv X pins σ H s) (h : SqT X.K H a xs) (h' : SqT X.K H a ys) : xs = ys := by
  obtain ⟨its, r, ⟨o, e, _, n, d⟩, _⟩ := I.tuple h
  obtain ⟨its', r', ⟨o', e', _, n', d'⟩, _⟩ := I.tuple h'
  rw [e] at e'; cases e'
  rw [d] at d'
  injection d' with d1 _
  have : its = its' := by simpa using congrArg Array.toList d1
  subst this
  exact r.inj r'
end
abbrev Cx.wish (X : Cx) (E : Value → Shared → Prop) : Cx := { X with xe := E }
abbrev Cx.nox (X : Cx) : Cx := X.wish fun _ _ => False
theorem Cx.Ok.wish {X : Cx} (ok : X.Ok) (E : Value → Shared → Prop) : (X.wish E).Ok :=
  ⟨ok.mod, ok.kind, ok.glob, ok.blt, ok.above, ok.inj, ok.has, ok.cab, ok.hd, ok.frames, ok.stk, ok.exf, ok.bs, ok.bsz, ok.noex, ok.exfs, ok.funs, ok.frf⟩
theorem Cx.Ok.unwish {X : Cx} {E : Value → Shared → Prop} (ok : (X.wish E).Ok) : X.Ok :=
  ⟨ok.mod, ok.kind, ok.glob, ok.blt, ok.above, ok.inj, ok.has, ok.cab, ok.hd, ok.frames, ok.stk, ok.exf, ok.bs, ok.bsz, ok.noex, ok.exfs, ok.funs, ok.frf⟩
section
variable {X : Cx} {pins : List (Addr × Obj)} {σ : St} {H : Hp} {s : Shared} {E : Value → Shared → Prop}
theorem Inv.wish (I : Inv X pins σ H s) (E : Value → Shared → Prop) : Inv (X.wish E) pins σ H s := ⟨I.ok.wish E, I.os, I.bare, I.base, I.loc, I.cell, I.free, I.freeC, I.pin, I.hok, I.len⟩
theorem Inv.unwish (I : Inv (X.wish E) pins σ H s) : Inv X pins σ H s := ⟨I.ok.unwish, I.os, I.bare, I.base, I.loc, I.cell, I.free, I.freeC, I.pin, I.hok, I.len⟩
theorem SP.unwish {D : Ends} {f : Flow} {s' : Shared} (h : SP (X.wish E) pins D f s') : SP X pins D f s' := by
  cases f with
  | next => obtain ⟨σ', H', I, q⟩ := h; exact ⟨σ', H', I.unwish, q⟩
  | brk => obtain ⟨σ', H', I, q⟩ := h; exact ⟨σ', H', I.unwish, q⟩
  | cont => obtain ⟨σ', H', I, q⟩ := h; exact ⟨σ', H', I.unwish, q⟩
  | ret u => obtain ⟨v, σ', H', I, r, q⟩ := h; exact ⟨v, σ', H', I.unwish, r, q⟩
theorem PE.nox {e : Expr} {t : TE} (h : PE X.nox e t) : PE X e t := fun pins s σ H Q I hw =>
  wpAny_mono (h pins s σ H Q (I.wish _) hw) (fun _ _ ⟨v, H', I', r, q⟩ => ⟨v, H', I'.unwish, r, q⟩) fun _ _ z => False.elim z
theorem PT.nox {e : Expr} {t : TT} (h : PT X.nox e t) : PT X e t := fun pins s σ H Q I hw =>
  wpAny_mono (h pins s σ H Q (I.wish _) hw) (fun _ _ ⟨H', I', q⟩ => ⟨H', I'.unwish, q⟩) fun _ _ z => False.elim z
theorem PSs.nox {st : List Stmt} {t : TS} (h : PSs X.nox st t) : PSs X st t := fun pins s σ H D I hw =>
  wpAny_mono (h pins s σ H D (I.wish _) hw) (fun _ _ q => q.unwish) fun _ _ z => False.elim z
end
section
variable {X : Cx} {st : Stmt} {rest : List Stmt} {t u : TS} {e : Expr} {te : TE} {pos : Pos}
def tNext : TS := fun D σ H => D.nx σ H
def tSeq (t u : TS) : TS := fun D σ H => t { D with nx := u D } σ H
theorem pss_nil : PSs X [] tNext := fun _ _ σ H _ I h => wpAny_execs_nil ⟨σ, H, I, h⟩
theorem pss_cons (h1 : PS X st t) (h2 : PSs X rest u) : PSs X (st :: rest) (tSeq t u) := by
  intro pins s σ H D I h
  refine wpAny_execs_cons (thn (h1 pins s σ H { D with nx := u D } I h) fun f s1 q => ?_)
  cases f with
  | next =>
    obtain ⟨σ', H', I', q⟩ := q
    exact h2 pins s1 σ' H' D I' q
  | ret v => exact q
  | brk => exact q
  | cont => exact q
theorem pss_one (h1 : PS X st t) : PSs X [st] t := by
  intro pins s σ H D I h
  refine wpAny_execs_cons (thn (h1 pins s σ H D I h) fun f s1 q => ?_)
  cases f with
  | next => exact wpAny_execs_nil q
  | ret v => exact q
  | brk => exact q
  | cont => exact q
theorem Inv.quiet {pins : List (Addr × Obj)} {σ : St} {H : Hp} {s : Shared} (I : Inv X pins σ H s) : interactive X.env = false := by simp [interactive, I.ok.kind]
def tDrop (te : TE) : TS := fun D σ H => te σ H fun _ H1 => D.nx σ H1
theorem ps_expr (he : PE X e te) (hs : swapsWith e none pos.line X.env = pure false := by rfl) : PS X (.Expr e pos) (tDrop te) := by
  intro pins s σ H D I h
  exact wpAny_Expr_any (thn (he pins s σ H _ I h) fun v s1 ⟨x, H1, I1, r1, q1⟩ => ⟨σ, H1, I1, q1⟩) I.quiet hs
def tRet (te : TE) : TS := fun D σ H => te σ H D.rt
theorem ps_ret (he : PE X e te) : PS X (.Return (some e) pos) (tRet te) := by
  intro pins s σ H D I h
  exact wpAny_Return_some (thn (he pins s σ H _ I h) fun v s1 ⟨x, H1, I1, r1, q1⟩ => ⟨x, σ, H1, I1, r1, q1⟩)
def tIfS (c : TT) (t u : TS) : TS := fun D σ H => c σ H fun b H1 => if b = true then t D σ H1 else u D σ H1
theorem ps_if {c : Expr} {a b : List Stmt} {tc : TT} (hc : PT X c tc) (ha : PSs X a t) (hb : PSs X b u) : PS X (.If c a b pos) (tIfS tc t u) := by
  intro pins s σ H D I h
  refine wpAny_If (thn (hc pins s σ H _ I h) fun d s1 ⟨H1, I1, q1⟩ => ?_)
  cases d with
  | true => exact ha pins s1 σ H1 D I1 q1
  | false => exact hb pins s1 σ H1 D I1 q1
end
abbrev TG := V → St → Hp → (St → Hp → Prop) → Prop
abbrev TGs := List V → St → Hp → (St → Hp → Prop) → Prop
def PG (X : Cx) (target : Expr) (t : TG) : Prop :=
  ∀ (pins : List (Addr × Obj)) (s : Shared) (σ : St) (H : Hp) (v : V) (u : Value) (Q : St → Hp → Prop), Inv X pins σ H s → RelV v u → t v σ H Q →
    wpAny (model X.prog X.w) X.A (assign target X.env u) (fun _ s' => ∃ σ' H', Inv X pins σ' H' s' ∧ Q σ' H') X.xe s
def PGs (X : Cx) (ts : List Expr) (t : TGs) : Prop :=
  ∀ (pins : List (Addr × Obj)) (s : Shared) (σ : St) (H : Hp) (vs : List V) (us : List Value) (Q : St → Hp → Prop), Inv X pins σ H s → Vals vs us → t vs σ H Q →
    wpAny (model X.prog X.w) X.A (assignInOrder ((assignEach ts X.env).map (·.2)) us) (fun _ s' => ∃ σ' H', Inv X pins σ' H' s' ∧ Q σ' H') X.xe s
abbrev TIp := V → V → Hp → VK → Prop
def PIp (X : Cx) (op : Operator) (t : TIp) : Prop :=
  ∀ (pins : List (Addr × Obj)) (s : Shared) (σ : St) (H : Hp) (x y : V) (v u : Value) (Q : VK), Inv X pins σ H s → RelV x v → RelV y u → t x y H Q →
    wpAny (model X.prog X.w) X.A (inplaceOp op v u) (EP X pins σ Q) X.xe s
section
variable {X : Cx} {pos : Pos}
def gName (i : Nat) : TG := fun v σ H Q => Q (σ.set i (some v)) H
theorem pg_name {i : Nat} {x : Str} (hN : X.N.Nodup) (hi : X.N[i]? = some x) (hx : Loc X.env.scope x) (hf : X.fn x = true ∨ X.env.scope.names.lookup x = some .local := by first | exact .inl rfl | exact .inr rfl | assumption) : PG X (.Name x pos) (gName i) := by
  intro pins s σ H v u Q I r h
  exact wpAny_assign_Name (store_ok I hN hi hx r (fun s' I' => ⟨_, H, I', h⟩) hf)
def gNil : TGs := fun vs σ H Q => vs = [] ∧ Q σ H
def gCons (t : TG) (u : TGs) : TGs := fun vs σ H Q => ∃ v r, vs = v :: r ∧ t v σ H fun σ' H' => u r σ' H' Q
theorem pgs_nil : PGs X [] gNil := by
  intro pins s σ H vs us Q I r h
  obtain ⟨e, h⟩ := h
  subst e
  cases r
  exact assignInOrder_nil ⟨σ, H, I, h⟩
theorem pgs_cons {e : Expr} {es : List Expr} {t : TG} {u : TGs} (h1 : PG X e t) (h2 : PGs X es u)
    (hs : (assignEach (e :: es) X.env).map (·.2) = assign e X.env :: (assignEach es X.env).map (·.2) := by rfl) : PGs X (e :: es) (gCons t u) := by
  intro pins s σ H vs us Q I r h
  obtain ⟨v, vr, e1, h⟩ := h
  subst e1
  cases r with
  | cons r rr =>
    rw [hs]
    refine assignInOrder_cons (thn (h1 pins s σ H _ _ _ I r h) fun _ s1 ⟨σ1, H1, I1, q1⟩ => ?_)
    exact h2 pins s1 σ1 H1 _ _ Q I1 rr q1
def gTup (K : PySem.W.Frag) (n : Nat) (t : TGs) : TG := fun v σ H Q => ∃ a xs, v = .ref a ∧ SqT K H a xs ∧ xs.length = n ∧ t xs σ H Q
theorem pg_tup {es : List Expr} {k : Nat} {t : TGs} {n : Nat} (hc : X.calm = true) (h : PGs X es t)
    (hn : (assignEach es X.env).length = n := by rfl) (hst : (assignEach es X.env).findIdx? (·.1) = none := by rfl) : PG X (.Tuple es k pos) (gTup X.K n t) := by
  intro pins s σ H v u Q I r hw
  obtain ⟨a, xs, e1, hq, hl, hw⟩ := hw
  subst e1
  cases r
  obtain ⟨its, rv, ht, hz⟩ := I.tuple hq
  refine assign_Tuple_tuple (I.ok.hd hc) ht (by simp [hn, ← hl, rv.length]) hst fun h' hx => ?_
  have I1 : Inv X pins σ H { s with heap := h' } := I.kept (t' := s.toks) fun b o e => hx b o (Nat.ne_of_lt (Heap.lt_size e)) e
  exact h pins _ σ H xs _ Q I1 (by simpa using rv) hw
def tAsg (te : TE) (g : TG) : TS := fun D σ H => te σ H fun x H1 => g x σ H1 D.nx
theorem ps_set {i : Nat} {x : Str} {e : Expr} {te : TE} {pos' : Pos} (hN : X.N.Nodup) (hi : X.N[i]? = some x) (hx : Loc X.env.scope x) (he : PE X e te) (hs : swapsWith e (some (.Name x pos')) pos.line X.env = pure false := by rfl) (hf : X.fn x = true ∨ X.env.scope.names.lookup x = some .local := by first | exact .inl rfl | exact .inr rfl | assumption) :
    PS X (.Assign [.Name x pos'] e pos) (tAsg te (gName i)) := by
  intro pins s σ H D I h
  refine wpAny_Assign_Name (thn (he pins s σ H _ I h) fun v s1 ⟨y, H1, I1, r1, q1⟩ => ?_) hs
  exact store_ok I1 hN hi hx r1 (fun s2 I2 => ⟨_, H1, I2, q1⟩) hf
def tPar (i j : Nat) (ta : TA) : TS := fun D σ H => ta σ H fun vs H1 => ∃ v w, vs = [v, w] ∧ D.nx ((σ.set i (some v)).set j (some w)) H1
def tAug (i : Nat) (te : TE) (ti : TIp) : TS := fun D σ H => ∃ x, σ[i]? = some (some x) ∧ te σ H fun y H1 => ti x y H1 fun z H2 => D.nx (σ.set i (some z)) H2
theorem ps_aug {i : Nat} {x : Str} {e : Expr} {te : TE} {op : Operator} {ti : TIp} {pos' : Pos} (hN : X.N.Nodup) (hi : X.N[i]? = some x) (hx : Loc X.env.scope x) (he : PE X e te) (ho : PIp X op ti) (hf : X.fn x = true ∨ X.env.scope.names.lookup x = some .local := by first | exact .inl rfl | exact .inr rfl | assumption) :
    PS X (.AugAssign (.Name x pos') op e pos) (tAug i te ti) := by
  intro pins s σ H D I h
  obtain ⟨v, e1, h⟩ := h
  obtain ⟨m, hn, hl⟩ := I.loc
  have vis : Vis X.env.scope x := by rcases hx with k | k; exact .inl k; exact .inr (.inl k)
  obtain ⟨u, r, l⟩ := hl i x v hi e1 vis
  refine wpAny_AugAssign_Name ?_
  have go : wpAny (model X.prog X.w) X.A (eval e X.env) (fun w s₂ => wpAny (model X.prog X.w) X.A (inplaceOp op u w) (fun r s₃ => wpAny (model X.prog X.w) X.A (storeName X.env x r) (fun _ => SP X pins D .next) X.xe s₃) X.xe s₂) X.xe s := by
    refine thn (he pins s σ H _ I h) fun w s1 ⟨y, H1, I1, r1, q1⟩ => ?_
    refine thn (ho pins s1 σ H1 v y u w _ I1 r r1 q1) fun z s2 ⟨zv, H2, I2, r2, q2⟩ => ?_
    exact store_ok I2 hN hi hx r2 (fun s3 I3 => ⟨_, H2, I3, q2⟩) hf
  rcases l with ⟨hk, hm⟩ | ⟨hk, c, hc, hcell⟩
  · exact wpAny_loadName_local I.ok.kind hk hn hm go
  · rcases hk with hk | hk
    · exact wpAny_loadName_cell I.ok.kind hk hc hcell go
    · rcases hx with k | k
      · have : X.env.scope.names.lookup x = some .free := hk
        rw [k] at this; cases this
      · have : X.env.scope.names.lookup x = some .free := hk
        rw [k] at this; cases this
end
section
variable {X : Cx} {pos : Pos}
def tWhile (c : TT) (tb : TS) : TS := fun D σ H => ∃ W : Nat → St → Hp → Prop, (∃ m, W m σ H) ∧ ∀ m σ H, W m σ H →
  c σ H fun b H1 => if b = true then ∃ N : St → Hp → Prop, (∀ σ' H', N σ' H' → ∃ m', m' < m ∧ W m' σ' H') ∧ tb { D with nx := N, ct := N, bk := D.nx } σ H1 else D.nx σ H1
theorem ps_while {c : Expr} {body : List Stmt} {tc : TT} {tb : TS} (hp : PassesOwn (model X.prog X.w) X.A X.env X.xe) (hc : PT X c tc) (hb : PSs X body tb) : PS X (.While c body [] pos) (tWhile tc tb) := by
  intro pins s σ H D I h
  obtain ⟨W, ⟨m0, w0⟩, turn⟩ := h
  refine wpAny_While (codeAny_whileLoop (fun n s' => ∃ σ' H', Inv X pins σ' H' s' ∧ W n σ' H') ?_ m0 ⟨σ, H, I, w0⟩)
  rintro n s1 ⟨σ1, H1, I1, w1⟩
  refine wpAny_passesOwn hp (thn (hc pins s1 σ1 H1 _ I1 (turn n σ1 H1 w1)) fun b s2 ⟨H2, I2, q2⟩ => ?_)
  cases b with
  | true =>
    obtain ⟨N, hN, q2⟩ := q2
    rw [if_pos rfl]
    refine wpAny_passesOwn hp (thn (hb pins s2 σ1 H2 _ I2 q2) fun f s3 q3 => ?_)
    cases f with
    | next =>
      obtain ⟨σ3, H3, I3, n3⟩ := q3
      obtain ⟨m', hm, w3⟩ := hN σ3 H3 n3
      exact ⟨m', hm, σ3, H3, I3, w3⟩
    | cont =>
      obtain ⟨σ3, H3, I3, n3⟩ := q3
      obtain ⟨m', hm, w3⟩ := hN σ3 H3 n3
      exact ⟨m', hm, σ3, H3, I3, w3⟩
    | brk => exact q3
    | ret v => exact q3
  | false =>
    rw [if_neg Bool.false_ne_true]
    exact wpAny_execs_nil ⟨σ1, H2, I2, q2⟩
end
structure It where
  go : Nat → Hp → Prop
  yld : Nat → Hp → V → Hp → Prop
  stop : Nat → Hp → Prop
def FpOk (X : Cx) (pins : List (Addr × Obj)) (H : Hp) (b : Addr) : Prop :=
  H b = none ∧ b ≠ X.env.locals ∧ b ∉ X.fs ∧ (b ∈ X.ex ∨ X.s₀.heap.objs.size ≤ b) ∧ (∀ x c, X.env.cells.lookup x = some c → c ≠ b) ∧ ∀ p ∈ X.pn ++ pins, p.1 ≠ b
theorem Inv.fpOk {X : Cx} {pins : List (Addr × Obj)} {σ : St} {H H' : Hp} {s : Shared} {b : Addr} (I : Inv X pins σ H s) (hb : s.heap.objs.size ≤ b) (hn : H' b = none) : FpOk X pins H' b := by
  refine ⟨hn, Nat.ne_of_gt (Nat.lt_of_lt_of_le I.lt hb), I.nofs hb, .inr (Nat.le_trans I.sz hb), fun x c e z => ?_, fun p hp z => ?_⟩
  · obtain ⟨v, q⟩ := I.cell x c e
    exact absurd (Nat.lt_of_lt_of_le q.lt (by rw [z]; exact hb)) (Nat.lt_irrefl _)
  · exact absurd (Nat.lt_of_lt_of_le (Heap.lt_size (I.pin p hp).1) (by rw [z]; exact hb)) (Nat.lt_irrefl _)
structure Turn (P : Program) (w : World) (K : PySem.W.Frag) (tg : Expr) (J : It) (fp : List Addr) (it : Addr) (tn : Nat → Heap → Prop) : Prop where
  mem : it ∈ fp
  obj : ∀ i h, tn i h → ∀ b ∈ fp, ∃ o, h.get? b = some o ∧ ∀ v, o.data ≠ .cell v
  keep : ∀ i h h', tn i h → (∀ b ∈ fp, ∀ o, h.get? b = some o → h'.get? b = some o) → tn i h'
  item : ∀ (X : Cx), X.prog = P → X.w = w → X.K = K → X.calm = true → ∀ (i : Nat) (pins : List (Addr × Obj)) (s : Shared) (σ : St) (H : Hp) (E : Value → Shared → Prop), Inv X pins σ H s → (∀ b ∈ fp, FpOk X pins H b) → tn i s.heap → J.go i H →
    wpAny (model P w) X.A (pyNext (.ref it)) (fun r s1 => ∃ u, r = some u ∧
      wpAny (model P w) X.A (letOwnedTupleGo tg (.ref it) u) (fun _ s2 => ∃ x H', Inv X pins σ H' s2 ∧ RelV x u ∧ J.yld i H x H' ∧ tn (i + 1) s2.heap ∧ ∀ b ∈ fp, H' b = none) E s1) E s
  done : ∀ (X : Cx), X.prog = P → X.w = w → X.K = K → X.calm = true → ∀ (i : Nat) (pins : List (Addr × Obj)) (s : Shared) (σ : St) (H : Hp) (E : Value → Shared → Prop), Inv X pins σ H s → (∀ b ∈ fp, FpOk X pins H b) → tn i s.heap → J.stop i H →
    wpAny (model P w) X.A (pyNext (.ref it)) (fun r s1 => r = none ∧ Inv X pins σ H s1) E s
  self : ∀ (A : Around) (i : Nat) (s : Shared) (Q : Value → Shared → Prop) (E : Value → Shared → Prop), tn i s.heap → Q (.ref it) s → wpAny (model P w) A (pyIter (.ref it)) Q E s
abbrev TI := St → Hp → (It → Hp → Prop) → Prop
def PIE (X : Cx) (pins : List (Addr × Obj)) (σ : St) (tg : Expr) (R : It → Hp → Prop) (itv : Value) (s2 : Shared) : Prop :=
  ∃ (it : Addr) (fp : List Addr) (tn : Nat → Heap → Prop) (J : It) (H' : Hp), itv = .ref it ∧ Inv X pins σ H' s2 ∧ Turn X.prog X.w X.K tg J fp it tn ∧ tn 0 s2.heap ∧ (∀ b ∈ fp, FpOk X pins H' b) ∧ R J H'
def PI (X : Cx) (tg iter : Expr) (wi : TI) : Prop :=
  ∀ (pins : List (Addr × Obj)) (s : Shared) (σ : St) (H : Hp) (R : It → Hp → Prop), Inv X pins σ H s → wi σ H R →
    wpAny (model X.prog X.w) X.A (eval iter X.env) (fun v s1 => wpAny (model X.prog X.w) X.A (pyIter v) (PIE X pins σ tg R) X.xe s1) X.xe s
theorem go_of {M : Model} {A : Around} {E : Value → Shared → Prop} {s : Shared} {tg : Expr} {it : Addr} {u : Value} {o : Obj} {n : String} {vs : Array Value} {Q : Unit → Shared → Prop} (ho : s.heap.get? it = some o) (hc : o.cls = .type n) (hd : o.data = .fields vs)
    (hn : ["enumerate", "zip", "dict_itemiterator", "dict_reverseitemiterator", "odict_iterator", "itertools.zip_longest", "itertools.pairwise"].contains n = false) (hQ : Q () s) : wpAny M A (letOwnedTupleGo tg (.ref it) u) Q E s := by
  unfold letOwnedTupleGo
  cases tg <;> first
    | exact wpAny_pure hQ
    | (cases u <;> first
        | exact wpAny_pure hQ
        | (refine wpAny_bind (wpAny_load ho ?_)
           rw [hc, hd]
           show wpAny M A (if (["enumerate", "zip", "dict_itemiterator", "dict_reverseitemiterator", "odict_iterator", "itertools.zip_longest", "itertools.pairwise"].contains n && vs[0]? == some (rawInt _)) = true then _ else _) Q E s
           rw [if_neg (by intro h; rw [hn, Bool.false_and] at h; cases h)]
           exact wpAny_pure hQ))
def Itl (K : PySem.W.Frag) (a : Addr) : It :=
  ⟨fun i H => ∃ xs x, SqL K H a xs ∧ xs[i]? = some x, fun i H x H' => H' = H ∧ ∀ xs, SqL K H a xs → xs[i]? = some x, fun i H => ∃ xs, SqL K H a xs ∧ xs.length ≤ i⟩
def Itt (K : PySem.W.Frag) (a : Addr) : It :=
  ⟨fun i H => ∃ xs x, SqT K H a xs ∧ xs[i]? = some x, fun i H x H' => H' = H ∧ ∀ xs, SqT K H a xs → xs[i]? = some x, fun i H => ∃ xs, SqT K H a xs ∧ xs.length ≤ i⟩
def Itr (lo : Int) (n : Nat) : It := ⟨fun i _ => i < n, fun i H x H' => H' = H ∧ x = .int (lo + i), fun i _ => n ≤ i⟩
theorem turn_list {P : Program} {w : World} {K : PySem.W.Frag} {tg : Expr} (a it : Addr) : Turn P w K tg (Itl K a) [it] it (fun i h => h.IsListIter it a i) where
  mem := by simp
  obj := fun i h st b hb => by
    have e : b = it := by simpa using hb
    subst e
    obtain ⟨o, e, c, d⟩ := st
    exact ⟨o, e, fun v z => by rw [d] at z; cases z⟩
  keep := fun i h h' st k => st.at fun o e => k it (by simp) o e
  item := by
    intro X hP hw hK hc i pins s σ H E I hf st hg
    subst hP hw hK
    obtain ⟨xs, x, hq, hx⟩ := hg
    obtain ⟨its, rv, p, hz⟩ := I.list hq
    obtain ⟨u, hu, ru⟩ := rv.get hx
    obtain ⟨f0, f1, f2, f3, f4, f5⟩ := hf it (by simp)
    refine wpAny_pyNext_list_item st p.isList (x := u) (by simpa using hu) fun h' st' sb => ?_
    have I1 : Inv X pins σ H { s with heap := h' } := I.turned (t' := s.toks) (fun b o hb e => (sb.2 b hb).trans e) f0 f1 f3 f4 f5
    obtain ⟨o, e, c, d⟩ := id st'
    exact ⟨u, rfl, go_of (s := { s with heap := h' }) e c d (by decide) ⟨x, H, I1, ru, ⟨rfl, fun ys hy => by rw [I.list_inj hy hq]; exact hx⟩, st', fun b hb => (hf b hb).1⟩⟩
  done := by
    intro X hP hw hK hc i pins s σ H E I hf st hg
    subst hP hw hK
    obtain ⟨xs, hq, hx⟩ := hg
    obtain ⟨its, rv, p, hz⟩ := I.list hq
    obtain ⟨f0, f1, f2, f3, f4, f5⟩ := hf it (by simp)
    have hl := rv.length
    exact wpAny_pyNext_list_end (I.ok.hd hc) st p.isList (by simp; omega) fun h' eb => ⟨rfl, I.turned (t' := s.toks) (fun b o hb e => eb b o hb e) f0 f1 f3 f4 f5⟩
  self := fun _ _ _ _ _ st h => wpAny_pyIter_listiter st h
theorem turn_tuple {P : Program} {w : World} {K : PySem.W.Frag} {tg : Expr} (a it : Addr) : Turn P w K tg (Itt K a) [it] it (fun i h => h.IsTupleIter it a i) where
  mem := by simp
  obj := fun i h st b hb => by
    have e : b = it := by simpa using hb
    subst e
    obtain ⟨o, e, c, d⟩ := st
    exact ⟨o, e, fun v z => by rw [d] at z; cases z⟩
  keep := fun i h h' st k => st.at fun o e => k it (by simp) o e
  item := by
    intro X hP hw hK hc i pins s σ H E I hf st hg
    subst hP hw hK
    obtain ⟨xs, x, hq, hx⟩ := hg
    obtain ⟨its, rv, p, hz⟩ := I.tuple hq
    obtain ⟨u, hu, ru⟩ := rv.get hx
    obtain ⟨f0, f1, f2, f3, f4, f5⟩ := hf it (by simp)
    refine wpAny_pyNext_tuple_item st (show s.heap.IsTuple a its.toArray from p) (x := u) (by simpa using hu) fun h' st' sb => ?_
    have I1 : Inv X pins σ H { s with heap := h' } := I.turned (t' := s.toks) (fun b o hb e => (sb.2 b hb).trans e) f0 f1 f3 f4 f5
    obtain ⟨o, e, c, d⟩ := id st'
    exact ⟨u, rfl, go_of (s := { s with heap := h' }) e c d (by decide) ⟨x, H, I1, ru, ⟨rfl, fun ys hy => by rw [I.tuple_inj hy hq]; exact hx⟩, st', fun b hb => (hf b hb).1⟩⟩
  done := by
    intro X hP hw hK hc i pins s σ H E I hf st hg
    subst hP hw hK
    obtain ⟨xs, hq, hx⟩ := hg
    obtain ⟨its, rv, p, hz⟩ := I.tuple hq
    obtain ⟨f0, f1, f2, f3, f4, f5⟩ := hf it (by simp)
    have hl := rv.length
    exact wpAny_pyNext_tuple_end (I.ok.hd hc) st (show s.heap.IsTuple a its.toArray from p) (by simp; omega) fun h' eb => ⟨rfl, I.turned (t' := s.toks) (fun b o hb e => eb b o hb e) f0 f1 f3 f4 f5⟩
  self := fun _ _ _ _ _ st h => wpAny_pyIter_tupleiter st h
theorem turn_range {P : Program} {w : World} {K : PySem.W.Frag} {tg : Expr} (it : Addr) (lo : Int) (n : Nat) : Turn P w K tg (Itr lo n) [it] it (fun i h => IsRangeIter h it (lo + (i : Nat) * 1) ((n : Int) - (i : Nat)) 1) where
  mem := by simp
  obj := fun i h st b hb => by
    have e : b = it := by simpa using hb
    subst e
    exact ⟨_, st, fun v z => by
      have z' : Data.fields _ = Data.cell v := z
      cases z'⟩
  keep := fun i h h' st k => k it (by simp) _ st
  item := by
    intro X hP hw hK hc i pins s σ H E I hf st hg
    subst hP hw hK
    obtain ⟨f0, f1, f2, f3, f4, f5⟩ := hf it (by simp)
    have W := Walks.range (prog := X.prog) (w := X.w) (I.ok.hd hc) it lo 1 n
    refine W.item i s _ _ hg st fun v h' tk hv st' kk => ?_
    obtain ⟨t, rfl⟩ := hv
    have I1 : Inv X pins σ H { s with heap := h', toks := tk } := I.turned (fun b o hb e => kk b o (by simpa using hb) e) f0 f1 f3 f4 f5
    refine ⟨_, rfl, go_of (s := { s with heap := h', toks := tk }) (n := "range_iterator") st' rfl rfl (by decide) ⟨.int (lo + i), H, I1, ⟨t, ?_⟩, ⟨rfl, rfl⟩, st', fun b hb => (hf b hb).1⟩⟩
    rw [Int.mul_one]
  done := by
    intro X hP hw hK hc i pins s σ H E I hf st hg
    subst hP hw hK
    obtain ⟨f0, f1, f2, f3, f4, f5⟩ := hf it (by simp)
    exact wpAny_pyNext_range_end (I.ok.hd hc) st (by have : n ≤ i := hg; omega) fun h' eb => ⟨rfl, I.turned (t' := s.toks) (fun b o hb e => eb b o hb e) f0 f1 f3 f4 f5⟩
  self := fun _ _ _ _ _ st h => wpAny_pyIter_rangeiter st h
end L2
namespace L2
open PySem PySem.Spec PyProof.Rows
section
variable {X : Cx} {tg : Expr}
def iList (K : PySem.W.Frag) (tl : TE) : TI := fun σ H R => tl σ H fun x H1 => ∃ a, x = .ref a ∧ (∃ xs, SqL K H1 a xs) ∧ R (Itl K a) H1
def iTup (K : PySem.W.Frag) (tl : TE) : TI := fun σ H R => tl σ H fun x H1 => ∃ a, x = .ref a ∧ (∃ xs, SqT K H1 a xs) ∧ R (Itt K a) H1
theorem pi_tup {l : Expr} {tl : TE} (hl : PE X l tl) : PI X tg l (iTup X.K tl) := by
  intro pins s σ H R I h
  refine thn (hl pins s σ H _ I h) fun v s1 ⟨x, H1, I1, r1, q1⟩ => ?_
  obtain ⟨a, e, ⟨xs, hq⟩, q⟩ := q1
  subst e
  cases r1
  obtain ⟨its, rv, p, hz⟩ := I1.tuple hq
  refine wpAny_pyIter_tuple (show s1.heap.IsTuple a its.toArray from p) ?_
  refine ⟨s1.heap.objs.size, [s1.heap.objs.size], _, _, H1, rfl, I1.kept (t' := s1.toks) fun b o e => Heap.get?_push_of_some _ e, turn_tuple a _, ⟨_, Heap.get?_push_size _ rfl, rfl, rfl⟩, fun b hb => ?_, q⟩
  have e : b = s1.heap.objs.size := by simpa using hb
  subst e
  exact I1.fpOk (Nat.le_refl _) (I1.hok.fresh (Nat.le_refl _))
theorem range_it {pins : List (Addr × Obj)} {σ : St} {H : Hp} {s : Shared} {R : It → Hp → Prop} {E : Value → Shared → Prop} {lo hi : Int} {t u v : Tok} {tk : Nat} (I : Inv X pins σ H s) (h1 : -(2 ^ 62) ≤ lo) (h2 : lo < 2 ^ 62) (h3 : -(2 ^ 62) ≤ hi) (h4 : hi < 2 ^ 62)
    (q : R (Itr lo (hi - lo).toNat) H) : wpAny (model X.prog X.w) X.A (pyIter (.ref s.heap.objs.size)) (PIE X pins σ tg R) E { s with heap := s.heap.push { cls := .type "range", data := .fields #[.int lo t, .int hi u, .int 1 v] }, toks := tk } := by
  refine wpAny_pyIter_range (IsRange.new ..) (small_one h1 h2 h3 h4) ?_
  have I1 : Inv X pins σ H { s with heap := s.heap.push { cls := .type "range", data := .fields #[.int lo t, .int hi u, .int 1 v] }, toks := tk } := I.kept fun b o e => Heap.get?_push_of_some _ e
  refine ⟨(s.heap.push { cls := .type "range", data := .fields #[.int lo t, .int hi u, .int 1 v] }).objs.size, [(s.heap.push { cls := .type "range", data := .fields #[.int lo t, .int hi u, .int 1 v] }).objs.size], _, _, H, rfl,
    I1.kept (t' := tk) fun b o e => Heap.get?_push_of_some _ e, turn_range _ lo (hi - lo).toNat, ?_, fun b hb => ?_, q⟩
  · have e1 : lo + ((0 : Nat) : Int) * 1 = lo := by simp
    have e2 : (((hi - lo).toNat : Nat) : Int) - ((0 : Nat) : Int) = Builtin.Range.rangeSize lo hi 1 := by rw [rangeSize_one]; split <;> omega
    show IsRangeIter _ _ (lo + ((0 : Nat) : Int) * 1) ((((hi - lo).toNat : Nat) : Int) - ((0 : Nat) : Int)) 1
    rw [e1, e2]
    exact Heap.get?_push_size _ rfl
  · have e : b = (s.heap.push { cls := .type "range", data := .fields #[.int lo t, .int hi u, .int 1 v] }).objs.size := by simpa using hb
    subst e
    exact I1.fpOk (Nat.le_refl _) (I1.hok.fresh (Nat.le_refl _))
def iRng1 (ta : TA) : TI := fun σ H R => ta σ H fun vs H1 => ∃ j : Int, vs = [.int j] ∧ -(2 ^ 62) ≤ j ∧ j < 2 ^ 62 ∧ R (Itr 0 j.toNat) H1
def iRng2 (ta : TA) : TI := fun σ H R => ta σ H fun vs H1 => ∃ i j : Int, vs = [.int i, .int j] ∧ (-(2 ^ 62) ≤ i ∧ i < 2 ^ 62 ∧ -(2 ^ 62) ≤ j ∧ j < 2 ^ 62) ∧ R (Itr i (j - i).toNat) H1
theorem pi_range1 {a : Expr} {ta : TA} {p pos : Pos} (hg : Gl X "range") (hm : X.mg "range" = none) (ha : PA X [a] ta) (hs : starEach [a] X.env = [(false, eval a X.env)] := by rfl) : PI X tg (.Call (.Name "range" p) [a] [] pos) (iRng1 ta) := by
  intro pins s σ H R I h
  refine Call_ (ld_blt I hg hm boot_range (PyProof.Rows.callWith_type1 (thn (ha pos pins s σ H _ I h) fun us s1 ⟨vs, H1, I1, r1, q1⟩ => ?_) hs rfl))
  obtain ⟨j, e, q1, q2, q⟩ := q1
  subst e
  cases r1 with
  | cons r rr =>
    cases rr
    obtain ⟨t, rfl⟩ := r
    exact call_range_1 (range_it I1 (by omega) (by omega) q1 q2 (by simpa using q))
def tFor (wi : TI) (g : TG) (tb : TS) : TS := fun D σ H => wi σ H fun J H1 => ∃ W : Nat → Nat → St → Hp → Prop, (∃ m, W 0 m σ H1) ∧ ∀ i m σ H, W i m σ H →
  (J.stop i H ∧ D.nx σ H) ∨ (J.go i H ∧ ∃ N : St → Hp → Prop, (∀ σ' H', N σ' H' → ∃ m', m' < m ∧ W (i + 1) m' σ' H') ∧ ∀ x H', J.yld i H x H' → g x σ H' fun σ2 H2 => tb { D with nx := N, ct := N, bk := D.nx } σ2 H2)
def pinsAt (fp : List Addr) (h : Heap) : List (Addr × Obj) := fp.filterMap fun b => (h.get? b).map fun o => (b, o)
theorem mem_pinsAt {fp : List Addr} {h : Heap} {b : Addr} {o : Obj} (hb : b ∈ fp) (e : h.get? b = some o) : (b, o) ∈ pinsAt fp h := List.mem_filterMap.mpr ⟨b, hb, by rw [e]; rfl⟩
theorem of_pinsAt {fp : List Addr} {h : Heap} {p : Addr × Obj} (hp : p ∈ pinsAt fp h) : p.1 ∈ fp ∧ h.get? p.1 = some p.2 := by
  obtain ⟨b, hb, e⟩ := List.mem_filterMap.mp hp
  cases q : h.get? b with
  | none => rw [q] at e; cases e
  | some o =>
    rw [q] at e
    have e' : (b, o) = p := Option.some.inj e
    subst e'
    exact ⟨hb, q⟩
theorem Inv.pinned {pins : List (Addr × Obj)} {σ : St} {H : Hp} {s : Shared} {fp : List Addr} (I : Inv X pins σ H s) (hf : ∀ b ∈ fp, FpOk X pins H b) (ho : ∀ b ∈ fp, ∃ o, s.heap.get? b = some o ∧ ∀ v, o.data ≠ .cell v) : Inv X (pins ++ pinsAt fp s.heap) σ H s :=
  I.pins_of fun p hp => (List.mem_append.mp hp).elim (fun z => I.pin p (List.mem_append_right _ z)) fun z => by
    obtain ⟨hb, e⟩ := of_pinsAt z
    obtain ⟨f0, f1, f2, _⟩ := hf p.1 hb
    obtain ⟨o, e', d⟩ := ho p.1 hb
    rw [e] at e'; cases e'
    exact ⟨e, f0, f1, f2, d⟩
theorem Inv.unpinned {pins pl : List (Addr × Obj)} {σ : St} {H : Hp} {s : Shared} (I : Inv X (pins ++ pl) σ H s) : Inv X pins σ H s := I.pins_of fun p hp => I.pin p (List.mem_append_right _ (List.mem_append_left _ hp))
theorem ps_for {iter : Expr} {body : List Stmt} {wi : TI} {g : TG} {tb : TS} {pos : Pos} (hp : PassesOwn (model X.prog X.w) X.A X.env X.xe) (hc : X.calm = true) (hi : PI X tg iter wi) (hg : PG X tg g) (hb : PSs X body tb)
    (hs : ∀ x, foldedSetIterable iter X.env x = pure x := by intro _; rfl) : PS X (.For tg iter body [] pos) (tFor wi g tb) := by
  intro pins s σ H D I h
  refine wpAny_For (thn (hi pins s σ H _ I h) fun v s1 h1 => thn h1 fun itv s2 h2 => ?_) hs
  obtain ⟨it, fp, tn, J, H2, e, I2, T, st2, f2, W, ⟨m0, w0⟩, turn⟩ := h2
  subst e
  have stat : ∀ {H' : Hp}, (∀ b ∈ fp, H' b = none) → ∀ b ∈ fp, FpOk X pins H' b := fun hn b hb => ⟨hn b hb, (f2 b hb).2⟩
  refine codeAny_forLoop_any (fun n s' => ∃ i σ' H', Inv X pins σ' H' s' ∧ tn i s'.heap ∧ (∀ b ∈ fp, H' b = none) ∧ W i n σ' H') ?_ m0 ⟨0, σ, H2, I2, st2, fun b hb => (f2 b hb).1, w0⟩
  rintro n s3 ⟨i, σ3, H3, I3, st3, fr3, w3⟩
  rcases turn i n σ3 H3 w3 with ⟨stop, qn⟩ | ⟨go, N, hN, step⟩
  · refine wpAny_passesOwn hp (thn (T.done X rfl rfl rfl hc i pins s3 σ3 H3 X.xe I3 (stat fr3) st3 stop) fun r s4 ⟨hr, I4⟩ => ?_)
    subst hr
    exact wpAny_execs_nil ⟨σ3, H3, I4, qn⟩
  · refine wpAny_passesOwn hp (thn (T.item X rfl rfl rfl hc i pins s3 σ3 H3 X.xe I3 (stat fr3) st3 go) fun r s4 ⟨u, hr, h4⟩ => ?_)
    subst hr
    refine wpAny_passesOwn hp (thn h4 fun _ s5 ⟨x, H5, I5, r5, y5, st5, fr5⟩ => ?_)
    have I5' := I5.pinned (stat fr5) (T.obj _ _ st5)
    refine wpAny_passesOwn hp (thn (hg _ s5 σ3 H5 x u _ I5' r5 (step x H5 y5)) fun _ s6 ⟨σ6, H6, I6, q6⟩ => ?_)
    refine wpAny_passesOwn hp (thn (hb _ s6 σ6 H6 _ I6 q6) fun f s7 q7 => ?_)
    have again : ∀ {σ7 : St} {H7 : Hp}, Inv X (pins ++ pinsAt fp s5.heap) σ7 H7 s7 → N σ7 H7 → ∃ m, m < n ∧ ∃ i σ' H', Inv X pins σ' H' s7 ∧ tn i s7.heap ∧ (∀ b ∈ fp, H' b = none) ∧ W i m σ' H' := fun {σ7 H7} I7 n7 => by
      obtain ⟨m', hm, w7⟩ := hN σ7 H7 n7
      refine ⟨m', hm, i + 1, σ7, H7, I7.unpinned, T.keep _ _ _ st5 fun b hb o e => (I7.pin (b, o) (List.mem_append_right _ (List.mem_append_right _ (mem_pinsAt hb e)))).1, fun b hb => ?_, w7⟩
      obtain ⟨o, e, d⟩ := T.obj _ _ st5 b hb
      exact (I7.pin (b, o) (List.mem_append_right _ (List.mem_append_right _ (mem_pinsAt hb e)))).2.1
    cases f with
    | next => obtain ⟨σ7, H7, I7, n7⟩ := q7; exact again I7 n7
    | cont => obtain ⟨σ7, H7, I7, n7⟩ := q7; exact again I7 n7
    | brk => obtain ⟨σ7, H7, I7, q7⟩ := q7; exact ⟨σ7, H7, I7.unpinned, q7⟩
    | ret v => obtain ⟨x7, σ7, H7, I7, r7, q7⟩ := q7; exact ⟨x7, σ7, H7, I7.unpinned, r7, q7⟩
end
end L2
namespace L2
open PySem PySem.Spec PyProof.Rows
abbrev R2 := V → V → Hp → VK → Prop
def OpR (X : Cx) (f : Value → Value → Sem Value) (r : R2) : Prop :=
  ∀ (pins : List (Addr × Obj)) (s : Shared) (σ : St) (H : Hp) (x y : V) (v u : Value) (Q : VK), Inv X pins σ H s → RelV x v → RelV y u → r x y H Q →
    wpAny (model X.prog X.w) X.A (f v u) (EP X pins σ Q) X.xe s
def UnR (X : Cx) (f : Value → Sem Value) (r : V → Hp → VK → Prop) : Prop :=
  ∀ (pins : List (Addr × Obj)) (s : Shared) (σ : St) (H : Hp) (x : V) (v : Value) (Q : VK), Inv X pins σ H s → RelV x v → r x H Q →
    wpAny (model X.prog X.w) X.A (f v) (EP X pins σ Q) X.xe s
def CallR (X : Cx) (f : Value) (r : List V → Hp → VK → Prop) : Prop :=
  ∀ (pins : List (Addr × Obj)) (s : Shared) (σ : St) (H : Hp) (xs : List V) (us : List Value) (Q : VK), Inv X pins σ H s → Vals xs us → r xs H Q →
    wpAny (model X.prog X.w) X.A (call f us) (EP X pins σ Q) X.xe s
def TruR (X : Cx) (r : V → Hp → (Bool → Hp → Prop) → Prop) : Prop :=
  ∀ (pins : List (Addr × Obj)) (s : Shared) (σ : St) (H : Hp) (x : V) (v : Value) (Q : Bool → Hp → Prop), Inv X pins σ H s → RelV x v → r x H Q →
    wpAny (model X.prog X.w) X.A (truthy v) (TP X pins σ Q) X.xe s
def tOp (r : R2) (ta tb : TE) : TE := fun σ H Q => ta σ H fun x H1 => tb σ H1 fun y H2 => r x y H2 Q
def tUn (r : V → Hp → VK → Prop) (ta : TE) : TE := fun σ H Q => ta σ H fun x H1 => r x H1 Q
def rI (C : Int → Int → Prop) (g : Int → Int → V) : R2 := fun x y H Q => ∃ i j, x = .int i ∧ y = .int j ∧ C i j ∧ Q (g i j) H
def rI0 (g : Int → Int → V) : R2 := fun x y H Q => ∃ i j, x = .int i ∧ y = .int j ∧ Q (g i j) H
def rU (g : Int → V) : V → Hp → VK → Prop := fun x H Q => ∃ i, x = .int i ∧ Q (g i) H
section
variable {X : Cx} {a b c : Expr} {ta tb tc : TE} {pos : Pos}
theorem binT (ha : PE X a ta) (hb : PE X b tb) {pins : List (Addr × Obj)} {s : Shared} {σ : St} {H : Hp} {R : V → V → Hp → Prop} (I : Inv X pins σ H s)
    (h : ta σ H fun x H1 => tb σ H1 fun y H2 => R x y H2) {Q : Value → Shared → Prop} {f : Value → Value → Sem Value}
    (hf : ∀ v u s2 x y H2, Inv X pins σ H2 s2 → RelV x v → RelV y u → R x y H2 → wpAny (model X.prog X.w) X.A (f v u) Q X.xe s2) :
    wpAny (model X.prog X.w) X.A (eval a X.env) (fun v s₁ => wpAny (model X.prog X.w) X.A (eval b X.env) (fun u s₂ => wpAny (model X.prog X.w) X.A (f v u) Q X.xe s₂) X.xe s₁) X.xe s := by
  refine thn (ha pins s σ H _ I h) fun v s1 ⟨x, H1, I1, r1, q1⟩ => ?_
  refine thn (hb pins s1 σ H1 _ I1 q1) fun u s2 ⟨y, H2, I2, r2, q2⟩ => ?_
  exact hf v u s2 x y H2 I2 r1 r2 q2
theorem pe_op {op : Operator} {r : R2} (ho : OpR X (binaryOp op) r) (ha : PE X a ta) (hb : PE X b tb) : PE X (.BinOp a op b pos) (tOp r ta tb) := by
  intro pins s σ H Q I h
  exact wpAny_BinOp (binT ha hb I h fun v u s2 x y H2 I2 rx ry q => ho pins s2 σ H2 x y v u Q I2 rx ry q)
theorem pe_un {op : UnaryOp} {r : V → Hp → VK → Prop} (ho : UnR X (unaryOp op) r) (ha : PE X a ta) : PE X (.UnaryOp op a pos) (tUn r ta) := by
  intro pins s σ H Q I h
  exact UnaryOp_ (thn (ha pins s σ H _ I h) fun v s1 ⟨x, H1, I1, r1, q1⟩ => ho pins s1 σ H1 x v Q I1 r1 q1)
theorem opI {f : Value → Value → Sem Value} {C : Int → Int → Prop} {g : Int → Int → Int}
    (rule : ∀ (i j : Int) (t u : Tok) (s : Shared) (Q : Value → Shared → Prop) (E : Value → Shared → Prop), C i j → Q (.int (g i j) s.toks) { s with toks := s.toks + 1 } → wpAny (model X.prog X.w) X.A (f (.int i t) (.int j u)) Q E s) :
    OpR X f (rI C fun i j => .int (g i j)) := by
  intro pins s σ H x y v u Q I rx ry h
  obtain ⟨i, j, rfl, rfl, hc, q⟩ := h
  obtain ⟨t, rfl⟩ := rx
  obtain ⟨t', rfl⟩ := ry
  exact rule i j t t' s _ _ hc ⟨.int (g i j), H, I.tok _, ⟨_, rfl⟩, q⟩
theorem opI0 {f : Value → Value → Sem Value} {g : Int → Int → Int}
    (rule : ∀ (i j : Int) (t u : Tok) (s : Shared) (Q : Value → Shared → Prop) (E : Value → Shared → Prop), Q (.int (g i j) s.toks) { s with toks := s.toks + 1 } → wpAny (model X.prog X.w) X.A (f (.int i t) (.int j u)) Q E s) :
    OpR X f (rI0 fun i j => .int (g i j)) := by
  intro pins s σ H x y v u Q I rx ry h
  obtain ⟨i, j, rfl, rfl, q⟩ := h
  obtain ⟨t, rfl⟩ := rx
  obtain ⟨t', rfl⟩ := ry
  exact rule i j t t' s _ _ ⟨.int (g i j), H, I.tok _, ⟨_, rfl⟩, q⟩
theorem opB0 {f : Value → Value → Sem Value} {g : Int → Int → Bool}
    (rule : ∀ (i j : Int) (t u : Tok) (s : Shared) (Q : Value → Shared → Prop) (E : Value → Shared → Prop), Q (.bool (g i j)) s → wpAny (model X.prog X.w) X.A (f (.int i t) (.int j u)) Q E s) :
    OpR X f (rI0 fun i j => .bl (g i j)) := by
  intro pins s σ H x y v u Q I rx ry h
  obtain ⟨i, j, rfl, rfl, q⟩ := h
  obtain ⟨t, rfl⟩ := rx
  obtain ⟨t', rfl⟩ := ry
  exact rule i j t t' s _ _ ⟨.bl (g i j), H, I, rfl, q⟩
def CDiv (i j : Int) : Prop := 0 < j ∧ j < 1073741824
def CPow (i j : Int) : Prop := 0 ≤ j ∧ j ≤ 1000000 ∧ i.natAbs < 2 ^ 64
def CMul (i j : Int) : Prop := (-(2 ^ 64) < i ∧ i < 2 ^ 64) ∨ (-(2 ^ 64) < j ∧ j < 2 ^ 64)
theorem CMul.ok {i j : Int} (h : CMul i j) : IntMulOk i j := by
  rcases h with ⟨h1, h2⟩ | ⟨h1, h2⟩
  · exact .of_left (intBits_le_64 h1 h2)
  · exact .of_right (intBits_le_64 h1 h2)
theorem op_add : OpR X (binaryOp .Add) (rI0 fun i j => .int (i + j)) := opI0 fun _ _ _ _ _ _ _ q => add_int q
theorem op_sub : OpR X (binaryOp .Sub) (rI0 fun i j => .int (i - j)) := opI0 fun _ _ _ _ _ _ _ q => sub_int q
theorem op_fdiv : OpR X (binaryOp .FloorDiv) (rI CDiv fun i j => .int (i / j)) := opI fun i j _ _ _ _ _ hc q => by
  have h1 : (0 : Int) < j := hc.1
  have h2 : j < 1073741824 := hc.2
  exact floordiv_int (by omega) (by rw [Int.fdiv_eq_ediv_of_nonneg i (by omega)]; exact q) (.inl (PyProof.noPylong_small (by omega)))
theorem op_mod : OpR X (binaryOp .Mod) (rI (fun _ j => 0 < j) fun i j => .int (i % j)) := opI fun i j _ _ _ _ _ hc q => by
  have h1 : (0 : Int) < j := hc
  exact mod_int' (by omega) (by rw [Int.fmod_eq_emod_of_nonneg i (by omega)]; exact q)
theorem op_pow : OpR X (binaryOp .Pow) (rI CPow fun i j => .int (i ^ j.toNat)) := opI fun _ _ _ _ _ _ _ hc q => pow_int_small hc.1 hc.2.1 hc.2.2 q
theorem iop_add : OpR X (inplaceOp .Add) (rI0 fun i j => .int (i + j)) := opI0 fun _ _ _ _ _ _ _ q => iadd_int q
theorem unI {f : Value → Sem Value} {g : Int → Int}
    (rule : ∀ (i : Int) (t : Tok) (s : Shared) (Q : Value → Shared → Prop) (E : Value → Shared → Prop), Q (.int (g i) s.toks) { s with toks := s.toks + 1 } → wpAny (model X.prog X.w) X.A (f (.int i t)) Q E s) :
    UnR X f (rU fun i => .int (g i)) := by
  intro pins s σ H x v Q I rx h
  obtain ⟨i, rfl, q⟩ := h
  obtain ⟨t, rfl⟩ := rx
  exact rule i t s _ _ ⟨.int (g i), H, I.tok _, ⟨_, rfl⟩, q⟩
theorem un_neg : UnR X (unaryOp .USub) (rU fun i => .int (-i)) := unI fun _ _ _ _ _ q => neg_int q
end
def scal : V → V → Bool
  | .non, .non => true | .non, .int _ => true | .int _, .non => true | .non, .bl _ => true | .bl _, .non => true | .non, .str _ => true | .str _, .non => true
  | .int _, .int _ => true | .bl _, .bl _ => true | .str _, .str _ => true | .byt _, .byt _ => true
  | .int _, .str _ => true | .str _, .int _ => true | .bl _, .str _ => true | .str _, .bl _ => true
  | _, _ => false
def rEq : R2 := fun x y H Q => scal x y = true ∧ Q (.bl (decide (x = y))) H
def rNe : R2 := fun x y H Q => scal x y = true ∧ Q (.bl (!decide (x = y))) H
theorem dec_int {i j : Int} : decide (V.int i = V.int j) = (i == j) := by
  rw [Bool.eq_iff_iff]
  simp
theorem dec_bl {i j : Bool} : decide (V.bl i = V.bl j) = (i == j) := by
  rw [Bool.eq_iff_iff]
  simp
theorem dec_str {i j : Str} : decide (V.str i = V.str j) = (i == j) := by
  rw [Bool.eq_iff_iff]
  simp
theorem dec_byt {i j : Array UInt8} : decide (V.byt i = V.byt j) = (i.toList == j.toList) := by
  rw [Bool.eq_iff_iff]
  cases i
  cases j
  simp
section
variable {X : Cx} {a b c : Expr} {ta tb tc : TE} {pos : Pos}
theorem fin_bl {pins : List (Addr × Obj)} {σ : St} {H : Hp} {s : Shared} {Q : VK} {k k' : Bool} (I : Inv X pins σ H s) (q : Q (.bl k) H) (e : k = k') : EP X pins σ Q (.bool k') s := by
  subst e
  exact ⟨.bl k, H, I, rfl, q⟩
theorem op_eq : OpR X (compareOp .Eq) rEq := by
  intro pins s σ H x y v u Q I rx ry h
  obtain ⟨hs, q⟩ := h
  cases x with
  | non =>
    cases rx
    cases y with
    | non => cases ry; exact PySem.EqNone.eq_none_none (fin_bl I q (by simp))
    | bl j => cases ry; exact PySem.EqNone.eq_none_bool (fin_bl I q (by simp))
    | int j => obtain ⟨t', rfl⟩ := ry; exact PySem.EqNone.eq_none_int (fin_bl I q (by simp))
    | str j => obtain ⟨t', rfl⟩ := ry; exact PySem.EqNone.eq_none_str (fin_bl I q (by simp))
    | _ => exact absurd (show false = true from hs) Bool.false_ne_true
  | bl i =>
    cases rx
    cases y with
    | non => cases ry; exact PySem.EqNone.eq_bool_none (fin_bl I q (by simp))
    | bl j => cases ry; exact eq_bool (fin_bl I q dec_bl)
    | str j => obtain ⟨t', rfl⟩ := ry; exact PySem.EqMixed.eq_bool_str (fin_bl I q (by simp))
    | _ => exact absurd (show false = true from hs) Bool.false_ne_true
  | int i =>
    obtain ⟨t, rfl⟩ := rx
    cases y with
    | non => cases ry; exact PySem.EqNone.eq_int_none (fin_bl I q (by simp))
    | int j => obtain ⟨t', rfl⟩ := ry; exact eq_int (fin_bl I q dec_int)
    | str j => obtain ⟨t', rfl⟩ := ry; exact PySem.EqMixed.eq_int_str (fin_bl I q (by simp))
    | _ => exact absurd (show false = true from hs) Bool.false_ne_true
  | str i =>
    obtain ⟨t, rfl⟩ := rx
    cases y with
    | non => cases ry; exact PySem.EqNone.eq_str_none (fin_bl I q (by simp))
    | bl j => cases ry; exact PySem.EqMixed.eq_str_bool (fin_bl I q (by simp))
    | int j => obtain ⟨t', rfl⟩ := ry; exact PySem.EqMixed.eq_str_int (fin_bl I q (by simp))
    | str j => obtain ⟨t', rfl⟩ := ry; exact eq_str (fin_bl I q dec_str)
    | _ => exact absurd (show false = true from hs) Bool.false_ne_true
  | byt i =>
    obtain ⟨t, rfl⟩ := rx
    cases y with
    | byt j => obtain ⟨t', rfl⟩ := ry; exact PySem.W.eq_bytes (fin_bl I q dec_byt)
    | _ => exact absurd (show false = true from hs) Bool.false_ne_true
  | _ => cases y <;> exact absurd (show false = true from hs) Bool.false_ne_true
theorem op_ne : OpR X (compareOp .NotEq) rNe := by
  intro pins s σ H x y v u Q I rx ry h
  obtain ⟨hs, q⟩ := h
  cases x with
  | non =>
    cases rx
    cases y with
    | non => cases ry; exact PySem.EqNone.ne_none_none (fin_bl I q (by simp))
    | bl j => cases ry; exact PySem.EqNone.ne_none_bool (fin_bl I q (by simp))
    | int j => obtain ⟨t', rfl⟩ := ry; exact PySem.EqNone.ne_none_int (fin_bl I q (by simp))
    | str j => obtain ⟨t', rfl⟩ := ry; exact PySem.EqNone.ne_none_str (fin_bl I q (by simp))
    | _ => exact absurd (show false = true from hs) Bool.false_ne_true
  | bl i =>
    cases rx
    cases y with
    | non => cases ry; exact PySem.EqNone.ne_bool_none (fin_bl I q (by simp))
    | bl j => cases ry; exact ne_bool (fin_bl I q (congrArg not dec_bl))
    | str j => obtain ⟨t', rfl⟩ := ry; exact PySem.EqMixed.ne_bool_str (fin_bl I q (by simp))
    | _ => exact absurd (show false = true from hs) Bool.false_ne_true
  | int i =>
    obtain ⟨t, rfl⟩ := rx
    cases y with
    | non => cases ry; exact PySem.EqNone.ne_int_none (fin_bl I q (by simp))
    | int j => obtain ⟨t', rfl⟩ := ry; exact ne_int (fin_bl I q (congrArg not dec_int))
    | str j => obtain ⟨t', rfl⟩ := ry; exact PySem.EqMixed.ne_int_str (fin_bl I q (by simp))
    | _ => exact absurd (show false = true from hs) Bool.false_ne_true
  | str i =>
    obtain ⟨t, rfl⟩ := rx
    cases y with
    | non => cases ry; exact PySem.EqNone.ne_str_none (fin_bl I q (by simp))
    | bl j => cases ry; exact PySem.EqMixed.ne_str_bool (fin_bl I q (by simp))
    | int j => obtain ⟨t', rfl⟩ := ry; exact PySem.EqMixed.ne_str_int (fin_bl I q (by simp))
    | str j => obtain ⟨t', rfl⟩ := ry; exact ne_str (fin_bl I q (congrArg not dec_str))
    | _ => exact absurd (show false = true from hs) Bool.false_ne_true
  | byt i =>
    obtain ⟨t, rfl⟩ := rx
    cases y with
    | byt j => obtain ⟨t', rfl⟩ := ry; exact PySem.W.ne_bytes (fin_bl I q (congrArg not dec_byt))
    | _ => exact absurd (show false = true from hs) Bool.false_ne_true
  | _ => cases y <;> exact absurd (show false = true from hs) Bool.false_ne_true
theorem op_lt : OpR X (compareOp .Lt) (rI0 fun i j => .bl (decide (i < j))) := opB0 fun _ _ _ _ _ _ _ q => lt_int q
theorem op_le : OpR X (compareOp .LtE) (rI0 fun i j => .bl (decide (i ≤ j))) := opB0 fun _ _ _ _ _ _ _ q => le_int q
theorem op_gt : OpR X (compareOp .Gt) (rI0 fun i j => .bl (decide (j < i))) := opB0 fun _ _ _ _ _ _ _ q => gt_int q
theorem op_ge : OpR X (compareOp .GtE) (rI0 fun i j => .bl (decide (j ≤ i))) := opB0 fun _ _ _ _ _ _ _ q => ge_int q
theorem op_in_str : OpR X (compareOp .In) (fun x y H Q => ∃ i j, x = .str i ∧ y = .str j ∧ Q (.bl (!(Builtin.Str.occurrences j i 0 j.length 1).isEmpty)) H) := by
  intro pins s σ H x y v u Q I rx ry h
  obtain ⟨i, j, rfl, rfl, q⟩ := h
  obtain ⟨t, rfl⟩ := rx
  obtain ⟨t', rfl⟩ := ry
  exact in_str (fin_bl I q rfl)
theorem OpR.or {f : Value → Value → Sem Value} {r r' : R2} (h : OpR X f r) (h' : OpR X f r') : OpR X f (fun x y H Q => r x y H Q ∨ r' x y H Q) := by
  intro pins s σ H x y v u Q I rx ry q
  rcases q with q | q
  · exact h pins s σ H x y v u Q I rx ry q
  · exact h' pins s σ H x y v u Q I rx ry q
theorem nomark (b : Expr) {op : CmpOp} (h : op ≠ .In := by decide) (h2 : op ≠ .NotIn := by decide) : behindInMarks op b = false := by
  have e1 : (op == CmpOp.In) = false := by cases op <;> first | rfl | exact absurd rfl h
  have e2 : (op == CmpOp.NotIn) = false := by cases op <;> first | rfl | exact absurd rfl h2
  cases b <;> simp [behindInMarks, e1, e2]
theorem pe_cmpR {op : CmpOp} {r : R2} (ho : OpR X (compareOp op) r) (ha : PE X a ta) (hb : PE X b tb) (hm : behindInMarks op b = false) : PE X (.Compare a [op] [b] pos) (tOp r ta tb) := by
  intro pins s σ H Q I h
  exact wpAny_Compare1 (binT ha hb I h fun v u s2 x y H2 I2 rx ry q => ho pins s2 σ H2 x y v u Q I2 rx ry q) hm
def tTest (t : TE) : TT := fun σ H Q => t σ H fun x H' => ∃ k, x = .bl k ∧ Q k H'
theorem pt_cmpR {op : CmpOp} {r : R2} (ho : OpR X (compareOp op) r) (ha : PE X a ta) (hb : PE X b tb) (hm : behindInMarks op b = false) : PT X (.Compare a [op] [b] pos) (tTest (tOp r ta tb)) := by
  intro pins s σ H Q I h
  refine wpAny_isTrue_Compare1 (thn (ha pins s σ H _ I h) fun v s1 ⟨x, H1, I1, r1, q1⟩ => thn (hb pins s1 σ H1 _ I1 q1) fun u s2 ⟨y, H2, I2, r2, q2⟩ =>
    thn (ho pins s2 σ H2 x y v u _ I2 r1 r2 q2) fun c s3 ⟨z, H3, I3, r3, k, e, q3⟩ => ?_) hm
  subst e
  cases r3
  exact wpAny_truthy_bool ⟨H3, I3, q3⟩
def tChain (r r' : R2) (ta tb tc : TE) : TE := fun σ H Q => ta σ H fun x H1 => tb σ H1 fun y H2 => r x y H2 fun z H3 => ∃ k, z = .bl k ∧
  (if k = true then tc σ H3 fun w' H4 => r' y w' H4 Q else Q (.bl false) H3)
theorem pt_chain {op op' : CmpOp} {r r' : R2} (ho : OpR X (compareOp op) r) (ho' : OpR X (compareOp op') r') (ha : PE X a ta) (hb : PE X b tb) (hc : PE X c tc)
    (hm : lastMarks [op, op'] [b, c] = false := by with_unfolding_all rfl) : PT X (.Compare a [op, op'] [b, c] pos) (tTest (tChain r r' ta tb tc)) := by
  intro pins s σ H Q I h
  refine isTrue_chain (thn (ha pins s σ H _ I h) fun v s1 ⟨x, H1, I1, r1, q1⟩ => test_link (thn (hb pins s1 σ H1 _ I1 q1) fun u s2 ⟨y, H2, I2, r2, q2⟩ =>
    thn (ho pins s2 σ H2 x y v u _ I2 r1 r2 q2) fun d s3 ⟨z, H3, I3, r3, k, e, q3⟩ => ?_)) hm
  subst e
  cases r3
  refine wpAny_truthy_bool ?_
  cases k with
  | false =>
    obtain ⟨k', e', q'⟩ := q3
    cases e'
    exact ite_ff ⟨H3, I3, q'⟩
  | true =>
    refine ite_tt (test_last (thn (hc pins s3 σ H3 _ I3 q3) fun w' s4 ⟨z', H4, I4, r4, q4⟩ => thn (ho' pins s4 σ H4 y z' u w' _ I4 r2 r4 q4) fun d' s5 ⟨z2, H5, I5, r5, k2, e2, q5⟩ => ?_))
    subst e2
    cases r5
    exact wpAny_truthy_bool ⟨H5, I5, q5⟩
def TruV (K : PySem.W.Frag) (x : V) (H : Hp) (k : Bool) : Prop :=
  match x with
  | .non => k = false
  | .bl b => k = b
  | .int i => k = (i != 0)
  | .str y => y.length ≤ sizeLine ∧ k = ((y.length : Int) != 0)
  | .byt y => y.size ≤ sizeLine ∧ k = ((y.size : Int) != 0)
  | .ref p => (∃ xs, SqL K H p xs ∧ k = !xs.isEmpty) ∨ (∃ xs, SqT K H p xs ∧ k = !xs.isEmpty) ∨ ∃ kvs, H p = some (.dK kvs) ∧ k = !kvs.isEmpty
  | _ => False
theorem isEmpty_kv {κ : Type} {kvs : List (κ × V)} {vs : List (κ × Value)} (r : KV kvs vs) : (!vs.isEmpty) = !kvs.isEmpty := by
  cases r <;> rfl
theorem isEmpty_of {xs : List V} {its : List Value} (r : Vals xs its) : (!its.toArray.isEmpty) = !xs.isEmpty := by
  cases r <;> simp
theorem line63 : (sizeLine : Nat) < 2 ^ 63 := by rw [sizeLine_eq]; decide
theorem tru_ok : TruR X (fun x H Q => ∃ k, TruV X.K x H k ∧ Q k H) := by
  intro pins s σ H x v Q I rx h
  obtain ⟨k, e, q⟩ := h
  have hl := line63
  have hs : sizeLine = 16777216 := sizeLine_eq
  cases x with
  | non =>
    cases rx
    have e' : k = false := e
    subst e'
    exact truthy_none ⟨H, I, q⟩
  | bl b =>
    cases rx
    have e' : k = b := e
    subst e'
    exact wpAny_truthy_bool ⟨H, I, q⟩
  | int i =>
    obtain ⟨t, rfl⟩ := rx
    have e' : k = (i != 0) := e
    subst e'
    exact PySem.P.truthy_int ⟨H, I, q⟩
  | str y =>
    obtain ⟨t, rfl⟩ := rx
    obtain ⟨hy, e'⟩ : y.length ≤ sizeLine ∧ k = ((y.length : Int) != 0) := e
    subst e'
    exact PySem.P.truthy_str (by omega) ⟨H, I.tok _, q⟩
  | byt y =>
    obtain ⟨t, rfl⟩ := rx
    obtain ⟨hy, e'⟩ : y.size ≤ sizeLine ∧ k = ((y.size : Int) != 0) := e
    subst e'
    exact PySem.W.truthy_bytes (by omega) ⟨H, I.tok _, q⟩
  | ref p =>
    cases rx
    have e' : (∃ xs, SqL X.K H p xs ∧ k = !xs.isEmpty) ∨ (∃ xs, SqT X.K H p xs ∧ k = !xs.isEmpty) ∨ ∃ kvs, H p = some (.dK kvs) ∧ k = !kvs.isEmpty := e
    rcases e' with ⟨xs, hx, e'⟩ | ⟨xs, hx, e'⟩ | ⟨kvs, hx, e'⟩
    · subst e'
      obtain ⟨its, r, pl, hz⟩ := I.list hx
      have hlen := r.length
      exact wpAny_truthy_list pl.isList (by simp only [List.size_toArray]; omega) ⟨H, I.tok _, by rw [isEmpty_of r]; exact q⟩
    · subst e'
      obtain ⟨its, r, pl, hz⟩ := I.tuple hx
      have hlen := r.length
      exact truthy_tuple pl (by simp only [List.size_toArray]; omega) ⟨H, I.tok _, by rw [isEmpty_of r]; exact q⟩
    · subst e'
      obtain ⟨hz, hS, vs, r, m⟩ : kvs.length ≤ sizeLine ∧ (p == sysModules) = false ∧ ∃ vs, KV kvs vs ∧ s.heap.DictOf (mixKind X.prog X.w) p vs := I.hok p _ hx
      have hlen : kvs.length = vs.length := Paired.length r
      exact wpAny_truthy_dict hS m (by omega) ⟨H, I.tok _, by rw [isEmpty_kv r]; exact q⟩
  | _ => exact (show False from e).elim
theorem op_add_str : OpR X (binaryOp .Add) (fun x y H Q => ∃ i j, x = .str i ∧ y = .str j ∧ i.length + j.length ≤ sizeLine ∧ Q (.str (i ++ j)) H) := by
  intro pins s σ H x y v u Q I rx ry h
  obtain ⟨i, j, rfl, rfl, hz, q⟩ := h
  obtain ⟨t, rfl⟩ := rx
  obtain ⟨t', rfl⟩ := ry
  exact add_str (fun t' tk => ⟨.str (i ++ j), H, I.tok _, ⟨_, rfl⟩, q⟩) hz
theorem iop_add_str : OpR X (inplaceOp .Add) (fun x y H Q => ∃ i j, x = .str i ∧ y = .str j ∧ i.length + j.length ≤ sizeLine ∧ Q (.str (i ++ j)) H) := by
  intro pins s σ H x y v u Q I rx ry h
  obtain ⟨i, j, rfl, rfl, hz, q⟩ := h
  obtain ⟨t, rfl⟩ := rx
  obtain ⟨t', rfl⟩ := ry
  exact iadd_str (fun t' tk => ⟨.str (i ++ j), H, I.tok _, ⟨_, rfl⟩, q⟩) hz
theorem vals1 {x : V} {us : List Value} (r : Vals [x] us) : ∃ u, us = [u] ∧ RelV x u := by
  cases r with
  | cons r1 r2 => cases r2; exact ⟨_, rfl, r1⟩
theorem vals2 {x y : V} {us : List Value} (r : Vals [x, y] us) : ∃ u w', us = [u, w'] ∧ RelV x u ∧ RelV y w' := by
  cases r with
  | cons r1 r2 =>
    cases r2 with
    | cons r3 r4 => cases r4; exact ⟨_, _, rfl, r1, r3⟩
theorem call_int1 : CallR X (.type "int") (fun xs H Q => (∃ i, xs = [.int i] ∧ Q (.int i) H) ∨ ∃ k, xs = [.bl k] ∧ Q (.int (if k then 1 else 0)) H) := by
  intro pins s σ H xs us Q I r h
  rcases h with ⟨i, rfl, q⟩ | ⟨k, rfl, q⟩
  · obtain ⟨u, rfl, t, rfl⟩ := vals1 r
    exact call_int_int ⟨.int i, H, I, ⟨_, rfl⟩, q⟩
  · obtain ⟨u, rfl, r1⟩ := vals1 r
    cases r1
    exact call_int_bool ⟨.int (if k then 1 else 0), H, I.tok _, ⟨_, rfl⟩, q⟩
def LenV (K : PySem.W.Frag) (x : V) (H : Hp) (n : Nat) : Prop :=
  match x with
  | .str y => y.length ≤ sizeLine ∧ n = y.length
  | .byt y => y.size ≤ sizeLine ∧ n = y.size
  | .ref p => (∃ xs, SqL K H p xs ∧ n = xs.length) ∨ ∃ xs, SqT K H p xs ∧ n = xs.length
  | _ => False
theorem call_len : CallR X (.builtin "len") (fun xs H Q => ∃ x n, xs = [x] ∧ LenV X.K x H n ∧ Q (.int n) H) := by
  intro pins s σ H xs us Q I r h
  obtain ⟨x, n, rfl, e, q⟩ := h
  obtain ⟨u, rfl, rx⟩ := vals1 r
  have hl := line63
  have hs : sizeLine = 16777216 := sizeLine_eq
  cases x with
  | str y =>
    obtain ⟨t, rfl⟩ := rx
    obtain ⟨hy, e'⟩ : y.length ≤ sizeLine ∧ n = y.length := e
    subst e'
    exact len_str (by omega) ⟨.int _, H, I.tok _, ⟨_, rfl⟩, q⟩
  | byt y =>
    obtain ⟨t, rfl⟩ := rx
    obtain ⟨hy, e'⟩ : y.size ≤ sizeLine ∧ n = y.size := e
    subst e'
    exact PySem.W.len_bytes (by omega) ⟨.int _, H, I.tok _, ⟨_, rfl⟩, q⟩
  | ref p =>
    cases rx
    have e' : (∃ xs, SqL X.K H p xs ∧ n = xs.length) ∨ ∃ xs, SqT X.K H p xs ∧ n = xs.length := e
    rcases e' with ⟨xs, hx, e'⟩ | ⟨xs, hx, e'⟩
    · subst e'
      obtain ⟨its, r', pl, hz⟩ := I.list hx
      have hlen := r'.length
      exact Calls.call_len_list pl.isList (by simp only [List.size_toArray]; omega) ⟨.int xs.length, H, I.tok _, ⟨_, by simp only [List.size_toArray]; rw [hlen]⟩, q⟩
    · subst e'
      obtain ⟨its, r', pl, hz⟩ := I.tuple hx
      have hlen := r'.length
      exact len_tuple pl (by simp only [List.size_toArray]; omega) ⟨.int xs.length, H, I.tok _, ⟨_, by simp only [List.size_toArray]; rw [hlen]⟩, q⟩
  | _ => exact (show False from e).elim
end
end L2
namespace L2
open PySem PySem.Spec PyProof.Rows
structure ObjM (h : Heap) (x dx C : Addr) (mA : Str → Option Value) : Prop where
  obj : h.get? x = some (PySem.W.instObj C dx)
  ns : h.Ns1 dx mA
  ne : dx ≠ x
theorem lookIn_ns {h : Heap} {dx : Addr} {mA : Str → Option Value} (n : h.Ns1 dx mA) : ∃ od, h.get? dx = some od ∧ ∀ name, PySem.W.lookIn name od = some (mA name) := by
  obtain ⟨o, es, ep, ho, hd, hk, _, hm⟩ := n
  refine ⟨o, ho, fun name => ?_⟩
  have e := hm name
  unfold nsFind findBy at e
  rw [← Array.find?_toList] at e
  unfold PySem.W.lookIn
  rw [hd]
  dsimp only
  split
  · rename_i y q
    rw [q] at e
    exact congrArg some e
  · rename_i q
    rw [q] at e
    have a : es.toList.any (·.refKey) = false := by
      rw [List.any_eq_false]
      intro y hy
      obtain ⟨z, t, hkey⟩ := hk y (Array.mem_toList_iff.mp hy)
      simp [DictEntry.refKey, hkey]
    have a' : ¬ es.toList.any (·.refKey) = true := by rw [a]; exact Bool.false_ne_true
    rw [if_neg a']
    exact congrArg some e
theorem ObjM.look {h : Heap} {x dx C : Addr} {mA : Str → Option Value} (I : ObjM h x dx C mA) : ∃ od, PySem.W.InstAt h x (PySem.W.instObj C dx) C (some od) ∧ ∀ name, PySem.W.lookIn name od = some (mA name) :=
  let ⟨od, ho, hl⟩ := lookIn_ns I.ns
  ⟨od, ⟨I.obj, rfl, rfl, ho⟩, hl⟩
section
variable {prog : Program} {w : World} {A : Around} {E : Value → Shared → Prop} {s : Shared} {K : PySem.W.Frag} {x dx C f : Addr} {mA : Str → Option Value} {name : Str} {v : Value}
end
def putF (f : Str) (v : V) : List (Str × V) → List (Str × V)
  | [] => [(f, v)]
  | (g, x) :: r => if g = f then (g, v) :: r else (g, x) :: putF f v r
theorem lookup_putF (f g : Str) (v : V) : ∀ fs : List (Str × V), (putF f v fs).lookup g = if g = f then some v else fs.lookup g
  | [] => by
    show List.lookup g [(f, v)] = _
    by_cases h : g = f
    · have hb : (g == f) = true := beq_iff_eq.mpr h
      simp only [List.lookup, hb, if_pos h]
    · have hb : (g == f) = false := beq_eq_false_iff_ne.mpr h
      simp only [List.lookup, hb, if_neg h]
  | (k, x) :: r => by
    have ih := lookup_putF f g v r
    rw [show putF f v ((k, x) :: r) = (if k = f then (k, v) :: r else (k, x) :: putF f v r) from rfl]
    by_cases hk : k = f
    · rw [if_pos hk]
      by_cases h : g = k
      · have hb : (g == k) = true := beq_iff_eq.mpr h
        simp only [List.lookup, hb, if_pos (h.trans hk)]
      · have hb : (g == k) = false := beq_eq_false_iff_ne.mpr h
        simp only [List.lookup, hb, if_neg (fun e : g = f => h (e.trans hk.symm))]
    · rw [if_neg hk]
      by_cases h : g = k
      · have hb : (g == k) = true := beq_iff_eq.mpr h
        simp only [List.lookup, hb, if_neg (fun e : g = f => hk (h.symm.trans e))]
      · have hb : (g == k) = false := beq_eq_false_iff_ne.mpr h
        simp only [List.lookup, hb]
        exact ih
theorem RelO.some_of {v : V} {o : Option Value} (r : RelO (some v) o) : ∃ u, o = some u ∧ RelV v u := by
  cases o with
  | none => exact (show False from r).elim
  | some u => exact ⟨u, rfl, r⟩
theorem RelO.none_of {o : Option Value} (r : RelO none o) : o = none := by
  cases o with
  | none => rfl
  | some u => exact (show False from r).elim
theorem handed_of {v : V} {u : Value} (r : RelV v u) : PySem.W.handedIn u = true := by
  cases v with
  | non => cases (show u = Value.none from r); rfl
  | bl b => cases (show u = Value.bool b from r); rfl
  | int i => obtain ⟨t, e⟩ := (show ∃ t, u = Value.int i t from r); cases e; rfl
  | str x => obtain ⟨t, e⟩ := (show ∃ t, u = Value.str x t from r); cases e; rfl
  | byt b => obtain ⟨t, e⟩ := (show ∃ t, u = Value.bytes b t from r); cases e; rfl
  | flt b => obtain ⟨t, e⟩ := (show ∃ t, u = Value.float b t from r); cases e; rfl
  | ref a => cases (show u = Value.ref a from r); rfl
  | ty n => cases (show u = Value.type n from r); rfl
section
variable {P : Program} {w : World} {H H' : Hp} {h h' : Heap} {a C dx : Addr} {fs fs' : List (Str × V)}
theorem ins_get (hok : HOk P w H h) (e : H a = some (.ins C dx fs)) : ∃ mA, ObjM h a dx C mA ∧ (∀ f, RelO (fs.lookup f) (mA f)) ∧ PySem.Within mA (fs.map (·.1)) ∧ fs.length ≤ 1000 ∧ H dx = some (.own a) := by
  obtain ⟨d, z, ne, ob, mA, n, r, q⟩ := (show ObjOk P w H h a (.ins C dx fs) from hok a _ e)
  exact ⟨mA, ⟨ob, n, ne⟩, r, q, z, d⟩
end
structure Cls (K : PySem.W.Frag) (C : Addr) : Prop where
  pg : PySem.W.plainGet K C Str.empty = true
  hd : PySem.W.hasDictIn K C = true
  po : PySem.W.plainOver K C = true
  sa : PySem.W.findIn K (.ref C) "__setattr__" = some (some (.builtin "object.__setattr__"))
theorem Cls.get {K : PySem.W.Frag} {C : Addr} (c : Cls K C) (f : Str) : PySem.W.plainGet K C f = true := c.pg
def NoAttr (K : PySem.W.Frag) (C : Addr) (f : Str) : Prop := PySem.W.findIn K (.ref C) f = some none
section
variable {X : Cx} {pins : List (Addr × Obj)} {σ : St} {H : Hp} {s : Shared} {a C dx : Addr} {fs : List (Str × V)} {f : Str} {v : V} {A : Around} {E : Value → Shared → Prop}
theorem attr_of {prog : Program} {w : World} {env : Env} {e : Expr} {f : Str} {pos : Pos} {s : Shared} {Q : Value → Shared → Prop} (hb : attributeBase e f env (eval e env) = eval e env)
    (h : wpAny (model prog w) A (eval e env) (fun o s₁ => wpAny (model prog w) A (getAttr o f true) Q E s₁) E s) : wpAny (model prog w) A (eval (.Attribute e f pos) env) Q E s :=
  Attribute_any_ h (by rw [arm_eval_Attribute, hb])
end
section
variable {X : Cx} {o e value : Expr} {f : Str} {pos pos' tpos : Pos} {ta tv : TE}
end
section
variable {X : Cx} {pins : List (Addr × Obj)} {σ : St} {H : Hp} {s : Shared} {A : Around} {E : Value → Shared → Prop} {Q : Value → Shared → Prop} {c : Value} {b : Bool}
inductive TyOf (K : PySem.W.Frag) (H : Hp) : V → Value → Prop where
  | non : TyOf K H .non (.type "NoneType")
  | bl (x : Bool) : TyOf K H (.bl x) (.type "bool")
  | int (i : Int) : TyOf K H (.int i) (.type "int")
  | str (x : Str) : TyOf K H (.str x) (.type "str")
  | flt (x : UInt64) : TyOf K H (.flt x) (.type "float")
  | lst {a : Addr} {xs : List V} (e : H a = some (.lst xs)) : TyOf K H (.ref a) (.type "list")
  | frz {a : Addr} {o : Obj} {xs : List V} (e : H a = some (.frz o (.lst xs))) : TyOf K H (.ref a) (.type "list")
  | tup {a : Addr} {xs : List V} (e : H a = some (.tup xs)) : TyOf K H (.ref a) (.type "tuple")
  | dK {a : Addr} {kvs : List (Key × V)} (e : H a = some (.dK kvs)) : TyOf K H (.ref a) (.type "dict")
  | dT {a : Addr} {kvs : List (List Key × V)} (e : H a = some (.dT kvs)) : TyOf K H (.ref a) (.type "dict")
  | ins {a C dx : Addr} {fs : List (Str × V)} (e : H a = some (.ins C dx fs)) (cl : Cls K C) (ha : PySem.W.findIn K (.ref C) "__class__" = some (some (.builtin "object.__class__")))
      (hn : PySem.W.specialIn K (.builtin "object.__class__") "__get__" = some (some (.builtin "getset_descriptor.__get__"))) (htk : PySem.W.takesIn K (.builtin "object.__class__") = some true)
      (hm : PySem.W.mroIn K C (.type "object") = some true) : TyOf K H (.ref a) (.ref C)
theorem isinst_ok {x : V} {u t : Value} (I : Inv X pins σ H s) (rx : RelV x u) (ty : TyOf X.K H x t) (e : PySem.W.kitOne X.K t c = some b) (h : ∀ tk, Q (.bool b) { s with toks := tk }) :
    wpAny (model X.prog X.w) A (call (.builtin "isinstance") [u, c]) Q E s := by
  cases ty with
  | non => cases (show u = Value.none from rx); exact PySem.W.kia_one PySem.W.kitx_none I.kIn True.intro e (fun z => nomatch z) h
  | bl y => cases (show u = Value.bool y from rx); exact PySem.W.kia_one PySem.W.kitx_bool I.kIn True.intro e (fun z => nomatch z) h
  | int i => obtain ⟨t, q⟩ := (show ∃ t, u = Value.int i t from rx); cases q; exact PySem.W.kia_one PySem.W.kitx_int I.kIn True.intro e (fun z => nomatch z) h
  | str y => obtain ⟨t, q⟩ := (show ∃ t, u = Value.str y t from rx); cases q; exact PySem.W.kia_one PySem.W.kitx_str I.kIn True.intro e (fun z => nomatch z) h
  | flt y => obtain ⟨t, q⟩ := (show ∃ t, u = Value.float y t from rx); cases q; exact PySem.W.kia_one PySem.W.kitx_float I.kIn True.intro e (fun z => nomatch z) h
  | @lst a xs ea =>
    cases (show u = Value.ref a from rx)
    obtain ⟨_, _, n, _, h1⟩ := (show ObjOk X.prog X.w H s.heap a (.lst xs) from I.hok a _ ea)
    exact PySem.W.kia_one PySem.W.kitx_list I.kIn ⟨_, h1, rfl⟩ e (fun z => nomatch z) h
  | @frz a ob xs ea =>
    cases (show u = Value.ref a from rx)
    obtain ⟨_, _, _, n, _, h1⟩ := (show ObjOk X.prog X.w H s.heap a (.frz ob (.lst xs)) from I.hok a _ ea)
    exact PySem.W.kia_one PySem.W.kitx_list I.kIn ⟨_, h1, rfl⟩ e (fun z => nomatch z) h
  | @tup a xs ea =>
    cases (show u = Value.ref a from rx)
    obtain ⟨_, _, _, p⟩ := (show ObjOk X.prog X.w H s.heap a (.tup xs) from I.hok a _ ea)
    obtain ⟨o, h1, h2, _⟩ := p
    exact PySem.W.kia_one PySem.W.kitx_tuple I.kIn ⟨o, h1, h2⟩ e (fun z => nomatch z) h
  | @dK a kvs ea =>
    cases (show u = Value.ref a from rx)
    obtain ⟨_, _, vs, _, p⟩ := (show ObjOk X.prog X.w H s.heap a (.dK kvs) from I.hok a _ ea)
    obtain ⟨o, es, ep, h1, h2, _⟩ := p
    exact PySem.W.kia_one PySem.W.kitx_dict I.kIn ⟨o, h1, h2.1⟩ e (fun z => nomatch z) h
  | @dT a kvs ea =>
    cases (show u = Value.ref a from rx)
    obtain ⟨_, _, xs, _, o, es, ep, h1, h2, _⟩ := (show ObjOk X.prog X.w H s.heap a (.dT kvs) from I.hok a _ ea)
    exact PySem.W.kia_one PySem.W.kitx_dict I.kIn ⟨o, h1, h2.1⟩ e (fun z => nomatch z) h
  | @ins a C dx fs ea cl ha hn htk hm =>
    cases (show u = Value.ref a from rx)
    obtain ⟨mA, O, _⟩ := ins_get I.hok ea
    obtain ⟨od, J, _⟩ := O.look
    exact PySem.W.kia_one (PySem.W.kitx_own (cl.get _) cl.hd ha hn htk hm) I.kIn J e (fun z => nomatch z) h
end
end L2
namespace L2
open PySem PySem.Spec PyProof.Rows
structure Room (k : Nat) (A : Around) : Prop where
  hd : A.handled = none
  dp : A.depth + 3 * k + 5 < recursionLimit
  un : A.units + 16 * k + 200 < cLine
theorem Room.mono {j k : Nat} {A : Around} (r : Room k A) (h : j ≤ k) : Room j A := ⟨r.hd, by have := r.dp; omega, by have := r.un; omega⟩
theorem Room.deeper {k : Nat} {A : Around} (r : Room (k + 1) A) (env : Env) : Room k (A.deeper env) :=
  ⟨r.hd, by have := r.dp; show A.depth + 1 + 3 * k + 5 < _; omega, by have := r.un; show A.units + 3 + 16 * k + 200 < _; omega⟩
theorem Room.in1 {k : Nat} {A : Around} (r : Room (k + 1) A) : Room k A.in1 :=
  ⟨r.hd, by have := r.dp; show A.depth + 3 * k + 5 < _; omega, by have := r.un; show A.units + 1 + 16 * k + 200 < _; omega⟩
theorem make_depth {A : Around} {C : Addr} {us : List Value} {kw : List (Str × Value)} : (A.under (.builtin "type.__call__" ⟨.ref C :: us, kw⟩)).depth = A.depth + 1 := by
  first | rfl | simp [Around.under, Code.weight, Code.isCreation, Code.isGuard, Code.isCaller, Code.frames, Code.isFrame, guardIds]
theorem make_units {A : Around} {C : Addr} {us : List Value} {kw : List (Str × Value)} : (A.under (.builtin "type.__call__" ⟨.ref C :: us, kw⟩)).units = A.units + 1 := by
  first | rfl | simp [Around.under, Code.cUnits, Code.frames, Code.isFrame]
theorem Room.make {k : Nat} {A : Around} (r : Room (k + 1) A) (C : Addr) (us : List Value) (kw : List (Str × Value)) : Room k (A.under (.builtin "type.__call__" ⟨.ref C :: us, kw⟩)) :=
  ⟨r.hd, by have := r.dp; rw [make_depth]; omega, by have := r.un; rw [make_units]; omega⟩
theorem Room.depth {k : Nat} {A : Around} (r : Room k A) : A.depth < recursionLimit := by have := r.dp; omega
theorem Room.units {k : Nat} {A : Around} (r : Room k A) : A.units + 64 < cLine := by have := r.un; omega
def tNil : TA := fun _ H Q => Q [] H
def tCons (ta : TE) (tr : TA) : TA := fun σ H Q => ta σ H fun x H1 => tr σ H1 fun xs H2 => Q (x :: xs) H2
section
variable {X : Cx} {e : Expr} {es : List Expr} {te : TE} {t : TA} {pos : Pos}
theorem pa_nil : PA X [] tNil := fun _ _ _ _ H Q I h => Calls.spliced_nil ⟨[], H, I, .nil, h⟩
theorem pa_cons (ha : PE X e te) (hr : PA X es t) (hs : starEach (e :: es) X.env = (false, eval e X.env) :: starEach es X.env := by rfl) : PA X (e :: es) (tCons te t) := by
  intro pos pins s σ H Q I h
  rw [hs]
  show wpAny _ _ (spliced ((false, eval e X.env) :: backTo pos (starEach es X.env))) _ _ s
  refine Calls.spliced_cons (thn (ha pins s σ H _ I h) fun u s1 ⟨x, H1, I1, r1, q1⟩ => ?_)
  exact thn (hr pos pins s1 σ H1 _ I1 q1) fun us s2 ⟨xs, H2, I2, r2, q2⟩ => ⟨x :: xs, H2, I2, .cons r1 r2, q2⟩
def tTup (t : TA) : TE := fun σ H Q => t σ H fun xs H1 => xs.length ≤ sizeLine ∧ ∀ p, H1 p = none → Q (.ref p) (upd H1 p (.tup xs))
def tLst (t : TA) : TE := fun σ H Q => t σ H fun xs H1 => xs.length ≤ sizeLine ∧ ∀ p, H1 p = none → Q (.ref p) (upd H1 p (.lst xs))
theorem pe_tup {x1} (h : PA X es t) : PE X (.Tuple es x1 pos) (tTup t) := by
  intro pins s σ H Q I hq
  refine wpAny_Tuple_spliced (thn (h pos pins s σ H _ I hq) fun us s1 ⟨xs, H1, I1, r, z, q⟩ => ⟨by rw [← r.length]; exact z, ?_⟩)
  have hf : H1 s1.heap.objs.size = none := I1.hok.fresh (Nat.le_refl _)
  refine ⟨.ref s1.heap.objs.size, upd H1 s1.heap.objs.size (.tup xs), I1.laid (t' := s1.toks) (fun b u e => Heap.get?_push_of_some _ e) (Nat.le_refl _) ?_, rfl, q _ hf⟩
  exact ⟨z, us, r, ⟨_, Heap.get?_push_size _ rfl, rfl, _, rfl⟩⟩
theorem pe_lst (h : PA X es t) : PE X (.List es pos) (tLst t) := by
  intro pins s σ H Q I hq
  refine wpAny_List_spliced (thn (h pos pins s σ H _ I hq) fun us s1 ⟨xs, H1, I1, r, z, q⟩ => ⟨by rw [← r.length]; exact z, ?_⟩)
  have hf : H1 s1.heap.objs.size = none := I1.hok.fresh (Nat.le_refl _)
  refine ⟨.ref s1.heap.objs.size, upd H1 s1.heap.objs.size (.lst xs), I1.laid (t' := s1.toks) (fun b u e => Heap.get?_push_of_some _ e) (Nat.le_refl _) ?_, rfl, q _ hf⟩
  exact ⟨z, us, 0, r, Heap.get?_push_size _ rfl⟩
end
abbrev Sp := List V → Hp → VK → XK → Prop
abbrev CXT := List Env → Hp → Shared → XK → Value → Shared → Prop
structure Env0 (P : Program) (w : World) (K : PySem.W.Frag) (mg : Str → Option Value) (base : Heap) (A : Around) (outer : List Env) (s : Shared) (H : Hp) : Prop where
  frames : A.frames = some outer
  mod : Mod K mg base
  bs : ∀ b o, base.get? b = some o → s.heap.get? b = some o ∧ H b = none
  bsz : base.objs.size ≤ s.heap.objs.size
  funs : s.heap.FunFrames base outer
  frf : ∀ b ∈ frs outer, H b = none
  hok : HOk P w H s.heap
  bare : AllBare s.gens
def CE (outer : List Env) (P : Program) (w : World) (H : Hp) (s : Shared) (Q : VK) (u : Value) (s' : Shared) : Prop :=
  ∃ v H', s'.os = s.os ∧ AllBare s'.gens ∧ Un (frs outer) [] H H' s.heap s'.heap ∧ HOk P w H' s'.heap ∧ RelV v u ∧ Q v H'
def CR (CX : CXT) (outer : List Env) (P : Program) (w : World) (H : Hp) (s : Shared) (Q : VK) (E : XK) (r : Result) (s' : Shared) : Prop :=
  match r with
  | .ok (.ret u) => CE outer P w H s Q u s'
  | .ok _ => False
  | .error e => CX outer H s E e s'
structure FnOk (P : Program) (w : World) (K : PySem.W.Frag) (mg : Str → Option Value) (base : Heap) (CX : CXT) (k : Nat) (f : Addr) (fd : FuncData) (ps : List Str) (sp : Sp) : Prop where
  len : ∀ vs H Q E, sp vs H Q E → vs.length = ps.length
  run : ∀ (A : Around) (outer : List Env) (s : Shared) (H : Hp) (args : Args) (us : List Value) (vs : List V) (Q : VK) (E : XK), Room k A → Env0 P w K mg base A outer s H → BindsTo s fd args (ps.zip us) → Vals vs us → sp vs H Q E →
    codeAny (model P w) A (.call (.ref f) args) (CR CX outer P w H s Q E) s
theorem FnOk.mono {P : Program} {w : World} {K : PySem.W.Frag} {mg : Str → Option Value} {base : Heap} {CX : CXT} {j k : Nat} {f : Addr} {fd : FuncData} {ps : List Str} {sp : Sp} (F : FnOk P w K mg base CX j f fd ps sp) (h : j ≤ k) :
    FnOk P w K mg base CX k f fd ps sp := ⟨F.len, fun A outer s H args us vs Q E hr => F.run A outer s H args us vs Q E (hr.mono h)⟩
theorem FnOk.imp {P : Program} {w : World} {K : PySem.W.Frag} {mg : Str → Option Value} {base : Heap} {CX : CXT} {k : Nat} {f : Addr} {fd : FuncData} {ps : List Str} {sp sp' : Sp} (F : FnOk P w K mg base CX k f fd ps sp)
    (h : ∀ vs H Q E, sp' vs H Q E → sp vs H Q E) : FnOk P w K mg base CX k f fd ps sp' :=
  ⟨fun vs H Q E q => F.len vs H Q E (h _ _ _ _ q), fun A outer s H args us vs Q E hr he hb hv hs => F.run A outer s H args us vs Q E hr he hb hv (h _ _ _ _ hs)⟩
theorem Env0.make {P : Program} {w : World} {K : PySem.W.Frag} {mg : Str → Option Value} {base : Heap} {A : Around} {outer : List Env} {s : Shared} {H : Hp} (e : Env0 P w K mg base A outer s H) (C : Addr) (us : List Value) (kw : List (Str × Value)) :
    Env0 P w K mg base (A.under (.builtin "type.__call__" ⟨.ref C :: us, kw⟩)) outer s H := ⟨by first | exact e.frames | (simpa [Around.under, Code.envs, Code.isFrame, pushEnvs] using e.frames), e.mod, e.bs, e.bsz, e.funs, e.frf, e.hok, e.bare⟩
theorem Env0.in1 {P : Program} {w : World} {K : PySem.W.Frag} {mg : Str → Option Value} {base : Heap} {A : Around} {outer : List Env} {s : Shared} {H : Hp} (e : Env0 P w K mg base A outer s H) :
    Env0 P w K mg base A.in1 outer s H := ⟨e.frames, e.mod, e.bs, e.bsz, e.funs, e.frf, e.hok, e.bare⟩
section
variable {X : Cx} {pins : List (Addr × Obj)} {σ : St} {H : Hp} {s s' : Shared}
theorem Inv.env0 (I : Inv X pins σ H s) : Env0 X.prog X.w X.K X.mg X.base X.A X.stack s H :=
  ⟨I.ok.frames, I.ok.mod, I.bs, Nat.le_trans I.ok.bsz I.sz, I.stack, I.stkFree, I.hok, I.bare⟩
theorem Inv.after {Q : VK} {u : Value} (I : Inv X pins σ H s) (h : CE X.stack X.prog X.w H s Q u s') : EP X pins σ Q u s' := by
  obtain ⟨v, H', os, bare, un, hok, r, q⟩ := h
  obtain ⟨hh, g, d, t, os'⟩ := s'
  obtain rfl : os' = s.os := os
  exact ⟨v, H', I.call (h' := hh) (g' := g) (d' := d) (t' := t) (ch := []) un hok bare (fun b z => absurd z (by simp)), r, q⟩
end
def tCall (sp : Sp) (dvs : List V) (E : XK) (t : TA) : TE := fun σ H Q => t σ H fun vs H1 => sp (vs ++ dvs) H1 Q E
def Binds (K : PySem.W.Frag) (fd : FuncData) (ps : List Str) (ds : List Value) : Prop :=
  ∀ (s : Shared) (us : List Value), K.In s.heap → (us ++ ds).length = ps.length → BindsTo s fd ⟨us, []⟩ (ps.zip (us ++ ds))
theorem Binds.all {K : PySem.W.Frag} {fd : FuncData} {ps : List Str} (h : ∀ us : List Value, us.length = ps.length → bindArgs fd ⟨us, []⟩ = pure (ps.zip us)) : Binds K fd ps [] := fun s us _ hl => by
  rw [List.append_nil] at hl ⊢
  exact .of_eq (h us hl)
def Passes (CX : CXT) (X : Cx) (E : XK) : Prop := ∀ (pins : List (Addr × Obj)) (σ : St) (H : Hp) (s : Shared) (e : Value) (s' : Shared), Inv X pins σ H s → CX X.stack H s E e s' → X.xe e s'
section
variable {X : Cx} {CX : CXT} {k : Nat} {f C : Addr} {fd : FuncData} {ps : List Str} {sp : Sp} {dvs : List V} {ds : List Value} {E : XK} {x m : Str} {p pos apos : Pos} {e o : Expr} {es : List Expr} {ta : TE} {t : TA}
theorem run_fn {pins : List (Addr × Obj)} {σ : St} {H : Hp} {s : Shared} {Q : VK} {us : List Value} {vs : List V} (F : FnOk X.prog X.w X.K X.mg X.base CX k f fd ps sp) (hr : Room k X.A) (hb : Binds X.K fd ps ds) (hd : Vals dvs ds) (hx : Passes CX X E)
    (I : Inv X pins σ H s) (r : Vals vs us) (h : sp (vs ++ dvs) H Q E) : wpAny (model X.prog X.w) X.A (call (.ref f) us) (EP X pins σ Q) X.xe s := by
  have r2 : Vals (vs ++ dvs) (us ++ ds) := r.append hd
  have hl : (us ++ ds).length = ps.length := by rw [← r2.length]; exact F.len _ _ _ _ h
  refine wpAny_call (codeAny_mono (F.run X.A X.stack s H ⟨us, []⟩ (us ++ ds) (vs ++ dvs) Q E hr I.env0 (hb s us I.kIn hl) r2 h) fun r s' hq => ?_)
  cases r with
  | error e => exact hx pins σ H s e s' I hq
  | ok fl =>
    cases fl with
    | ret u => exact I.after hq
    | next => exact False.elim hq
    | brk => exact False.elim hq
    | cont => exact False.elim hq
theorem pe_call (F : FnOk X.prog X.w X.K X.mg X.base CX k f fd ps sp) (hr : Room k X.A) (hg : Gl X x) (hm : X.mg x = some (.ref f)) (hk : PySem.W.keepIn X.K (.ref f) = true) (hb : Binds X.K fd ps ds) (hd : Vals dvs ds) (hx : Passes CX X E)
    (ha : PA X (e :: es) t) (hdb : (x == ("__debug__" : Str)) = false := by decide) (he : starEach (e :: es) X.env = (false, eval e X.env) :: starEach es X.env := by rfl) (hpl : (backTo pos (starEach es X.env)).any (·.1) = false := by rfl) :
    PE X (.Call (.Name x p) (e :: es) [] pos) (tCall sp dvs E t) := by
  intro pins s σ H Q I h
  refine wpAny_Call_Name_kw (ld_glob I hg hm ?_ hdb)
  refine PySem.W.callWith_K (h₀ := X.base) I.ok.mod.kin hk (thn (ha pos pins s σ H _ I h) fun us s1 ⟨vs, H1, I1, r, q⟩ => ⟨I1.kIn, ?_⟩) he hpl
  exact run_fn F hr hb hd hx I1 r q
end
section
variable {X : Cx} {CX : CXT} {k : Nat} {f C : Addr} {fd : FuncData} {ps ks : List Str} {sp : Sp} {E : XK} {x m : Str} {p pos apos kpos : Pos} {e o : Expr} {es : List Expr} {kws : List Keyword} {te ta : TE} {t tk : TA} {nm : Option Str}
variable {g : List Value → List Value → List Value} {gV : List V → List V → List V}
end
structure FnScope (N P : List Str) (sc : Scope) : Prop where
  kind : sc.kind = .function
  co : sc.isCoroutine = false
  gen : sc.isGenerator = false
  nd : N.Nodup
  pre : N.take P.length = P
  par : ∀ x ∈ P, sc.names.lookup x = some .local ∨ sc.names.lookup x = some .cell
  nofree : ∀ y ∈ sc.names, y.2 ≠ .free
theorem bindL_out {kindOf : Str → Option NameKind} {x : Str} : ∀ {binds : List (Str × Value)} {m : Str → Option Value}, (∀ v, (x, v) ∉ binds) → bindL kindOf binds m x = m x
  | [], _, _ => rfl
  | (n, v) :: r, m, h => by
    unfold bindL
    rw [bindL_out fun w hw => h w (List.mem_cons_of_mem _ hw)]
    split
    · have : x ≠ n := by rintro rfl; exact h v List.mem_cons_self
      simp [this]
    · rfl
theorem bindC_out {kindOf : Str → Option NameKind} {x : Str} : ∀ {binds : List (Str × Value)} {m : Str → Option Value}, (∀ v, (x, v) ∉ binds) → bindC kindOf binds m x = m x
  | [], _, _ => rfl
  | (n, v) :: r, m, h => by
    unfold bindC
    rw [bindC_out fun w hw => h w (List.mem_cons_of_mem _ hw)]
    split
    · rfl
    · have : x ≠ n := by rintro rfl; exact h v List.mem_cons_self
      simp [this]
theorem bindL_get {kindOf : Str → Option NameKind} {x : Str} {v : Value} : ∀ {P : List Str} {vs : List Value} {i : Nat} {m : Str → Option Value}, P.Nodup → P[i]? = some x → vs[i]? = some v → kindOf x = some .local →
    bindL kindOf (P.zip vs) m x = some v
  | [], _, _, _, _, h, _, _ => by simp at h
  | _ :: _, [], _, _, _, _, h, _ => by simp at h
  | p :: P, w :: vs, 0, m, nd, h1, h2, hk => by
    simp at h1 h2; subst h1; subst h2
    show bindL kindOf ((p, w) :: P.zip vs) m p = _
    unfold bindL
    rw [bindL_out fun v hv => (List.nodup_cons.mp nd).1 (List.of_mem_zip hv).1, if_pos hk]
    simp
  | p :: P, w :: vs, i + 1, m, nd, h1, h2, hk => by
    show bindL kindOf ((p, w) :: P.zip vs) m x = _
    unfold bindL
    exact bindL_get (i := i) (List.nodup_cons.mp nd).2 (by simpa using h1) (by simpa using h2) hk
theorem bindC_get {kindOf : Str → Option NameKind} {x : Str} {v : Value} : ∀ {P : List Str} {vs : List Value} {i : Nat} {m : Str → Option Value}, P.Nodup → P[i]? = some x → vs[i]? = some v → kindOf x ≠ some .local →
    bindC kindOf (P.zip vs) m x = some v
  | [], _, _, _, _, h, _, _ => by simp at h
  | _ :: _, [], _, _, _, _, h, _ => by simp at h
  | p :: P, w :: vs, 0, m, nd, h1, h2, hk => by
    simp at h1 h2; subst h1; subst h2
    show bindC kindOf ((p, w) :: P.zip vs) m p = _
    unfold bindC
    rw [bindC_out fun v hv => (List.nodup_cons.mp nd).1 (List.of_mem_zip hv).1, if_neg hk]
    simp
  | p :: P, w :: vs, i + 1, m, nd, h1, h2, hk => by
    show bindC kindOf ((p, w) :: P.zip vs) m x = _
    unfold bindC
    exact bindC_get (i := i) (List.nodup_cons.mp nd).2 (by simpa using h1) (by simpa using h2) hk
def start (N : List Str) (vs : List V) : St := vs.map some ++ List.replicate (N.length - vs.length) none
def cxOf (CX : CXT) (P : Program) (w : World) (K : PySem.W.Frag) (mg : Str → Option Value) (base : Heap) (N : List Str) (qual : Str) (scope : Scope) (f : Addr) (cd : Value) (A : Around) (outer : List Env) (s : Shared) (H : Hp) (E : XK) : Cx where
  prog := P
  w := w
  K := K
  mg := mg
  base := base
  A := A.deeper (envOfC qual scope s.heap.objs.size f cd)
  N := N
  s₀ := s
  H₀ := H
  env := envOfC qual scope s.heap.objs.size f cd
  outer := outer
  stack := envOfC qual scope s.heap.objs.size f cd :: outer
  ex := []
  calm := true
  fn := fun _ => true
  pn := []
  xe := fun e s' => wpAny (model P w) (A.deeper (envOfC qual scope s.heap.objs.size f cd)) (leaving (envOfC qual scope s.heap.objs.size f cd) e) (fun _ s'' => CX outer H s E e s'') (fun e' s'' => CX outer H s E e' s'') s'
theorem cell_has {sc : Scope} {n : Nat} {x : Str} (h : sc.names.lookup x = some .cell) : ∃ c, (cellsFrom n sc.names []).lookup x = some c := by
  have q := PySem.W.cellsFrom_some sc.names n [] (.inl h)
  exact Option.isSome_iff_exists.mp q
theorem inv_start {CX : CXT} {P : Program} {w : World} {K : PySem.W.Frag} {mg : Str → Option Value} {base : Heap} {N ps : List Str} {qual : Str} {scope : Scope} {f : Addr} {cd : Value} {A : Around} {outer : List Env} {s s1 : Shared} {H : Hp} {E : XK} {us : List Value} {vs : List V}
    (S : FnScope N ps scope) (hd : A.handled = none) (e0 : Env0 P w K mg base A outer s H) (hl : vs.length = ps.length) (r : Vals vs us)
    (x : InCallC s s.heap.objs.size (bindL (envOfC qual scope s.heap.objs.size f cd).kindOf (ps.zip us) fun _ => none) (cellsFrom (s.heap.objs.size + 1) scope.names []) (bindC (envOfC qual scope s.heap.objs.size f cd).kindOf (ps.zip us) fun _ => none) s1) :
    Inv (cxOf CX P w K mg base N qual scope f cd A outer s H E) [] (start N vs) H s1 := by
  have hpl : ps.length ≤ N.length := by have := congrArg List.length S.pre; rw [List.length_take] at this; omega
  obtain ⟨h1, tk, rfl, hk⟩ := x.done
  have noA : ∀ b : Addr, b ∉ (cxOf CX P w K mg base N qual scope f cd A outer s H E).ex := fun b z => absurd (show b ∈ ([] : List Addr) from z) (by simp)
  refine ⟨⟨e0.mod, S.kind, rfl, rfl, Nat.le_refl _, fun y z c h1 h2 => ?_, fun y hy => ?_, fun y c _ h => ?_, fun _ => hd, Around.frames_deeper e0.frames, .inr ⟨rfl, rfl⟩, fun b z => absurd z (noA b), e0.bs, e0.bsz, fun b _ _ => noA b, fun b z => absurd z (noA b), e0.funs, e0.frf⟩,
    rfl, e0.bare, Un.kept hk, ⟨_, x.toInCall.ns, fun i y v h1 h2 h3 => ?_⟩, fun y c h => ⟨_, x.cell y c h⟩, e0.hok.fresh (Nat.le_refl _), fun y c h => ?_, fun p hp => absurd (show p ∈ ([] : List (Addr × Obj)) from hp) (by simp), e0.hok.kept hk, ?_⟩
  · exact name_of_addr x.apart (PySem.mem_of_lookup h1) (PySem.mem_of_lookup h2)
  · have hy : scope.names.lookup y = some .cell ∨ scope.names.lookup y = some .free := hy
    rcases hy with hy | hy
    · exact cell_has hy
    · exact absurd rfl (S.nofree _ (PySem.mem_of_lookup hy))
  · exact Nat.le_of_lt (x.above y c (PySem.mem_of_lookup h))
  · have hi : i < vs.length := by
      unfold start at h2
      by_cases hi : i < vs.length
      · exact hi
      · rw [List.getElem?_append_right (by simpa using hi)] at h2
        rw [List.getElem?_replicate] at h2
        split at h2 <;> cases h2
    have ha : vs[i]? = some v := by
      unfold start at h2
      rw [List.getElem?_append_left (by simpa using hi), List.getElem?_map] at h2
      cases e : vs[i]? with
      | none => rw [e] at h2; cases h2
      | some a => rw [e] at h2; cases h2; rfl
    obtain ⟨u, hu, rv⟩ := r.get ha
    have hp : ps[i]? = some y := by
      rw [← S.pre, List.getElem?_take_of_lt (by omega)]; exact h1
    have ndP : ps.Nodup := by rw [← S.pre]; exact S.nd.sublist (List.take_sublist _ _)
    refine ⟨u, rv, ?_⟩
    rcases S.par y (List.mem_of_getElem? hp) with k | k
    · exact .inl ⟨k, bindL_get ndP hp hu k⟩
    · obtain ⟨c, e⟩ := cell_has (n := s.heap.objs.size + 1) k
      refine .inr ⟨.inl k, c, e, ?_⟩
      have q := x.cell y c e
      rw [bindC_get ndP hp hu (by show scope.names.lookup y ≠ _; rw [k]; decide)] at q
      exact q
  · exact e0.hok.fresh (Nat.le_of_lt (x.above y c (PySem.mem_of_lookup h)))
  · unfold start
    show _ = N.length
    rw [List.length_append, List.length_map, List.length_replicate]
    omega
theorem fn_of {CX : CXT} {P : Program} {w : World} {K : PySem.W.Frag} {mg : Str → Option Value} {base : Heap} {k : Nat} {f : Addr} {name qual : Str} {params : Arguments} {body : List Stmt} {scope : Scope} {dV kV doc pm cdv ct oc : Value} {an od : Option Addr}
    {osl : Array (Option Value)} {N ps : List Str} {sp : Sp} (lk : K.lookup f = some ⟨oc, od, .func (PySem.W.fnOf name qual params body scope dV kV doc pm an cdv ct), osl⟩) (hcd : PySem.W.codeIn K cdv qual = true) (S : FnScope N ps scope)
    (len : ∀ vs H Q E, sp vs H Q E → vs.length = ps.length)
    (hbody : ∀ (A : Around) (outer : List Env) (s : Shared) (H : Hp) (vs : List V) (Q : VK) (E : XK), Room k (A.deeper (envOfC qual scope s.heap.objs.size f cdv)) → sp vs H Q E →
      ∃ t, PSs (cxOf CX P w K mg base N qual scope f cdv A outer s H E) body t ∧ t { nx := fun _ H' => Q .non H', rt := Q } (start N vs) H) :
    FnOk P w K mg base CX (k + 1) f (PySem.W.fnOf name qual params body scope dV kV doc pm an cdv ct) ps sp := by
  refine ⟨len, fun A outer s H args us vs Q E hr e0 hb r hsp => ?_⟩
  have hl := len _ _ _ _ hsp
  have KX : K.In s.heap := e0.mod.kin.keeps fun b o e => (e0.bs b o e).1
  have lim : s.heap.NoLimit := e0.mod.nolimit.keeps fun b o e => (e0.bs b o e).1
  have hkind : ∀ y ∈ ps.zip us, scope.names.lookup y.1 = some .local ∨ (scope.names.lookup y.1 = some .cell ∧ ((cellsFrom (s.heap.objs.size + 1) scope.names []).lookup y.1).isSome = true) := fun ⟨n, v⟩ hy => by
    rcases S.par n (List.of_mem_zip hy).1 with q | q
    · exact .inl q
    · exact .inr ⟨q, PySem.W.cellsFrom_some _ _ _ (.inl q)⟩
  refine codeAny_call_function hr.depth (KX _ _ lk) rfl S.co S.gen rfl (PySem.W.codeRec_of KX hcd) (hb _ _ _ _ ?_)
  refine wpAny_newFunctionEnv_cells S.kind hkind fun env he s1 x => ?_
  subst he
  refine ⟨lim.keeps x.toInCall.keep, codeAny_func ?_⟩
  obtain ⟨t, ht, hq⟩ := hbody A outer s H vs Q E (hr.deeper _) hsp
  have I : Inv (cxOf CX P w K mg base N qual scope f cdv A outer s H E) [] (start N vs) H s1 := inv_start S hr.hd e0 hl r x
  refine wpAny_mono (ht [] s1 (start N vs) H _ I hq) (fun fl s' hs => ?_) fun e s' hs => hs
  have fin : ∀ {σ' : St} {H' : Hp} {v : V} {u : Value}, Inv (cxOf CX P w K mg base N qual scope f cdv A outer s H E) [] σ' H' s' → RelV v u → Q v H' → CE outer P w H s Q u s' :=
    fun {σ' H' v u} J rv q => ⟨v, H', J.os, J.bare, J.base, J.hok, rv, q⟩
  cases fl with
  | ret u =>
    obtain ⟨v, σ', H', J, rv, q⟩ := hs
    exact fin J rv q
  | next =>
    obtain ⟨σ', H', J, q⟩ := hs
    exact fin (v := V.non) (u := Value.none) J rfl q
  | brk =>
    obtain ⟨_, _, _, q⟩ := hs
    exact False.elim q
  | cont =>
    obtain ⟨_, _, _, q⟩ := hs
    exact False.elim q
end L2
namespace L2
open PySem PySem.Spec PyProof.Rows
section
variable {X : Cx} {x : Str} {p pos : Pos} {e : Expr} {es : List Expr} {t : TA} {id T : String} {r : List V → Hp → VK → Prop}
def tCB (r : List V → Hp → VK → Prop) (t : TA) : TE := fun σ H Q => t σ H fun vs H1 => r vs H1 Q
theorem pe_callB (hc : CallR X (.builtin id) r) (hg : Gl X x) (hm : X.mg x = none) (hv : bootBuiltins x = some (.builtin id)) (ha : PA X (e :: es) t) (hn : x ≠ "__name__" := by decide) (hdb : (x == ("__debug__" : Str)) = false := by decide)
    (he : starEach (e :: es) X.env = (false, eval e X.env) :: starEach es X.env := by rfl) (hpl : (backTo pos (starEach es X.env)).any (·.1) = false := by rfl) : PE X (.Call (.Name x p) (e :: es) [] pos) (tCB r t) := by
  intro pins s σ H Q I h
  refine wpAny_Call_Name_kw (ld_blt I hg hm hv ?_ hn hdb)
  exact PyProof.Rows.callWith_builtin1 (thn (ha pos pins s σ H _ I h) fun us s1 ⟨vs, H1, I1, r1, q1⟩ => hc pins s1 σ H1 vs us Q I1 r1 q1) he hpl
theorem pe_callTy (hc : CallR X (.type T) r) (hg : Gl X x) (hm : X.mg x = none) (hv : bootBuiltins x = some (.type T)) (ha : PA X (e :: es) t) (hn : x ≠ "__name__" := by decide) (hdb : (x == ("__debug__" : Str)) = false := by decide)
    (he : starEach (e :: es) X.env = (false, eval e X.env) :: starEach es X.env := by rfl) (hpl : (backTo pos (starEach es X.env)).any (·.1) = false := by rfl) : PE X (.Call (.Name x p) (e :: es) [] pos) (tCB r t) := by
  intro pins s σ H Q I h
  refine wpAny_Call_Name_kw (ld_blt I hg hm hv ?_ hn hdb)
  exact PyProof.Rows.callWith_type1 (thn (ha pos pins s σ H _ I h) fun us s1 ⟨vs, H1, I1, r1, q1⟩ => hc pins s1 σ H1 vs us Q I1 r1 q1) he hpl
end
end L2
namespace HT
open PySem PyProof.Rows
section
open PySem.SeqAt
open PySem.AutoSeq1 (wpAny_loadPart')
open PySem.MeetsSeq PySem.MeetsSeq2 PySem.MeetsSeq3
end
section
variable {prog : Program} {w : World} {A : Around} {E : Value → Shared → Prop} {s : Shared}
theorem cat_tup {t b : Addr} {vs ws : List Value} {Q : Value → Shared → Prop} (ht : IsTup s.heap t vs.toArray) (hb : IsTup s.heap b ws.toArray) (hv : vs ≠ [])
    (h1 : ws = [] → Q (.ref t) s) (h2 : ws ≠ [] → Q (.ref s.heap.objs.size) { s with heap := s.heap.push { cls := .type "tuple", data := .seq (vs ++ ws).toArray } })
    (hsz : vs.length + ws.length ≤ sizeLine) : wpAny (model prog w) A (binaryOp .Add (.ref t) (.ref b)) Q E s := by
  obtain ⟨⟨cls, dd, data, sl⟩, ho, hc, n, hd⟩ := id ht
  obtain ⟨⟨cls2, dd2, data2, sl2⟩, ho2, hc2, n2, hd2⟩ := id hb
  simp only at hc hd hc2 hd2
  subst hc hd hc2 hd2
  have e : vs.toArray ++ ws.toArray = (vs ++ ws).toArray := by simp
  by_cases hw : ws = []
  · exact concat_meets ⟨_, ho, rfl⟩ ⟨_, ho2, rfl⟩ noFill_tuple_add seq_tuple_add PySem.F.slot_tuple_add PySem.F.entry_tuple_add (PySem.F.args_tuple_add_2 _ _)
      (tuple_addW1 t b vs.toArray ws.toArray n n2 dd dd2 sl sl2 (by simpa using hv) (by simp [hw])) ⟨ho, ho2, h1 hw⟩
  · refine concat_meets ⟨_, ho, rfl⟩ ⟨_, ho2, rfl⟩ noFill_tuple_add seq_tuple_add PySem.F.slot_tuple_add PySem.F.entry_tuple_add (PySem.F.args_tuple_add_2 _ _)
      (tuple_addW2 t b vs.toArray ws.toArray n n2 dd dd2 sl sl2 (by simpa using hv) (by simpa using hw) (by rw [List.size_toArray, List.size_toArray]; exact hsz)) ⟨ho, ho2, ?_⟩
    rw [e]
    exact h2 hw
def sIx (n d : Nat) : Option Int → Nat
  | none => d
  | some v => if v < 0 then (v + (n : Int)).toNat else min v.toNat n
theorem sIx_none (n d : Nat) : sIx n d none = d := rfl
end
end HT
namespace L2
open PySem PySem.Spec PyProof.Rows
abbrev TO := St → Hp → (Option Int → Hp → Prop) → Prop
def PO (X : Cx) (e : Option Expr) (t : TO) : Prop :=
  ∀ (pins : List (Addr × Obj)) (s : Shared) (σ : St) (H : Hp) (Q : Option Int → Hp → Prop), Inv X pins σ H s → t σ H Q →
    wpAny (model X.prog X.w) X.A (evalPart e X.env) (fun u s' => ∃ o H', Inv X pins σ H' s' ∧ IsPart u o ∧ Q o H') X.xe s
def tNoPart : TO := fun _ H Q => Q none H
def tPart (t : TE) : TO := fun σ H Q => t σ H fun x H1 => ∃ i, x = .int i ∧ Q (some i) H1
theorem intsAre_of {ns : List Int} : ∀ {us : List Value}, Vals (ns.map V.int) us → IntsAre us ns := by
  induction ns with
  | nil => intro us r; rw [List.map_nil] at r; cases r; exact .nil
  | cons n ns ih =>
    intro us r
    rw [List.map_cons] at r
    cases r with
    | cons r1 r2 =>
      obtain ⟨t, e⟩ := r1
      subst e
      exact .cons n t (ih r2)
section
variable {X : Cx} {e : Expr} {te : TE} {lo hi : Option Expr} {tl th : TO} {pos p2 : Pos}
theorem po_none : PO X none tNoPart := by
  intro pins s σ H Q I h
  rw [evalPart_none]
  exact wpAny_pure ⟨none, H, I, .none, h⟩
theorem po_some (h : PE X e te) : PO X (some e) (tPart te) := by
  intro pins s σ H Q I hw
  rw [evalPart_some]
  refine thn (h pins s σ H _ I hw) fun u s1 ⟨x, H1, I1, r1, q1⟩ => ?_
  obtain ⟨i, rfl, q⟩ := q1
  obtain ⟨t, rfl⟩ := r1
  exact ⟨some i, H1, I1, .int i t, q⟩
def SlR (X : Cx) (r : V → Option Int → Option Int → Hp → VK → Prop) : Prop :=
  ∀ (pins : List (Addr × Obj)) (s : Shared) (σ : St) (H : Hp) (x : V) (v vl vu : Value) (lo hi : Option Int) (sl : Addr) (Q : VK), Inv X pins σ H s → RelV x v → s.heap.IsSliceOf sl vl vu .none → IsPart vl lo → IsPart vu hi → r x lo hi H Q →
    ∃ T id, typeLookup (.type T) "__getitem__" = pure (some (.builtin id)) ∧ s.TypeIs v T ∧ wpAny (model X.prog X.w) X.A (getItem v (.ref sl)) (EP X pins σ Q) X.xe s
theorem SlR.or {r r' : V → Option Int → Option Int → Hp → VK → Prop} (h : SlR X r) (h' : SlR X r') : SlR X (fun x lo hi H Q => r x lo hi H Q ∨ r' x lo hi H Q) := by
  intro pins s σ H x v vl vu lo hi sl Q I rx hs pl pu q
  rcases q with q | q
  · exact h pins s σ H x v vl vu lo hi sl Q I rx hs pl pu q
  · exact h' pins s σ H x v vl vu lo hi sl Q I rx hs pl pu q
def tSl (r : V → Option Int → Option Int → Hp → VK → Prop) (te : TE) (tl th : TO) : TE := fun σ H Q => te σ H fun x H1 => tl σ H1 fun l H2 => th σ H2 fun u H3 => r x l u H3 Q
theorem pe_slice {r : V → Option Int → Option Int → Hp → VK → Prop} (hr : SlR X r) (he : PE X e te) (hl : PO X lo tl) (hu : PO X hi th) : PE X (.Subscript e (.Slice lo hi none p2) pos) (tSl r te tl th) := by
  intro pins s σ H Q I h
  refine Subscript_ (thn (he pins s σ H _ I h) fun v s1 ⟨x, H1, I1, r1, q1⟩ => ?_)
  refine wpAny_Slice (thn (hl pins s1 σ H1 _ I1 q1) fun vl s2 ⟨l, H2, I2, pl, q2⟩ => thn (hu pins s2 σ H2 _ I2 q2) fun vu s3 ⟨u, H3, I3, pu, q3⟩ => ?_)
  rw [evalPart_none]
  refine wpAny_pure ?_
  have I4 : Inv X pins σ H3 { s3 with heap := s3.heap.push { cls := .type "slice", data := .fields #[vl, vu, .none] } } := I3.kept (t' := s3.toks) fun b ob q => Heap.get?_push_of_some _ q
  obtain ⟨T, id, hT, ht, hg⟩ := hr pins { s3 with heap := s3.heap.push { cls := .type "slice", data := .fields #[vl, vu, .none] } } σ H3 x v vl vu l u s3.heap.objs.size Q I4 r1 (Heap.IsSliceOf.new ..) pl pu q3
  show wpAny (model X.prog X.w) X.A (subscriptTail e (.Slice lo hi none p2) v (.ref s3.heap.objs.size)) (EP X pins σ Q) X.xe { s3 with heap := s3.heap.push { cls := .type "slice", data := .fields #[vl, vu, .none] } }
  exact tail_any (ops := [.ref s3.heap.objs.size, v]) ht hT hg (by with_unfolding_all rfl)
def cutV (xs : List V) (lo hi : Option Int) : List V := (xs.drop (HT.sIx xs.length 0 lo)).take (HT.sIx xs.length xs.length hi - HT.sIx xs.length 0 lo)
theorem cutV_length (xs : List V) (lo hi : Option Int) : (cutV xs lo hi).length ≤ xs.length := by
  unfold cutV
  rw [List.length_take, List.length_drop]
  omega
def rCatT (K : PySem.W.Frag) : R2 := fun x y H Q => ∃ a b xs ys, x = .ref a ∧ y = .ref b ∧ SqT K H a xs ∧ SqT K H b ys ∧ xs ≠ [] ∧ xs.length + ys.length ≤ sizeLine ∧
  (ys = [] → Q (.ref a) H) ∧ (ys ≠ [] → ∀ p, H p = none → Q (.ref p) (upd H p (.tup (xs ++ ys))))
theorem Vals.nil_iff {xs : List V} {us : List Value} (r : Vals xs us) : us = [] ↔ xs = [] := by
  cases r with
  | nil => simp
  | cons _ _ => simp
theorem op_catT : OpR X (binaryOp .Add) (rCatT X.K) := by
  intro pins s σ H x y v u Q I rx ry h
  obtain ⟨a, b, xs, ys, rfl, rfl, ha, hb, hx, hz, q1, q2⟩ := h
  cases rx
  cases ry
  obtain ⟨its, r1, p1, _⟩ := I.tuple ha
  obtain ⟨its2, r2, p2, _⟩ := I.tuple hb
  refine HT.cat_tup p1 p2 (fun z => hx (r1.nil_iff.mp z)) (fun z => ⟨.ref a, H, I, rfl, q1 (r2.nil_iff.mp z)⟩) (fun z => ?_) (by rw [← r1.length, ← r2.length]; exact hz)
  refine ⟨.ref s.heap.objs.size, _, I.laid (t' := s.toks) (o := .tup (xs ++ ys)) (fun b ob q => Heap.get?_push_of_some _ q) (Nat.le_refl _) ?_, rfl, q2 (fun w => z (r2.nil_iff.mpr w)) _ (I.hok.fresh (Nat.le_refl _))⟩
  exact ⟨by rw [List.length_append]; exact hz, _, r1.append r2, IsTup.new _ _⟩
end
end L2
namespace L2
open PySem PySem.Spec PyProof.Rows
def ixN (n : Nat) (i : Int) : Option Nat := if 0 ≤ i then (if i < n then some i.toNat else none) else if -(n : Int) ≤ i then some (i + n).toNat else none
def atI {α : Type} (xs : List α) (i : Int) : Option α := (ixN xs.length i).bind fun j => xs[j]?
theorem ixN_seq {n : Nat} {i : Int} {j : Nat} (h : ixN n i = some j) : seqIndex? i n = some j ∧ j < n ∧ -(n : Int) ≤ i ∧ i < n := by
  unfold ixN at h
  by_cases h0 : 0 ≤ i
  · rw [if_pos h0] at h
    by_cases h1 : i < n
    · rw [if_pos h1] at h
      have e : i.toNat = j := Option.some.inj h
      exact ⟨by rw [seqIndex_of h0 h1, e], by omega, by omega, h1⟩
    · rw [if_neg h1] at h; cases h
  · rw [if_neg h0] at h
    by_cases h1 : -(n : Int) ≤ i
    · rw [if_pos h1] at h
      have e : (i + n).toNat = j := Option.some.inj h
      exact ⟨by rw [seqIndex_neg (by omega) h1, e], by omega, h1, by omega⟩
    · rw [if_neg h1] at h; cases h
theorem atI_get {α : Type} {xs : List α} {i : Int} {v : α} (h : atI xs i = some v) : ∃ j, seqIndex? i xs.length = some j ∧ xs[j]? = some v ∧ j < xs.length ∧ -(xs.length : Int) ≤ i ∧ i < xs.length := by
  unfold atI at h
  cases e : ixN xs.length i with
  | none => rw [e] at h; cases h
  | some j =>
    rw [e] at h
    obtain ⟨h1, h2, h3, h4⟩ := ixN_seq e
    exact ⟨j, h1, h, h2, h3, h4⟩
theorem atI_nat {α : Type} {xs : List α} {j : Nat} {v : α} (h : xs[j]? = some v) : atI xs (j : Int) = some v := by
  have hj : j < xs.length := (List.getElem?_eq_some_iff.mp h).1
  have e : ixN xs.length (j : Int) = some j := by
    unfold ixN
    rw [if_pos (by omega), if_pos (by omega)]; simp
  unfold atI; rw [e]; exact h
def PlainIx (b : Expr) : Prop := ∀ o i, subscripted b false o i = operate [o, i] (getItem o i)
def IxR (X : Cx) (r : R2) : Prop :=
  ∀ (value slice : Expr) (pins : List (Addr × Obj)) (s : Shared) (σ : St) (H : Hp) (x y : V) (v u : Value) (Q : VK), Inv X pins σ H s → RelV x v → RelV y u → r x y H Q →
    subscripted slice false v u = operate [v, u] (getItem v u) → wpAny (model X.prog X.w) X.A (subscriptTail value slice v u) (EP X pins σ Q) X.xe s
def MtR (X : Cx) (id : String) (r : V → List V → Hp → VK → Prop) : Prop :=
  ∀ (pins : List (Addr × Obj)) (s : Shared) (σ : St) (H : Hp) (x : V) (xs : List V) (v : Value) (us : List Value) (Q : VK), Inv X pins σ H s → RelV x v → Vals xs us → r x xs H Q →
    wpAny (model X.prog X.w) X.A (call (.builtin id) (v :: us)) (EP X pins σ Q) X.xe s
section
variable {X : Cx} {a b : Expr} {ta tb : TE} {pos : Pos}
theorem IxR.or {r r' : R2} (h : IxR X r) (h' : IxR X r') : IxR X (fun x y H Q => r x y H Q ∨ r' x y H Q) := by
  intro value slice pins s σ H x y v u Q I rx ry q hs
  rcases q with q | q
  · exact h value slice pins s σ H x y v u Q I rx ry q hs
  · exact h' value slice pins s σ H x y v u Q I rx ry q hs
theorem MtR.or {id : String} {r r' : V → List V → Hp → VK → Prop} (h : MtR X id r) (h' : MtR X id r') : MtR X id (fun x xs H Q => r x xs H Q ∨ r' x xs H Q) := by
  intro pins s σ H x xs v us Q I rx rs q
  rcases q with q | q
  · exact h pins s σ H x xs v us Q I rx rs q
  · exact h' pins s σ H x xs v us Q I rx rs q
theorem pe_ix {r : R2} (hr : IxR X r) (ha : PE X a ta) (hb : PE X b tb) (hs : PlainIx b) : PE X (.Subscript a b pos) (tOp r ta tb) := by
  intro pins s σ H Q I h
  exact Subscript_ (binT ha hb I h fun v u s2 x y H2 I2 rx ry q => hr a b pins s2 σ H2 x y v u Q I2 rx ry q (hs _ _))
def rIxL (K : PySem.W.Frag) : R2 := fun x y H Q => ∃ p xs i v, x = .ref p ∧ y = .int i ∧ SqL K H p xs ∧ atI xs i = some v ∧ Q v H
def rIxT (K : PySem.W.Frag) : R2 := fun x y H Q => ∃ p xs i v, x = .ref p ∧ y = .int i ∧ SqT K H p xs ∧ atI xs i = some v ∧ Q v H
def rIxS : R2 := fun x y H Q => ∃ z i c, x = .str z ∧ y = .int i ∧ z.length ≤ sizeLine ∧ atI z.cps.toList i = some c ∧ Q (.str ⟨#[c]⟩) H
theorem ix_list : IxR X (rIxL X.K) := by
  intro value slice pins s σ H x y v u Q I rx ry h hs
  obtain ⟨p, xs, i, z, rfl, rfl, hq, he, q⟩ := h
  cases rx
  obtain ⟨t, rfl⟩ := ry
  obtain ⟨its, r, pl, hz⟩ := I.list hq
  obtain ⟨j, h1, h2, h3, h4, h5⟩ := atI_get he
  obtain ⟨w, ew, rw'⟩ := r.get h2
  have hl := r.length
  have hn := line63
  have fin : EP X pins σ Q w s := ⟨z, H, I, rw', q⟩
  by_cases h0 : 0 ≤ i
  · have hj : i.toNat = j := by
      rw [seqIndex_of h0 h5] at h1
      exact Option.some.inj h1
    exact item_listR pl.isList h0 (by omega) (by rw [hj]; simpa using ew) fin hs
  · have hj : (i + (its.toArray.size : Int)).toNat = j := by
      rw [seqIndex_neg (by omega) h4] at h1
      rw [List.size_toArray, ← hl]
      exact Option.some.inj h1
    exact subscriptTail_builtinR (x := w) pl.isList.typeIs slot_list_getitem.lookup
      (wpAny_getItem_list_neg (Q := fun r s' => r = w ∧ EP X pins σ Q r s') pl.isList (by omega) (by rw [List.size_toArray] <;> omega) (by omega) (by rw [hj]; simpa using ew) ⟨rfl, fin⟩) hs
theorem ix_tup : IxR X (rIxT X.K) := by
  intro value slice pins s σ H x y v u Q I rx ry h hs
  obtain ⟨p, xs, i, z, rfl, rfl, hq, he, q⟩ := h
  cases rx
  obtain ⟨t, rfl⟩ := ry
  obtain ⟨its, r, pl, hz⟩ := I.tuple hq
  obtain ⟨j, h1, h2, h3, h4, h5⟩ := atI_get he
  obtain ⟨w, ew, rw'⟩ := r.get h2
  have hl := r.length
  have hn := line63
  have fin : EP X pins σ Q w s := ⟨z, H, I, rw', q⟩
  exact subscriptTail_builtinR (x := w) pl.typeIs slot_tuple_getitem.lookup
    (getItem_tuple (j := j) (Q := fun r s' => r = w ∧ EP X pins σ Q r s') pl (by omega) (by omega) (by rw [List.size_toArray, ← hl]; exact h1) (by simpa using ew) ⟨rfl, fin⟩) hs
theorem ix_str : IxR X rIxS := by
  intro value slice pins s σ H x y v u Q I rx ry h hs
  obtain ⟨z, i, c, rfl, rfl, hz, he, q⟩ := h
  obtain ⟨t, rfl⟩ := rx
  obtain ⟨t', rfl⟩ := ry
  obtain ⟨j, h1, h2, h3, h4, h5⟩ := atI_get he
  have hl : z.cps.toList.length = z.length := by simp [Str.length]
  rw [hl] at h1 h4 h5
  have hn := line63
  exact tail_any (typeIs_str s z t) slot_str_getitem.lookup (getItem_str (c := c) (by
    have e1 : decide (i < -(2 ^ 63 : Int)) = false := decide_eq_false (by omega)
    have e2 : decide (i ≥ 2 ^ 63) = false := decide_eq_false (by omega)
    rw [e1, e2, Bool.or_false]) (by rw [h1]; simpa using h2) ⟨.str ⟨#[c]⟩, H, I.tok _, ⟨_, rfl⟩, q⟩) hs
def rIx (K : PySem.W.Frag) : R2 := fun x y H Q => rIxL K x y H Q ∨ rIxT K x y H Q ∨ rIxS x y H Q
theorem ix_seq : IxR X (rIx X.K) := ix_list.or (ix_tup.or ix_str)
theorem Inv.lst {pins : List (Addr × Obj)} {σ : St} {H : Hp} {s : Shared} {p : Addr} {xs : List V} (I : Inv X pins σ H s) (h : H p = some (.lst xs)) :
    ∃ (its : List Value) (n : Nat), Vals xs its ∧ s.heap.get? p = some { cls := .type "list", data := .seq its.toArray n } ∧ xs.length ≤ sizeLine := by
  obtain ⟨z, its, n, r, e⟩ := I.hok p _ h
  exact ⟨its, n, r, e, z⟩
theorem slice_bounds (lo hi : Option Int) (n : Nat) : (sliceBounds lo hi none n).1 = ((HT.sIx n 0 lo : Nat) : Int) ∧ (sliceBounds lo hi none n).2.1 = ((HT.sIx n n hi : Nat) : Int) ∧ (sliceBounds lo hi none n).2.2 = 1 := by
  refine ⟨?_, ?_, rfl⟩
  · cases lo with
    | none => simp [sliceBounds, HT.sIx]
    | some i =>
      simp only [sliceBounds, HT.sIx, Option.getD_none, show (1 : Int) > 0 by decide, if_true]
      by_cases h : i < 0
      · simp only [h, if_true] <;> omega
      · simp only [h, if_false] <;> omega
  · cases hi with
    | none => simp [sliceBounds, HT.sIx]
    | some i =>
      simp only [sliceBounds, HT.sIx, Option.getD_none, show (1 : Int) > 0 by decide, if_true]
      by_cases h : i < 0
      · simp only [h, if_true] <;> omega
      · simp only [h, if_false] <;> omega
theorem slicePick_cut (its : List Value) (lo hi : Option Int) : slicePick its.toArray lo hi none = ((its.drop (HT.sIx its.length 0 lo)).take (HT.sIx its.length its.length hi - HT.sIx its.length 0 lo)).toArray := by
  obtain ⟨h1, h2, h3⟩ := slice_bounds lo hi its.toArray.size
  unfold slicePick
  rw [h1, h2, h3]
  simp only [sliceRange_one, pick_run, List.size_toArray] <;> rfl
def rSlL (K : PySem.W.Frag) : V → Option Int → Option Int → Hp → VK → Prop := fun x lo hi H Q => ∃ a xs, x = .ref a ∧ SqL K H a xs ∧ ∀ p, H p = none → Q (.ref p) (upd H p (.lst (cutV xs lo hi)))
theorem sl_list : SlR X (rSlL X.K) := by
  intro pins s σ H x v vl vu lo hi sl Q I rx hs pl pu h
  obtain ⟨a, xs, rfl, hx, q⟩ := h
  cases rx
  obtain ⟨its, r, ht, hz⟩ := I.list hx
  have hlen := r.length
  refine ⟨"list", _, slot_list_getitem.lookup, ht.isList.typeIs, ?_⟩
  refine wpAny_getItem_list_slice ht.isList hs pl pu .none (by simp) ?_ (by rw [List.size_toArray] <;> omega)
  rw [slicePick_cut, ← hlen]
  refine ⟨.ref s.heap.objs.size, _, I.laid (t' := s.toks) (o := .lst (cutV xs lo hi)) (fun b ob q => Heap.get?_push_of_some _ q) (Nat.le_refl _) ?_, rfl, q _ (I.hok.fresh (Nat.le_refl _))⟩
  exact ⟨Nat.le_trans (cutV_length xs lo hi) hz, _, 0, (r.drop (HT.sIx xs.length 0 lo)).take (HT.sIx xs.length xs.length hi - HT.sIx xs.length 0 lo), Heap.get?_push_size _ rfl⟩
def flatV : V → Bool
  | .non => true
  | .bl _ => true
  | .int _ => true
  | .str _ => true
  | _ => false
def eqV : V → V → Bool
  | .non, .non => true
  | .bl a, .bl b => a == b
  | .bl a, .int b => (if a then 1 else 0) == b
  | .int a, .bl b => a == (if b then 1 else 0)
  | .int a, .int b => a == b
  | .str a, .str b => a == b
  | _, _ => false
theorem eqAt_V {A : Around} {s : Shared} {y x : V} {u v : Value} (ry : RelV y u) (rx : RelV x v) (fy : flatV y = true) (fx : flatV x = true) : SeqAt.EqAt A s u v (eqV y x) := by
  cases y with
  | non =>
    cases ry
    cases x with
    | non => cases rx; exact SeqAt.EqAt.same _
    | bl b => cases rx; exact SeqAt.EqAt.none_bool b
    | int b => obtain ⟨t, rfl⟩ := rx; exact SeqAt.EqAt.none_int b t
    | str b => obtain ⟨t, rfl⟩ := rx; exact SeqAt.EqAt.none_str b t
    | _ => exact absurd (show false = true from fx) Bool.false_ne_true
  | bl a =>
    cases ry
    cases x with
    | non => cases rx; exact SeqAt.EqAt.bool_none a
    | bl b => cases rx; exact SeqAt.EqAt.bool_bool a b
    | int b => obtain ⟨t, rfl⟩ := rx; exact SeqAt.EqAt.bool_int a b t
    | str b => obtain ⟨t, rfl⟩ := rx; exact SeqAt.EqAt.bool_str a b t
    | _ => exact absurd (show false = true from fx) Bool.false_ne_true
  | int a =>
    obtain ⟨t', rfl⟩ := ry
    cases x with
    | non => cases rx; exact SeqAt.EqAt.int_none a t'
    | bl b => cases rx; exact SeqAt.EqAt.int_bool a t' b
    | int b => obtain ⟨t, rfl⟩ := rx; exact SeqAt.EqAt.int_int a t' b t
    | str b => obtain ⟨t, rfl⟩ := rx; exact SeqAt.EqAt.int_str a t' b t
    | _ => exact absurd (show false = true from fx) Bool.false_ne_true
  | str a =>
    obtain ⟨t', rfl⟩ := ry
    cases x with
    | non => cases rx; exact SeqAt.EqAt.str_none a t'
    | bl b => cases rx; exact SeqAt.EqAt.str_bool a t' b
    | int b => obtain ⟨t, rfl⟩ := rx; exact SeqAt.EqAt.str_int a t' b t
    | str b => obtain ⟨t, rfl⟩ := rx; exact SeqAt.EqAt.str_str a t' b t
    | _ => exact absurd (show false = true from fx) Bool.false_ne_true
  | _ => exact absurd (show false = true from fy) Bool.false_ne_true
def eqU (x : V) (u : Value) : Bool := match u with
  | .none => eqV .non x
  | .bool b => eqV (.bl b) x
  | .int i _ => eqV (.int i) x
  | .str z _ => eqV (.str z) x
  | _ => false
theorem eqU_of {x y : V} {u : Value} (r : RelV y u) (f : flatV y = true) : eqU x u = eqV y x := by
  cases y with
  | non => cases r; rfl
  | bl b => cases r; rfl
  | int i => obtain ⟨t, rfl⟩ := r; rfl
  | str z => obtain ⟨t, rfl⟩ := r; rfl
  | _ => exact absurd (show false = true from f) Bool.false_ne_true
theorem any_eqU {x : V} : ∀ {xs : List V} {us : List Value}, Vals xs us → xs.all flatV = true → us.any (eqU x) = xs.any fun y => eqV y x
  | _, _, .nil, _ => rfl
  | y :: xs, u :: us, .cons r t, f => by
    rw [List.all_cons, Bool.and_eq_true] at f
    rw [List.any_cons, List.any_cons, eqU_of r f.1, any_eqU t f.2]
theorem mem_eqAt {A : Around} {s : Shared} {x : V} {v : Value} (rx : RelV x v) (fx : flatV x = true) : ∀ {xs : List V} {us : List Value}, Vals xs us → xs.all flatV = true → ∀ u ∈ us, SeqAt.EqAt A s u v (eqU x u)
  | _, _, .nil, _ => fun u hu => by cases hu
  | y :: xs, u :: us, .cons r t, f => fun u' hu => by
    rw [List.all_cons, Bool.and_eq_true] at f
    rcases List.mem_cons.mp hu with rfl | hu
    · rw [eqU_of r f.1]; exact eqAt_V r rx f.1 fx
    · exact mem_eqAt rx fx t f.2 u' hu
def inV (x : V) (xs : List V) : Bool := xs.any fun y => eqV y x
def rIn (K : PySem.W.Frag) (neg : Bool) : R2 := fun x y H Q => ∃ p xs, y = .ref p ∧ (SqL K H p xs ∨ SqT K H p xs) ∧ flatV x = true ∧ xs.all flatV = true ∧ Q (.bl (if neg then !inV x xs else inV x xs)) H
theorem op_in_seq : OpR X (compareOp .In) (rIn X.K false) := by
  intro pins s σ H x y v u Q I rx ry h
  obtain ⟨p, xs, rfl, hq, fx, fs, q⟩ := h
  cases ry
  rcases hq with hq | hq
  · obtain ⟨its, r, pl, hz⟩ := I.list hq
    refine SeqAt.in_listAt (eqU x) pl.isList (fun w hw => mem_eqAt rx fx r fs w (by simpa using hw)) ⟨.bl _, H, I, rfl, ?_⟩
    rw [show its.toArray.any (eqU x) = its.any (eqU x) by simp, any_eqU r fs]
    exact q
  · obtain ⟨its, r, pl, hz⟩ := I.tuple hq
    refine SeqAt.in_tupleAt (eqU x) pl (fun w hw => mem_eqAt rx fx r fs w (by simpa using hw)) ⟨.bl _, H, I, rfl, ?_⟩
    rw [show its.toArray.any (eqU x) = its.any (eqU x) by simp, any_eqU r fs]
    exact q
theorem op_notIn_seq : OpR X (compareOp .NotIn) (rIn X.K true) := by
  intro pins s σ H x y v u Q I rx ry h
  obtain ⟨p, xs, rfl, hq, fx, fs, q⟩ := h
  cases ry
  rcases hq with hq | hq
  · obtain ⟨its, r, pl, hz⟩ := I.list hq
    refine SeqAt.notIn_listAt (eqU x) pl.isList (fun w hw => mem_eqAt rx fx r fs w (by simpa using hw)) ⟨.bl _, H, I, rfl, ?_⟩
    rw [show its.toArray.any (eqU x) = its.any (eqU x) by simp, any_eqU r fs]
    exact q
  · obtain ⟨its, r, pl, hz⟩ := I.tuple hq
    refine SeqAt.notIn_tupleAt (eqU x) pl (fun w hw => mem_eqAt rx fx r fs w (by simpa using hw)) ⟨.bl _, H, I, rfl, ?_⟩
    rw [show its.toArray.any (eqU x) = its.any (eqU x) by simp, any_eqU r fs]
    exact q
theorem CallR.or {f : Value} {r r' : List V → Hp → VK → Prop} (h : CallR X f r) (h' : CallR X f r') : CallR X f (fun xs H Q => r xs H Q ∨ r' xs H Q) := by
  intro pins s σ H xs us Q I rs q
  rcases q with q | q
  · exact h pins s σ H xs us Q I rs q
  · exact h' pins s σ H xs us Q I rs q
theorem call_list_of : CallR X (.type "list") (fun xs H Q => ∃ p ys, xs = [.ref p] ∧ (SqL X.K H p ys ∨ SqT X.K H p ys) ∧ ∀ l, H l = none → Q (.ref l) (upd H l (.lst ys))) := by
  intro pins s σ H xs us Q I r h
  obtain ⟨p, ys, rfl, hq, q⟩ := h
  obtain ⟨u, rfl, rx⟩ := vals1 r
  cases rx
  have fin : ∀ (its : List Value), Vals ys its → ys.length ≤ sizeLine → ∀ (h' : Heap) (c' : Nat), (∀ b o', s.heap.get? b = some o' → h'.get? b = some o') →
      h'.get? s.heap.objs.size = some { cls := .type "list", dict := none, data := .seq its.toArray c', slots := #[] } → EP X pins σ Q (.ref s.heap.objs.size) { s with heap := h' } := fun its r' hz h' c' kp e =>
    ⟨.ref s.heap.objs.size, _, I.laid (t' := s.toks) kp (Nat.le_refl _) (show ObjOk X.prog X.w _ h' _ (.lst ys) from ⟨hz, its, c', r', e⟩), rfl, q _ (I.hok.fresh (Nat.le_refl _))⟩
  rcases hq with hq | hq
  · obtain ⟨its, r', pl, hz⟩ := I.list hq
    have hlen := r'.length
    obtain ⟨o, ho, hc, n, hd⟩ := pl.isList
    exact call_list_seq p (.inl rfl) ho hc hd (fun h' c' kp e => fin its r' hz h' c' kp e) (by simp only [List.size_toArray] <;> omega)
  · obtain ⟨its, r', pl, hz⟩ := I.tuple hq
    have hlen := r'.length
    obtain ⟨o, ho, hc, n, hd⟩ := pl
    exact call_list_seq p (.inr rfl) ho hc hd (fun h' c' kp e => fin its r' hz h' c' kp e) (by simp only [List.size_toArray] <;> omega)
theorem call_tuple_of : CallR X (.type "tuple") (fun xs H Q => ∃ p ys, xs = [.ref p] ∧ ((SqL X.K H p ys ∧ ∀ l, H l = none → Q (.ref l) (upd H l (.tup ys))) ∨ (SqT X.K H p ys ∧ Q (.ref p) H))) := by
  intro pins s σ H xs us Q I r h
  obtain ⟨p, ys, rfl, h⟩ := h
  obtain ⟨u, rfl, rx⟩ := vals1 r
  cases rx
  rcases h with ⟨hq, q⟩ | ⟨hq, q⟩
  · obtain ⟨its, r', pl, hz⟩ := I.list hq
    have hlen := r'.length
    refine call_tuple_list pl.isList (fun h' kp => ?_) (by simp only [List.size_toArray] <;> omega)
    have I1 : Inv X pins σ H { s with heap := h' } := I.kept (t' := s.toks) kp
    have I2 : Inv X pins σ (upd H h'.objs.size (.tup ys)) { s with heap := h'.push { cls := .type "tuple", data := .seq its.toArray } } :=
      I1.laid (t' := s.toks) (fun b o e => Heap.get?_push_of_some _ e) (Nat.le_refl _) (show ObjOk X.prog X.w _ _ _ (.tup ys) from ⟨hz, its, r', IsTup.new _ _⟩)
    exact ⟨.ref h'.objs.size, _, I2, rfl, q _ (I1.hok.fresh (Nat.le_refl _))⟩
  · obtain ⟨its, r', pl, hz⟩ := I.tuple hq
    exact call_tuple_same pl ⟨.ref p, H, I, rfl, q⟩
def tyV (K : PySem.W.Frag) (T : String) (x : V) (H : Hp) : Prop := match x with
  | .str _ => T = "str"
  | .int _ => T = "int"
  | .ref p => (T = "list" ∧ ∃ xs, SqL K H p xs) ∨ (T = "tuple" ∧ ∃ o, K.lookup p = some o ∧ o.cls = .type "tuple" ∧ o.dict = none) ∨
      (T = "dict" ∧ ((∃ kvs, H p = some (.dK kvs)) ∨ ∃ kvs, H p = some (.dT kvs))) ∨ (T = "set" ∧ ∃ S n, H p = some (.set S n))
  | _ => False
theorem tyV_is {pins : List (Addr × Obj)} {σ : St} {H : Hp} {s : Shared} {T : String} {x : V} {v : Value} (I : Inv X pins σ H s) (r : RelV x v) (ty : tyV X.K T x H) :
    s.TypeIs v T ∧ ∀ a, v = .ref a → ∃ ob, s.heap.get? a = some ob ∧ ob.dict = none := by
  cases x with
  | str z =>
    obtain ⟨t, rfl⟩ := r
    cases (show T = "str" from ty)
    exact ⟨typeIs_str s z t, fun _ e => nomatch e⟩
  | int i =>
    obtain ⟨t, rfl⟩ := r
    cases (show T = "int" from ty)
    exact ⟨typeIs_int s i t, fun _ e => nomatch e⟩
  | ref p =>
    cases r
    rcases ty with ⟨rfl, xs, hq⟩ | ⟨rfl, o, hk, hc, hd⟩ | ⟨rfl, hk⟩ | ⟨rfl, S, n, hk⟩
    · obtain ⟨its, _, pl, _⟩ := I.list hq
      refine ⟨pl.isList.typeIs, fun a e => ?_⟩
      cases e
      obtain ⟨o, n, e, c, hd, _⟩ := pl
      exact ⟨o, e, hd⟩
    · refine ⟨⟨o, I.kIn p o hk, hc⟩, fun a e => ?_⟩
      cases e
      exact ⟨o, I.kIn _ o hk, hd⟩
    · have z : ∃ o, s.heap.get? p = some o ∧ o.ExactDict := by
        rcases hk with ⟨kvs, hk⟩ | ⟨kvs, hk⟩
        · obtain ⟨_, _, _, _, o, _, _, e, ex, _⟩ := I.hok p _ hk
          exact ⟨o, e, ex⟩
        · obtain ⟨_, _, _, _, o, _, _, e, ex, _⟩ := I.hok p _ hk
          exact ⟨o, e, ex⟩
      obtain ⟨o, e, ex⟩ := z
      refine ⟨⟨o, e, ex.1⟩, fun a e2 => ?_⟩
      cases e2
      exact ⟨o, e, ex.2.1⟩
    · obtain ⟨o, _, _, _, e, ex, _⟩ := I.hok p _ hk
      refine ⟨⟨o, e, ex.1⟩, fun a e2 => ?_⟩
      cases e2
      exact ⟨o, e, ex.2.1⟩
  | _ => exact False.elim ty
def tBM0 (K : PySem.W.Frag) (T : String) (r : V → List V → Hp → VK → Prop) (to : TE) : TE := fun σ H Q => to σ H fun x H1 => tyV K T x H1 ∧ r x [] H1 Q
def tBM (K : PySem.W.Frag) (T : String) (r : V → List V → Hp → VK → Prop) (to : TE) (t : TA) : TE := fun σ H Q => to σ H fun x H1 => tyV K T x H1 ∧ t σ H1 fun xs H2 => r x xs H2 Q
variable {o e : Expr} {es : List Expr} {to : TE} {t : TA} {name : Str} {apos cpos : Pos} {T id : String} {r : V → List V → Hp → VK → Prop}
theorem pe_bm0 (pa : PlainAttrs T) (slot : Slot T name id) (hty : typeOf (.builtin id) = pure (.type "method_descriptor")) (hm : MtR X id r) (ho : PE X o to)
    (hbase : attributeBase o name X.env (eval o X.env) = eval o X.env := by rfl) (hline : (apos.endLine == cpos.line) = true := by rfl) : PE X (.Call (.Attribute o name apos) [] [] cpos) (tBM0 X.K T r to) := by
  intro pins s σ H Q I h
  refine wpAny_Call_method0_late hbase hline (thn (ho pins s σ H _ I h) fun v s1 ⟨x, H1, I1, r1, ty, q1⟩ => ?_)
  obtain ⟨h1, h2⟩ := tyV_is I1 r1 ty
  exact ⟨T, id, pa, slot, hty, h1, h2, Calls.callWith_builtin rfl (PySem.evalArgs_none (hm pins s1 σ H1 x [] v [] Q I1 r1 .nil q1))⟩
theorem pe_bm (pa : PlainAttrs T) (slot : Slot T name id) (hty : typeOf (.builtin id) = pure (.type "method_descriptor")) (hm : MtR X id r) (ho : PE X o to) (ha : PA X (e :: es) t)
    (hbase : attributeBase o name X.env (eval o X.env) = eval o X.env := by rfl)
    (hfew : ((backTo cpos (starEach (e :: es) X.env)).all (fun x => !x.1) && (backToKw cpos (keywordEach [] X.env)).all (fun x => x.1.isSome)
      && decide ((e :: es).length + ([] : List Keyword).length + (if ([] : List Keyword).isEmpty then 0 else 1) < 30)) = true := by rfl)
    (hline : (apos.endLine == cpos.line) = true := by rfl) (hs : starEach (e :: es) X.env = (false, eval e X.env) :: starEach es X.env := by rfl) (hplain : (backTo cpos (starEach es X.env)).any (·.1) = false := by rfl) :
    PE X (.Call (.Attribute o name apos) (e :: es) [] cpos) (tBM X.K T r to t) := by
  intro pins s σ H Q I h
  refine wpAny_Call_method_late hbase hfew hline rfl (thn (ho pins s σ H _ I h) fun v s1 ⟨x, H1, I1, r1, ty, q1⟩ => ?_)
  obtain ⟨h1, h2⟩ := tyV_is I1 r1 ty
  refine ⟨T, id, pa, slot, hty, h1, h2, ?_⟩
  have hA := ha cpos pins s1 σ H1 _ I1 q1
  rw [hs] at hA ⊢
  refine Calls.callWith_builtin (by show (false || (backTo cpos (starEach es X.env)).any (·.1)) = false; rw [hplain] <;> rfl) (Calls.evalArgs_plain ?_)
  exact thn hA fun us s2 ⟨vs, H2, I2, r2, q2⟩ => hm pins s2 σ H2 x vs v us Q I2 r1 r2 q2
end
end L2
namespace L2
open PySem PySem.Spec PyProof.Rows
def MtM (X : Cx) (id : String) (r : V → List V → Hp → VK → Prop) : Prop :=
  ∀ (pins : List (Addr × Obj)) (s : Shared) (σ : St) (H : Hp) (x : V) (xs : List V) (v : Value) (us : List Value) (Q : VK), Inv X pins σ H s → RelV x v → Vals xs us → r x xs H Q →
    wpAny (model X.prog X.w) X.A (call (.builtin id) (v :: us)) (EP X pins σ Q) X.xe s
theorem Vals.one : ∀ {x : V} {us : List Value}, Vals [x] us → ∃ u, us = [u] ∧ RelV x u
  | _, _, .cons r .nil => ⟨_, rfl, r⟩
theorem Vals.zero : ∀ {us : List Value}, Vals [] us → us = []
  | _, .nil => rfl
theorem Vals.dropLast {xs : List V} {us : List Value} (h : Vals xs us) : Vals xs.dropLast us.dropLast := by
  induction h with
  | nil => exact .nil
  | cons r t ih =>
    cases t with
    | nil => exact .nil
    | cons q t' => exact .cons r ih
theorem Vals.eraseIdx : ∀ {xs : List V} {us : List Value} (i : Nat), Vals xs us → Vals (xs.eraseIdx i) (us.eraseIdx i)
  | _, _, _, .nil => .nil
  | _, _, 0, .cons _ t => t
  | _, _, i + 1, .cons r t => .cons r (Vals.eraseIdx i t)
theorem Vals.rep {xs : List V} {us : List Value} (h : Vals xs us) : ∀ k : Nat, Vals (List.replicate k xs).flatten (List.replicate k us).flatten
  | 0 => .nil
  | k + 1 => by
    rw [List.replicate_succ, List.replicate_succ, List.flatten_cons, List.flatten_cons]
    exact Vals.append h (Vals.rep h k)
theorem erase_last {α : Type} (l : List α) : l.eraseIdx (l.length - 1) = l.dropLast := by
  induction l with
  | nil => rfl
  | cons a r ih =>
    cases r with
    | nil => rfl
    | cons b r =>
      have e : (a :: b :: r).length - 1 = ((b :: r).length - 1) + 1 := by
        have h1 : (a :: b :: r).length = r.length + 2 := rfl
        have h2 : (b :: r).length = r.length + 1 := rfl
        omega
      rw [e, List.eraseIdx_cons_succ, ih]
      all_goals rfl
theorem foldl_rep (its : List Value) : ∀ (k : Nat) (acc : List Value),
    List.foldl (fun x1 x2 => x1 ++ x2) acc.toArray (List.replicate k its.toArray) = (acc ++ (List.replicate k its).flatten).toArray
  | 0, acc => by simp
  | k + 1, acc => by
    have e : acc.toArray ++ its.toArray = (acc ++ its).toArray := by simp
    have e2 : (acc ++ its) ++ (List.replicate k its).flatten = acc ++ (List.replicate (k + 1) its).flatten := by
      rw [List.replicate_succ, List.flatten_cons, List.append_assoc]
    rw [← e2, ← foldl_rep its k (acc ++ its), ← e, List.replicate_succ, List.foldl_cons]
section
variable {X : Cx} {pins : List (Addr × Obj)} {σ : St} {H : Hp} {s : Shared} {l b : Addr} {xs ys zs : List V}
theorem Inv.lset {its its' : List Value} {n : Nat} {f : Array Value → Array Value} {t' : Nat} (I : Inv X pins σ H s) (hH : H l = some (.lst xs))
    (e : s.heap.get? l = some { cls := .type "list", data := .seq its.toArray n }) (hf : f its.toArray = its'.toArray) (hv : Vals ys its') (hz : ys.length ≤ sizeLine) :
    Inv X pins σ (upd H l (.lst ys)) { s with heap := s.heap.update l (Obj.mapSeq f), toks := t' } := by
  have q := PySem.IsL.update e f
  rw [hf] at q
  refine I.write (x := l) (e := l) (by rw [hH]; exact trivial) (.inl rfl) (fun b' u hb hu => (Heap.get?_update_other s.heap (Obj.mapSeq f) (Ne.symm hb)).trans hu) ⟨_, q⟩ ?_
  exact ⟨hz, its', _, hv, q⟩
theorem Inv.lnew {its : List Value} {t' : Nat} (I : Inv X pins σ H s) (hv : Vals ys its) (hz : ys.length ≤ sizeLine) :
    Inv X pins σ (upd H s.heap.objs.size (.lst ys)) { s with heap := s.heap.push { cls := .type "list", data := .seq its.toArray }, toks := t' } :=
  I.laid (fun _ _ q => Heap.get?_push_of_some _ q) (Nat.le_refl _) ⟨hz, its, 0, hv, Heap.get?_push_size _ rfl⟩
theorem Inv.fresh (I : Inv X pins σ H s) : H s.heap.objs.size = none := I.hok.fresh (Nat.le_refl _)
theorem Inv.lstM (I : Inv X pins σ H s) (hH : H l = some (.lst xs)) : xs.length ≤ sizeLine ∧ ∃ (its : List Value) (n : Nat), Vals xs its ∧ xs.length = its.length ∧ s.heap.get? l = some { cls := .type "list", data := .seq its.toArray n } := by
  obtain ⟨z, its, n, r, e⟩ := I.hok l _ hH
  exact ⟨z, its, n, r, r.length, e⟩
theorem notLongL {n : Nat} (h : n ≤ sizeLine) : Builtin.List.listTooLong n = false := by
  unfold Builtin.List.listTooLong
  exact decide_eq_false (by omega)
end
section
variable {X : Cx}
def rAppend : V → List V → Hp → VK → Prop := fun x vs H Q => ∃ l xs y, x = .ref l ∧ vs = [y] ∧ H l = some (.lst xs) ∧ xs.length < sizeLine ∧ Q .non (upd H l (.lst (xs ++ [y])))
theorem mt_append : MtM X "list.append" rAppend := by
  intro pins s σ H x vs v us Q I rx rv h
  obtain ⟨l, xs, y, rfl, rfl, hH, hz, q⟩ := h
  cases rx
  obtain ⟨u, rfl, ru⟩ := rv.one
  obtain ⟨z, its, n, r, hl, e⟩ := I.lstM hH
  refine call_meets F.slot_list_append ⟨_, e, rfl⟩ F.entry_list_append (F.args_list_append_2 _ _) (PySem.list_append l its.toArray n u (by rw [List.size_toArray]; omega)) ⟨e, ?_⟩
  refine ⟨.non, _, I.lset (its' := its ++ [u]) hH e (by simp) (r.append (.cons ru .nil)) ?_, rfl, q⟩
  rw [List.length_append, List.length_singleton]
  omega
def rExtend : V → List V → Hp → VK → Prop := fun x vs H Q => ∃ l b xs zs, x = .ref l ∧ vs = [.ref b] ∧ H l = some (.lst xs) ∧ H b = some (.lst zs) ∧ xs.length + zs.length ≤ sizeLine ∧ Q .non (upd H l (.lst (xs ++ zs)))
theorem mt_extend : MtM X "list.extend" rExtend := by
  intro pins s σ H x vs v us Q I rx rv h
  obtain ⟨l, b, xs, zs, rfl, rfl, hH, hB, hz, q⟩ := h
  cases rx
  obtain ⟨u, rfl, ru⟩ := rv.one
  cases ru
  obtain ⟨z, its, n, r, hl, e⟩ := I.lstM hH
  obtain ⟨z2, its2, n2, r2, hl2, e2⟩ := I.lstM hB
  have hsz : its.toArray.size + its2.toArray.size ≤ sizeLine := by rw [List.size_toArray, List.size_toArray]; omega
  have hlong : ¬ (!its.toArray.isEmpty && Builtin.List.listTooLong (its.toArray.size + its2.toArray.size)) = true := by
    rw [notLongL hsz, Bool.and_false]
    exact Bool.false_ne_true
  refine call_meets F.slot_list_extend ⟨_, e, rfl⟩ F.entry_list_extend (F.args_list_extend_2 _ _)
    (AutoSeq1.list_extend_list_list_0 l its.toArray n b its2.toArray n2 hlong (by rw [List.size_toArray]; omega) (by omega)) ⟨e, e2, ?_⟩
  refine ⟨.non, _, I.lset (its' := its ++ its2) hH e (by simp) (r.append r2) ?_, rfl, q⟩
  rw [List.length_append]
  omega
def rPop : V → List V → Hp → VK → Prop := fun x vs H Q => ∃ l xs y, x = .ref l ∧ vs = [] ∧ H l = some (.lst xs) ∧ xs[xs.length - 1]? = some y ∧ Q y (upd H l (.lst xs.dropLast))
theorem mt_pop : MtM X "list.pop" rPop := by
  intro pins s σ H x vs v us Q I rx rv h
  obtain ⟨l, xs, y, rfl, rfl, hH, hy, q⟩ := h
  cases rx
  have hus := rv.zero
  subst hus
  obtain ⟨z, its, n, r, hl, e⟩ := I.lstM hH
  obtain ⟨u, hu, ru⟩ := r.get hy
  have hy' : its.toArray[its.toArray.size - 1]? = some u := by
    show its.toArray[its.length - 1]? = some u
    rw [← Array.getElem?_toList, ← hl]
    exact hu
  refine call_meets F.slot_list_pop ⟨_, e, rfl⟩ F.entry_list_pop (F.args_list_pop_1 _) (MeetsSeq.list_pop_last l its.toArray n u hy' (by rw [List.size_toArray]; omega)) ⟨e, ?_⟩
  refine ⟨y, _, I.lset (its' := its.dropLast) hH e ?_ r.dropLast ?_, ru, q⟩
  · show its.toArray.eraseIdxIfInBounds (its.toArray.size - 1) = its.dropLast.toArray
    rw [List.size_toArray, List.eraseIdxIfInBounds_toArray, erase_last]
  · rw [List.length_dropLast]
    omega
def rCat : R2 := fun x y H Q => ∃ l b xs zs, x = .ref l ∧ y = .ref b ∧ H l = some (.lst xs) ∧ H b = some (.lst zs) ∧ xs.length + zs.length ≤ sizeLine ∧ ∀ p, H p = none → Q (.ref p) (upd H p (.lst (xs ++ zs)))
theorem op_cat : OpR X (binaryOp .Add) rCat := by
  intro pins s σ H x y v u Q I rx ry h
  obtain ⟨l, b, xs, zs, rfl, rfl, hH, hB, hz, q⟩ := h
  cases rx
  cases ry
  obtain ⟨z, its, n, r, hl, e⟩ := I.lstM hH
  obtain ⟨z2, its2, n2, r2, hl2, e2⟩ := I.lstM hB
  refine PySem.P.add_list e e2 ?_ (by rw [List.size_toArray, List.size_toArray]; omega)
  have ea : its.toArray ++ its2.toArray = (its ++ its2).toArray := by simp
  rw [ea]
  exact ⟨.ref _, _, I.lnew (t' := s.toks) (r.append r2) (by rw [List.length_append]; omega), rfl, q _ I.fresh⟩
def rRep : R2 := fun x y H Q => ∃ l k xs, x = .ref l ∧ y = .int k ∧ H l = some (.lst xs) ∧ -(2 ^ 63) ≤ k ∧ k < 2 ^ 63 ∧ xs.length * k.toNat ≤ sizeLine ∧
  ∀ p, H p = none → Q (.ref p) (upd H p (.lst (List.replicate k.toNat xs).flatten))
theorem len_rep {α : Type} (xs : List α) (k : Nat) : (List.replicate k xs).flatten.length = k * xs.length := by
  induction k with
  | zero => simp
  | succ k ih => rw [List.replicate_succ, List.flatten_cons, List.length_append, ih, Nat.succ_mul, Nat.add_comm]
theorem op_rep : OpR X (binaryOp .Mult) rRep := by
  intro pins s σ H x y v u Q I rx ry h
  obtain ⟨l, k, xs, rfl, rfl, hH, h1, h2, hz, q⟩ := h
  cases rx
  obtain ⟨t, rfl⟩ := ry
  obtain ⟨z, its, n, r, hl, e⟩ := I.lstM hH
  have hlen : its.toArray.size * k.toNat ≤ sizeLine := by rw [List.size_toArray, ← hl]; exact hz
  have hcap : ¬ its.toArray.size * k.toNat > (2 ^ 63 - 1) / 8 := by
    have : (sizeLine : Nat) ≤ (2 ^ 63 - 1) / 8 := by decide
    omega
  have hfit : ¬ (!Builtin.List.listFitsIndex k) = true := by
    rw [fitsIndex_both h1 h2]
    exact Bool.false_ne_true
  have hlong : ¬ Builtin.List.listTooLong (its.toArray.size * k.toNat) = true := by
    rw [notLongL hlen]
    exact Bool.false_ne_true
  have hnew : List.foldl (fun x1 x2 => x1 ++ x2) #[] (List.replicate (if its.toArray.isEmpty = true then 0 else k.toNat) its.toArray) = (List.replicate k.toNat its).flatten.toArray := by
    have f0 : ∀ m : Nat, List.foldl (fun x1 x2 => x1 ++ x2) #[] (List.replicate m its.toArray) = (List.replicate m its).flatten.toArray := fun m => by
      have := foldl_rep its m []
      rw [List.nil_append] at this
      exact this
    rw [f0]
    cases its with
    | nil => simp
    | cons a r' => rw [if_neg (by simp)]
  refine wpAny_binaryOp_repeat_ref (T := "list") (U := "int") (by decide) ⟨_, e, rfl⟩ (fun s' => typeIs_int s' k t) noFill_list_mul F.fills_int_mul F.slot_int_rmul repeat_list F.slot_int_index.lookup
    (call_meets F.slot_int_rmul (typeIs_int s k t) F.entry_int_rmul (F.args_int_rmul_2 _ _) (int___rmul___int_list k t l its.toArray n)
      ⟨e, rfl, ⟨_, e, rfl⟩, call_meets F.slot_list_mul ⟨_, e, rfl⟩ F.entry_list_mul (F.args_list_mul_2 _ _) (AutoListH.list___mul___list_int_3 l its.toArray n k t hfit hcap hlong) ⟨e, ?_⟩⟩)
  rw [hnew]
  exact ⟨.ref _, _, I.lnew (t' := s.toks) (r.rep k.toNat) (by rw [len_rep, Nat.mul_comm]; exact hz), rfl, q _ I.fresh⟩
end
section
variable {prog : Program} {w : World} {A : Around} {E : Value → Shared → Prop} {s : Shared}
end
section
variable {X : Cx}
end
end L2
namespace L2
open PySem PySem.Spec PyProof.Rows
section
variable {κ : Type} [DecidableEq κ]
def valV (kvs : List (κ × V)) (k : κ) : Option V := (kvs.find? fun kv => decide (kv.1 = k)).map (·.2)
def putK (kvs : List (κ × V)) (k : κ) (v : V) : List (κ × V) :=
  if (kvs.any fun kv => decide (kv.1 = k)) = true then kvs.map (fun kv => if kv.1 = k then (kv.1, v) else kv) else kvs ++ [(k, v)]
def dropK (kvs : List (κ × V)) (k : κ) : List (κ × V) := kvs.filter fun kv => decide (kv.1 ≠ k)
theorem valV_pos {p : κ × V} {r : List (κ × V)} {k : κ} (e : p.1 = k) : valV (p :: r) k = some p.2 := by simp [valV, List.find?_cons, e]
theorem valV_neg {p : κ × V} {r : List (κ × V)} {k : κ} (e : ¬ p.1 = k) : valV (p :: r) k = valV r k := by simp [valV, List.find?_cons, e]
theorem RelO.getD {o : Option V} {u : Option Value} {d : V} {d' : Value} (r : RelO o u) (rd : RelV d d') : RelV (o.getD d) (u.getD d') := by
  cases o with
  | none => cases u with
    | none => exact rd
    | some _ => exact (show False from r).elim
  | some _ => cases u with
    | none => exact (show False from r).elim
    | some _ => exact r
theorem KV.val {kvs : List (κ × V)} {vs : List (κ × Value)} (r : KV kvs vs) (k : κ) : RelO (valV kvs k) (valueAt vs k) := by
  unfold KV at r
  induction r with
  | nil => exact True.intro
  | @cons p q ps qs h t ih =>
    obtain ⟨h1, h2⟩ := h
    by_cases e : p.1 = k
    · have e' : q.1 = k := h1.symm.trans e
      have b : valueAt (q :: qs) k = some q.2 := by simp [valueAt, List.find?_cons, e']
      rw [valV_pos e, b]; exact h2
    · have e' : ¬ q.1 = k := fun z => e (h1.trans z)
      have b : valueAt (q :: qs) k = valueAt qs k := by simp [valueAt, List.find?_cons, e']
      rw [valV_neg e, b]; exact ih
theorem KV.any {kvs : List (κ × V)} {vs : List (κ × Value)} (r : KV kvs vs) (k : κ) : (kvs.any fun kv => decide (kv.1 = k)) = vs.any fun kv => decide (kv.1 = k) := by
  unfold KV at r
  induction r with
  | nil => rfl
  | cons h t ih => rw [List.any_cons, List.any_cons, ih, h.1]
theorem KV.drop {kvs : List (κ × V)} {vs : List (κ × Value)} (r : KV kvs vs) (k : κ) : KV (dropK kvs k) (without vs k) := by
  unfold KV at r ⊢
  unfold dropK without
  induction r with
  | nil => exact .nil
  | @cons p q ps qs h t ih =>
    obtain ⟨h1, h2⟩ := h
    rw [List.filter_cons, List.filter_cons]
    by_cases e : p.1 = k
    · have a : ¬ decide (p.1 ≠ k) = true := by simp [e]
      have b : ¬ decide (q.1 ≠ k) = true := by simp [h1.symm.trans e]
      rw [if_neg a, if_neg b]; exact ih
    · have e' : ¬ q.1 = k := fun z => e (h1.trans z)
      have a : decide (p.1 ≠ k) = true := by simp [e]
      have b : decide (q.1 ≠ k) = true := by simp [e']
      rw [if_pos a, if_pos b]; exact .cons ⟨h1, h2⟩ ih
theorem KV.length {kvs : List (κ × V)} {vs : List (κ × Value)} (r : KV kvs vs) : kvs.length = vs.length := Paired.length r
end
abbrev KT (H : Hp) : List (List Key × V) → List (List Key × Addr × Value) → Prop := Paired fun p q => p.1 = q.1 ∧ H q.2.1 = some (.tup (p.1.map kV)) ∧ RelV p.2 q.2.2
theorem KT.val {H : Hp} {kvs : List (List Key × V)} {xs : List (List Key × Addr × Value)} (r : KT H kvs xs) (k : List Key) : RelO (valV kvs k) ((atKey xs k).map (·.2)) := by
  induction r with
  | nil => exact True.intro
  | @cons p q ps qs h t ih =>
    obtain ⟨h1, _, h2⟩ := h
    by_cases e : p.1 = k
    · have e' : q.1 = k := h1.symm.trans e
      have b : atKey (q :: qs) k = some q.2 := by simp [atKey, List.find?_cons, e']
      rw [valV_pos e, b]; exact h2
    · have e' : ¬ q.1 = k := fun z => e (h1.trans z)
      have b : atKey (q :: qs) k = atKey qs k := by simp [atKey, List.find?_cons, e']
      rw [valV_neg e, b]; exact ih
theorem KT.keeps {H H' : Hp} {kvs : List (List Key × V)} {xs : List (List Key × Addr × Value)} (r : KT H kvs xs) (ht : ∀ b ys, H b = some (.tup ys) → H' b = some (.tup ys)) : KT H' kvs xs :=
  Paired.mapP r fun _ _ z => ⟨z.1, ht _ _ z.2.1, z.2.2⟩
section
variable {P : Program} {w : World} {H : Hp} {h : Heap} {a : Addr}
end
def DGet (H : Hp) (a : Addr) (y : V) (r : Option V) : Prop :=
  (∃ kvs k, Rd H a (.dK kvs) ∧ y = kV k ∧ r = valV kvs k) ∨ ∃ kvs k b, Rd H a (.dT kvs) ∧ y = .ref b ∧ H b = some (.tup (k.map kV)) ∧ r = valV kvs k
def DPut (H : Hp) (a : Addr) (y v : V) (H' : Hp) : Prop :=
  (∃ kvs k, H a = some (.dK kvs) ∧ y = kV k ∧ kvs.length < sizeLine ∧ H' = upd H a (.dK (putK kvs k v))) ∨
  ∃ kvs k b, H a = some (.dT kvs) ∧ y = .ref b ∧ H b = some (.tup (k.map kV)) ∧ kvs.length < sizeLine ∧ H' = upd H a (.dT (putK kvs k v))
theorem DGet.k {H : Hp} {a : Addr} {kvs : List (Key × V)} {k : Key} (e : H a = some (.dK kvs)) : DGet H a (kV k) (valV kvs k) := .inl ⟨kvs, k, .inl e, rfl, rfl⟩
theorem DGet.t {H : Hp} {a b : Addr} {kvs : List (List Key × V)} {k : List Key} (e : H a = some (.dT kvs)) (eb : H b = some (.tup (k.map kV))) : DGet H a (.ref b) (valV kvs k) := .inr ⟨kvs, k, b, .inl e, rfl, eb, rfl⟩
theorem DPut.k {H : Hp} {a : Addr} {kvs : List (Key × V)} {k : Key} {v : V} (e : H a = some (.dK kvs)) (hl : kvs.length < sizeLine) : DPut H a (kV k) v (upd H a (.dK (putK kvs k v))) := .inl ⟨kvs, k, e, rfl, hl, rfl⟩
theorem DPut.t {H : Hp} {a b : Addr} {kvs : List (List Key × V)} {k : List Key} {v : V} (e : H a = some (.dT kvs)) (eb : H b = some (.tup (k.map kV))) (hl : kvs.length < sizeLine) :
    DPut H a (.ref b) v (upd H a (.dT (putK kvs k v))) := .inr ⟨kvs, k, b, e, rfl, eb, hl, rfl⟩
section
variable {X : Cx} {pins : List (Addr × Obj)} {σ : St} {H : Hp} {s : Shared} {a : Addr} {y v : V} {u r : Value} {o : Option V} {A : Around} {E : Value → Shared → Prop}
end
section
variable {X : Cx} {pins : List (Addr × Obj)} {σ : St} {H : Hp} {s : Shared} {a : Addr} {kvs : List (Key × V)} {k : Key} {u : Value} {A : Around} {E : Value → Shared → Prop}
end
def tDGet (td ty : TE) : TE := fun σ H Q => td σ H fun x H1 => ty σ H1 fun y H2 => ∃ a v, x = .ref a ∧ DGet H2 a y (some v) ∧ Q v H2
def sDPut (td ty tv : TE) : TS := fun D σ H => tv σ H fun v H1 => td σ H1 fun x H2 => ty σ H2 fun y H3 => ∃ a H4, x = .ref a ∧ DPut H3 a y v H4 ∧ D.nx σ H4
section
variable {X : Cx} {o i e value : Expr} {pos pos' tpos : Pos} {td ty tv : TE}
end
section
variable {X : Cx} {pos : Pos}
end
def tPairs : List (TE × TE) → St → Hp → (List (V × V) → Hp → Prop) → Prop
  | [], _, H, Q => Q [] H
  | (tk, tv) :: r, σ, H, Q => tk σ H fun x H1 => tv σ H1 fun y H2 => tPairs r σ H2 fun ps H3 => Q ((x, y) :: ps) H3
def mergeK (kvs more : List (Key × V)) : List (Key × V) := more.foldl (fun acc kv => putK acc kv.1 kv.2) kvs
def tDisp (trs : List (TE × TE)) : TE := fun σ H Q => ∀ p, H p = none → tPairs trs σ (upd H p (.dK [])) fun ps H2 => H2 p = some (.dK []) ∧ ∃ kvs : List (Key × V), ps = kvs.map (fun kv => (kV kv.1, kv.2)) ∧ kvs.length ≤ 15 ∧ Q (.ref p) (upd H2 p (.dK (mergeK [] kvs)))
def IsD (H : Hp) (a : Addr) : Prop := (∃ kvs, Rd H a (.dK kvs)) ∨ ∃ kvs, Rd H a (.dT kvs)
section
variable {X : Cx} {pins : List (Addr × Obj)} {σ : St} {H : Hp} {s : Shared} {a : Addr} {y d : V} {u r : Value} {o : Option V} {A : Around} {E : Value → Shared → Prop}
end
def tDGet2 (td ty tx : TE) : TE := fun σ H Q => td σ H fun x H1 => ∃ a, x = .ref a ∧ IsD H1 a ∧ ty σ H1 fun y H2 => tx σ H2 fun z H3 => ∃ o, DGet H3 a y o ∧ Q (o.getD z) H3
section
variable {X : Cx} {o e f : Expr} {apos cpos : Pos} {td ty tx : TE}
end
section
variable {X : Cx} {pins : List (Addr × Obj)} {σ : St} {H : Hp} {s : Shared} {a : Addr} {kvs : List (Key × V)} {A : Around} {E : Value → Shared → Prop}
end
section
variable {X : Cx} {pins : List (Addr × Obj)} {σ : St} {H : Hp} {s : Shared} {a : Addr} {y : V} {u : Value} {A : Around} {E : Value → Shared → Prop}
end
end L2
namespace Att
open PySem PySem.W PySem.Calls PyProof.Rows
theorem ints_of_wellAll {P : Params} {h : Heap} : ∀ (ns : List Int) (vs : List Value), WellAll P h vs (ns.map WData.int) → IntsAre vs ns := by
  intro ns
  induction ns with
  | nil =>
    intro vs w
    rw [List.map_nil] at w
    cases w
    exact .nil
  | cons n ns ih =>
    intro vs w
    rw [List.map_cons] at w
    cases w with
    | cons a b =>
      cases a
      exact .cons _ _ (ih _ b)
theorem script_of {l : OpenLaw} {n : Nat} (hn : l.most = some n) {P : Params} {h : Heap} {args : List WData} {vals : List Value}
    (hpre : l.row.toRowW.claim.pre args = true) (hwl : WellAll P h vals args) :
    ∃ a vs ns, vals = [Value.ref a] ∧ args = [WData.list (ns.map WData.int)] ∧ h.get? a = some { cls := .type "list", data := .seq vs.toArray } ∧ IntsAre vs ns ∧ ns.length ≤ n := by
  have hsh : WShape.hasAll [] args [.list .int] = true := (pre_splitW hpre).1
  have hc : l.pre.holds [] { args := args } = true := (pre_splitW hpre).2
  obtain ⟨d, r, rfl, h1, h2⟩ := hasAllW_cons hsh
  obtain rfl := hasAllW_nil h2
  obtain ⟨xs, rfl, h3⟩ := hasW_list h1
  obtain ⟨ns, rfl⟩ := items_int h3
  have hlen : ns.length ≤ n := by
    unfold OpenLaw.pre at hc
    have h4 : (WTm.not (.lt (.lit (.int (n : Int))) (.len (.arg 0)))).holds [] { args := [.list (ns.map .int)] } = true := by
      have h4 := (holds_andW hc).1
      rw [hn] at h4
      exact h4
    have h5 := condW_of h4 (w_not (w_lt w_lit (w_len_list (w_arg rfl))))
    rw [List.length_map] at h5
    refine Nat.le_of_not_lt fun q => ?_
    have q' : (n : Int) < ((ns.length : Nat) : Int) := by omega
    first
      | (rw [decide_eq_true q'] at h5; exact absurd h5 (by decide))
      | (simp at h5; omega)
  cases hwl with
  | cons w1 w2 =>
    cases w2
    cases w1 with
    | list ho hall => exact ⟨_, _, ns, rfl, rfl, ho, ints_of_wellAll ns _ hall, hlen⟩
theorem post_true (l : OpenLaw) (args : List WData) : l.row.toRowW.claim.post args (.bool true) args = true :=
  postW_of (r := l.row.toRowW) (X := (true == true))
    (show WShape.has [] (.bool true) .bool = true by first | rfl | decide | simp [WShape.has, WShape.arms, WShape.armsAll])
    (show (WTm.eq .res (.lit (.bool true))).value [] { args := args, res := some (.bool true), after := args } = some (.bool (true == true)) from w_eq_bool (w_res rfl) w_lit) rfl
theorem attach_call {l : OpenLaw} {n : Nat} {q : Program} {loose : List Str} {XP : (Str → Option Value) → Heap → Prop} {YP : World → Heap → Prop} {d : DefRec}
    (hn : l.most = some n) (hdf : d.params.defaults = [])
    (call : ∀ (w : World) (s₀ s₁ : Shared) (mg mb : Str → Option Value) (fa : Addr) (o : Obj) (pm cd doc : Value) (a : Addr) (vs : List Value) (ns : List Int),
      Ground q loose [] XP w s₀ mg mb s₁.heap → YP w s₁.heap →
      s₁.heap.get? fa = some o → o.data = .func (docDef d.name d.params d.body d.scope pm cd doc) → s₁.heap.CodeRec cd d.name → mg d.name = some (.ref fa) →
      s₁.heap.get? a = some { cls := .type "list", data := .seq vs.toArray } → IntsAre vs ns → ns.length ≤ n → s₁.gens = #[] →
      codeAny (model l.prog w) callerA (.call (.ref fa) ⟨[.ref a], []⟩) (fun r s' => r = .ok (.ret (.bool true)) ∧ OldK s₁.heap s'.heap ∧ s'.os = s₁.os ∧ AllBare s'.gens) s₁) :
    WalkO q loose XP YP l.row.toRowW d [] (fun f vs => PySem.call f vs) := by
  intro w s₀ s₁ mg mb G Y fa o pm cd doc dV kV ho hd hcd hD hmg hg args vals as hpre hlay hrd hwl hlo
  obtain rfl : dV = .none := Dflts.none hD hdf
  obtain rfl : kV = .none := Dflts.noKw hD
  obtain ⟨a, vs, ns, rfl, rfl, hobj, hints, hlen⟩ := script_of hn hpre hwl
  refine enter_call (codeAny_mono (call w s₀ s₁ mg mb fa o pm cd doc a vs ns G Y ho (fd_plain hd) hcd hmg hobj hints hlen hg) fun r s' hq => ?_)
  obtain ⟨rfl, h2, h3, h4⟩ := hq
  exact ⟨.inl ⟨.bool true, .bool true, [], rfl, fun _ => rfl, .bool true, post_true l _, fun _ => ⟨List.Pairwise.nil, fun _ hm => (nomatch hm)⟩⟩, h2, h3, h4⟩
section
variable {prog : Program} {w : World} {A : Around} {E : Value → Shared → Prop} {s : Shared} {K : Frag}
end
end Att
namespace L2
open PySem PySem.Spec PyProof.Rows
theorem vals_ints : ∀ {vs : List Value} {ns : List Int}, IntsAre vs ns → Vals (ns.map V.int) vs
  | _, _, .nil => .nil
  | _, _, .cons n t h => .cons ⟨t, rfl⟩ (vals_ints h)
def Only (H : Hp) : Prop := ∀ b, H b = none ∨ ∃ o xs, H b = some (.frz o (.lst xs))
theorem law_call {P : Program} {w : World} {K : PySem.W.Frag} {mg mb : Str → Option Value} {CX : CXT} {k : Nat} {fa a : Addr} {fd : FuncData} {x : Str} {sp : Sp} {s₁ : Shared} {vs : List Value} {ns : List Int}
    (KX : K.In s₁.heap) (hns : s₁.heap.Ns mainGlobals mg) (hb : s₁.heap.Ns builtinsNs mb) (hbb : ∀ x : Str, x ≠ "__name__" → mb x = bootBuiltins x) (hlim : s₁.heap.NoLimit) (hg : s₁.gens = #[])
    (ha : s₁.heap.get? a = some { cls := .type "list", data := .seq vs.toArray }) (hi : IntsAre vs ns) (hl : ns.length ≤ sizeLine) (hr : Room k callerA)
    (F : ∀ base : Heap, K.In base → base.Ns mainGlobals mg → FnOk P w K mg base CX k fa fd [x] sp) (hbind : ∀ (s : Shared) (u : Value), BindsTo s fd ⟨[u], []⟩ [(x, u)])
    (hsp : ∀ H : Hp, Only H → SqL K H a (ns.map V.int) → sp [.ref a] H (fun v _ => v = .bl true) fun _ _ _ => False)
    (hCX : ∀ H e s', CX [] H s₁ (fun _ _ _ => False) e s' → False) :
    codeAny (model P w) callerA (.call (.ref fa) ⟨[.ref a], []⟩) (fun r s' => r = .ok (.ret (.bool true)) ∧ OldK s₁.heap s'.heap ∧ s'.os = s₁.os ∧ AllBare s'.gens) s₁ := by
  have rv := vals_ints hi
  have lenV := hi.length
  have core : ∀ H : Hp, Only H → SqL K H a (ns.map V.int) → HOk P w H s₁.heap → (∀ b, H b ≠ none → b = a) → (H a ≠ none → K.lookup a = none) →
      codeAny (model P w) callerA (.call (.ref fa) ⟨[.ref a], []⟩) (fun r s' => r = .ok (.ret (.bool true)) ∧ OldK s₁.heap s'.heap ∧ s'.os = s₁.os ∧ AllBare s'.gens) s₁ := by
    intro H hO hS hok hA hK
    have base_of : ∀ {b : Addr} {o : Obj}, s₁.heap.get? b = some o → H b = none → (hidT s₁.heap H).get? b = some o := fun e n => hidT_get e n
    have noA : ∀ {b : Addr} {o : Obj} {es : Array DictEntry} {ep : Nat}, s₁.heap.get? b = some o → o.data = .dict es ep → H b = none := fun {b o es ep} e d => by
      cases q : H b with
      | none => rfl
      | some u =>
        have e' : b = a := hA b (by rw [q]; simp)
        subst e'
        rw [ha] at e; cases e
        have d' : Data.seq vs.toArray _ = Data.dict es ep := d
        cases d'
    have nsK : ∀ {b : Addr} {m : Str → Option Value}, s₁.heap.Ns b m → (hidT s₁.heap H).Ns b m := fun {b m} ⟨o, es, ep, e, d, r⟩ => ⟨o, es, ep, base_of e (noA e d), d, r⟩
    have hKb : K.In (hidT s₁.heap H) := fun b o e => base_of (KX b o e) (by
      cases q : H b with
      | none => rfl
      | some u =>
        have e' : b = a := hA b (by rw [q]; simp)
        subst e'
        rw [hK (by rw [q]; simp)] at e; cases e)
    have hM : Mod K mg (hidT s₁.heap H) := ⟨hKb, nsK hns, ⟨mb, nsK hb, hbb⟩, let ⟨mc, h1, h2⟩ := hlim; ⟨mc, nsK h1, h2⟩⟩
    have e0 : Env0 P w K mg (hidT s₁.heap H) callerA [] s₁ H := ⟨rfl, hM, fun b o e => of_hidT e, Nat.le_of_eq (hidT_size _ _), trivial, fun b hb => absurd (show b ∈ ([] : List Addr) from hb) (by simp), hok, .of_eq hg⟩
    refine codeAny_mono ((F _ hKb (nsK hns)).run callerA [] s₁ H ⟨[.ref a], []⟩ [.ref a] [.ref a] _ _ hr e0 (hbind s₁ (.ref a)) (.cons rfl .nil) (hsp H hO hS)) fun r s' h => ?_
    cases r with
    | error e => exact (hCX H e s' h).elim
    | ok fl =>
      cases fl with
      | next => exact False.elim h
      | brk => exact False.elim h
      | cont => exact False.elim h
      | ret u =>
        obtain ⟨v, H', os, bare, un, hok', r', q⟩ := h
        have q' : v = .bl true := q
        subst q'
        obtain rfl : u = Value.bool true := r'
        refine ⟨rfl, OldK.of_keep fun b o e => ?_, os, bare⟩
        cases q : H b with
        | none => exact un.keep b o e q (by intro z; exact absurd (show b ∈ ([] : List Addr) from z) (by simp)) (by simp)
        | some u =>
          rcases hO b with z | ⟨ob, xs, z⟩
          · rw [q] at z; cases z
          · have z2 := un.frzs b ob _ z
            obtain ⟨e1, _⟩ := hok b _ z
            obtain ⟨e2, _⟩ := hok' b _ z2
            rw [e] at e1; cases e1
            exact e2
  cases hk : K.lookup a with
  | some o =>
    have e := KX a o hk
    rw [ha] at e
    cases e
    refine core (fun _ => none) (fun _ => .inl rfl) (.inr ⟨_, vs.toArray, _, hk, rfl, rfl, rfl, by rw [List.size_toArray, lenV]; exact hl, by simpa using rv⟩) (fun b u z => by have z' : (none : Option HO) = some u := z; cases z') (fun b z => absurd rfl z) fun z => absurd rfl z
  | none =>
    refine core (fun b => if b = a then some (.frz { cls := .type "list", data := .seq vs.toArray } (.lst (ns.map V.int))) else none) (fun b => ?_) (.inl (.inr ⟨{ cls := .type "list", data := .seq vs.toArray }, if_pos rfl⟩)) (fun b u z => ?_) (fun b z => ?_) fun _ => hk
    · by_cases hb : b = a
      · exact .inr ⟨_, _, if_pos hb⟩
      · exact .inl (if_neg hb)
    · by_cases hb : b = a
      · have z' := (if_pos hb).symm.trans z
        cases z'
        subst hb
        exact ⟨ha, by rw [List.length_map]; exact hl, vs, _, rv, ha⟩
      · have z' := (if_neg hb).symm.trans z
        cases z'
    · by_cases hb : b = a
      · exact hb
      · exact absurd (if_neg hb) z
end L2
namespace L2
open PySem PySem.Spec PyProof.Rows
abbrev KOf {K : PySem.W.Frag} {h : Heap} (_ : K.In h) : PySem.W.Frag := K
theorem walk_of {l : PySem.W.OpenLaw} {n k : Nat} {q : Program} {loose : List Str} {XP : (Str → Option Value) → Heap → Prop} {YP : World → Heap → Prop} {d : DefRec} {K : Params → PySem.W.Frag} {CX : World → CXT} {sp : World → Sp} {x : Str}
    (hn : l.most = some n) (hn2 : n ≤ sizeLine) (hdf : d.params.defaults = []) (hr : Room k callerA)
    (hY : ∀ (w : World) (h : Heap), YP w h → (K w.params).In h)
    (F : ∀ (w : World) (mg : Str → Option Value) (fa : Addr) (h : Heap), (K w.params).In h → h.Ns mainGlobals mg → mg d.name = some (.ref fa) →
      ∃ fd : FuncData, (∀ (s : Shared) (u : Value), BindsTo s fd ⟨[u], []⟩ [(x, u)]) ∧
        ∀ base : Heap, (K w.params).In base → base.Ns mainGlobals mg → FnOk l.prog w (K w.params) mg base (CX w) k fa fd [x] (sp w))
    (hsp : ∀ (w : World) (H : Hp) (a : Addr) (ns : List Int), ns.length ≤ n → Only H → SqL (K w.params) H a (ns.map V.int) → sp w [.ref a] H (fun v _ => v = .bl true) fun _ _ _ => False)
    (hCX : ∀ (w : World) (H : Hp) (s : Shared) (e : Value) (s' : Shared), CX w [] H s (fun _ _ _ => False) e s' → False) :
    PySem.W.WalkO q loose XP YP l.row.toRowW d [] (fun f vs => PySem.call f vs) := by
  refine Att.attach_call hn hdf fun w s₀ s₁ mg mb fa o pm cd doc a vs ns G Y ho hd hcd hmg hobj hints hlen hg => ?_
  have KX := hY w _ Y
  obtain ⟨fd, hb, hF⟩ := F w mg fa _ KX G.T.g hmg
  exact law_call KX G.T.g G.T.b G.T.builtins G.T.nolimit hg hobj hints (Nat.le_trans hlen hn2) hr hF hb (fun H hO hS => hsp w H a ns hlen hO hS) fun H e s' => hCX w H s₁ e s'
end L2
namespace L2
open PySem PySem.Spec PyProof.Rows
def inClass (s : Stmt) (j : Nat) : Stmt := match s with
  | .ClassDef _ _ _ body _ _ _ _ _ _ _ => body.getD j (.Pass ⟨0, 0, 0, 0⟩)
  | _ => .Pass ⟨0, 0, 0, 0⟩
def defArgs (s : Stmt) : Arguments := match s with
  | .FunctionDef _ a _ _ _ _ _ _ _ _ => a
  | _ => { posonlyargs := [], args := [], vararg := none, kwonlyargs := [], kw_defaults := [], kwarg := none, defaults := [] }
def defBody (s : Stmt) : List Stmt := match s with
  | .FunctionDef _ _ b _ _ _ _ _ _ _ => b
  | _ => []
def defScope (s : Stmt) : Scope := match s with
  | .FunctionDef _ _ _ _ _ _ sc _ _ _ => sc
  | _ => { kind := .function, names := [], isGenerator := false, isCoroutine := false }
abbrev CX0 : CXT := fun _ _ _ _ _ _ => False
abbrev E0 : XK := fun _ _ _ => False
theorem pass0 {X : Cx} : Passes CX0 X E0 := fun _ _ _ _ _ _ _ h => h.elim
structure Fun (K : PySem.W.Frag) (x qual : Str) (st : Stmt) (f : Addr) (fd : FuncData) : Prop where
  ex : ∃ (oc : Value) (od : Option Addr) (kV doc pm : Value) (an : Option Addr) (cdv ct : Value) (osl : Array (Option Value)),
    fd = PySem.W.fnOf x qual (defArgs st) (defBody st) (defScope st) .none kV doc pm an cdv ct ∧ K.lookup f = some ⟨oc, od, .func fd, osl⟩ ∧ PySem.W.codeIn K cdv qual = true
  kp : PySem.W.keepIn K (.ref f) = true
section
variable {P : Program} {w : World} {K : PySem.W.Frag} {mg : Str → Option Value} {base : Heap}
theorem Fun.ok {x qual : Str} {st : Stmt} {f : Addr} {fd : FuncData} {N ps : List Str} {k : Nat} {sp : Sp} (F : Fun K x qual st f fd) (S : FnScope N ps (defScope st)) (len : ∀ vs H Q E, sp vs H Q E → vs.length = ps.length)
    (hbody : ∀ (cdv : Value) (A : Around) (outer : List Env) (s : Shared) (H : Hp) (vs : List V) (Q : VK) (E : XK), Room k (A.deeper (envOfC qual (defScope st) s.heap.objs.size f cdv)) → sp vs H Q E →
      ∃ t, PSs (cxOf CX0 P w K mg base N qual (defScope st) f cdv A outer s H E).nox (defBody st) t ∧ t { nx := fun _ H' => Q .non H', rt := Q } (start N vs) H) : FnOk P w K mg base CX0 (k + 1) f fd ps sp := by
  obtain ⟨oc, od, kV, doc, pm, an, cdv, ct, osl, rfl, lk, hcd⟩ := F.ex
  refine fn_of lk hcd S len fun A outer s H vs Q E hr hsp => ?_
  obtain ⟨t, h, q⟩ := hbody cdv A outer s H vs Q E hr hsp
  exact ⟨t, h.nox, q⟩
theorem Fun.binds {x qual : Str} {st : Stmt} {f : Addr} {fd : FuncData} {ps : List Str} (F : Fun K x qual st f fd)
    (h : ∀ (kV doc pm : Value) (an : Option Addr) (cdv ct : Value) (us : List Value), us.length = ps.length → bindArgs (PySem.W.fnOf x qual (defArgs st) (defBody st) (defScope st) .none kV doc pm an cdv ct) ⟨us, []⟩ = pure (ps.zip us)) : Binds K fd ps [] := by
  obtain ⟨oc, od, kV, doc, pm, an, cdv, ct, osl, rfl, lk, hcd⟩ := F.ex
  exact .all (h kV doc pm an cdv ct)
theorem fun_mk {x qual : Str} {st : Stmt} {f : Addr} {oc : Value} {od an : Option Addr} {osl : Array (Option Value)} {kV doc pm cdv ct : Value} (l : K.lookup f = some ⟨oc, od, .func (PySem.W.fnOf x qual (defArgs st) (defBody st) (defScope st) .none kV doc pm an cdv ct), osl⟩)
    (c : PySem.W.codeIn K cdv qual = true) (k : PySem.W.keepIn K (.ref f) = true) : Fun K x qual st f (PySem.W.fnOf x qual (defArgs st) (defBody st) (defScope st) .none kV doc pm an cdv ct) := ⟨⟨oc, od, kV, doc, pm, an, cdv, ct, osl, rfl, l, c⟩, k⟩
end
section
variable {X : Cx}
end
theorem iteF {A B : Prop} (h : B) : if false = true then A else B := by
  rw [if_neg Bool.false_ne_true]
  exact h
theorem iteT {A B : Prop} (h : A) : if true = true then A else B := by
  rw [if_pos rfl]
  exact h
def Same (H H' : Hp) : Prop := ∀ b o, H b = some o → H' b = some o
theorem Same.refl (H : Hp) : Same H H := fun _ _ h => h
theorem Same.trans {H H1 H2 : Hp} (a : Same H H1) (b : Same H1 H2) : Same H H2 := fun c o h => b c o (a c o h)
theorem Same.free {H H' : Hp} (e : Same H H') {l : Addr} (h : H' l = Option.none) : H l = Option.none := by
  cases q : H l with
  | none => rfl
  | some o =>
    rw [e l o q] at h
    cases h
theorem Same.seq {K : PySem.W.Frag} {H H' : Hp} {a : Addr} {xs : List V} (e : Same H H') (h : SqL K H a xs) : SqL K H' a xs := by
  rcases h with (h | ⟨o, h⟩) | h
  · exact .inl (.inl (e _ _ h))
  · exact .inl (.inr ⟨o, e _ _ h⟩)
  · exact .inr h
section
variable {X : Cx}
end
section
variable {κ : Type} [DecidableEq κ]
end
end L2
set_option Elab.async false
set_option linter.all false
set_option maxRecDepth 100000
set_option maxHeartbeats 4000000
namespace L2
open PySem PySem.Spec PyProof.Rows
def clOf (env : Env) : List (Str × NameKind) → List (Str × Addr) → List (Str × Addr)
  | [], acc => acc
  | (n, k) :: r, acc => if k = .free then clOf env r ((n, (env.cells.lookup n).getD 0) :: acc) else clOf env r acc
theorem forIn_cl {env : Env} (f : (Str × NameKind) → List (Str × Addr) → Sem (ForInStep (List (Str × Addr))))
    (h1 : ∀ n r c, env.cells.lookup n = some c → f (n, .free) r = pure (.yield ((n, c) :: r))) (h2 : ∀ n k r, k ≠ .free → f (n, k) r = pure (.yield r)) :
    ∀ (l : List (Str × NameKind)) (acc : List (Str × Addr)), (∀ y ∈ l, y.2 = .free → ∃ c, env.cells.lookup y.1 = some c) → forIn l acc f = pure (clOf env l acc)
  | [], acc, _ => by rw [List.forIn_nil]; rfl
  | (n, k) :: r, acc, h => by
    have hr : ∀ y ∈ r, y.2 = .free → ∃ c, env.cells.lookup y.1 = some c := fun y hy => h y (List.mem_cons_of_mem _ hy)
    rw [List.forIn_cons]
    by_cases hk : k = .free
    · subst hk
      obtain ⟨c, hc⟩ := h _ List.mem_cons_self rfl
      have hc : env.cells.lookup n = some c := hc
      rw [h1 n acc c hc]
      have ih := forIn_cl f h1 h2 r ((n, c) :: acc) hr
      show (forIn r ((n, c) :: acc) f) = _
      rw [ih]
      unfold clOf
      rw [if_pos rfl, hc]
      rw [← clOf.eq_def]
      rfl
    · rw [h2 n k acc hk]
      have ih := forIn_cl f h1 h2 r acc hr
      show (forIn r acc f) = _
      rw [ih]
      conv => rhs; unfold clOf
      rw [if_neg hk]
theorem closure_of {scope : Scope} {env : Env} (h : ∀ y ∈ scope.names, y.2 = .free → ∃ c, env.cells.lookup y.1 = some c) : closureFor scope env = pure (clOf env scope.names []) := by
  unfold closureFor
  have e := forIn_cl (env := env) (fun x r => if x.2 == NameKind.free then do let c ← cellOf env x.1; pure (ForInStep.yield ((x.1, c) :: r)) else pure (ForInStep.yield r))
    (fun n r c hc => by
      have e : cellOf env n = pure c := by unfold cellOf; rw [hc]
      show (if (NameKind.free == NameKind.free) = true then _ else _) = _
      rw [if_pos (by decide), e]
      rfl)
    (fun n k r hk => by
      show (if (k == NameKind.free) = true then _ else _) = _
      rw [if_neg (by intro z; exact hk (eq_of_beq z))]) scope.names [] h
  exact (congrArg (fun m => m >>= fun cs => (pure cs : Sem (List (Str × Addr)))) e)
theorem clOf_mem {env : Env} : ∀ (l : List (Str × NameKind)) (acc : List (Str × Addr)) (y : Str) (c : Addr), (∀ y ∈ l, y.2 = .free → ∃ c, env.cells.lookup y.1 = some c) → (∀ y c, acc.lookup y = some c → env.cells.lookup y = some c) →
    (clOf env l acc).lookup y = some c → env.cells.lookup y = some c
  | [], acc, y, c, _, ha, e => ha y c e
  | (n, k) :: r, acc, y, c, h, ha, e => by
    have hr : ∀ y ∈ r, y.2 = .free → ∃ c, env.cells.lookup y.1 = some c := fun y hy => h y (List.mem_cons_of_mem _ hy)
    unfold clOf at e
    by_cases hk : k = .free
    · rw [if_pos hk] at e
      refine clOf_mem r _ y c hr (fun z d q => ?_) e
      rw [List.lookup_cons] at q
      cases hz : z == n with
      | true =>
        rw [hz] at q
        have q' : (env.cells.lookup n).getD 0 = d := Option.some.inj q
        obtain ⟨c', hc'⟩ := h _ List.mem_cons_self hk
        have hc' : env.cells.lookup n = some c' := hc'
        rw [hc'] at q'
        have q' : c' = d := q'
        rw [eq_of_beq hz, hc', q']
      | false =>
        rw [hz] at q
        exact ha z d q
    · rw [if_neg hk] at e
      exact clOf_mem r acc y c hr ha e
theorem clOf_acc {env : Env} : ∀ (l : List (Str × NameKind)) (acc : List (Str × Addr)) (y : Str), (∃ c, acc.lookup y = some c) → ∃ c, (clOf env l acc).lookup y = some c
  | [], _, _, h => h
  | (n, k) :: r, acc, y, h => by
    unfold clOf
    by_cases hk : k = .free
    · rw [if_pos hk]
      refine clOf_acc r _ y ?_
      rw [List.lookup_cons]
      cases hz : y == n with
      | true => exact ⟨_, rfl⟩
      | false => exact h
    · rw [if_neg hk]
      exact clOf_acc r acc y h
theorem clOf_has {env : Env} : ∀ (l : List (Str × NameKind)) (acc : List (Str × Addr)) (y : Str), (y, NameKind.free) ∈ l → ∃ c, (clOf env l acc).lookup y = some c
  | [], _, _, h => by simp at h
  | (n, k) :: r, acc, y, h => by
    unfold clOf
    by_cases hk : k = .free
    · rw [if_pos hk]
      rcases List.mem_cons.mp h with e | e
      · refine clOf_acc r _ y ?_
        have e1 : y = n := congrArg Prod.fst e
        rw [List.lookup_cons, e1]
        simp
      · exact clOf_has r _ y e
    · rw [if_neg hk]
      rcases List.mem_cons.mp h with e | e
      · exact absurd (congrArg Prod.snd e).symm hk
      · exact clOf_has r acc y e
theorem relabel_lookup (scope : Scope) (env : Env) (y : Str) : (relabel scope env).names.lookup y = (scope.names.lookup y).map fun k => if (k == NameKind.free && env.scope.kind == .function && env.kindOf y == some .cell) = true then .cell else k := by
  show (scope.names.map _).lookup y = _
  induction scope.names with
  | nil => rfl
  | cons p r ih =>
    obtain ⟨n, k⟩ := p
    rw [List.map_cons, List.lookup_cons (a := y) (k := n) (b := k)]
    cases hz : y == n with
    | true =>
      have e : y = n := eq_of_beq hz
      subst e
      show List.lookup y ((if (k == NameKind.free && env.scope.kind == .function && env.kindOf y == some .cell) = true then (y, NameKind.cell) else (y, k)) :: _) = some (if _ then _ else _)
      by_cases hc : (k == NameKind.free && env.scope.kind == .function && env.kindOf y == some .cell) = true
      · rw [if_pos hc, if_pos hc]; simp
      · rw [if_neg hc, if_neg hc]; simp
    | false =>
      show List.lookup y ((if (k == NameKind.free && env.scope.kind == .function && env.kindOf n == some .cell) = true then (n, NameKind.cell) else (n, k)) :: _) = _
      by_cases hc : (k == NameKind.free && env.scope.kind == .function && env.kindOf n == some .cell) = true
      · rw [if_pos hc, List.lookup_cons, hz]; exact ih
      · rw [if_neg hc, List.lookup_cons, hz]; exact ih
def cxComp (X : Cx) (scope : Scope) (x : Str) (N' : List Str) (C : Addr) (s : Shared) (H : Hp) (fp : List Addr) (pn : List (Addr × Obj)) : Cx where
  prog := X.prog
  w := X.w
  K := X.K
  mg := X.mg
  base := X.base
  A := X.A
  N := x :: N'
  s₀ := s
  H₀ := H
  env := compEnvC scope (clOf X.env scope.names []) C X.env
  outer := X.stack
  stack := X.stack
  ex := fp
  fn := fun _ => false
  calm := X.calm
  pn := pn
  xe := fun _ _ => False
section
variable {X : Cx} {pins : List (Addr × Obj)} {σ : St} {H : Hp} {s : Shared}
structure CompSc (X : Cx) (scope : Scope) (x : Str) (N' : List Str) : Prop where
  loc : scope.names.lookup x = some .local
  nocell : ∀ y ∈ scope.names, y.2 ≠ .cell
  kind : scope.kind = .function
  names : ∀ y ∈ scope.names, y.2 = .local → scope.names.lookup y.1 = some .local
  free : ∀ y ∈ scope.names, y.2 = .free → X.env.kindOf y.1 = some .cell ∨ X.env.kindOf y.1 = some .free
  nin : x ∉ N'
  nd : N'.Nodup
  len : N'.length = X.N.length
  sub : ∀ (i : Nat) (y : Str), N'[i]? = some y → X.N[i]? = some y ∨ scope.names.lookup y = none
  only : ∀ y ∈ scope.names, y.2 = .local → y.1 = x ∨ y.1 ∉ N'
theorem Inv.compIn {scope : Scope} {x : Str} {N' : List Str} {fp : List Addr} {h1 : Heap} {tk : Nat} {m : Str → Option Value} (S : CompSc X scope x N') (I : Inv X pins σ H s) (hf : ∀ b ∈ fp, FpOk X pins H b) (hfl : ∀ b ∈ fp, b < s.heap.objs.size)
    (hn : h1.Ns s.heap.objs.size m) (hsb : ∀ b o, s.heap.get? b = some o → h1.get? b = some o) :
    Inv (cxComp X scope x N' s.heap.objs.size s H fp (X.pn ++ pins)) [] (none :: σ) H { s with heap := h1, toks := tk } := by
  have hcells : ∀ y ∈ scope.names, y.2 = .free → ∃ c, X.env.cells.lookup y.1 = some c := fun y hy hk => I.ok.has y.1 (S.free y hy hk)
  have sub : ∀ y c, (clOf X.env scope.names []).lookup y = some c → X.env.cells.lookup y = some c := fun y c e => clOf_mem _ _ y c hcells (fun z d q => by simp at q) e
  have lk : ∀ (y : Str) (k : NameKind), (relabel scope X.env).names.lookup y = some k → k = .cell ∨ k = .free → scope.names.lookup y = some .free := fun y k e hk => by
    rw [relabel_lookup] at e
    cases q : scope.names.lookup y with
    | none => rw [q] at e; cases e
    | some k0 =>
      rw [q] at e
      have e' : (if (k0 == NameKind.free && X.env.scope.kind == .function && X.env.kindOf y == some .cell) = true then NameKind.cell else k0) = k := Option.some.inj e
      by_cases hc : (k0 == NameKind.free && X.env.scope.kind == .function && X.env.kindOf y == some .cell) = true
      · simp only [Bool.and_eq_true] at hc
        rw [eq_of_beq hc.1.1]
      · rw [if_neg hc] at e'
        subst e'
        rcases hk with hk | hk
        · exact absurd hk (S.nocell _ (PySem.mem_of_lookup q))
        · rw [hk]
  have lt : ∀ {b : Addr} {o : Obj}, s.heap.get? b = some o → b ≠ s.heap.objs.size := fun e => Nat.ne_of_lt (Heap.lt_size e)
  refine ⟨⟨I.ok.mod, by show (relabel scope X.env).kind = _; exact S.kind, I.ok.glob, I.ok.blt, Nat.le_refl _, fun y z c e1 e2 => I.ok.inj y z c (sub y c e1) (sub z c e2), fun y hy => ?_, fun y c hz => (by cases hz), I.ok.hd, I.ok.frames, .inl rfl,
    fun b hb => ⟨Nat.ne_of_lt (hfl b hb), fun y c e => (hf b hb).2.2.2.2.1 y c (sub y c e)⟩, I.bs, Nat.le_trans I.ok.bsz I.sz, fun b o e hb => ?_, fun b hb hz => ?_, I.stack, I.stkFree⟩,
    rfl, I.bare, Un.kept hsb, ⟨m, hn, fun i y v h1 h2 h3 => ?_⟩, fun y c e => ?_, I.hok.fresh (Nat.le_refl _), fun y c e => I.freeC y c (sub y c e), fun p hp => ?_, I.hok.kept hsb, ?_⟩
  · have hy : (relabel scope X.env).names.lookup y = some .cell ∨ (relabel scope X.env).names.lookup y = some .free := hy
    have q : scope.names.lookup y = some .free := hy.elim (fun z => lk y _ z (.inl rfl)) fun z => lk y _ z (.inr rfl)
    exact clOf_has _ _ y (PySem.mem_of_lookup q)
  · obtain ⟨_, _, _, f3, _, _⟩ := hf b hb
    rcases f3 with f3 | f3
    · exact I.ok.noex b o e f3
    · exact absurd (Nat.lt_of_lt_of_le (Heap.lt_size e) (Nat.le_trans I.ok.bsz f3)) (Nat.lt_irrefl _)
  · have hz : b ∈ frs X.stack := hz
    obtain ⟨_, f1, f2, _⟩ := hf b hb
    rcases List.mem_cons.mp (I.stkSub b hz) with z | z
    · exact f1 z
    · exact f2 z
  · cases i with
    | zero => simp at h2
    | succ i =>
      have h1 : N'[i]? = some y := by simpa [cxComp] using h1
      have h2 : σ[i]? = some (some v) := by simpa using h2
      have hne : N'[i]? ≠ some x := fun z => S.nin (List.mem_of_getElem? z)
      have h3 : Vis (relabel scope X.env) y := h3
      obtain ⟨m', hn', hl'⟩ := I.loc
      have q : scope.names.lookup y = some .free := by
        rcases h3 with z | z | z
        · exfalso
          rw [relabel_lookup] at z
          cases q : scope.names.lookup y with
          | none => rw [q] at z; cases z
          | some k0 =>
            rw [q] at z
            have e' : (if (k0 == NameKind.free && X.env.scope.kind == .function && X.env.kindOf y == some .cell) = true then NameKind.cell else k0) = .local := Option.some.inj z
            by_cases hc : (k0 == NameKind.free && X.env.scope.kind == .function && X.env.kindOf y == some .cell) = true
            · rw [if_pos hc] at e'; cases e'
            · rw [if_neg hc] at e'
              subst e'
              rcases S.only _ (PySem.mem_of_lookup q) rfl with w | w
              · exact hne (by rw [h1]; exact congrArg some w)
              · exact w (List.mem_of_getElem? h1)
        · exact lk y _ z (.inl rfl)
        · exact lk y _ z (.inr rfl)
      obtain ⟨c, hc⟩ := clOf_has (env := X.env) scope.names [] y (PySem.mem_of_lookup q)
      have hk : X.env.kindOf y = some .cell ∨ X.env.kindOf y = some .free := S.free _ (PySem.mem_of_lookup q) rfl
      have h1' : X.N[i]? = some y := (S.sub i y h1).resolve_right fun z => by rw [q] at z; cases z
      obtain ⟨u, r, l⟩ := hl' i y v h1' h2 (.inr hk)
      refine ⟨u, r, ?_⟩
      have kd : (compEnvC scope (clOf X.env scope.names []) s.heap.objs.size X.env).kindOf y = some .cell ∨ (compEnvC scope (clOf X.env scope.names []) s.heap.objs.size X.env).kindOf y = some .free := by
        rcases h3 with z | z | z
        · exfalso
          rw [relabel_lookup, q] at z
          have e' : (if (NameKind.free == NameKind.free && X.env.scope.kind == .function && X.env.kindOf y == some .cell) = true then NameKind.cell else NameKind.free) = .local := Option.some.inj z
          by_cases hc : (NameKind.free == NameKind.free && X.env.scope.kind == .function && X.env.kindOf y == some .cell) = true
          · rw [if_pos hc] at e'; cases e'
          · rw [if_neg hc] at e'; cases e'
        · exact .inl z
        · exact .inr z
      rcases l with ⟨a, _⟩ | ⟨_, c', hc', ic⟩
      · rcases hk with k | k <;> (rw [k] at a; cases a)
      · have e : X.env.cells.lookup y = some c := sub y c hc
        rw [e] at hc'
        cases hc'
        obtain ⟨o, ho, hd⟩ := ic
        exact .inr ⟨kd, c, hc, ⟨o, hsb _ _ ho, hd⟩⟩
  · obtain ⟨v, o, ho, hd⟩ := I.cell y c (sub y c e)
    exact ⟨v, o, hsb _ _ ho, hd⟩
  · have hp : p ∈ X.pn ++ pins := by
      have hp : p ∈ (X.pn ++ pins) ++ [] := hp
      rwa [List.append_nil] at hp
    obtain ⟨e, n, ne, nf, d⟩ := I.pin p hp
    refine ⟨hsb _ _ e, n, lt e, fun hz => ?_, d⟩
    have hz : p.1 ∈ frs X.stack := hz
    rcases List.mem_cons.mp (I.stkSub _ hz) with z | z
    · exact ne z
    · exact nf z
  · show (none :: σ).length = (x :: N').length
    rw [List.length_cons, List.length_cons, I.len, S.len]
def PTs (X : Cx) (ifs : List Expr) (t : TT) : Prop :=
  ∀ (pins : List (Addr × Obj)) (s : Shared) (σ : St) (H : Hp) (Q : Bool → Hp → Prop) (E : Value → Shared → Prop), Inv X pins σ H s → t σ H Q →
    wpAny (model X.prog X.w) X.A (forIn ifs true fun c r => if r = true then do let ok ← isTrue c X.env (eval c X.env); pure (ForInStep.yield ok) else pure (ForInStep.yield r)) (TP X pins σ Q) E s
def tYes : TT := fun _ H Q => Q true H
theorem pts_nil : PTs X [] tYes := fun _ _ _ H _ _ I h => wpAny_tests_nil ⟨H, I, h⟩
theorem comp_loop {prog : Program} {w : World} {A : Around} {R : Result → Shared → Prop} {s : Shared} {elt target iter : Expr} {ifs : List Expr} {scope : Scope} {pos : Pos} {it acc : Value} {env : Env} (J : Nat → Shared → Prop)
    (turn : ∀ n s, J n s → wpAny (model prog w) A (pyNext it) (fun r s1 => match r with
      | none => R (.ok .next) s1
      | some v => wpAny (model prog w) A (letOwnedTupleGo target it v) (fun _ s2 => wpAny (model prog w) A (assign target env v) (fun _ s3 =>
          wpAny (model prog w) A (forIn ifs true fun c r => if r = true then do let ok ← isTrue c env (eval c env); pure (ForInStep.yield ok) else pure (ForInStep.yield r)) (fun ok s4 =>
            if ok = true then wpAny (model prog w) A (eval elt env) (fun y s5 => wpAny (model prog w) A (call (.builtin "list.append") [acc, y]) (fun _ s6 => ∃ m, m < n ∧ J m s6) (fun _ _ => False) s5) (fun _ _ => False) s4
            else ∃ m, m < n ∧ J m s4) (fun _ _ => False) s3) (fun _ _ => False) s2) (fun _ _ => False) s1) (fun _ _ => False) s)
    (n : Nat) (h : J n s) : codeAny (model prog w) A (.compLoop (.ListComp elt [⟨target, iter, ifs, 0⟩] scope pos) 0 it acc env) R s := by
  have no : ∀ {α : Type} {t : Sem α} {Q : α → Shared → Prop} {E : Value → Shared → Prop} {s : Shared}, wpAny (model prog w) A t Q (fun _ _ => False) s → wpAny (model prog w) A t Q E s :=
    fun q => wpAny_mono q (fun _ _ z => z) fun _ _ z => z.elim
  refine codeAny_loop rfl J (fun n s hJ => ?_) n h
  refine wpAny_noted (m := compTurn (.ListComp elt [⟨target, iter, ifs, 0⟩] scope pos) 0 it acc env) ?_
  rw [compTurn_list]
  refine wpAny_bind (wpAny_standAt (wpAny_bind (no (thn (turn n s hJ) fun r s1 q1 => ?_))))
  cases r with
  | none => exact wpAny_pure q1
  | some v =>
    refine no ?_
    refine wpAny_bind (thn q1 fun _ s2 q2 => wpAny_bind (thn q2 fun _ s3 q3 => wpAny_bind (thn q3 fun ok s4 q4 => ?_)))
    cases ok with
    | false => exact wpAny_pure ⟨rfl, q4⟩
    | true => exact wpAny_bind (wpAny_bind (thn q4 fun y s5 q5 => wpAny_bind (thn q5 fun _ s6 q6 => wpAny_pure (wpAny_pure ⟨rfl, q6⟩))))
def CompW (J : It) (tt : TT) (te : TE) (σ : St) (Q : VK) (D : Addr) (H1 : Hp) : Prop := ∃ W : Nat → Nat → List V → Hp → Prop, (∃ m, W 0 m [] (upd H1 D (.lst []))) ∧
  ∀ i m ys H', W i m ys H' → (J.stop i H' ∧ Q (.ref D) H') ∨ (J.go i H' ∧ ∀ v H2, J.yld i H' v H2 → tt (some v :: σ) H2 fun b H3 =>
    if b = true then te (some v :: σ) H3 fun y H4 => H4 D = some (.lst ys) ∧ ys.length < sizeLine ∧ ∃ m', m' < m ∧ W (i + 1) m' (ys ++ [y]) (upd H4 D (.lst (ys ++ [y])))
    else ∃ m', m' < m ∧ W (i + 1) m' ys H3)
def tComp (wi : TI) (tt : TT) (te : TE) : TE := fun σ H Q => wi σ H fun J H1 => ∀ D, H1 D = none → CompW J tt te σ Q D H1
theorem comp_core {elt iter : Expr} {x : Str} {N' : List Str} {px : Pos} {ifs : List Expr} {scope : Scope} {pos : Pos} {tt : TT} {te : TE} (hc : X.calm = true) (S : CompSc X scope x N')
    (ht : ∀ C s H fp pn, PTs (cxComp X scope x N' C s H fp pn) ifs tt) (he : ∀ C s H fp pn, PE (cxComp X scope x N' C s H fp pn) elt te) {Q : VK} {itv : Value} {s2 : Shared} {RR : Value → Addr → Result → Shared → Prop}
    (h2 : PIE X pins σ (.Name x px) (fun J H1 => ∀ D, H1 D = none → CompW J tt te σ Q D H1) itv s2)
    (hend : ∀ (D C : Addr) (H6 : Hp) (s7 : Shared) (m7 : Str → Option Value), Inv X pins σ H6 s7 → s7.heap.Ns C m7 → FpOk X pins H6 C → Q (.ref D) H6 → RR (.ref D) C (.ok .next) s7) :
    wpAny (model X.prog X.w) X.A (newList []) (fun acc s3 => wpAny (model X.prog X.w) X.A (newFunctionEnv scope X.env.globals (clOf X.env scope.names []) [] X.env.qual none .none (some X.env)) (fun cenv s4 =>
      codeAny (model X.prog X.w) X.A (.compStart (.ListComp elt [⟨.Name x px, iter, ifs, 0⟩] scope pos) 0 itv acc { cenv with scope := relabel scope X.env }) (RR acc cenv.locals) s4) X.xe s3) X.xe s2 := by
  obtain ⟨it, fp, tn, J, H2, e, I2, T, st2, f2, hW⟩ := h2
  subst e
  have hlt : ∀ b ∈ fp, b < s2.heap.objs.size := fun b hb => by
    obtain ⟨o, ho, _⟩ := T.obj _ _ st2 b hb
    exact Heap.lt_size ho
  obtain ⟨W, ⟨m0, w0⟩, hturn⟩ := hW s2.heap.objs.size (I2.hok.fresh (Nat.le_refl _))
  refine wpAny_newObj_type ?_ (by show 0 ≤ sizeLine; exact Nat.zero_le _)
  have I3 : Inv X pins σ (upd H2 s2.heap.objs.size (.lst [])) { s2 with heap := s2.heap.push { cls := .type "list", data := .seq ([] : List Value).toArray } } := I2.lnew (t' := s2.toks) .nil (Nat.zero_le _)
  have f3 : ∀ b ∈ fp, FpOk X pins (upd H2 s2.heap.objs.size (.lst [])) b := fun b hb => by
    obtain ⟨g0, g⟩ := f2 b hb
    exact ⟨by rw [upd_ne (Nat.ne_of_lt (hlt b hb))]; exact g0, g⟩
  have st3 : tn 0 (s2.heap.push { cls := .type "list", data := .seq ([] : List Value).toArray }) := T.keep _ _ _ st2 fun b _ o e => Heap.get?_push_of_some _ e
  have hlt3 : ∀ b ∈ fp, b < (s2.heap.push { cls := .type "list", data := .seq ([] : List Value).toArray }).objs.size := fun b hb => by rw [Heap.size_push]; exact Nat.lt_succ_of_lt (hlt b hb)
  generalize hs3 : ({ s2 with heap := s2.heap.push { cls := .type "list", data := .seq ([] : List Value).toArray } } : Shared) = s3 at I3
  have eh : s3.heap = s2.heap.push { cls := .type "list", data := .seq ([] : List Value).toArray } := by rw [← hs3]
  rw [← eh] at st3 hlt3
  show wpAny _ _ (newFunctionEnv scope X.env.globals (clOf X.env scope.names []) [] X.env.qual none .none (some X.env)) _ _ _
  refine wpAny_newFunctionEnv S.nocell (by intro y hy; simp at hy) (fun h4 hns4 hsb4 => ?_) S.kind
  have hk4 : ∀ b o, s3.heap.get? b = some o → h4.get? b = some o := fun b o e => (hsb4.2 b (Nat.ne_of_lt (Heap.lt_size e))).trans (Heap.get?_push_of_some _ e)
  have I4 := Inv.compIn (tk := s3.toks + ([] : List (Str × Value)).length) S I3 f3 hlt3 hns4 hk4
  have st4 : tn 0 h4 := T.keep _ _ _ st3 fun b _ o e => hk4 b o e
  have fx : ∀ {H' : Hp}, (∀ b ∈ fp, H' b = none) → ∀ b ∈ fp, FpOk (cxComp X scope x N' s3.heap.objs.size s3 (upd H2 s2.heap.objs.size (.lst [])) fp (X.pn ++ pins)) [] H' b := fun {H'} hn b hb => by
    obtain ⟨_, g1, g2, g3, g4, g5⟩ := f3 b hb
    refine ⟨hn b hb, Nat.ne_of_lt (hlt3 b hb), I4.ok.exfs b hb, .inl hb, fun y c e => (I4.ok.exf b hb).2 y c e, fun p hp => g5 p ?_⟩
    have hp : p ∈ (X.pn ++ pins) ++ [] := hp
    rwa [List.append_nil] at hp
  have loop : ∀ s5 : Shared, (∃ (i n : Nat) (o : Option V) (ys : List V) (H5 : Hp), Inv (cxComp X scope x N' s3.heap.objs.size s3 (upd H2 s2.heap.objs.size (.lst [])) fp (X.pn ++ pins)) [] (o :: σ) H5 s5 ∧ tn i s5.heap ∧ (∀ b ∈ fp, H5 b = none) ∧ W i n ys H5) →
      codeAny (model X.prog X.w) X.A (.compLoop (.ListComp elt [⟨.Name x px, iter, ifs, 0⟩] scope pos) 0 (.ref it) (.ref s2.heap.objs.size) (compEnvC scope (clOf X.env scope.names []) s3.heap.objs.size X.env))
        (RR (.ref s2.heap.objs.size) s3.heap.objs.size) s5 := by
    rintro s5 ⟨i5, n5, o5, ys5, H5, I5, st5, fr5, w5⟩
    refine comp_loop (fun n s' => ∃ (i : Nat) (o : Option V) (ys : List V) (H5 : Hp), Inv (cxComp X scope x N' s3.heap.objs.size s3 (upd H2 s2.heap.objs.size (.lst [])) fp (X.pn ++ pins)) [] (o :: σ) H5 s' ∧ tn i s'.heap ∧ (∀ b ∈ fp, H5 b = none) ∧ W i n ys H5) ?_ n5 ⟨i5, o5, ys5, H5, I5, st5, fr5, w5⟩
    rintro n s6 ⟨i, o, ys, H6, I6, st6, fr6, w6⟩
    rcases hturn i n ys H6 w6 with ⟨stop, qn⟩ | ⟨go, step⟩
    · refine thn (T.done (cxComp X scope x N' s3.heap.objs.size s3 (upd H2 s2.heap.objs.size (.lst [])) fp (X.pn ++ pins)) rfl rfl rfl hc i [] s6 _ H6 _ I6 (fx fr6) st6 stop) fun r s7 ⟨hr, I7⟩ => ?_
      subst hr
      obtain ⟨m7, hn7, _⟩ := id I7.loc
      have I8 : Inv X pins σ H6 s7 := I3.call' I7.os I7.base I7.hok I7.bare fun b hb => by
        obtain ⟨_, g1, g2, g3, g4, g5⟩ := f3 b hb
        exact ⟨g3, g1, g4, g5⟩
      have f8 : FpOk X pins H6 s3.heap.objs.size := I3.fpOk (Nat.le_refl _) I7.free
      exact hend _ _ H6 s7 m7 I8 hn7 f8 qn
    · refine thn (T.item (cxComp X scope x N' s3.heap.objs.size s3 (upd H2 s2.heap.objs.size (.lst [])) fp (X.pn ++ pins)) rfl rfl rfl hc i [] s6 _ H6 _ I6 (fx fr6) st6 go) fun r s7 ⟨u, hr, h7⟩ => ?_
      subst hr
      refine thn h7 fun _ s8 ⟨v, H8, I8, r8, y8, st8, fr8⟩ => ?_
      have I8' := I8.pinned (fx fr8) (T.obj _ _ st8)
      refine wpAny_assign_Name (store_ok I8' (i := 0) (List.nodup_cons.mpr ⟨S.nin, S.nd⟩) rfl (.inl (lookup_relabel_local S.loc)) r8 (fun s9 I9 => ?_) (.inr (lookup_relabel_local S.loc)))
      have I9 : Inv (cxComp X scope x N' s3.heap.objs.size s3 (upd H2 s2.heap.objs.size (.lst [])) fp (X.pn ++ pins)) ([] ++ pinsAt fp s8.heap) (some v :: σ) H8 s9 := I9
      refine thn (ht _ _ _ _ _ _ s9 (some v :: σ) H8 _ _ I9 (step v H8 y8)) fun b s10 ⟨H10, I10, q10⟩ => ?_
      have back : ∀ {s' : Shared} {H' : Hp} {ys' : List V} {m' : Nat}, Inv (cxComp X scope x N' s3.heap.objs.size s3 (upd H2 s2.heap.objs.size (.lst [])) fp (X.pn ++ pins)) ([] ++ pinsAt fp s8.heap) (some v :: σ) H' s' → W (i + 1) m' ys' H' →
          ∃ (i : Nat) (o : Option V) (ys : List V) (H5 : Hp), Inv (cxComp X scope x N' s3.heap.objs.size s3 (upd H2 s2.heap.objs.size (.lst [])) fp (X.pn ++ pins)) [] (o :: σ) H5 s' ∧ tn i s'.heap ∧ (∀ b ∈ fp, H5 b = none) ∧ W i m' ys H5 := fun {s' H' ys' m'} I' w' => by
        refine ⟨i + 1, some v, ys', H', I'.unpinned, T.keep _ _ _ st8 fun b hb o e => (I'.pin (b, o) (List.mem_append_right _ (List.mem_append_right _ (mem_pinsAt hb e)))).1, fun b hb => ?_, w'⟩
        obtain ⟨o, e, d⟩ := T.obj _ _ st8 b hb
        exact (I'.pin (b, o) (List.mem_append_right _ (List.mem_append_right _ (mem_pinsAt hb e)))).2.1
      cases b with
      | false =>
        rw [if_neg Bool.false_ne_true] at q10 ⊢
        obtain ⟨m', hm, w'⟩ := q10
        exact ⟨m', hm, back I10 w'⟩
      | true =>
        rw [if_pos rfl] at q10 ⊢
        refine thn (he _ _ _ _ _ _ s10 (some v :: σ) H10 _ I10 q10) fun y s11 ⟨yv, H11, I11, r11, hD, hz, m', hm, w'⟩ => ?_
        have ap := mt_append (X := cxComp X scope x N' s3.heap.objs.size s3 (upd H2 s2.heap.objs.size (.lst [])) fp (X.pn ++ pins)) _ s11 (some v :: σ) H11 (.ref s2.heap.objs.size) [yv] (.ref s2.heap.objs.size) [y] (fun _ H' => W (i + 1) m' (ys ++ [yv]) H') I11 rfl (.cons r11 .nil) ⟨_, ys, yv, rfl, rfl, hD, hz, w'⟩
        exact thn ap fun _ s12 ⟨_, H12, I12, _, w12⟩ => ⟨m', hm, back I12 w12⟩
  have l4 := loop { s3 with heap := h4, toks := s3.toks + ([] : List (Str × Value)).length } ⟨0, m0, none, [], _, I4, st4, fun b hb => (f3 b hb).1, w0⟩
  exact codeAny_compStart_list l4 (T.self _ _ _ _ _ st4 l4)
theorem pe_comp {elt iter : Expr} {x : Str} {N' : List Str} {px : Pos} {ifs : List Expr} {scope : Scope} {pos : Pos} {wi : TI} {tt : TT} {te : TE} (hc : X.calm = true) (hi : PI X (.Name x px) iter wi) (S : CompSc X scope x N')
    (ht : ∀ C s H fp pn, PTs (cxComp X scope x N' C s H fp pn) ifs tt) (he : ∀ C s H fp pn, PE (cxComp X scope x N' C s H fp pn) elt te) (hs : ∀ x, foldedSetIterable iter X.env x = pure x := by intro _; rfl) :
    PE X (.ListComp elt [⟨.Name x px, iter, ifs, 0⟩] scope pos) (tComp wi tt te) := by
  intro pins s σ H Q I h
  have hcells : ∀ y ∈ scope.names, y.2 = .free → ∃ c, X.env.cells.lookup y.1 = some c := fun y hy hk => I.ok.has y.1 (S.free y hy hk)
  rw [eval_ListComp]
  refine wpAny_comprehension_free (use := none) rfl hs (closure_of hcells) S.kind S.names (thn (hi pins s σ H _ I h) fun xv s1 h1 => thn h1 fun itv s2 h2 => ?_)
  refine comp_core (RR := fun acc C => compPost (model X.prog X.w) X.A X.xe none (EP X pins σ Q) acc C) hc S ht he h2 fun D C H6 s7 m7 I8 hn7 f8 qn => ?_
  refine ⟨m7, hn7, fun h' hs' => ?_⟩
  obtain ⟨g0, g1, g2, g3, g4, g5⟩ := f8
  exact ⟨.ref D, H6, I8.turned (t' := s7.toks) (fun b o hb e => (hs'.2 b hb).trans e) g0 g1 g3 g4 g5, rfl, qn⟩
theorem ps_comp {elt iter : Expr} {x y : Str} {N' : List Str} {i : Nat} {px py : Pos} {ifs : List Expr} {scope : Scope} {pos spos : Pos} {wi : TI} {tt : TT} {te : TE} (hN : X.N.Nodup) (hiy : X.N[i]? = some y) (hy : Loc X.env.scope y) (hc : X.calm = true) (hi : PI X (.Name x px) iter wi) (S : CompSc X scope x N')
    (ht : ∀ C s H fp pn, PTs (cxComp X scope x N' C s H fp pn) ifs tt) (he : ∀ C s H fp pn, PE (cxComp X scope x N' C s H fp pn) elt te)
    (hsw : swapsWith (.ListComp elt [⟨.Name x px, iter, ifs, 0⟩] scope pos) (some (.Name y py)) spos.line X.env = pure true := by rfl) (hs : ∀ x, foldedSetIterable iter X.env x = pure x := by intro _; rfl)
    (hf : X.fn y = true ∨ X.env.scope.names.lookup y = some .local := by first | exact .inl rfl | exact .inr rfl | assumption) :
    PS X (.Assign [.Name y py] (.ListComp elt [⟨.Name x px, iter, ifs, 0⟩] scope pos) spos) (tAsg (tComp wi tt te) (gName i)) := by
  intro pins s σ H D I h
  have hcells : ∀ y ∈ scope.names, y.2 = .free → ∃ c, X.env.cells.lookup y.1 = some c := fun y hy hk => I.ok.has y.1 (S.free y hy hk)
  rw [exec_Assign_Name_used _ _ _ _ hsw]
  refine wpAny_bind (wpAny_standAt (wpAny_bind ?_))
  show wpAny _ X.A (do let _ ← comprehension (.ListComp elt [⟨.Name x px, iter, ifs, 0⟩] scope pos) scope X.env _ (newList []) false (eval iter X.env) (some (assign (.Name y py) X.env))) _ _ s
  refine wpAny_bind (thn (wpAny_comprehension_free (use := some (assign (.Name y py) X.env)) (Q := fun _ s' => SP X pins D .next s') rfl hs (closure_of hcells) S.kind S.names
    (thn (hi pins s σ H _ I h) fun xv s1 h1 => thn h1 fun itv s2 h2 => ?_)) fun _ s' hq => wpAny_pure (wpAny_pure hq))
  refine comp_core (RR := fun acc C => compPost (model X.prog X.w) X.A X.xe (some (assign (.Name y py) X.env)) (fun _ s' => SP X pins D .next s') acc C) hc S ht he h2 fun L C H6 s7 m7 I8 hn7 f8 qn => ?_
  obtain ⟨g0, g1, g2, g3, g4, g5⟩ := f8
  show wpAny _ X.A (assign (.Name y py) X.env (.ref L)) _ _ _
  refine wpAny_assign_Name (store_ok2 I8 hN hiy hy (v := .ref L) (u := .ref L) rfl (fun s8 I9 hch => ?_) hf)
  obtain ⟨a, hsb, ha⟩ := hch
  have hCa : C ≠ a := by
    rcases ha with z | z
    · rw [z]; exact g1
    · exact fun w => g4 _ _ z w.symm
  refine ⟨m7, hn7.sameBut hsb hCa, fun h' hs' => ?_⟩
  exact ⟨_, H6, I9.turned (t' := s8.toks) (fun b o hb e => (hs'.2 b hb).trans e) g0 g1 g3 g4 g5, qn⟩
end
end L2
set_option Elab.async false
set_option linter.all false
set_option maxRecDepth 100000
set_option maxHeartbeats 4000000
namespace L2
open PySem PySem.Spec PyProof.Rows
def compOk (sc scope : Scope) (N N' : List Str) (x : Str) : Bool :=
  decide (scope.names.lookup x = some .local) && scope.names.all (fun y => decide (y.2 ≠ .cell)) && decide (scope.kind = .function) && scope.names.all (fun y => decide (y.2 = .local → scope.names.lookup y.1 = some .local)) &&
  scope.names.all (fun y => decide (y.2 = .free → sc.names.lookup y.1 = some .cell ∨ sc.names.lookup y.1 = some .free)) && decide (x ∉ N') && decide N'.Nodup && decide (N'.length = N.length) &&
  (List.range N'.length).all (fun i => match N'[i]? with | some y => decide (N[i]? = some y ∨ scope.names.lookup y = none) | none => true) && scope.names.all (fun y => decide (y.2 = .local → y.1 = x ∨ y.1 ∉ N'))
theorem comp_sc {X : Cx} {scope : Scope} {x : Str} (sc : Scope) (N N' : List Str) (hsc : X.env.scope = sc) (hN : X.N = N) (h : compOk sc scope N N' x = true) : CompSc X scope x N' := by
  subst hsc hN
  unfold compOk at h
  simp only [Bool.and_eq_true, List.all_eq_true, decide_eq_true_eq] at h
  obtain ⟨⟨⟨⟨⟨⟨⟨⟨⟨h1, h2⟩, h3⟩, h4⟩, h5⟩, h6⟩, h7⟩, h7'⟩, h8'⟩, h8⟩ := h
  refine ⟨h1, h2, h3, h4, h5, h6, h7, h7', fun i y e => ?_, h8⟩
  have hi : i < N'.length := (List.getElem?_eq_some_iff.mp e).1
  have z := h8' i (List.mem_range.mpr hi)
  rw [e] at z
  exact of_decide_eq_true z
def Its (x : Str) : It := ⟨fun i _ => i < x.cps.size, fun i H v H' => H' = H ∧ ∃ c, x.cps[i]? = some c ∧ v = .str ⟨#[c]⟩, fun i _ => x.cps.size = i⟩
theorem turn_str {P : Program} {w : World} {K : PySem.W.Frag} {tg : Expr} {it : Addr} {x : Str} {t : Tok} {ty : String}
    (hty : ["enumerate", "zip", "dict_itemiterator", "dict_reverseitemiterator", "odict_iterator", "itertools.zip_longest", "itertools.pairwise"].contains ty = false)
    (hW : ∀ A' : Around, A'.handled = none → Walks P w A' it [it] [it] x.cps.size (SignAt x) (fun i h => h.IsStrIter it ty x t i))
    (hself : ∀ (A : Around) (i : Nat) (s : Shared) (Q : Value → Shared → Prop) (E : Value → Shared → Prop), s.heap.IsStrIter it ty x t i → Q (.ref it) s → wpAny (model P w) A (pyIter (.ref it)) Q E s) :
    Turn P w K tg (Its x) [it] it (fun i h => h.IsStrIter it ty x t i) where
  mem := by simp
  obj := fun i h st b hb => by
    have e : b = it := by simpa using hb
    subst e
    obtain ⟨o, e, c, d⟩ := st
    exact ⟨o, e, fun v z => by rw [d] at z; cases z⟩
  keep := fun i h h' st k => by
    obtain ⟨o, e, r⟩ := st
    exact ⟨o, k it (by simp) o e, r⟩
  item := by
    intro X hP hw hK hc i pins s σ H E I hf st hg
    subst hP hw hK
    obtain ⟨f0, f1, f2, f3, f4, f5⟩ := hf it (by simp)
    refine (hW X.A (I.ok.hd hc)).item i s _ _ hg st fun v h' tk hv st' kk => ?_
    obtain ⟨c, u, hx, rfl⟩ := hv
    have I1 : Inv X pins σ H { s with heap := h', toks := tk } := I.turned (fun b o hb e => kk b o (by simpa using hb) e) f0 f1 f3 f4 f5
    obtain ⟨o, e, c', d⟩ := id st'
    exact ⟨_, rfl, go_of (s := { s with heap := h', toks := tk }) e c' d hty ⟨.str ⟨#[c]⟩, H, I1, ⟨u, rfl⟩, ⟨rfl, c, hx, rfl⟩, st', fun b hb => (hf b hb).1⟩⟩
  done := by
    intro X hP hw hK hc i pins s σ H E I hf st hg
    subst hP hw hK
    obtain ⟨f0, f1, f2, f3, f4, f5⟩ := hf it (by simp)
    have hg : x.cps.size = i := hg
    subst hg
    exact (hW X.A (I.ok.hd hc)).done s _ _ st fun h' tk kk => ⟨rfl, I.turned (fun b o hb e => kk b o (by simpa using hb) e) f0 f1 f3 f4 f5⟩
  self := hself
section
variable {X : Cx} {tg : Expr}
def iStr (tl : TE) : TI := fun σ H R => tl σ H fun v H1 => ∃ x, v = .str x ∧ R (Its x) H1
theorem pi_str {l : Expr} {tl : TE} (hl : PE X l tl) : PI X tg l (iStr tl) := by
  intro pins s σ H R I h
  refine thn (hl pins s σ H _ I h) fun v s1 ⟨z, H1, I1, r1, q1⟩ => ?_
  obtain ⟨x, e, q⟩ := q1
  subst e
  obtain ⟨t, rfl⟩ := r1
  have fp : ∀ b ∈ [s1.heap.objs.size], FpOk X pins H1 b := fun b hb => by
    have e : b = s1.heap.objs.size := by simpa using hb
    subst e
    exact I1.fpOk (Nat.le_refl _) (I1.hok.fresh (Nat.le_refl _))
  cases ha : x.cps.all (· < 128)
  · refine wpAny_pyIter_wide ha ?_
    exact ⟨s1.heap.objs.size, [s1.heap.objs.size], _, _, H1, rfl, I1.kept (t' := s1.toks) fun b o e => Heap.get?_push_of_some _ e, turn_str (ty := "str_iterator") (t := t) (by decide) (fun A' hA => Walks.strWide hA _ x t) (fun _ _ _ _ _ st hq => wpAny_pyIter_striter_wide st hq), ⟨_, Heap.get?_push_size _ rfl, rfl, rfl⟩, fp, q⟩
  · refine wpAny_pyIter_ascii ha ?_
    exact ⟨s1.heap.objs.size, [s1.heap.objs.size], _, _, H1, rfl, I1.kept (t' := s1.toks) fun b o e => Heap.get?_push_of_some _ e, turn_str (ty := "str_ascii_iterator") (t := t) (by decide) (fun A' hA => Walks.strAscii hA _ x t) (fun _ _ _ _ _ st hq => wpAny_pyIter_striter_ascii st hq), ⟨_, Heap.get?_push_size _ rfl, rfl, rfl⟩, fp, q⟩
end
structure Row (J : It) (n : Nat) (vs : Nat → V) (Ok : Hp → Prop) : Prop where
  go : ∀ i H, i < n → Ok H → J.go i H
  yld : ∀ i H v H', i < n → Ok H → J.yld i H v H' → H' = H ∧ v = vs i
  stop : ∀ H, Ok H → J.stop n H
theorem row_range (lo : Int) (n : Nat) : Row (Itr lo n) n (fun i => .int (lo + i)) (fun _ => True) := ⟨fun i H h _ => h, fun i H v H' _ _ h => h, fun H _ => Nat.le_refl n⟩
theorem row_str (x : Str) : Row (Its x) x.cps.size (fun i => .str ⟨#[x.cps.getD i 0]⟩) (fun _ => True) := ⟨fun i H h _ => h, fun i H v H' hi _ h => by
  obtain ⟨e, c, hc, rfl⟩ := h
  refine ⟨e, ?_⟩
  have : x.cps.getD i 0 = c := by rw [Array.getD_eq_getD_getElem?, hc]; rfl
  rw [this], fun H _ => rfl⟩
theorem row_list {K : PySem.W.Frag} {a : Addr} {xs : List V} : Row (Itl K a) xs.length (fun i => xs.getD i .non) (fun H => SqL K H a xs) := ⟨fun i H h q => ⟨xs, xs[i], q, by simp [h]⟩, fun i H v H' hi q h => by
  obtain ⟨e, y⟩ := h
  refine ⟨e, ?_⟩
  have := y xs q
  rw [List.getD_eq_getElem?_getD, this]; rfl, fun H q => ⟨xs, q, Nat.le_refl _⟩⟩
theorem row_tup {K : PySem.W.Frag} {a : Addr} {xs : List V} : Row (Itt K a) xs.length (fun i => xs.getD i .non) (fun H => SqT K H a xs) := ⟨fun i H h q => ⟨xs, xs[i], q, by simp [h]⟩, fun i H v H' hi q h => by
  obtain ⟨e, y⟩ := h
  refine ⟨e, ?_⟩
  have := y xs q
  rw [List.getD_eq_getElem?_getD, this]; rfl, fun H q => ⟨xs, q, Nat.le_refl _⟩⟩
def ForW (J : It) (g : TG) (tb : TS) (D : Ends) (σ : St) (H : Hp) : Prop := ∃ W : Nat → Nat → St → Hp → Prop, (∃ m, W 0 m σ H) ∧ ∀ i m σ H, W i m σ H →
      (J.stop i H ∧ D.nx σ H) ∨ (J.go i H ∧ ∃ N : St → Hp → Prop, (∀ σ' H', N σ' H' → ∃ m', m' < m ∧ W (i + 1) m' σ' H') ∧ ∀ x H', J.yld i H x H' → g x σ H' fun σ2 H2 => tb { D with nx := N, ct := N, bk := D.nx } σ2 H2)
theorem for_row {J : It} {n : Nat} {vs : Nat → V} {Ok : Hp → Prop} (R : Row J n vs Ok) {g : TG} {tb : TS} {D : Ends} {σ : St} {H : Hp} (Pv : Nat → St → Hp → Prop) (h0 : Pv 0 σ H) (hok : ∀ i σ H, Pv i σ H → Ok H)
    (hs : ∀ i σ H, i < n → Pv i σ H → g (vs i) σ H fun σ2 H2 => tb { D with nx := Pv (i + 1), ct := Pv (i + 1), bk := D.nx } σ2 H2) (hd : ∀ σ H, Pv n σ H → D.nx σ H) :
    ForW J g tb D σ H := by
  refine ⟨fun i m σ H => m = n - i ∧ i ≤ n ∧ Pv i σ H, ⟨n, by simp, Nat.zero_le _, h0⟩, ?_⟩
  rintro i m σ H ⟨rfl, hi, p⟩
  by_cases hlt : i < n
  · refine .inr ⟨R.go i H hlt (hok i σ H p), Pv (i + 1), fun σ' H' p' => ⟨n - (i + 1), by omega, rfl, hlt, p'⟩, fun x H' y => ?_⟩
    obtain ⟨e1, e2⟩ := R.yld i H x H' hlt (hok i σ H p) y
    subst e1 e2
    exact hs i σ _ hlt p
  · have e : i = n := by omega
    subst e
    exact .inl ⟨R.stop H (hok i σ H p), hd σ H p⟩
theorem comp_row {J : It} {n : Nat} {vs : Nat → V} {Ok : Hp → Prop} (R : Row J n vs Ok) {te : TE} {Q : VK} {σ : St} {H1 : Hp} {D : Addr} (Pv : Nat → List V → Hp → Prop) (hn : n ≤ sizeLine) (h0 : Pv 0 [] (upd H1 D (.lst []))) (hok : ∀ i ys H, Pv i ys H → Ok H)
    (hs : ∀ i ys H (Q' : VK), i < n → ys.length = i → Pv i ys H → (∀ y H4, H4 D = some (.lst ys) → Pv (i + 1) (ys ++ [y]) (upd H4 D (.lst (ys ++ [y]))) → Q' y H4) → te (some (vs i) :: σ) H Q')
    (hd : ∀ ys H, ys.length = n → Pv n ys H → Q (.ref D) H) :
    CompW J tYes te σ Q D H1 := by
  refine ⟨fun i m ys H => m = n - i ∧ i ≤ n ∧ ys.length = i ∧ Pv i ys H, ⟨n, by simp, Nat.zero_le _, rfl, h0⟩, ?_⟩
  rintro i m ys H ⟨rfl, hi, hl, p⟩
  by_cases hlt : i < n
  · refine .inr ⟨R.go i H hlt (hok i ys H p), fun v H2 y => ?_⟩
    obtain ⟨e1, e2⟩ := R.yld i H v H2 hlt (hok i ys H p) y
    subst e1 e2
    exact hs i ys _ _ hlt hl p fun v H4 q1 q2 => ⟨q1, by omega, n - (i + 1), by omega, rfl, hlt, by simp [hl], q2⟩
  · have e : i = n := by omega
    subst e
    exact .inl ⟨R.stop H (hok _ ys H p), hd ys H hl p⟩
end L2
set_option Elab.async false
set_option linter.all false
set_option maxRecDepth 100000
set_option maxHeartbeats 4000000
namespace L2
open PySem PySem.Spec PyProof.Rows
def mVar (i : Nat) : TE := fun σ H Q => match σ[i]? with | some (some v) => Q v H | _ => False
def mB (Q : Bool → Hp → Prop) : VK := fun z H' => match z with | .bl k => Q k H' | _ => False
theorem mB_eq (Q : Bool → Hp → Prop) : mB Q = fun z H' => ∃ k, z = .bl k ∧ Q k H' := by
  funext z H'
  cases z <;> simp [mB]
section
variable {X : Cx} {a b c e : Expr} {ta tb tc te : TE} {pos : Pos}
theorem mv (i : Nat) {x : Str} {pos : Pos} (hN : X.N[i]? = some x := by rfl) (hv : Vis X.env.scope x := by first | exact Or.inl rfl | exact Or.inr (Or.inl rfl) | exact Or.inr (Or.inr rfl)) (hd : (x == ("__debug__" : Str)) = false := by decide)
    (hcd : (x == ("__classdict__" : Str)) = false := by decide) : PE X (.Name x pos) (mVar i) := by
  intro pins s σ H Q I h
  refine pe_var hN hv hd hcd pins s σ H Q I ?_
  unfold mVar at h
  split at h
  · rename_i v q; exact ⟨v, q, h⟩
  · exact h.elim
def m2 (C : Int → Int → Prop) (g : Int → Int → V) : R2 := fun x y H Q => match x, y with
  | .int i, .int j => C i j ∧ Q (g i j) H
  | _, _ => False
def m20 (g : Int → Int → V) : R2 := fun x y H Q => match x, y with
  | .int i, .int j => Q (g i j) H
  | _, _ => False
theorem m2_to {C : Int → Int → Prop} {g : Int → Int → V} {x y : V} {H : Hp} {Q : VK} (h : m2 C g x y H Q) : rI C g x y H Q := by
  cases x <;> cases y <;> first | exact (show False from h).elim | exact ⟨_, _, rfl, rfl, h⟩
theorem m20_to {g : Int → Int → V} {x y : V} {H : Hp} {Q : VK} (h : m20 g x y H Q) : rI0 g x y H Q := by
  cases x <;> cases y <;> first | exact (show False from h).elim | exact ⟨_, _, rfl, rfl, h⟩
theorem OpR.imp {f : Value → Value → Sem Value} {r r' : R2} (h : OpR X f r) (k : ∀ x y H Q, r' x y H Q → r x y H Q) : OpR X f r' := fun pins s σ H x y v u Q I rx ry q => h pins s σ H x y v u Q I rx ry (k x y H Q q)
def mAdd (K : PySem.W.Frag) : R2 := fun x y H Q => match x, y with
  | .int i, .int j => Q (.int (i + j)) H
  | .str i, .str j => i.length + j.length ≤ sizeLine ∧ Q (.str (i ++ j)) H
  | .ref p, .ref q => (∃ xs ys, H p = some (.lst xs) ∧ H q = some (.lst ys) ∧ xs.length + ys.length ≤ sizeLine ∧ ∀ d, H d = none → Q (.ref d) (upd H d (.lst (xs ++ ys)))) ∨
      ∃ xs ys, SqT K H p xs ∧ SqT K H q ys ∧ xs ≠ [] ∧ xs.length + ys.length ≤ sizeLine ∧ (ys = [] → Q (.ref p) H) ∧ (ys ≠ [] → ∀ d, H d = none → Q (.ref d) (upd H d (.tup (xs ++ ys))))
  | _, _ => False
theorem mo_add : OpR X (binaryOp .Add) (mAdd X.K) := by
  refine (op_add.or (op_add_str.or (op_cat.or op_catT))).imp fun x y H Q h => ?_
  cases x <;> cases y <;> first
    | exact (show False from h).elim
    | exact .inl ⟨_, _, rfl, rfl, h⟩
    | exact .inr (.inl ⟨_, _, rfl, rfl, h⟩)
    | (rcases h with ⟨xs, ys, h1, h2, h3, h4⟩ | ⟨xs, ys, h1, h2, h3, h4, h5⟩
       · exact .inr (.inr (.inl ⟨_, _, xs, ys, rfl, rfl, h1, h2, h3, h4⟩))
       · exact .inr (.inr (.inr ⟨_, _, xs, ys, rfl, rfl, h1, h2, h3, h4, h5⟩)))
theorem mo_sub : OpR X (binaryOp .Sub) (m20 fun i j => .int (i - j)) := op_sub.imp fun _ _ _ _ h => m20_to h
def mMul : R2 := fun x y H Q => match x, y with
  | .int i, .int j => IntMulOk i j ∧ Q (.int (i * j)) H
  | .ref l, .int k => ∃ xs, H l = some (.lst xs) ∧ -(2 ^ 63) ≤ k ∧ k < 2 ^ 63 ∧ xs.length * k.toNat ≤ sizeLine ∧ ∀ p, H p = none → Q (.ref p) (upd H p (.lst (List.replicate k.toNat xs).flatten))
  | _, _ => False
theorem op_mulW : OpR X (binaryOp .Mult) (rI (fun i j => IntMulOk i j) fun i j => .int (i * j)) := opI fun _ _ _ _ _ _ _ hc q => mul_int q hc
theorem mo_mul : OpR X (binaryOp .Mult) mMul := by
  refine (op_mulW.or op_rep).imp fun x y H Q h => ?_
  cases x <;> cases y <;> first
    | exact (show False from h).elim
    | exact .inl ⟨_, _, rfl, rfl, h⟩
    | (obtain ⟨xs, h1, h2, h3, h4, h5⟩ := h; exact .inr ⟨_, _, xs, rfl, rfl, h1, h2, h3, h4, h5⟩)
theorem mo_fdiv : OpR X (binaryOp .FloorDiv) (m2 CDiv fun i j => .int (i / j)) := op_fdiv.imp fun _ _ _ _ h => m2_to h
theorem mo_mod : OpR X (binaryOp .Mod) (m2 (fun _ j => 0 < j) fun i j => .int (i % j)) := op_mod.imp fun _ _ _ _ h => m2_to h
theorem mo_pow : OpR X (binaryOp .Pow) (m2 CPow fun i j => .int (i ^ j.toNat)) := op_pow.imp fun _ _ _ _ h => m2_to h
theorem mo_lt : OpR X (compareOp .Lt) (m20 fun i j => .bl (decide (i < j))) := op_lt.imp fun _ _ _ _ h => m20_to h
theorem mo_le : OpR X (compareOp .LtE) (m20 fun i j => .bl (decide (i ≤ j))) := op_le.imp fun _ _ _ _ h => m20_to h
theorem mo_gt : OpR X (compareOp .Gt) (m20 fun i j => .bl (decide (j < i))) := op_gt.imp fun _ _ _ _ h => m20_to h
theorem mo_ge : OpR X (compareOp .GtE) (m20 fun i j => .bl (decide (j ≤ i))) := op_ge.imp fun _ _ _ _ h => m20_to h
def mEq (n : Bool) : R2 := fun x y H Q => match x, y with
  | .int i, .int j => Q (.bl (n ^^ decide (i = j))) H
  | .str i, .str j => Q (.bl (n ^^ decide (i = j))) H
  | .bl i, .bl j => Q (.bl (n ^^ decide (i = j))) H
  | .non, .non => Q (.bl (n ^^ true)) H
  | .non, .int _ => Q (.bl n) H
  | .non, .str _ => Q (.bl n) H
  | .non, .bl _ => Q (.bl n) H
  | .int _, .non => Q (.bl n) H
  | .str _, .non => Q (.bl n) H
  | .bl _, .non => Q (.bl n) H
  | .int _, .str _ => Q (.bl n) H
  | .str _, .int _ => Q (.bl n) H
  | .bl _, .str _ => Q (.bl n) H
  | .str _, .bl _ => Q (.bl n) H
  | _, _ => False
theorem mo_eq : OpR X (compareOp .Eq) (mEq false) := by
  refine op_eq.imp fun x y H Q h => ?_
  cases x <;> cases y <;> first
    | exact (show False from h).elim
    | exact ⟨rfl, by simpa [mEq] using h⟩
theorem mo_ne : OpR X (compareOp .NotEq) (mEq true) := by
  refine op_ne.imp fun x y H Q h => ?_
  cases x <;> cases y <;> first
    | exact (show False from h).elim
    | exact ⟨rfl, by simpa [mEq] using h⟩
def mTest (t : TE) : TT := fun σ H Q => t σ H (mB Q)
theorem mTest_eq (t : TE) : mTest t = tTest t := by
  funext σ H Q
  show t σ H (mB Q) = t σ H _
  rw [mB_eq]
theorem mt_cmp {op : CmpOp} {r : R2} (ho : OpR X (compareOp op) r) (ha : PE X a ta) (hb : PE X b tb) (hm : behindInMarks op b = false) : PT X (.Compare a [op] [b] pos) (mTest (tOp r ta tb)) := by
  rw [mTest_eq]; exact pt_cmpR ho ha hb hm
def mChain (r r' : R2) (ta tb tc : TE) : TE := fun σ H Q => ta σ H fun x H1 => tb σ H1 fun y H2 => r x y H2 (mB fun k H3 => if k = true then tc σ H3 fun w' H4 => r' y w' H4 Q else Q (.bl false) H3)
theorem mChain_eq (r r' : R2) (ta tb tc : TE) : mChain r r' ta tb tc = tChain r r' ta tb tc := by
  funext σ H Q
  unfold mChain tChain
  simp only [mB_eq]
theorem mt_chain {op op' : CmpOp} {r r' : R2} (ho : OpR X (compareOp op) r) (ho' : OpR X (compareOp op') r') (ha : PE X a ta) (hb : PE X b tb) (hc : PE X c tc)
    (hm : lastMarks [op, op'] [b, c] = false := by with_unfolding_all rfl) : PT X (.Compare a [op, op'] [b, c] pos) (mTest (mChain r r' ta tb tc)) := by
  rw [mTest_eq, mChain_eq]; exact pt_chain ho ho' ha hb hc hm
def mTru (K : PySem.W.Frag) (Q : Bool → Hp → Prop) : VK := fun x H => match x with
  | .non => Q false H
  | .bl b => Q b H
  | .int i => Q (decide (i ≠ 0)) H
  | .str y => y.length ≤ sizeLine ∧ Q (decide (y.length ≠ 0)) H
  | .ref p => (∃ xs, SqL K H p xs ∧ Q (!xs.isEmpty) H) ∨ (∃ xs, SqT K H p xs ∧ Q (!xs.isEmpty) H) ∨ ∃ kvs, H p = some (.dK kvs) ∧ Q (!kvs.isEmpty) H
  | _ => False
theorem mTru_to {K : PySem.W.Frag} {Q : Bool → Hp → Prop} {x : V} {H : Hp} (h : mTru K Q x H) : ∃ k, TruV K x H k ∧ Q k H := by
  cases x with
  | non => exact ⟨_, rfl, h⟩
  | bl b => exact ⟨_, rfl, h⟩
  | int i =>
    have h : Q (decide (i ≠ 0)) H := h
    refine ⟨i != 0, rfl, ?_⟩
    have e : (i != 0) = decide (i ≠ 0) := by
      rw [Bool.eq_iff_iff]; simp
    rw [e]; exact h
  | str y =>
    obtain ⟨h1, h⟩ : y.length ≤ sizeLine ∧ Q (decide (y.length ≠ 0)) H := h
    refine ⟨((y.length : Int) != 0), ⟨h1, rfl⟩, ?_⟩
    have e : ((y.length : Int) != 0) = decide (y.length ≠ 0) := by
      rw [Bool.eq_iff_iff]; simp
    rw [e]; exact h
  | ref p =>
    rcases h with ⟨xs, h1, h2⟩ | ⟨xs, h1, h2⟩ | ⟨xs, h1, h2⟩
    · exact ⟨_, .inl ⟨xs, h1, rfl⟩, h2⟩
    · exact ⟨_, .inr (.inl ⟨xs, h1, rfl⟩), h2⟩
    · exact ⟨_, .inr (.inr ⟨xs, h1, rfl⟩), h2⟩
  | _ => exact (show False from h).elim
def mTrue (K : PySem.W.Frag) (ta : TE) : TT := fun σ H Q => ta σ H (mTru K Q)
theorem mt_tru (ha : PE X a ta) (he : ∀ whole, isTrue a X.env whole = (do let v ← whole; standAt a.pos; holding [v] (truthy v)) := by intro _; rfl) : PT X a (mTrue X.K ta) := by
  intro pins s σ H Q I h
  exact isTrue_plain (thn (ha pins s σ H _ I h) fun v s1 ⟨x, H1, I1, r1, q1⟩ => tru_ok pins s1 σ H1 x v Q I1 r1 (mTru_to q1)) (he _)
def mAndV (ta tb : TE) : TE := fun σ H Q => ta σ H (mB fun c H1 => if c = true then tb σ H1 Q else Q (.bl false) H1)
def mOrV (ta tb : TE) : TE := fun σ H Q => ta σ H (mB fun c H1 => if c = true then Q (.bl true) H1 else tb σ H1 Q)
variable {rest : List Expr}
theorem me_and (ha : PE X a ta) (hb : PE X (.BoolOp .And (b :: rest) pos) tb) : PE X (.BoolOp .And (a :: b :: rest) pos) (mAndV ta tb) := by
  have e : mAndV ta tb = tAndV ta tb := by funext σ H Q; unfold mAndV tAndV; rw [mB_eq]
  rw [e]; exact pe_and ha hb
theorem me_or (ha : PE X a ta) (hb : PE X (.BoolOp .Or (b :: rest) pos) tb) : PE X (.BoolOp .Or (a :: b :: rest) pos) (mOrV ta tb) := by
  have e : mOrV ta tb = tOrV ta tb := by funext σ H Q; unfold mOrV tOrV; rw [mB_eq]
  rw [e]; exact pe_or ha hb
def mIx (K : PySem.W.Frag) : R2 := fun x y H Q => match x, y with
  | .ref p, .int i => (∃ xs v, SqL K H p xs ∧ atI xs i = some v ∧ Q v H) ∨ ∃ xs v, SqT K H p xs ∧ atI xs i = some v ∧ Q v H
  | .str z, .int i => z.length ≤ sizeLine ∧ ∃ c, atI z.cps.toList i = some c ∧ Q (.str ⟨#[c]⟩) H
  | _, _ => False
theorem mi_seq : IxR X (mIx X.K) := by
  intro value slice pins s σ H x y v u Q I rx ry h hs
  refine ix_seq value slice pins s σ H x y v u Q I rx ry ?_ hs
  cases x <;> cases y <;> first
    | exact (show False from h).elim
    | (rcases h with ⟨xs, v, h1, h2, h3⟩ | ⟨xs, v, h1, h2, h3⟩
       · exact .inl ⟨_, xs, _, v, rfl, rfl, h1, h2, h3⟩
       · exact .inr (.inl ⟨_, xs, _, v, rfl, rfl, h1, h2, h3⟩))
    | (obtain ⟨h1, c, h2, h3⟩ := h; exact .inr (.inr ⟨_, _, c, rfl, rfl, h1, h2, h3⟩))
def inS (i j : Str) : Bool := !(Builtin.Str.occurrences j i 0 j.length 1).isEmpty
def mInS (n : Bool) : R2 := fun x y H Q => match x, y with
  | .str i, .str j => Q (.bl (n ^^ inS i j)) H
  | _, _ => False
theorem mo_inS : OpR X (compareOp .In) (mInS false) := op_in_str.imp fun x y H Q h => by
  cases x <;> cases y <;> first | exact (show False from h).elim | exact ⟨_, _, rfl, rfl, by simpa [mInS, inS] using h⟩
def mI (R : Option Int → Hp → Prop) : VK := fun x H1 => match x with | .int i => R (some i) H1 | _ => False
def mPart (t : TE) : TO := fun σ H Q => t σ H (mI Q)
theorem mp_some (h : PE X e te) : PO X (some e) (mPart te) := by
  have q : mPart te = tPart te := by
    funext σ H Q
    unfold mPart tPart
    congr 1
    funext x H1
    cases x <;> simp [mI]
  rw [q]; exact po_some h
def mLen (K : PySem.W.Frag) : List V → Hp → VK → Prop := fun vs H Q => match vs with
  | [.str y] => y.length ≤ sizeLine ∧ Q (.int y.length) H
  | [.ref p] => (∃ xs, SqL K H p xs ∧ Q (.int xs.length) H) ∨ ∃ xs, SqT K H p xs ∧ Q (.int xs.length) H
  | _ => False
theorem mc_len : CallR X (.builtin "len") (mLen X.K) := by
  intro pins s σ H xs us Q I r h
  refine call_len pins s σ H xs us Q I r ?_
  unfold mLen at h
  split at h
  · exact ⟨_, _, rfl, ⟨h.1, rfl⟩, h.2⟩
  · rcases h with ⟨ys, h1, h2⟩ | ⟨ys, h1, h2⟩
    · exact ⟨_, _, rfl, .inl ⟨ys, h1, rfl⟩, h2⟩
    · exact ⟨_, _, rfl, .inr ⟨ys, h1, rfl⟩, h2⟩
  · exact h.elim
theorem kit_same (K : PySem.W.Frag) (t : Value) : PySem.W.kitOne K t t = some true := by
  unfold PySem.W.kitOne
  rw [if_pos (by simp)]
theorem vals_bl : ∀ {bs : List Bool} {us : List Value}, Vals (bs.map V.bl) us → us = bs.map Value.bool
  | [], _, .nil => rfl
  | b :: bs, _, .cons r t => by
    have r : _ = Value.bool b := r
    rw [List.map_cons, r, vals_bl t]
theorem all_range (bs : List Bool) : ((List.range bs.length).all fun i => bs.getD i true) = bs.all id := by
  rw [Bool.eq_iff_iff, List.all_eq_true, List.all_eq_true]
  constructor
  · intro h x hx
    obtain ⟨i, hi, e⟩ := List.getElem_of_mem hx
    have := h i (List.mem_range.mpr hi)
    rw [List.getD_eq_getElem?_getD, List.getElem?_eq_getElem hi] at this
    simpa [e] using this
  · intro h i hi
    have hi := List.mem_range.mp hi
    rw [List.getD_eq_getElem?_getD, List.getElem?_eq_getElem hi]
    exact h _ (List.getElem_mem hi)
def mAll (K : PySem.W.Frag) (f : List Bool → Bool) : List V → Hp → VK → Prop := fun vs H Q => match vs with
  | [.ref p] => ∃ bs : List Bool, SqL K H p (bs.map V.bl) ∧ Q (.bl (f bs)) H
  | _ => False
theorem list_walk {pins : List (Addr × Obj)} {s : Shared} {σ : St} {H : Hp} {p : Addr} {bs : List Bool} {Q : VK} (hc : X.calm = true) (I : Inv X pins σ H s) (hs : SqL X.K H p (bs.map V.bl)) (f : (Nat → Bool) → Nat → Bool) (q : Q (.bl (f (fun i => bs.getD i true) bs.length)) H) {E : Value → Shared → Prop} :
    wpAny (model X.prog X.w) X.A.in1 (pyIter (.ref p)) (fun it s2 => ∃ J fp wr n P St tr, it = .ref J ∧ Walks X.prog X.w X.A.in1 J fp wr n P St ∧ St 0 s2.heap ∧ TruthOf X.prog X.w X.A.in1 P tr ∧
      ∀ h' tk, (∀ b o, b ∉ wr → s2.heap.get? b = some o → h'.get? b = some o) → EP X pins σ Q (.bool (f tr n)) { s2 with heap := h', toks := tk }) E s := by
  obtain ⟨its, r, pl, hz⟩ := I.list hs
  have e := vals_bl r
  subst e
  have hl : p < s.heap.objs.size := by
    obtain ⟨o, n, h1, _⟩ := pl
    exact Heap.lt_size h1
  refine wpAny_pyIter_list pl.isList ?_
  refine ⟨s.heap.objs.size, [s.heap.objs.size, p], [s.heap.objs.size], (bs.map Value.bool).toArray.size, _, _, fun i => bs.getD i true, rfl, Walks.list (A := X.A.in1) (show X.A.in1.handled = none from I.ok.hd hc) s.heap.objs.size p (Nat.ne_of_lt hl) (bs.map Value.bool).toArray,
    ⟨⟨_, Heap.get?_push_size _ rfl, rfl, rfl⟩, pl.isList.at fun o e => Heap.get?_push_of_some _ e⟩, fun i v s' Q' E' hv hq => ?_, fun h' tk hk => ?_⟩
  · have hv : (bs.map Value.bool).toArray[i]? = some v := hv
    rw [List.getElem?_toArray, List.getElem?_map] at hv
    cases e : bs[i]? with
    | none => rw [e] at hv; cases hv
    | some b =>
      rw [e] at hv
      have hv : Value.bool b = v := Option.some.inj hv
      subst hv
      have hq : Q' (bs.getD i true) s' := hq
      rw [List.getD_eq_getElem?_getD, e] at hq
      exact wpAny_truthy_bool hq
  · refine ⟨.bl _, H, I.kept (fun b o e => hk b o ?_ (Heap.get?_push_of_some _ e)), rfl, by simpa using q⟩
    intro z
    have z : b = s.heap.objs.size := by simpa using z
    exact absurd (Heap.lt_size e) (by rw [z]; exact Nat.lt_irrefl _)
theorem mc_all (hc : X.calm = true) : CallR X (.builtin "all") (mAll X.K fun bs => bs.all id) := by
  intro pins s σ H xs us Q I r h
  unfold mAll at h
  split at h
  · obtain ⟨u, rfl, r1⟩ := vals1 r
    cases r1
    obtain ⟨bs, hs, q⟩ := h
    exact call_all_walk (list_walk hc I hs (fun tr n => (List.range n).all tr) (by rw [all_range]; exact q))
  · exact h.elim
end
end L2
set_option Elab.async false
set_option linter.all false
set_option maxRecDepth 100000
set_option maxHeartbeats 4000000
namespace L2
open PySem PySem.Spec PyProof.Rows
section
variable {X : Cx} {a b c e : Expr} {ta tb tc te : TE} {pos : Pos}
def mNotV (K : PySem.W.Frag) (ta : TE) : TE := fun σ H Q => ta σ H (mTru K fun b H' => Q (.bl (!b)) H')
theorem me_not (ha : PE X a ta) : PE X (.UnaryOp .Not a pos) (mNotV X.K ta) := by
  intro pins s σ H Q I h
  refine UnaryOp_ (thn (ha pins s σ H _ I h) fun v s1 ⟨x, H1, I1, r1, q1⟩ => ?_)
  exact not_of (thn (tru_ok pins s1 σ H1 x v _ I1 r1 (mTru_to q1)) fun b s2 ⟨H2, I2, q2⟩ => ⟨.bl (!b), H2, I2, rfl, q2⟩)
def mAppend : V → List V → Hp → VK → Prop := fun x vs H Q => match x, vs with
  | .ref l, [y] => ∃ xs, H l = some (.lst xs) ∧ xs.length < sizeLine ∧ Q .non (upd H l (.lst (xs ++ [y])))
  | _, _ => False
theorem mm_append : MtR X "list.append" mAppend := by
  intro pins s σ H x xs v us Q I rx rs h
  refine mt_append pins s σ H x xs v us Q I rx rs ?_
  unfold mAppend at h
  split at h
  · obtain ⟨ys, h1, h2, h3⟩ := h
    exact ⟨_, ys, _, rfl, rfl, h1, h2, h3⟩
  · exact h.elim
def mPop : V → List V → Hp → VK → Prop := fun x vs H Q => match x, vs with
  | .ref l, [] => ∃ xs y, H l = some (.lst (xs ++ [y])) ∧ Q y (upd H l (.lst xs))
  | _, _ => False
theorem mm_pop : MtR X "list.pop" mPop := by
  intro pins s σ H x xs v us Q I rx rs h
  refine mt_pop pins s σ H x xs v us Q I rx rs ?_
  unfold mPop at h
  split at h
  · obtain ⟨ys, y, h1, h2⟩ := h
    exact ⟨_, _, y, rfl, rfl, h1, by simp, by rw [List.dropLast_concat]; exact h2⟩
  · exact h.elim
def mUn (g : Int → Int) : V → Hp → VK → Prop := fun x H Q => match x with | .int i => Q (.int (g i)) H | _ => False
theorem mu_neg : UnR X (unaryOp .USub) (mUn fun i => -i) := by
  intro pins s σ H x v Q I rx h
  refine un_neg pins s σ H x v Q I rx ?_
  cases x <;> first | exact (show False from h).elim | exact ⟨_, rfl, h⟩
end
section
variable {X : Cx}
theorem pe_gstr {x : Str} {z : Str} {tk : Tok} {pos : Pos} (hg : Gl X x) (hm : X.mg x = some (.str z tk)) (hd : (x == ("__debug__" : Str)) = false := by decide) : PE X (.Name x pos) (tC (.str z)) := pe_glob hg hm ⟨tk, rfl⟩ hd
theorem pe_gint {x : Str} {z : Int} {tk : Tok} {pos : Pos} (hg : Gl X x) (hm : X.mg x = some (.int z tk)) (hd : (x == ("__debug__" : Str)) = false := by decide) : PE X (.Name x pos) (tC (.int z)) := pe_glob hg hm ⟨tk, rfl⟩ hd
end
section
variable {X : Cx} {a b c e o : Expr} {es : List Expr} {ta tb tc te to : TE} {t : TA} {pos : Pos} {tg l : Expr} {tl : TE}
theorem pe_bty {x : Str} {n : String} {pos : Pos} (hg : Gl X x) (hm : X.mg x = none) (hv : bootBuiltins x = some (.type n)) (hn : x ≠ "__name__" := by decide) (hd : (x == ("__debug__" : Str)) = false := by decide) : PE X (.Name x pos) (tC (.ty n)) := pe_bltn hg hm hv rfl hn hd
theorem ko_add (K : PySem.W.Frag) (h : X.K = K) : OpR X (binaryOp .Add) (mAdd K) := h ▸ mo_add
theorem kt_tru (K : PySem.W.Frag) (h : X.K = K) (ha : PE X a ta) (he : ∀ whole, isTrue a X.env whole = (do let v ← whole; standAt a.pos; holding [v] (truthy v)) := by intro _; rfl) : PT X a (mTrue K ta) := h ▸ mt_tru ha he
theorem ke_not (K : PySem.W.Frag) (h : X.K = K) (ha : PE X a ta) : PE X (.UnaryOp .Not a pos) (mNotV K ta) := h ▸ me_not ha
theorem ki_seq (K : PySem.W.Frag) (h : X.K = K) : IxR X (mIx K) := h ▸ mi_seq
theorem kc_len (K : PySem.W.Frag) (h : X.K = K) : CallR X (.builtin "len") (mLen K) := h ▸ mc_len
theorem kc_all (K : PySem.W.Frag) (h : X.K = K) (hc : X.calm = true) : CallR X (.builtin "all") (mAll K fun bs => bs.all id) := h ▸ mc_all hc
theorem kpi_tup (K : PySem.W.Frag) (h : X.K = K) (hl : PE X l tl) : PI X tg l (iTup K tl) := h ▸ pi_tup hl
theorem ke_bm0 (K : PySem.W.Frag) (h : X.K = K) {name : Str} {apos cpos : Pos} {T id : String} {r : V → List V → Hp → VK → Prop} (pa : PlainAttrs T) (slot : Slot T name id) (hty : typeOf (.builtin id) = pure (.type "method_descriptor")) (hm : MtR X id r) (ho : PE X o to)
    (hbase : attributeBase o name X.env (eval o X.env) = eval o X.env := by rfl) (hline : (apos.endLine == cpos.line) = true := by rfl) : PE X (.Call (.Attribute o name apos) [] [] cpos) (tBM0 K T r to) := h ▸ pe_bm0 pa slot hty hm ho hbase hline
theorem ke_bm (K : PySem.W.Frag) (h : X.K = K) {name : Str} {apos cpos : Pos} {T id : String} {r : V → List V → Hp → VK → Prop} (pa : PlainAttrs T) (slot : Slot T name id) (hty : typeOf (.builtin id) = pure (.type "method_descriptor")) (hm : MtR X id r) (ho : PE X o to) (ha : PA X (e :: es) t)
    (hbase : attributeBase o name X.env (eval o X.env) = eval o X.env := by rfl)
    (hfew : ((backTo cpos (starEach (e :: es) X.env)).all (fun x => !x.1) && (backToKw cpos (keywordEach [] X.env)).all (fun x => x.1.isSome)
      && decide ((e :: es).length + ([] : List Keyword).length + (if ([] : List Keyword).isEmpty then 0 else 1) < 30)) = true := by rfl)
    (hline : (apos.endLine == cpos.line) = true := by rfl) (hs : starEach (e :: es) X.env = (false, eval e X.env) :: starEach es X.env := by rfl) (hplain : (backTo cpos (starEach es X.env)).any (·.1) = false := by rfl) :
    PE X (.Call (.Attribute o name apos) (e :: es) [] cpos) (tBM K T r to t) := h ▸ pe_bm pa slot hty hm ho ha hbase hfew hline hs hplain
theorem xor_n {b c : Bool} (h : (false ^^ b) = c) : b = c := by cases b <;> exact h
end
theorem inS_one (c : Nat) (j : Str) : inS ⟨#[c]⟩ j = decide (c ∈ j.cps.toList) := PySem.StrLaws.found_one j c
theorem atI_lt {α : Type} {xs : List α} {i : Int} (h0 : 0 ≤ i) (h1 : i < (xs.length : Int)) : ∃ v, atI xs i = some v ∧ xs[i.toNat]? = some v := by
  have hk : i.toNat < xs.length := by omega
  have ek : i = ((i.toNat : Nat) : Int) := by omega
  have q : xs[i.toNat]? = some xs[i.toNat] := List.getElem?_eq_getElem hk
  refine ⟨xs[i.toNat], ?_, q⟩
  have := atI_nat q
  rw [← ek] at this
  exact this
theorem same_new {H : Hp} {p : Addr} (h : H p = none) (o : HO) : Same H (upd H p o) := fun b u q => by rw [upd_ne (ne_of_none q h)]; exact q
theorem same_upd {H H' : Hp} {p : Addr} {o : HO} (e : Same H H') (h : H p = none) : Same H (upd H' p o) := fun b u q => by rw [upd_ne (ne_of_none q h)]; exact e b u q
theorem Same.tup {K : PySem.W.Frag} {H H' : Hp} {a : Addr} {xs : List V} (e : Same H H') (h : SqT K H a xs) : SqT K H' a xs := by
  rcases h with (h | ⟨o, h⟩) | h
  · exact .inl (.inl (e _ _ h))
  · exact .inl (.inr ⟨o, e _ _ h⟩)
  · exact .inr h
theorem cdiv_i {i j : Int} (h1 : 0 < j) (h2 : j < 1073741824) : CDiv i j := ⟨h1, h2⟩
theorem mulOk_left {i j : Int} (h : -(2 ^ 64) < i ∧ i < 2 ^ 64) : IntMulOk i j := CMul.ok (.inl h)
section
variable {K : PySem.W.Frag} {σ : St} {H : Hp} {Q : VK} {D : Ends} {ta tb tc te : TE} {t u : TS} {A B : TT} {P : Bool → Hp → Prop} {v x y : V} {i j : Int} {n : Nat} {b : Bool} {p q : Str}
theorem mVar_i (h : σ[n]? = some (some v)) (k : Q v H) : mVar n σ H Q := by unfold mVar; rw [h]; exact k
theorem tC_i (k : Q v H) : tC v σ H Q := k
theorem tOp_i {r : R2} (k : ta σ H fun x H1 => tb σ H1 fun y H2 => r x y H2 Q) : tOp r ta tb σ H Q := k
theorem tUn_i {r : V → Hp → VK → Prop} (k : ta σ H fun x H1 => r x H1 Q) : tUn r ta σ H Q := k
theorem mUn_i {g : Int → Int} (k : Q (.int (g i)) H) : mUn g (.int i) H Q := k
theorem m20_i {g : Int → Int → V} (k : Q (g i j) H) : m20 g (.int i) (.int j) H Q := k
theorem m2_i {C : Int → Int → Prop} {g : Int → Int → V} (c : C i j) (k : Q (g i j) H) : m2 C g (.int i) (.int j) H Q := ⟨c, k⟩
theorem mAdd_i (k : Q (.int (i + j)) H) : mAdd K (.int i) (.int j) H Q := k
theorem mAdd_s (c : p.length + q.length ≤ sizeLine) (k : Q (.str (p ++ q)) H) : mAdd K (.str p) (.str q) H Q := ⟨c, k⟩
theorem mMul_i (c : IntMulOk i j) (k : Q (.int (i * j)) H) : mMul (.int i) (.int j) H Q := ⟨c, k⟩
theorem mEq_i (k : Q (.bl (b ^^ decide (i = j))) H) : mEq b (.int i) (.int j) H Q := k
theorem mEq_s (k : Q (.bl (b ^^ decide (p = q))) H) : mEq b (.str p) (.str q) H Q := k
theorem mEq_b {c d : Bool} (k : Q (.bl (b ^^ decide (c = d))) H) : mEq b (.bl c) (.bl d) H Q := k
theorem mInS_i (k : Q (.bl (b ^^ inS p q)) H) : mInS b (.str p) (.str q) H Q := k
theorem mB_i (k : P b H) : mB P (.bl b) H := k
theorem mTest_i (k : ta σ H (mB P)) : mTest ta σ H P := k
theorem mTrue_i (k : ta σ H (mTru K P)) : mTrue K ta σ H P := k
theorem mTru_b (k : P b H) : mTru K P (.bl b) H := k
theorem mChain_i {r r' : R2} (k : ta σ H fun x H1 => tb σ H1 fun y H2 => r x y H2 (mB fun k H3 => if k = true then tc σ H3 fun w' H4 => r' y w' H4 Q else Q (.bl false) H3)) : mChain r r' ta tb tc σ H Q := k
theorem mAndV_i (k : ta σ H (mB fun c H1 => if c = true then tb σ H1 Q else Q (.bl false) H1)) : mAndV ta tb σ H Q := k
theorem mOrV_i (k : ta σ H (mB fun c H1 => if c = true then Q (.bl true) H1 else tb σ H1 Q)) : mOrV ta tb σ H Q := k
theorem mNotV_i (k : ta σ H (mTru K fun b H' => Q (.bl (!b)) H')) : mNotV K ta σ H Q := k
theorem tIf_i (k : A σ H fun c H1 => if c = true then ta σ H1 Q else tb σ H1 Q) : tIf A ta tb σ H Q := k
theorem tAnd_i (k : A σ H fun c H1 => if c = true then B σ H1 P else P false H1) : tAnd A B σ H P := k
theorem tOr_i (k : A σ H fun c H1 => if c = true then P true H1 else B σ H1 P) : tOr A B σ H P := k
theorem tNot_i (k : A σ H fun c H1 => P (!c) H1) : tNot A σ H P := k
theorem tSeq_i (k : t { D with nx := u D } σ H) : tSeq t u D σ H := k
theorem tNext_i (k : D.nx σ H) : tNext D σ H := k
theorem tRet_i (k : te σ H D.rt) : tRet te D σ H := k
theorem tIfS_i (k : A σ H fun b H1 => if b = true then t D σ H1 else u D σ H1) : tIfS A t u D σ H := k
theorem tAsg_i {g : TG} (k : te σ H fun x H1 => g x σ H1 D.nx) : tAsg te g D σ H := k
theorem tDrop_i (k : te σ H fun _ H1 => D.nx σ H1) : tDrop te D σ H := k
theorem gName_i {N : St → Hp → Prop} (k : N (σ.set n (some v)) H) : gName n v σ H N := k
theorem tCB_i {r : List V → Hp → VK → Prop} {a : TA} (k : a σ H fun vs H1 => r vs H1 Q) : tCB r a σ H Q := k
theorem tCons_i {a : TA} {R : List V → Hp → Prop} (k : ta σ H fun x H1 => a σ H1 fun xs H2 => R (x :: xs) H2) : tCons ta a σ H R := k
theorem tNil_i {R : List V → Hp → Prop} (k : R [] H) : tNil σ H R := k
theorem tBM_i {T : String} {r : V → List V → Hp → VK → Prop} {a : TA} (k : ta σ H fun x H1 => tyV K T x H1 ∧ a σ H1 fun xs H2 => r x xs H2 Q) : tBM K T r ta a σ H Q := k
theorem tBM0_i {T : String} {r : V → List V → Hp → VK → Prop} (k : ta σ H fun x H1 => tyV K T x H1 ∧ r x [] H1 Q) : tBM0 K T r ta σ H Q := k
theorem tTup_i {a : TA} (k : a σ H fun xs H1 => xs.length ≤ sizeLine ∧ ∀ p, H1 p = none → Q (.ref p) (upd H1 p (.tup xs))) : tTup a σ H Q := k
theorem tLst_i {a : TA} (k : a σ H fun xs H1 => xs.length ≤ sizeLine ∧ ∀ p, H1 p = none → Q (.ref p) (upd H1 p (.lst xs))) : tLst a σ H Q := k
theorem tSl_i {r : V → Option Int → Option Int → Hp → VK → Prop} {tl th : TO} (k : te σ H fun x H1 => tl σ H1 fun l H2 => th σ H2 fun u H3 => r x l u H3 Q) : tSl r te tl th σ H Q := k
theorem tNoPart_i {R : Option Int → Hp → Prop} (k : R none H) : tNoPart σ H R := k
theorem mPart_i {R : Option Int → Hp → Prop} (k : te σ H (mI R)) : mPart te σ H R := k
theorem mI_i {R : Option Int → Hp → Prop} (k : R (some i) H) : mI R (.int i) H := k
theorem mLen_s (c : p.length ≤ sizeLine) (k : Q (.int p.length) H) : mLen K [.str p] H Q := ⟨c, k⟩
theorem mLen_l {a : Addr} {xs : List V} (c : SqL K H a xs) (k : Q (.int xs.length) H) : mLen K [.ref a] H Q := .inl ⟨xs, c, k⟩
theorem mLen_t {a : Addr} {xs : List V} (c : SqT K H a xs) (k : Q (.int xs.length) H) : mLen K [.ref a] H Q := .inr ⟨xs, c, k⟩
theorem mIx_l {a : Addr} {xs : List V} (c : SqL K H a xs) (e : atI xs i = some v) (k : Q v H) : mIx K (.ref a) (.int i) H Q := .inl ⟨xs, v, c, e, k⟩
theorem mIx_t {a : Addr} {xs : List V} (c : SqT K H a xs) (e : atI xs i = some v) (k : Q v H) : mIx K (.ref a) (.int i) H Q := .inr ⟨xs, v, c, e, k⟩
theorem mIx_s {c : Nat} (z : p.length ≤ sizeLine) (e : atI p.cps.toList i = some c) (k : Q (.str ⟨#[c]⟩) H) : mIx K (.str p) (.int i) H Q := ⟨z, c, e, k⟩
theorem mAppend_i {a : Addr} {xs : List V} (e : H a = some (.lst xs)) (c : xs.length < sizeLine) (k : Q .non (upd H a (.lst (xs ++ [v])))) : mAppend (.ref a) [v] H Q := ⟨xs, e, c, k⟩
theorem iteB {c d : Prop} (h1 : b = true → c) (h2 : b = false → d) : if b = true then c else d := by
  cases b with
  | true => exact h1 rfl
  | false => exact h2 rfl
theorem tCall0_i {sp : Sp} {E : XK} {a : TA} (k : a σ H fun vs H1 => sp vs H1 Q E) : tCall sp [] E a σ H Q := by
  unfold tCall
  have e : (fun (vs : List V) (H1 : Hp) => sp (vs ++ []) H1 Q E) = fun vs H1 => sp vs H1 Q E := by funext vs H1; rw [List.append_nil]
  rw [e]; exact k
theorem tFor_i {wi : TI} {g : TG} (k : wi σ H fun J H1 => ForW J g t D σ H1) : tFor wi g t D σ H := k
theorem iStr_i {R : It → Hp → Prop} (k : ta σ H fun v H1 => ∃ x, v = .str x ∧ R (Its x) H1) : iStr ta σ H R := k
theorem iList_i {R : It → Hp → Prop} (k : ta σ H fun x H1 => ∃ a, x = .ref a ∧ (∃ xs, SqL K H1 a xs) ∧ R (Itl K a) H1) : iList K ta σ H R := k
theorem iTup_i {R : It → Hp → Prop} (k : ta σ H fun x H1 => ∃ a, x = .ref a ∧ (∃ xs, SqT K H1 a xs) ∧ R (Itt K a) H1) : iTup K ta σ H R := k
theorem iRng1_i {a : TA} {R : It → Hp → Prop} (k : a σ H fun vs H1 => ∃ j : Int, vs = [.int j] ∧ -(2 ^ 62) ≤ j ∧ j < 2 ^ 62 ∧ R (Itr 0 j.toNat) H1) : iRng1 a σ H R := k
theorem tComp_i {wi : TI} {tt : TT} (k : wi σ H fun J H1 => ∀ D, H1 D = none → CompW J tt te σ Q D H1) : tComp wi tt te σ H Q := k
theorem seq_rest (Post : St → Hp → Prop) (h1 : ∀ σ' H', Post σ' H' → u D σ' H') (h2 : (∀ σ' H', Post σ' H' → u D σ' H') → t { D with nx := u D } σ H) : tSeq t u D σ H := h2 h1
theorem ix_str_lt {z : Str} {i : Int} (h0 : 0 ≤ i) (h1 : i < (z.length : Int)) : ∃ c, atI z.cps.toList i = some c := by
  obtain ⟨c, hc, _⟩ := atI_lt (xs := z.cps.toList) h0 (by simp only [Array.length_toList]; exact h1)
  exact ⟨c, hc⟩
end
end L2
set_option Elab.async false
set_option linter.all false
set_option maxRecDepth 100000
set_option maxHeartbeats 4000000
namespace L2
open PySem PySem.Spec PyProof.Rows
mutual
inductive Den (K : PySem.W.Frag) (H : Hp) : V → PyData → Prop
  | non : Den K H .non .none
  | bl (b : Bool) : Den K H (.bl b) (.bool b)
  | int (i : Int) : Den K H (.int i) (.int i)
  | str (x : Str) : Den K H (.str x) (.str x)
  | tup {a : Addr} {us : List V} {ds : List PyData} : SqT K H a us → DenL K H us ds → Den K H (.ref a) (.tuple ds)
inductive DenL (K : PySem.W.Frag) (H : Hp) : List V → List PyData → Prop
  | nil : DenL K H [] []
  | cons {u : V} {us : List V} {d : PyData} {ds : List PyData} : Den K H u d → DenL K H us ds → DenL K H (u :: us) (d :: ds)
end
mutual
theorem Den.monoT {K : PySem.W.Frag} {H H' : Hp} (e : ∀ a xs, SqT K H a xs → SqT K H' a xs) : ∀ {v : V} {d : PyData}, Den K H v d → Den K H' v d
  | _, _, .non => .non
  | _, _, .bl b => .bl b
  | _, _, .int i => .int i
  | _, _, .str x => .str x
  | _, _, .tup h l => .tup (e _ _ h) (DenL.monoT e l)
theorem DenL.monoT {K : PySem.W.Frag} {H H' : Hp} (e : ∀ a xs, SqT K H a xs → SqT K H' a xs) : ∀ {v : List V} {d : List PyData}, DenL K H v d → DenL K H' v d
  | _, _, .nil => .nil
  | _, _, .cons h l => .cons (Den.monoT e h) (DenL.monoT e l)
end
theorem Den.mono {K : PySem.W.Frag} {H H' : Hp} (e : Same H H') {v : V} {d : PyData} (h : Den K H v d) : Den K H' v d := h.monoT fun _ _ q => e.tup q
theorem DenL.mono {K : PySem.W.Frag} {H H' : Hp} (e : Same H H') {v : List V} {d : List PyData} (h : DenL K H v d) : DenL K H' v d := h.monoT fun _ _ q => e.tup q
theorem tup_lst {K : PySem.W.Frag} {H : Hp} {p : Addr} {ys : List V} {o : HO} (h : H p = some (.lst ys)) : ∀ a xs, SqT K H a xs → SqT K (upd H p o) a xs := fun a xs q => by
  rcases q with (q | ⟨o', q⟩) | q
  · exact .inl (.inl (by rw [upd_ne (ne_of q h (fun z => by cases z))]; exact q))
  · exact .inl (.inr ⟨o', by rw [upd_ne (ne_of q h (fun z => by cases z))]; exact q⟩)
  · exact .inr q
theorem Den.lst {K : PySem.W.Frag} {H : Hp} {p : Addr} {ys : List V} {o : HO} (h : H p = some (.lst ys)) {v : V} {d : PyData} (q : Den K H v d) : Den K (upd H p o) v d := q.monoT (tup_lst h)
theorem DenL.lst {K : PySem.W.Frag} {H : Hp} {p : Addr} {ys : List V} {o : HO} (h : H p = some (.lst ys)) {v : List V} {d : List PyData} (q : DenL K H v d) : DenL K (upd H p o) v d := q.monoT (tup_lst h)
section
variable {K : PySem.W.Frag} {H : Hp}
theorem DenL.length : ∀ {us : List V} {ds : List PyData}, DenL K H us ds → us.length = ds.length
  | _, _, .nil => rfl
  | _, _, .cons _ l => by rw [List.length_cons, List.length_cons, DenL.length l]
theorem DenL.get : ∀ {us : List V} {ds : List PyData} {i : Nat} {u : V}, DenL K H us ds → us[i]? = some u → ∃ d, ds[i]? = some d ∧ Den K H u d
  | _, _, _, _, .nil, e => by simp at e
  | _, _, 0, _, .cons h _, e => by simp at e; subst e; exact ⟨_, rfl, h⟩
  | _, _, i + 1, u, .cons _ l, e => by
    obtain ⟨d, h1, h2⟩ := DenL.get (i := i) (u := u) l (by simpa using e)
    exact ⟨d, by simpa using h1, h2⟩
theorem DenL.append : ∀ {us vs : List V} {ds es : List PyData}, DenL K H us ds → DenL K H vs es → DenL K H (us ++ vs) (ds ++ es)
  | _, _, _, _, .nil, l => l
  | _, _, _, _, .cons h t, l => .cons h (DenL.append t l)
theorem DenL.take : ∀ {us : List V} {ds : List PyData} (n : Nat), DenL K H us ds → DenL K H (us.take n) (ds.take n)
  | _, _, 0, _ => .nil
  | _, _, _ + 1, .nil => .nil
  | _, _, n + 1, .cons h t => .cons h (DenL.take n t)
theorem DenL.drop : ∀ {us : List V} {ds : List PyData} (n : Nat), DenL K H us ds → DenL K H (us.drop n) (ds.drop n)
  | _, _, 0, l => l
  | _, _, _ + 1, .nil => .nil
  | _, _, n + 1, .cons _ t => DenL.drop n t
end
section
variable {X : Cx} {pins : List (Addr × Obj)} {σ : St} {H : Hp} {s : Shared}
theorem depthAll_get : ∀ {ds : List PyData} {i : Nat} {d : PyData}, ds[i]? = some d → d.depth ≤ PyData.depthAll ds
  | [], _, _, e => by simp at e
  | x :: r, 0, d, e => by simp at e; subst e; unfold PyData.depthAll; omega
  | x :: r, i + 1, d, e => by
    have := depthAll_get (ds := r) (i := i) (d := d) (by simpa using e)
    unfold PyData.depthAll; omega
theorem eq_same (I : Inv X pins σ H s) : ∀ (n : Nat) (A : Around) (d : PyData) (v v' : V) (u u' : Value), d.depth ≤ n → A.units + n < cLine → Den X.K H v d → Den X.K H v' d → RelV v u → RelV v' u' → SeqAt.EqAt A s u u' true := by
  intro n
  induction n with
  | zero =>
    intro A d v v' u u' hd hu h h' r r'
    cases h with
    | non => cases h'; cases r; cases r'; exact SeqAt.EqAt.same _
    | bl b => cases h'; cases r; cases r'; exact SeqAt.EqAt.same _
    | int i =>
      cases h'
      obtain ⟨t, rfl⟩ := r
      obtain ⟨t', rfl⟩ := r'
      have := SeqAt.EqAt.int_int (A := A) (s := s) i t i t'
      simpa using this
    | str x =>
      cases h'
      obtain ⟨t, rfl⟩ := r
      obtain ⟨t', rfl⟩ := r'
      have := SeqAt.EqAt.str_str (A := A) (s := s) x t x t'
      simpa using this
    | tup _ _ => simp [PyData.depth] at hd
  | succ n ih =>
    intro A d v v' u u' hd hu h h' r r'
    cases h with
    | non => cases h'; cases r; cases r'; exact SeqAt.EqAt.same _
    | bl b => cases h'; cases r; cases r'; exact SeqAt.EqAt.same _
    | int i =>
      cases h'
      obtain ⟨t, rfl⟩ := r
      obtain ⟨t', rfl⟩ := r'
      have := SeqAt.EqAt.int_int (A := A) (s := s) i t i t'
      simpa using this
    | str x =>
      cases h'
      obtain ⟨t, rfl⟩ := r
      obtain ⟨t', rfl⟩ := r'
      have := SeqAt.EqAt.str_str (A := A) (s := s) x t x t'
      simpa using this
    | @tup a us ds hs hl =>
      cases h' with
      | @tup b us' _ hs' hl' =>
        cases r
        cases r'
        by_cases e : a = b
        · subst e; exact SeqAt.EqAt.same _
        · obtain ⟨its, rv, p, _⟩ := I.tuple hs
          obtain ⟨its', rv', p', _⟩ := I.tuple hs'
          have l1 := rv.length
          have l2 := rv'.length
          have l3 := hl.length
          have l4 := hl'.length
          have hd' : PyData.depthAll ds ≤ n := by simp only [PyData.depth] at hd; omega
          have key := SeqAt.RcAt.tuples (A := A) (e := fun _ => true) (show s.heap.IsTuple a its.toArray from p) (show s.heap.IsTuple b its'.toArray from p') (by omega) (fun j h1 h2 => by
            have h1 : j < its.length := by simpa using h1
            have h2 : j < its'.length := by simpa using h2
            have x1 : us[j]? = some us[j] := List.getElem?_eq_getElem (by omega)
            have x2 : us'[j]? = some us'[j] := List.getElem?_eq_getElem (by omega)
            obtain ⟨d, e1, d1⟩ := hl.get x1
            obtain ⟨d', e2, d2⟩ := hl'.get x2
            rw [e1] at e2; cases e2
            obtain ⟨w1, y1, z1⟩ := rv.get x1
            obtain ⟨w2, y2, z2⟩ := rv'.get x2
            have q1 : its.toArray[j] = w1 := by
              have := List.getElem?_eq_getElem h1
              rw [y1] at this
              simpa using (Option.some.inj this).symm
            have q2 : its'.toArray[j] = w2 := by
              have := List.getElem?_eq_getElem h2
              rw [y2] at this
              simpa using (Option.some.inj this).symm
            rw [q1, q2]
            exact ih A.in1 d _ _ _ _ (Nat.le_trans (depthAll_get e1) hd') (by show A.units + 1 + n < cLine; omega) d1 d2 z1 z2)
          have e3 : its.toArray.size = its'.toArray.size := by simp only [List.size_toArray]; omega
          rw [e3] at key
          have e4 : ((List.range (min its'.toArray.size its'.toArray.size)).all (fun _ => true) && its'.toArray.size == its'.toArray.size) = true := by simp
          rw [e4] at key
          exact SeqAt.EqAt.of_refs e key
end
section
variable {X : Cx} {a b c e : Expr} {ta tb tc te : TE} {pos : Pos} {tg l : Expr} {tl : TE}
def dEq (K : PySem.W.Frag) (n : Bool) : R2 := fun x y H Q => ∃ (p q : Addr) (us us' : List V) (ds : List PyData), x = .ref p ∧ y = .ref q ∧ ((SqT K H p us ∧ SqT K H q us') ∨ (SqL K H p us ∧ SqL K H q us')) ∧ DenL K H us ds ∧ DenL K H us' ds ∧ PyData.depthAll ds ≤ 149 ∧ Q (.bl (!n)) H
theorem items_eq {pins : List (Addr × Obj)} {σ : St} {H : Hp} {s : Shared} (I : Inv X pins σ H s) {A : Around} {us us' : List V} {ds : List PyData} {its its' : List Value} (hl : DenL X.K H us ds) (hl' : DenL X.K H us' ds) (rv : Vals us its) (rv' : Vals us' its') (hd : PyData.depthAll ds ≤ 149) (hu : A.units + 150 < cLine) :
    ∀ j (h1 : j < its.toArray.size) (h2 : j < its'.toArray.size), SeqAt.EqAt A.in1 s its.toArray[j] its'.toArray[j] true := fun j h1 h2 => by
  have l1 := rv.length
  have l2 := rv'.length
  have l3 := hl.length
  have l4 := hl'.length
  have h1 : j < its.length := by simpa using h1
  have h2 : j < its'.length := by simpa using h2
  have x1 : us[j]? = some us[j] := List.getElem?_eq_getElem (by omega)
  have x2 : us'[j]? = some us'[j] := List.getElem?_eq_getElem (by omega)
  obtain ⟨d, e1, d1⟩ := hl.get x1
  obtain ⟨d', e2, d2⟩ := hl'.get x2
  rw [e1] at e2; cases e2
  obtain ⟨w1, y1, z1⟩ := rv.get x1
  obtain ⟨w2, y2, z2⟩ := rv'.get x2
  have q1 : its.toArray[j] = w1 := by
    have := List.getElem?_eq_getElem h1
    rw [y1] at this
    simpa using (Option.some.inj this).symm
  have q2 : its'.toArray[j] = w2 := by
    have := List.getElem?_eq_getElem h2
    rw [y2] at this
    simpa using (Option.some.inj this).symm
  rw [q1, q2]
  exact eq_same I 149 A.in1 d _ _ _ _ (Nat.le_trans (depthAll_get e1) hd) (by show A.units + 1 + 149 < cLine; omega) d1 d2 z1 z2
theorem ko_eqD (K : PySem.W.Frag) (hK : X.K = K) (hu : X.A.units + 150 < cLine) : OpR X (compareOp .Eq) (dEq K false) := by
  subst hK
  intro pins s σ H x y v u Q I rx ry h
  obtain ⟨p, q, us, us', ds, rfl, rfl, h, hl, hl', hd, k⟩ := h
  cases rx
  cases ry
  rcases h with ⟨hs, hs'⟩ | ⟨hs, hs'⟩
  · obtain ⟨its, rv, p1, _⟩ := I.tuple hs
    obtain ⟨its', rv', p2, _⟩ := I.tuple hs'
    have e3 : its.toArray.size = its'.toArray.size := by simp only [List.size_toArray]; rw [← rv.length, ← rv'.length, hl.length, hl'.length]
    refine SeqAt.eq_tupleAt (e := fun _ => true) (show s.heap.IsTuple p its.toArray from p1) (show s.heap.IsTuple q its'.toArray from p2) (by omega) (items_eq I hl hl' rv rv' hd hu) ?_
    rw [e3]
    exact ⟨.bl true, H, I, by simp [RelV], k⟩
  · obtain ⟨its, rv, p1, _⟩ := I.list hs
    obtain ⟨its', rv', p2, _⟩ := I.list hs'
    have e3 : its.toArray.size = its'.toArray.size := by simp only [List.size_toArray]; rw [← rv.length, ← rv'.length, hl.length, hl'.length]
    refine SeqAt.eq_listAt (e := fun _ => true) p1.isList p2.isList e3 (by omega) (items_eq I hl hl' rv rv' hd hu) ?_
    exact ⟨.bl true, H, I, by simp [RelV], k⟩
theorem ko_neD (K : PySem.W.Frag) (hK : X.K = K) (hu : X.A.units + 150 < cLine) : OpR X (compareOp .NotEq) (dEq K true) := by
  subst hK
  intro pins s σ H x y v u Q I rx ry h
  obtain ⟨p, q, us, us', ds, rfl, rfl, h, hl, hl', hd, k⟩ := h
  cases rx
  cases ry
  rcases h with ⟨hs, hs'⟩ | ⟨hs, hs'⟩
  · obtain ⟨its, rv, p1, _⟩ := I.tuple hs
    obtain ⟨its', rv', p2, _⟩ := I.tuple hs'
    have e3 : its.toArray.size = its'.toArray.size := by simp only [List.size_toArray]; rw [← rv.length, ← rv'.length, hl.length, hl'.length]
    refine SeqAt.RcNeAt.tuples (e := fun _ => true) (show s.heap.IsTuple p its.toArray from p1) (show s.heap.IsTuple q its'.toArray from p2) (by omega) (items_eq I hl hl' rv rv' hd hu) X.prog X.w _ _ ?_
    rw [e3]
    exact ⟨.bl false, H, I, by simp [RelV], k⟩
  · obtain ⟨its, rv, p1, _⟩ := I.list hs
    obtain ⟨its', rv', p2, _⟩ := I.list hs'
    have e3 : its.toArray.size = its'.toArray.size := by simp only [List.size_toArray]; rw [← rv.length, ← rv'.length, hl.length, hl'.length]
    refine SeqAt.RcNeAt.lists (e := fun _ => true) p1.isList p2.isList e3 (by omega) (items_eq I hl hl' rv rv' hd hu) X.prog X.w _ _ ?_
    exact ⟨.bl false, H, I, by simp [RelV], k⟩
theorem room150 {k : Nat} {A : Around} (hr : Room k A) : A.units + 150 < cLine := by have := hr.un; omega
def mSlL (K : PySem.W.Frag) : V → Option Int → Option Int → Hp → VK → Prop := fun x lo hi H Q => ∃ a xs, x = .ref a ∧ SqL K H a xs ∧ ∀ p, H p = none → Q (.ref p) (upd H p (.lst (cutV xs lo hi)))
theorem ks_list (K : PySem.W.Frag) (h : X.K = K) : SlR X (mSlL K) := h ▸ sl_list
def mTup (K : PySem.W.Frag) : List V → Hp → VK → Prop := fun vs H Q => ∃ p ys, vs = [.ref p] ∧ ((SqL K H p ys ∧ ∀ l, H l = none → Q (.ref l) (upd H l (.tup ys))) ∨ (SqT K H p ys ∧ Q (.ref p) H))
theorem kc_tuple (K : PySem.W.Frag) (h : X.K = K) : CallR X (.type "tuple") (mTup K) := h ▸ call_tuple_of
def mLst (K : PySem.W.Frag) : List V → Hp → VK → Prop := fun vs H Q => ∃ p ys, vs = [.ref p] ∧ (SqL K H p ys ∨ SqT K H p ys) ∧ ∀ l, H l = none → Q (.ref l) (upd H l (.lst ys))
theorem kc_list (K : PySem.W.Frag) (h : X.K = K) : CallR X (.type "list") (mLst K) := h ▸ call_list_of
def mMin : List V → Hp → VK → Prop := fun vs H Q => ∃ i j, vs = [.int i, .int j] ∧ Q (.int (if j < i then j else i)) H
def mMax : List V → Hp → VK → Prop := fun vs H Q => ∃ i j, vs = [.int i, .int j] ∧ Q (.int (if j > i then j else i)) H
end
open PySem.AutoSeq1 in
open PySem.MeetsSeq PySem.MeetsSeq2 PySem.MeetsSeq3 in
theorem extend_tup (l : Addr) (items : Array Value) (n : Nat) (b : Addr) (items2 : Array Value) (n2 : Nat) (dd : Option Addr) (sl : Array (Option Value)) (hs0 : ¬(!items.isEmpty && Builtin.List.listTooLong (items.size + items2.size)) = true) (hs1 : items.size ≤ sizeLine) (hs2 : items.size + items2.size ≤ sizeLine + 1) :
    Meets (Builtin.«list.extend» ⟨[.ref l, .ref b], []⟩) (fun _ R s => s.heap.get? l = some { cls := .type "list", dict := none, data := .seq items n, slots := #[] } ∧ s.heap.get? b = some { cls := .type "tuple", dict := dd, data := .seq items2 n2, slots := sl } ∧
      R (.ok (.ret Value.none)) { s with heap := s.heap.update l (Obj.mapSeq fun x => x ++ items2), toks := s.toks }) :=
  .of_wp fun prog w A R s h => by
    obtain ⟨hp, g, d, tk, os⟩ := s
    obtain ⟨hl, hb, h⟩ := h
    have f1 := idx_int
    have f2 := PySem.AutoSeq1.sub_tuple_tuple
    have f3 := PySem.AutoSeq1.sub_list_list
    have f4 := PySem.AutoSeq1.sub_tuple_list
    have f5 := PySem.AutoSeq1.sub_list_tuple
    have hz' : (items ++ items2).size ≤ sizeLine + 1 := by rw [Array.size_append]; exact hs2
    wp_walk using (wpAny_updateSeq hl rfl (hz := hs1) (_hz' := hz')), wpAny_loadPart' hl, wpAny_loadPart' hb
    exact ⟨_, rfl, h⟩
section
variable {X : Cx}
def mExt (K : PySem.W.Frag) : V → List V → Hp → VK → Prop := fun x vs H Q => ∃ l b xs zs, x = .ref l ∧ vs = [.ref b] ∧ H l = some (.lst xs) ∧ (H b = some (.lst zs) ∨ SqT K H b zs) ∧ xs.length + zs.length ≤ sizeLine ∧ Q .non (upd H l (.lst (xs ++ zs)))
theorem km_extend (K : PySem.W.Frag) (hK : X.K = K) : MtR X "list.extend" (mExt K) := by
  subst hK
  intro pins s σ H x vs v us Q I rx rv h
  obtain ⟨l, b, xs, zs, e1, e2, hH, hB, hz, q⟩ := h
  rcases hB with hB | hB
  · exact mt_extend pins s σ H x vs v us Q I rx rv ⟨l, b, xs, zs, e1, e2, hH, hB, hz, q⟩
  · subst e1 e2
    cases rx
    obtain ⟨u, rfl, ru⟩ := rv.one
    cases ru
    obtain ⟨z, its, n, r, hl, e⟩ := I.lstM hH
    obtain ⟨its2, r2, pl, z2⟩ := I.tuple hB
    obtain ⟨⟨cls, dd, data, sl⟩, ho, hc, n2, hd⟩ := pl
    simp only at hc hd
    subst hc hd
    have hl2 := r2.length
    have hsz : its.toArray.size + its2.toArray.size ≤ sizeLine := by rw [List.size_toArray, List.size_toArray]; omega
    have hlong : ¬ (!its.toArray.isEmpty && Builtin.List.listTooLong (its.toArray.size + its2.toArray.size)) = true := by
      rw [notLongL hsz, Bool.and_false]
      exact Bool.false_ne_true
    refine call_meets F.slot_list_extend ⟨_, e, rfl⟩ F.entry_list_extend (F.args_list_extend_2 _ _) (extend_tup l its.toArray n b its2.toArray n2 dd sl hlong (by rw [List.size_toArray]; omega) (by omega)) ⟨e, ho, ?_⟩
    refine ⟨.non, _, I.lset (its' := its ++ its2) hH e (by simp) (r.append r2) ?_, rfl, q⟩
    rw [List.length_append]
    omega
end
section
variable {prog : Program} {w : World} {A : Around} {E : Value → Shared → Prop} {s : Shared}
end
section
variable {X : Cx}
end
section
variable {σ : St} {H : Hp} {D : Ends} {t : TS} {c : TT}
def WhileW (c : TT) (t : TS) (D : Ends) (σ : St) (H : Hp) : Prop := tWhile c t D σ H
theorem tWhile_i (k : WhileW c t D σ H) : tWhile c t D σ H := k
theorem while_row (Pv : Nat → St → Hp → Prop) (n : Nat) (h0 : Pv n σ H)
    (hs : ∀ n σ H (R : Bool → Hp → Prop), Pv n σ H → (∀ H1, (∀ (D' : Ends), D'.rt = D.rt → D'.bk = D.nx → (∀ σ' H' m, m < n → Pv m σ' H' → D'.nx σ' H') → (∀ σ' H' m, m < n → Pv m σ' H' → D'.ct σ' H') → t D' σ H1) → R true H1) → (∀ H1, D.nx σ H1 → R false H1) → c σ H R) : WhileW c t D σ H := by
  refine ⟨Pv, ⟨n, h0⟩, fun m σ H p => ?_⟩
  refine hs m σ H _ p (fun H1 k => ?_) (fun H1 k => k)
  exact ⟨fun σ' H' => ∃ m', m' < m ∧ Pv m' σ' H', fun _ _ h => h, k _ rfl rfl (fun _ _ m' hm hp => ⟨m', hm, hp⟩) (fun _ _ m' hm hp => ⟨m', hm, hp⟩)⟩
end
end L2
set_option Elab.async false
set_option linter.all false
set_option maxRecDepth 100000
set_option maxHeartbeats 4000000
namespace L2
open PySem PySem.Spec PyProof.Rows
theorem kit_ty {K : PySem.W.Frag} {T n : String} {b : Bool} (h : (if (Value.type T == Value.type n) = true then some true else if PySem.W.kitMeta n = true then (fastBuiltinMro T).map (·.contains (.type n)) else none) = some b) : PySem.W.kitOne K (.type T) (.type n) = some b := h
section
variable {X : Cx} {a : Expr} {ta : TE}
def tyN (K : PySem.W.Frag) (H : Hp) : V → String → Prop
  | .non, T => T = "NoneType"
  | .bl _, T => T = "bool"
  | .int _, T => T = "int"
  | .str _, T => T = "str"
  | .ref p, T => (T = "list" ∧ ∃ xs, SqL K H p xs) ∨ (T = "tuple" ∧ ∃ xs, SqT K H p xs) ∨ (T = "dict" ∧ ∃ kvs, H p = some (.dK kvs))
  | _, _ => False
def mIs (K : PySem.W.Frag) : List V → Hp → VK → Prop := fun vs H Q => ∃ x n T b, vs = [x, .ty n] ∧ tyN K H x T ∧ (∀ K' : PySem.W.Frag, PySem.W.kitOne K' (.type T) (.type n) = some b) ∧ Q (.bl b) H
theorem kc_is (K : PySem.W.Frag) (hK : X.K = K) : CallR X (.builtin "isinstance") (mIs K) := by
  subst hK
  intro pins s σ H xs us Q I r h
  obtain ⟨x, n, T, b, rfl, ht, hk, q⟩ := h
  obtain ⟨u, w', rfl, r1, r2⟩ := vals2 r
  cases r2
  have fin : ∀ tk, EP X pins σ Q (.bool b) { s with toks := tk } := fun tk => ⟨.bl b, H, I.tok _, rfl, q⟩
  cases x with
  | non => cases ht; exact isinst_ok I r1 .non (hk _) fin
  | bl y => cases ht; exact isinst_ok I r1 (.bl y) (hk _) fin
  | int i => cases ht; exact isinst_ok I r1 (.int i) (hk _) fin
  | str z => cases ht; exact isinst_ok I r1 (.str z) (hk _) fin
  | ref p =>
    cases r1
    rcases ht with ⟨rfl, xs, hs⟩ | ⟨rfl, xs, hs⟩ | ⟨rfl, kvs, hs⟩
    · obtain ⟨its, _, ⟨o, n', h1, h2, _⟩, _⟩ := I.list hs
      exact PySem.W.kia_one PySem.W.kitx_list I.kIn ⟨o, h1, h2⟩ (hk _) (fun z => nomatch z) fin
    · obtain ⟨its, _, ⟨o, h1, h2, _⟩, _⟩ := I.tuple hs
      exact PySem.W.kia_one PySem.W.kitx_tuple I.kIn ⟨o, h1, h2⟩ (hk _) (fun z => nomatch z) fin
    · exact isinst_ok (x := .ref p) I rfl (.dK hs) (hk _) fin
  | _ => exact (show False from ht).elim
end
section
variable {K : PySem.W.Frag} {H : Hp} {Q : VK} {i : Int} {p : Str} {b : Bool} {a : Addr} {xs : List V}
theorem is_str (k : Q (.bl true) H) : mIs K [.str p, .ty "str"] H Q := ⟨_, _, _, true, rfl, rfl, fun _ => kit_same _ _, k⟩
theorem is_int (k : Q (.bl true) H) : mIs K [.int i, .ty "int"] H Q := ⟨_, _, _, true, rfl, rfl, fun _ => kit_same _ _, k⟩
theorem is_bool (k : Q (.bl true) H) : mIs K [.bl b, .ty "bool"] H Q := ⟨_, _, _, true, rfl, rfl, fun _ => kit_same _ _, k⟩
theorem is_int_bool (k : Q (.bl false) H) : mIs K [.int i, .ty "bool"] H Q := ⟨_, _, _, false, rfl, rfl, fun _ => kit_ty (by decide +kernel), k⟩
theorem is_tup (c : SqT K H a xs) (k : Q (.bl true) H) : mIs K [.ref a, .ty "tuple"] H Q := ⟨_, _, _, true, rfl, .inr (.inl ⟨rfl, xs, c⟩), fun _ => kit_same _ _, k⟩
theorem is_lst (c : SqL K H a xs) (k : Q (.bl true) H) : mIs K [.ref a, .ty "list"] H Q := ⟨_, _, _, true, rfl, .inl ⟨rfl, xs, c⟩, fun _ => kit_same _ _, k⟩
theorem atI_mem {α : Type} {xs : List α} {i : Int} {v : α} (h : atI xs i = some v) : v ∈ xs := by
  obtain ⟨j, _, e, _⟩ := atI_get h
  exact List.mem_of_getElem? e
theorem str_app (l m : List Nat) : (⟨l.toArray⟩ : Str) ++ ⟨m.toArray⟩ = ⟨(l ++ m).toArray⟩ := by
  apply Str.ext'
  show l.toArray ++ m.toArray = (l ++ m).toArray
  simp
theorem str_len (l : List Nat) : (⟨l.toArray⟩ : Str).length = l.length := by simp [Str.length]
theorem ints_at {ns : List Int} {i : Int} {v : V} (h : atI (ns.map V.int) i = some v) : ∃ n, v = .int n := by
  have := atI_mem h
  obtain ⟨n, _, e⟩ := List.mem_map.mp this
  exact ⟨n, e.symm⟩
theorem mSlL_i {lo hi : Option Int} (c : SqL K H a xs) (k : ∀ p, H p = none → Q (.ref p) (upd H p (.lst (cutV xs lo hi)))) : mSlL K (.ref a) lo hi H Q := ⟨a, xs, rfl, c, k⟩
theorem mTup_l (c : SqL K H a xs) (k : ∀ l, H l = none → Q (.ref l) (upd H l (.tup xs))) : mTup K [.ref a] H Q := ⟨a, xs, rfl, .inl ⟨c, k⟩⟩
theorem mTup_t (c : SqT K H a xs) (k : Q (.ref a) H) : mTup K [.ref a] H Q := ⟨a, xs, rfl, .inr ⟨c, k⟩⟩
theorem mLst_l (c : SqL K H a xs) (k : ∀ l, H l = none → Q (.ref l) (upd H l (.lst xs))) : mLst K [.ref a] H Q := ⟨a, xs, rfl, .inl c, k⟩
theorem mMin_i {j : Int} (k : Q (.int (if j < i then j else i)) H) : mMin [.int i, .int j] H Q := ⟨i, j, rfl, k⟩
theorem mExt_t {zs : List V} {l : Addr} (e : H l = some (.lst xs)) (c : SqT K H a zs) (z : xs.length + zs.length ≤ sizeLine) (k : Q .non (upd H l (.lst (xs ++ zs)))) : mExt K (.ref l) [.ref a] H Q := ⟨l, a, xs, zs, rfl, rfl, e, .inr c, z, k⟩
theorem mPop_i {l : Addr} {v : V} (e : H l = some (.lst (xs ++ [v]))) (k : Q v (upd H l (.lst xs))) : mPop (.ref l) [] H Q := ⟨xs, v, e, k⟩
theorem mAdd_l {q : Addr} {ys : List V} (e1 : H a = some (.lst xs)) (e2 : H q = some (.lst ys)) (z : xs.length + ys.length ≤ sizeLine) (k : ∀ d, H d = none → Q (.ref d) (upd H d (.lst (xs ++ ys)))) : mAdd K (.ref a) (.ref q) H Q := .inl ⟨xs, ys, e1, e2, z, k⟩
theorem iRng2_i {σ : St} {ta : TA} {R : It → Hp → Prop} (k : ta σ H fun vs H1 => ∃ i j : Int, vs = [.int i, .int j] ∧ (-(2 ^ 62) ≤ i ∧ i < 2 ^ 62 ∧ -(2 ^ 62) ≤ j ∧ j < 2 ^ 62) ∧ R (Itr i (j - i).toNat) H1) : iRng2 ta σ H R := k
end
end L2
set_option Elab.async false
set_option linter.all false
set_option maxRecDepth 100000
set_option maxHeartbeats 4000000
namespace L2
open PySem PySem.Spec PyProof.Rows
section
variable {X : Cx}
theorem preSum_eq (ns : List Int) : ∀ n, n ≤ ns.length → preSum (fun i => ns.getD i 0) n = (ns.take n).sum
  | 0, _ => by simp [preSum]
  | n + 1, h => by
    have hn : n < ns.length := by omega
    rw [preSum, preSum_eq ns n (by omega), List.take_add_one, List.sum_append, List.getElem?_eq_getElem hn, List.getD_eq_getElem?_getD, List.getElem?_eq_getElem hn]
    simp
def mSum (K : PySem.W.Frag) : List V → Hp → VK → Prop := fun vs H Q => ∃ (p : Addr) (ns : List Int), vs = [.ref p] ∧ SqL K H p (ns.map V.int) ∧ (∀ n ∈ ns, 0 ≤ n) ∧ ns.sum < 2 ^ 62 ∧ Q (.int ns.sum) H
theorem sum_nn : ∀ {ns : List Int}, (∀ n ∈ ns, 0 ≤ n) → 0 ≤ ns.sum
  | [], _ => by simp
  | a :: r, h => by
    have h1 := h a List.mem_cons_self
    have h2 := sum_nn (ns := r) fun n hn => h n (List.mem_cons_of_mem _ hn)
    rw [List.sum_cons]; omega
theorem kc_sum (K : PySem.W.Frag) (hK : X.K = K) (hc : X.calm = true) : CallR X (.builtin "sum") (mSum K) := by
  subst hK
  intro pins s σ H xs us Q I r h
  obtain ⟨p, ns, rfl, hs, hn, hm, q⟩ := h
  obtain ⟨u, rfl, r1⟩ := vals1 r
  cases r1
  obtain ⟨its, rv, pl, hz⟩ := I.list hs
  have hi : IntsAre its ns := intsAre_of rv
  have hlen : its.length = ns.length := hi.length
  have hl : p < s.heap.objs.size := by
    obtain ⟨o, n, h1, _⟩ := pl
    exact Heap.lt_size h1
  have part : ∀ j, j ≤ ns.length → 0 ≤ (ns.take j).sum ∧ (ns.take j).sum ≤ ns.sum := fun j hj => by
    have e := List.take_append_drop j ns
    have h1 := sum_nn (ns := ns.take j) fun n hm => hn n (List.mem_of_mem_take hm)
    have h2 := sum_nn (ns := ns.drop j) fun n hm => hn n (List.mem_of_mem_drop hm)
    have h3 : (ns.take j ++ ns.drop j).sum = ns.sum := by rw [e]
    rw [List.sum_append] at h3
    omega
  refine call_sum_walk (wpAny_pyIter_list pl.isList ?_)
  refine ⟨s.heap.objs.size, [s.heap.objs.size, p], [s.heap.objs.size], its.toArray.size, _, _, fun i => ns.getD i 0, rfl, Walks.list (A := X.A.in1) (show X.A.in1.handled = none from I.ok.hd hc) s.heap.objs.size p (Nat.ne_of_lt hl) its.toArray,
    ⟨⟨_, Heap.get?_push_size _ rfl, rfl, rfl⟩, pl.isList.at fun o e => Heap.get?_push_of_some _ e⟩, fun b hb => ?_, fun i v hv => ?_, fun j hj => ?_, fun h' tk t' hk => ?_⟩
  · rw [Heap.size_push]
    simp only [List.mem_cons, List.not_mem_nil, or_false] at hb
    rcases hb with rfl | rfl
    · exact Nat.lt_succ_self _
    · exact Nat.lt_succ_of_lt hl
  · have hv : its.toArray[i]? = some v := hv
    rw [List.getElem?_toArray] at hv
    have hil : i < ns.length := by
      have := (List.getElem?_eq_some_iff.mp hv).1
      omega
    have x1 : (ns.map V.int)[i]? = some (.int ns[i]) := by rw [List.getElem?_map, List.getElem?_eq_getElem hil]; rfl
    obtain ⟨w, e1, e2⟩ := rv.get x1
    rw [e1] at hv
    cases hv
    obtain ⟨t, rfl⟩ := e2
    refine ⟨t, ?_⟩
    show Value.int ns[i] t = Value.int (ns.getD i 0) t
    rw [List.getD_eq_getElem?_getD, List.getElem?_eq_getElem hil]
    rfl
  · have hj : j < ns.length := by simpa [hlen] using hj
    have h1 := part (j + 1) (by omega)
    have h3 : 0 ≤ ns.getD j 0 ∧ ns.getD j 0 ≤ ns.sum := by
      have e : (ns.take (j + 1)).sum = (ns.take j).sum + ns.getD j 0 := by
        rw [List.take_add_one, List.sum_append, List.getElem?_eq_getElem hj, List.getD_eq_getElem?_getD, List.getElem?_eq_getElem hj]
        simp
      have h0 := part j (by omega)
      have h4 : 0 ≤ ns.getD j 0 := by
        rw [List.getD_eq_getElem?_getD, List.getElem?_eq_getElem hj]
        exact hn _ (List.getElem_mem hj)
      omega
    rw [preSum_eq ns (j + 1) (by omega)]
    show InLong (ns.getD j 0) ∧ _
    unfold InLong
    omega
  · have e : preSum (fun i => ns.getD i 0) its.toArray.size = ns.sum := by
      rw [List.size_toArray, hlen, preSum_eq ns _ (Nat.le_refl _), List.take_length]
    rw [e]
    refine ⟨.int _, H, I.kept (fun b o e => hk b o ?_ (Heap.get?_push_of_some _ e)), ⟨_, rfl⟩, q⟩
    intro z
    have z : b = s.heap.objs.size := by simpa using z
    exact absurd (Heap.lt_size e) (by rw [z]; exact Nat.lt_irrefl _)
end
abbrev smallS : Str := Str.ofString "abcdefghijklmnopqrstuvwxyz"
abbrev greatS : Str := Str.ofString "ABCDEFGHIJKLMNOPQRSTUVWXYZ"
abbrev figS : Str := Str.ofString "0123456789"
abbrev one (c : Nat) : Str := ⟨#[c]⟩
abbrev sp_l_cell_at (K : PySem.W.Frag) : Sp := fun vs H Q _ => match vs with | [.ref a, .int k] => ∃ ns : List Int, SqL K H a (ns.map V.int) ∧ 0 ≤ k ∧ k ≤ 1000 ∧ ∀ v, Q (.int v) H | _ => False
theorem ln {n : Nat} (h : n ≤ 100000) : n ≤ sizeLine := by rw [sizeLine_eq]; omega
theorem ln1 {n : Nat} (h : n < 100000) : n < sizeLine := by rw [sizeLine_eq]; omega
end L2
set_option Elab.async false
set_option linter.all false
set_option maxRecDepth 100000
set_option maxHeartbeats 4000000
namespace L2
open PySem PySem.Spec PyProof.Rows
section
variable {X : Cx} {e : Expr} {te : TE} {pos : Pos}
def mAug (i : Nat) (te : TE) (ti : TIp) : TS := fun D σ H => ∃ x, σ[i]? = some (some x) ∧ te σ H fun y H1 => ti x y H1 fun z H2 => D.nx (σ.set i (some z)) H2
theorem mps_aug {i : Nat} {x : Str} {op : Operator} {ti : TIp} {pos' : Pos} (hN : X.N.Nodup) (hi : X.N[i]? = some x) (hx : Loc X.env.scope x) (he : PE X e te) (ho : PIp X op ti) (hf : X.fn x = true ∨ X.env.scope.names.lookup x = some .local := by first | exact .inl rfl | exact .inr rfl | assumption) :
    PS X (.AugAssign (.Name x pos') op e pos) (mAug i te ti) := ps_aug hN hi hx he ho hf
def mIAdd : TIp := fun x y H Q => match x, y with
  | .int i, .int j => Q (.int (i + j)) H
  | .str i, .str j => i.length + j.length ≤ sizeLine ∧ Q (.str (i ++ j)) H
  | _, _ => False
theorem mi_add : PIp X .Add mIAdd := by
  intro pins s σ H x y v u Q I rx ry h
  refine (OpR.or iop_add iop_add_str) pins s σ H x y v u Q I rx ry ?_
  cases x <;> cases y <;> first
    | exact (show False from h).elim
    | exact .inl ⟨_, _, rfl, rfl, h⟩
    | exact .inr ⟨_, _, rfl, rfl, h.1, h.2⟩
end
section
variable {σ : St} {H : Hp} {Q : VK} {D : Ends} {te : TE} {n : Nat} {v : V} {i j : Int}
theorem mAug_i {ti : TIp} (h : σ[n]? = some (some v)) (k : te σ H fun y H1 => ti v y H1 fun z H2 => D.nx (σ.set n (some z)) H2) : mAug n te ti D σ H := ⟨v, h, k⟩
theorem mIAdd_i (k : Q (.int (i + j)) H) : mIAdd (.int i) (.int j) H Q := k
end
inductive Trm where
  | num (n : Int)
  | any (x : Str)
  | app (sg : Str) (ks : List Trm)
abbrev numS : Str := Str.ofString "num"
abbrev anyS : Str := Str.ofString "any"
abbrev appS : Str := Str.ofString "app"
mutual
def Trm.data : Trm → PyData
  | .num n => .tuple [.str numS, .int n]
  | .any x => .tuple [.str anyS, .str x]
  | .app sg ks => .tuple [.str appS, .str sg, .tuple (Trm.dataL ks)]
def Trm.dataL : List Trm → List PyData
  | [] => []
  | t :: r => t.data :: Trm.dataL r
end
mutual
def Trm.size : Trm → Nat
  | .num _ => 1
  | .any _ => 1
  | .app _ ks => 1 + Trm.sizeL ks
def Trm.sizeL : List Trm → Nat
  | [] => 0
  | t :: r => t.size + Trm.sizeL r
end
theorem Trm.size_pos : ∀ t : Trm, 1 ≤ t.size
  | .num _ => Nat.le_refl 1
  | .any _ => Nat.le_refl 1
  | .app _ ks => by unfold Trm.size; omega
mutual
theorem Trm.depth_le : ∀ t : Trm, t.data.depth ≤ 2 * t.size
  | .num _ => by simp [Trm.data, Trm.size, PyData.depth, PyData.depthAll]
  | .any _ => by simp [Trm.data, Trm.size, PyData.depth, PyData.depthAll]
  | .app _ ks => by
    have := Trm.depthL_le ks
    simp only [Trm.data, Trm.size, PyData.depth, PyData.depthAll]
    omega
theorem Trm.depthL_le : ∀ ts : List Trm, PyData.depthAll (Trm.dataL ts) ≤ 2 * Trm.sizeL ts
  | [] => by simp [Trm.dataL, Trm.sizeL, PyData.depthAll]
  | t :: r => by
    have h1 := Trm.depth_le t
    have h2 := Trm.depthL_le r
    simp only [Trm.dataL, Trm.sizeL, PyData.depthAll]
    omega
end
theorem Trm.dataL_map : ∀ ts : List Trm, Trm.dataL ts = ts.map Trm.data
  | [] => rfl
  | t :: r => by rw [Trm.dataL, Trm.dataL_map r, List.map_cons]
theorem Trm.sizeL_map : ∀ ts : List Trm, Trm.sizeL ts = (ts.map Trm.size).sum
  | [] => rfl
  | t :: r => by rw [Trm.sizeL, Trm.sizeL_map r, List.map_cons, List.sum_cons]
theorem Trm.sizeL_app (a b : List Trm) : Trm.sizeL (a ++ b) = Trm.sizeL a + Trm.sizeL b := by
  rw [Trm.sizeL_map, Trm.sizeL_map, Trm.sizeL_map, List.map_append, List.sum_append]
theorem Trm.len_le (ts : List Trm) : ts.length ≤ Trm.sizeL ts := by
  induction ts with
  | nil => simp
  | cons t r ih =>
    have := t.size_pos
    rw [Trm.sizeL, List.length_cons]; omega
section
variable {K : PySem.W.Frag} {H : Hp} {v : V}
theorem den_num {n : Int} (h : Den K H v (Trm.num n).data) : ∃ a, v = .ref a ∧ SqT K H a [.str numS, .int n] := by
  unfold Trm.data at h
  cases h with
  | tup hs hl =>
    cases hl with
    | cons h1 hl =>
      cases hl with
      | cons h2 hl =>
        cases hl
        cases h1
        cases h2
        exact ⟨_, rfl, hs⟩
theorem den_any {x : Str} (h : Den K H v (Trm.any x).data) : ∃ a, v = .ref a ∧ SqT K H a [.str anyS, .str x] := by
  unfold Trm.data at h
  cases h with
  | tup hs hl =>
    cases hl with
    | cons h1 hl =>
      cases hl with
      | cons h2 hl =>
        cases hl
        cases h1
        cases h2
        exact ⟨_, rfl, hs⟩
theorem den_app {sg : Str} {ks : List Trm} (h : Den K H v (Trm.app sg ks).data) : ∃ a b us, v = .ref a ∧ SqT K H a [.str appS, .str sg, .ref b] ∧ SqT K H b us ∧ DenL K H us (Trm.dataL ks) := by
  unfold Trm.data at h
  cases h with
  | tup hs hl =>
    cases hl with
    | cons h1 hl =>
      cases hl with
      | cons h2 hl =>
        cases hl with
        | cons h3 hl =>
          cases hl
          cases h1
          cases h2
          cases h3 with
          | tup hb hk => exact ⟨_, _, _, rfl, hs, hb, hk⟩
theorem num_den {a : Addr} {n : Int} (h : SqT K H a [.str numS, .int n]) : Den K H (.ref a) (Trm.num n).data := by
  unfold Trm.data
  exact .tup h (.cons (.str _) (.cons (.int _) .nil))
theorem any_den {a : Addr} {x : Str} (h : SqT K H a [.str anyS, .str x]) : Den K H (.ref a) (Trm.any x).data := by
  unfold Trm.data
  exact .tup h (.cons (.str _) (.cons (.str _) .nil))
theorem app_den {a b : Addr} {sg : Str} {ks : List Trm} {us : List V} (h : SqT K H a [.str appS, .str sg, .ref b]) (hb : SqT K H b us) (hk : DenL K H us (Trm.dataL ks)) : Den K H (.ref a) (Trm.app sg ks).data := by
  unfold Trm.data
  exact .tup h (.cons (.str _) (.cons (.str _) (.cons (.tup hb hk) .nil)))
theorem DenL.snoc {us : List V} {ds : List PyData} {d : PyData} (h : DenL K H us (ds ++ [d])) : ∃ us' u, us = us' ++ [u] ∧ DenL K H us' ds ∧ Den K H u d := by
  induction ds generalizing us with
  | nil =>
    cases h with
    | cons h1 h2 =>
      cases h2
      exact ⟨[], _, rfl, .nil, h1⟩
  | cons x r ih =>
    cases h with
    | cons h1 h2 =>
      obtain ⟨us', u, rfl, a, b⟩ := ih h2
      exact ⟨_ :: us', u, rfl, .cons h1 a, b⟩
theorem DenL.nil_inv {us : List V} (h : DenL K H us []) : us = [] := by cases h; rfl
theorem DenL.at {us : List V} {ds : List PyData} {i : Int} {d : PyData} (h : DenL K H us ds) (e : atI ds i = some d) : ∃ u, atI us i = some u ∧ Den K H u d := by
  obtain ⟨j, h1, h2, h3, h4, h5⟩ := atI_get e
  have hl := h.length
  have hj : j < us.length := by omega
  obtain ⟨d', e1, e2⟩ := h.get (List.getElem?_eq_getElem hj)
  rw [h2] at e1
  cases e1
  refine ⟨us[j], ?_, e2⟩
  unfold atI at e ⊢
  rw [hl]
  cases q : ixN ds.length i with
  | none => rw [q] at e; cases e
  | some k =>
    rw [q] at e
    have := (ixN_seq q).1
    rw [h1] at this
    cases this
    exact List.getElem?_eq_getElem hj
end
end L2
set_option Elab.async false
set_option linter.all false
set_option maxRecDepth 100000
set_option maxHeartbeats 4000000
namespace L2
open PySem PySem.Spec PyProof.Rows
def Itv (K : PySem.W.Frag) (a : Addr) (n : Nat) : It := ⟨fun i H => ∃ xs, SqL K H a xs ∧ xs.length = n ∧ i < n, fun i H x H' => H' = H ∧ ∀ xs, SqL K H a xs → xs[n - 1 - i]? = some x, fun i _ => i = n⟩
section
variable {X : Cx} {tg : Expr}
def iRev (K : PySem.W.Frag) (ta : TA) : TI := fun σ H R => ta σ H fun vs H1 => ∃ a xs, vs = [.ref a] ∧ SqL K H1 a xs ∧ R (Itv K a xs.length) H1
end
theorem iRev_i {K : PySem.W.Frag} {σ : St} {H : Hp} {ta : TA} {R : It → Hp → Prop} (k : ta σ H fun vs H1 => ∃ a xs, vs = [.ref a] ∧ SqL K H1 a xs ∧ R (Itv K a xs.length) H1) : iRev K ta σ H R := k
end L2
set_option Elab.async false
set_option linter.all false
set_option maxRecDepth 100000
set_option maxHeartbeats 4000000
namespace L2
open PySem PySem.Spec PyProof.Rows
section
variable {X : Cx}
theorem ko_inV (K : PySem.W.Frag) (h : X.K = K) : OpR X (compareOp .In) (rIn K false) := h ▸ op_in_seq
theorem mMax_i {i j : Int} {H : Hp} {Q : VK} (k : Q (.int (if j > i then j else i)) H) : mMax [.int i, .int j] H Q := ⟨i, j, rfl, k⟩
end
end L2
set_option Elab.async false
set_option linter.all false
set_option maxRecDepth 100000
set_option maxHeartbeats 4000000
namespace L2
open PySem PySem.Spec PyProof.Rows
section
variable {X : Cx}
end
end L2
namespace L2
open PySem PySem.Spec PyProof.Rows
section
variable {X : Cx}
end
section
variable {σ : St} {H : Hp} {Q : VK} {D : Ends} {td ty tx tv : TE}
theorem tDGet_i (k : td σ H fun x H1 => ty σ H1 fun y H2 => ∃ a v, x = .ref a ∧ DGet H2 a y (some v) ∧ Q v H2) : tDGet td ty σ H Q := k
theorem tDGet2_i (k : td σ H fun x H1 => ∃ a, x = .ref a ∧ IsD H1 a ∧ ty σ H1 fun y H2 => tx σ H2 fun z H3 => ∃ o, DGet H3 a y o ∧ Q (o.getD z) H3) : tDGet2 td ty tx σ H Q := k
theorem sDPut_i (k : tv σ H fun v H1 => td σ H1 fun x H2 => ty σ H2 fun y H3 => ∃ a H4, x = .ref a ∧ DPut H3 a y v H4 ∧ D.nx σ H4) : sDPut td ty tv D σ H := k
theorem tDisp_i {trs : List (TE × TE)} (k : ∀ p, H p = none → tPairs trs σ (upd H p (.dK [])) fun ps H2 => H2 p = some (.dK []) ∧ ∃ kvs : List (Key × V), ps = kvs.map (fun kv => (kV kv.1, kv.2)) ∧ kvs.length ≤ 15 ∧ Q (.ref p) (upd H2 p (.dK (mergeK [] kvs)))) : tDisp trs σ H Q := k
theorem tPairs_c {tk tv : TE} {r : List (TE × TE)} {R : List (V × V) → Hp → Prop} (k : tk σ H fun x H1 => tv σ H1 fun y H2 => tPairs r σ H2 fun ps H3 => R ((x, y) :: ps) H3) : tPairs ((tk, tv) :: r) σ H R := k
theorem tPairs_n {R : List (V × V) → Hp → Prop} (k : R [] H) : tPairs [] σ H R := k
end
end L2
set_option Elab.async false
set_option linter.all false
set_option maxRecDepth 100000
set_option maxHeartbeats 4000000
namespace L2
open PySem PySem.Spec PyProof.Rows
section
variable {X : Cx}
def mIsN (n : Bool) : R2 := fun x y H Q => y = .non ∧ Q (.bl (n ^^ decide (x = .non))) H
theorem isN_non {n : Bool} {H : Hp} {Q : VK} (k : Q (.bl (!n)) H) : mIsN n .non .non H Q := ⟨rfl, by rw [decide_eq_true rfl, Bool.xor_true]; exact k⟩
theorem isN_ref {n : Bool} {a : Addr} {H : Hp} {Q : VK} (k : Q (.bl n) H) : mIsN n (.ref a) .non H Q := ⟨rfl, by rw [decide_eq_false (fun z => by cases z), Bool.xor_false]; exact k⟩
def mInt : List V → Hp → VK → Prop := fun vs H Q => match vs with
  | [.int i] => Q (.int i) H
  | [.bl b] => Q (.int (if b then 1 else 0)) H
  | _ => False
theorem mc_int : CallR X (.type "int") mInt := by
  intro pins s σ H xs us Q I r h
  refine call_int1 pins s σ H xs us Q I r ?_
  unfold mInt at h
  split at h
  · exact .inl ⟨_, rfl, h⟩
  · exact .inr ⟨_, rfl, h⟩
  · exact h.elim
theorem mInt_b {b : Bool} {H : Hp} {Q : VK} (k : Q (.int (if b then 1 else 0)) H) : mInt [.bl b] H Q := k
end
def But (p : Addr) (H H' : Hp) : Prop := ∀ b o, b ≠ p → H b = some o → H' b = some o
theorem But.refl (p : Addr) (H : Hp) : But p H H := fun _ _ _ h => h
theorem But.trans {p : Addr} {H H1 H2 : Hp} (a : But p H H1) (b : But p H1 H2) : But p H H2 := fun c o n h => b c o n (a c o n h)
theorem But.tup {K : PySem.W.Frag} {p : Addr} {H H' : Hp} {ys : List V} (e : But p H H') (hp : H p = some (.lst ys)) {a : Addr} {xs : List V} (h : SqT K H a xs) : SqT K H' a xs := by
  rcases h with (h | ⟨o, h⟩) | h
  · exact .inl (.inl (e _ _ (fun z => by subst z; rw [hp] at h; cases h) h))
  · exact .inl (.inr ⟨o, e _ _ (fun z => by subst z; rw [hp] at h; cases h) h⟩)
  · exact .inr h
theorem But.den {K : PySem.W.Frag} {p : Addr} {H H' : Hp} {ys : List V} (e : But p H H') (hp : H p = some (.lst ys)) {v : V} {d : PyData} (h : Den K H v d) : Den K H' v d := h.monoT fun _ _ q => e.tup hp q
theorem sIx_none (n k : Nat) : HT.sIx n k none = k := rfl
end L2
set_option Elab.async false
set_option linter.all false
set_option maxRecDepth 100000
set_option maxHeartbeats 4000000
namespace L2
open PySem PySem.Spec PyProof.Rows
section
variable {X : Cx} {pins : List (Addr × Obj)} {σ : St} {H : Hp} {s : Shared} {h' : Heap}
theorem Inv.turnedLaid {t' : Nat} {ch : List Addr} {T : Addr} {o : HO} (I : Inv X pins σ H s) (hf : ∀ b ∈ ch, FpOk X pins H b) (k : ∀ b u, b ∉ ch → s.heap.get? b = some u → h'.get? b = some u) (hT : s.heap.objs.size ≤ T)
    (new : ObjOk X.prog X.w (upd H T o) h' T o) : Inv X pins σ (upd H T o) { s with heap := h', toks := t' } := by
  have hn : H T = none := I.hok.fresh hT
  have nin : ∀ b u, H b = some u → b ∉ ch := fun b u e hb => by rw [(hf b hb).1] at e; cases e
  have neT : ∀ b u, s.heap.get? b = some u → b ≠ T := fun b u e => Nat.ne_of_lt (Nat.lt_of_lt_of_le (Heap.lt_size e) hT)
  refine I.step (g' := s.gens) (d' := s.drawn) (ch := ch) (fun b hb => ⟨(hf b hb).2.2.2.1, (hf b hb).2.1, (hf b hb).2.2.2.2.1, (hf b hb).2.2.2.2.2⟩) (fun b u _ _ hc e _ => k b u hc e) (fun b u _ _ hc e _ => ⟨u.slots, k b u hc e⟩)
    (fun b u hc e n => by rw [upd_ne (neT b u e)]; exact n) (fun b u hc e => ⟨u, k b u hc e⟩) (fun b xs q => by rw [upd_ne (ne_of_none q hn)]; exact q) (fun b u xs q => by rw [upd_ne (ne_of_none q hn)]; exact q) (fun b ps q => ⟨#[], by rw [upd_ne (ne_of_none q hn), q]; simp⟩) (fun m hm => ?_) (fun b u e => ?_) I.bare
  · obtain ⟨q, es, ep, ho, r⟩ := hm
    exact ⟨q, es, ep, k _ q (fun hb => (hf _ hb).2.1 rfl) ho, r⟩
  · by_cases hb : b = T
    · subst hb; rw [upd_same] at e; cases e; exact new
    · rw [upd_ne hb] at e
      refine (I.hok b u e).stay (fun c v hc q => k c v ?_ q) (fun c q => by rw [upd_ne (ne_of_none q hn)]; exact q) fun c xs q => by rw [upd_ne (ne_of_none q hn)]; exact q
      rcases hc with z | z
      · rw [z]; exact nin b u e
      · exact nin c _ z
end
def Ite (K : PySem.W.Frag) (a : Addr) (n : Nat) : It := ⟨fun i H => i < n ∧ ∃ xs, SqL K H a xs ∧ xs.length = n, fun i H v H' => ∃ T x, H T = none ∧ v = .ref T ∧ H' = upd H T (.tup [.int i, x]) ∧ ∀ xs, SqL K H a xs → xs[i]? = some x, fun i H => i = n ∧ ∃ xs, SqL K H a xs ∧ xs.length = n⟩
section
variable {X : Cx}
def iEnum (K : PySem.W.Frag) (ta : TA) : TI := fun σ H R => ta σ H fun vs H1 => ∃ a xs, vs = [.ref a] ∧ SqL K H1 a xs ∧ R (Ite K a xs.length) H1
end
theorem iEnum_i {K : PySem.W.Frag} {σ : St} {H : Hp} {ta : TA} {R : It → Hp → Prop} (k : ta σ H fun vs H1 => ∃ a xs, vs = [.ref a] ∧ SqL K H1 a xs ∧ R (Ite K a xs.length) H1) : iEnum K ta σ H R := k
end L2
set_option Elab.async false
set_option linter.all false
set_option maxRecDepth 100000
set_option maxHeartbeats 4000000
namespace L2
open PySem PySem.Spec PyProof.Rows PySem.W
def RawD (h : Heap) (a : Addr) (es : Array DictEntry) (ep : Nat) : Prop := ∃ o, h.get? a = some o ∧ o.ExactDict ∧ o.data = .dict es ep
theorem RawD.on {h h' : Heap} {a : Addr} {es : Array DictEntry} {ep : Nat} (x : RawD h a es ep) (k : ∀ o, h.get? a = some o → h'.get? a = some o) : RawD h' a es ep := let ⟨o, p, r⟩ := x; ⟨o, k o p, r⟩
theorem RawD.lt {h : Heap} {a : Addr} {es : Array DictEntry} {ep : Nat} (x : RawD h a es ep) : a < h.objs.size := let ⟨_, p, _⟩ := x; Heap.lt_size p
theorem RawD.ty {s : Shared} {a : Addr} {es : Array DictEntry} {ep : Nat} (x : RawD s.heap a es ep) : s.TypeIs (.ref a) "dict" := let ⟨o, p, c, _⟩ := x; ⟨o, p, c.1⟩
section
variable {prog : Program} {w : World} {A : Around} {E : Value → Shared → Prop} {s : Shared} {d : Addr} {es : Array DictEntry} {ep : Nat}
end
end L2
set_option Elab.async false
set_option linter.all false
set_option maxRecDepth 100000
set_option maxHeartbeats 4000000
namespace L2
open PySem PySem.Spec PyProof.Rows PySem.W
section
variable {X : Cx}
end
end L2
set_option Elab.async false
set_option linter.all false
set_option maxRecDepth 100000
set_option maxHeartbeats 4000000
namespace L2
open PySem PySem.Spec PyProof.Rows PySem.W
open PySem.AutoSeq1 (wpAny_loadPart')
def EqIn (prog : Program) (w : World) (A : Around) (s : Shared) (y x : Value) : Prop := ∀ (E : Value → Shared → Prop) (Q : Bool → Shared → Prop), Q true s → wpAny (model prog w) A (eqBool y x) Q E s
section
variable {prog : Program} {w : World} {A : Around} {E : Value → Shared → Prop} {s : Shared}
theorem EqIn.at {y x : Value} (h : SeqAt.EqAt A s y x true) : EqIn prog w A s y x := fun E Q q => h prog w E Q q
variable {K : Type} [DecidableEq K] {knd : HeapKind prog w K}
end
section
variable {X : Cx}
end
end L2
set_option Elab.async false
set_option linter.all false
set_option maxRecDepth 100000
set_option maxHeartbeats 4000000
namespace L2
open PySem PySem.Spec PyProof.Rows PySem.W
section
variable {X : Cx}
theorem kpg_tup (K : PySem.W.Frag) (hK : X.K = K) {pos : Pos} {es : List Expr} {k : Nat} {t : TGs} {n : Nat} (hc : X.calm = true) (h : PGs X es t)
    (hn : (assignEach es X.env).length = n := by rfl) (hst : (assignEach es X.env).findIdx? (·.1) = none := by rfl) : PG X (.Tuple es k pos) (gTup K n t) := hK ▸ pg_tup hc h hn hst
end
section
variable {K : PySem.W.Frag} {σ : St} {H : Hp} {Q : VK} {D : Ends} {a : Addr} {xs : List V} {n : Nat}
theorem gTup_i {t : TGs} {N : St → Hp → Prop} (hs : SqT K H a xs) (hl : xs.length = n) (k : t xs σ H N) : gTup K n t (.ref a) σ H N := ⟨a, xs, rfl, hs, hl, k⟩
theorem gCons_i {t : TG} {u : TGs} {v : V} {r : List V} {N : St → Hp → Prop} (k : t v σ H fun σ' H' => u r σ' H' N) : gCons t u (v :: r) σ H N := ⟨v, r, rfl, k⟩
theorem gNil_i {N : St → Hp → Prop} (k : N σ H) : gNil [] σ H N := ⟨rfl, k⟩
end
end L2
set_option Elab.async false
set_option linter.all false
set_option maxRecDepth 100000
set_option maxHeartbeats 4000000
namespace L2
open PySem PySem.Spec PyProof.Rows PySem.W
section
variable {X : Cx}
end
end L2
set_option Elab.async false
set_option linter.all false
set_option maxRecDepth 100000
set_option maxHeartbeats 4000000
namespace Att
open PySem PySem.W PySem.Calls PyProof.Rows
end Att
namespace L2
open PySem PySem.Spec PyProof.Rows
end L2
set_option Elab.async false
set_option linter.all false
set_option maxRecDepth 100000
set_option maxHeartbeats 4000000
namespace L2
open PySem PySem.Spec PyProof.Rows PySem.W
structure QE (X : Cx) (e : Expr) (t : TE) : Prop where
  pe : PE X e t
structure QS (X : Cx) (st : Stmt) (t : TS) : Prop where
  ps : PS X st t
structure QSs (X : Cx) (l : List Stmt) (t : TS) : Prop where
  pss : PSs X l t
section
variable {X : Cx} {pos pos' : Pos} {e k v : Expr} {te tk tv : TE} {st : Stmt} {rest : List Stmt} {t u : TS}
theorem qs_set {i : Nat} {x : Str} (hN : X.N.Nodup) (hi : X.N[i]? = some x) (hx : Loc X.env.scope x) (he : QE X e te) (hs : swapsWith e (some (.Name x pos')) pos.line X.env = pure false) (hf : X.fn x = true ∨ X.env.scope.names.lookup x = some .local) : QS X (.Assign [.Name x pos'] e pos) (tAsg te (gName i)) := ⟨ps_set hN hi hx he.pe hs hf⟩
theorem qss_cons (h1 : QS X st t) (h2 : QSs X rest u) : QSs X (st :: rest) (tSeq t u) := ⟨pss_cons h1.ps h2.pss⟩
theorem qss_one (h1 : QS X st t) : QSs X [st] t := ⟨pss_one h1.ps⟩
end
section
variable {X : Cx} {pos : Pos} {e : Expr} {te : TE}
end
section
variable {X : Cx} {tg : Expr}
def iSeq (K : PySem.W.Frag) (tl : TE) : TI := fun σ H R => tl σ H fun x H1 => ∃ a, x = .ref a ∧ ((∃ xs, SqL K H1 a xs ∧ R (Itl K a) H1) ∨ ∃ xs, SqT K H1 a xs ∧ R (Itt K a) H1)
theorem kpi_seq (K : PySem.W.Frag) (hK : X.K = K) {l : Expr} {tl : TE} (hl : PE X l tl) : PI X tg l (iSeq K tl) := by
  subst hK
  intro pins s σ H R I h
  refine thn (hl pins s σ H _ I h) fun v s1 ⟨x, H1, I1, r1, q1⟩ => ?_
  obtain ⟨a, e, q1⟩ := q1
  subst e
  cases r1
  rcases q1 with ⟨xs, hq, q⟩ | ⟨xs, hq, q⟩
  · obtain ⟨its, rv, p, hz⟩ := I1.list hq
    refine wpAny_pyIter_list p.isList ?_
    refine ⟨s1.heap.objs.size, [s1.heap.objs.size], _, _, H1, rfl, I1.kept (t' := s1.toks) fun b o e => Heap.get?_push_of_some _ e, turn_list a _, ⟨_, Heap.get?_push_size _ rfl, rfl, rfl⟩, fun b hb => ?_, q⟩
    have e : b = s1.heap.objs.size := by simpa using hb
    subst e
    exact I1.fpOk (Nat.le_refl _) (I1.hok.fresh (Nat.le_refl _))
  · obtain ⟨its, rv, p, hz⟩ := I1.tuple hq
    refine wpAny_pyIter_tuple (show s1.heap.IsTuple a its.toArray from p) ?_
    refine ⟨s1.heap.objs.size, [s1.heap.objs.size], _, _, H1, rfl, I1.kept (t' := s1.toks) fun b o e => Heap.get?_push_of_some _ e, turn_tuple a _, ⟨_, Heap.get?_push_size _ rfl, rfl, rfl⟩, fun b hb => ?_, q⟩
    have e : b = s1.heap.objs.size := by simpa using hb
    subst e
    exact I1.fpOk (Nat.le_refl _) (I1.hok.fresh (Nat.le_refl _))
theorem iSeq_i {K : PySem.W.Frag} {σ : St} {H : Hp} {ta : TE} {R : It → Hp → Prop} (k : ta σ H fun x H1 => ∃ a, x = .ref a ∧ ((∃ xs, SqL K H1 a xs ∧ R (Itl K a) H1) ∨ ∃ xs, SqT K H1 a xs ∧ R (Itt K a) H1)) : iSeq K ta σ H R := k
def mAbs : List V → Hp → VK → Prop := fun vs H Q => ∃ i, vs = [.int i] ∧ Q (.int (if i < 0 then -i else i)) H
theorem mAbs_i {i : Int} {H : Hp} {Q : VK} (k : Q (.int (if i < 0 then -i else i)) H) : mAbs [.int i] H Q := ⟨i, rfl, k⟩
end
end L2
set_option Elab.async false
set_option linter.all false
set_option maxRecDepth 100000
set_option maxHeartbeats 4000000
namespace L2
open PySem PySem.Spec PyProof.Rows PySem.W
def TbIs (h : Heap) (T : Addr) : Prop := ∃ oT ts, h.get? T = some oT ∧ oT.data = .fields ts ∧ ts[3]? = some Value.none
structure Left (fs : List Addr) (ea : Addr) (o : Obj) (ok : Addr → Prop) (h h' : Heap) : Prop where
  keep : ∀ b u, b ≠ ea → ¬ ok b → b ∉ fs → h.get? b = some u → h'.get? b = some u
  slot : ∀ b u, b ≠ ea → ¬ ok b → h.get? b = some u → ∃ sl, h'.get? b = some { u with slots := sl }
  there : ∀ b u, h.get? b = some u → ∃ u', h'.get? b = some u'
  tb : ∃ T, h.objs.size ≤ T ∧ TbIs h' T ∧ h'.get? ea = some (o.mapFields (·.setIfInBounds 1 (.ref T)))
theorem mf_data {o : Obj} {vs : Array Value} (f : Array Value → Array Value) (h : o.data = .fields vs) : (o.mapFields f).data = .fields (f vs) := Obj.data_mapFields h f
theorem mf_dict (o : Obj) (f : Array Value → Array Value) : (o.mapFields f).dict = o.dict := by
  unfold Obj.mapFields
  split <;> rfl
section
variable {M : Model} {A : Around} {E : Value → Shared → Prop}
theorem leave_entry {s : Shared} {base : Heap} {env : Env} {outer : List Env} {L ea : Addr} {o : Obj} {vs : Array Value} {hd0 : Value} {had : Bool} {Q : Unit → Shared → Prop}
    (fr : A.frames = some (env :: outer)) (ff : s.heap.FunFrames base (env :: outer)) (fe : env.frame = some L) (ge : s.heap.get? ea = some o) (gd : o.data = .fields vs) (g1 : 1 < vs.size)
    (q : ∀ h', Left (frs (env :: outer)) ea o (fun _ => False) s.heap h' → Q () { s with heap := h' }) :
    wpAny M A (do let a ← frameOf env; let pl ← entryPlaceOf L had; let b ← EntryCells.newEntry hd0 a .none (rawInt L) .none pl; setField (.ref ea) 1 b) (fun _ s1 => wpAny M A (setFlight (.ref ea) none) Q E s1) E s := by
  have nea : ea ∉ frs (env :: outer) := fun z => by
    obtain ⟨_, u, hu, hn⟩ := ff.mem z
    rw [ge] at hu
    cases hu
    exact hn vs gd
  refine wpAny_bind (wpAny_frameOf_fun fr ff fe fun hA sA => ?_)
  refine wpAny_bind (wpAny_entryPlaceOf fun pl hpl => ?_)
  unfold EntryCells.newEntry newFields
  refine wpAny_bind (wpAny_newObj_type ?_ (hpl.sizeOk5 _ _ _ _ _))
  generalize hob : ({ cls := .type "traceback", dict := none, data := .fields ([hd0, .ref L, .none, rawInt L, .none] ++ (if pl.isEmpty then List.replicate 6 Value.none else pl)).toArray } : Obj) = ob
  have obd : ob.data = .fields ([hd0, .ref L, .none, rawInt L, .none] ++ (if pl.isEmpty then List.replicate 6 Value.none else pl)).toArray := by rw [← hob]
  have eA : hA.get? ea = some o := (sA.2.1 ea nea).trans ge
  have eB := Heap.get?_push_of_some (h := hA) ob eA
  have nT : hA.objs.size ≠ ea := Nat.ne_of_gt (Heap.lt_size eA)
  refine wpAny_setField eB gd g1 ?_
  have dC := mf_data (·.setIfInBounds 1 (Value.ref hA.objs.size)) gd
  have eC := Heap.get?_update_self (Obj.mapFields (·.setIfInBounds 1 (Value.ref hA.objs.size))) eB (Obj.isFreed_of_fields dC)
  have tC := (Heap.get?_update_other (hA.push ob) (Obj.mapFields (·.setIfInBounds 1 (Value.ref hA.objs.size))) (Ne.symm nT)).trans (Heap.get?_push_size hA (by cases ob; cases hob; rfl))
  have sz3 : 3 < ([hd0, .ref L, .none, rawInt L, .none] ++ (if pl.isEmpty then List.replicate 6 Value.none else pl)).toArray.size := by
    simp only [List.size_toArray, List.length_append, List.length_cons, List.length_nil]
    omega
  unfold setFlight
  refine wpAny_bind (wpAny_field eC dC (x := .ref hA.objs.size) (by simp [g1]) ?_)
  rw [if_pos (show (Value.ref hA.objs.size != Value.none) = true from by simp)]
  refine wpAny_setField tC obd sz3 (q _ ?_)
  have kept : ∀ b u, b ≠ ea → hA.get? b = some u → (((hA.push ob).update ea (Obj.mapFields (·.setIfInBounds 1 (Value.ref hA.objs.size)))).update hA.objs.size (Obj.mapFields (·.setIfInBounds 3 ((none : Option Addr).elim Value.none fun f => rawInt f)))).get? b = some u := fun b u hb hu => by
    rw [Heap.get?_update_other _ _ (Nat.ne_of_gt (Heap.lt_size hu)), Heap.get?_update_other _ _ (Ne.symm hb)]
    exact Heap.get?_push_of_some _ hu
  refine ⟨fun b u hb _ hf hu => kept b u hb ((sA.2.1 b hf).trans hu), fun b u hb _ hu => ?_, fun b u hu => ?_, hA.objs.size, ?_, ?_, ?_⟩
  · obtain ⟨sl, e⟩ := sA.2.2 b u hu
    exact ⟨sl, kept b _ hb e⟩
  · by_cases hb : b = ea
    · subst hb
      exact ⟨_, by rw [Heap.get?_update_other _ _ nT]; exact eC⟩
    · obtain ⟨sl, e⟩ := sA.2.2 b u hu
      exact ⟨_, kept b _ hb e⟩
  · rw [sA.1]
    exact Nat.le_refl _
  · exact ⟨_, _, Heap.get?_update_self _ tC (Obj.isFreed_of_fields (mf_data _ obd)), mf_data _ obd, by simp [sz3]⟩
  · rw [Heap.get?_update_other _ _ nT]
    exact eC
theorem leave_any {s : Shared} {base : Heap} {env : Env} {outer : List Env} {L ea : Addr} {o : Obj} {vs : Array Value} {ok : Addr → Prop} {Q : Unit → Shared → Prop}
    (fr : A.frames = some (env :: outer)) (ff : s.heap.FunFrames base (env :: outer)) (fe : env.frame = some L) (ge : s.heap.get? ea = some o) (gd : o.data = .fields vs)
    (tb : vs[1]? = some .none ∨ ∃ T, vs[1]? = some (.ref T) ∧ T ≠ ea ∧ ok T ∧ TbIs s.heap T)
    (q : ∀ h', Left (frs (env :: outer)) ea o ok s.heap h' → Q () { s with heap := h' }) : wpAny M A (noteFrame (.ref ea) env) (fun _ s1 => wpAny M A (setFlight (.ref ea) none) Q E s1) E s := by
  unfold noteFrame
  simp only [fe]
  rcases tb with g | ⟨T, g, nT, kT, oT, ts, hT, dT, t3⟩
  · refine wpAny_bind (wpAny_field ge gd g ?_)
    rw [if_neg (by decide)]
    refine leave_entry fr ff fe ge gd (Array.getElem?_eq_some_iff.mp g).1 fun h' l => q h' ⟨fun b u hb _ => l.keep b u hb id, fun b u hb _ => l.slot b u hb id, l.there, l.tb⟩
  · refine wpAny_bind (wpAny_field ge gd g ?_)
    rw [if_pos (show (Value.ref T != Value.none) = true from by simp)]
    refine wpAny_bind (wpAny_field hT dT t3 ?_)
    rw [if_neg (show ¬ ((Value.none == rawInt L) = true) from by simp [rawInt])]
    refine wpAny_bind (wpAny_setField hT dT (Array.getElem?_eq_some_iff.mp t3).1 ?_)
    have oth : ∀ b, b ≠ T → (s.heap.update T (Obj.mapFields (·.setIfInBounds 3 Value.none))).get? b = s.heap.get? b := fun b hb => Heap.get?_update_other _ _ (Ne.symm hb)
    have self := Heap.get?_update_self (Obj.mapFields (·.setIfInBounds 3 Value.none)) hT (Obj.isFreed_of_fields (mf_data _ dT))
    have nrec : ∀ b u, s.heap.get? b = some u → (∀ ws, u.data ≠ .fields ws) → b ≠ T := fun b u hu hn z => by
      subst z
      rw [hT] at hu
      cases hu
      exact hn ts dT
    refine leave_entry fr (ff.of_keeps fun b u hu hn => ⟨u, (oth b (nrec b u hu hn)).trans hu, rfl⟩) fe ((oth ea (Ne.symm nT)).trans ge) gd (Array.getElem?_eq_some_iff.mp g).1 fun h' l => q h' ⟨fun b u hb hk hf hu => l.keep b u hb id hf ((oth b (fun z => hk (z ▸ kT))).trans hu), fun b u hb hk hu => l.slot b u hb id ((oth b (fun z => hk (z ▸ kT))).trans hu), fun b u hu => ?_, ?_⟩
    · by_cases hb : b = T
      · subst hb
        exact l.there b _ self
      · exact l.there b u ((oth b hb).trans hu)
    · obtain ⟨T2, h1, h2, h3⟩ := l.tb
      exact ⟨T2, by rw [Heap.size_after_update] at h1; exact h1, h2, h3⟩
end
end L2
set_option Elab.async false
set_option linter.all false
set_option maxRecDepth 100000
set_option maxHeartbeats 4000000
namespace L2
open PySem PySem.W
abbrev newS : String := "ValueError.__new__"
structure XCls (K : Frag) (C : Addr) (bm : List Value) : Prop where
  obj : ∃ nm q N bs sn sub ab col dd k0 k1 k2 k3 k5, K.lookup C = some (excClassObj nm q C N bs bm true sn sub ab col dd k0 k1 k2 k3 k5 newS)
  hasV : bm.contains (.type "ValueError") = true
  hasB : bm.contains (.type "BaseException") = true
  noA : bm.contains (.type "AttributeError") = false
  noN : bm.contains (.type "NameError") = false
section
variable {prog : Program} {w : World} {A : Around} {E : Value → Shared → Prop} {R : Result → Shared → Prop} {h : Heap} {g : Array GenState} {d : Drawn} {t : Nat} {os : OsState}
variable {nm q : Str} {C N : Addr} {bs bm : List Value} {sn : List Str} {sub : List Value} {ab : Bool} {col : Option Bool} {dd : Option Addr} {k0 k1 k2 k3 k5 : Option Value}
theorem x_check (hV : bm.contains (.type "ValueError") = true) {rest : List Value} {Q : Unit → Shared → Prop} (hC : h.get? C = some (excClassObj nm q C N bs bm true sn sub ab col dd k0 k1 k2 k3 k5 newS)) (hq : Q () ⟨h, g, d, t, os⟩) :
    wpAny (model prog w) A (checkBuiltinCall newS ⟨.ref C :: rest, []⟩) Q E ⟨h, g, d, t, os⟩ := by
  have F := PySem.F.excBase_ValueError
  have hc : (Value.ref C :: bm).contains (.type "ValueError") = true := by rw [List.contains_cons, hV, Bool.or_true]
  have hs := F.noStar
  simp only [checkBuiltinCall, F.newKind, F.newSplit, F.newRow]
  repeat (first | refine wpAny_loadPart_at hC ?_ | (refine wpAny_isSubtype_exc hC ?_; rw [hc]) | refine wpAny_staticBase_exc hC ?_ | refine wpAny_madeBy_exc hC ?_ | simp only [bne_self_eq_false, Bool.false_eq_true, if_false] | wp_step)
  exact hq
theorem x_new (hV : bm.contains (.type "ValueError") = true) (hA : bm.contains (.type "AttributeError") = false) (hN : bm.contains (.type "NameError") = false) {rest : List Value} (hC : h.get? C = some (excClassObj nm q C N bs bm true sn sub ab col dd k0 k1 k2 k3 k5 newS))
    (hq : R (.ok (.ret (.ref (h.objs.size + 1)))) ⟨(h.push { cls := .type "tuple", data := .seq rest.toArray }).push { cls := .ref C, data := .fields #[.ref h.objs.size, .none, .none, .none, .bool false, .none] }, g, d, t, os⟩) (hl : rest.length ≤ sizeLine) :
    codeAny (model prog w) A (.builtin newS ⟨.ref C :: rest, []⟩) R ⟨h, g, d, t, os⟩ := by
  have F := PySem.F.excBase_ValueError
  have he := F.ends
  have c1 : (Value.ref C :: bm).contains (.type "ValueError") = true := by rw [List.contains_cons, hV, Bool.or_true]
  have c2 : (Value.ref C :: bm).contains (.type "AttributeError") = false := by rw [List.contains_cons, hA]; rfl
  have c3 : (Value.ref C :: bm).contains (.type "NameError") = false := by rw [List.contains_cons, hN]; rfl
  refine codeAny_builtinAt F.entry ?_
  unfold Builtin.«BaseException.__new__»
  refine wpAt_bind ?_
  show wpAt _ _ _ (stack >>= _) _ _ _
  refine wpAt_bind (wpAt_stack fun p below => wpAt_of_wpAny ?_)
  wp_walk
  refine wpAt_of_wpAny ?_
  rw [F.owner]
  repeat (first | with_reducible refine wpAny_madeHere_exc F.canon hC ?_ | with_reducible refine wpAny_loadPart_at hC ?_ | (with_reducible refine wpAny_isSubtype_exc hC ?_; first | rw [c1] | rw [c2] | rw [c3]) | wp_step)
  show R _ _
  rw [Heap.size_push]
  exact hq
theorem x_tcall {K : Frag} {fI : Addr} (KX : K.In h) (X : XCls K C bm) (hI : findIn K (.ref C) "__init__" = some (some (.ref fI))) (hf : typeIn K (.ref fI) = some (.type "function")) {rest : List Value} {Q : PySem.Fin → Shared → Prop} (hl : rest.length ≤ sizeLine)
    (hq : wpAny (model prog w) A (call (.ref fI) (.ref (h.objs.size + 1) :: rest)) (fun r s' => r = .none ∧ Q (.done (.ret (.ref (h.objs.size + 1)))) s') E ⟨((h.push { cls := .type "tuple", data := .seq rest.toArray }).push { cls := .ref C, data := .fields #[.ref h.objs.size, .none, .none, .none, .bool false, .none] }), g, d, t, os⟩) :
    wpAny (model prog w) A (Builtin.«type.__call__» ⟨.ref C :: rest, []⟩) Q E ⟨h, g, d, t, os⟩ := by
  obtain ⟨nm, q, N, bs, sn, sub, ab, col, dd, k0, k1, k2, k3, k5, hC'⟩ := X.obj
  have hC := KX _ _ hC'
  have F := PySem.F.excBase_ValueError
  repeat (first | with_reducible refine wpAny_loadPart_at hC ?_ | with_reducible refine wpAny_madeBy_exc hC ?_ | wp_step)
  refine codeAny_call_builtin_code (Code.quiet_builtin _ F.quiet) (x_check X.hasV hC ?_)
  refine x_new X.hasV X.noA X.noN hC ?_ hl
  show wpAny _ _ _ _ _ _
  have kp : ∀ b o, h.get? b = some o → ((h.push { cls := .type "tuple", data := .seq rest.toArray }).push { cls := .ref C, data := .fields #[.ref h.objs.size, .none, .none, .none, .bool false, .none] }).get? b = some o := fun b o e => Heap.get?_push_of_some _ (Heap.get?_push_of_some _ e)
  have hC2 := kp _ _ hC
  have KX2 : K.In ((h.push { cls := .type "tuple", data := .seq rest.toArray }).push { cls := .ref C, data := .fields #[.ref h.objs.size, .none, .none, .none, .bool false, .none] }) := KX.keeps kp
  have hget : ((h.push { cls := .type "tuple", data := .seq rest.toArray }).push { cls := .ref C, data := .fields #[.ref h.objs.size, .none, .none, .none, .bool false, .none] }).get? (h.objs.size + 1) = some { cls := .ref C, data := .fields #[.ref h.objs.size, .none, .none, .none, .bool false, .none] } := by heap_get
  have cC : (Value.ref C :: bm).contains (.ref C) = true := by simp
  unfold isInstance
  repeat (first | with_reducible refine wpAny_loadPart_at hget ?_ | (with_reducible refine wpAny_isSubtype_exc hC2 ?_; rw [cC]) | wp_step)
  show wpAny _ _ (typeLookup (.ref C) _) _ _ _
  refine (looks_findIn KX2 hI).here ?_
  refine wpAny_holding (wpAny_bind ((bind_fn KX2 _ hf).here ?_))
  refine wpAny_bind (wpAny_mono hq (fun r s' hr => ?_) fun _ _ x => x)
  obtain ⟨rfl, hQ⟩ := hr
  wp_walk
  exact hQ
theorem x_call {K : Frag} {fI : Addr} (KX : K.In h) (X : XCls K C bm) (hI : findIn K (.ref C) "__init__" = some (some (.ref fI))) (hf : typeIn K (.ref fI) = some (.type "function")) {rest : List Value} {Q : Value → Shared → Prop} (hl : rest.length ≤ sizeLine)
    (hq : wpAny (model prog w) (A.under (.builtin "type.__call__" ⟨.ref C :: rest, []⟩)) (call (.ref fI) (.ref (h.objs.size + 1) :: rest)) (fun r s' => r = .none ∧ Q (.ref (h.objs.size + 1)) s') E ⟨((h.push { cls := .type "tuple", data := .seq rest.toArray }).push { cls := .ref C, data := .fields #[.ref h.objs.size, .none, .none, .none, .bool false, .none] }), g, d, t, os⟩) :
    wpAny (model prog w) A (call (.ref C) rest) Q E ⟨h, g, d, t, os⟩ := by
  obtain ⟨nm, q, N, bs, sn, sub, ab, col, dd, k0, k1, k2, k3, k5, hC'⟩ := X.obj
  have hC := KX _ _ hC'
  have f1 := tc_lookup
  have f2 := tc_bind (.ref C)
  have hT : (⟨h, g, d, t, os⟩ : Shared).TypeIs (.ref C) "type" := ⟨_, hC, rfl⟩
  refine wpAny_call (codeAny_of_tree ?_)
  show wpAny _ _ (callAny (.ref C) _) _ _ _
  repeat (any_goals (first | assumption | with_reducible refine wpAny_loadPart_at hC ?_ | wp_step))
  refine ⟨rfl, ?_⟩
  exact codeAny_call_builtin_at (Code.quiet_builtin _ (by decide +kernel)) entry_typeCall (wpAny_check_type_call_sub hC (x_tcall KX X hI hf hl hq))
end
end L2
set_option Elab.async false
set_option linter.all false
set_option maxRecDepth 100000
set_option maxHeartbeats 4000000
namespace L2
open PySem PySem.W
section
variable {prog : Program} {w : World} {A : Around} {E : Value → Shared → Prop} {R : Result → Shared → Prop} {h : Heap} {g : Array GenState} {d : Drawn} {t : Nat} {os : OsState} {K : Frag} {C e : Addr} {bm : List Value} {o : Obj} {vs : Array Value}
theorem x_init (KX : K.In h) (X : XCls K C bm) (he : h.get? e = some o) (hc : o.cls = .ref C) (hd : o.data = .fields vs) {t0 : Addr} (h0 : vs[0]? = some (.ref t0)) {v : Value} {Q : Value → Shared → Prop}
    (hq : Q .none ⟨(h.push { cls := .type "tuple", data := .seq [v].toArray }).update e (Obj.mapFields (·.setIfInBounds 0 (.ref h.objs.size))), g, d, t, os⟩) :
    wpAny (model prog w) A (call (.builtin "ValueError.__init__") [.ref e, v]) Q E ⟨h, g, d, t, os⟩ := by
  obtain ⟨nm, q, N, bs, sn, sub, ab, col, dd, k0, k1, k2, k3, k5, hC'⟩ := X.obj
  have hC := KX _ _ hC'
  have F := PySem.F.excBase_ValueError
  have c1 : (Value.ref C :: bm).contains (.type "ValueError") = true := by rw [List.contains_cons, X.hasV, Bool.or_true]
  have hs := F.noStar
  have ck : ∀ Q' : Unit → Shared → Prop, Q' () ⟨h, g, d, t, os⟩ → ∀ A' E', wpAny (model prog w) A' (checkBuiltinCall "ValueError.__init__" ⟨[.ref e, v], []⟩) Q' E' ⟨h, g, d, t, os⟩ := by
    intro Q' hq' A' E'
    simp only [checkBuiltinCall, F.initKind, F.initSplit, F.initRow]
    repeat (first | (with_reducible refine wpAny_loadPart_at he ?_; rw [hc]) | with_reducible refine wpAny_loadPart_at hC ?_ | (with_reducible refine wpAny_isSubtype_exc hC ?_; rw [c1]) | wp_step)
    exact hq'
  refine wpAny_call (codeAny_call_builtin F.init.plain F.initEntry (ck _ ?_ _ _))
  unfold Builtin.«BaseException.__init__»
  dsimp only
  rw [if_neg (by simp)]
  unfold newTuple Builtin.BaseException.bexcPut
  have hz : 0 < vs.size := (Array.getElem?_eq_some_iff.mp h0).1
  have he1 := Heap.get?_push_of_some (h := h) { cls := .type "tuple", data := .seq [v].toArray } he
  refine wpAny_bind (wpAny_newObj_type (wpAny_bind (wpAny_bind (wpAny_field he1 hd h0 (wpAny_bind (wpAny_setField he1 hd hz ?_))))) (by show [v].toArray.size ≤ sizeLine; rw [List.size_toArray, sizeLine_eq]; simp))
  exact wpAny_letGo (wpAny_pure hq)
theorem x_raise {M : Model} {env : Env} {s : Shared} {x : Sem Value} {Q : Flow → Shared → Prop} (hh : A.handled = none)
    (hx : wpAny M A x (fun v s1 => ∃ e o vs C bm, v = .ref e ∧ XCls K C bm ∧ K.In s1.heap ∧ s1.heap.get? e = some o ∧ o.cls = .ref C ∧ o.data = .fields vs ∧ vs[1]? = some .none ∧ E (.ref e) s1) E s) :
    wpAny M A (raiseStmt env (some x) none) Q E s := by
  unfold raiseStmt
  refine wpAny_bind (wpAny_mono hx (fun v s1 h1 => ?_) fun _ _ x => x)
  obtain ⟨e, o, vs, C, bm, rfl, X, KX, he, hc, hd, h1, hE⟩ := h1
  obtain ⟨hp, g, d, tk, os⟩ := s1
  obtain ⟨nm, q, N, bs, sn, sub, ab, col, dd, k0, k1, k2, k3, k5, hC'⟩ := X.obj
  have hC := KX _ _ hC'
  have cB : (Value.ref C :: bm).contains (.type "BaseException") = true := by rw [List.contains_cons, X.hasB, Bool.or_true]
  obtain ⟨oc, od, odt, osl⟩ := o
  dsimp only at hc hd
  subst hc hd
  repeat (first | with_reducible refine wpAny_loadPart_at he ?_ | with_reducible refine wpAny_loadPart_at hC ?_ | (with_reducible refine wpAny_isSubtype_exc hC ?_; rw [cB]) | (with_reducible refine wpAny_field he rfl h1 ?_) | wp_step)
  exact wpAny_raiseNew_none hh hE
theorem x_get (KX : K.In h) (X : XCls K C bm) (ga : findIn K (.ref C) "__getattribute__" = some (some (.builtin "BaseException.__getattribute__"))) (gx : findIn K (.ref C) "__getattr__" = some none) {name : Str} (hn : findIn K (.ref C) name = some none)
    (he : h.get? e = some o) (hc : o.cls = .ref C) {dx : Addr} (hdx : o.dict = some dx) (hd : o.data = .fields vs) {mA : Str → Option Value} (hm : h.Ns1 dx mA) {v : Value} (hv : mA name = some v) (hh : handedIn v = true) {expr : Bool} {Q : Value → Shared → Prop} (hq : Q v ⟨h, g, d, t + 1, os⟩) :
    wpAny (model prog w) A (getAttr (.ref e) name expr) Q E ⟨h, g, d, t, os⟩ := by
  obtain ⟨nm, q, N, bs, sn, sub, ab, col, dd, k0, k1, k2, k3, k5, hC'⟩ := X.obj
  have hC := KX _ _ hC'
  have cB : (Value.ref C :: bm).contains (.type "BaseException") = true := by rw [List.contains_cons, X.hasB, Bool.or_true]
  have FB := PySem.F.excAttr_ValueError
  obtain ⟨oc, od, odt, osl⟩ := o
  dsimp only at hc hd hdx
  subst hc hd hdx
  have f3 := FB.ga.bind (.ref e)
  have hx0 : (expr && onTheHeap (Value.builtin "BaseException.__getattribute__")) = false := by cases expr <;> rfl
  have hx2 : (Value.builtin "BaseException.__getattribute__" == Value.builtin "object.__getattribute__") = false := by decide +kernel
  have hx1 : (onTheHeap (Value.ref C) && Value.builtin "BaseException.__getattribute__" == Value.builtin "object.__getattribute__") = false := by rw [hx2]; rfl
  unfold getAttr getAttrBy
  repeat (any_goals (first | assumption | with_reducible refine wpAny_loadPart_at he ?_ | with_reducible refine (looks_findIn KX ga).here ?_ | with_reducible refine (looks_findIn KX gx).here ?_ | wp_step))
  have hk : builtinKind "BaseException.__getattribute__" = some .slot := by decide +kernel
  have hsp : splitId "BaseException.__getattribute__" = some ("BaseException", "__getattribute__") := by decide +kernel
  have hargs := PySem.F.args_bexc_ga (.ref e) (.str name t)
  have ck : ∀ (Q' : Unit → Shared → Prop) (u : Nat), Q' () ⟨h, g, d, u, os⟩ → ∀ A' E', wpAny (model prog w) A' (checkBuiltinCall "BaseException.__getattribute__" ⟨[.ref e, .str name t], []⟩) Q' E' ⟨h, g, d, u, os⟩ := by
    intro Q' u hq' A' E'
    simp only [checkBuiltinCall, hk, hsp]
    refine wpAny_bind ?_
    unfold isInstance
    repeat (first | with_reducible refine wpAny_loadPart_at he ?_ | (with_reducible refine wpAny_isSubtype_exc hC ?_; rw [cB]) | wp_step)
    exact hq'
  refine codeAny_call_builtin FB.ga.plain PySem.F.entry_bexc_ga (ck _ _ ?_ _ _)
  obtain ⟨od, hod, hl⟩ := lookIn_ns hm
  have J : InstAt h e ⟨.ref C, some dx, .fields vs, osl⟩ C (some od) := ⟨he, rfl, rfl, hod⟩
  have hdI : hasDictIn K C = true := by unfold hasDictIn clsIn; rw [show List.lookup C K = _ from hC']; rfl
  have L0 := J.type (M := model prog w)
  have L1 := looks_find (M := model prog w) KX J (findObj_own hdI hn rfl (by rw [hl, hv]))
  unfold Builtin.«object.__getattribute__»
  refine wpAny_bind (wpAny_of_eq (a := (Value.ref e, [Value.str name t])) rfl ?_)
  refine wpAny_bind (wpAny_pure (wpAny_bind (L0.at (wpAny_bind (L1.at ?_)))))
  refine wpAny_pure ?_
  show wpAny _ _ (handedOut v) _ _ _
  rw [handedOut_of hh]
  exact wpAny_pure hq
theorem x_refuse (self : Value) (what : Str) : ∀ l : List Value, (∀ v ∈ l, ∃ a, v = Value.ref a) → ∀ r, refuseLoop self what (l ++ r) = refuseLoop self what r
  | [], _, _ => rfl
  | v :: l, h, r => by
    obtain ⟨a, rfl⟩ := h v List.mem_cons_self
    rw [List.cons_append, refuseLoop_ref, x_refuse self what l (fun v hv => h v (List.mem_cons_of_mem _ hv)) r]
def XUp (bm : List Value) : Prop := ∃ l : List Value, (∀ v ∈ l, ∃ a, v = Value.ref a) ∧ bm = l ++ [.type "ValueError", .type "Exception", .type "BaseException", .type "object"]
theorem x_set (KX : K.In h) (X : XCls K C bm) (U : XUp bm) (sa : findIn K (.ref C) "__setattr__" = some (some (.builtin "object.__setattr__"))) {name : Str} (hn : findIn K (.ref C) name = some none)
    (he : h.get? e = some o) (hc : o.cls = .ref C) (hd : o.data = .fields vs) {mA : Str → Option Value} {ns : List Str} (hw : PySem.Within mA ns) (hz : ns.length ≤ 1000) (hm : (o.dict = none ∧ ∀ n, mA n = none) ∨ ∃ dx, o.dict = some dx ∧ dx ≠ e ∧ h.Ns1 dx mA) {v : Value} {Q : Unit → Shared → Prop}
    (hq : ∀ h' dx tk, (o.dict = some dx ∨ (o.dict = none ∧ h.objs.size ≤ dx)) → h'.get? e = some { o with dict := some dx } → dx ≠ e → h'.Ns1 dx (fun y => if y = name then some v else mA y) → (∀ b u, b ≠ e → b ≠ dx → h.get? b = some u → h'.get? b = some u) → Q () ⟨h', g, d, tk, os⟩) :
    wpAny (model prog w) A (setAttr (.ref e) name v) Q E ⟨h, g, d, t, os⟩ := by
  obtain ⟨nm, q, N, bs, sn, sub, ab, col, dd, k0, k1, k2, k3, k5, hC'⟩ := X.obj
  have hC := KX _ _ hC'
  obtain ⟨l, hl, hbm⟩ := U
  have SF := PySem.F.store_ValueError
  have hpass : refuseLoop (.ref e) "__setattr__" (.ref C :: bm) = pure () := by
    rw [refuseLoop_ref, hbm, x_refuse _ _ l hl]
    exact SF.passes (.ref e)
  have cO : (Value.ref C :: bm).contains (.type "object") = true := by rw [List.contains_cons, hbm]; simp
  obtain ⟨oc, od, odt, osl⟩ := o
  dsimp only at hc hd
  subst hc hd
  have f3 := SF.slot.bind (.ref e)
  have ck : ∀ (Q' : Unit → Shared → Prop) (u : Nat) (nv : Value), Q' () ⟨h, g, d, u, os⟩ → ∀ A' E', wpAny (model prog w) A' (checkBuiltinCall "object.__setattr__" ⟨[.ref e, nv, v], []⟩) Q' E' ⟨h, g, d, u, os⟩ := by
    intro Q' u nv hq' A' E'
    have ha := SF.args (.ref e) nv v
    simp only [checkBuiltinCall, SF.kind, SF.split]
    refine wpAny_bind ?_
    unfold isInstance
    repeat (first | with_reducible refine wpAny_loadPart_at he ?_ | (with_reducible refine wpAny_isSubtype_exc hC ?_; rw [cO]) | wp_step)
    exact hq'
  unfold setAttr callSpecial? specialOf
  repeat (any_goals (first | assumption | with_reducible refine wpAny_loadPart_at he ?_ | with_reducible refine (looks_findIn KX sa).here ?_ | wp_step))
  refine codeAny_call_builtin SF.slot.plain SF.entry (ck _ _ _ ?_ _ _)
  unfold Builtin.«object.__setattr__»
  repeat (first | rw [refuse_eq] | rw [hpass] | with_reducible refine wpAny_loadPart_at he ?_ | with_reducible refine wpAny_mroOf_exc hC ?_ | with_reducible refine (looks_findIn KX hn).here ?_ | wp_step)
  rcases hm with ⟨hdn, hmA⟩ | ⟨dx, hdx, hne, hns⟩
  · dsimp only at hdn
    subst hdn
    dsimp only
    rw [if_neg (by simp [typeHasDict])]
    have he1 : (h.push { cls := .type "dict", data := .dict #[] }).get? e = some ⟨.ref C, none, .fields vs, osl⟩ := Heap.get?_push_of_some _ he
    have nes : e ≠ h.objs.size := Nat.ne_of_lt (Heap.lt_size he)
    refine wpAny_bind (wpAny_alloc' ?_)
    refine wpAny_bind (wpAny_update' he1 ?_)
    refine wpAny_pure ?_
    have gd := (Heap.get?_update_ne (h.push { cls := .type "dict", data := .dict #[] }) h.objs.size e (fun o => { cls := o.cls, dict := some h.objs.size, data := o.data, slots := o.slots }) nes.symm).trans (Heap.get?_push_at rfl rfl)
    have nd : ((h.push { cls := .type "dict", data := .dict #[] }).update e fun o => { cls := o.cls, dict := some h.objs.size, data := o.data, slots := o.slots }).Ns h.objs.size (fun _ => none) := ⟨_, #[], _, gd, rfl, fun _ z => absurd z (by simp), fun _ => rfl⟩
    show wpAny _ _ (Builtin.ObjectAttr.storeInDict h.objs.size (.str name _) name v) _ _ _
    unfold Builtin.ObjectAttr.storeInDict Builtin.ObjectAttr.newKeyGuard
    refine wpAny_bind (wpAny_pure (wpAny_bind (wpAny_nsSet1 (Heap.Ns1.of_empty nd) fun h' hn' hs => ?_)))
    obtain ⟨oD, esD, epD, hoD, hdD, hcD⟩ := hn'.count (PySem.Within.cons name v PySem.Within.nil)
    refine wpAny_bind (wpAny_lookBehind hoD (by rw [hdD]; exact pastItsLine_dict (Nat.le_trans hcD (by rw [List.length_cons, List.length_nil, sizeLine_eq]; omega))) ?_)
    wp_walk
    have ge' : h'.get? e = some ⟨.ref C, some h.objs.size, .fields vs, osl⟩ := (hs.2 e nes).trans (Heap.get?_update_self _ he1 rfl)
    refine hq h' h.objs.size _ (.inr ⟨rfl, Nat.le_refl _⟩) ge' nes.symm ?_ (fun b u hb hbd hu => ?_)
    · obtain ⟨o', es, ep, e1, e2, e3, eu, e4⟩ := hn'
      exact ⟨o', es, ep, e1, e2, e3, eu, fun y => by rw [e4 y]; by_cases hy : y = name <;> simp [hy, hmA]⟩
    · exact (hs.2 b hbd).trans ((Heap.get?_update_ne _ _ _ _ hb).trans (Heap.get?_push_of_some _ hu))
  · dsimp only at hdx
    subst hdx
    dsimp only
    refine wpAny_pure ?_
    show wpAny _ _ (Builtin.ObjectAttr.storeInDict dx (.str name _) name v) _ _ _
    unfold Builtin.ObjectAttr.storeInDict Builtin.ObjectAttr.newKeyGuard
    refine wpAny_bind (wpAny_pure (wpAny_bind (wpAny_nsSet1 hns fun h' hn' hs => ?_)))
    obtain ⟨oD, esD, epD, hoD, hdD, hcD⟩ := hn'.count (PySem.Within.cons name v hw)
    refine wpAny_bind (wpAny_lookBehind hoD (by rw [hdD]; exact pastItsLine_dict (Nat.le_trans hcD (by rw [List.length_cons, sizeLine_eq]; omega))) ?_)
    wp_walk
    exact hq h' dx _ (.inl rfl) ((hs.2 e hne.symm).trans he) hne hn' (fun b u hb hbd hu => (hs.2 b hbd).trans hu)
theorem x_match (KX : K.In h) (X : XCls K C bm) (he : h.get? e = some o) (hc : o.cls = .ref C) {C' : Addr} {bm' : List Value} (X' : XCls K C' bm') {Q : Bool → Shared → Prop} (hq : Q ((Value.ref C :: bm).contains (.ref C')) ⟨h, g, d, t, os⟩) :
    wpAny (model prog w) A (excMatches (.ref e) (.ref C')) Q E ⟨h, g, d, t, os⟩ := by
  obtain ⟨nm, q, N, bs, sn, sub, ab, col, dd, k0, k1, k2, k3, k5, hC'⟩ := X.obj
  have hC := KX _ _ hC'
  obtain ⟨nm', q', N', bs', sn', sub', ab', col', dd', l0, l1, l2, l3, l5, hD'⟩ := X'.obj
  have hD := KX _ _ hD'
  have cB : (Value.ref C' :: bm').contains (.type "BaseException") = true := by rw [List.contains_cons, X'.hasB, Bool.or_true]
  have f := tc_notTuple
  generalize hb : (Value.ref C :: bm).contains (.ref C') = b at hq
  unfold excMatches
  repeat (first | (with_reducible refine wpAny_loadPart_at he ?_; rw [hc]) | with_reducible refine wpAny_loadPart_at hD ?_ | (with_reducible refine wpAny_isSubtype_exc hD ?_; rw [cB]) | (with_reducible refine wpAny_isSubtype_exc hC ?_; rw [hb]) | wp_step)
  cases b <;> (wp_walk; exact hq)
end
end L2
set_option Elab.async false
set_option linter.all false
set_option maxRecDepth 100000
set_option maxHeartbeats 4000000
namespace L2
open PySem PySem.Spec PyProof.Rows PySem.W
def XFp (e C : Addr) (dx : Option Addr) (fr : Bool) (h : Heap) : Prop := ∃ o vs t0 x, h.get? e = some o ∧ o.cls = .ref C ∧ o.dict = dx ∧ o.data = .fields vs ∧ vs[0]? = some (Value.ref t0) ∧ vs[1]? = some x ∧ (fr = true → x = .none)
def XF (e C : Addr) (dx : Option Addr) (fr : Bool) : HO := .ext (XFp e C dx fr)
theorem XFp.on {e C : Addr} {dx : Option Addr} {fr : Bool} {h h' : Heap} (x : XFp e C dx fr h) (k : ∀ o, h.get? e = some o → h'.get? e = some o) : XFp e C dx fr h' := by
  obtain ⟨o, vs, t0, y, a, b⟩ := x
  exact ⟨o, vs, t0, y, k o a, b⟩
theorem xf_ok {P : Program} {w : World} {H : Hp} {h : Heap} {e C : Addr} {dx : Option Addr} {fr : Bool} (x : XFp e C dx fr h) : ObjOk P w H h e (XF e C dx fr) := ⟨x, let ⟨o, _, _, _, a, _⟩ := x; ⟨o, a⟩, fun _ _ z k => z.on k⟩
theorem xf_of {P : Program} {w : World} {H : Hp} {h : Heap} {e C : Addr} {dx : Option Addr} {fr : Bool} (ok : HOk P w H h) (a : H e = some (XF e C dx fr)) : XFp e C dx fr h := (ok e _ a).1
theorem upd_self {H : Hp} {a : Addr} {o : HO} (h : H a = some o) : upd H a o = H := by
  funext b
  by_cases e : b = a
  · subst e; rw [upd_same, h]
  · rw [upd_ne e]
def TbOf (s : Shared) (ea : Addr) (H' : Hp) (h : Heap) : Prop := ∃ o vs T, h.get? ea = some o ∧ o.data = .fields vs ∧ vs[1]? = some (Value.ref T) ∧ T ≠ ea ∧ s.heap.objs.size ≤ T ∧ H' T = none ∧ TbIs h T
def CXo (P : Program) (w : World) : CXT := fun outer H s E e s' => ∃ ea C dx H', e = .ref ea ∧ H' ea = some (XF ea C dx false) ∧ s'.os = s.os ∧ AllBare s'.gens ∧ Un (frs outer) [] H H' s.heap s'.heap ∧ HOk P w H' s'.heap ∧ TbOf s ea H' s'.heap ∧ E (.ref C) (some ea) H'
section
variable {X : Cx} {pins : List (Addr × Obj)} {σ : St} {H : Hp} {s : Shared}
def TOk (X : Cx) (pins : List (Addr × Obj)) (H : Hp) (T : Addr) : Prop := X.s₀.heap.objs.size ≤ T ∧ T ≠ X.env.locals ∧ (∀ x c, X.env.cells.lookup x = some c → c ≠ T) ∧ (∀ p ∈ X.pn ++ pins, p.1 ≠ T) ∧ H T = none
theorem inv_left {h' : Heap} {ea C : Addr} {dx : Option Addr} {fr : Bool} {o : Obj} {ok : Addr → Prop} {ch : List Addr} (I : Inv X pins σ H s) (hx : H ea = some (XF ea C dx fr)) (ge : s.heap.get? ea = some o) (l : Left (frs X.stack) ea o ok s.heap h') (hok : ∀ T, ok T → T ∈ ch) (hch : ∀ T ∈ ch, TOk X pins H T) (hnew : fr = false) :
    Inv X pins σ H { s with heap := h' } := by
  subst hnew
  have ntr : ∀ b u, H b = some u → ¬ ok b := fun b u e z => by rw [(hch b (hok b z)).2.2.2.2] at e; cases e
  have nfr : ∀ b u, H b = some u → b ∉ frs X.stack := fun b u e z => by rw [I.stkFree b z] at e; cases e
  have hk : HOk X.prog X.w H h' := fun a u e => by
    by_cases ha : a = ea
    · subst ha
      rw [hx] at e
      cases e
      obtain ⟨o', vs, t0, y, a1, a2, a3, a4, a5, a6, _⟩ := xf_of I.hok hx
      rw [ge] at a1
      cases a1
      obtain ⟨T, _, _, gT⟩ := l.tb
      refine xf_ok ⟨_, _, t0, .ref T, gT, ?_, ?_, mf_data _ a4, ?_, ?_, fun z => by cases z⟩
      · rw [Obj.cls_mapFields]; exact a2
      · rw [mf_dict]; exact a3
      · rw [Array.getElem?_setIfInBounds_ne (by decide)]; exact a5
      · have := (Array.getElem?_eq_some_iff.mp a6).1
        simp [this]
    · refine (I.hok a u e).stay (fun b v hb q => ?_) (fun _ q => q) fun _ _ q => q
      rcases hb with rfl | hb
      · exact l.keep b v ha (ntr b u e) (nfr b u e) q
      · refine l.keep b v (fun z => ?_) (ntr b _ hb) (nfr b _ hb) q
        rw [z, hx] at hb
        cases hb
  refine I.step (g' := s.gens) (d' := s.drawn) (t' := s.toks) (ch := ch) (fun b hb => ⟨.inr (hch b hb).1, (hch b hb).2.1, (hch b hb).2.2.1, (hch b hb).2.2.2.1⟩) (fun b u hL hf hc e n => ?_) (fun b u hL hf hc e n => ?_) (fun _ _ _ _ n => n) (fun b u hc e => l.there b u e) (fun _ _ e => e) (fun _ _ _ e => e) (fun b ps e => ⟨#[], by rw [e]; simp⟩) (fun m hm => ?_) hk I.bare
  · refine l.keep b u (fun z => by rw [z, hx] at n; cases n) (fun z => hc (hok b z)) (fun z => ?_) e
    rcases List.mem_cons.mp (I.stkSub b z) with z | z
    · exact hL z
    · exact hf z
  · exact l.slot b u (fun z => by rw [z, hx] at n; cases n) (fun z => hc (hok b z)) e
  · obtain ⟨u, es, ep, e, r⟩ := hm
    obtain ⟨sl, e2⟩ := l.slot _ u (fun z => by have := I.free; rw [z, hx] at this; cases this) (fun z => (hch _ (hok _ z)).2.1 rfl) e
    exact ⟨_, es, ep, e2, r⟩
theorem tok_new {T : Addr} (I : Inv X pins σ H s) (h : s.heap.objs.size ≤ T) {H' : Hp} (hn : H' T = none) : TOk X pins H' T := by
  refine ⟨Nat.le_trans I.sz h, fun z => ?_, fun x c e z => ?_, fun p hp z => ?_, hn⟩
  · rw [z] at h; exact absurd I.lt (Nat.not_lt.mpr h)
  · obtain ⟨v, o, ho, _⟩ := I.cell x c e
    rw [z] at ho
    exact absurd (Heap.lt_size ho) (Nat.not_lt.mpr h)
  · obtain ⟨hp1, _⟩ := I.pin p hp
    rw [z] at hp1
    exact absurd (Heap.lt_size hp1) (Nat.not_lt.mpr h)
theorem tb_left {ea : Addr} {o : Obj} {vs : Array Value} {ok : Addr → Prop} {fs : List Addr} {h' : Heap} (I : Inv X pins σ H s) (ge : s.heap.get? ea = some o) (gd : o.data = .fields vs) (g1 : 1 < vs.size) (l : Left fs ea o ok s.heap h') : TbOf s ea H h' := by
  obtain ⟨T, h1, h2, h3⟩ := l.tb
  exact ⟨_, _, T, h3, mf_data _ gd, by simp [g1], fun z => absurd (Heap.lt_size ge) (by rw [← z]; exact Nat.not_lt.mpr h1), h1, I.hok.fresh h1, h2⟩
end
section
variable {P : Program} {w : World} {K : Frag} {mg : Str → Option Value} {base : Heap} {N : List Str} {qual : Str} {scope : Scope} {f : Addr} {cd : Value} {A : Around} {outer : List Env} {s : Shared} {H : Hp} {E : XK}
theorem xe_of {pins : List (Addr × Obj)} {σ : St} {H' : Hp} {s2 : Shared} {ea C : Addr} {dx : Option Addr} (I : Inv (cxOf (CXo P w) P w K mg base N qual scope f cd A outer s H E) pins σ H' s2) (hx : H' ea = some (XF ea C dx false))
    (tb : ∀ vs o, s2.heap.get? ea = some o → o.data = .fields vs → vs[1]? = some .none ∨ ∃ T, vs[1]? = some (.ref T) ∧ T ≠ ea ∧ TOk (cxOf (CXo P w) P w K mg base N qual scope f cd A outer s H E) pins H' T ∧ TbIs s2.heap T) (hE : E (.ref C) (some ea) H') :
    (cxOf (CXo P w) P w K mg base N qual scope f cd A outer s H E).xe (.ref ea) s2 := by
  obtain ⟨o, vs, t0, y, a1, a2, a3, a4, a5, a6, _⟩ := xf_of I.hok hx
  have g1 := (Array.getElem?_eq_some_iff.mp a6).1
  show wpAny _ _ (leaving _ (.ref ea)) _ _ s2
  have fin : ∀ (ok : Addr → Prop) (ch : List Addr) (h' : Heap), (∀ T, ok T → T ∈ ch) → (∀ T ∈ ch, TOk (cxOf (CXo P w) P w K mg base N qual scope f cd A outer s H E) pins H' T) → Left (frs (cxOf (CXo P w) P w K mg base N qual scope f cd A outer s H E).stack) ea o ok s2.heap h' → CXo P w outer H s E (.ref ea) { s2 with heap := h' } := fun ok ch h' hok hch l => by
    have I2 := inv_left I hx a1 l hok hch rfl
    refine ⟨ea, C, dx, H', rfl, hx, I2.os, I2.bare, I2.base, I2.hok, ?_, hE⟩
    obtain ⟨o2, vs2, T, b1, b2, b3, b4, b5, b6, b7⟩ := tb_left I a1 a4 g1 l
    exact ⟨o2, vs2, T, b1, b2, b3, b4, Nat.le_trans I.sz b5, b6, b7⟩
  refine wpAny_bind ?_
  rcases tb vs o a1 a4 with z | ⟨T, z1, z2, z3, z4⟩
  · exact leave_any (ok := fun _ => False) I.ok.frames I.stack rfl a1 a4 (.inl z) fun h' l => fin _ [] h' (fun _ z => z.elim) (fun _ z => absurd z List.not_mem_nil) l
  · exact leave_any (ok := fun b => b = T) I.ok.frames I.stack rfl a1 a4 (.inr ⟨T, z1, z2, rfl, z4⟩) fun h' l => fin _ [T] h' (fun _ z => List.mem_singleton.mpr z) (fun b z => by rw [List.mem_singleton.mp z]; exact z3) l
theorem passX : Passes (CXo P w) (cxOf (CXo P w) P w K mg base N qual scope f cd A outer s H E) E := by
  intro pins σ H1 s1 e s2 I h
  obtain ⟨ea, C, dx, H', rfl, hx, os, bare, un, hok, tb, hE⟩ := h
  have I2 := I.call' (ch := []) os un hok bare (fun _ z => absurd z List.not_mem_nil)
  obtain ⟨o, vs, T, b1, b2, b3, b4, b5, b6, b7⟩ := tb
  refine xe_of I2 hx (fun vs' o' c1 c2 => .inr ⟨T, ?_, b4, ?_, b7⟩) hE
  · rw [b1] at c1; cases c1
    rw [b2] at c2; cases c2
    exact b3
  · exact tok_new I b5 b6
end
end L2
set_option Elab.async false
set_option linter.all false
set_option maxRecDepth 100000
set_option maxHeartbeats 4000000
namespace L2
open PySem PySem.Spec PyProof.Rows PySem.W
section
variable {X : Cx} {pins : List (Addr × Obj)} {σ : St} {H : Hp} {s : Shared} {pos apos np : Pos} {a b o e value : Expr} {es : List Expr} {t : TA} {te ta tv : TE} {f x : Str}
theorem boot_ValueError : bootBuiltins "ValueError" = some (.type "ValueError") := by rfl
def tBInit (K : Frag) (t : TA) : TE := fun σ H Q => t σ H fun vs H2 => ∃ e C dx fr bm y, vs = [.ref e, y] ∧ H2 e = some (XF e C dx fr) ∧ XCls K C bm ∧ Q .non H2
theorem pe_binit {pl : Sem Bool} (hg : Gl X "ValueError") (hm : X.mg "ValueError" = none) (ha : PA X [a, b] t) (hst : starEach [a, b] X.env = (false, eval a X.env) :: starEach [b] X.env := by rfl) (hpl : (backTo pos (starEach [b] X.env)).any (·.1) = false := by rfl)
    (ht : eval (.Call (.Attribute (.Name "ValueError" np) "__init__" apos) [a, b] [] pos) X.env = (do
      let ov ← eval (.Name "ValueError" np) X.env
      standAt apos.atName
      let (f, first) ← holding [ov] (getMethod ov "__init__" pl)
      callWith pos f first (backTo pos (starEach [a, b] X.env)) (backToKw pos (keywordEach [] X.env))) := by rfl) :
    PE X (.Call (.Attribute (.Name "ValueError" np) "__init__" apos) [a, b] [] pos) (tBInit X.K t) := by
  intro pins s σ H Q I h
  refine PySem.W.methodCall_KW (pl := pl) (thn ((pe_bty (X := X) (pos := np) hg hm boot_ValueError) pins s σ H (fun v H1 => v = .ty "ValueError" ∧ H1 = H) I ⟨rfl, rfl⟩) fun u s1 ⟨y, H1, I1, ry, e1, e2⟩ => ?_) ht
  subst e1 e2
  obtain rfl : u = Value.type "ValueError" := ry
  obtain ⟨m, F⟩ := I1.fr
  refine method_type F I1.ok.mod.kin (by kernel_rfl) (by decide +kernel) (v := .builtin "ValueError.__init__") (by kernel_rfl) (by decide +kernel) ?_
  have I2 := I1.tok (s1.toks + 1)
  refine callWith_builtin1 (thn (ha pos pins _ σ H1 _ I2 h) fun us s2 ⟨vs, H2, I3, r, q⟩ => ?_) hst hpl
  obtain ⟨ea, C, dx, fr, bm, y, rfl, hx, Xc, q⟩ := q
  obtain ⟨u1, us1, rfl, r1, r2⟩ : ∃ u1 us1, us = u1 :: us1 ∧ RelV (.ref ea) u1 ∧ Vals [y] us1 := by cases r with | cons p q => exact ⟨_, _, rfl, p, q⟩
  obtain ⟨u2, rfl, r3⟩ := r2.one
  obtain rfl : u1 = Value.ref ea := r1
  obtain ⟨ob, ws, t0, z, a1, a2, a3, a4, a5, a6, a7⟩ := xf_of I3.hok hx
  obtain ⟨hp, g, d, tk, os⟩ := s2
  refine x_init I3.kIn Xc a1 a2 a4 a5 ?_
  refine ⟨.non, H2, ?_, rfl, q⟩
  have k1 : ∀ b u, b ≠ ea → hp.get? b = some u → ((hp.push { cls := .type "tuple", data := .seq [u2].toArray }).update ea (Obj.mapFields (·.setIfInBounds 0 (.ref hp.objs.size)))).get? b = some u := fun b u hb hu => by
    rw [Heap.get?_update_other _ _ (Ne.symm hb)]
    exact Heap.get?_push_of_some _ hu
  have k2 := Heap.get?_update_self (Obj.mapFields (·.setIfInBounds 0 (.ref hp.objs.size))) (Heap.get?_push_of_some { cls := .type "tuple", data := .seq [u2].toArray } a1) (Obj.isFreed_of_fields (mf_data _ a4))
  have sz0 := (Array.getElem?_eq_some_iff.mp a5).1
  have := I3.write (t' := tk) (o := XF ea C dx fr) (x := ea) (e := ea) (by rw [hx]; exact True.intro) (.inl rfl) k1 ⟨_, k2⟩ (xf_ok ⟨_, _, hp.objs.size, z, k2, by rw [Obj.cls_mapFields]; exact a2, by rw [mf_dict]; exact a3, mf_data _ a4, by simp [sz0], by rw [Array.getElem?_setIfInBounds_ne (by decide)]; exact a6, a7⟩)
  rw [upd_self hx] at this
  exact this
structure XAttr (K : Frag) (C : Addr) : Prop where
  ga : findIn K (.ref C) "__getattribute__" = some (some (.builtin "BaseException.__getattribute__"))
  gx : findIn K (.ref C) "__getattr__" = some none
  sa : findIn K (.ref C) "__setattr__" = some (some (.builtin "object.__setattr__"))
def tXSet (K : Frag) (ta tv : TE) (f : Str) : TS := fun D σ H => tv σ H fun y H1 => ta σ H1 fun x H2 => ∃ e C bm fr, x = .ref e ∧ XCls K C bm ∧ XUp bm ∧ XAttr K C ∧ NoAttr K C f ∧
  ((H2 e = some (XF e C none fr) ∧ ∀ dx, H2 dx = none → dx ≠ e → D.nx σ (upd (upd H2 dx (.xd [(f, y)])) e (XF e C (some dx) fr))) ∨ (∃ dx fs, H2 e = some (XF e C (some dx) fr) ∧ H2 dx = some (.xd fs) ∧ fs.length ≤ 900 ∧ D.nx σ (upd H2 dx (.xd (putF f y fs)))))
theorem within_of {mA : Str → Option Value} {fs : List (Str × V)} (h : ∀ f, RelO (fs.lookup f) (mA f)) : PySem.Within mA (fs.map (·.1)) := fun y hy => by
  cases e : fs.lookup y with
  | none =>
    have := h y
    rw [e] at this
    exact absurd (RelO.none_of this) hy
  | some v =>
    have := List.mem_map_of_mem (f := (·.1)) (PySem.mem_of_lookup e)
    exact this
theorem ps_xset (ha : PE X o ta) (hv : PE X value tv) (hs : swapsWith value (some (.Attribute o f apos)) pos.line X.env = pure false := by rfl) : PS X (.Assign [.Attribute o f apos] value pos) (tXSet X.K ta tv f) := by
  intro pins s σ H D I h
  refine plainObj_wpAny_Assign_Attribute (thn (hv pins s σ H _ I h) fun u s1 ⟨y, H1, I1, ry, q⟩ => thn (ha pins s1 σ H1 _ I1 q) fun ov s2 ⟨x, H2, I2, rx, ea, C, bm, fr, ex, Xc, U, Xa, n, q2⟩ => ?_) hs
  subst ex
  obtain rfl : ov = Value.ref ea := rx
  obtain ⟨hp, g, d, tk, os⟩ := s2
  rcases q2 with ⟨hx, q3⟩ | ⟨dx, fs, hx, hd, hl, q3⟩
  · obtain ⟨ob, ws, t0, z, a1, a2, a3, a4, a5, a6, a7⟩ := xf_of I2.hok hx
    refine x_set (mA := fun _ => none) (ns := []) I2.kIn Xc U Xa.sa n a1 a2 a4 (fun y hy => absurd rfl hy) (by simp) (.inl ⟨a3, fun _ => rfl⟩) fun h' dx tk' hdx g1 g2 g3 g4 => ?_
    have hsz : hp.objs.size ≤ dx := by
      rcases hdx with z | z
      · rw [a3] at z; cases z
      · exact z.2
    refine ⟨σ, _, ?_, q3 dx (I2.hok.fresh hsz) g2⟩
    have gg : ∀ b u, b ≠ ea → hp.get? b = some u → h'.get? b = some u := fun b u hb hu => g4 b u hb (Nat.ne_of_lt (Nat.lt_of_lt_of_le (Heap.lt_size hu) hsz)) hu
    have hfree := I2.hok.fresh hsz
    have okd : ObjOk X.prog X.w (upd (upd H2 dx (.xd [(f, y)])) ea (XF ea C (some dx) fr)) h' dx (.xd [(f, y)]) := ⟨_, g3, fun k => by
      by_cases hk : k = f
      · subst hk
        simp only [List.lookup, beq_self_eq_true, if_true]
        exact ry
      · have hb : (k == f) = false := beq_eq_false_iff_ne.mpr hk
        simp only [List.lookup, hb, if_neg hk]
        exact trivial⟩
    have okh : HOk X.prog X.w (upd (upd H2 dx (.xd [(f, y)])) ea (XF ea C (some dx) fr)) h' := fun b v hb => by
      by_cases h1 : b = ea
      · subst h1
        rw [upd_same] at hb
        cases hb
        exact xf_ok ⟨_, ws, t0, z, g1, a2, rfl, a4, a5, a6, a7⟩
      · rw [upd_ne h1] at hb
        by_cases h2 : b = dx
        · subst h2
          rw [upd_same] at hb
          cases hb
          exact okd
        · rw [upd_ne h2] at hb
          have nd : ∀ c u, H2 c = some u → c ≠ dx := fun c u hc z => by rw [z, hfree] at hc; cases hc
          refine (I2.hok b v hb).stay (fun c w' hc qq => gg c w' ?_ qq) (fun c qq => ?_) fun c xs qq => ?_
          · rcases hc with rfl | hc
            · exact h1
            · exact fun zz => by rw [zz, hx] at hc; cases hc
          · rw [upd_ne (fun zz => by rw [zz, hx] at qq; cases qq), upd_ne (nd c _ qq)]; exact qq
          · rw [upd_ne (fun zz => by rw [zz, hx] at qq; cases qq), upd_ne (nd c _ qq)]; exact qq
    refine I2.un (t' := tk') ?_ okh
    refine ⟨fun b u e n hb hx' => gg b u (fun zz => by rw [zz, hx] at n; cases n) e, fun b u e n hb hx' => ⟨u.slots, gg b u (fun zz => by rw [zz, hx] at n; cases n) e⟩, fun b u e n hx' => ?_, fun b u e hx' => ?_, fun b xs e => ?_, fun b u xs e => ?_, fun b ps e => ⟨#[], ?_⟩⟩
    · rw [upd_ne (fun zz => by rw [zz, hx] at n; cases n), upd_ne (Nat.ne_of_lt (Nat.lt_of_lt_of_le (Heap.lt_size e) hsz))]; exact n
    · by_cases h1 : b = ea
      · subst h1; exact ⟨_, g1⟩
      · exact ⟨u, gg b u h1 e⟩
    · rw [upd_ne (fun zz => by rw [zz, hx] at e; cases e), upd_ne (fun zz => by rw [zz, hfree] at e; cases e)]; exact e
    · rw [upd_ne (fun zz => by rw [zz, hx] at e; cases e), upd_ne (fun zz => by rw [zz, hfree] at e; cases e)]; exact e
    · rw [upd_ne (fun zz => by rw [zz, hx] at e; cases e), upd_ne (fun zz => by rw [zz, hfree] at e; cases e), e]; simp
  · obtain ⟨ob, ws, t0, z, a1, a2, a3, a4, a5, a6, a7⟩ := xf_of I2.hok hx
    obtain ⟨mA, hm, hr⟩ := (show ObjOk X.prog X.w H2 hp dx (.xd fs) from I2.hok dx _ hd)
    have hne : dx ≠ ea := fun zz => by rw [zz, hx] at hd; cases hd
    refine x_set (mA := mA) (ns := fs.map (·.1)) I2.kIn Xc U Xa.sa n a1 a2 a4 (within_of hr) (by rw [List.length_map]; omega) (.inr ⟨dx, a3, hne, hm⟩) fun h' dx' tk' hdx g1 g2 g3 g4 => ?_
    obtain rfl : dx' = dx := by
      rcases hdx with z | z
      · rw [a3] at z; exact (Option.some.inj z).symm
      · rw [a3] at z; cases z.1
    refine ⟨σ, _, ?_, q3⟩
    have gg : ∀ b u, b ≠ dx' → hp.get? b = some u → h'.get? b = some u := fun b u hb hu => by
      by_cases h1 : b = ea
      · subst h1
        rw [a1] at hu
        cases hu
        rw [g1, ← a3]
      · exact g4 b u h1 hb hu
    have nw : ObjOk X.prog X.w (upd H2 dx' (.xd (putF f y fs))) h' dx' (.xd (putF f y fs)) := ⟨_, g3, fun k => by
      rw [lookup_putF]
      by_cases hk : k = f
      · rw [if_pos hk, if_pos hk]
        exact ry
      · rw [if_neg hk, if_neg hk]
        exact hr k⟩
    have okh : HOk X.prog X.w (upd H2 dx' (.xd (putF f y fs))) h' := fun b v hb => by
      by_cases h1 : b = dx'
      · subst h1
        rw [upd_same] at hb
        cases hb
        exact nw
      · rw [upd_ne h1] at hb
        refine (I2.hok b v hb).stay (fun c w' hc qq => gg c w' ?_ qq) (fun c qq => ?_) fun c xs qq => ?_
        · rcases hc with rfl | hc
          · exact h1
          · exact fun zz => by rw [zz, hd] at hc; cases hc
        · rw [upd_ne (fun zz => by rw [zz, hd] at qq; cases qq)]; exact qq
        · rw [upd_ne (fun zz => by rw [zz, hd] at qq; cases qq)]; exact qq
    refine I2.un (t' := tk') ?_ okh
    refine ⟨fun b u e n hb hx' => gg b u (fun zz => by rw [zz, hd] at n; cases n) e, fun b u e n hb hx' => ⟨u.slots, gg b u (fun zz => by rw [zz, hd] at n; cases n) e⟩, fun b u e n hx' => ?_, fun b u e hx' => ?_, fun b xs e => ?_, fun b u xs e => ?_, fun b ps e => ⟨#[], ?_⟩⟩
    · rw [upd_ne (fun zz => by rw [zz, hd] at n; cases n)]; exact n
    · by_cases h1 : b = dx'
      · subst h1
        exact let ⟨u, _, _, e, _⟩ := g3; ⟨u, e⟩
      · exact ⟨u, gg b u h1 e⟩
    · rw [upd_ne (fun zz => by rw [zz, hd] at e; cases e)]; exact e
    · rw [upd_ne (fun zz => by rw [zz, hd] at e; cases e)]; exact e
    · rw [upd_ne (fun zz => by rw [zz, hd] at e; cases e), e]; simp
def tXGet (K : Frag) (ta : TE) (f : Str) : TE := fun σ H Q => ta σ H fun x H1 => ∃ e C bm dx fs fr v, x = .ref e ∧ H1 e = some (XF e C (some dx) fr) ∧ XCls K C bm ∧ XAttr K C ∧ NoAttr K C f ∧ H1 dx = some (.xd fs) ∧ fs.lookup f = some v ∧ Q v H1
theorem pe_xget (he : PE X e ta) (hb : attributeBase e f X.env (eval e X.env) = eval e X.env := by rfl) : PE X (.Attribute e f pos) (tXGet X.K ta f) := by
  intro pins s σ H Q I h
  refine attr_of hb (thn (he pins s σ H _ I h) fun u s1 ⟨x, H1, I1, rx, ea, C, bm, dx, fs, fr, v, ex, hx, Xc, Xa, n, hd, l, q⟩ => ?_)
  subst ex
  obtain rfl : u = Value.ref ea := rx
  obtain ⟨hp, g, d, tk, os⟩ := s1
  obtain ⟨ob, ws, t0, z, a1, a2, a3, a4, a5, a6, a7⟩ := xf_of I1.hok hx
  obtain ⟨mA, hm, hr⟩ := (show ObjOk X.prog X.w H1 hp dx (.xd fs) from I1.hok dx _ hd)
  obtain ⟨u, hu, ru⟩ := RelO.some_of (v := v) (o := mA f) (by rw [← l]; exact hr f)
  exact x_get I1.kIn Xc Xa.ga Xa.gx n a1 a2 a3 a4 hm hu (handed_of ru) ⟨v, H1, I1.tok _, ru, q⟩
end
end L2
set_option Elab.async false
set_option linter.all false
set_option maxRecDepth 100000
set_option maxHeartbeats 4000000
namespace L2
open PySem PySem.Spec PyProof.Rows PySem.W
section
variable {X : Cx} {CX : CXT} {k : Nat} {f C : Addr} {fd : FuncData} {ps : List Str} {sp : Sp} {dvs : List V} {ds : List Value} {E : XK} {x m : Str} {p pos apos np : Pos} {e o : Expr} {es : List Expr} {ta te : TE} {t : TA} {bm : List Value}
structure XMk (K : Frag) (C : Addr) (bm : List Value) (f : Addr) : Prop where
  cls : XCls K C bm
  init : findIn K (.ref C) "__init__" = some (some (.ref f))
  fn : typeIn K (.ref f) = some (.type "function")
  kp : keepIn K (.ref C) = true
theorem run_exc {pins : List (Addr × Obj)} {σ : St} {H : Hp} {s : Shared} {Q : VK} {us : List Value} {vs : List V} (M : XMk X.K C bm f) (F : FnOk X.prog X.w X.K X.mg X.base CX k f fd ps sp) (hr : Room (k + 1) X.A) (hb : Binds X.K fd ps ds) (hd : Vals dvs ds)
    (hx : Passes CX X E) (I : Inv X pins σ H s) (r : Vals vs us) (hl0 : us.length ≤ 1000)
    (h : ∀ e, H e = none → sp (.ref e :: (vs ++ dvs)) (upd H e (XF e C none true)) (fun v H2 => v = .non ∧ Q (.ref e) H2) E) :
    wpAny (model X.prog X.w) X.A (call (.ref C) us) (EP X pins σ Q) X.xe s := by
  obtain ⟨hp, g, d, tk, os⟩ := s
  have hq := h (hp.objs.size + 1) (I.hok.fresh (Nat.le_succ _))
  have I2 : Inv X pins σ (upd H (hp.objs.size + 1) (XF (hp.objs.size + 1) C none true)) ⟨(hp.push { cls := .type "tuple", data := .seq us.toArray }).push { cls := .ref C, data := .fields #[.ref hp.objs.size, .none, .none, .none, .bool false, .none] }, g, d, tk, os⟩ := by
    refine I.laid (t' := tk) (fun b u e => Heap.get?_push_of_some _ (Heap.get?_push_of_some _ e)) (Nat.le_succ _) (xf_ok ⟨{ cls := .ref C, data := .fields #[.ref hp.objs.size, .none, .none, .none, .bool false, .none] }, #[.ref hp.objs.size, .none, .none, .none, .bool false, .none], hp.objs.size, .none, ?_, rfl, rfl, rfl, rfl, rfl, fun _ => rfl⟩)
    heap_get
  have r2 : Vals (V.ref (hp.objs.size + 1) :: (vs ++ dvs)) (Value.ref (hp.objs.size + 1) :: (us ++ ds)) := .cons rfl (r.append hd)
  have hl : (Value.ref (hp.objs.size + 1) :: us ++ ds).length = ps.length := by
    have q := r2.length
    rw [F.len _ _ _ _ hq] at q
    exact q.symm
  refine x_call I.kIn M.cls M.init M.fn (by rw [sizeLine_eq]; omega) (wpAny_call (codeAny_mono (F.run _ X.stack _ _ ⟨Value.ref (hp.objs.size + 1) :: us, []⟩ (Value.ref (hp.objs.size + 1) :: (us ++ ds)) _ _ E (hr.make C us []) (I2.env0.make C us []) (hb _ (Value.ref (hp.objs.size + 1) :: us) I2.kIn hl) r2 hq) fun r s' hq' => ?_))
  cases r with
  | error e => exact hx pins σ _ _ e s' I2 hq'
  | ok fl =>
    cases fl with
    | ret u =>
      obtain ⟨v, H', I3, rv, ev, q3⟩ := I2.after hq'
      subst ev
      exact ⟨rv, ⟨V.ref (hp.objs.size + 1), H', I3, rfl, q3⟩⟩
    | next => exact False.elim hq'
    | brk => exact False.elim hq'
    | cont => exact False.elim hq'
def tXMake (C : Addr) (sp : Sp) (dvs : List V) (E : XK) (t : TA) : TE := fun σ H Q => t σ H fun vs H1 => vs.length ≤ 1000 ∧ ∀ e, H1 e = none → sp (.ref e :: (vs ++ dvs)) (upd H1 e (XF e C none true)) (fun v H2 => v = .non ∧ Q (.ref e) H2) E
theorem pe_xmake (M : XMk X.K C bm f) (F : FnOk X.prog X.w X.K X.mg X.base CX k f fd ps sp) (hr : Room (k + 1) X.A) (hg : Gl X x) (hm : X.mg x = some (.ref C)) (hb : Binds X.K fd ps ds) (hd : Vals dvs ds) (hx : Passes CX X E)
    (ha : PA X (e :: es) t) (hdb : (x == ("__debug__" : Str)) = false := by decide) (he : starEach (e :: es) X.env = (false, eval e X.env) :: starEach es X.env := by rfl) (hpl : (backTo pos (starEach es X.env)).any (·.1) = false := by rfl) :
    PE X (.Call (.Name x p) (e :: es) [] pos) (tXMake C sp dvs E t) := by
  intro pins s σ H Q I h
  refine wpAny_Call_Name_kw (ld_glob I hg hm ?_ hdb)
  refine PySem.W.callWith_K (h₀ := X.base) I.ok.mod.kin M.kp (thn (ha pos pins s σ H _ I h) fun us s1 ⟨vs, H1, I1, r, ql, q⟩ => ⟨I1.kIn, ?_⟩) he hpl
  exact run_exc M F hr hb hd hx I1 r (show us.length ≤ 1000 by rw [← r.length]; exact ql) q
def XeOk (X : Cx) (EX : XK) : Prop := ∀ (pins : List (Addr × Obj)) (σ : St) (H : Hp) (s : Shared) (ea C : Addr) (dx : Option Addr), Inv X pins σ H s → H ea = some (XF ea C dx false) → (∃ o vs, s.heap.get? ea = some o ∧ o.data = .fields vs ∧ vs[1]? = some Value.none) → EX (.ref C) (some ea) H → X.xe (.ref ea) s
theorem xeOk_cx {P : Program} {w : World} {K : Frag} {mg : Str → Option Value} {base : Heap} {N : List Str} {qual : Str} {scope : Scope} {f : Addr} {cd : Value} {A : Around} {outer : List Env} {s : Shared} {H : Hp} {E : XK} : XeOk (cxOf (CXo P w) P w K mg base N qual scope f cd A outer s H E) E := fun pins σ H' s2 ea C dx I hx ⟨o, vs, g1, g2, g3⟩ hE =>
  xe_of I hx (fun vs' o' c1 c2 => .inl (by rw [g1] at c1; cases c1; rw [g2] at c2; cases c2; exact g3)) hE
def tRaise (EX : XK) (K : Frag) (te : TE) : TS := fun _ σ H => te σ H fun v H1 => ∃ e C dx bm, v = .ref e ∧ XCls K C bm ∧ H1 e = some (XF e C dx true) ∧ EX (.ref C) (some e) (upd H1 e (XF e C dx false))
theorem ps_raise {EX : XK} (hc : X.calm = true) (hE : XeOk X EX) (he : PE X e te) : PS X (.Raise (some e) none pos) (tRaise EX X.K te) := by
  intro pins s σ H D I h
  show wpAny _ _ (do standAt pos; raiseStmt X.env (some (do let v ← eval e X.env; standAt pos; pure v)) none) _ _ s
  refine wpAny_bind (wpAny_standAt (x_raise (K := X.K) (I.ok.hd hc) (wpAny_bind (thn (he pins s σ H _ I h) fun v s1 ⟨y, H1, I1, ry, q⟩ => wpAny_bind (wpAny_standAt (wpAny_pure ?_))))))
  obtain ⟨ea, C, dx, bm, rfl, Xc, hx, hq⟩ := q
  obtain rfl : v = Value.ref ea := ry
  obtain ⟨ob, ws, t0, z, a1, a2, a3, a4, a5, a6, a7⟩ := xf_of I1.hok hx
  have a6 : ws[1]? = some Value.none := by rw [a6, a7 rfl]
  refine ⟨ea, ob, ws, C, bm, rfl, Xc, I1.kIn, a1, a2, a4, a6, ?_⟩
  have I2 : Inv X pins σ (upd H1 ea (XF ea C dx false)) s1 := by
    have := I1.write (t' := s1.toks) (h' := s1.heap) (o := XF ea C dx false) (x := ea) (e := ea) (by rw [hx]; exact True.intro) (.inl rfl) (fun _ _ _ z => z) ⟨_, a1⟩ (xf_ok ⟨ob, ws, t0, .none, a1, a2, a3, a4, a5, a6, fun z => by cases z⟩)
    exact this
  exact hE pins σ _ s1 ea C dx I2 upd_same ⟨ob, ws, a1, a4, a6⟩ hq
structure XClsM (K : Frag) (C : Addr) (m : Str) (f : Addr) : Prop where
  ga : specialIn K (.ref C) "__getattribute__" = some (some (.builtin "type.__getattribute__"))
  rd : readsIn K C (.type "type") = true
  at_ : findCls K (.ref C) (.type "type") m = some (.val (.ref f))
  kp : keepIn K (.ref f) = true
end
theorem Fun.okX {P : Program} {w : World} {K : Frag} {mg : Str → Option Value} {base : Heap} {x qual : Str} {st : Stmt} {f : Addr} {fd : FuncData} {N ps : List Str} {k : Nat} {sp : Sp} (F : Fun K x qual st f fd) (S : FnScope N ps (defScope st)) (len : ∀ vs H Q E, sp vs H Q E → vs.length = ps.length)
    (hbody : ∀ (cdv : Value) (A : Around) (outer : List Env) (s : Shared) (H : Hp) (vs : List V) (Q : VK) (E : XK), Room k (A.deeper (envOfC qual (defScope st) s.heap.objs.size f cdv)) → sp vs H Q E →
      ∃ t, PSs (cxOf (CXo P w) P w K mg base N qual (defScope st) f cdv A outer s H E) (defBody st) t ∧ t { nx := fun _ H' => Q .non H', rt := Q } (start N vs) H) : FnOk P w K mg base (CXo P w) (k + 1) f fd ps sp := by
  obtain ⟨oc, od, kV, doc, pm, an, cdv, ct, osl, rfl, lk, hcd⟩ := F.ex
  exact fn_of lk hcd S len fun A outer s H vs Q E hr hsp => hbody cdv A outer s H vs Q E hr hsp
end L2
set_option Elab.async false
set_option linter.all false
set_option maxRecDepth 100000
set_option maxHeartbeats 4000000
namespace L2
open PySem PySem.Spec PyProof.Rows PySem.W
def Cx.inX (X : Cx) (ea : Addr) : Cx := { X with A := X.A.mark (some (.ref ea)), calm := false, xe := fun _ _ => False }
section
variable {X : Cx} {pins : List (Addr × Obj)} {σ : St} {H : Hp} {s : Shared} {ea : Addr}
theorem Inv.inX (I : Inv X pins σ H s) (ea : Addr) : Inv (X.inX ea) pins σ H s :=
  ⟨⟨I.ok.mod, I.ok.kind, I.ok.glob, I.ok.blt, I.ok.above, I.ok.inj, I.ok.has, I.ok.cab, (fun z => by cases z), I.ok.frames, I.ok.stk, I.ok.exf, I.ok.bs, I.ok.bsz, I.ok.noex, I.ok.exfs, I.ok.funs, I.ok.frf⟩, I.os, I.bare, I.base, I.loc, I.cell, I.free, I.freeC, I.pin, I.hok, I.len⟩
theorem Inv.outX (ok : X.Ok) (I : Inv (X.inX ea) pins σ H s) : Inv X pins σ H s := ⟨ok, I.os, I.bare, I.base, I.loc, I.cell, I.free, I.freeC, I.pin, I.hok, I.len⟩
theorem SP.outX (ok : X.Ok) {D : Ends} {f : Flow} {s' : Shared} (h : SP (X.inX ea) pins D f s') : SP X pins D f s' := by
  cases f with
  | next => obtain ⟨σ', H', I, q⟩ := h; exact ⟨σ', H', I.outX ok, q⟩
  | brk => obtain ⟨σ', H', I, q⟩ := h; exact ⟨σ', H', I.outX ok, q⟩
  | cont => obtain ⟨σ', H', I, q⟩ := h; exact ⟨σ', H', I.outX ok, q⟩
  | ret u => obtain ⟨v, σ', H', I, r, q⟩ := h; exact ⟨v, σ', H', I.outX ok, r, q⟩
theorem gone_ok {M : Model} {A : Around} {E : Value → Shared → Prop} {n : Nat} {nm : Str} {pos : Pos} {Q : Unit → Shared → Prop} (I : Inv X pins σ H s) (hN : X.N.Nodup) (hn : X.N[n]? = some nm) (hk : X.env.kindOf nm = some .local) (h : ∀ s', Inv X pins (σ.set n none) H s' → Q () s') :
    wpAny M A (do bindName X.env nm .none; unbindBehindTheSuite X.env nm pos) Q E s := by
  obtain ⟨m, hm, hl⟩ := id I.loc
  have hcls : (X.env.scope.kind == .class || (X.env.scope.kind == .module && X.env.locals != X.env.globals)) = false := by rw [I.ok.kind]; rfl
  refine wpAny_nameGoes_keeps hk hm hcls fun h' v hm' hs => h _ ?_
  have ne0 : ∀ b o, X.s₀.heap.get? b = some o → b ≠ X.env.locals := fun b o e => Nat.ne_of_lt (Nat.lt_of_lt_of_le (Heap.lt_size e) I.ok.above)
  refine ⟨I.ok, I.os, I.bare, ⟨fun b o e n hb hx => (hs.2 b (ne0 b o e)).trans (I.base.keep b o e n hb hx), fun b o e n hb hx => ?_, I.base.free, fun b o e hx => ?_, I.base.tups, I.base.frzs, I.base.tbls⟩, ⟨_, hm', fun j y v' e1 e2 e3 => ?_⟩, fun y c e => ?_, I.free, I.freeC, fun p hp => ?_, fun b u e => ?_, by simpa using I.len⟩
  · obtain ⟨sl, e1⟩ := I.base.slot b o e n hb hx
    exact ⟨sl, (hs.2 b (ne0 b o e)).trans e1⟩
  · obtain ⟨o', e1⟩ := I.base.there b o e hx
    exact ⟨o', (hs.2 b (ne0 b o e)).trans e1⟩
  · by_cases hj : j = n
    · subst hj
      have hlt : j < σ.length := by rw [I.len]; exact (List.getElem?_eq_some_iff.mp hn).1
      rw [List.getElem?_set_self hlt] at e2
      cases e2
    · rw [List.getElem?_set_ne (Ne.symm hj)] at e2
      obtain ⟨u', r', q⟩ := hl j y v' e1 e2 e3
      refine ⟨u', r', ?_⟩
      rcases q with ⟨k, e⟩ | ⟨k, c, e, z⟩
      · refine .inl ⟨k, ?_⟩
        have : y ≠ nm := fun e => hj (nodup_ix hN e1 (e ▸ hn))
        simp [this, e]
      · exact .inr ⟨k, c, e, z.sameBut hs (I.cne y c e)⟩
  · obtain ⟨w', z⟩ := I.cell y c e
    exact ⟨w', z.sameBut hs (I.cne y c e)⟩
  · obtain ⟨e, n', ne, nf, d⟩ := I.pin p hp
    exact ⟨(hs.2 p.1 ne).trans e, n', ne, nf, d⟩
  · refine (I.hok b u e).stay (fun c w' hc q => (hs.2 c ?_).trans q) (fun _ q => q) fun _ _ q => q
    rintro rfl
    rcases hc with z | z
    · rw [← z, I.free] at e; cases e
    · rw [I.free] at z; cases z
theorem fly_ok {M : Model} {A : Around} {E : Value → Shared → Prop} {T : Addr} {o : Obj} {vs : Array Value} {Q : Unit → Shared → Prop} (I : Inv X pins σ H s) (ge : s.heap.get? ea = some o) (gd : o.data = .fields vs) (g1 : vs[1]? = some (.ref T)) (hT : TOk X pins H T) (tb : TbIs s.heap T)
    (q : ∀ s', Inv X pins σ H s' → Q () s') : wpAny M A (setFlight (.ref ea) none) Q E s := by
  obtain ⟨oT, ts, h1, h2, h3⟩ := tb
  unfold setFlight
  refine wpAny_bind (wpAny_field ge gd g1 ?_)
  rw [if_pos (show (Value.ref T != Value.none) = true from by simp)]
  refine wpAny_setField h1 h2 (Array.getElem?_eq_some_iff.mp h3).1 (q _ ?_)
  exact I.turned (t' := s.toks) (it := T) (fun b u hb hu => by rw [Heap.get?_update_other _ _ (Ne.symm hb)]; exact hu) hT.2.2.2.2 hT.2.1 (.inr hT.1) hT.2.2.1 hT.2.2.2.1
abbrev Ends.gone (D : Ends) (n : Nat) : Ends := { nx := fun σ' H' => D.nx (σ'.set n none) H', rt := D.rt, bk := fun σ' H' => D.bk (σ'.set n none) H', ct := fun σ' H' => D.ct (σ'.set n none) H' }
def MetAt (X : Cx) (pins : List (Addr × Obj)) (H : Hp) (ea : Addr) (h : Heap) : Prop := ∃ o vs T, h.get? ea = some o ∧ o.data = .fields vs ∧ vs[1]? = some (Value.ref T) ∧ T ≠ ea ∧ TOk X pins H T ∧ TbIs h T
theorem handle_as {C C' : Addr} {dx : Option Addr} {bm bm' : List Value} {cx nm : Str} {cp hpos : Pos} {n : Nat} {b0 : Stmt} {suite : List Stmt} {ts : TS} {D : Ends} (hst : X.stack = X.env :: X.outer) (hfr : X.env.frame = some X.env.locals) (I : Inv X pins σ H s) (hx : H ea = some (XF ea C dx false)) (tb : MetAt X pins H ea s.heap)
    (Xc : XCls X.K C bm) (Xd : XCls X.K C' bm') (hm : (Value.ref C :: bm).contains (.ref C') = true) (hg : Gl X cx) (hmc : X.mg cx = some (.ref C')) (hdb : (cx == ("__debug__" : Str)) = false) (hN : X.N.Nodup) (hn : X.N[n]? = some nm) (hk : X.env.kindOf nm = some .local) (hloc : Loc X.env.scope nm) (hf : X.fn nm = true ∨ X.env.scope.names.lookup nm = some .local)
    (hs : PSs (X.inX ea) (b0 :: suite) ts) (h : ts (D.gone n) (σ.set n (some (.ref ea))) H) :
    wpAny (model X.prog X.w) X.A (noteFrame (.ref ea) X.env) (fun _ s2 => wpAny (model X.prog X.w) X.A (setFlight (.ref ea) none) (fun _ s3 => wpAny (model X.prog X.w) X.A (handleBy (.ref ea) X.env [.ExceptHandler (some (.Name cx cp)) (some nm) (b0 :: suite) hpos]) (SP X pins D) X.xe s3) X.xe s2) X.xe s := by
  obtain ⟨o, vs, T, a1, a2, a3, a4, a5, a6⟩ := tb
  have frs' : X.A.frames = some (X.env :: X.outer) := by rw [← hst]; exact I.ok.frames
  have ff : s.heap.FunFrames X.base (X.env :: X.outer) := by rw [← hst]; exact I.stack
  refine leave_any (ok := fun b => b = T) frs' ff hfr a1 a2 (.inr ⟨T, a3, a4, rfl, a6⟩) fun h' l => ?_
  rw [← hst] at l
  have I2 := inv_left I hx a1 l (ch := [T]) (fun _ z => List.mem_singleton.mpr z) (fun b z => by rw [List.mem_singleton.mp z]; exact a5) rfl
  obtain ⟨o2, vs2, T2, c1, c2, c3, c4, c5, c6, c7⟩ := tb_left I a1 a2 (Array.getElem?_eq_some_iff.mp a3).1 l
  have c8 : TOk X pins H T2 := tok_new I c5 c6
  generalize hs3 : ({ s with heap := h' } : Shared) = s3 at I2
  have c1 : s3.heap.get? ea = some o2 := by rw [← hs3]; exact c1
  have c7 : TbIs s3.heap T2 := by rw [← hs3]; exact c7
  refine wpAny_handleBy_cons (codeAny_handlers_test (ld_glob (X := X.inX ea) (I2.inX ea) hg hmc ?_ hdb)) (by intro q; cases q)
  obtain ⟨ob, ws, t0, z, d1, d2, d3, d4, d5, d6, d7⟩ := xf_of I2.hok hx
  obtain ⟨hp, g, d, tk, os⟩ := s3
  refine x_match I2.kIn Xc d1 d2 Xd ?_
  rw [hm]
  refine codeAny_handlers_suite_as ?_
  refine fly_ok I2 c1 c2 c3 c8 c7 fun s5 I5 => ?_
  refine store_ok I5 hN hn hloc (v := .ref ea) rfl (fun s6 I6 => ?_) hf
  refine wpAny_mono (hs pins s6 _ H (D.gone n) (I6.inX ea) h) (fun f s7 q7 => ?_) fun _ _ z => z.elim
  have ok := I.ok
  cases f with
  | next => obtain ⟨σ', H', I', q⟩ := q7; exact gone_ok (I'.outX ok) hN hn hk fun s8 I8 => ⟨_, H', I8, q⟩
  | brk => obtain ⟨σ', H', I', q⟩ := q7; exact gone_ok (I'.outX ok) hN hn hk fun s8 I8 => ⟨_, H', I8, q⟩
  | cont => obtain ⟨σ', H', I', q⟩ := q7; exact gone_ok (I'.outX ok) hN hn hk fun s8 I8 => ⟨_, H', I8, q⟩
  | ret u => obtain ⟨v, σ', H', I', r, q⟩ := q7; exact gone_ok (I'.outX ok) hN hn hk fun s8 I8 => ⟨v, _, H', I8, r, q⟩
end
section
variable {X : Cx} {k : Nat} {f C' : Addr} {fd : FuncData} {ps : List Str} {sp : Sp} {dvs : List V} {ds : List Value} {x y nm cx : Str} {p pos apos cp hpos py tpos : Pos} {e : Expr} {es : List Expr} {t : TA} {bm' : List Value} {b0 : Stmt} {suite : List Stmt} {ts : TS} {i n : Nat}
def tTry (K : Frag) (C' : Addr) (sp : Sp) (dvs : List V) (t : TA) (ok : Ends → St → V → Hp → Prop) (hd : Ends → St → Addr → Hp → Prop) : TS := fun D σ H => t σ H fun vs H1 => sp (vs ++ dvs) H1 (fun v H2 => ok D σ v H2) (fun c eo H2 => ∀ ea, eo = some ea → ∃ C dx bm, c = .ref C ∧ H2 ea = some (XF ea C dx false) ∧ XCls K C bm ∧ (Value.ref C :: bm).contains (.ref C') = true ∧ hd D σ ea H2)
theorem try_call {pins : List (Addr × Obj)} {s : Shared} {σ : St} {H : Hp} {D : Ends} {ok : Ends → St → V → Hp → Prop} {hd : Ends → St → Addr → Hp → Prop} {Eh : Value → Shared → Prop} (F : FnOk X.prog X.w X.K X.mg X.base (CXo X.prog X.w) k f fd ps sp) (hr : Room k X.A) (hg : Gl X x) (hm : X.mg x = some (.ref f)) (hk : keepIn X.K (.ref f) = true) (hb : Binds X.K fd ps ds) (hvd : Vals dvs ds) (ha : PA X.nox (e :: es) t)
    (hE : ∀ ea C dx bm H' s', Inv X pins σ H' s' → H' ea = some (XF ea C dx false) → MetAt X pins H' ea s'.heap → XCls X.K C bm → (Value.ref C :: bm).contains (.ref C') = true → hd D σ ea H' → Eh (.ref ea) s')
    (I : Inv X pins σ H s) (h : tTry X.K C' sp dvs t ok hd D σ H) (hdb : (x == ("__debug__" : Str)) = false) (he : starEach (e :: es) X.env = (false, eval e X.env) :: starEach es X.env) (hpl : (backTo pos (starEach es X.env)).any (·.1) = false) :
    wpAny (model X.prog X.w) X.A (eval (.Call (.Name x p) (e :: es) [] pos) X.env) (EP X pins σ (ok D σ)) Eh s := by
  refine wpAny_Call_Name_kw (ld_glob I hg hm ?_ hdb)
  refine PySem.W.callWith_K (h₀ := X.base) I.ok.mod.kin hk (wpAny_mono (ha pos pins s σ H _ (I.wish _) h) (fun us s1 ⟨vs, H1, I1, r, q⟩ => ⟨I1.kIn, ?_⟩) fun _ _ z => z.elim) he hpl
  have I1 := I1.unwish
  have r2 : Vals (vs ++ dvs) (us ++ ds) := r.append hvd
  have hl : (us ++ ds).length = ps.length := by rw [← r2.length]; exact F.len _ _ _ _ q
  refine wpAny_call (codeAny_mono (F.run X.A X.stack s1 H1 ⟨us, []⟩ (us ++ ds) (vs ++ dvs) _ _ hr I1.env0 (hb s1 us I1.kIn hl) r2 q) fun r s' hq => ?_)
  cases r with
  | error e =>
    obtain ⟨ea, C, dx, H', rfl, hx, os, bare, un, hok, tb, hu⟩ := hq
    have I2 := I1.call' (ch := []) os un hok bare (fun _ z => absurd z List.not_mem_nil)
    obtain ⟨o, vs', T, b1, b2, b3, b4, b5, b6, b7⟩ := tb
    obtain ⟨C2, dx2, bm, e1, e2, e3, e4, e5⟩ := hu ea rfl
    exact hE ea C2 dx2 bm H' s' I2 e2 ⟨o, vs', T, b1, b2, b3, b4, tok_new I1 b5 b6, b7⟩ e3 e4 e5
  | ok fl =>
    cases fl with
    | ret u => exact I1.after hq
    | next => exact False.elim hq
    | brk => exact False.elim hq
    | cont => exact False.elim hq
theorem try_set {pins : List (Addr × Obj)} {s : Shared} {σ : St} {D : Ends} {Eh : Value → Shared → Prop} (hN : X.N.Nodup) (hi : X.N[i]? = some y) (hy : Loc X.env.scope y) (hf : X.fn y = true ∨ X.env.scope.names.lookup y = some .local) (hs : swapsWith e (some (.Name y py)) pos.line X.env = pure false)
    (h : wpAny (model X.prog X.w) X.A (eval e X.env) (EP X pins σ fun v H2 => D.nx (σ.set i (some v)) H2) Eh s) :
    wpAny (model X.prog X.w) X.A (execs [.Assign [.Name y py] e pos] X.env) (fun f s1 => match f with | .next => wpAny (model X.prog X.w) X.A (execs [] X.env) (SP X pins D) X.xe s1 | f => SP X pins D f s1) Eh s := by
  refine wpAny_execs_cons (wpAny_Assign_Name (thn h fun v s1 ⟨z, H1, I1, r1, q1⟩ => ?_) hs)
  exact store_ok I1 hN hi hy r1 (fun s2 I2 => wpAny_execs_nil (wpAny_execs_nil ⟨_, H1, I2, q1⟩)) hf
theorem ps_tryset_as (hst : X.stack = X.env :: X.outer) (hfr : X.env.frame = some X.env.locals) (F : FnOk X.prog X.w X.K X.mg X.base (CXo X.prog X.w) k f fd ps sp) (hr : Room k X.A) (hg : Gl X x) (hm : X.mg x = some (.ref f)) (hk : keepIn X.K (.ref f) = true) (hb : Binds X.K fd ps ds) (hvd : Vals dvs ds) (ha : PA X.nox (e :: es) t)
    (hN : X.N.Nodup) (hi : X.N[i]? = some y) (hy : Loc X.env.scope y) (hgc : Gl X cx) (hmc : X.mg cx = some (.ref C')) (Xd : XCls X.K C' bm') (hn : X.N[n]? = some nm) (hkn : X.env.kindOf nm = some .local) (hlo : Loc X.env.scope nm) (hs : ∀ ea, PSs (X.inX ea) (b0 :: suite) ts)
    (hf : X.fn y = true ∨ X.env.scope.names.lookup y = some .local := by first | exact .inl rfl | exact .inr rfl) (hfn : X.fn nm = true ∨ X.env.scope.names.lookup nm = some .local := by first | exact .inl rfl | exact .inr rfl) (hsw : swapsWith (.Call (.Name x p) (e :: es) [] pos) (some (.Name y py)) apos.line X.env = pure false := by rfl) (hdb : (x == ("__debug__" : Str)) = false := by decide) (hdc : (cx == ("__debug__" : Str)) = false := by decide)
    (he : starEach (e :: es) X.env = (false, eval e X.env) :: starEach es X.env := by rfl) (hpl : (backTo pos (starEach es X.env)).any (·.1) = false := by rfl) :
    PS X (.Try [.Assign [.Name y py] (.Call (.Name x p) (e :: es) [] pos) apos] [.ExceptHandler (some (.Name cx cp)) (some nm) (b0 :: suite) hpos] [] [] tpos) (tTry X.K C' sp dvs t (fun D σ v H2 => D.nx (σ.set i (some v)) H2) (fun D σ ea H2 => ts (D.gone n) (σ.set n (some (.ref ea))) H2)) := by
  intro pins s σ H D I h
  refine wpAny_Try_except (try_set hN hi hy hf hsw (try_call (D := D) F hr hg hm hk hb hvd ha (fun ea C dx bm H' s' I' hx tb Xc hc hh => ?_) I h hdb he hpl))
  exact handle_as hst hfr I' hx tb Xc Xd hc hgc hmc hdc hN hn hkn hlo hfn (hs ea) hh
end
end L2
set_option Elab.async false
set_option linter.all false
set_option maxRecDepth 100000
set_option maxHeartbeats 4000000
namespace L2
open PySem PySem.Spec PyProof.Rows PySem.W
structure FunD (K : Frag) (x qual : Str) (st : Stmt) (f : Addr) (fd : FuncData) (dV : Value) : Prop where
  ex : ∃ (oc : Value) (od : Option Addr) (kV doc pm : Value) (an : Option Addr) (cdv ct : Value) (osl : Array (Option Value)),
    fd = fnOf x qual (defArgs st) (defBody st) (defScope st) dV kV doc pm an cdv ct ∧ K.lookup f = some ⟨oc, od, .func fd, osl⟩ ∧ codeIn K cdv qual = true
  kp : keepIn K (.ref f) = true
section
variable {P : Program} {w : World} {K : Frag} {mg : Str → Option Value} {base : Heap}
theorem FunD.ok {dV : Value} {x qual : Str} {st : Stmt} {f : Addr} {fd : FuncData} {N ps : List Str} {k : Nat} {sp : Sp} (F : FunD K x qual st f fd dV) (S : FnScope N ps (defScope st)) (len : ∀ vs H Q E, sp vs H Q E → vs.length = ps.length)
    (hbody : ∀ (cdv : Value) (A : Around) (outer : List Env) (s : Shared) (H : Hp) (vs : List V) (Q : VK) (E : XK), Room k (A.deeper (envOfC qual (defScope st) s.heap.objs.size f cdv)) → sp vs H Q E →
      ∃ t, PSs (cxOf CX0 P w K mg base N qual (defScope st) f cdv A outer s H E).nox (defBody st) t ∧ t { nx := fun _ H' => Q .non H', rt := Q } (start N vs) H) : FnOk P w K mg base CX0 (k + 1) f fd ps sp := by
  obtain ⟨oc, od, kV, doc, pm, an, cdv, ct, osl, rfl, lk, hcd⟩ := F.ex
  refine fn_of lk hcd S len fun A outer s H vs Q E hr hsp => ?_
  obtain ⟨t, h, q⟩ := hbody cdv A outer s H vs Q E hr hsp
  exact ⟨t, h.nox, q⟩
theorem funD_mk {dV : Value} {x qual : Str} {st : Stmt} {f : Addr} {oc : Value} {od an : Option Addr} {osl : Array (Option Value)} {kV doc pm cdv ct : Value} (l : K.lookup f = some ⟨oc, od, .func (fnOf x qual (defArgs st) (defBody st) (defScope st) dV kV doc pm an cdv ct), osl⟩)
    (c : codeIn K cdv qual = true) (k : keepIn K (.ref f) = true) : FunD K x qual st f (fnOf x qual (defArgs st) (defBody st) (defScope st) dV kV doc pm an cdv ct) dV := ⟨⟨oc, od, kV, doc, pm, an, cdv, ct, osl, rfl, l, c⟩, k⟩
end
end L2
set_option Elab.async false
set_option linter.all false
set_option maxRecDepth 100000
set_option maxHeartbeats 4000000
namespace L2
open PySem PySem.Spec PyProof.Rows PySem.W
section
variable {X : Cx}
theorem ke_xget {e : Expr} {f : Str} {pos : Pos} {ta : TE} (K : Frag) (h : X.K = K) (he : PE X e ta) (hb : attributeBase e f X.env (eval e X.env) = eval e X.env := by rfl) : PE X (.Attribute e f pos) (tXGet K ta f) := h ▸ pe_xget he hb
theorem ko_ninV (K : Frag) (h : X.K = K) : OpR X (compareOp .NotIn) (rIn K true) := h ▸ op_notIn_seq
end
theorem inV_strs (x : Str) : ∀ xs : List Str, inV (.str x) (xs.map V.str) = decide (x ∈ xs)
  | [] => by simp [inV]
  | y :: r => by
    have ih := inV_strs x r
    unfold inV at ih ⊢
    rw [List.map_cons, List.any_cons, ih]
    by_cases h : y = x
    · subst h; simp [eqV]
    · have h2 : x ≠ y := fun z => h z.symm
      simp [eqV, h, h2]
theorem all_flat (xs : List Str) : (xs.map V.str).all flatV = true := by
  rw [List.all_eq_true]
  intro v hv
  obtain ⟨x, _, rfl⟩ := List.mem_map.mp hv
  rfl
theorem in_strs {K : Frag} {H : Hp} {Q : VK} {p : Addr} {x : Str} (xs : List Str) (h : SqL K H p (xs.map V.str) ∨ SqT K H p (xs.map V.str)) (k : Q (.bl (decide (x ∈ xs))) H) : rIn K false (.str x) (.ref p) H Q := ⟨p, _, rfl, h, rfl, all_flat xs, by rw [inV_strs]; exact k⟩
theorem nin_strs {K : Frag} {H : Hp} {Q : VK} {p : Addr} {x : Str} (xs : List Str) (h : SqL K H p (xs.map V.str) ∨ SqT K H p (xs.map V.str)) (k : Q (.bl (!decide (x ∈ xs))) H) : rIn K true (.str x) (.ref p) H Q := ⟨p, _, rfl, h, rfl, all_flat xs, by rw [inV_strs]; exact k⟩
section
variable {K : Frag} {σ : St} {H : Hp} {Q : VK} {D : Ends} {t : TA} {te ta tv : TE} {f : Str} {sp : Sp} {dvs : List V} {E EX : XK} {C C' : Addr}
theorem tRaise_i (k : te σ H fun v H1 => ∃ e C dx bm, v = .ref e ∧ XCls K C bm ∧ H1 e = some (XF e C dx true) ∧ EX (.ref C) (some e) (upd H1 e (XF e C dx false))) : tRaise EX K te D σ H := k
theorem tXMake_i (k : t σ H fun vs H1 => vs.length ≤ 1000 ∧ ∀ e, H1 e = none → sp (.ref e :: (vs ++ dvs)) (upd H1 e (XF e C none true)) (fun v H2 => v = .non ∧ Q (.ref e) H2) E) : tXMake C sp dvs E t σ H Q := k
theorem tTry_i {ok : Ends → St → V → Hp → Prop} {hd : Ends → St → Addr → Hp → Prop} (k : t σ H fun vs H1 => sp (vs ++ dvs) H1 (fun v H2 => ok D σ v H2) (fun c eo H2 => ∀ ea, eo = some ea → ∃ C dx bm, c = .ref C ∧ H2 ea = some (XF ea C dx false) ∧ XCls K C bm ∧ (Value.ref C :: bm).contains (.ref C') = true ∧ hd D σ ea H2)) : tTry K C' sp dvs t ok hd D σ H := k
theorem tXGet_i (k : ta σ H fun x H1 => ∃ e C bm dx fs fr v, x = .ref e ∧ H1 e = some (XF e C (some dx) fr) ∧ XCls K C bm ∧ XAttr K C ∧ NoAttr K C f ∧ H1 dx = some (.xd fs) ∧ fs.lookup f = some v ∧ Q v H1) : tXGet K ta f σ H Q := k
theorem tBInit_i (k : t σ H fun vs H2 => ∃ e C dx fr bm y, vs = [.ref e, y] ∧ H2 e = some (XF e C dx fr) ∧ XCls K C bm ∧ Q .non H2) : tBInit K t σ H Q := k
theorem tXSet_i (k : tv σ H fun y H1 => ta σ H1 fun x H2 => ∃ e C bm fr, x = .ref e ∧ XCls K C bm ∧ XUp bm ∧ XAttr K C ∧ NoAttr K C f ∧
  ((H2 e = some (XF e C none fr) ∧ ∀ dx, H2 dx = none → dx ≠ e → D.nx σ (upd (upd H2 dx (.xd [(f, y)])) e (XF e C (some dx) fr))) ∨ (∃ dx fs, H2 e = some (XF e C (some dx) fr) ∧ H2 dx = some (.xd fs) ∧ fs.length ≤ 900 ∧ D.nx σ (upd H2 dx (.xd (putF f y fs)))))) : tXSet K ta tv f D σ H := k
end
def rowS : Str := Str.ofString "row"
structure Born (H H' : Hp) (e C : Addr) (fr : Bool) (fs : List (Str × V)) : Prop where
  ex : ∃ dx, H dx = none ∧ dx ≠ e ∧ H' e = some (XF e C (some dx) fr) ∧ H' dx = some (.xd fs)
  keep : ∀ b, b ≠ e → ∀ o, H b = some o → H' b = some o
def IsX (H : Hp) (ea C : Addr) (fs : List (Str × V)) : Prop := ∃ dx, H ea = some (XF ea C (some dx) false) ∧ H dx = some (.xd fs)
theorem IsX.mono {H H' : Hp} {ea C : Addr} {fs : List (Str × V)} (h : IsX H ea C fs) (s : Same H H') : IsX H' ea C fs := by
  obtain ⟨dx, a, b⟩ := h
  exact ⟨dx, s _ _ a, s _ _ b⟩
abbrev sp_TrailError_init (K : Frag) : Sp := fun vs H Q _ => match vs with
  | [.ref e, v, .int r] => ∃ C bm fr, XCls K C bm ∧ XUp bm ∧ XAttr K C ∧ NoAttr K C rowS ∧ H e = some (XF e C none fr) ∧ ∀ H', Born H H' e C fr [(rowS, .int r)] → Q .non H'
  | _ => False
theorem born_raise {H H1 H2 : Hp} {e C : Addr} {fs : List (Str × V)} (hn : H e = none) (s : Same H H1) (h1 : H1 e = none) (b : Born (upd H1 e (XF e C none true)) H2 e C true fs) : ∃ dx, H2 e = some (XF e C dx true) ∧ IsX (upd H2 e (XF e C dx false)) e C fs ∧ Same H (upd H2 e (XF e C dx false)) := by
  obtain ⟨⟨dx, a1, a2, a3, a4⟩, k⟩ := b
  refine ⟨some dx, a3, ⟨dx, upd_same, by rw [upd_ne a2]; exact a4⟩, fun c o hc => ?_⟩
  have hce : c ≠ e := fun z => by rw [z, hn] at hc; cases hc
  rw [upd_ne hce]
  exact k c hce o (by rw [upd_ne hce]; exact s c o hc)
end L2
set_option Elab.async false
set_option linter.all false
set_option maxRecDepth 100000
set_option maxHeartbeats 4000000
namespace L2
open PySem PySem.Spec PyProof.Rows PySem.W
structure RoomN (k : Nat) (A : Around) : Prop where
  dp : A.depth + 3 * k + 5 < recursionLimit
  un : A.units + 16 * k + 200 < cLine
theorem RoomN.mono {j k : Nat} {A : Around} (r : RoomN k A) (h : j ≤ k) : RoomN j A := ⟨by have := r.dp; omega, by have := r.un; omega⟩
theorem RoomN.deeper {k : Nat} {A : Around} (r : RoomN (k + 1) A) (env : Env) : RoomN k (A.deeper env) :=
  ⟨by have := r.dp; show A.depth + 1 + 3 * k + 5 < _; omega, by have := r.un; show A.units + 3 + 16 * k + 200 < _; omega⟩
theorem RoomN.depth {k : Nat} {A : Around} (r : RoomN k A) : A.depth < recursionLimit := by have := r.dp; omega
theorem Room.marked {k : Nat} {A : Around} (r : Room k A) (v : Option Value) : RoomN k (A.mark v) := ⟨r.dp, r.un⟩
theorem RoomN.of {k : Nat} {A : Around} (r : Room k A) : RoomN k A := ⟨r.dp, r.un⟩
structure FnOkN (P : Program) (w : World) (K : Frag) (mg : Str → Option Value) (base : Heap) (k : Nat) (f : Addr) (fd : FuncData) (ps : List Str) (sp : Sp) : Prop where
  len : ∀ vs H Q E, sp vs H Q E → vs.length = ps.length
  run : ∀ (A : Around) (outer : List Env) (s : Shared) (H : Hp) (args : Args) (us : List Value) (vs : List V) (Q : VK) (E : XK), RoomN k A → Env0 P w K mg base A outer s H → BindsTo s fd args (ps.zip us) → Vals vs us → sp vs H Q E →
    codeAny (model P w) A (.call (.ref f) args) (CR CX0 outer P w H s Q E) s
theorem FnOkN.fn {P : Program} {w : World} {K : Frag} {mg : Str → Option Value} {base : Heap} {k : Nat} {f : Addr} {fd : FuncData} {ps : List Str} {sp : Sp} (F : FnOkN P w K mg base k f fd ps sp) : FnOk P w K mg base CX0 k f fd ps sp :=
  ⟨F.len, fun A outer s H args us vs Q E hr => F.run A outer s H args us vs Q E (.of hr)⟩
def cxN (P : Program) (w : World) (K : Frag) (mg : Str → Option Value) (base : Heap) (N : List Str) (qual : Str) (scope : Scope) (f : Addr) (cd : Value) (A : Around) (outer : List Env) (s : Shared) (H : Hp) (E : XK) : Cx :=
  { cxOf CX0 P w K mg base N qual scope f cd A outer s H E with calm := false, xe := fun _ _ => False }
section
variable {P : Program} {w : World} {K : Frag} {mg : Str → Option Value} {base : Heap} {N ps : List Str} {qual : Str} {scope : Scope} {f : Addr} {cd : Value} {A : Around} {outer : List Env} {s s1 : Shared} {H : Hp} {E : XK} {us : List Value} {vs : List V}
theorem inv_startN (S : FnScope N ps scope) (e0 : Env0 P w K mg base A outer s H) (hl : vs.length = ps.length) (r : Vals vs us)
    (x : InCallC s s.heap.objs.size (bindL (envOfC qual scope s.heap.objs.size f cd).kindOf (ps.zip us) fun _ => none) (cellsFrom (s.heap.objs.size + 1) scope.names []) (bindC (envOfC qual scope s.heap.objs.size f cd).kindOf (ps.zip us) fun _ => none) s1) :
    Inv (cxN P w K mg base N qual scope f cd A outer s H E) [] (start N vs) H s1 := by
  have e1 : Env0 P w K mg base { A with handled := none } outer s H := ⟨e0.frames, e0.mod, e0.bs, e0.bsz, e0.funs, e0.frf, e0.hok, e0.bare⟩
  have I := inv_start (CX := CX0) (E := E) S rfl e1 hl r x
  exact ⟨⟨I.ok.mod, I.ok.kind, I.ok.glob, I.ok.blt, I.ok.above, I.ok.inj, I.ok.has, I.ok.cab, (fun z => by cases z), Around.frames_deeper e0.frames, I.ok.stk, I.ok.exf, I.ok.bs, I.ok.bsz, I.ok.noex, I.ok.exfs, I.ok.funs, I.ok.frf⟩, I.os, I.bare, I.base, I.loc, I.cell, I.free, I.freeC, I.pin, I.hok, I.len⟩
end
theorem fn_ofN {P : Program} {w : World} {K : PySem.W.Frag} {mg : Str → Option Value} {base : Heap} {k : Nat} {f : Addr} {name qual : Str} {params : Arguments} {body : List Stmt} {scope : Scope} {dV kV doc pm cdv ct oc : Value} {an od : Option Addr}
    {osl : Array (Option Value)} {N ps : List Str} {sp : Sp} (lk : K.lookup f = some ⟨oc, od, .func (PySem.W.fnOf name qual params body scope dV kV doc pm an cdv ct), osl⟩) (hcd : PySem.W.codeIn K cdv qual = true) (S : FnScope N ps scope)
    (len : ∀ vs H Q E, sp vs H Q E → vs.length = ps.length)
    (hbody : ∀ (A : Around) (outer : List Env) (s : Shared) (H : Hp) (vs : List V) (Q : VK) (E : XK), RoomN k (A.deeper (envOfC qual scope s.heap.objs.size f cdv)) → sp vs H Q E →
      ∃ t, PSs (cxN P w K mg base N qual scope f cdv A outer s H E) body t ∧ t { nx := fun _ H' => Q .non H', rt := Q } (start N vs) H) :
    FnOkN P w K mg base (k + 1) f (PySem.W.fnOf name qual params body scope dV kV doc pm an cdv ct) ps sp := by
  refine ⟨len, fun A outer s H args us vs Q E hr e0 hb r hsp => ?_⟩
  have hl := len _ _ _ _ hsp
  have KX : K.In s.heap := e0.mod.kin.keeps fun b o e => (e0.bs b o e).1
  have lim : s.heap.NoLimit := e0.mod.nolimit.keeps fun b o e => (e0.bs b o e).1
  have hkind : ∀ y ∈ ps.zip us, scope.names.lookup y.1 = some .local ∨ (scope.names.lookup y.1 = some .cell ∧ ((cellsFrom (s.heap.objs.size + 1) scope.names []).lookup y.1).isSome = true) := fun ⟨n, v⟩ hy => by
    rcases S.par n (List.of_mem_zip hy).1 with q | q
    · exact .inl q
    · exact .inr ⟨q, PySem.W.cellsFrom_some _ _ _ (.inl q)⟩
  refine codeAny_call_function hr.depth (KX _ _ lk) rfl S.co S.gen rfl (PySem.W.codeRec_of KX hcd) (hb _ _ _ _ ?_)
  refine wpAny_newFunctionEnv_cells S.kind hkind fun env he s1 x => ?_
  subst he
  refine ⟨lim.keeps x.toInCall.keep, codeAny_func ?_⟩
  obtain ⟨t, ht, hq⟩ := hbody A outer s H vs Q E (hr.deeper _) hsp
  have I : Inv (cxN P w K mg base N qual scope f cdv A outer s H E) [] (start N vs) H s1 := inv_startN S e0 hl r x
  refine wpAny_mono (ht [] s1 (start N vs) H _ I hq) (fun fl s' hs => ?_) fun e s' hs => hs.elim
  have fin : ∀ {σ' : St} {H' : Hp} {v : V} {u : Value}, Inv (cxN P w K mg base N qual scope f cdv A outer s H E) [] σ' H' s' → RelV v u → Q v H' → CE outer P w H s Q u s' :=
    fun {σ' H' v u} J rv q => ⟨v, H', J.os, J.bare, J.base, J.hok, rv, q⟩
  cases fl with
  | ret u =>
    obtain ⟨v, σ', H', J, rv, q⟩ := hs
    exact fin J rv q
  | next =>
    obtain ⟨σ', H', J, q⟩ := hs
    exact fin (v := V.non) (u := Value.none) J rfl q
  | brk =>
    obtain ⟨_, _, _, q⟩ := hs
    exact False.elim q
  | cont =>
    obtain ⟨_, _, _, q⟩ := hs
    exact False.elim q
theorem Fun.okN {P : Program} {w : World} {K : Frag} {mg : Str → Option Value} {base : Heap} {x qual : Str} {st : Stmt} {f : Addr} {fd : FuncData} {N ps : List Str} {k : Nat} {sp : Sp} (F : Fun K x qual st f fd) (S : FnScope N ps (defScope st)) (len : ∀ vs H Q E, sp vs H Q E → vs.length = ps.length)
    (hbody : ∀ (cdv : Value) (A : Around) (outer : List Env) (s : Shared) (H : Hp) (vs : List V) (Q : VK) (E : XK), RoomN k (A.deeper (envOfC qual (defScope st) s.heap.objs.size f cdv)) → sp vs H Q E →
      ∃ t, PSs (cxN P w K mg base N qual (defScope st) f cdv A outer s H E) (defBody st) t ∧ t { nx := fun _ H' => Q .non H', rt := Q } (start N vs) H) : FnOkN P w K mg base (k + 1) f fd ps sp := by
  obtain ⟨oc, od, kV, doc, pm, an, cdv, ct, osl, rfl, lk, hcd⟩ := F.ex
  exact fn_ofN lk hcd S len fun A outer s H vs Q E hr hsp => hbody cdv A outer s H vs Q E hr hsp
section
variable {X : Cx} {k : Nat} {f : Addr} {fd : FuncData} {ps : List Str} {sp : Sp} {dvs : List V} {ds : List Value} {x : Str} {p pos : Pos} {e : Expr} {es : List Expr} {t : TA}
theorem run_fnN {pins : List (Addr × Obj)} {σ : St} {H : Hp} {s : Shared} {Q : VK} {us : List Value} {vs : List V} (F : FnOkN X.prog X.w X.K X.mg X.base k f fd ps sp) (hr : RoomN k X.A) (hb : Binds X.K fd ps ds) (hd : Vals dvs ds)
    (I : Inv X pins σ H s) (r : Vals vs us) (h : sp (vs ++ dvs) H Q E0) : wpAny (model X.prog X.w) X.A (call (.ref f) us) (EP X pins σ Q) X.xe s := by
  have r2 : Vals (vs ++ dvs) (us ++ ds) := r.append hd
  have hl : (us ++ ds).length = ps.length := by rw [← r2.length]; exact F.len _ _ _ _ h
  refine wpAny_call (codeAny_mono (F.run X.A X.stack s H ⟨us, []⟩ (us ++ ds) (vs ++ dvs) Q E0 hr I.env0 (hb s us I.kIn hl) r2 h) fun r s' hq => ?_)
  cases r with
  | error e => exact (show False from hq).elim
  | ok fl =>
    cases fl with
    | ret u => exact I.after hq
    | next => exact False.elim hq
    | brk => exact False.elim hq
    | cont => exact False.elim hq
theorem pe_callN (F : FnOkN X.prog X.w X.K X.mg X.base k f fd ps sp) (hr : RoomN k X.A) (hg : Gl X x) (hm : X.mg x = some (.ref f)) (hk : PySem.W.keepIn X.K (.ref f) = true) (hb : Binds X.K fd ps ds) (hd : Vals dvs ds)
    (ha : PA X (e :: es) t) (hdb : (x == ("__debug__" : Str)) = false := by decide) (he : starEach (e :: es) X.env = (false, eval e X.env) :: starEach es X.env := by rfl) (hpl : (backTo pos (starEach es X.env)).any (·.1) = false := by rfl) :
    PE X (.Call (.Name x p) (e :: es) [] pos) (tCall sp dvs E0 t) := by
  intro pins s σ H Q I h
  refine wpAny_Call_Name_kw (ld_glob I hg hm ?_ hdb)
  refine PySem.W.callWith_K (h₀ := X.base) I.ok.mod.kin hk (thn (ha pos pins s σ H _ I h) fun us s1 ⟨vs, H1, I1, r, q⟩ => ⟨I1.kIn, ?_⟩) he hpl
  exact run_fnN F hr hb hd I1 r q
end
structure XIs (K : Frag) (C : Addr) : Prop where
  ha : findIn K (.ref C) "__class__" = some (some (.builtin "object.__class__"))
  hn : specialIn K (.builtin "object.__class__") "__get__" = some (some (.builtin "getset_descriptor.__get__"))
  htk : takesIn K (.builtin "object.__class__") = some true
  hm : mroIn K C (.type "object") = some true
section
variable {prog : Program} {w : World} {A : Around} {E : Value → Shared → Prop} {s : Shared} {K : Frag} {C e : Addr} {bm : List Value} {ox od : Obj}
theorem x_class {Q : Option Value → Shared → Prop} (KX : K.In s.heap) (X : XCls K C bm) (XA : XAttr K C) (Z : XIs K C) (J : InstAt s.heap e ox C (some od)) (hq : Q (some (.ref C)) { s with toks := s.toks + 1 }) :
    wpAny (model prog w) A (getAttr? (.ref e) "__class__") Q E s := by
  obtain ⟨h, g, d, t, os⟩ := s
  obtain ⟨oxc, oxd, oxt, oxs⟩ := ox
  have hoc0 : oxc = .ref C := J.cls
  subst hoc0
  have KX : K.In h := KX
  have J : InstAt h e ⟨.ref C, oxd, oxt, oxs⟩ C (some od) := J
  obtain ⟨nm, q, N, bs, sn, sub, ab, col, dd, k0, k1, k2, k3, k5, hC'⟩ := X.obj
  have hC := KX _ _ hC'
  have cB : (Value.ref C :: bm).contains (.type "BaseException") = true := by rw [List.contains_cons, X.hasB, Bool.or_true]
  have FB := PySem.F.excAttr_ValueError
  have he : h.get? e = some ⟨.ref C, oxd, oxt, oxs⟩ := J.at_
  have ga := XA.ga
  have gx := XA.gx
  have f3 := FB.ga.bind (.ref e)
  have hx0 : (false && onTheHeap (Value.builtin "BaseException.__getattribute__")) = false := rfl
  have hx2 : (Value.builtin "BaseException.__getattribute__" == Value.builtin "object.__getattribute__") = false := by decide +kernel
  have hx1 : (onTheHeap (Value.ref C) && Value.builtin "BaseException.__getattribute__" == Value.builtin "object.__getattribute__") = false := by rw [hx2]; rfl
  have L0 := J.type (M := model prog w)
  have hcs : (clsIn K C).isSome = true := by unfold clsIn; rw [show List.lookup C K = _ from hC']; rfl
  have L1 := looks_find (M := model prog w) KX J (findObj_data hcs Z.ha Z.hn Z.htk)
  unfold getAttr? getAttrBy? getAttrBy
  repeat (any_goals (first | assumption | with_reducible refine wpAny_loadPart_at he ?_ | with_reducible refine (looks_findIn KX ga).here ?_ | with_reducible refine (looks_findIn KX gx).here ?_ | wp_step | dsimp only))
  have hk : builtinKind "BaseException.__getattribute__" = some .slot := by decide +kernel
  have hsp : splitId "BaseException.__getattribute__" = some ("BaseException", "__getattribute__") := by decide +kernel
  have hargs := PySem.F.args_bexc_ga (.ref e) (.str "__class__" t)
  have ck : ∀ (Q' : Unit → Shared → Prop) (u : Nat), Q' () ⟨h, g, d, u, os⟩ → ∀ A' E', wpAny (model prog w) A' (checkBuiltinCall "BaseException.__getattribute__" ⟨[.ref e, .str "__class__" t], []⟩) Q' E' ⟨h, g, d, u, os⟩ := by
    intro Q' u hq' A' E'
    simp only [checkBuiltinCall, hk, hsp]
    refine wpAny_bind ?_
    unfold isInstance
    repeat (first | with_reducible refine wpAny_loadPart_at he ?_ | (with_reducible refine wpAny_isSubtype_exc hC ?_; rw [cB]) | wp_step)
    exact hq'
  refine codeAny_call_builtin FB.ga.plain PySem.F.entry_bexc_ga (ck _ _ ?_ _ _)
  unfold Builtin.«object.__getattribute__»
  refine wpAny_bind (wpAny_of_eq (a := (Value.ref e, [Value.str "__class__" t])) rfl ?_)
  refine wpAny_bind (wpAny_pure (wpAny_bind (L0.at (wpAny_bind (L1.at ?_)))))
  show wpAny _ _ (holding [Value.builtin "object.__class__"] (call (.builtin "getset_descriptor.__get__") [.builtin "object.__class__", .ref e, .ref C]) >>= ret) _ _ _
  refine wpAny_bind (wpAny_holding (wpAny_call (class_get (od := some od) KX J Z.hm ?_)))
  refine wpAny_pure ?_
  exact handed_on rfl (wpAny_pure hq)
theorem kitx_x (X : XCls K C bm) (XA : XAttr K C) (Z : XIs K C) : KitX K (.ref e) (.ref C) (fun h => ∃ ox od, InstAt h e ox C (some od)) where
  ty := fun _ _ _ I => by obtain ⟨ox, od, I⟩ := I; exact I.type
  it := fun _ _ KX _ => by
    obtain ⟨nm, q, N, bs, sn, sub, ab, col, dd, k0, k1, k2, k3, k5, hC'⟩ := X.obj
    intro A' Q' E' s' k q
    unfold isType loadHead
    exact wpAny_bind (wpAny_loadPart (k _ _ (KX _ _ hC')) (wpAny_pure q))
  ne := fun h tp dd its n sl KX htp => by
    obtain ⟨nm, q, N, bs, sn, sub, ab, col, dd, k0, k1, k2, k3, k5, hC'⟩ := X.obj
    refine Bool.eq_false_iff.mpr fun q => ?_
    have e : C = tp := Value.ref.inj (beq_iff_eq.mp q)
    subst e
    have z := (KX _ _ hC').symm.trans htp
    exact nomatch (show Data.cls _ = Data.seq its.toArray n from congrArg Obj.data (Option.some.inj z))
  ca := fun KX I k => by obtain ⟨ox, od, I⟩ := I; exact x_class KX X XA Z I k
end
section
variable {X : Cx}
def isOf (K : Frag) (C : Addr) (b : Bool) : V → Prop
  | .ref D => kitOne K (.ref C) (.ref D) = some b
  | .ty T => kitOne K (.ref C) (.type T) = some b
  | _ => False
def mIsX (K : Frag) : List V → Hp → VK → Prop := fun vs H Q => ∃ ea C dx fr bm fs c b, vs = [.ref ea, c] ∧ H ea = some (XF ea C (some dx) fr) ∧ H dx = some (.xd fs) ∧ XCls K C bm ∧ XAttr K C ∧ XIs K C ∧ isOf K C b c ∧ Q (.bl b) H
theorem kc_isX (K : Frag) (hK : X.K = K) : CallR X (.builtin "isinstance") (mIsX K) := by
  subst hK
  intro pins s σ H xs us Q I r h
  obtain ⟨ea, C, dx, fr, bm, fs, c, b, rfl, hx, hd, Xc, Xa, Z, hc, q⟩ := h
  obtain ⟨u, w', rfl, r1, r2⟩ := vals2 r
  obtain rfl : u = Value.ref ea := r1
  have fin : ∀ tk, EP X pins σ Q (.bool b) { s with toks := tk } := fun tk => ⟨.bl b, H, I.tok _, rfl, q⟩
  obtain ⟨ob, ws, t0, z, a1, a2, a3, a4, a5, a6, a7⟩ := xf_of I.hok hx
  obtain ⟨mA, hm, hr⟩ := (show ObjOk X.prog X.w H s.heap dx (.xd fs) from I.hok dx _ hd)
  obtain ⟨od, hod, hl⟩ := lookIn_ns hm
  obtain ⟨oc, odi, odt, osl⟩ := ob
  dsimp only at a2 a3 a4
  subst a2 a3 a4
  have J : ∃ ox od, InstAt s.heap ea ox C (some od) := ⟨⟨.ref C, some dx, .fields ws, osl⟩, od, a1, rfl, rfl, hod⟩
  cases c with
  | ref D =>
    obtain rfl : w' = Value.ref D := r2
    exact kia_one (kitx_x Xc Xa Z) I.kIn J hc (fun z => nomatch z) fin
  | ty T =>
    obtain rfl : w' = Value.type T := r2
    exact kia_one (kitx_x Xc Xa Z) I.kIn J hc (fun z => nomatch z) fin
  | _ => exact (show False from hc).elim
theorem isX_i {K : Frag} {H : Hp} {Q : VK} {ea C dx : Addr} {fr : Bool} {bm : List Value} {fs : List (Str × V)} {c : V} {b : Bool} (h1 : H ea = some (XF ea C (some dx) fr)) (h2 : H dx = some (.xd fs)) (Xc : XCls K C bm) (Xa : XAttr K C) (Z : XIs K C) (h : isOf K C b c) (k : Q (.bl b) H) : mIsX K [.ref ea, c] H Q :=
  ⟨ea, C, dx, fr, bm, fs, c, b, rfl, h1, h2, Xc, Xa, Z, h, k⟩
theorem in_bl {K : Frag} {H : Hp} {Q : VK} {p : Addr} (bs : List Bool) (h : SqL K H p (bs.map V.bl)) (k : Q (.bl (bs.contains true)) H) : rIn K false (.bl true) (.ref p) H Q := by
  have e1 : (bs.map V.bl).all flatV = true := by
    rw [List.all_eq_true]
    intro v hv
    obtain ⟨x, _, rfl⟩ := List.mem_map.mp hv
    rfl
  have e2 : ∀ l : List Bool, inV (.bl true) (l.map V.bl) = l.contains true := fun l => by
    induction l with
    | nil => rfl
    | cons y r ih =>
      have : inV (.bl true) ((y :: r).map V.bl) = (eqV (.bl y) (.bl true) || inV (.bl true) (r.map V.bl)) := rfl
      rw [this, ih, List.contains_cons]
      cases y <;> rfl
  exact ⟨p, _, rfl, .inl h, rfl, e1, by rw [e2]; exact k⟩
theorem tPar_i {i j : Nat} {ta : TA} {D : Ends} {σ : St} {H : Hp} (k : ta σ H fun vs H1 => ∃ v w, vs = [v, w] ∧ D.nx ((σ.set i (some v)).set j (some w)) H1) : tPar i j ta D σ H := k
end
end L2
set_option Elab.async false
set_option linter.all false
set_option maxRecDepth 100000
set_option maxHeartbeats 4000000
namespace L2
open PySem PySem.Spec PyProof.Rows
section
variable {X : Cx} {pins : List (Addr × Obj)} {σ : St} {H : Hp} {s : Shared} {h' : Heap}
theorem Inv.turnedMany {t' : Nat} {ch : List Addr} (I : Inv X pins σ H s) (hf : ∀ b ∈ ch, FpOk X pins H b) (k : ∀ b u, b ∉ ch → s.heap.get? b = some u → h'.get? b = some u) : Inv X pins σ H { s with heap := h', toks := t' } := by
  have nin : ∀ b u, H b = some u → b ∉ ch := fun b u e hb => by rw [(hf b hb).1] at e; cases e
  refine I.step (g' := s.gens) (d' := s.drawn) (ch := ch) (fun b hb => ⟨(hf b hb).2.2.2.1, (hf b hb).2.1, (hf b hb).2.2.2.2.1, (hf b hb).2.2.2.2.2⟩) (fun b u _ _ hc e _ => k b u hc e) (fun b u _ _ hc e _ => ⟨u.slots, k b u hc e⟩)
    (fun b u hc e n => n) (fun b u hc e => ⟨u, k b u hc e⟩) (fun b xs q => q) (fun b u xs q => q) (fun b ps q => ⟨#[], by rw [q]; simp⟩) (fun m hm => ?_) (fun b u e => ?_) I.bare
  · obtain ⟨q, es, ep, ho, r⟩ := hm
    exact ⟨q, es, ep, k _ q (fun hb => (hf _ hb).2.1 rfl) ho, r⟩
  · refine (I.hok b u e).stay (fun c v hc q => k c v ?_ q) (fun c q => q) fun c xs q => q
    rcases hc with z | z
    · rw [z]; exact nin b u e
    · exact nin c _ z
end
theorem zip_apart : ∀ n l l' : Nat, l < n → l' < n → ZipApart (n + 4) (n + 2) (n + 3) n (n + 1) l l' := fun n l l' h h' => by constructor <;> (show ¬ ((_ : Nat) = _); omega)
def Izp (K : PySem.W.Frag) (a b : Addr) (n m : Nat) : It := ⟨fun i H => i < min n m ∧ ∃ xs ys, SqL K H a xs ∧ SqL K H b ys ∧ xs.length = n ∧ ys.length = m, fun i H v H' => ∃ T x y, H T = none ∧ v = .ref T ∧ H' = upd H T (.tup [x, y]) ∧ (∀ xs, SqL K H a xs → xs[i]? = some x) ∧ (∀ ys, SqL K H b ys → ys[i]? = some y), fun i H => i = min n m ∧ ∃ xs ys, SqL K H a xs ∧ SqL K H b ys ∧ xs.length = n ∧ ys.length = m⟩
theorem turn_zip {P : Program} {w : World} {K : PySem.W.Frag} {elts : List Expr} {k : Nat} {pos : Pos} (z TI TO i1 i2 a b : Addr) (n m : Nat) (D : ZipApart z TI TO i1 i2 a b) :
    Turn P w K (.Tuple elts k pos) (Izp K a b n m) [z, TI, TO, i1, i2] z (fun i h => IsZip h z TI TO .none ∧ IsPair h TI (.ref i1) (.ref i2) ∧ (∃ a b, IsPair h TO a b) ∧ h.IsListIter i1 a i ∧ h.IsListIter i2 b i) where
  mem := by simp
  obj := fun i h st c hc => by
    obtain ⟨hz, hTI, ⟨x, y, hTO⟩, ⟨o1, h1, h1b, h1c⟩, ⟨o2, h2, h2b, h2c⟩⟩ := st
    simp only [List.mem_cons, List.not_mem_nil, or_false] at hc
    rcases hc with rfl | rfl | rfl | rfl | rfl
    · exact ⟨_, hz, fun v q => by have q' : Data.fields _ = Data.cell v := q; cases q'⟩
    · exact ⟨_, hTI, fun v q => by have q' : Data.seq _ = Data.cell v := q; cases q'⟩
    · exact ⟨_, hTO, fun v q => by have q' : Data.seq _ = Data.cell v := q; cases q'⟩
    · exact ⟨o1, h1, fun v q => by rw [h1c] at q; cases q⟩
    · exact ⟨o2, h2, fun v q => by rw [h2c] at q; cases q⟩
  keep := fun i h h' st hk => by
    obtain ⟨hz, hTI, ⟨x, y, hTO⟩, h1, h2⟩ := st
    exact ⟨hk z (by simp) _ hz, hk TI (by simp) _ hTI, ⟨x, y, hk TO (by simp) _ hTO⟩, h1.at fun o q => hk i1 (by simp) o q, h2.at fun o q => hk i2 (by simp) o q⟩
  item := by
    intro X hP hw hK hc i pins s σ H E I hf st hg
    subst hP hw hK
    obtain ⟨hi, xs, ys, hq1, hq2, hl1, hl2⟩ := hg
    obtain ⟨its, rv, p, hz⟩ := I.list hq1
    obtain ⟨its', rv', p', hz'⟩ := I.list hq2
    have hlen := rv.length
    have hlen' := rv'.length
    have W := WalksT.zip2 (prog := X.prog) (w := X.w) (A := X.A) (I.ok.hd hc) z TI TO i1 i2 a b D its.toArray its'.toArray
    refine W.item i s _ _ (by rw [List.size_toArray, List.size_toArray, ← hlen, ← hlen', hl1, hl2]; exact hi) ⟨st.1, st.2.1, st.2.2.1, st.2.2.2.1, st.2.2.2.2, p.isList, p'.isList⟩ fun T vals h1 tk hPt hT htup hmid hk1 => ?_
    obtain ⟨x, y, hx, hy, rfl⟩ := hPt
    refine ⟨.ref T, rfl, W.go elts k pos i T { s with heap := h1, toks := tk } _ _ hmid fun h2 hst2 hk2 => ?_⟩
    have hx2 : its[i]? = some x := by simpa using hx
    have hy2 : its'[i]? = some y := by simpa using hy
    have hix : i < xs.length := by omega
    have hiy : i < ys.length := by omega
    obtain ⟨u, hu, ru⟩ := rv.get (List.getElem?_eq_getElem hix)
    obtain ⟨u', hu', ru'⟩ := rv'.get (List.getElem?_eq_getElem hiy)
    rw [hu] at hx2
    rw [hu'] at hy2
    cases hx2
    cases hy2
    have hk : ∀ b u, b ∉ [z, TO, i1, i2] → s.heap.get? b = some u → h2.get? b = some u := fun b u hb q => hk2 b u hb (hk1 b u hb q)
    have hk' : ∀ b u, b ∉ [z, TI, TO, i1, i2] → s.heap.get? b = some u → h2.get? b = some u := fun b u hb q => hk b u (fun q => hb (by simp only [List.mem_cons, List.not_mem_nil, or_false] at q ⊢; rcases q with rfl | rfl | rfl | rfl <;> simp)) q
    have hTn := W.apart _ _ _ hmid
    have hTI : T ≠ TI := fun q => by
      have : TI < s.heap.objs.size := Heap.lt_size st.2.1
      exact Nat.lt_irrefl _ (Nat.lt_of_lt_of_le this (q ▸ hT))
    have hTup : IsTup h2 T #[x, y] := by
      obtain ⟨o, h3, h4⟩ := htup
      exact ⟨o, hk2 T o hTn h3, h4⟩
    refine ⟨.ref T, upd H T (.tup [xs[i], ys[i]]), I.turnedLaid (ch := [z, TI, TO, i1, i2]) hf hk' hT ⟨by simp [sizeLine_eq], [x, y], .cons ru (.cons ru' .nil), hTup⟩, rfl, ?_, ?_, fun b hb => ?_⟩
    · exact ⟨T, xs[i], ys[i], I.hok.fresh hT, rfl, rfl, fun zs hy => by rw [I.list_inj hy hq1]; exact List.getElem?_eq_getElem hix, fun zs hy => by rw [I.list_inj hy hq2]; exact List.getElem?_eq_getElem hiy⟩
    · exact ⟨hst2.1, hst2.2.1, hst2.2.2.1, hst2.2.2.2.1, hst2.2.2.2.2.1⟩
    · have nb : b ≠ T := fun q => by
        subst q
        simp only [List.mem_cons, List.not_mem_nil, or_false] at hb hTn
        rcases hb with q | q | q | q | q
        · exact hTn (.inl q)
        · exact hTI q
        · exact hTn (.inr (.inl q))
        · exact hTn (.inr (.inr (.inl q)))
        · exact hTn (.inr (.inr (.inr q)))
      rw [upd_ne nb]
      exact (hf b hb).1
  done := by
    intro X hP hw hK hc i pins s σ H E I hf st hg
    subst hP hw hK
    obtain ⟨hi, xs, ys, hq1, hq2, hl1, hl2⟩ := hg
    subst hi
    obtain ⟨its, rv, p, hz⟩ := I.list hq1
    obtain ⟨its', rv', p', hz'⟩ := I.list hq2
    have hlen := rv.length
    have hlen' := rv'.length
    obtain ⟨sz, sTI, ⟨x, y, sTO⟩, s1, s2⟩ := st
    have hend : its.toArray[min n m]? = none ∨ its'.toArray[min n m]? = none := by
      rcases Nat.le_total n m with q | q
      · left; simp; omega
      · right; simp; omega
    refine wpAny_pyNext_zip_end (I.ok.hd hc) D sz sTI sTO s1 s2 p.isList p'.isList hend fun h' eb => ⟨rfl, I.turnedMany (t' := s.toks) (ch := [z, TI, TO, i1, i2]) hf fun c u hc q => eb c u (fun e => hc (by simp [e])) (fun e => hc (by simp [e])) (fun e => hc (by simp [e])) (fun e => hc (by simp [e])) q⟩
  self := fun _ _ _ _ _ st h => wpAny_pyIter_zip st.1 h
section
variable {X : Cx}
def iZip (K : PySem.W.Frag) (ta : TA) : TI := fun σ H R => ta σ H fun vs H1 => ∃ a b xs ys, vs = [.ref a, .ref b] ∧ SqL K H1 a xs ∧ SqL K H1 b ys ∧ R (Izp K a b xs.length ys.length) H1
theorem kpi_zip (K : PySem.W.Frag) (hK : X.K = K) {elts : List Expr} {k : Nat} {tpos : Pos} {a b : Expr} {ta : TA} {p pos : Pos} (hg : Gl X "zip") (hm : X.mg "zip" = none) (ha : PA X [a, b] ta) (hs : starEach (a :: [b]) X.env = (false, eval a X.env) :: starEach [b] X.env := by rfl) (hpl : (backTo pos (starEach [b] X.env)).any (·.1) = false := by rfl) : PI X (.Tuple elts k tpos) (.Call (.Name "zip" p) [a, b] [] pos) (iZip K ta) := by
  subst hK
  intro pins s σ H R I h
  refine Call_ (ld_blt I hg hm (by decide +kernel : bootBuiltins "zip" = some (.type "zip")) (PyProof.Rows.callWith_type1 (thn (ha pos pins s σ H _ I h) fun us s1 ⟨vs, H1, I1, r1, q1⟩ => ?_) hs hpl))
  obtain ⟨l, l', xs, ys, e, hq, hq', q⟩ := q1
  subst e
  obtain ⟨u, u', rfl, r1, r2⟩ := vals2 r1
  cases r1
  cases r2
  obtain ⟨its, rv, pl, hz⟩ := I1.list hq
  obtain ⟨its', rv', pl', hz'⟩ := I1.list hq'
  have hlt : l < s1.heap.objs.size := by obtain ⟨o, ho, _⟩ := pl.isList; exact Heap.lt_size ho
  have hlt' : l' < s1.heap.objs.size := by obtain ⟨o, ho, _⟩ := pl'.isList; exact Heap.lt_size ho
  refine call_zip_2 pl.isList pl'.isList fun h' he hTI hTO hi1 hi2 hsz hk => wpAny_pyIter_zip he ?_
  have D : ZipApart (s1.heap.objs.size + 4) (s1.heap.objs.size + 2) (s1.heap.objs.size + 3) s1.heap.objs.size (s1.heap.objs.size + 1) l l' := zip_apart _ _ _ hlt hlt'
  refine ⟨_, [s1.heap.objs.size + 4, s1.heap.objs.size + 2, s1.heap.objs.size + 3, s1.heap.objs.size, s1.heap.objs.size + 1], _, _, H1, rfl, I1.kept (t' := s1.toks) hk, turn_zip _ _ _ _ _ l l' xs.length ys.length D, ⟨he, hTI, ⟨_, _, hTO⟩, hi1, hi2⟩, fun b hb => ?_, q⟩
  have hb : s1.heap.objs.size ≤ b := by
    simp only [List.mem_cons, List.not_mem_nil, or_false] at hb
    rcases hb with rfl | rfl | rfl | rfl | rfl
    · exact Nat.le_add_right _ _
    · exact Nat.le_add_right _ _
    · exact Nat.le_add_right _ _
    · exact Nat.le_refl _
    · exact Nat.le_add_right _ _
  exact I1.fpOk hb (I1.hok.fresh hb)
end
theorem iZip_i {K : PySem.W.Frag} {σ : St} {H : Hp} {ta : TA} {R : It → Hp → Prop} (k : ta σ H fun vs H1 => ∃ a b xs ys, vs = [.ref a, .ref b] ∧ SqL K H1 a xs ∧ SqL K H1 b ys ∧ R (Izp K a b xs.length ys.length) H1) : iZip K ta σ H R := k
end L2
set_option Elab.async false
set_option linter.all false
set_option maxRecDepth 100000
set_option maxHeartbeats 4000000
namespace L2
open PySem PySem.Spec PyProof.Rows
section
variable {X : Cx} {pos : Pos} {e : Expr} {te : TE}
def tF3i (te : TE) : TE := fun σ H Q => te σ H fun x H1 => ∃ i : Int, x = .int i ∧ i.natAbs.log2 < 1920 ∧ (Str.ofString (toString i)).length ≤ 100 ∧ ∀ z : Str, Q (.str z) H1
theorem pe_f3i {a b : Str} {j1 j2 p1 p2 p3} (he : PE X e te) (ha : a.length ≤ 1000 := by decide +kernel) (hb : b.length ≤ 1000 := by decide +kernel) : PE X (.JoinedStr [.Constant (.str a) j1 p1, .FormattedValue e (-1) none p2, .Constant (.str b) j2 p3] pos) (tF3i te) := by
  intro pins s σ H Q I h
  have z9 : 100000 ≤ sizeLine := by decide
  refine JoinedStr_many (joinParts_cons (Calls.Constant_str ?_))
  have hz : ∀ {x : Str}, x.length ≤ sizeLine → (Str.empty ++ x).length ≤ sizeLine := fun {x} q => by rw [strLen_append]; show 0 + x.length ≤ _; omega
  have ea : ∀ x : Str, Str.empty ++ x = x := fun x => by apply Str.ext'; show (#[] : Array Nat) ++ x.cps = x.cps; simp
  · refine ⟨hz (by omega), joinParts_cons (FormattedValue_plain (thn (he pins _ σ H _ (I.tok _) h) fun v s1 ⟨x, H1, I1, r1, q1⟩ => ?_))⟩
    obtain ⟨i, rfl, hl, hy, q⟩ := q1
    obtain ⟨t, rfl⟩ := r1
    refine formatField_int_small hl ?_
    rw [ea]
    generalize Str.ofString (toString i) = y at hy ⊢
    refine ⟨by rw [strLen_append]; omega, ?_⟩
    show wpAny _ _ (joinParts (a ++ y) [eval (.Constant (.str b) j2 p3) X.env]) _ _ _
    refine joinParts_cons (Calls.Constant_str ⟨by rw [strLen_append, strLen_append]; omega, joinParts_nil ?_ (by rw [strLen_append, strLen_append]; omega)⟩)
    exact ⟨.str (a ++ y ++ b), H1, ((I1.tok _).tok _).tok _, ⟨_, rfl⟩, q _⟩
theorem tF3i_i {σ : St} {H : Hp} {Q : VK} (k : te σ H fun x H1 => ∃ i : Int, x = .int i ∧ i.natAbs.log2 < 1920 ∧ (Str.ofString (toString i)).length ≤ 100 ∧ ∀ z : Str, Q (.str z) H1) : tF3i te σ H Q := k
end
theorem for_zip {K : PySem.W.Frag} {a b : Addr} {xs ys : List V} (hl : xs.length = ys.length) {g : TG} {tb : TS} {D : Ends} {σ : St} {H : Hp} (Pv : Nat → St → Hp → Prop) (h0 : Pv 0 σ H) (hok : ∀ i σ H, Pv i σ H → SqL K H a xs ∧ SqL K H b ys)
    (hs : ∀ i σ H T, i < xs.length → Pv i σ H → H T = none → g (.ref T) σ (upd H T (.tup [xs.getD i .non, ys.getD i .non])) fun σ2 H2 => tb { D with nx := Pv (i + 1), ct := Pv (i + 1), bk := D.nx } σ2 H2) (hd : ∀ σ H, Pv xs.length σ H → D.nx σ H) :
    ForW (Izp K a b xs.length ys.length) g tb D σ H := by
  refine ⟨fun i m σ H => m = xs.length - i ∧ i ≤ xs.length ∧ Pv i σ H, ⟨xs.length, by simp, Nat.zero_le _, h0⟩, ?_⟩
  rintro i m σ H ⟨rfl, hi, p⟩
  obtain ⟨q1, q2⟩ := hok i σ H p
  by_cases hlt : i < xs.length
  · refine .inr ⟨⟨by rw [← hl, Nat.min_self]; exact hlt, xs, ys, q1, q2, rfl, rfl⟩, Pv (i + 1), fun σ' H' p' => ⟨xs.length - (i + 1), by omega, rfl, hlt, p'⟩, fun x H' y => ?_⟩
    obtain ⟨T, u, v, hT, rfl, rfl, e1, e2⟩ := y
    have e1 := e1 xs q1
    have e2 := e2 ys q2
    have f1 : xs.getD i .non = u := by rw [List.getD_eq_getElem?_getD, e1]; rfl
    have f2 : ys.getD i .non = v := by rw [List.getD_eq_getElem?_getD, e2]; rfl
    have := hs i σ H T hlt p hT
    rw [f1, f2] at this
    exact this
  · have e : i = xs.length := by omega
    subst e
    exact .inl ⟨⟨by rw [← hl, Nat.min_self], xs, ys, q1, q2, rfl, rfl⟩, hd σ H p⟩
def onX (H : Hp) (C : Addr) (E : XK) : Prop := ∀ ea H', Same H H' → IsX H' ea C [(rowS, .int 0)] → E (.ref C) (some ea) H'
theorem onX.mono {H H1 : Hp} {C : Addr} {E : XK} (h : onX H C E) (s : Same H H1) : onX H1 C E := fun ea H' s' i => h ea H' (s.trans s') i
theorem look_row1 (a : V) : List.lookup (Str.ofString "row") [(rowS, a)] = some a := by
  have h1 : (Str.ofString "row" == rowS) = true := by decide +kernel
  simp only [List.lookup, h1]
end L2
set_option Elab.async false
set_option linter.all false
set_option maxRecDepth 100000
set_option maxHeartbeats 4000000
namespace L2
open PySem PySem.Spec PyProof.Rows
section
variable {X : Cx} {es rest : List Expr} {k : Nat} {pos : Pos} {env : Env} {te : TE} {t : TA}
def notStar : Expr → Bool
  | .Starred _ _ => false
  | _ => true
theorem star_any {e : Expr} (h : notStar e = true) : starEach (e :: rest) env = (false, eval e env) :: starEach rest env := by
  rw [starEach]
  intro a p z
  rw [z] at h
  cases h
theorem pa_con {e : Expr} (ha : PE X e te) (hr : PA X rest t) (h : notStar e = true := by rfl) : PA X (e :: rest) (tCons te t) := pa_cons ha hr (star_any h)
theorem sw_tup {n : Option Expr} {l : Nat} : swapsWith (.Tuple es k pos) n l env = pure false := rfl
theorem sw_lst {n : Option Expr} {l : Nat} : swapsWith (.List es pos) n l env = pure false := rfl
theorem sw_bin {a b : Expr} {op : Operator} {n : Option Expr} {l : Nat} : swapsWith (.BinOp a op b pos) n l env = pure false := rfl
theorem sw_sub {a b : Expr} {n : Option Expr} {l : Nat} : swapsWith (.Subscript a b pos) n l env = pure false := rfl
theorem sw_call {a : Expr} {kw : List Keyword} {n : Option Expr} {l : Nat} : swapsWith (.Call a es kw pos) n l env = pure false := rfl
end
structure QA (X : Cx) (es : List Expr) (t : TA) : Prop where
  pa : PA X es t
section
variable {X : Cx} {a b e : Expr} {es rest : List Expr} {k : Nat} {pos pos' : Pos} {te ta tb : TE} {t : TA} {u v : TS} {st : Stmt} {x : Str}
theorem qe_of (h : PE X e te) : QE X e te := ⟨h⟩
theorem qs_of (h : PS X st u) : QS X st u := ⟨h⟩
theorem qa_nil : QA X [] tNil := ⟨pa_nil⟩
theorem qa_con (ha : QE X e te) (hr : QA X rest t) (h : notStar e = true) : QA X (e :: rest) (tCons te t) := ⟨pa_cons ha.pe hr.pa (star_any h)⟩
theorem qe_tup (h : QA X es t) : QE X (.Tuple es k pos) (tTup t) := ⟨pe_tup h.pa⟩
theorem qe_lst (h : QA X es t) : QE X (.List es pos) (tLst t) := ⟨pe_lst h.pa⟩
theorem qe_op {op : Operator} {r : R2} (ho : OpR X (binaryOp op) r) (ha : QE X a ta) (hb : QE X b tb) : QE X (.BinOp a op b pos) (tOp r ta tb) := ⟨pe_op ho ha.pe hb.pe⟩
theorem qe_ix {r : R2} (hr : IxR X r) (ha : QE X a ta) (hb : QE X b tb) (hs : PlainIx b) : QE X (.Subscript a b pos) (tOp r ta tb) := ⟨pe_ix hr ha.pe hb.pe hs⟩
theorem qs_ret (he : QE X e te) : QS X (.Return (some e) pos) (tRet te) := ⟨ps_ret he.pe⟩
theorem qs_if {c : Expr} {l m : List Stmt} {tc : TT} (hc : PT X c tc) (ha : QSs X l u) (hb : QSs X m v) : QS X (.If c l m pos) (tIfS tc u v) := ⟨ps_if hc ha.pss hb.pss⟩
theorem qss_nil : QSs X [] tNext := ⟨pss_nil⟩
end
end L2
set_option Elab.async false
set_option linter.all false
set_option maxRecDepth 100000
set_option maxHeartbeats 4000000
namespace My
open PySem PySem.Spec PyProof.Rows L2
local macro_rules | `(tactic| walk_at "stp") => `(tactic| repeat (with_reducible first | refine tSeq_i ?_ | refine tAsg_i ?_ | refine gName_i ?_ | refine tRet_i ?_ | refine tIfS_i ?_ | refine tNext_i ?_ | refine tDrop_i ?_ | refine mTest_i ?_ | refine mTrue_i ?_ | refine mTru_b ?_ | refine mB_i ?_ | refine tOp_i ?_ | refine tUn_i ?_ | refine mUn_i ?_ | refine m20_i ?_ | refine mAdd_i ?_ | refine mEq_i ?_ | refine mEq_s ?_ | refine mEq_b ?_ | refine mInS_i ?_ | (refine' mVar_i ?hv ?_; (case hv => with_unfolding_all rfl)) | refine tC_i ?_ | refine mChain_i ?_ | refine mAndV_i ?_ | refine mOrV_i ?_ | refine mNotV_i ?_ | refine tIf_i ?_ | refine tAnd_i ?_ | refine tOr_i ?_ | refine tNot_i ?_ | refine tCB_i ?_ | refine tCall0_i ?_ | refine tCons_i ?_ | refine tNil_i ?_ | refine tBM_i ?_ | refine tBM0_i ?_ | refine tTup_i ?_ | refine tLst_i ?_ | refine tSl_i ?_ | refine tNoPart_i ?_ | refine mPart_i ?_ | refine mI_i ?_ | refine is_str ?_ | refine is_bool ?_ | refine is_int ?_ | refine is_int_bool ?_ | refine mMin_i ?_ | refine isN_non ?_ | refine isN_ref ?_ | refine mInt_b ?_ | refine mMax_i ?_ | refine tDGet_i ?_ | refine tDGet2_i ?_ | refine sDPut_i ?_ | refine tDisp_i ?_ | refine tPairs_c ?_ | refine tPairs_n ?_ | refine iRng2_i ?_ | refine iRev_i ?_ | refine iEnum_i ?_ | refine iSeq_i ?_ | refine mAbs_i ?_ | refine gCons_i ?_ | refine gNil_i ?_ | refine tWhile_i ?_ | (refine' mAug_i ?hw ?_; (case hw => with_unfolding_all rfl)) | refine mIAdd_i ?_ | refine tFor_i ?_ | refine tRaise_i ?_ | refine tXMake_i ?_ | refine tTry_i ?_ | refine tXGet_i ?_ | refine tBInit_i ?_ | refine tXSet_i ?_ | refine tPar_i ?_ | refine tF3i_i ?_ | refine iZip_i ?_ | refine iSeq_i ?_ | refine iStr_i ?_ | refine iList_i ?_ | refine iTup_i ?_ | refine iRng1_i ?_ | refine tComp_i ?_ | (refine m2_i ?hc ?_; (case hc => first | (show (0 : Int) < _; decide) | exact cdiv_i (by decide) (by decide)))))
local macro_rules | `(tactic| walk_at "stm") => `(tactic| repeat (with_reducible first | refine tAsg_i ?_ | refine gName_i ?_ | refine tRet_i ?_ | refine tIfS_i ?_ | refine tNext_i ?_ | refine tDrop_i ?_ | refine mTest_i ?_ | refine mTrue_i ?_ | refine mTru_b ?_ | refine mB_i ?_ | refine tOp_i ?_ | refine tUn_i ?_ | refine mUn_i ?_ | refine m20_i ?_ | refine mAdd_i ?_ | refine mEq_i ?_ | refine mEq_s ?_ | refine mEq_b ?_ | refine mInS_i ?_ | (refine' mVar_i ?hv ?_; (case hv => with_unfolding_all rfl)) | refine tC_i ?_ | refine mChain_i ?_ | refine mAndV_i ?_ | refine mOrV_i ?_ | refine mNotV_i ?_ | refine tIf_i ?_ | refine tAnd_i ?_ | refine tOr_i ?_ | refine tNot_i ?_ | refine tCB_i ?_ | refine tCall0_i ?_ | refine tCons_i ?_ | refine tNil_i ?_ | refine tBM_i ?_ | refine tBM0_i ?_ | refine tTup_i ?_ | refine tLst_i ?_ | refine tSl_i ?_ | refine tNoPart_i ?_ | refine mPart_i ?_ | refine mI_i ?_ | refine is_str ?_ | refine is_bool ?_ | refine is_int ?_ | refine is_int_bool ?_ | refine mMin_i ?_ | refine isN_non ?_ | refine isN_ref ?_ | refine mInt_b ?_ | refine mMax_i ?_ | refine tDGet_i ?_ | refine tDGet2_i ?_ | refine sDPut_i ?_ | refine tDisp_i ?_ | refine tPairs_c ?_ | refine tPairs_n ?_ | refine iRng2_i ?_ | refine iRev_i ?_ | refine iEnum_i ?_ | refine iSeq_i ?_ | refine mAbs_i ?_ | refine gCons_i ?_ | refine gNil_i ?_ | refine tWhile_i ?_ | (refine' mAug_i ?hw ?_; (case hw => with_unfolding_all rfl)) | refine mIAdd_i ?_ | refine tFor_i ?_ | refine tRaise_i ?_ | refine tXMake_i ?_ | refine tTry_i ?_ | refine tXGet_i ?_ | refine tBInit_i ?_ | refine tXSet_i ?_ | refine tPar_i ?_ | refine tF3i_i ?_ | refine iZip_i ?_ | refine iSeq_i ?_ | refine iStr_i ?_ | refine iList_i ?_ | refine iTup_i ?_ | refine iRng1_i ?_ | refine tComp_i ?_ | (refine m2_i ?hc ?_; (case hc => first | (show (0 : Int) < _; decide) | exact cdiv_i (by decide) (by decide)))))
def top (i : Nat) : Stmt := PySem.Challenge.pw_goaltrail_k30_goals_and_rules.main.body.getD i (.Pass ⟨0, 0, 0, 0⟩)
abbrev s_TrailError_init : Stmt := inClass (top 1) 0
abbrev s_NotLayered_init : Stmt := inClass (top 7) 0
abbrev s_Fault_init : Stmt := inClass (top 8) 0
abbrev s_parts : Stmt := top 14
abbrev s_is_inner : Stmt := top 15
abbrev s_is_called : Stmt := top 16
abbrev s_is_word : Stmt := top 17
abbrev s_is_named : Stmt := top 24
abbrev s_is_goal : Stmt := top 25
abbrev s_check_parts : Stmt := top 26
abbrev s_check_goals : Stmt := top 27
abbrev s_rule : Stmt := top 28
abbrev s_question : Stmt := top 29
abbrev s_l_cell_at : Stmt := top 31
abbrev s_l_words : Stmt := top 32
abbrev s_l_chain : Stmt := top 33
abbrev s_l_term : Stmt := top 34
abbrev s_l_size : Stmt := top 35
abbrev s_l_truth : Stmt := top 36
abbrev s_l_refusal : Stmt := top 37
abbrev s_l_rule_is : Stmt := top 38
abbrev s_l_question_is : Stmt := top 39
abbrev s_law : Stmt := top 40
theorem sc_TrailError_init : FnScope ["self", "words", "row"] ["self", "words", "row"] (defScope s_TrailError_init) := ⟨rfl, rfl, rfl, by decide +kernel, rfl, by decide +kernel, by decide +kernel⟩
theorem sc_parts : FnScope ["term", "count", "todo", "part"] ["term"] (defScope s_parts) := ⟨rfl, rfl, rfl, by decide +kernel, rfl, by decide +kernel, by decide +kernel⟩
theorem sc_is_inner : FnScope ["sign"] ["sign"] (defScope s_is_inner) := ⟨rfl, rfl, rfl, by decide +kernel, rfl, by decide +kernel, by decide +kernel⟩
theorem sc_is_called : FnScope ["text", "firsts"] ["text", "firsts"] (defScope s_is_called) := ⟨rfl, rfl, rfl, by decide +kernel, rfl, by decide +kernel, by decide +kernel⟩
theorem sc_is_word : FnScope ["text"] ["text"] (defScope s_is_word) := ⟨rfl, rfl, rfl, by decide +kernel, rfl, by decide +kernel, by decide +kernel⟩
theorem sc_is_named : FnScope ["term"] ["term"] (defScope s_is_named) := ⟨rfl, rfl, rfl, by decide +kernel, rfl, by decide +kernel, by decide +kernel⟩
theorem sc_is_goal : FnScope ["term"] ["term"] (defScope s_is_goal) := ⟨rfl, rfl, rfl, by decide +kernel, rfl, by decide +kernel, by decide +kernel⟩
theorem sc_check_parts : FnScope ["term"] ["term"] (defScope s_check_parts) := ⟨rfl, rfl, rfl, by decide +kernel, rfl, by decide +kernel, by decide +kernel⟩
theorem sc_check_goals : FnScope ["goals", "goal"] ["goals"] (defScope s_check_goals) := ⟨rfl, rfl, rfl, by decide +kernel, rfl, by decide +kernel, by decide +kernel⟩
theorem sc_rule : FnScope ["head", "goals"] ["head", "goals"] (defScope s_rule) := ⟨rfl, rfl, rfl, by decide +kernel, rfl, by decide +kernel, by decide +kernel⟩
theorem sc_question : FnScope ["goals"] ["goals"] (defScope s_question) := ⟨rfl, rfl, rfl, by decide +kernel, rfl, by decide +kernel, by decide +kernel⟩
theorem sc_l_cell_at : FnScope ["_law_script", "_law_k"] ["_law_script", "_law_k"] (defScope s_l_cell_at) := ⟨rfl, rfl, rfl, by decide +kernel, rfl, by decide +kernel, by decide +kernel⟩
theorem sc_l_words : FnScope ["_law_cell", "_law_letters", "_law_base", "_law_at", "_law_words_here", "_law_k", "_law_word", "_law_j"] ["_law_cell"] (defScope s_l_words) := ⟨rfl, rfl, rfl, by decide +kernel, rfl, by decide +kernel, by decide +kernel⟩
theorem sc_l_chain : FnScope ["_law_size_here", "_law_word", "_law_term_here", "_law_k"] ["_law_size_here", "_law_word"] (defScope s_l_chain) := ⟨rfl, rfl, rfl, by decide +kernel, rfl, by decide +kernel, by decide +kernel⟩
theorem sc_l_term : FnScope ["_law_kind", "_law_words_here", "_law_size_here", "_law_less", "_law_rest", "_law_marks", "_law_some"] ["_law_kind", "_law_words_here", "_law_size_here"] (defScope s_l_term) := ⟨rfl, rfl, rfl, by decide +kernel, rfl, by decide +kernel, by decide +kernel⟩
theorem sc_l_size : FnScope ["_law_term_here"] ["_law_term_here"] (defScope s_l_size) := ⟨rfl, rfl, rfl, by decide +kernel, rfl, by decide +kernel, by decide +kernel⟩
theorem sc_l_truth : FnScope ["_law_found", "_law_due"] ["_law_found", "_law_due"] (defScope s_l_truth) := ⟨rfl, rfl, rfl, by decide +kernel, rfl, by decide +kernel, by decide +kernel⟩
theorem sc_l_refusal : FnScope ["_law_e", "_law_others"] ["_law_e"] (defScope s_l_refusal) := ⟨rfl, rfl, rfl, by decide +kernel, rfl, by decide +kernel, by decide +kernel⟩
theorem sc_l_rule_is : FnScope ["_law_head", "_law_goals", "_law_good", "_law_found", "_law_refused", "_law_e"] ["_law_head", "_law_goals", "_law_good"] (defScope s_l_rule_is) := ⟨rfl, rfl, rfl, by decide +kernel, rfl, by decide +kernel, by decide +kernel⟩
theorem sc_l_question_is : FnScope ["_law_goals", "_law_good", "_law_handed", "_law_found", "_law_refused", "_law_e"] ["_law_goals", "_law_good"] (defScope s_l_question_is) := ⟨rfl, rfl, rfl, by decide +kernel, rfl, by decide +kernel, by decide +kernel⟩
theorem sc_law : FnScope ["_law_script", "_law_words_here", "_law_way", "_law_kinds", "_law_terms", "_law_k", "_law_cell", "_law_kind", "_law_term_here", "_law_goals", "_law_good", "_law_handed"] ["_law_script"] (defScope s_law) := ⟨rfl, rfl, rfl, by decide +kernel, rfl, by decide +kernel, by decide +kernel⟩
structure Ad where
  k_TrailError : Addr
  k_NoText : Addr
  k_NoSign : Addr
  k_NoRule : Addr
  k_Big : Addr
  k_HasKeep : Addr
  k_NotLayered : Addr
  k_Fault : Addr
  a_TrailError_init : Addr
  d_TrailError_init : FuncData
  v_TrailError_init : Addr
  w_TrailError_init_0 : Tok
  a_NotLayered_init : Addr
  d_NotLayered_init : FuncData
  v_NotLayered_init : Addr
  w_NotLayered_init_0 : Tok
  a_Fault_init : Addr
  d_Fault_init : FuncData
  v_Fault_init : Addr
  w_Fault_init_0 : Tok
  a_parts : Addr
  d_parts : FuncData
  a_is_inner : Addr
  d_is_inner : FuncData
  a_is_called : Addr
  d_is_called : FuncData
  a_is_word : Addr
  d_is_word : FuncData
  a_is_named : Addr
  d_is_named : FuncData
  a_is_goal : Addr
  d_is_goal : FuncData
  a_check_parts : Addr
  d_check_parts : FuncData
  a_check_goals : Addr
  d_check_goals : FuncData
  a_rule : Addr
  d_rule : FuncData
  a_question : Addr
  d_question : FuncData
  a_l_cell_at : Addr
  d_l_cell_at : FuncData
  a_l_words : Addr
  d_l_words : FuncData
  a_l_chain : Addr
  d_l_chain : FuncData
  a_l_term : Addr
  d_l_term : FuncData
  a_l_size : Addr
  d_l_size : FuncData
  a_l_truth : Addr
  d_l_truth : FuncData
  a_l_refusal : Addr
  d_l_refusal : FuncData
  a_l_rule_is : Addr
  d_l_rule_is : FuncData
  a_l_question_is : Addr
  d_l_question_is : FuncData
  a_law : Addr
  d_law : FuncData
  t_SMALL : Tok
  t_GREAT : Tok
  t_FIGURES : Tok
  t_MOST_LETTERS : Tok
  t_KEEP : Tok
  t_NOT : Tok
  c_GOAL_MARKS : Addr
  t_MOST_GOAL_PARTS : Tok
  t_MOST_GOALS : Tok
structure Txt (K : PySem.W.Frag) (mg : Str → Option Value) (t : Ad) : Prop where
  m_TrailError : mg "TrailError" = some (.ref t.k_TrailError)
  x_TrailError : XCls K t.k_TrailError [.type "ValueError", .type "Exception", .type "BaseException", .type "object"]
  u_TrailError : XUp [.type "ValueError", .type "Exception", .type "BaseException", .type "object"]
  at_TrailError : XAttr K t.k_TrailError
  no_TrailError_row : NoAttr K t.k_TrailError "row"
  no_TrailError_ring : NoAttr K t.k_TrailError "ring"
  no_TrailError_word : NoAttr K t.k_TrailError "word"
  mk_TrailError : XMk K t.k_TrailError [.type "ValueError", .type "Exception", .type "BaseException", .type "object"] t.a_TrailError_init
  cm_TrailError : XClsM K t.k_TrailError "__init__" t.a_TrailError_init
  m_NoText : mg "NoText" = some (.ref t.k_NoText)
  x_NoText : XCls K t.k_NoText [.ref t.k_TrailError, .type "ValueError", .type "Exception", .type "BaseException", .type "object"]
  u_NoText : XUp [.ref t.k_TrailError, .type "ValueError", .type "Exception", .type "BaseException", .type "object"]
  at_NoText : XAttr K t.k_NoText
  no_NoText_row : NoAttr K t.k_NoText "row"
  no_NoText_ring : NoAttr K t.k_NoText "ring"
  no_NoText_word : NoAttr K t.k_NoText "word"
  mk_NoText : XMk K t.k_NoText [.ref t.k_TrailError, .type "ValueError", .type "Exception", .type "BaseException", .type "object"] t.a_TrailError_init
  m_NoSign : mg "NoSign" = some (.ref t.k_NoSign)
  x_NoSign : XCls K t.k_NoSign [.ref t.k_TrailError, .type "ValueError", .type "Exception", .type "BaseException", .type "object"]
  u_NoSign : XUp [.ref t.k_TrailError, .type "ValueError", .type "Exception", .type "BaseException", .type "object"]
  at_NoSign : XAttr K t.k_NoSign
  no_NoSign_row : NoAttr K t.k_NoSign "row"
  no_NoSign_ring : NoAttr K t.k_NoSign "ring"
  no_NoSign_word : NoAttr K t.k_NoSign "word"
  mk_NoSign : XMk K t.k_NoSign [.ref t.k_TrailError, .type "ValueError", .type "Exception", .type "BaseException", .type "object"] t.a_TrailError_init
  m_NoRule : mg "NoRule" = some (.ref t.k_NoRule)
  x_NoRule : XCls K t.k_NoRule [.ref t.k_TrailError, .type "ValueError", .type "Exception", .type "BaseException", .type "object"]
  u_NoRule : XUp [.ref t.k_TrailError, .type "ValueError", .type "Exception", .type "BaseException", .type "object"]
  at_NoRule : XAttr K t.k_NoRule
  no_NoRule_row : NoAttr K t.k_NoRule "row"
  no_NoRule_ring : NoAttr K t.k_NoRule "ring"
  no_NoRule_word : NoAttr K t.k_NoRule "word"
  mk_NoRule : XMk K t.k_NoRule [.ref t.k_TrailError, .type "ValueError", .type "Exception", .type "BaseException", .type "object"] t.a_TrailError_init
  is_NoRule : XIs K t.k_NoRule
  iz_NoRule_NoText : PySem.W.kitOne K (.ref t.k_NoRule) (.ref t.k_NoText) = some false
  iz_NoRule_NoSign : PySem.W.kitOne K (.ref t.k_NoRule) (.ref t.k_NoSign) = some false
  iz_NoRule_Big : PySem.W.kitOne K (.ref t.k_NoRule) (.ref t.k_Big) = some false
  iz_NoRule_HasKeep : PySem.W.kitOne K (.ref t.k_NoRule) (.ref t.k_HasKeep) = some false
  iz_NoRule_NotLayered : PySem.W.kitOne K (.ref t.k_NoRule) (.ref t.k_NotLayered) = some false
  iz_NoRule_Fault : PySem.W.kitOne K (.ref t.k_NoRule) (.ref t.k_Fault) = some false
  iz_NoRule_NoRule : PySem.W.kitOne K (.ref t.k_NoRule) (.ref t.k_NoRule) = some true
  iz_NoRule_ValueError : PySem.W.kitOne K (.ref t.k_NoRule) (.type "ValueError") = some true
  m_Big : mg "Big" = some (.ref t.k_Big)
  x_Big : XCls K t.k_Big [.ref t.k_TrailError, .type "ValueError", .type "Exception", .type "BaseException", .type "object"]
  u_Big : XUp [.ref t.k_TrailError, .type "ValueError", .type "Exception", .type "BaseException", .type "object"]
  at_Big : XAttr K t.k_Big
  no_Big_row : NoAttr K t.k_Big "row"
  no_Big_ring : NoAttr K t.k_Big "ring"
  no_Big_word : NoAttr K t.k_Big "word"
  mk_Big : XMk K t.k_Big [.ref t.k_TrailError, .type "ValueError", .type "Exception", .type "BaseException", .type "object"] t.a_TrailError_init
  m_HasKeep : mg "HasKeep" = some (.ref t.k_HasKeep)
  x_HasKeep : XCls K t.k_HasKeep [.ref t.k_TrailError, .type "ValueError", .type "Exception", .type "BaseException", .type "object"]
  u_HasKeep : XUp [.ref t.k_TrailError, .type "ValueError", .type "Exception", .type "BaseException", .type "object"]
  at_HasKeep : XAttr K t.k_HasKeep
  no_HasKeep_row : NoAttr K t.k_HasKeep "row"
  no_HasKeep_ring : NoAttr K t.k_HasKeep "ring"
  no_HasKeep_word : NoAttr K t.k_HasKeep "word"
  mk_HasKeep : XMk K t.k_HasKeep [.ref t.k_TrailError, .type "ValueError", .type "Exception", .type "BaseException", .type "object"] t.a_TrailError_init
  m_NotLayered : mg "NotLayered" = some (.ref t.k_NotLayered)
  x_NotLayered : XCls K t.k_NotLayered [.ref t.k_TrailError, .type "ValueError", .type "Exception", .type "BaseException", .type "object"]
  u_NotLayered : XUp [.ref t.k_TrailError, .type "ValueError", .type "Exception", .type "BaseException", .type "object"]
  at_NotLayered : XAttr K t.k_NotLayered
  no_NotLayered_row : NoAttr K t.k_NotLayered "row"
  no_NotLayered_ring : NoAttr K t.k_NotLayered "ring"
  no_NotLayered_word : NoAttr K t.k_NotLayered "word"
  mk_NotLayered : XMk K t.k_NotLayered [.ref t.k_TrailError, .type "ValueError", .type "Exception", .type "BaseException", .type "object"] t.a_NotLayered_init
  m_Fault : mg "Fault" = some (.ref t.k_Fault)
  x_Fault : XCls K t.k_Fault [.ref t.k_TrailError, .type "ValueError", .type "Exception", .type "BaseException", .type "object"]
  u_Fault : XUp [.ref t.k_TrailError, .type "ValueError", .type "Exception", .type "BaseException", .type "object"]
  at_Fault : XAttr K t.k_Fault
  no_Fault_row : NoAttr K t.k_Fault "row"
  no_Fault_ring : NoAttr K t.k_Fault "ring"
  no_Fault_word : NoAttr K t.k_Fault "word"
  mk_Fault : XMk K t.k_Fault [.ref t.k_TrailError, .type "ValueError", .type "Exception", .type "BaseException", .type "object"] t.a_Fault_init
  F_TrailError_init : FunD K "__init__" "TrailError.__init__" s_TrailError_init t.a_TrailError_init t.d_TrailError_init (.ref t.v_TrailError_init)
  b_TrailError_init : Binds K t.d_TrailError_init ["self", "words", "row"] []
  bd_TrailError_init : Binds K t.d_TrailError_init ["self", "words", "row"] [.int 0 t.w_TrailError_init_0]
  F_NotLayered_init : FunD K "__init__" "NotLayered.__init__" s_NotLayered_init t.a_NotLayered_init t.d_NotLayered_init (.ref t.v_NotLayered_init)
  b_NotLayered_init : Binds K t.d_NotLayered_init ["self", "ring", "row"] []
  bd_NotLayered_init : Binds K t.d_NotLayered_init ["self", "ring", "row"] [.int 0 t.w_NotLayered_init_0]
  F_Fault_init : FunD K "__init__" "Fault.__init__" s_Fault_init t.a_Fault_init t.d_Fault_init (.ref t.v_Fault_init)
  b_Fault_init : Binds K t.d_Fault_init ["self", "word", "row"] []
  bd_Fault_init : Binds K t.d_Fault_init ["self", "word", "row"] [.int 0 t.w_Fault_init_0]
  F_parts : Fun K "parts" "parts" s_parts t.a_parts t.d_parts
  b_parts : Binds K t.d_parts ["term"] []
  m_parts : mg "parts" = some (.ref t.a_parts)
  F_is_inner : Fun K "is_inner" "is_inner" s_is_inner t.a_is_inner t.d_is_inner
  b_is_inner : Binds K t.d_is_inner ["sign"] []
  m_is_inner : mg "is_inner" = some (.ref t.a_is_inner)
  F_is_called : Fun K "is_called" "is_called" s_is_called t.a_is_called t.d_is_called
  b_is_called : Binds K t.d_is_called ["text", "firsts"] []
  m_is_called : mg "is_called" = some (.ref t.a_is_called)
  F_is_word : Fun K "is_word" "is_word" s_is_word t.a_is_word t.d_is_word
  b_is_word : Binds K t.d_is_word ["text"] []
  m_is_word : mg "is_word" = some (.ref t.a_is_word)
  F_is_named : Fun K "is_named" "is_named" s_is_named t.a_is_named t.d_is_named
  b_is_named : Binds K t.d_is_named ["term"] []
  m_is_named : mg "is_named" = some (.ref t.a_is_named)
  F_is_goal : Fun K "is_goal" "is_goal" s_is_goal t.a_is_goal t.d_is_goal
  b_is_goal : Binds K t.d_is_goal ["term"] []
  m_is_goal : mg "is_goal" = some (.ref t.a_is_goal)
  F_check_parts : Fun K "check_parts" "check_parts" s_check_parts t.a_check_parts t.d_check_parts
  b_check_parts : Binds K t.d_check_parts ["term"] []
  m_check_parts : mg "check_parts" = some (.ref t.a_check_parts)
  F_check_goals : Fun K "check_goals" "check_goals" s_check_goals t.a_check_goals t.d_check_goals
  b_check_goals : Binds K t.d_check_goals ["goals"] []
  m_check_goals : mg "check_goals" = some (.ref t.a_check_goals)
  F_rule : Fun K "rule" "rule" s_rule t.a_rule t.d_rule
  b_rule : Binds K t.d_rule ["head", "goals"] []
  m_rule : mg "rule" = some (.ref t.a_rule)
  F_question : Fun K "question" "question" s_question t.a_question t.d_question
  b_question : Binds K t.d_question ["goals"] []
  m_question : mg "question" = some (.ref t.a_question)
  F_l_cell_at : Fun K "_law_cell_at" "_law_cell_at" s_l_cell_at t.a_l_cell_at t.d_l_cell_at
  b_l_cell_at : Binds K t.d_l_cell_at ["_law_script", "_law_k"] []
  m_l_cell_at : mg "_law_cell_at" = some (.ref t.a_l_cell_at)
  F_l_words : Fun K "_law_words" "_law_words" s_l_words t.a_l_words t.d_l_words
  b_l_words : Binds K t.d_l_words ["_law_cell"] []
  m_l_words : mg "_law_words" = some (.ref t.a_l_words)
  F_l_chain : Fun K "_law_chain" "_law_chain" s_l_chain t.a_l_chain t.d_l_chain
  b_l_chain : Binds K t.d_l_chain ["_law_size_here", "_law_word"] []
  m_l_chain : mg "_law_chain" = some (.ref t.a_l_chain)
  F_l_term : Fun K "_law_term" "_law_term" s_l_term t.a_l_term t.d_l_term
  b_l_term : Binds K t.d_l_term ["_law_kind", "_law_words_here", "_law_size_here"] []
  m_l_term : mg "_law_term" = some (.ref t.a_l_term)
  F_l_size : Fun K "_law_size" "_law_size" s_l_size t.a_l_size t.d_l_size
  b_l_size : Binds K t.d_l_size ["_law_term_here"] []
  m_l_size : mg "_law_size" = some (.ref t.a_l_size)
  F_l_truth : Fun K "_law_truth" "_law_truth" s_l_truth t.a_l_truth t.d_l_truth
  b_l_truth : Binds K t.d_l_truth ["_law_found", "_law_due"] []
  m_l_truth : mg "_law_truth" = some (.ref t.a_l_truth)
  F_l_refusal : Fun K "_law_refusal" "_law_refusal" s_l_refusal t.a_l_refusal t.d_l_refusal
  b_l_refusal : Binds K t.d_l_refusal ["_law_e"] []
  m_l_refusal : mg "_law_refusal" = some (.ref t.a_l_refusal)
  F_l_rule_is : Fun K "_law_rule_is" "_law_rule_is" s_l_rule_is t.a_l_rule_is t.d_l_rule_is
  b_l_rule_is : Binds K t.d_l_rule_is ["_law_head", "_law_goals", "_law_good"] []
  m_l_rule_is : mg "_law_rule_is" = some (.ref t.a_l_rule_is)
  F_l_question_is : Fun K "_law_question_is" "_law_question_is" s_l_question_is t.a_l_question_is t.d_l_question_is
  b_l_question_is : Binds K t.d_l_question_is ["_law_goals", "_law_good"] []
  m_l_question_is : mg "_law_question_is" = some (.ref t.a_l_question_is)
  F_law : Fun K "law" "law" s_law t.a_law t.d_law
  b_law : Binds K t.d_law ["_law_script"] []
  m_law : mg "law" = some (.ref t.a_law)
  n_ValueError : mg "ValueError" = none
  n_all : mg "all" = none
  n_bool : mg "bool" = none
  n_int : mg "int" = none
  n_isinstance : mg "isinstance" = none
  n_len : mg "len" = none
  n_list : mg "list" = none
  n_range : mg "range" = none
  n_str : mg "str" = none
  n_sum : mg "sum" = none
  n_tuple : mg "tuple" = none
  n_zip : mg "zip" = none
  m_SMALL : mg "SMALL" = some (.str (PySem.Str.ofString "abcdefghijklmnopqrstuvwxyz") t.t_SMALL)
  m_GREAT : mg "GREAT" = some (.str (PySem.Str.ofString "ABCDEFGHIJKLMNOPQRSTUVWXYZ") t.t_GREAT)
  m_FIGURES : mg "FIGURES" = some (.str (PySem.Str.ofString "0123456789") t.t_FIGURES)
  m_MOST_LETTERS : mg "MOST_LETTERS" = some (.int 12 t.t_MOST_LETTERS)
  m_KEEP : mg "KEEP" = some (.str (PySem.Str.ofString "keep") t.t_KEEP)
  m_NOT : mg "NOT" = some (.str (PySem.Str.ofString "not") t.t_NOT)
  m_GOAL_MARKS : mg "GOAL_MARKS" = some (.ref t.c_GOAL_MARKS)
  q_GOAL_MARKS : ∀ H : Hp, SqT K H t.c_GOAL_MARKS [.str (PySem.Str.ofString "="), .str (PySem.Str.ofString ":="), .str (PySem.Str.ofString "<"), .str (PySem.Str.ofString "<=")]
  m_MOST_GOAL_PARTS : mg "MOST_GOAL_PARTS" = some (.int 24 t.t_MOST_GOAL_PARTS)
  m_MOST_GOALS : mg "MOST_GOALS" = some (.int 6 t.t_MOST_GOALS)
abbrev smallS : Str := Str.ofString "abcdefghijklmnopqrstuvwxyz"
abbrev greatS : Str := Str.ofString "ABCDEFGHIJKLMNOPQRSTUVWXYZ"
abbrev figS : Str := Str.ofString "0123456789"
abbrev one (c : Nat) : Str := ⟨#[c]⟩
def inner (c : Str) : Bool := inS c smallS || (inS c greatS || inS c figS)
def fst (z : Str) : Str := one (z.cps.getD 0 0)
def called (z firsts : Str) : Bool := (decide ((1 : Int) ≤ z.length) && decide ((z.length : Int) ≤ 12)) && (inS (fst z) firsts && z.cps.toList.all fun c => inner (one c))
abbrev sp_is_inner : Sp := fun vs H Q _ => match vs with | [.str c] => Q (.bl (inner c)) H | _ => False
abbrev sp_is_called : Sp := fun vs H Q _ => match vs with | [.str z, .str f] => z.length ≤ 1000 ∧ ∀ H', Same H H' → Q (.bl (called z f)) H' | _ => False
abbrev sp_is_word : Sp := fun vs H Q _ => match vs with | [.str z] => z.length ≤ 1000 ∧ ∀ H', Same H H' → Q (.bl (called z smallS)) H' | _ => False
theorem len_fst {z : Str} (h : 0 < z.length) : atI z.cps.toList 0 = some (z.cps.getD 0 0) := by
  obtain ⟨v, h1, h2⟩ := atI_lt (xs := z.cps.toList) (i := 0) (by omega) (by simp only [Array.length_toList]; unfold Str.length at h; omega)
  rw [h1]
  have h2 : z.cps.toList[0]? = some v := h2
  rw [Array.getElem?_toList] at h2
  rw [Array.getD_eq_getD_getElem?, h2]; rfl
theorem all_get (z : Str) (f : Nat → Bool) : ((List.range z.cps.size).map fun k => f (z.cps.getD k 0)).all id = z.cps.toList.all f := by
  rw [Bool.eq_iff_iff, List.all_eq_true, List.all_eq_true]
  constructor
  · intro h c hc
    obtain ⟨i, hi, e⟩ := List.getElem_of_mem hc
    have hi' : i < z.cps.size := by simpa using hi
    have := h (f (z.cps.getD i 0)) (List.mem_map.mpr ⟨i, List.mem_range.mpr hi', rfl⟩)
    rw [Array.getD_eq_getD_getElem?, ← Array.getElem?_toList, List.getElem?_eq_getElem hi] at this
    simpa [e] using this
  · intro h b hb
    obtain ⟨i, hi, rfl⟩ := List.mem_map.mp hb
    have hi := List.mem_range.mp hi
    rw [Array.getD_eq_getD_getElem?, Array.getElem?_eq_getElem hi]
    exact h _ (by simp)
theorem nil_or_snoc {α : Type} (l : List α) : l = [] ∨ ∃ a b, l = a ++ [b] := by
  rcases List.eq_nil_or_concat l with h | ⟨a, b, h⟩
  · exact .inl h
  · exact .inr ⟨a, b, by rw [h, List.concat_eq_append]⟩
abbrev sp_parts (K : PySem.W.Frag) : Sp := fun vs H Q _ => match vs with | [v] => ∃ t : Trm, Den K H v t.data ∧ t.size ≤ 1000 ∧ ∀ H', Same H H' → Q (.int t.size) H' | _ => False
theorem no_app {x : Str} (h : decide (x = appS) = false) {A B : Prop} (k : B) : if (false ^^ decide (x = appS)) = true then A else B := by rw [Bool.false_xor, h]; exact iteF k
theorem yes_app {x : Str} (h : decide (x = appS) = true) {A B : Prop} (k : A) : if (false ^^ decide (x = appS)) = true then A else B := by rw [Bool.false_xor, h]; exact iteT k
theorem d1 : decide (numS = appS) = false := by decide +kernel
theorem d2 : decide (anyS = appS) = false := by decide +kernel
theorem d3 : decide (appS = appS) = true := by decide +kernel
theorem d4 : decide (numS = numS) = true := by decide +kernel
theorem d5 : decide (anyS = numS) = false := by decide +kernel
theorem d6 : decide (appS = numS) = false := by decide +kernel
abbrev keepS : Str := Str.ofString "keep"
abbrev notS : Str := Str.ofString "not"
def goalMs : List Str := [Str.ofString "=", Str.ofString ":=", Str.ofString "<", Str.ofString "<="]
def named : Trm → Bool
  | .app sg _ => called sg smallS && !decide (sg ∈ [keepS, notS])
  | _ => false
def oneN : List Trm → Bool
  | [k] => named k
  | _ => false
def goalB : Trm → Bool
  | .app sg ks => if sg = keepS then decide (ks.length = 0) else if sg = notS then oneN ks else if sg ∈ goalMs then decide (ks.length = 2) else named (.app sg ks)
  | _ => false
theorem goal_app (sg : Str) (ks : List Trm) : goalB (.app sg ks) = if sg = keepS then decide (ks.length = 0) else if sg = notS then oneN ks else if sg ∈ goalMs then decide (ks.length = 2) else named (.app sg ks) := rfl
def sLen : Trm → Prop
  | .app sg _ => sg.length ≤ 1000
  | _ => True
def short (t : Trm) : Prop := sLen t ∧ match t with | .app _ ks => ∀ k ∈ ks, sLen k | _ => True
def fitB (t : Trm) : Bool := decide (t.size ≤ 24)
def goodGs (ts : List Trm) : Bool := decide (ts.length ≤ 6) && ts.all fun t => goalB t && fitB t
abbrev sp_is_named (K : PySem.W.Frag) : Sp := fun vs H Q _ => match vs with | [v] => ∃ t : Trm, Den K H v t.data ∧ sLen t ∧ ∀ H', Same H H' → Q (.bl (named t)) H' | _ => False
abbrev sp_is_goal (K : PySem.W.Frag) : Sp := fun vs H Q _ => match vs with | [v] => ∃ t : Trm, Den K H v t.data ∧ short t ∧ ∀ H', Same H H' → Q (.bl (goalB t)) H' | _ => False
def onB (H : Hp) (C : Addr) (Q : Hp → Prop) (E : XK) : Bool → Prop
  | true => ∀ H', Same H H' → Q H'
  | false => onX H C E
abbrev sp_check_parts (K : PySem.W.Frag) (C : Addr) : Sp := fun vs H Q E => match vs with | [v] => ∃ t : Trm, Den K H v t.data ∧ t.size ≤ 1000 ∧ onB H C (Q .non) E (fitB t) | _ => False
def SqA (K : PySem.W.Frag) (H : Hp) (a : Addr) (us : List V) : Prop := SqL K H a us ∨ SqT K H a us
theorem SqA.mono {K : PySem.W.Frag} {H H' : Hp} {a : Addr} {us : List V} (h : SqA K H a us) (s : Same H H') : SqA K H' a us := h.elim (fun q => .inl (s.seq q)) (fun q => .inr (s.tup q))
structure Gs (K : PySem.W.Frag) (H : Hp) (us : List V) (ts : List Trm) : Prop where
  den : DenL K H us (Trm.dataL ts)
  len : ts.length ≤ 100
  each : ∀ t ∈ ts, short t ∧ t.size ≤ 60
theorem Gs.mono {K : PySem.W.Frag} {H H' : Hp} {us : List V} {ts : List Trm} (g : Gs K H us ts) (s : Same H H') : Gs K H' us ts := ⟨g.den.mono s, g.len, g.each⟩
theorem Gs.ulen {K : PySem.W.Frag} {H : Hp} {us : List V} {ts : List Trm} (g : Gs K H us ts) : us.length = ts.length := by
  have := g.den.length
  rw [Trm.dataL_map, List.length_map] at this
  exact this
theorem Gs.get {K : PySem.W.Frag} {H : Hp} {us : List V} {ts : List Trm} (g : Gs K H us ts) {i : Nat} (hi : i < us.length) : ∃ t, ts[i]? = some t ∧ Den K H (us.getD i .non) t.data ∧ short t ∧ t.size ≤ 60 := by
  have hx : us[i]? = some us[i] := List.getElem?_eq_getElem hi
  have hg : us.getD i .non = us[i] := by rw [List.getD_eq_getElem?_getD, hx]; rfl
  have hki : i < ts.length := by rw [← g.ulen]; exact hi
  obtain ⟨d, e1, e2⟩ := g.den.get hx
  rw [Trm.dataL_map, List.getElem?_map, List.getElem?_eq_getElem hki] at e1
  have e1 : ts[i].data = d := Option.some.inj e1
  subst e1
  rw [hg]
  exact ⟨ts[i], List.getElem?_eq_getElem hki, e2, g.each _ (List.getElem_mem hki)⟩
theorem Gs.depth {K : PySem.W.Frag} {H : Hp} {us : List V} {ts : List Trm} (g : Gs K H us ts) : PyData.depthAll (Trm.dataL ts) ≤ 120 := by
  have key : ∀ l : List Trm, (∀ t ∈ l, t.size ≤ 60) → PyData.depthAll (Trm.dataL l) ≤ 120 := fun l => by
    induction l with
    | nil => intro _; simp [Trm.dataL, PyData.depthAll]
    | cons x r ih =>
      intro h
      have h1 := Trm.depth_le x
      have h2 := h x List.mem_cons_self
      have h3 := ih fun t ht => h t (List.mem_cons_of_mem _ ht)
      simp only [Trm.dataL, PyData.depthAll]
      omega
  exact key ts fun t ht => (g.each t ht).2
abbrev sp_check_goals (K : PySem.W.Frag) (C : Addr) : Sp := fun vs H Q E => match vs with | [.ref g] => ∃ us ts, SqA K H g us ∧ Gs K H us ts ∧ onB H C (Q .non) E (goodGs ts) | _ => False
def headB (t : Trm) : Bool := named t && fitB t
abbrev sp_rule (K : PySem.W.Frag) (C : Addr) : Sp := fun vs H Q E => match vs with | [v, .ref g] => ∃ t us ts, Den K H v t.data ∧ short t ∧ t.size ≤ 60 ∧ SqA K H g us ∧ Gs K H us ts ∧ onB H C (fun H' => ∀ p b H2, Same H' H2 → SqT K H2 p [v, .ref b] → SqT K H2 b us → Q (.ref p) H2) E (headB t && goodGs ts) | _ => False
abbrev sp_question (K : PySem.W.Frag) (C : Addr) : Sp := fun vs H Q E => match vs with | [.ref g] => ∃ us ts, SqA K H g us ∧ Gs K H us ts ∧ onB H C (fun H' => ∀ p H2, Same H' H2 → H p = none → H2 p = some (.lst us) → Q (.ref p) H2) E (goodGs ts) | _ => False
def goodW (w : Str) : Prop := called w smallS = true ∧ w ∉ [keepS, notS] ∧ w.length ≤ 12
abbrev sp_l_cell_at (K : PySem.W.Frag) : Sp := fun vs H Q _ => match vs with | [.ref a, .int k] => ∃ ns : List Int, SqL K H a (ns.map V.int) ∧ 0 ≤ k ∧ k ≤ 1000 ∧ ∀ v, Q (.int v) H | _ => False
abbrev sp_l_words : Sp := fun vs H Q _ => match vs with | [.int c] => 0 ≤ c ∧ ∀ (p : Addr) (w0 w1 w2 : Str) (H' : Hp), Same H H' → goodW w0 → goodW w1 → goodW w2 → H' p = some (.lst [.str w0, .str w1, .str w2]) → Q (.ref p) H' | _ => False
abbrev sp_l_chain (K : PySem.W.Frag) : Sp := fun vs H Q _ => match vs with | [.int s, .str w] => 0 ≤ s ∧ s ≤ 40 ∧ w.length ≤ 1000 ∧ ∀ (x : V) (t : Trm) (H' : Hp), Same H H' → Den K H' x t.data → (t.size : Int) ≤ s + 1 → sLen t → Q x H' | _ => False
abbrev sp_l_term (K : PySem.W.Frag) : Sp := fun vs H Q _ => match vs with | [.int kind, .ref wp, .int s] => ∃ w0 w1 w2 : Str, H wp = some (.lst [.str w0, .str w1, .str w2]) ∧ goodW w0 ∧ goodW w1 ∧ goodW w2 ∧ 0 ≤ kind ∧ kind < 16 ∧ 3 ≤ s ∧ s ≤ 30 ∧ ∀ (x : V) (t : Trm) (H' : Hp), Same H H' → Den K H' x t.data → named t = decide (kind = 4) → goalB t = decide (kind < 7) → short t → t.size ≤ 60 → Q x H' | _ => False
abbrev sp_l_size (K : PySem.W.Frag) (n : Nat) : Sp := fun vs H Q _ => match vs with | [v] => ∃ t : Trm, Den K H v t.data ∧ t.size ≤ n ∧ n ≤ 1000 ∧ ∀ H', Same H H' → Q (.int t.size) H' | _ => False
abbrev sp_l_truth : Sp := fun vs H Q _ => match vs with | [.bl f, .bl d] => f = d ∧ Q (.bl true) H | _ => False
abbrev sp_l_refusal (K : PySem.W.Frag) (C : Addr) : Sp := fun vs H Q _ => match vs with | [.ref ea] => IsX H ea C [(rowS, .int 0)] ∧ ∀ H' : Hp, Same H H' → Q (.bl true) H' | _ => False
abbrev sp_l_rule_is (K : PySem.W.Frag) : Sp := fun vs H Q _ => match vs with | [v, .ref g, .bl good] => ∃ t us ts, Den K H v t.data ∧ short t ∧ t.size ≤ 60 ∧ SqA K H g us ∧ Gs K H us ts ∧ good = (headB t && goodGs ts) ∧ ∀ H', Same H H' → Q (.bl true) H' | _ => False
abbrev sp_l_question_is (K : PySem.W.Frag) : Sp := fun vs H Q _ => match vs with | [.ref g, .bl good] => ∃ us ts, SqL K H g us ∧ Gs K H us ts ∧ good = goodGs ts ∧ ∀ H', Same H H' → Q (.bl true) H' | _ => False
abbrev sp_law (K : PySem.W.Frag) : Sp := fun vs H Q _ => match vs with | [.ref a] => ∃ ns : List Int, SqL K H a (ns.map V.int) ∧ ns.length ≤ 63 ∧ ∀ H', Q (.bl true) H' | _ => False
def isLow (l : List Nat) : Prop := ∀ c ∈ l, c ∈ smallS.cps.toList
theorem low_inner {c : Nat} (h : c ∈ smallS.cps.toList) : inS (one c) smallS = true ∧ inner (one c) = true := by
  have e : inS (one c) smallS = true := by rw [inS_one]; exact decide_eq_true h
  exact ⟨e, by unfold inner; rw [e]; rfl⟩
theorem low_called {l : List Nat} (h : isLow l) (h1 : 1 ≤ l.length) (h2 : l.length ≤ 12) : called ⟨l.toArray⟩ smallS = true := by
  have hl : (⟨l.toArray⟩ : Str).length = l.length := str_len l
  have a1 : (l.all fun c => inner (one c)) = true := by
    rw [List.all_eq_true]
    exact fun c hc => (low_inner (h c hc)).2
  have a2 : inS (fst ⟨l.toArray⟩) smallS = true := by
    match l, h1 with
    | c :: r, _ => exact (low_inner (h c List.mem_cons_self)).1
  unfold called
  rw [hl, a2, decide_eq_true (by omega), decide_eq_true (by omega)]
  exact a1
theorem good_low {l : List Nat} (h : isLow l) (h1 : 1 ≤ l.length) (h2 : l.length ≤ 9) (hn : (⟨l.toArray⟩ : Str) ∉ [keepS, notS]) : goodW ⟨l.toArray⟩ := ⟨low_called h h1 (by omega), hn, by rw [str_len]; omega⟩
theorem good_three {w : Str} (h : w ∈ [keepS, notS]) : goodW (w ++ Str.ofString "3") := by
  have h : w = keepS ∨ w = notS := by simpa using h
  rcases h with rfl | rfl
  · exact ⟨by decide +kernel, by decide +kernel, by decide +kernel⟩
  · exact ⟨by decide +kernel, by decide +kernel, by decide +kernel⟩
theorem sum_sizes : ∀ ks : List Trm, (ks.map fun t : Trm => (t.size : Int)).sum = (Trm.sizeL ks : Int)
  | [] => rfl
  | t :: r => by rw [List.map_cons, List.sum_cons, sum_sizes r, Trm.sizeL]; omega
end My
set_option Elab.async false
set_option linter.all false
set_option maxRecDepth 100000
set_option maxHeartbeats 4000000
namespace My
open PySem PySem.Spec PyProof.Rows L2
local macro_rules | `(tactic| walk_at "stp") => `(tactic| repeat (with_reducible first | refine tSeq_i ?_ | refine tAsg_i ?_ | refine gName_i ?_ | refine tRet_i ?_ | refine tIfS_i ?_ | refine tNext_i ?_ | refine tDrop_i ?_ | refine mTest_i ?_ | refine mTrue_i ?_ | refine mTru_b ?_ | refine mB_i ?_ | refine tOp_i ?_ | refine tUn_i ?_ | refine mUn_i ?_ | refine m20_i ?_ | refine mAdd_i ?_ | refine mEq_i ?_ | refine mEq_s ?_ | refine mEq_b ?_ | refine mInS_i ?_ | (refine' mVar_i ?hv ?_; (case hv => with_unfolding_all rfl)) | refine tC_i ?_ | refine mChain_i ?_ | refine mAndV_i ?_ | refine mOrV_i ?_ | refine mNotV_i ?_ | refine tIf_i ?_ | refine tAnd_i ?_ | refine tOr_i ?_ | refine tNot_i ?_ | refine tCB_i ?_ | refine tCall0_i ?_ | refine tCons_i ?_ | refine tNil_i ?_ | refine tBM_i ?_ | refine tBM0_i ?_ | refine tTup_i ?_ | refine tLst_i ?_ | refine tSl_i ?_ | refine tNoPart_i ?_ | refine mPart_i ?_ | refine mI_i ?_ | refine is_str ?_ | refine is_bool ?_ | refine is_int ?_ | refine is_int_bool ?_ | refine mMin_i ?_ | refine isN_non ?_ | refine isN_ref ?_ | refine mInt_b ?_ | refine mMax_i ?_ | refine tDGet_i ?_ | refine tDGet2_i ?_ | refine sDPut_i ?_ | refine tDisp_i ?_ | refine tPairs_c ?_ | refine tPairs_n ?_ | refine iRng2_i ?_ | refine iRev_i ?_ | refine iEnum_i ?_ | refine iSeq_i ?_ | refine mAbs_i ?_ | refine gCons_i ?_ | refine gNil_i ?_ | refine tWhile_i ?_ | (refine' mAug_i ?hw ?_; (case hw => with_unfolding_all rfl)) | refine mIAdd_i ?_ | refine tFor_i ?_ | refine tRaise_i ?_ | refine tXMake_i ?_ | refine tTry_i ?_ | refine tXGet_i ?_ | refine tBInit_i ?_ | refine tXSet_i ?_ | refine tPar_i ?_ | refine tF3i_i ?_ | refine iZip_i ?_ | refine iSeq_i ?_ | refine iStr_i ?_ | refine iList_i ?_ | refine iTup_i ?_ | refine iRng1_i ?_ | refine tComp_i ?_ | (refine m2_i ?hc ?_; (case hc => first | (show (0 : Int) < _; decide) | exact cdiv_i (by decide) (by decide)))))
local macro_rules | `(tactic| walk_at "stm") => `(tactic| repeat (with_reducible first | refine tAsg_i ?_ | refine gName_i ?_ | refine tRet_i ?_ | refine tIfS_i ?_ | refine tNext_i ?_ | refine tDrop_i ?_ | refine mTest_i ?_ | refine mTrue_i ?_ | refine mTru_b ?_ | refine mB_i ?_ | refine tOp_i ?_ | refine tUn_i ?_ | refine mUn_i ?_ | refine m20_i ?_ | refine mAdd_i ?_ | refine mEq_i ?_ | refine mEq_s ?_ | refine mEq_b ?_ | refine mInS_i ?_ | (refine' mVar_i ?hv ?_; (case hv => with_unfolding_all rfl)) | refine tC_i ?_ | refine mChain_i ?_ | refine mAndV_i ?_ | refine mOrV_i ?_ | refine mNotV_i ?_ | refine tIf_i ?_ | refine tAnd_i ?_ | refine tOr_i ?_ | refine tNot_i ?_ | refine tCB_i ?_ | refine tCall0_i ?_ | refine tCons_i ?_ | refine tNil_i ?_ | refine tBM_i ?_ | refine tBM0_i ?_ | refine tTup_i ?_ | refine tLst_i ?_ | refine tSl_i ?_ | refine tNoPart_i ?_ | refine mPart_i ?_ | refine mI_i ?_ | refine is_str ?_ | refine is_bool ?_ | refine is_int ?_ | refine is_int_bool ?_ | refine mMin_i ?_ | refine isN_non ?_ | refine isN_ref ?_ | refine mInt_b ?_ | refine mMax_i ?_ | refine tDGet_i ?_ | refine tDGet2_i ?_ | refine sDPut_i ?_ | refine tDisp_i ?_ | refine tPairs_c ?_ | refine tPairs_n ?_ | refine iRng2_i ?_ | refine iRev_i ?_ | refine iEnum_i ?_ | refine iSeq_i ?_ | refine mAbs_i ?_ | refine gCons_i ?_ | refine gNil_i ?_ | refine tWhile_i ?_ | (refine' mAug_i ?hw ?_; (case hw => with_unfolding_all rfl)) | refine mIAdd_i ?_ | refine tFor_i ?_ | refine tRaise_i ?_ | refine tXMake_i ?_ | refine tTry_i ?_ | refine tXGet_i ?_ | refine tBInit_i ?_ | refine tXSet_i ?_ | refine tPar_i ?_ | refine tF3i_i ?_ | refine iZip_i ?_ | refine iSeq_i ?_ | refine iStr_i ?_ | refine iList_i ?_ | refine iTup_i ?_ | refine iRng1_i ?_ | refine tComp_i ?_ | (refine m2_i ?hc ?_; (case hc => first | (show (0 : Int) < _; decide) | exact cdiv_i (by decide) (by decide)))))
section
variable {P : Program} {w : World} {K : PySem.W.Frag} {mg : Str → Option Value} {base : Heap} {t : Ad}
theorem ok_TrailError_init (T : Txt K mg t)  : FnOk P w K mg base CX0 1 t.a_TrailError_init t.d_TrailError_init ["self", "words", "row"] (sp_TrailError_init K) := by
  refine T.F_TrailError_init.ok sc_TrailError_init (fun vs H Q E h => ?_) (fun cdv A outer s H vs Q E hr h => ?_)
  · unfold sp_TrailError_init at h
    split at h
    · rfl
    · exact h.elim
  unfold sp_TrailError_init at h
  split at h
  rotate_left
  · exact h.elim
  refine ⟨_, (pss_cons (ps_expr (pe_binit rfl T.n_ValueError (pa_cons (mv 0) (pa_cons (mv 1) pa_nil)))) (pss_one (ps_xset (mv 0) (mv 2)))), ?_⟩
  rename_i e v r
  obtain ⟨C, bm, fr, Xc, U, Xa, n1, hx, q⟩ := h
  walk_at "stp"
  refine ⟨e, C, none, fr, bm, v, rfl, hx, Xc, ?_⟩
  walk_at "stp"
  refine ⟨e, C, bm, fr, rfl, Xc, U, Xa, n1, .inl ⟨hx, fun dx hdx hne => ?_⟩⟩
  refine q _ ⟨⟨dx, hdx, hne, upd_same, by rw [upd_ne hne]; exact upd_same⟩, fun b hb o ho => ?_⟩
  rw [upd_ne hb, upd_ne (fun z => by rw [z, hdx] at ho; cases ho)]
  exact ho
theorem ok_is_inner (T : Txt K mg t)  : FnOk P w K mg base CX0 1 t.a_is_inner t.d_is_inner ["sign"] (sp_is_inner) := by
  refine T.F_is_inner.ok sc_is_inner (fun vs H Q E h => ?_) (fun cdv A outer s H vs Q E hr h => ?_)
  · unfold sp_is_inner at h
    split at h
    · rfl
    · exact h.elim
  unfold sp_is_inner at h
  split at h
  rotate_left
  · exact h.elim
  refine ⟨_, (pss_one (ps_ret (me_or (pe_cmpR mo_inS (mv 0) (pe_gstr rfl T.m_SMALL) (by with_unfolding_all rfl)) (me_or (pe_cmpR mo_inS (mv 0) (pe_gstr rfl T.m_GREAT) (by with_unfolding_all rfl)) (pe_one (pe_cmpR mo_inS (mv 0) (pe_gstr rfl T.m_FIGURES) (by with_unfolding_all rfl))))))), ?_⟩
  rename_i c
  walk_at "stp"
  have h : Q (.bl (inner c)) H := h
  unfold inner at h
  refine iteB (fun e => ?_) (fun e => ?_)
  · rw [Bool.false_xor] at e
    rw [e] at h
    exact h
  · rw [Bool.false_xor] at e
    rw [e, Bool.false_or] at h
    walk_at "stp"
    refine iteB (fun e => ?_) (fun e => ?_)
    · rw [Bool.false_xor] at e
      rw [e] at h
      exact h
    · rw [Bool.false_xor] at e
      rw [e, Bool.false_or] at h
      walk_at "stp"
      rw [Bool.false_xor]
      exact h
theorem ok_is_called (T : Txt K mg t) (G_is_inner : FnOk P w K mg base CX0 1 t.a_is_inner t.d_is_inner ["sign"] (sp_is_inner)) : FnOk P w K mg base CX0 2 t.a_is_called t.d_is_called ["text", "firsts"] (sp_is_called) := by
  refine T.F_is_called.ok sc_is_called (fun vs H Q E h => ?_) (fun cdv A outer s H vs Q E hr h => ?_)
  · unfold sp_is_called at h
    split at h
    · rfl
    · exact h.elim
  unfold sp_is_called at h
  split at h
  rotate_left
  · exact h.elim
  refine ⟨_, (pss_cons (ps_if (PW.pt (pw_or (pt_not (kt_tru K rfl (pe_callB (kc_is K rfl) rfl T.n_isinstance boot_isinstance (pa_cons (mv 0) (pa_cons (pe_bty rfl T.n_str boot_str) pa_nil))))) (pw_or1 (pt_not (mt_chain mo_le mo_le pe_int (pe_callB (kc_len K rfl) rfl T.n_len PySem.boot_len (pa_cons (mv 0) pa_nil)) (pe_gint rfl T.m_MOST_LETTERS)))))) (pss_one (ps_ret pe_bl)) pss_nil) (pss_one (ps_ret (me_and (pe_cmpR mo_inS (pe_ix (ki_seq K rfl) (mv 0) pe_int (fun _ _ => rfl)) (mv 1) (by with_unfolding_all rfl)) (pe_one (pe_callB (kc_all K rfl rfl) rfl T.n_all boot_all (pa_cons (pe_comp rfl (pi_str (mv 0)) (comp_sc (defScope s_is_called) ["text", "firsts"] ["text", "firsts"] rfl rfl (by decide +kernel)) (fun _ _ _ _ _ => pts_nil) (fun _ _ _ _ _ => (pe_call G_is_inner (hr.mono (by first | decide | omega)) rfl T.m_is_inner T.F_is_inner.kp T.b_is_inner .nil pass0 (pa_cons (mv 0) pa_nil)))) pa_nil))))))), ?_⟩
  rename_i z f
  obtain ⟨hz, q⟩ := h
  walk_at "stp"
  refine iteF ?_
  walk_at "stp"
  refine mLen_s (ln (by omega)) ?_
  walk_at "stp"
  unfold called at q
  have lo : decide ((1 : Int) ≤ z.length) = false ∨ decide ((1 : Int) ≤ z.length) = true ∧ decide ((z.length : Int) ≤ 12) = false → Q (.bl false) H := fun c => by
    have q := q H (Same.refl H)
    rcases c with c | ⟨c1, c2⟩
    · rw [c] at q; simpa using q
    · rw [c1, c2] at q; simpa using q
  refine iteB (fun e => ?_) (fun e => ?_)
  rotate_left
  · walk_at "stp"
    exact lo (.inl e)
  walk_at "stp"
  refine iteB (fun e2 => ?_) (fun e2 => ?_)
  · walk_at "stp"
    refine lo (.inr ⟨e, ?_⟩)
    cases d : decide ((z.length : Int) ≤ 12) with
    | false => rfl
    | true => rw [d] at e2; cases e2
  have e2 : decide ((z.length : Int) ≤ 12) = true := by
    cases d : decide ((z.length : Int) ≤ 12) with
    | true => rfl
    | false => rw [d] at e2; cases e2
  rw [e, e2] at q
  simp only [Bool.and_self, Bool.true_and] at q
  have hp : 0 < z.length := by have := of_decide_eq_true e; omega
  walk_at "stp"
  refine mIx_s (ln (by omega)) (len_fst hp) ?_
  walk_at "stp"
  rw [Bool.false_xor]
  refine iteB (fun e3 => ?_) (fun e3 => ?_)
  rotate_left
  · have e3 : inS (fst z) f = false := e3
    rw [e3] at q
    exact q H (Same.refl H)
  have e3 : inS (fst z) f = true := e3
  rw [e3] at q
  simp only [Bool.true_and] at q
  walk_at "stp"
  refine ⟨z, rfl, fun D hD => ?_⟩
  refine comp_row (row_str z) (fun i ys H' => Same H H' ∧ ys = ((List.range i).map fun k => inner (one (z.cps.getD k 0))).map V.bl ∧ H' D = some (.lst ys)) (ln (by unfold Str.length at hz; omega)) ⟨same_new hD _, rfl, upd_same⟩ (fun _ _ _ _ => trivial) (fun i ys H' Q' hi hl hP k => ?_) (fun ys H' hl hP => ?_)
  · obtain ⟨h1, h2, h3⟩ := hP
    walk_at "stp"
    refine k _ _ h3 ⟨same_upd h1 hD, ?_, upd_same⟩
    rw [List.range_succ, List.map_append, List.map_append, h2]
    rfl
  · obtain ⟨h1, h2, h3⟩ := hP
    walk_at "stp"
    refine ⟨_, SqL.of (h2 ▸ h3), ?_⟩
    have := q H' h1
    rw [← all_get z (fun c => inner (one c))] at this
    exact this
theorem ok_is_word (T : Txt K mg t) (G_is_called : FnOk P w K mg base CX0 2 t.a_is_called t.d_is_called ["text", "firsts"] (sp_is_called)) : FnOk P w K mg base CX0 3 t.a_is_word t.d_is_word ["text"] (sp_is_word) := by
  refine T.F_is_word.ok sc_is_word (fun vs H Q E h => ?_) (fun cdv A outer s H vs Q E hr h => ?_)
  · unfold sp_is_word at h
    split at h
    · rfl
    · exact h.elim
  unfold sp_is_word at h
  split at h
  rotate_left
  · exact h.elim
  refine ⟨_, (pss_one (ps_ret (pe_call G_is_called (hr.mono (by first | decide | omega)) rfl T.m_is_called T.F_is_called.kp T.b_is_called .nil pass0 (pa_cons (mv 0) (pa_cons (pe_gstr rfl T.m_SMALL) pa_nil))))), ?_⟩
  rename_i z
  walk_at "stp"
  exact h
theorem ok_parts (T : Txt K mg t)  : FnOk P w K mg base CX0 1 t.a_parts t.d_parts ["term"] (sp_parts K) := by
  refine T.F_parts.ok sc_parts (fun vs H Q E h => ?_) (fun cdv A outer s H vs Q E hr h => ?_)
  · unfold sp_parts at h
    split at h
    · rfl
    · exact h.elim
  unfold sp_parts at h
  split at h
  rotate_left
  · exact h.elim
  refine ⟨_, (pss_cons (ps_set (i := 1) sc_parts.nd rfl (by first | exact Or.inl rfl | exact Or.inr rfl) pe_int) (pss_cons (ps_set (i := 2) sc_parts.nd rfl (by first | exact Or.inl rfl | exact Or.inr rfl) (pe_lst (pa_cons (mv 0) pa_nil))) (pss_cons (ps_while PassesOwn.never (kt_tru K rfl (mv 2)) (pss_cons (ps_set (i := 3) sc_parts.nd rfl (by first | exact Or.inl rfl | exact Or.inr rfl) (ke_bm0 K rfl PySem.F.plainAttrs_list PySem.F.slot_list_pop PySem.F.type_list_pop mm_pop (mv 2))) (pss_cons (mps_aug (i := 1) sc_parts.nd rfl (by first | exact Or.inl rfl | exact Or.inr rfl) pe_int mi_add) (pss_one (ps_if (mt_cmp mo_eq (pe_ix (ki_seq K rfl) (mv 3) pe_int (fun _ _ => rfl)) pe_str (nomark _)) (pss_one (ps_expr (ke_bm K rfl PySem.F.plainAttrs_list PySem.F.slot_list_extend PySem.F.type_list_extend (km_extend K rfl) (mv 2) (pa_cons (pe_ix (ki_seq K rfl) (mv 3) pe_int (fun _ _ => rfl)) pa_nil)))) pss_nil))))) (pss_one (ps_ret (mv 1)))))), ?_⟩
  rename_i v
  obtain ⟨t0, hd, hz, q⟩ := h
  walk_at "stp"
  refine ⟨ln (by show 1 ≤ 100000; decide), fun p hp => ?_⟩
  walk_at "stp"
  refine while_row (fun n σ' H' => ∃ (us : List V) (ts : List Trm) (c : Int) (o : Option V), σ' = [some v, some (.int c), some (.ref p), o] ∧ H' p = some (.lst us) ∧ DenL K H' us (Trm.dataL ts) ∧ c + (Trm.sizeL ts : Int) = (t0.size : Int) ∧ 0 ≤ c ∧ n = Trm.sizeL ts ∧ Same H H') t0.size ⟨[v], [t0], 0, none, rfl, upd_same, .cons (hd.mono (same_new hp _)) .nil, by simp [Trm.sizeL], by omega, by simp [Trm.sizeL], same_new hp _⟩ (fun n σ' H' R hP kT kF => ?_)
  obtain ⟨us, ts, c, o, rfl, h1, h2, h3, h3', h4, h5⟩ := hP
  walk_at "stp"
  refine .inl ⟨us, SqL.of h1, ?_⟩
  rcases nil_or_snoc ts with rfl | ⟨ts', t1, rfl⟩
  · have e := h2.nil_inv
    subst e
    refine kF H' ?_
    walk_at "stp"
    have e : c = (t0.size : Int) := by simp only [Trm.sizeL] at h3; omega
    rw [e]
    exact q H' h5
  · rw [Trm.dataL_map, List.map_append, ← Trm.dataL_map] at h2
    obtain ⟨us', u, rfl, g1, g2⟩ := DenL.snoc h2
    rw [Trm.sizeL_app] at h3 h4
    have s1 : Trm.sizeL [t1] = t1.size := by simp [Trm.sizeL]
    rw [s1] at h3 h4
    have e : (!(us' ++ [u]).isEmpty) = true := by simp
    rw [e]
    refine kT H' (fun D' e1 e2 hnx hct => ?_)
    walk_at "stp"
    refine ⟨.inl ⟨rfl, _, SqL.of h1⟩, ?_⟩
    refine mPop_i h1 ?_
    walk_at "stp"
    have f1 : DenL K (upd H' p (.lst us')) us' (Trm.dataL ts') := g1.lst h1
    have f2 : Den K (upd H' p (.lst us')) u t1.data := g2.lst h1
    have f3 : Same H (upd H' p (.lst us')) := same_upd h5 hp
    have tp := t1.size_pos
    cases t1 with
    | num m =>
      obtain ⟨a, rfl, hs⟩ := den_num f2
      refine mIx_t hs (v := .str numS) rfl ?_
      walk_at "stp"
      refine no_app d1 ?_
      walk_at "stp"
      exact hnx _ _ (Trm.sizeL ts') (by omega) ⟨us', ts', c + 1, _, rfl, upd_same, f1, by simp only [Trm.size] at h3; omega, by omega, rfl, f3⟩
    | any m =>
      obtain ⟨a, rfl, hs⟩ := den_any f2
      refine mIx_t hs (v := .str anyS) rfl ?_
      walk_at "stp"
      refine no_app d2 ?_
      walk_at "stp"
      exact hnx _ _ (Trm.sizeL ts') (by omega) ⟨us', ts', c + 1, _, rfl, upd_same, f1, by simp only [Trm.size] at h3; omega, by omega, rfl, f3⟩
    | app sg ks =>
      obtain ⟨a, b, us2, rfl, hs, hb, hk⟩ := den_app f2
      refine mIx_t hs (v := .str appS) rfl ?_
      walk_at "stp"
      refine yes_app d3 ?_
      walk_at "stp"
      refine ⟨.inl ⟨rfl, _, SqL.of upd_same⟩, ?_⟩
      walk_at "stp"
      refine mIx_t hs (v := .ref b) rfl ?_
      walk_at "stp"
      simp only [Trm.size] at h3 h4 tp
      have l1 := f1.length
      have l2 := hk.length
      rw [Trm.dataL_map, List.length_map] at l1 l2
      have l3 := Trm.len_le ts'
      have l4 := Trm.len_le ks
      refine mExt_t upd_same hb (ln (by omega)) ?_
      walk_at "stp"
      refine hnx _ _ (Trm.sizeL (ts' ++ ks)) (by rw [Trm.sizeL_app]; omega) ⟨us' ++ us2, ts' ++ ks, c + 1, _, rfl, upd_same, ?_, by rw [Trm.sizeL_app]; omega, by omega, rfl, same_upd f3 hp⟩
      rw [Trm.dataL_map, List.map_append, ← Trm.dataL_map, ← Trm.dataL_map]
      exact (f1.append hk).lst upd_same
theorem ok_is_named (T : Txt K mg t) (G_is_word : FnOk P w K mg base CX0 3 t.a_is_word t.d_is_word ["text"] (sp_is_word)) : FnOk P w K mg base CX0 4 t.a_is_named t.d_is_named ["term"] (sp_is_named K) := by
  refine T.F_is_named.ok sc_is_named (fun vs H Q E h => ?_) (fun cdv A outer s H vs Q E hr h => ?_)
  · unfold sp_is_named at h
    split at h
    · rfl
    · exact h.elim
  unfold sp_is_named at h
  split at h
  rotate_left
  · exact h.elim
  refine ⟨_, (pss_one (ps_ret (me_and (pe_cmpR mo_eq (pe_ix (ki_seq K rfl) (mv 0) pe_int (fun _ _ => rfl)) pe_str (nomark _)) (me_and (pe_call G_is_word (hr.mono (by first | decide | omega)) rfl T.m_is_word T.F_is_word.kp T.b_is_word .nil pass0 (pa_cons (pe_ix (ki_seq K rfl) (mv 0) pe_int (fun _ _ => rfl)) pa_nil)) (pe_one (pe_cmpR (ko_ninV K rfl) (pe_ix (ki_seq K rfl) (mv 0) pe_int (fun _ _ => rfl)) (pe_tup (pa_cons (pe_gstr rfl T.m_KEEP) (pa_cons (pe_gstr rfl T.m_NOT) pa_nil))) (by with_unfolding_all rfl))))))), ?_⟩
  rename_i v
  obtain ⟨t0, hd, hl, q⟩ := h
  cases t0 with
  | num m =>
    obtain ⟨a, rfl, hs⟩ := den_num hd
    walk_at "stp"
    refine mIx_t hs (v := .str numS) rfl ?_
    walk_at "stp"
    refine no_app d1 ?_
    exact q H (Same.refl H)
  | any m =>
    obtain ⟨a, rfl, hs⟩ := den_any hd
    walk_at "stp"
    refine mIx_t hs (v := .str anyS) rfl ?_
    walk_at "stp"
    refine no_app d2 ?_
    exact q H (Same.refl H)
  | app sg ks =>
    obtain ⟨a, b, us, rfl, hs, hb, hk⟩ := den_app hd
    have q : ∀ H', Same H H' → Q (.bl (called sg smallS && !decide (sg ∈ [keepS, notS]))) H' := q
    walk_at "stp"
    refine mIx_t hs (v := .str appS) rfl ?_
    walk_at "stp"
    refine yes_app d3 ?_
    walk_at "stp"
    refine mIx_t hs (v := .str sg) rfl ?_
    walk_at "stp"
    refine ⟨hl, fun H1 s1 => ?_⟩
    walk_at "stp"
    refine iteB (fun e => ?_) (fun e => ?_)
    · walk_at "stp"
      refine mIx_t (s1.tup hs) (v := .str sg) rfl ?_
      walk_at "stp"
      refine ⟨ln (by show 2 ≤ 100000; decide), fun p1 hp1 => ?_⟩
      refine nin_strs [keepS, notS] (.inr (SqT.of upd_same)) ?_
      rw [e, Bool.true_and] at q
      exact q _ (s1.trans (same_new hp1 _))
    · rw [e, Bool.false_and] at q
      exact q _ s1
theorem ok_is_goal (T : Txt K mg t) (G_is_named : FnOk P w K mg base CX0 4 t.a_is_named t.d_is_named ["term"] (sp_is_named K)) : FnOk P w K mg base CX0 5 t.a_is_goal t.d_is_goal ["term"] (sp_is_goal K) := by
  refine T.F_is_goal.ok sc_is_goal (fun vs H Q E h => ?_) (fun cdv A outer s H vs Q E hr h => ?_)
  · unfold sp_is_goal at h
    split at h
    · rfl
    · exact h.elim
  unfold sp_is_goal at h
  split at h
  rotate_left
  · exact h.elim
  refine ⟨_, (pss_cons (ps_if (mt_cmp mo_ne (pe_ix (ki_seq K rfl) (mv 0) pe_int (fun _ _ => rfl)) pe_str (nomark _)) (pss_one (ps_ret pe_bl)) pss_nil) (pss_cons (ps_if (mt_cmp mo_eq (pe_ix (ki_seq K rfl) (mv 0) pe_int (fun _ _ => rfl)) (pe_gstr rfl T.m_KEEP) (nomark _)) (pss_one (ps_ret (pe_cmpR mo_eq (pe_callB (kc_len K rfl) rfl T.n_len PySem.boot_len (pa_cons (pe_ix (ki_seq K rfl) (mv 0) pe_int (fun _ _ => rfl)) pa_nil)) pe_int (nomark _)))) pss_nil) (pss_cons (ps_if (mt_cmp mo_eq (pe_ix (ki_seq K rfl) (mv 0) pe_int (fun _ _ => rfl)) (pe_gstr rfl T.m_NOT) (nomark _)) (pss_one (ps_ret (me_and (pe_cmpR mo_eq (pe_callB (kc_len K rfl) rfl T.n_len PySem.boot_len (pa_cons (pe_ix (ki_seq K rfl) (mv 0) pe_int (fun _ _ => rfl)) pa_nil)) pe_int (nomark _)) (pe_one (pe_call G_is_named (hr.mono (by first | decide | omega)) rfl T.m_is_named T.F_is_named.kp T.b_is_named .nil pass0 (pa_cons (pe_ix (ki_seq K rfl) (pe_ix (ki_seq K rfl) (mv 0) pe_int (fun _ _ => rfl)) pe_int (fun _ _ => rfl)) pa_nil)))))) pss_nil) (pss_cons (ps_if (mt_cmp (ko_inV K rfl) (pe_ix (ki_seq K rfl) (mv 0) pe_int (fun _ _ => rfl)) (pe_glob (v := .ref t.c_GOAL_MARKS) rfl T.m_GOAL_MARKS rfl) (by with_unfolding_all rfl)) (pss_one (ps_ret (pe_cmpR mo_eq (pe_callB (kc_len K rfl) rfl T.n_len PySem.boot_len (pa_cons (pe_ix (ki_seq K rfl) (mv 0) pe_int (fun _ _ => rfl)) pa_nil)) pe_int (nomark _)))) pss_nil) (pss_one (ps_ret (pe_call G_is_named (hr.mono (by first | decide | omega)) rfl T.m_is_named T.F_is_named.kp T.b_is_named .nil pass0 (pa_cons (mv 0) pa_nil)))))))), ?_⟩
  rename_i v
  obtain ⟨t0, hd, hl, q⟩ := h
  have hd0 := hd
  cases t0 with
  | num m =>
    obtain ⟨a, rfl, hs⟩ := den_num hd
    walk_at "stp"
    refine mIx_t hs (v := .str numS) rfl ?_
    walk_at "stp"
    refine iteB (fun e => ?_) (fun e => absurd e (by decide +kernel))
    walk_at "stp"
    exact q H (Same.refl H)
  | any m =>
    obtain ⟨a, rfl, hs⟩ := den_any hd
    walk_at "stp"
    refine mIx_t hs (v := .str anyS) rfl ?_
    walk_at "stp"
    refine iteB (fun e => ?_) (fun e => absurd e (by decide +kernel))
    walk_at "stp"
    exact q H (Same.refl H)
  | app sg ks =>
    obtain ⟨a, b, us, rfl, hs, hb, hk⟩ := den_app hd
    have hlen : us.length = ks.length := by rw [hk.length, Trm.dataL_map, List.length_map]
    walk_at "stp"
    refine mIx_t hs (v := .str appS) rfl ?_
    walk_at "stp"
    refine iteB (fun e => absurd e (by decide +kernel)) (fun e => ?_)
    walk_at "stp"
    refine mIx_t hs (v := .str sg) rfl ?_
    walk_at "stp"
    refine iteB (fun e => ?_) (fun e => ?_)
    · have e1 : sg = keepS := of_decide_eq_true (by simpa using e)
      walk_at "stp"
      refine mIx_t hs (v := .ref b) rfl ?_
      walk_at "stp"
      refine mLen_t hb ?_
      walk_at "stp"
      have eg : goalB (.app sg ks) = decide (ks.length = 0) := by rw [goal_app, if_pos e1]
      rw [eg] at q
      have eb : (false ^^ decide ((us.length : Int) = 0)) = decide (ks.length = 0) := by rw [Bool.false_xor, Bool.eq_iff_iff]; simp only [decide_eq_true_eq]; omega
      rw [eb]
      exact q H (Same.refl H)
    have n1 : ¬ sg = keepS := of_decide_eq_false (xor_n e)
    walk_at "stp"
    refine mIx_t hs (v := .str sg) rfl ?_
    walk_at "stp"
    refine iteB (fun e => ?_) (fun e => ?_)
    · have e1 : sg = notS := of_decide_eq_true (by simpa using e)
      have eg : goalB (.app sg ks) = oneN ks := by rw [goal_app, if_neg n1, if_pos e1]
      rw [eg] at q
      walk_at "stp"
      refine mIx_t hs (v := .ref b) rfl ?_
      walk_at "stp"
      refine mLen_t hb ?_
      walk_at "stp"
      refine iteB (fun e => ?_) (fun e => ?_)
      · have h1 : ks.length = 1 := by
          have : (us.length : Int) = 1 := of_decide_eq_true (by simpa using e)
          omega
        match ks, h1, hk, hl, q with
        | [x], _, hk, hl, q =>
          simp only [Trm.dataL] at hk
          cases hk with
          | cons k1 k2 =>
            cases k2
            walk_at "stp"
            refine mIx_t hs (v := .ref b) rfl ?_
            walk_at "stp"
            refine mIx_t hb rfl ?_
            walk_at "stp"
            exact ⟨x, k1, hl.2 x (by simp), q⟩
      · have h1 : ks.length ≠ 1 := by
          have := of_decide_eq_false (xor_n e)
          omega
        have e0 : oneN ks = false := by
          match ks, h1 with
          | [], _ => rfl
          | [x], h => exact absurd rfl h
          | _ :: _ :: _, _ => rfl
        rw [e0] at q
        exact q H (Same.refl H)
    have n2 : ¬ sg = notS := of_decide_eq_false (xor_n e)
    walk_at "stp"
    refine mIx_t hs (v := .str sg) rfl ?_
    walk_at "stp"
    refine in_strs goalMs (.inr (T.q_GOAL_MARKS _)) ?_
    walk_at "stp"
    refine iteB (fun e => ?_) (fun e => ?_)
    · have e1 : sg ∈ goalMs := of_decide_eq_true e
      have eg : goalB (.app sg ks) = decide (ks.length = 2) := by rw [goal_app, if_neg n1, if_neg n2, if_pos e1]
      rw [eg] at q
      walk_at "stp"
      refine mIx_t hs (v := .ref b) rfl ?_
      walk_at "stp"
      refine mLen_t hb ?_
      walk_at "stp"
      have eb : (false ^^ decide ((us.length : Int) = 2)) = decide (ks.length = 2) := by rw [Bool.false_xor, Bool.eq_iff_iff]; simp only [decide_eq_true_eq]; omega
      rw [eb]
      exact q H (Same.refl H)
    · have e1 : ¬ sg ∈ goalMs := of_decide_eq_false e
      have eg : goalB (.app sg ks) = named (.app sg ks) := by rw [goal_app, if_neg n1, if_neg n2, if_neg e1]
      rw [eg] at q
      walk_at "stp"
      exact ⟨_, hd0, hl.1, q⟩
end
end My
set_option Elab.async false
set_option linter.all false
set_option maxRecDepth 100000
set_option maxHeartbeats 4000000
namespace My
open PySem PySem.Spec PyProof.Rows L2
local macro_rules | `(tactic| walk_at "stp") => `(tactic| repeat (with_reducible first | refine tSeq_i ?_ | refine tAsg_i ?_ | refine gName_i ?_ | refine tRet_i ?_ | refine tIfS_i ?_ | refine tNext_i ?_ | refine tDrop_i ?_ | refine mTest_i ?_ | refine mTrue_i ?_ | refine mTru_b ?_ | refine mB_i ?_ | refine tOp_i ?_ | refine tUn_i ?_ | refine mUn_i ?_ | refine m20_i ?_ | refine mAdd_i ?_ | refine mEq_i ?_ | refine mEq_s ?_ | refine mEq_b ?_ | refine mInS_i ?_ | (refine' mVar_i ?hv ?_; (case hv => with_unfolding_all rfl)) | refine tC_i ?_ | refine mChain_i ?_ | refine mAndV_i ?_ | refine mOrV_i ?_ | refine mNotV_i ?_ | refine tIf_i ?_ | refine tAnd_i ?_ | refine tOr_i ?_ | refine tNot_i ?_ | refine tCB_i ?_ | refine tCall0_i ?_ | refine tCons_i ?_ | refine tNil_i ?_ | refine tBM_i ?_ | refine tBM0_i ?_ | refine tTup_i ?_ | refine tLst_i ?_ | refine tSl_i ?_ | refine tNoPart_i ?_ | refine mPart_i ?_ | refine mI_i ?_ | refine is_str ?_ | refine is_bool ?_ | refine is_int ?_ | refine is_int_bool ?_ | refine mMin_i ?_ | refine isN_non ?_ | refine isN_ref ?_ | refine mInt_b ?_ | refine mMax_i ?_ | refine tDGet_i ?_ | refine tDGet2_i ?_ | refine sDPut_i ?_ | refine tDisp_i ?_ | refine tPairs_c ?_ | refine tPairs_n ?_ | refine iRng2_i ?_ | refine iRev_i ?_ | refine iEnum_i ?_ | refine iSeq_i ?_ | refine mAbs_i ?_ | refine gCons_i ?_ | refine gNil_i ?_ | refine tWhile_i ?_ | (refine' mAug_i ?hw ?_; (case hw => with_unfolding_all rfl)) | refine mIAdd_i ?_ | refine tFor_i ?_ | refine tRaise_i ?_ | refine tXMake_i ?_ | refine tTry_i ?_ | refine tXGet_i ?_ | refine tBInit_i ?_ | refine tXSet_i ?_ | refine tPar_i ?_ | refine tF3i_i ?_ | refine iZip_i ?_ | refine iSeq_i ?_ | refine iStr_i ?_ | refine iList_i ?_ | refine iTup_i ?_ | refine iRng1_i ?_ | refine tComp_i ?_ | (refine m2_i ?hc ?_; (case hc => first | (show (0 : Int) < _; decide) | exact cdiv_i (by decide) (by decide)))))
local macro_rules | `(tactic| walk_at "stm") => `(tactic| repeat (with_reducible first | refine tAsg_i ?_ | refine gName_i ?_ | refine tRet_i ?_ | refine tIfS_i ?_ | refine tNext_i ?_ | refine tDrop_i ?_ | refine mTest_i ?_ | refine mTrue_i ?_ | refine mTru_b ?_ | refine mB_i ?_ | refine tOp_i ?_ | refine tUn_i ?_ | refine mUn_i ?_ | refine m20_i ?_ | refine mAdd_i ?_ | refine mEq_i ?_ | refine mEq_s ?_ | refine mEq_b ?_ | refine mInS_i ?_ | (refine' mVar_i ?hv ?_; (case hv => with_unfolding_all rfl)) | refine tC_i ?_ | refine mChain_i ?_ | refine mAndV_i ?_ | refine mOrV_i ?_ | refine mNotV_i ?_ | refine tIf_i ?_ | refine tAnd_i ?_ | refine tOr_i ?_ | refine tNot_i ?_ | refine tCB_i ?_ | refine tCall0_i ?_ | refine tCons_i ?_ | refine tNil_i ?_ | refine tBM_i ?_ | refine tBM0_i ?_ | refine tTup_i ?_ | refine tLst_i ?_ | refine tSl_i ?_ | refine tNoPart_i ?_ | refine mPart_i ?_ | refine mI_i ?_ | refine is_str ?_ | refine is_bool ?_ | refine is_int ?_ | refine is_int_bool ?_ | refine mMin_i ?_ | refine isN_non ?_ | refine isN_ref ?_ | refine mInt_b ?_ | refine mMax_i ?_ | refine tDGet_i ?_ | refine tDGet2_i ?_ | refine sDPut_i ?_ | refine tDisp_i ?_ | refine tPairs_c ?_ | refine tPairs_n ?_ | refine iRng2_i ?_ | refine iRev_i ?_ | refine iEnum_i ?_ | refine iSeq_i ?_ | refine mAbs_i ?_ | refine gCons_i ?_ | refine gNil_i ?_ | refine tWhile_i ?_ | (refine' mAug_i ?hw ?_; (case hw => with_unfolding_all rfl)) | refine mIAdd_i ?_ | refine tFor_i ?_ | refine tRaise_i ?_ | refine tXMake_i ?_ | refine tTry_i ?_ | refine tXGet_i ?_ | refine tBInit_i ?_ | refine tXSet_i ?_ | refine tPar_i ?_ | refine tF3i_i ?_ | refine iZip_i ?_ | refine iSeq_i ?_ | refine iStr_i ?_ | refine iList_i ?_ | refine iTup_i ?_ | refine iRng1_i ?_ | refine tComp_i ?_ | (refine m2_i ?hc ?_; (case hc => first | (show (0 : Int) < _; decide) | exact cdiv_i (by decide) (by decide)))))
section
variable {P : Program} {w : World} {K : PySem.W.Frag} {mg : Str → Option Value} {base : Heap} {t : Ad}
theorem ok_check_parts (T : Txt K mg t) (G_parts : FnOk P w K mg base CX0 1 t.a_parts t.d_parts ["term"] (sp_parts K)) (G_TrailError_init : FnOk P w K mg base CX0 1 t.a_TrailError_init t.d_TrailError_init ["self", "words", "row"] (sp_TrailError_init K)) : FnOk P w K mg base (CXo P w) 3 t.a_check_parts t.d_check_parts ["term"] (sp_check_parts K t.k_NoRule) := by
  refine T.F_check_parts.okX sc_check_parts (fun vs H Q E h => ?_) (fun cdv A outer s H vs Q E hr h => ?_)
  · unfold sp_check_parts at h
    split at h
    · rfl
    · exact h.elim
  unfold sp_check_parts at h
  split at h
  rotate_left
  · exact h.elim
  refine ⟨_, (pss_one (ps_if (mt_cmp mo_gt (pe_call G_parts (hr.mono (by first | decide | omega)) rfl T.m_parts T.F_parts.kp T.b_parts .nil pass0 (pa_cons (mv 0) pa_nil)) (pe_gint rfl T.m_MOST_GOAL_PARTS) (nomark _)) (pss_one (ps_raise rfl xeOk_cx (pe_xmake T.mk_NoRule G_TrailError_init (hr.mono (by first | decide | omega)) rfl T.m_NoRule T.bd_TrailError_init (show Vals [V.int 0] [Value.int 0 t.w_TrailError_init_0] from (.cons ⟨_, rfl⟩ .nil)) pass0 (pa_cons (pe_f3i (pe_gint rfl T.m_MOST_GOAL_PARTS)) pa_nil)))) pss_nil)), ?_⟩
  rename_i v
  obtain ⟨t0, hd, hz, q⟩ := h
  walk_at "stp"
  refine ⟨t0, hd, hz, fun H1 s1 => ?_⟩
  walk_at "stp"
  refine iteB (fun e => ?_) (fun e => ?_)
  · have hf : fitB t0 = false := decide_eq_false (by have := of_decide_eq_true e; omega)
    rw [hf] at q
    have q : onX H t.k_NoRule E := q
    walk_at "stp"
    refine ⟨24, rfl, by decide +kernel, by decide +kernel, fun z => ?_⟩
    walk_at "stp"
    refine ⟨by simp, fun ea hea => ?_⟩
    refine ⟨t.k_NoRule, _, true, T.x_NoRule, T.u_NoRule, T.at_NoRule, T.no_NoRule_row, upd_same, fun H9 b9 => ⟨rfl, ?_⟩⟩
    obtain ⟨dx9, h91, h92, h93⟩ := born_raise hea (Same.refl _) hea b9
    refine ⟨ea, t.k_NoRule, dx9, _, rfl, T.x_NoRule, h91, ?_⟩
    exact q ea _ (s1.trans h93) h92
  · have hf : fitB t0 = true := decide_eq_true (by have := of_decide_eq_false e; omega)
    rw [hf] at q
    walk_at "stp"
    exact q _ s1
theorem bad_goal {ts : List Trm} {i : Nat} {x : Trm} (h : ts[i]? = some x) (e : (goalB x && fitB x) = false) : goodGs ts = false := by
  unfold goodGs
  have : (ts.all fun t => goalB t && fitB t) = false := by
    rw [List.all_eq_false]
    exact ⟨x, List.mem_of_getElem? h, by rw [e]; simp⟩
  rw [this, Bool.and_false]
theorem take_all {ts : List Trm} {i : Nat} {x : Trm} (h : ts[i]? = some x) (f : Trm → Bool) : (ts.take (i + 1)).all f = ((ts.take i).all f && f x) := by
  rw [List.take_add_one, h, List.all_append]
  simp
theorem ok_check_goals (T : Txt K mg t) (G_TrailError_init : FnOk P w K mg base CX0 1 t.a_TrailError_init t.d_TrailError_init ["self", "words", "row"] (sp_TrailError_init K)) (G_check_parts : FnOk P w K mg base (CXo P w) 3 t.a_check_parts t.d_check_parts ["term"] (sp_check_parts K t.k_NoRule)) (G_is_goal : FnOk P w K mg base CX0 5 t.a_is_goal t.d_is_goal ["term"] (sp_is_goal K)) : FnOk P w K mg base (CXo P w) 6 t.a_check_goals t.d_check_goals ["goals"] (sp_check_goals K t.k_NoRule) := by
  refine T.F_check_goals.okX sc_check_goals (fun vs H Q E h => ?_) (fun cdv A outer s H vs Q E hr h => ?_)
  · unfold sp_check_goals at h
    split at h
    · rfl
    · exact h.elim
  unfold sp_check_goals at h
  split at h
  rotate_left
  · exact h.elim
  refine ⟨_, (pss_cons (ps_if (mt_cmp mo_gt (pe_callB (kc_len K rfl) rfl T.n_len PySem.boot_len (pa_cons (mv 0) pa_nil)) (pe_gint rfl T.m_MOST_GOALS) (nomark _)) (pss_one (ps_raise rfl xeOk_cx (pe_xmake T.mk_NoRule G_TrailError_init (hr.mono (by first | decide | omega)) rfl T.m_NoRule T.bd_TrailError_init (show Vals [V.int 0] [Value.int 0 t.w_TrailError_init_0] from (.cons ⟨_, rfl⟩ .nil)) pass0 (pa_cons (pe_f3i (pe_gint rfl T.m_MOST_GOALS)) pa_nil)))) pss_nil) (pss_one (ps_for PassesOwn.leaving rfl (kpi_seq K rfl (mv 0)) (pg_name (i := 1) sc_check_goals.nd rfl (by first | exact Or.inl rfl | exact Or.inr rfl)) (pss_cons (ps_if (pt_not (kt_tru K rfl (pe_call G_is_goal (hr.mono (by first | decide | omega)) rfl T.m_is_goal T.F_is_goal.kp T.b_is_goal .nil pass0 (pa_cons (mv 1) pa_nil)))) (pss_one (ps_raise rfl xeOk_cx (pe_xmake T.mk_NoRule G_TrailError_init (hr.mono (by first | decide | omega)) rfl T.m_NoRule T.bd_TrailError_init (show Vals [V.int 0] [Value.int 0 t.w_TrailError_init_0] from (.cons ⟨_, rfl⟩ .nil)) pass0 (pa_cons pe_str pa_nil)))) pss_nil) (pss_one (ps_expr (pe_call G_check_parts (hr.mono (by first | decide | omega)) rfl T.m_check_parts T.F_check_parts.kp T.b_check_parts .nil passX (pa_cons (mv 1) pa_nil)))))))), ?_⟩
  rename_i a
  obtain ⟨us, ts, hS, hG, q⟩ := h
  have hul := hG.ulen
  have bad : goodGs ts = false → ∀ H1, Same H H1 → ∀ ea H2, Same H1 H2 → IsX H2 ea t.k_NoRule [(rowS, .int 0)] → E (.ref t.k_NoRule) (some ea) H2 := fun hg H1 s1 ea H2 s2 i2 => by
    rw [hg] at q
    exact q ea H2 (s1.trans s2) i2
  have hlen : ∀ Q' : VK, Q' (.int us.length) H → mLen K [.ref a] H Q' := fun Q' k => hS.elim (fun z => mLen_l z k) (fun z => mLen_t z k)
  walk_at "stp"
  refine hlen _ ?_
  walk_at "stp"
  refine iteB (fun e => ?_) (fun e => ?_)
  · have hg : goodGs ts = false := by
      have : ¬ ts.length ≤ 6 := by have := of_decide_eq_true e; omega
      unfold goodGs
      rw [decide_eq_false this]
      rfl
    walk_at "stp"
    refine ⟨6, rfl, by decide +kernel, by decide +kernel, fun z => ?_⟩
    walk_at "stp"
    refine ⟨by simp, fun ea hea => ?_⟩
    refine ⟨t.k_NoRule, _, true, T.x_NoRule, T.u_NoRule, T.at_NoRule, T.no_NoRule_row, upd_same, fun H9 b9 => ⟨rfl, ?_⟩⟩
    obtain ⟨dx9, h91, h92, h93⟩ := born_raise hea (Same.refl _) hea b9
    refine ⟨ea, t.k_NoRule, dx9, _, rfl, T.x_NoRule, h91, ?_⟩
    exact bad hg H (Same.refl _) ea _ h93 h92
  have h6 : ts.length ≤ 6 := by have := of_decide_eq_false e; omega
  walk_at "stp"
  refine ⟨a, rfl, ?_⟩
  rcases hS with hS | hS
  · refine .inl ⟨us, hS, ?_⟩
    refine for_row (row_list (xs := us)) (fun i σ' H1 => ∃ o : Option V, σ' = [some (.ref a), o] ∧ Same H H1 ∧ (ts.take i).all (fun t => goalB t && fitB t) = true) ⟨none, rfl, Same.refl _, rfl⟩ (fun i σ' H1 hP => by obtain ⟨o, _, s1, _⟩ := hP; exact s1.seq hS) (fun i σ' H1 hi hP => ?_) (fun σ' H1 hP => ?_)
    · obtain ⟨o, rfl, s1, g1⟩ := hP
      obtain ⟨t1, e1, d1', sh, z1⟩ := (hG.mono s1).get hi
      walk_at "stp"
      refine ⟨t1, d1', sh, fun H2 s2 => ?_⟩
      walk_at "stp"
      have s12 := s1.trans s2
      refine iteB (fun e => ?_) (fun e => ?_)
      · have eg : goalB t1 = false := by simpa using e
        have hg : goodGs ts = false := bad_goal e1 (by rw [eg]; rfl)
        walk_at "stp"
        refine ⟨by simp, fun ea hea => ?_⟩
        refine ⟨t.k_NoRule, _, true, T.x_NoRule, T.u_NoRule, T.at_NoRule, T.no_NoRule_row, upd_same, fun H9 b9 => ⟨rfl, ?_⟩⟩
        obtain ⟨dx9, h91, h92, h93⟩ := born_raise hea (Same.refl _) hea b9
        refine ⟨ea, t.k_NoRule, dx9, _, rfl, T.x_NoRule, h91, ?_⟩
        exact bad hg H2 s12 ea _ h93 h92
      · have eg : goalB t1 = true := by simpa using e
        walk_at "stp"
        refine ⟨t1, d1'.mono s2, by omega, ?_⟩
        cases hf : fitB t1 with
        | true =>
          refine fun H3 s3 => ?_
          walk_at "stp"
          exact ⟨_, rfl, s12.trans s3, by rw [take_all e1, g1, eg, hf]; rfl⟩
        | false =>
          have hg : goodGs ts = false := bad_goal e1 (by rw [hf]; simp)
          exact fun ea H3 s3 i3 => bad hg H2 s12 ea H3 s3 i3
    · obtain ⟨o, rfl, s1, g1⟩ := hP
      have hg : goodGs ts = true := by
        rw [hul, List.take_length] at g1
        unfold goodGs
        rw [g1, decide_eq_true h6]
        rfl
      rw [hg] at q
      exact q H1 s1
  · refine .inr ⟨us, hS, ?_⟩
    refine for_row (row_tup (xs := us)) (fun i σ' H1 => ∃ o : Option V, σ' = [some (.ref a), o] ∧ Same H H1 ∧ (ts.take i).all (fun t => goalB t && fitB t) = true) ⟨none, rfl, Same.refl _, rfl⟩ (fun i σ' H1 hP => by obtain ⟨o, _, s1, _⟩ := hP; exact s1.tup hS) (fun i σ' H1 hi hP => ?_) (fun σ' H1 hP => ?_)
    · obtain ⟨o, rfl, s1, g1⟩ := hP
      obtain ⟨t1, e1, d1', sh, z1⟩ := (hG.mono s1).get hi
      walk_at "stp"
      refine ⟨t1, d1', sh, fun H2 s2 => ?_⟩
      walk_at "stp"
      have s12 := s1.trans s2
      refine iteB (fun e => ?_) (fun e => ?_)
      · have eg : goalB t1 = false := by simpa using e
        have hg : goodGs ts = false := bad_goal e1 (by rw [eg]; rfl)
        walk_at "stp"
        refine ⟨by simp, fun ea hea => ?_⟩
        refine ⟨t.k_NoRule, _, true, T.x_NoRule, T.u_NoRule, T.at_NoRule, T.no_NoRule_row, upd_same, fun H9 b9 => ⟨rfl, ?_⟩⟩
        obtain ⟨dx9, h91, h92, h93⟩ := born_raise hea (Same.refl _) hea b9
        refine ⟨ea, t.k_NoRule, dx9, _, rfl, T.x_NoRule, h91, ?_⟩
        exact bad hg H2 s12 ea _ h93 h92
      · have eg : goalB t1 = true := by simpa using e
        walk_at "stp"
        refine ⟨t1, d1'.mono s2, by omega, ?_⟩
        cases hf : fitB t1 with
        | true =>
          refine fun H3 s3 => ?_
          walk_at "stp"
          exact ⟨_, rfl, s12.trans s3, by rw [take_all e1, g1, eg, hf]; rfl⟩
        | false =>
          have hg : goodGs ts = false := bad_goal e1 (by rw [hf]; simp)
          exact fun ea H3 s3 i3 => bad hg H2 s12 ea H3 s3 i3
    · obtain ⟨o, rfl, s1, g1⟩ := hP
      have hg : goodGs ts = true := by
        rw [hul, List.take_length] at g1
        unfold goodGs
        rw [g1, decide_eq_true h6]
        rfl
      rw [hg] at q
      exact q H1 s1
theorem ok_question (T : Txt K mg t) (G_check_goals : FnOk P w K mg base (CXo P w) 6 t.a_check_goals t.d_check_goals ["goals"] (sp_check_goals K t.k_NoRule)) : FnOk P w K mg base (CXo P w) 7 t.a_question t.d_question ["goals"] (sp_question K t.k_NoRule) := by
  refine T.F_question.okX sc_question (fun vs H Q E h => ?_) (fun cdv A outer s H vs Q E hr h => ?_)
  · unfold sp_question at h
    split at h
    · rfl
    · exact h.elim
  unfold sp_question at h
  split at h
  rotate_left
  · exact h.elim
  refine ⟨_, (pss_cons (ps_expr (pe_call G_check_goals (hr.mono (by first | decide | omega)) rfl T.m_check_goals T.F_check_goals.kp T.b_check_goals .nil passX (pa_cons (mv 0) pa_nil))) (pss_one (ps_ret (pe_callTy (kc_list K rfl) rfl T.n_list boot_list (pa_cons (mv 0) pa_nil))))), ?_⟩
  rename_i a
  obtain ⟨us, ts, hS, hG, q⟩ := h
  walk_at "stp"
  refine ⟨us, ts, hS, hG, ?_⟩
  cases hg : goodGs ts with
  | false =>
    rw [hg] at q
    exact q
  | true =>
    rw [hg] at q
    refine fun H1 s1 => ?_
    walk_at "stp"
    rcases hS with hS | hS
    · exact mLst_l (s1.seq hS) fun l hl => q H1 s1 l _ (same_new hl _) (s1.free hl) upd_same
    · exact ⟨a, us, rfl, .inr (s1.tup hS), fun l hl => q H1 s1 l _ (same_new hl _) (s1.free hl) upd_same⟩
theorem ok_rule (T : Txt K mg t) (G_check_parts : FnOk P w K mg base (CXo P w) 3 t.a_check_parts t.d_check_parts ["term"] (sp_check_parts K t.k_NoRule)) (G_check_goals : FnOk P w K mg base (CXo P w) 6 t.a_check_goals t.d_check_goals ["goals"] (sp_check_goals K t.k_NoRule)) (G_is_named : FnOk P w K mg base CX0 4 t.a_is_named t.d_is_named ["term"] (sp_is_named K)) (G_TrailError_init : FnOk P w K mg base CX0 1 t.a_TrailError_init t.d_TrailError_init ["self", "words", "row"] (sp_TrailError_init K)) : FnOk P w K mg base (CXo P w) 7 t.a_rule t.d_rule ["head", "goals"] (sp_rule K t.k_NoRule) := by
  refine T.F_rule.okX sc_rule (fun vs H Q E h => ?_) (fun cdv A outer s H vs Q E hr h => ?_)
  · unfold sp_rule at h
    split at h
    · rfl
    · exact h.elim
  unfold sp_rule at h
  split at h
  rotate_left
  · exact h.elim
  refine ⟨_, (pss_cons (ps_if (pt_not (kt_tru K rfl (pe_call G_is_named (hr.mono (by first | decide | omega)) rfl T.m_is_named T.F_is_named.kp T.b_is_named .nil pass0 (pa_cons (mv 0) pa_nil)))) (pss_one (ps_raise rfl xeOk_cx (pe_xmake T.mk_NoRule G_TrailError_init (hr.mono (by first | decide | omega)) rfl T.m_NoRule T.bd_TrailError_init (show Vals [V.int 0] [Value.int 0 t.w_TrailError_init_0] from (.cons ⟨_, rfl⟩ .nil)) pass0 (pa_cons pe_str pa_nil)))) pss_nil) (pss_cons (ps_expr (pe_call G_check_parts (hr.mono (by first | decide | omega)) rfl T.m_check_parts T.F_check_parts.kp T.b_check_parts .nil passX (pa_cons (mv 0) pa_nil))) (pss_cons (ps_expr (pe_call G_check_goals (hr.mono (by first | decide | omega)) rfl T.m_check_goals T.F_check_goals.kp T.b_check_goals .nil passX (pa_cons (mv 1) pa_nil))) (pss_one (ps_ret (pe_tup (pa_cons (mv 0) (pa_cons (pe_callTy (kc_tuple K rfl) rfl T.n_tuple boot_tuple (pa_cons (mv 1) pa_nil)) pa_nil)))))))), ?_⟩
  rename_i v a
  obtain ⟨t0, us, ts, hd, hs0, hz, hS, hG, q⟩ := h
  walk_at "stp"
  refine ⟨t0, hd, hs0.1, fun H1 s1 => ?_⟩
  walk_at "stp"
  refine iteB (fun e => ?_) (fun e => ?_)
  · have eg : named t0 = false := by simpa using e
    have hb : (headB t0 && goodGs ts) = false := by unfold headB; rw [eg]; rfl
    rw [hb] at q
    have q : onX H t.k_NoRule E := q
    walk_at "stp"
    refine ⟨by simp, fun ea hea => ?_⟩
    refine ⟨t.k_NoRule, _, true, T.x_NoRule, T.u_NoRule, T.at_NoRule, T.no_NoRule_row, upd_same, fun H9 b9 => ⟨rfl, ?_⟩⟩
    obtain ⟨dx9, h91, h92, h93⟩ := born_raise hea (Same.refl _) hea b9
    refine ⟨ea, t.k_NoRule, dx9, _, rfl, T.x_NoRule, h91, ?_⟩
    exact q ea _ (s1.trans h93) h92
  have eg : named t0 = true := by simpa using e
  walk_at "stp"
  refine ⟨t0, hd.mono s1, by omega, ?_⟩
  cases hf : fitB t0 with
  | false =>
    have hb : (headB t0 && goodGs ts) = false := by unfold headB; rw [hf, Bool.and_false]; rfl
    rw [hb] at q
    exact fun ea H2 s2 i2 => q ea H2 (s1.trans s2) i2
  | true =>
    have hb : (headB t0 && goodGs ts) = goodGs ts := by unfold headB; rw [hf, eg]; rfl
    rw [hb] at q
    refine fun H2 s2 => ?_
    have s12 := s1.trans s2
    walk_at "stp"
    refine ⟨us, ts, hS.mono s12, hG.mono s12, ?_⟩
    cases hg : goodGs ts with
    | false =>
      rw [hg] at q
      exact fun ea H3 s3 i3 => q ea H3 (s12.trans s3) i3
    | true =>
      rw [hg] at q
      refine fun H3 s3 => ?_
      have s13 := s12.trans s3
      have fin : ∀ b H4, Same H3 H4 → SqT K H4 b us → ([v, .ref b] : List V).length ≤ sizeLine ∧ ∀ p, H4 p = none → Q (.ref p) (upd H4 p (.tup [v, .ref b])) := fun b H4 s4 hb =>
        ⟨ln (by show 2 ≤ 100000; decide), fun p hp => q H3 s13 p b _ (s4.trans (same_new hp _)) (SqT.of upd_same) ((same_new hp _).tup hb)⟩
      walk_at "stp"
      rcases hS with hS | hS
      · exact mTup_l (s13.seq hS) fun b hb => fin b _ (same_new hb _) (SqT.of upd_same)
      · exact mTup_t (s13.tup hS) (fin a _ (Same.refl _) (s13.tup hS))
end
end My
set_option Elab.async false
set_option linter.all false
set_option maxRecDepth 100000
set_option maxHeartbeats 4000000
namespace My
open PySem PySem.Spec PyProof.Rows L2
local macro_rules | `(tactic| walk_at "stp") => `(tactic| repeat (with_reducible first | refine tSeq_i ?_ | refine tAsg_i ?_ | refine gName_i ?_ | refine tRet_i ?_ | refine tIfS_i ?_ | refine tNext_i ?_ | refine tDrop_i ?_ | refine mTest_i ?_ | refine mTrue_i ?_ | refine mTru_b ?_ | refine mB_i ?_ | refine tOp_i ?_ | refine tUn_i ?_ | refine mUn_i ?_ | refine m20_i ?_ | refine mAdd_i ?_ | refine mEq_i ?_ | refine mEq_s ?_ | refine mEq_b ?_ | refine mInS_i ?_ | (refine' mVar_i ?hv ?_; (case hv => with_unfolding_all rfl)) | refine tC_i ?_ | refine mChain_i ?_ | refine mAndV_i ?_ | refine mOrV_i ?_ | refine mNotV_i ?_ | refine tIf_i ?_ | refine tAnd_i ?_ | refine tOr_i ?_ | refine tNot_i ?_ | refine tCB_i ?_ | refine tCall0_i ?_ | refine tCons_i ?_ | refine tNil_i ?_ | refine tBM_i ?_ | refine tBM0_i ?_ | refine tTup_i ?_ | refine tLst_i ?_ | refine tSl_i ?_ | refine tNoPart_i ?_ | refine mPart_i ?_ | refine mI_i ?_ | refine is_str ?_ | refine is_bool ?_ | refine is_int ?_ | refine is_int_bool ?_ | refine mMin_i ?_ | refine isN_non ?_ | refine isN_ref ?_ | refine mInt_b ?_ | refine mMax_i ?_ | refine tDGet_i ?_ | refine tDGet2_i ?_ | refine sDPut_i ?_ | refine tDisp_i ?_ | refine tPairs_c ?_ | refine tPairs_n ?_ | refine iRng2_i ?_ | refine iRev_i ?_ | refine iEnum_i ?_ | refine iSeq_i ?_ | refine mAbs_i ?_ | refine gCons_i ?_ | refine gNil_i ?_ | refine tWhile_i ?_ | (refine' mAug_i ?hw ?_; (case hw => with_unfolding_all rfl)) | refine mIAdd_i ?_ | refine tFor_i ?_ | refine tRaise_i ?_ | refine tXMake_i ?_ | refine tTry_i ?_ | refine tXGet_i ?_ | refine tBInit_i ?_ | refine tXSet_i ?_ | refine tPar_i ?_ | refine tF3i_i ?_ | refine iZip_i ?_ | refine iSeq_i ?_ | refine iStr_i ?_ | refine iList_i ?_ | refine iTup_i ?_ | refine iRng1_i ?_ | refine tComp_i ?_ | (refine m2_i ?hc ?_; (case hc => first | (show (0 : Int) < _; decide) | exact cdiv_i (by decide) (by decide)))))
local macro_rules | `(tactic| walk_at "stm") => `(tactic| repeat (with_reducible first | refine tAsg_i ?_ | refine gName_i ?_ | refine tRet_i ?_ | refine tIfS_i ?_ | refine tNext_i ?_ | refine tDrop_i ?_ | refine mTest_i ?_ | refine mTrue_i ?_ | refine mTru_b ?_ | refine mB_i ?_ | refine tOp_i ?_ | refine tUn_i ?_ | refine mUn_i ?_ | refine m20_i ?_ | refine mAdd_i ?_ | refine mEq_i ?_ | refine mEq_s ?_ | refine mEq_b ?_ | refine mInS_i ?_ | (refine' mVar_i ?hv ?_; (case hv => with_unfolding_all rfl)) | refine tC_i ?_ | refine mChain_i ?_ | refine mAndV_i ?_ | refine mOrV_i ?_ | refine mNotV_i ?_ | refine tIf_i ?_ | refine tAnd_i ?_ | refine tOr_i ?_ | refine tNot_i ?_ | refine tCB_i ?_ | refine tCall0_i ?_ | refine tCons_i ?_ | refine tNil_i ?_ | refine tBM_i ?_ | refine tBM0_i ?_ | refine tTup_i ?_ | refine tLst_i ?_ | refine tSl_i ?_ | refine tNoPart_i ?_ | refine mPart_i ?_ | refine mI_i ?_ | refine is_str ?_ | refine is_bool ?_ | refine is_int ?_ | refine is_int_bool ?_ | refine mMin_i ?_ | refine isN_non ?_ | refine isN_ref ?_ | refine mInt_b ?_ | refine mMax_i ?_ | refine tDGet_i ?_ | refine tDGet2_i ?_ | refine sDPut_i ?_ | refine tDisp_i ?_ | refine tPairs_c ?_ | refine tPairs_n ?_ | refine iRng2_i ?_ | refine iRev_i ?_ | refine iEnum_i ?_ | refine iSeq_i ?_ | refine mAbs_i ?_ | refine gCons_i ?_ | refine gNil_i ?_ | refine tWhile_i ?_ | (refine' mAug_i ?hw ?_; (case hw => with_unfolding_all rfl)) | refine mIAdd_i ?_ | refine tFor_i ?_ | refine tRaise_i ?_ | refine tXMake_i ?_ | refine tTry_i ?_ | refine tXGet_i ?_ | refine tBInit_i ?_ | refine tXSet_i ?_ | refine tPar_i ?_ | refine tF3i_i ?_ | refine iZip_i ?_ | refine iSeq_i ?_ | refine iStr_i ?_ | refine iList_i ?_ | refine iTup_i ?_ | refine iRng1_i ?_ | refine tComp_i ?_ | (refine m2_i ?hc ?_; (case hc => first | (show (0 : Int) < _; decide) | exact cdiv_i (by decide) (by decide)))))
section
variable {P : Program} {w : World} {K : PySem.W.Frag} {mg : Str → Option Value} {base : Heap} {t : Ad}
theorem ok_l_cell_at (T : Txt K mg t)  : FnOk P w K mg base CX0 1 t.a_l_cell_at t.d_l_cell_at ["_law_script", "_law_k"] (sp_l_cell_at K) := by
  refine T.F_l_cell_at.ok sc_l_cell_at (fun vs H Q E h => ?_) (fun cdv A outer s H vs Q E hr h => ?_)
  · unfold sp_l_cell_at at h
    split at h
    · rfl
    · exact h.elim
  unfold sp_l_cell_at at h
  split at h
  rotate_left
  · exact h.elim
  refine ⟨_, (pss_cons (ps_if (mt_cmp mo_lt (mv 1) (pe_callB (kc_len K rfl) rfl T.n_len PySem.boot_len (pa_cons (mv 0) pa_nil)) (nomark _)) (pss_one (ps_ret (pe_ix (ki_seq K rfl) (mv 0) (mv 1) (fun _ _ => rfl)))) pss_nil) (pss_one (ps_ret pe_int))), ?_⟩
  rename_i a k
  obtain ⟨ns, hS, h0, h1, q⟩ := h
  walk_at "stp"
  refine mLen_l hS ?_
  walk_at "stp"
  refine iteB (fun e => ?_) (fun e => ?_)
  · walk_at "stp"
    have hk : k < ((ns.map V.int).length : Int) := of_decide_eq_true e
    obtain ⟨v, hv, hv2⟩ := atI_lt (xs := ns.map V.int) h0 hk
    obtain ⟨x, rfl⟩ := ints_at hv
    refine mIx_l hS hv ?_
    exact q _
  · walk_at "stp"
    exact q _
theorem ok_l_words (T : Txt K mg t)  : FnOk P w K mg base CX0 1 t.a_l_words t.d_l_words ["_law_cell"] (sp_l_words) := by
  refine T.F_l_words.ok sc_l_words (fun vs H Q E h => ?_) (fun cdv A outer s H vs Q E hr h => ?_)
  · unfold sp_l_words at h
    split at h
    · rfl
    · exact h.elim
  unfold sp_l_words at h
  split at h
  rotate_left
  · exact h.elim
  refine ⟨_, (pss_cons (ps_set (i := 1) sc_l_words.nd rfl (by first | exact Or.inl rfl | exact Or.inr rfl) pe_str) (pss_cons (ps_comp (i := 2) sc_l_words.nd rfl (by first | exact Or.inl rfl | exact Or.inr rfl) rfl (pi_range1 rfl T.n_range (pa_cons (pe_op (ko_add K rfl) pe_int (pe_op mo_mod (mv 0) pe_int)) pa_nil)) (comp_sc (defScope s_l_words) ["_law_cell", "_law_letters", "_law_base", "_law_at", "_law_words_here", "_law_k", "_law_word", "_law_j"] ["_law_cell", "_law_letters", "_law_base", "_law_at", "_law_words_here", "%_law_k", "_law_word", "_law_j"] rfl rfl (by decide +kernel)) (fun _ _ _ _ _ => pts_nil) (fun _ _ _ _ _ => (pe_op mo_mod (pe_op (ko_add K rfl) (pe_op mo_fdiv (mv 1) (pe_op (ko_add K rfl) (mv 0) pe_int)) (pe_op mo_mul (mv 0) (mv 0))) pe_int))) (pss_cons (ps_set (i := 3) sc_l_words.nd rfl (by first | exact Or.inl rfl | exact Or.inr rfl) (pe_op mo_mod (pe_op mo_fdiv (mv 0) pe_int) (pe_callB (kc_len K rfl) rfl T.n_len PySem.boot_len (pa_cons (mv 2) pa_nil)))) (pss_cons (ps_set (i := 4) sc_l_words.nd rfl (by first | exact Or.inl rfl | exact Or.inr rfl) (pe_lst pa_nil)) (pss_cons (ps_for PassesOwn.never rfl (pi_range1 rfl T.n_range (pa_cons pe_int pa_nil)) (pg_name (i := 5) sc_l_words.nd rfl (by first | exact Or.inl rfl | exact Or.inr rfl)) (pss_cons (ps_set (i := 6) sc_l_words.nd rfl (by first | exact Or.inl rfl | exact Or.inr rfl) pe_str) (pss_cons (ps_for PassesOwn.never rfl (pi_range1 rfl T.n_range (pa_cons (pe_callB (kc_len K rfl) rfl T.n_len PySem.boot_len (pa_cons (mv 2) pa_nil)) pa_nil)) (pg_name (i := 7) sc_l_words.nd rfl (by first | exact Or.inl rfl | exact Or.inr rfl)) (pss_one (ps_set (i := 6) sc_l_words.nd rfl (by first | exact Or.inl rfl | exact Or.inr rfl) (pe_op (ko_add K rfl) (mv 6) (pe_ix (ki_seq K rfl) (mv 1) (pe_op mo_mod (pe_op (ko_add K rfl) (pe_ix (ki_seq K rfl) (mv 2) (mv 7) (fun _ _ => rfl)) (pe_op mo_mul (mv 5) (pe_callTy mc_int rfl T.n_int boot_int (pa_cons (pe_cmpR mo_eq (mv 7) (mv 3) (nomark _)) pa_nil)))) pe_int) (fun _ _ => rfl)))))) (pss_cons (ps_if (mt_cmp (ko_inV K rfl) (mv 6) (pe_tup (pa_cons pe_str (pa_cons pe_str pa_nil))) (by with_unfolding_all rfl)) (pss_one (ps_set (i := 6) sc_l_words.nd rfl (by first | exact Or.inl rfl | exact Or.inr rfl) (pe_op (ko_add K rfl) (mv 6) pe_str))) pss_nil) (pss_one (ps_expr (ke_bm K rfl PySem.F.plainAttrs_list PySem.F.slot_list_append PySem.F.type_list_append mm_append (mv 4) (pa_cons (mv 6) pa_nil)))))))) (pss_one (ps_ret (mv 4)))))))), ?_⟩
  rename_i c
  obtain ⟨h0, q⟩ := h
  have b1 := Int.emod_nonneg c (show (9 : Int) ≠ 0 by decide)
  have b2 := Int.emod_lt_of_pos c (show (0 : Int) < 9 by decide)
  walk_at "stp"
  refine ⟨1 + c % 9, rfl, by omega, by omega, fun D hD => ?_⟩
  refine comp_row (row_range 0 (1 + c % 9).toNat) (fun i ys H' => Same H H' ∧ (∃ cs : List Int, ys = cs.map V.int ∧ cs.length = i ∧ ∀ x ∈ cs, 0 ≤ x ∧ x < 26) ∧ H' D = some (.lst ys)) (ln (by omega)) ⟨same_new hD _, ⟨[], rfl, rfl, by simp⟩, upd_same⟩ (fun _ _ _ _ => trivial) (fun i ys H' Q' hi' hl' hP k => ?_) (fun ys H' hl' hP => ?_)
  · obtain ⟨g1, ⟨cs, g2, g4, g5⟩, g3⟩ := hP
    walk_at "stp"
    refine m2_i (cdiv_i (by omega) (by omega)) ?_
    walk_at "stp"
    refine mMul_i (mulOk_left ⟨by omega, by omega⟩) ?_
    walk_at "stp"
    refine k _ _ g3 ⟨same_upd g1 hD, ⟨cs ++ [_], by rw [g2, List.map_append]; rfl, by rw [List.length_append, g4]; rfl, fun x hx => ?_⟩, upd_same⟩
    rcases List.mem_append.mp hx with hx | hx
    · exact g5 x hx
    · rw [List.mem_singleton.mp hx]
      exact ⟨Int.emod_nonneg _ (by decide), Int.emod_lt_of_pos _ (by decide)⟩
  obtain ⟨g1, ⟨cs, rfl, g4, g5⟩, g3⟩ := hP
  have cl : cs.length = (1 + c % 9).toNat := g4
  walk_at "stp"
  refine mLen_l (SqL.of g3) ?_
  walk_at "stp"
  have e1 : ((cs.map V.int).length : Int) = cs.length := by rw [List.length_map]
  rw [e1]
  refine m2_i (show (0 : Int) < (cs.length : Int) by omega) ?_
  walk_at "stp"
  generalize c / 9 % (cs.length : Int) = at_
  refine ⟨ln (by show 0 ≤ 100000; decide), fun p1 hp1 => ?_⟩
  have s1 : Same H (upd H' p1 (.lst [])) := g1.trans (same_new hp1 _)
  have k1 : (upd H' p1 (.lst [])) p1 = some (.lst []) := upd_same
  have k2 : (upd H' p1 (.lst [])) D = some (.lst (cs.map V.int)) := same_new hp1 _ _ _ g3
  have hD1 : D ≠ p1 := ne_of_none g3 hp1
  have hp1H : H p1 = none := g1.free hp1
  generalize upd H' p1 (.lst []) = H1 at s1 k1 k2 ⊢
  walk_at "stp"
  refine ⟨3, rfl, by decide, by decide, ?_⟩
  refine for_row (row_range 0 (3 : Int).toNat) (fun i σ' H2 => ∃ (o5 o6 o7 : Option V) (ws : List Str), σ' = [some (.int c), some (.str smallS), some (.ref D), some (.int at_), some (.ref p1), o5, o6, o7] ∧ Same H H2 ∧ H2 p1 = some (.lst (ws.map V.str)) ∧ H2 D = some (.lst (cs.map V.int)) ∧ ws.length = i ∧ ∀ w ∈ ws, goodW w) ⟨none, none, none, [], rfl, s1, k1, k2, rfl, by simp⟩ (fun _ _ _ _ => trivial) (fun i σ' H2 hi hP => ?_) (fun σ' H2 hP => ?_)
  · obtain ⟨o5, o6, o7, ws, rfl, s2, j1, j2, j3, j4⟩ := hP
    have hi3 : i < 3 := hi
    walk_at "stm"
    (with_reducible refine tSeq_i ?_)
    walk_at "stm"
    (with_reducible refine seq_rest (fun σ' H3 => ∃ (o7 : Option V) (r : List Nat), σ' = [some (.int c), some (.str smallS), some (.ref D), some (.int at_), some (.ref p1), some (.int (0 + (i : Int))), some (.str ⟨r.toArray⟩), o7] ∧ H3 = H2 ∧ r.length = cs.length ∧ isLow r) (fun σ' H3 hP => ?_) (fun k => ?_))
    rotate_left
    · walk_at "stm"
      refine mLen_l (SqL.of j2) ?_
      walk_at "stm"
      rw [e1]
      refine ⟨_, rfl, by omega, by omega, ?_⟩
      refine for_row (row_range 0 (cs.length : Int).toNat) (fun j σ' H3 => ∃ (o7 : Option V) (r : List Nat), σ' = [some (.int c), some (.str smallS), some (.ref D), some (.int at_), some (.ref p1), some (.int (0 + (i : Int))), some (.str ⟨r.toArray⟩), o7] ∧ H3 = H2 ∧ r.length = j ∧ isLow r) ⟨_, [], rfl, rfl, rfl, by simp [isLow]⟩ (fun _ _ _ _ => trivial) (fun j σ' H3 hj hP => ?_) (fun σ' H3 hP => ?_)
      · obtain ⟨o7, r, rfl, rfl, m1, m2⟩ := hP
        walk_at "stp"
        obtain ⟨v, hv, hv2⟩ := atI_lt (xs := cs.map V.int) (i := 0 + (j : Int)) (by omega) (by rw [List.length_map]; omega)
        obtain ⟨x, rfl⟩ := ints_at hv
        refine mIx_l (SqL.of j2) hv ?_
        walk_at "stp"
        refine mMul_i (mulOk_left ⟨by omega, by omega⟩) ?_
        walk_at "stp"
        generalize x + (0 + (i : Int)) * (if (false ^^ decide (0 + (j : Int) = at_)) = true then 1 else 0) = n
        have b5 := Int.emod_nonneg n (show (26 : Int) ≠ 0 by decide)
        have b6 := Int.emod_lt_of_pos n (show (0 : Int) < 26 by decide)
        have l26 : smallS.length = 26 := by decide +kernel
        obtain ⟨y, hy⟩ := ix_str_lt (z := smallS) b5 (by rw [l26]; omega)
        refine mIx_s (ln (by rw [l26]; decide)) hy ?_
        walk_at "stp"
        refine mAdd_s ?_ ?_
        · refine ln ?_
          rw [str_len, show (⟨#[y]⟩ : Str).length = 1 from rfl]
          omega
        walk_at "stp"
        refine ⟨some (.int (0 + (j : Int))), r ++ [y], ?_, rfl, by rw [List.length_append, m1]; rfl, fun d hd => ?_⟩
        · have e : (⟨r.toArray⟩ : Str) ++ ⟨#[y]⟩ = ⟨(r ++ [y]).toArray⟩ := str_app r [y]
          rw [e]
          rfl
        · rcases List.mem_append.mp hd with hd | hd
          · exact m2 d hd
          · rw [List.mem_singleton.mp hd]
            exact atI_mem hy
      · obtain ⟨o7, r, rfl, rfl, m1, m2⟩ := hP
        exact k _ _ ⟨_, r, rfl, rfl, by simpa using m1, m2⟩
    obtain ⟨o7, r, rfl, rfl, m1, m2⟩ := hP
    walk_at "stp"
    refine ⟨ln (by show 2 ≤ 100000; decide), fun p2 hp2 => ?_⟩
    have s3 : Same H3 (upd H3 p2 (.tup [.str (Str.ofString "keep"), .str (Str.ofString "not")])) := same_new hp2 _
    have k3 : (upd H3 p2 (.tup [.str (Str.ofString "keep"), .str (Str.ofString "not")])) p2 = some (.tup ([keepS, notS].map V.str)) := upd_same
    generalize upd H3 p2 (.tup [.str (Str.ofString "keep"), .str (Str.ofString "not")]) = H4 at s3 k3 ⊢
    refine in_strs [keepS, notS] (.inr (SqT.of k3)) ?_
    walk_at "stp"
    have jd : D ≠ p1 := hD1
    refine iteB (fun e => ?_) (fun e => ?_)
    · have e2 : (⟨r.toArray⟩ : Str) ∈ [keepS, notS] := of_decide_eq_true e
      have gw := good_three e2
      walk_at "stp"
      refine mAdd_s (ln (by rw [str_len]; show r.length + 1 ≤ 100000; omega)) ?_
      walk_at "stp"
      refine ⟨.inl ⟨rfl, _, SqL.of (s3 _ _ j1)⟩, ?_⟩
      walk_at "stp"
      refine mAppend_i (s3 _ _ j1) (ln1 (by rw [List.length_map]; omega)) ?_
      exact ⟨_, _, _, ws ++ [⟨r.toArray⟩ ++ Str.ofString "3"], rfl, same_upd (s2.trans s3) hp1H, by rw [upd_same, List.map_append]; rfl, by rw [upd_ne jd]; exact s3 _ _ j2, by rw [List.length_append, j3]; rfl, fun w hw => (List.mem_append.mp hw).elim (j4 w) fun z => by rw [List.mem_singleton.mp z]; exact gw⟩
    · have e2 : (⟨r.toArray⟩ : Str) ∉ [keepS, notS] := of_decide_eq_false e
      have gw := good_low m2 (by omega) (by omega) e2
      walk_at "stp"
      refine ⟨.inl ⟨rfl, _, SqL.of (s3 _ _ j1)⟩, ?_⟩
      walk_at "stp"
      refine mAppend_i (s3 _ _ j1) (ln1 (by rw [List.length_map]; omega)) ?_
      exact ⟨_, _, _, ws ++ [⟨r.toArray⟩], rfl, same_upd (s2.trans s3) hp1H, by rw [upd_same, List.map_append]; rfl, by rw [upd_ne jd]; exact s3 _ _ j2, by rw [List.length_append, j3]; rfl, fun w hw => (List.mem_append.mp hw).elim (j4 w) fun z => by rw [List.mem_singleton.mp z]; exact gw⟩
  · obtain ⟨o5, o6, o7, ws, rfl, s2, j1, j2, j3, j4⟩ := hP
    have j3 : ws.length = 3 := j3
    match ws, j3, j4, j1 with
    | [w0, w1, w2], _, j4, j1 =>
      walk_at "stp"
      exact q p1 w0 w1 w2 H2 s2 (j4 w0 (by simp)) (j4 w1 (by simp)) (j4 w2 (by simp)) j1
theorem ok_l_chain (T : Txt K mg t)  : FnOk P w K mg base CX0 1 t.a_l_chain t.d_l_chain ["_law_size_here", "_law_word"] (sp_l_chain K) := by
  refine T.F_l_chain.ok sc_l_chain (fun vs H Q E h => ?_) (fun cdv A outer s H vs Q E hr h => ?_)
  · unfold sp_l_chain at h
    split at h
    · rfl
    · exact h.elim
  unfold sp_l_chain at h
  split at h
  rotate_left
  · exact h.elim
  refine ⟨_, (pss_cons (ps_set (i := 2) sc_l_chain.nd rfl (by first | exact Or.inl rfl | exact Or.inr rfl) (pe_tup (pa_cons pe_str (pa_cons pe_int pa_nil)))) (pss_cons (ps_for PassesOwn.never rfl (pi_range1 rfl T.n_range (pa_cons (pe_op mo_sub (mv 0) pe_int) pa_nil)) (pg_name (i := 3) sc_l_chain.nd rfl (by first | exact Or.inl rfl | exact Or.inr rfl)) (pss_one (ps_set (i := 2) sc_l_chain.nd rfl (by first | exact Or.inl rfl | exact Or.inr rfl) (pe_tup (pa_cons pe_str (pa_cons (mv 1) (pa_cons (pe_tup (pa_cons (mv 2) pa_nil)) pa_nil))))))) (pss_one (ps_ret (mv 2))))), ?_⟩
  rename_i s0 w0
  obtain ⟨h0, h1, hw, q⟩ := h
  walk_at "stp"
  refine ⟨ln (by show 2 ≤ 100000; decide), fun p1 hp1 => ?_⟩
  have sp1 : Same H (upd H p1 (.tup [.str (Str.ofString "num"), .int 7])) := same_new hp1 _
  have kp1 : (upd H p1 (.tup [.str (Str.ofString "num"), .int 7])) p1 = some (.tup [.str (Str.ofString "num"), .int 7]) := upd_same
  generalize upd H p1 (.tup [.str (Str.ofString "num"), .int 7]) = H1 at sp1 kp1 ⊢
  walk_at "stp"
  refine ⟨s0 - 1, rfl, by omega, by omega, ?_⟩
  refine for_row (row_range 0 (s0 - 1).toNat) (fun i σ' H2 => ∃ (o : Option V) (x : V) (tt : Trm), σ' = [some (.int s0), some (.str w0), some x, o] ∧ Same H H2 ∧ Den K H2 x tt.data ∧ tt.size = i + 1 ∧ sLen tt) ⟨none, _, .num 7, rfl, sp1, num_den (SqT.of kp1), rfl, trivial⟩ (fun _ _ _ _ => trivial) (fun i σ' H2 hi hP => ?_) (fun σ' H2 hP => ?_)
  · obtain ⟨o, x, tt, rfl, s2, d2, z2, l2⟩ := hP
    walk_at "stp"
    refine ⟨ln (by show 1 ≤ 100000; decide), fun p3 hp3 => ?_⟩
    have sp3 : Same H2 (upd H2 p3 (.tup [x])) := same_new hp3 _
    have kp3 : (upd H2 p3 (.tup [x])) p3 = some (.tup [x]) := upd_same
    generalize upd H2 p3 (.tup [x]) = H3 at sp3 kp3 ⊢
    walk_at "stp"
    refine ⟨ln (by show 3 ≤ 100000; decide), fun p hp => ?_⟩
    have sx := sp3.trans (same_new hp (.tup [.str (Str.ofString "app"), .str w0, .ref p3]))
    walk_at "stp"
    exact ⟨_, _, .app w0 [tt], rfl, s2.trans sx, app_den (SqT.of upd_same) (SqT.of (same_new hp _ _ _ kp3)) (.cons (d2.mono sx) .nil), by simp only [Trm.size, Trm.sizeL]; omega, hw⟩
  · obtain ⟨o, x, tt, rfl, s2, d2, z2, l2⟩ := hP
    walk_at "stp"
    exact q _ _ _ s2 d2 (by omega) l2
theorem ok_l_truth (T : Txt K mg t)  : FnOk P w K mg base CX0 1 t.a_l_truth t.d_l_truth ["_law_found", "_law_due"] (sp_l_truth) := by
  refine T.F_l_truth.ok sc_l_truth (fun vs H Q E h => ?_) (fun cdv A outer s H vs Q E hr h => ?_)
  · unfold sp_l_truth at h
    split at h
    · rfl
    · exact h.elim
  unfold sp_l_truth at h
  split at h
  rotate_left
  · exact h.elim
  refine ⟨_, (pss_one (ps_ret (me_and (pe_callB (kc_is K rfl) rfl T.n_isinstance boot_isinstance (pa_cons (mv 0) (pa_cons (pe_bty rfl T.n_bool boot_bool) pa_nil))) (pe_one (pe_cmpR mo_eq (mv 0) (mv 1) (nomark _)))))), ?_⟩
  rename_i f d
  obtain ⟨rfl, q⟩ := h
  walk_at "stp"
  refine iteT ?_
  walk_at "stp"
  have e : (false ^^ decide (f = f)) = true := by simp
  rw [e]
  exact q
end
end My
set_option Elab.async false
set_option linter.all false
set_option maxRecDepth 100000
set_option maxHeartbeats 4000000
namespace My
open PySem PySem.Spec PyProof.Rows L2
local macro_rules | `(tactic| walk_at "stp") => `(tactic| repeat (with_reducible first | refine tSeq_i ?_ | refine tAsg_i ?_ | refine gName_i ?_ | refine tRet_i ?_ | refine tIfS_i ?_ | refine tNext_i ?_ | refine tDrop_i ?_ | refine mTest_i ?_ | refine mTrue_i ?_ | refine mTru_b ?_ | refine mB_i ?_ | refine tOp_i ?_ | refine tUn_i ?_ | refine mUn_i ?_ | refine m20_i ?_ | refine mAdd_i ?_ | refine mEq_i ?_ | refine mEq_s ?_ | refine mEq_b ?_ | refine mInS_i ?_ | (refine' mVar_i ?hv ?_; (case hv => with_unfolding_all rfl)) | refine tC_i ?_ | refine mChain_i ?_ | refine mAndV_i ?_ | refine mOrV_i ?_ | refine mNotV_i ?_ | refine tIf_i ?_ | refine tAnd_i ?_ | refine tOr_i ?_ | refine tNot_i ?_ | refine tCB_i ?_ | refine tCall0_i ?_ | refine tCons_i ?_ | refine tNil_i ?_ | refine tBM_i ?_ | refine tBM0_i ?_ | refine tTup_i ?_ | refine tLst_i ?_ | refine tSl_i ?_ | refine tNoPart_i ?_ | refine mPart_i ?_ | refine mI_i ?_ | refine is_str ?_ | refine is_bool ?_ | refine is_int ?_ | refine is_int_bool ?_ | refine mMin_i ?_ | refine isN_non ?_ | refine isN_ref ?_ | refine mInt_b ?_ | refine mMax_i ?_ | refine tDGet_i ?_ | refine tDGet2_i ?_ | refine sDPut_i ?_ | refine tDisp_i ?_ | refine tPairs_c ?_ | refine tPairs_n ?_ | refine iRng2_i ?_ | refine iRev_i ?_ | refine iEnum_i ?_ | refine iSeq_i ?_ | refine mAbs_i ?_ | refine gCons_i ?_ | refine gNil_i ?_ | refine tWhile_i ?_ | (refine' mAug_i ?hw ?_; (case hw => with_unfolding_all rfl)) | refine mIAdd_i ?_ | refine tFor_i ?_ | refine tRaise_i ?_ | refine tXMake_i ?_ | refine tTry_i ?_ | refine tXGet_i ?_ | refine tBInit_i ?_ | refine tXSet_i ?_ | refine tPar_i ?_ | refine tF3i_i ?_ | refine iZip_i ?_ | refine iSeq_i ?_ | refine iStr_i ?_ | refine iList_i ?_ | refine iTup_i ?_ | refine iRng1_i ?_ | refine tComp_i ?_ | (refine m2_i ?hc ?_; (case hc => first | (show (0 : Int) < _; decide) | exact cdiv_i (by decide) (by decide)))))
local macro_rules | `(tactic| walk_at "stm") => `(tactic| repeat (with_reducible first | refine tAsg_i ?_ | refine gName_i ?_ | refine tRet_i ?_ | refine tIfS_i ?_ | refine tNext_i ?_ | refine tDrop_i ?_ | refine mTest_i ?_ | refine mTrue_i ?_ | refine mTru_b ?_ | refine mB_i ?_ | refine tOp_i ?_ | refine tUn_i ?_ | refine mUn_i ?_ | refine m20_i ?_ | refine mAdd_i ?_ | refine mEq_i ?_ | refine mEq_s ?_ | refine mEq_b ?_ | refine mInS_i ?_ | (refine' mVar_i ?hv ?_; (case hv => with_unfolding_all rfl)) | refine tC_i ?_ | refine mChain_i ?_ | refine mAndV_i ?_ | refine mOrV_i ?_ | refine mNotV_i ?_ | refine tIf_i ?_ | refine tAnd_i ?_ | refine tOr_i ?_ | refine tNot_i ?_ | refine tCB_i ?_ | refine tCall0_i ?_ | refine tCons_i ?_ | refine tNil_i ?_ | refine tBM_i ?_ | refine tBM0_i ?_ | refine tTup_i ?_ | refine tLst_i ?_ | refine tSl_i ?_ | refine tNoPart_i ?_ | refine mPart_i ?_ | refine mI_i ?_ | refine is_str ?_ | refine is_bool ?_ | refine is_int ?_ | refine is_int_bool ?_ | refine mMin_i ?_ | refine isN_non ?_ | refine isN_ref ?_ | refine mInt_b ?_ | refine mMax_i ?_ | refine tDGet_i ?_ | refine tDGet2_i ?_ | refine sDPut_i ?_ | refine tDisp_i ?_ | refine tPairs_c ?_ | refine tPairs_n ?_ | refine iRng2_i ?_ | refine iRev_i ?_ | refine iEnum_i ?_ | refine iSeq_i ?_ | refine mAbs_i ?_ | refine gCons_i ?_ | refine gNil_i ?_ | refine tWhile_i ?_ | (refine' mAug_i ?hw ?_; (case hw => with_unfolding_all rfl)) | refine mIAdd_i ?_ | refine tFor_i ?_ | refine tRaise_i ?_ | refine tXMake_i ?_ | refine tTry_i ?_ | refine tXGet_i ?_ | refine tBInit_i ?_ | refine tXSet_i ?_ | refine tPar_i ?_ | refine tF3i_i ?_ | refine iZip_i ?_ | refine iSeq_i ?_ | refine iStr_i ?_ | refine iList_i ?_ | refine iTup_i ?_ | refine iRng1_i ?_ | refine tComp_i ?_ | (refine m2_i ?hc ?_; (case hc => first | (show (0 : Int) < _; decide) | exact cdiv_i (by decide) (by decide)))))
section
variable {P : Program} {w : World} {K : PySem.W.Frag} {mg : Str → Option Value} {base : Heap} {t : Ad}
theorem named_notS (ks : List Trm) : named (.app notS ks) = false := by
  show (called notS smallS && !decide (notS ∈ [keepS, notS])) = false
  decide +kernel
theorem named_plus (ks : List Trm) : named (.app (Str.ofString "+") ks) = false := by
  show (called (Str.ofString "+") smallS && !decide (Str.ofString "+" ∈ [keepS, notS])) = false
  decide +kernel
theorem named_cons (ks : List Trm) : named (.app (Str.ofString "[|]") ks) = false := by
  show (called (Str.ofString "[|]") smallS && !decide (Str.ofString "[|]" ∈ [keepS, notS])) = false
  decide +kernel
theorem named_nil (ks : List Trm) : named (.app (Str.ofString "[]") ks) = false := by
  show (called (Str.ofString "[]") smallS && !decide (Str.ofString "[]" ∈ [keepS, notS])) = false
  decide +kernel
theorem goal_not (k : Trm) : goalB (.app notS [k]) = named k := by
  rw [goal_app, if_neg (by decide +kernel), if_pos rfl]
  rfl
theorem named_keepS (ks : List Trm) : named (.app keepS ks) = false := by
  show (called keepS smallS && !decide (keepS ∈ [keepS, notS])) = false
  decide +kernel
theorem goal_keep (ks : List Trm) : goalB (.app keepS ks) = decide (ks.length = 0) := by rw [goal_app, if_pos rfl]
theorem goal_not2 (k l : Trm) : goalB (.app notS [k, l]) = false := by
  rw [goal_app, if_neg (by decide +kernel), if_pos rfl]
  rfl
theorem goal_oth {sg : Str} {ks : List Trm} (h1 : sg ≠ keepS) (h2 : sg ≠ notS) (h3 : sg ∉ goalMs) : goalB (.app sg ks) = named (.app sg ks) := by rw [goal_app, if_neg h1, if_neg h2, if_neg h3]
theorem goal_plus (ks : List Trm) : goalB (.app (Str.ofString "+") ks) = false := (goal_oth (by decide +kernel) (by decide +kernel) (by decide +kernel)).trans (named_plus ks)
theorem goal_cons (ks : List Trm) : goalB (.app (Str.ofString "[|]") ks) = false := (goal_oth (by decide +kernel) (by decide +kernel) (by decide +kernel)).trans (named_cons ks)
theorem goal_nil (ks : List Trm) : goalB (.app (Str.ofString "[]") ks) = false := (goal_oth (by decide +kernel) (by decide +kernel) (by decide +kernel)).trans (named_nil ks)
theorem named_w {w : Str} {ks : List Trm} (h : goodW w) : named (.app w ks) = true := by
  show (called w smallS && !decide (w ∈ [keepS, notS])) = true
  rw [h.1, decide_eq_false h.2.1]
  rfl
theorem mark_not {w : Str} (h : w ∈ goalMs) : called w smallS = false ∧ w ≠ keepS ∧ w ≠ notS ∧ w.length ≤ 1000 := by
  have h : w = Str.ofString "=" ∨ w = Str.ofString ":=" ∨ w = Str.ofString "<" ∨ w = Str.ofString "<=" := by simpa [goalMs] using h
  rcases h with rfl | rfl | rfl | rfl <;> exact ⟨by decide +kernel, by decide +kernel, by decide +kernel, by decide +kernel⟩
theorem goal_w {w : Str} {ks : List Trm} (h : goodW w) : goalB (.app w ks) = true := by
  have hn : w ≠ keepS ∧ w ≠ notS := by have := h.2.1; simp at this; exact this
  rw [goal_oth hn.1 hn.2 (fun z => by have := (mark_not z).1; rw [h.1] at this; cases this)]
  exact named_w h
theorem named_mark {w : Str} {ks : List Trm} (h : w ∈ goalMs) : named (.app w ks) = false := by
  show (called w smallS && !decide (w ∈ [keepS, notS])) = false
  rw [(mark_not h).1]
  rfl
theorem goal_mark {w : Str} {ks : List Trm} (h : w ∈ goalMs) : goalB (.app w ks) = decide (ks.length = 2) := by rw [goal_app, if_neg (mark_not h).2.1, if_neg (mark_not h).2.2.1, if_pos h]
theorem short_one {sg : Str} {k : Trm} (h : sg.length ≤ 1000) (g : sLen k) : short (.app sg [k]) := ⟨h, fun x hx => by rw [List.mem_singleton.mp hx]; exact g⟩
theorem short_nil {sg : Str} (h : sg.length ≤ 1000) : short (.app sg []) := ⟨h, fun x hx => by simp at hx⟩
theorem short_two {sg : Str} {k l : Trm} (h : sg.length ≤ 1000) (g : sLen k) (g2 : sLen l) : short (.app sg [k, l]) := ⟨h, fun x hx => by
  have hx : x = k ∨ x = l := by simpa using hx
  rcases hx with rfl | rfl
  · exact g
  · exact g2⟩
theorem short_mark {sg : Str} {k l : Trm} (h : sg ∈ goalMs) (g : sLen k) (g2 : sLen l) : short (.app sg [k, l]) := short_two (mark_not h).2.2.2 g g2
theorem short_w {w : Str} {k : Trm} (h : goodW w) (g : sLen k) : short (.app w [k]) := short_one (by have := h.2.2; omega) g
theorem g0len {w : Str} {ks : List Trm} (h : goodW w) : sLen (.app w ks) := by
  show w.length ≤ 1000
  have := h.2.2
  omega
theorem ok_l_term (T : Txt K mg t) (G_l_chain : FnOk P w K mg base CX0 1 t.a_l_chain t.d_l_chain ["_law_size_here", "_law_word"] (sp_l_chain K)) : FnOk P w K mg base CX0 2 t.a_l_term t.d_l_term ["_law_kind", "_law_words_here", "_law_size_here"] (sp_l_term K) := by
  refine T.F_l_term.ok sc_l_term (fun vs H Q E h => ?_) (fun cdv A outer s H vs Q E hr h => ?_)
  · unfold sp_l_term at h
    split at h
    · rfl
    · exact h.elim
  unfold sp_l_term at h
  split at h
  rotate_left
  · exact h.elim
  refine ⟨_, (@QSs.pss _ _ _ (qss_cons (qs_set (i := 3) sc_l_term.nd rfl (by first | exact Or.inl rfl | exact Or.inr rfl) (qe_tup (qa_con (qe_of pe_str) (qa_con (qe_of (pe_ix (ki_seq K rfl) (mv 1) pe_int (fun _ _ => rfl))) (qa_con (qe_tup (qa_con (qe_of (pe_call G_l_chain (hr.mono (by first | decide | omega)) rfl T.m_l_chain T.F_l_chain.kp T.b_l_chain .nil pass0 (pa_con (pe_op mo_sub (mv 2) pe_int) (pa_con (pe_ix (ki_seq K rfl) (mv 1) pe_int (fun _ _ => rfl)) pa_nil)))) qa_nil rfl)) qa_nil rfl) rfl) rfl)) sw_tup (by first | exact Or.inl rfl | exact Or.inr rfl)) (qss_cons (qs_of (ps_set (i := 4) (hs := sw_call) sc_l_term.nd rfl (by first | exact Or.inl rfl | exact Or.inr rfl) (pe_call G_l_chain (hr.mono (by first | decide | omega)) rfl T.m_l_chain T.F_l_chain.kp T.b_l_chain .nil pass0 (pa_con (pe_op mo_sub (mv 2) pe_int) (pa_con (pe_ix (ki_seq K rfl) (mv 1) pe_int (fun _ _ => rfl)) pa_nil))))) (qss_cons (qs_of (ps_set (i := 5) (hs := sw_lst) sc_l_term.nd rfl (by first | exact Or.inl rfl | exact Or.inr rfl) (pe_lst (pa_con pe_str (pa_con pe_str (pa_con pe_str (pa_con pe_str pa_nil))))))) (qss_cons (qs_if (mt_cmp mo_lt (mv 0) pe_int (nomark _)) (qss_one (qs_ret (qe_tup (qa_con (qe_of pe_str) (qa_con (qe_of (pe_ix (ki_seq K rfl) (mv 5) (mv 0) (fun _ _ => rfl))) (qa_con (qe_tup (qa_con (qe_tup (qa_con (qe_of pe_str) (qa_con (qe_of pe_str) qa_nil rfl) rfl)) (qa_con (qe_of (mv 4)) qa_nil rfl) rfl)) qa_nil rfl) rfl) rfl)))) qss_nil) (qss_cons (qs_set (i := 6) sc_l_term.nd rfl (by first | exact Or.inl rfl | exact Or.inr rfl) (qe_lst (qa_con (qe_tup (qa_con (qe_of pe_str) (qa_con (qe_of (pe_ix (ki_seq K rfl) (mv 1) pe_int (fun _ _ => rfl))) (qa_con (qe_tup (qa_con (qe_of (pe_call G_l_chain (hr.mono (by first | decide | omega)) rfl T.m_l_chain T.F_l_chain.kp T.b_l_chain .nil pass0 (pa_con (pe_op mo_sub (mv 2) pe_int) (pa_con (pe_ix (ki_seq K rfl) (mv 1) pe_int (fun _ _ => rfl)) pa_nil)))) qa_nil rfl)) qa_nil rfl) rfl) rfl)) (qa_con (qe_tup (qa_con (qe_of pe_str) (qa_con (qe_of pe_str) (qa_con (qe_tup (qa_con (qe_of (mv 3)) qa_nil rfl)) qa_nil rfl) rfl) rfl)) (qa_con (qe_tup (qa_con (qe_of pe_str) (qa_con (qe_of pe_str) (qa_con (qe_tup qa_nil) qa_nil rfl) rfl) rfl)) qa_nil rfl) rfl) rfl)) sw_lst (by first | exact Or.inl rfl | exact Or.inr rfl)) (qss_cons (qs_set (i := 6) sc_l_term.nd rfl (by first | exact Or.inl rfl | exact Or.inr rfl) (qe_op (ko_add K rfl) (qe_of (mv 6)) (qe_lst (qa_con (qe_tup (qa_con (qe_of pe_str) (qa_con (qe_of pe_str) (qa_con (qe_tup (qa_con (qe_tup (qa_con (qe_of pe_str) (qa_con (qe_of pe_str) qa_nil rfl) rfl)) (qa_con (qe_of (mv 4)) qa_nil rfl) rfl)) qa_nil rfl) rfl) rfl)) (qa_con (qe_tup (qa_con (qe_of pe_str) (qa_con (qe_of pe_str) (qa_con (qe_tup (qa_con (qe_tup (qa_con (qe_of pe_str) (qa_con (qe_of pe_str) (qa_con (qe_tup (qa_con (qe_tup (qa_con (qe_of pe_str) (qa_con (qe_of pe_int) qa_nil rfl) rfl)) (qa_con (qe_tup (qa_con (qe_of pe_str) (qa_con (qe_of pe_int) qa_nil rfl) rfl)) qa_nil rfl) rfl)) qa_nil rfl) rfl) rfl)) qa_nil rfl)) qa_nil rfl) rfl) rfl)) qa_nil rfl) rfl))) sw_bin (by first | exact Or.inl rfl | exact Or.inr rfl)) (qss_cons (qs_set (i := 6) sc_l_term.nd rfl (by first | exact Or.inl rfl | exact Or.inr rfl) (qe_op (ko_add K rfl) (qe_of (mv 6)) (qe_lst (qa_con (qe_tup (qa_con (qe_of pe_str) (qa_con (qe_of pe_str) (qa_con (qe_tup (qa_con (qe_tup (qa_con (qe_of pe_str) (qa_con (qe_of pe_str) (qa_con (qe_tup qa_nil) qa_nil rfl) rfl) rfl)) qa_nil rfl)) qa_nil rfl) rfl) rfl)) (qa_con (qe_tup (qa_con (qe_of pe_str) (qa_con (qe_of pe_str) (qa_con (qe_tup (qa_con (qe_tup (qa_con (qe_of pe_str) (qa_con (qe_of pe_str) (qa_con (qe_tup (qa_con (qe_of (mv 3)) qa_nil rfl)) qa_nil rfl) rfl) rfl)) qa_nil rfl)) qa_nil rfl) rfl) rfl)) qa_nil rfl) rfl))) sw_bin (by first | exact Or.inl rfl | exact Or.inr rfl)) (qss_cons (qs_set (i := 6) sc_l_term.nd rfl (by first | exact Or.inl rfl | exact Or.inr rfl) (qe_op (ko_add K rfl) (qe_of (mv 6)) (qe_lst (qa_con (qe_tup (qa_con (qe_of pe_str) (qa_con (qe_of pe_str) (qa_con (qe_tup (qa_con (qe_of (mv 3)) qa_nil rfl)) qa_nil rfl) rfl) rfl)) (qa_con (qe_tup (qa_con (qe_of pe_str) (qa_con (qe_of pe_str) (qa_con (qe_tup (qa_con (qe_tup (qa_con (qe_of pe_str) (qa_con (qe_of pe_int) qa_nil rfl) rfl)) (qa_con (qe_of (mv 4)) qa_nil rfl) rfl)) qa_nil rfl) rfl) rfl)) (qa_con (qe_tup (qa_con (qe_of pe_str) (qa_con (qe_of pe_str) (qa_con (qe_tup (qa_con (qe_tup (qa_con (qe_of pe_str) (qa_con (qe_of pe_int) qa_nil rfl) rfl)) (qa_con (qe_of (mv 4)) qa_nil rfl) rfl)) qa_nil rfl) rfl) rfl)) qa_nil rfl) rfl) rfl))) sw_bin (by first | exact Or.inl rfl | exact Or.inr rfl)) (qss_cons (qs_set (i := 6) sc_l_term.nd rfl (by first | exact Or.inl rfl | exact Or.inr rfl) (qe_op (ko_add K rfl) (qe_of (mv 6)) (qe_lst (qa_con (qe_tup (qa_con (qe_of pe_str) (qa_con (qe_of pe_str) (qa_con (qe_tup qa_nil) qa_nil rfl) rfl) rfl)) (qa_con (qe_ix (ki_seq K rfl) (qe_lst (qa_con (qe_tup (qa_con (qe_of pe_str) (qa_con (qe_of (mv 2)) qa_nil rfl) rfl)) (qa_con (qe_tup (qa_con (qe_of pe_str) (qa_con (qe_of pe_str) qa_nil rfl) rfl)) qa_nil rfl) rfl)) (qe_of (pe_op mo_mod (mv 2) pe_int)) (fun _ _ => rfl)) qa_nil rfl) rfl))) sw_bin (by first | exact Or.inl rfl | exact Or.inr rfl)) (qss_one (qs_of (ps_ret (pe_ix (ki_seq K rfl) (mv 6) (pe_op mo_sub (mv 0) pe_int) (fun _ _ => rfl))))))))))))))), ?_⟩
  rename_i kind wp s0
  obtain ⟨w0, w1, w2, kw, gw0, gw1, gw2, hk0, hk1, hs0, hs1, q⟩ := h
  walk_at "stp"
  have sw0 : Same H H := Same.refl _
  refine mIx_l (SqL.of (sw0 _ _ kw)) (v := .str w0) rfl ?_
  walk_at "stp"
  refine mIx_l (SqL.of (sw0 _ _ kw)) (v := .str w1) rfl ?_
  walk_at "stp"
  refine ⟨by omega, by omega, by have := gw1.2.2; omega, fun x1 c1 G1 sp1 dc1 zc1 lc1 => ?_⟩
  walk_at "stp"
  have sw1 := sw0.trans sp1
  refine ⟨ln (by show 1 ≤ 100000; decide), fun p2 hp2 => ?_⟩
  have sp2 : Same G1 (upd G1 p2 (.tup [x1])) := same_new hp2 _
  have kp2 : (upd G1 p2 (.tup [x1])) p2 = some (.tup [x1]) := upd_same
  generalize upd G1 p2 (.tup [x1]) = G2 at sp2 kp2 ⊢
  walk_at "stp"
  have sw2 := sw1.trans sp2
  refine ⟨ln (by show 3 ≤ 100000; decide), fun p3 hp3 => ?_⟩
  have sp3 : Same G2 (upd G2 p3 (.tup [.str (Str.ofString "app"), .str w0, .ref p2])) := same_new hp3 _
  have kp3 : (upd G2 p3 (.tup [.str (Str.ofString "app"), .str w0, .ref p2])) p3 = some (.tup [.str (Str.ofString "app"), .str w0, .ref p2]) := upd_same
  generalize upd G2 p3 (.tup [.str (Str.ofString "app"), .str w0, .ref p2]) = G3 at sp3 kp3 ⊢
  walk_at "stp"
  have sw3 := sw2.trans sp3
  have dp3 : Den K G3 (.ref p3) (Trm.app w0 [c1]).data := app_den (SqT.of kp3) (SqT.of (sp3 _ _ kp2)) (.cons (dc1.mono (sp2.trans sp3)) .nil)
  refine mIx_l (SqL.of (sw3 _ _ kw)) (v := .str w2) rfl ?_
  walk_at "stp"
  refine ⟨by omega, by omega, by have := gw2.2.2; omega, fun x2 c2 G4 sp4 dc2 zc2 lc2 => ?_⟩
  walk_at "stp"
  have sw4 := sw3.trans sp4
  refine ⟨ln (by show 4 ≤ 100000; decide), fun p5 hp5 => ?_⟩
  have sp5 : Same G4 (upd G4 p5 (.lst [V.str (Str.ofString "="), V.str (Str.ofString ":="), V.str (Str.ofString "<"), V.str (Str.ofString "<=")])) := same_new hp5 _
  have kp5 : (upd G4 p5 (.lst [V.str (Str.ofString "="), V.str (Str.ofString ":="), V.str (Str.ofString "<"), V.str (Str.ofString "<=")])) p5 = some (.lst [V.str (Str.ofString "="), V.str (Str.ofString ":="), V.str (Str.ofString "<"), V.str (Str.ofString "<=")]) := upd_same
  generalize upd G4 p5 (.lst [V.str (Str.ofString "="), V.str (Str.ofString ":="), V.str (Str.ofString "<"), V.str (Str.ofString "<=")]) = G5 at sp5 kp5 ⊢
  walk_at "stp"
  have sw5 := sw4.trans sp5
  refine iteB (fun e => ?_) (fun e => ?_)
  · have hk4 : kind < 4 := of_decide_eq_true e
    walk_at "stp"
    obtain ⟨mk, hmk, hmf⟩ : ∃ mk : Str, atI [V.str (Str.ofString "="), V.str (Str.ofString ":="), V.str (Str.ofString "<"), V.str (Str.ofString "<=")] kind = some (.str mk) ∧ mk ∈ goalMs := by
      have hi : kind = 0 ∨ kind = 1 ∨ kind = 2 ∨ kind = 3 := by omega
      rcases hi with z | z | z | z <;> rw [z] <;> exact ⟨_, rfl, by decide +kernel⟩
    refine mIx_l (SqL.of kp5) hmk ?_
    walk_at "stp"
    refine ⟨ln (by show 2 ≤ 100000; decide), fun p6 hp6 => ?_⟩
    have sp6 : Same G5 (upd G5 p6 (.tup [.str (Str.ofString "any"), .str (Str.ofString "X")])) := same_new hp6 _
    have kp6 : (upd G5 p6 (.tup [.str (Str.ofString "any"), .str (Str.ofString "X")])) p6 = some (.tup [.str (Str.ofString "any"), .str (Str.ofString "X")]) := upd_same
    generalize upd G5 p6 (.tup [.str (Str.ofString "any"), .str (Str.ofString "X")]) = G6 at sp6 kp6 ⊢
    walk_at "stp"
    have sw6 := sw5.trans sp6
    have dp6 : Den K G6 (.ref p6) (Trm.any (Str.ofString "X")).data := any_den (SqT.of kp6)
    refine ⟨ln (by show 2 ≤ 100000; decide), fun p7 hp7 => ?_⟩
    have sp7 : Same G6 (upd G6 p7 (.tup [.ref p6, x2])) := same_new hp7 _
    have kp7 : (upd G6 p7 (.tup [.ref p6, x2])) p7 = some (.tup [.ref p6, x2]) := upd_same
    generalize upd G6 p7 (.tup [.ref p6, x2]) = G7 at sp7 kp7 ⊢
    walk_at "stp"
    have sw7 := sw6.trans sp7
    refine ⟨ln (by show 3 ≤ 100000; decide), fun p8 hp8 => ?_⟩
    have sp8 : Same G7 (upd G7 p8 (.tup [.str (Str.ofString "app"), .str mk, .ref p7])) := same_new hp8 _
    have kp8 : (upd G7 p8 (.tup [.str (Str.ofString "app"), .str mk, .ref p7])) p8 = some (.tup [.str (Str.ofString "app"), .str mk, .ref p7]) := upd_same
    generalize upd G7 p8 (.tup [.str (Str.ofString "app"), .str mk, .ref p7]) = G8 at sp8 kp8 ⊢
    walk_at "stp"
    have sw8 := sw7.trans sp8
    exact q _ (.app mk [(.any (Str.ofString "X")), c2]) _ sw8 (app_den (SqT.of kp8) (SqT.of (sp8 _ _ kp7)) (.cons (dp6.mono (sp7.trans sp8)) (.cons (dc2.mono (sp5.trans (sp6.trans (sp7.trans sp8)))) .nil))) (by rw [named_mark hmf, decide_eq_false (by omega)]) (by rw [goal_mark hmf]; exact (decide_eq_true (show kind < 7 by omega)).symm) (short_mark hmf trivial lc2) (by simp only [Trm.size, Trm.sizeL]; omega)
  have hk4 : ¬ kind < 4 := of_decide_eq_false e
  walk_at "stp"
  refine mIx_l (SqL.of (sw5 _ _ kw)) (v := .str w0) rfl ?_
  walk_at "stp"
  refine mIx_l (SqL.of (sw5 _ _ kw)) (v := .str w1) rfl ?_
  walk_at "stp"
  refine ⟨by omega, by omega, by have := gw1.2.2; omega, fun x3 c3 G6 sp6 dc3 zc3 lc3 => ?_⟩
  walk_at "stp"
  have sw6 := sw5.trans sp6
  refine ⟨ln (by show 1 ≤ 100000; decide), fun p7 hp7 => ?_⟩
  have sp7 : Same G6 (upd G6 p7 (.tup [x3])) := same_new hp7 _
  have kp7 : (upd G6 p7 (.tup [x3])) p7 = some (.tup [x3]) := upd_same
  generalize upd G6 p7 (.tup [x3]) = G7 at sp7 kp7 ⊢
  walk_at "stp"
  have sw7 := sw6.trans sp7
  refine ⟨ln (by show 3 ≤ 100000; decide), fun p8 hp8 => ?_⟩
  have sp8 : Same G7 (upd G7 p8 (.tup [.str (Str.ofString "app"), .str w0, .ref p7])) := same_new hp8 _
  have kp8 : (upd G7 p8 (.tup [.str (Str.ofString "app"), .str w0, .ref p7])) p8 = some (.tup [.str (Str.ofString "app"), .str w0, .ref p7]) := upd_same
  generalize upd G7 p8 (.tup [.str (Str.ofString "app"), .str w0, .ref p7]) = G8 at sp8 kp8 ⊢
  walk_at "stp"
  have sw8 := sw7.trans sp8
  have dp8 : Den K G8 (.ref p8) (Trm.app w0 [c3]).data := app_den (SqT.of kp8) (SqT.of (sp8 _ _ kp7)) (.cons (dc3.mono (sp7.trans sp8)) .nil)
  refine ⟨ln (by show 1 ≤ 100000; decide), fun p9 hp9 => ?_⟩
  have sp9 : Same G8 (upd G8 p9 (.tup [.ref p3])) := same_new hp9 _
  have kp9 : (upd G8 p9 (.tup [.ref p3])) p9 = some (.tup [.ref p3]) := upd_same
  generalize upd G8 p9 (.tup [.ref p3]) = G9 at sp9 kp9 ⊢
  walk_at "stp"
  have sw9 := sw8.trans sp9
  refine ⟨ln (by show 3 ≤ 100000; decide), fun p10 hp10 => ?_⟩
  have sp10 : Same G9 (upd G9 p10 (.tup [.str (Str.ofString "app"), .str (Str.ofString "not"), .ref p9])) := same_new hp10 _
  have kp10 : (upd G9 p10 (.tup [.str (Str.ofString "app"), .str (Str.ofString "not"), .ref p9])) p10 = some (.tup [.str (Str.ofString "app"), .str (Str.ofString "not"), .ref p9]) := upd_same
  generalize upd G9 p10 (.tup [.str (Str.ofString "app"), .str (Str.ofString "not"), .ref p9]) = G10 at sp10 kp10 ⊢
  walk_at "stp"
  have sw10 := sw9.trans sp10
  have dp10 : Den K G10 (.ref p10) (Trm.app (Str.ofString "not") [(.app w0 [c1])]).data := app_den (SqT.of kp10) (SqT.of (sp10 _ _ kp9)) (.cons (dp3.mono (sp4.trans (sp5.trans (sp6.trans (sp7.trans (sp8.trans (sp9.trans sp10))))))) .nil)
  refine ⟨ln (by show 0 ≤ 100000; decide), fun p11 hp11 => ?_⟩
  have sp11 : Same G10 (upd G10 p11 (.tup [])) := same_new hp11 _
  have kp11 : (upd G10 p11 (.tup [])) p11 = some (.tup []) := upd_same
  generalize upd G10 p11 (.tup []) = G11 at sp11 kp11 ⊢
  walk_at "stp"
  have sw11 := sw10.trans sp11
  refine ⟨ln (by show 3 ≤ 100000; decide), fun p12 hp12 => ?_⟩
  have sp12 : Same G11 (upd G11 p12 (.tup [.str (Str.ofString "app"), .str (Str.ofString "keep"), .ref p11])) := same_new hp12 _
  have kp12 : (upd G11 p12 (.tup [.str (Str.ofString "app"), .str (Str.ofString "keep"), .ref p11])) p12 = some (.tup [.str (Str.ofString "app"), .str (Str.ofString "keep"), .ref p11]) := upd_same
  generalize upd G11 p12 (.tup [.str (Str.ofString "app"), .str (Str.ofString "keep"), .ref p11]) = G12 at sp12 kp12 ⊢
  walk_at "stp"
  have sw12 := sw11.trans sp12
  have dp12 : Den K G12 (.ref p12) (Trm.app (Str.ofString "keep") []).data := app_den (SqT.of kp12) (SqT.of (sp12 _ _ kp11)) .nil
  refine ⟨ln (by show 3 ≤ 100000; decide), fun p13 hp13 => ?_⟩
  have sp13 : Same G12 (upd G12 p13 (.lst [.ref p8, .ref p10, .ref p12])) := same_new hp13 _
  have kp13 : (upd G12 p13 (.lst [.ref p8, .ref p10, .ref p12])) p13 = some (.lst [.ref p8, .ref p10, .ref p12]) := upd_same
  generalize upd G12 p13 (.lst [.ref p8, .ref p10, .ref p12]) = G13 at sp13 kp13 ⊢
  walk_at "stp"
  have sw13 := sw12.trans sp13
  refine ⟨ln (by show 2 ≤ 100000; decide), fun p14 hp14 => ?_⟩
  have sp14 : Same G13 (upd G13 p14 (.tup [.str (Str.ofString "any"), .str (Str.ofString "X")])) := same_new hp14 _
  have kp14 : (upd G13 p14 (.tup [.str (Str.ofString "any"), .str (Str.ofString "X")])) p14 = some (.tup [.str (Str.ofString "any"), .str (Str.ofString "X")]) := upd_same
  generalize upd G13 p14 (.tup [.str (Str.ofString "any"), .str (Str.ofString "X")]) = G14 at sp14 kp14 ⊢
  walk_at "stp"
  have sw14 := sw13.trans sp14
  have dp14 : Den K G14 (.ref p14) (Trm.any (Str.ofString "X")).data := any_den (SqT.of kp14)
  refine ⟨ln (by show 2 ≤ 100000; decide), fun p15 hp15 => ?_⟩
  have sp15 : Same G14 (upd G14 p15 (.tup [.ref p14, x2])) := same_new hp15 _
  have kp15 : (upd G14 p15 (.tup [.ref p14, x2])) p15 = some (.tup [.ref p14, x2]) := upd_same
  generalize upd G14 p15 (.tup [.ref p14, x2]) = G15 at sp15 kp15 ⊢
  walk_at "stp"
  have sw15 := sw14.trans sp15
  refine ⟨ln (by show 3 ≤ 100000; decide), fun p16 hp16 => ?_⟩
  have sp16 : Same G15 (upd G15 p16 (.tup [.str (Str.ofString "app"), .str (Str.ofString "not"), .ref p15])) := same_new hp16 _
  have kp16 : (upd G15 p16 (.tup [.str (Str.ofString "app"), .str (Str.ofString "not"), .ref p15])) p16 = some (.tup [.str (Str.ofString "app"), .str (Str.ofString "not"), .ref p15]) := upd_same
  generalize upd G15 p16 (.tup [.str (Str.ofString "app"), .str (Str.ofString "not"), .ref p15]) = G16 at sp16 kp16 ⊢
  walk_at "stp"
  have sw16 := sw15.trans sp16
  have dp16 : Den K G16 (.ref p16) (Trm.app (Str.ofString "not") [(.any (Str.ofString "X")), c2]).data := app_den (SqT.of kp16) (SqT.of (sp16 _ _ kp15)) (.cons (dp14.mono (sp15.trans sp16)) (.cons (dc2.mono (sp5.trans (sp6.trans (sp7.trans (sp8.trans (sp9.trans (sp10.trans (sp11.trans (sp12.trans (sp13.trans (sp14.trans (sp15.trans sp16)))))))))))) .nil))
  refine ⟨ln (by show 2 ≤ 100000; decide), fun p17 hp17 => ?_⟩
  have sp17 : Same G16 (upd G16 p17 (.tup [.str (Str.ofString "num"), .int 1])) := same_new hp17 _
  have kp17 : (upd G16 p17 (.tup [.str (Str.ofString "num"), .int 1])) p17 = some (.tup [.str (Str.ofString "num"), .int 1]) := upd_same
  generalize upd G16 p17 (.tup [.str (Str.ofString "num"), .int 1]) = G17 at sp17 kp17 ⊢
  walk_at "stp"
  have sw17 := sw16.trans sp17
  have dp17 : Den K G17 (.ref p17) (Trm.num 1).data := num_den (SqT.of kp17)
  refine ⟨ln (by show 2 ≤ 100000; decide), fun p18 hp18 => ?_⟩
  have sp18 : Same G17 (upd G17 p18 (.tup [.str (Str.ofString "num"), .int 2])) := same_new hp18 _
  have kp18 : (upd G17 p18 (.tup [.str (Str.ofString "num"), .int 2])) p18 = some (.tup [.str (Str.ofString "num"), .int 2]) := upd_same
  generalize upd G17 p18 (.tup [.str (Str.ofString "num"), .int 2]) = G18 at sp18 kp18 ⊢
  walk_at "stp"
  have sw18 := sw17.trans sp18
  have dp18 : Den K G18 (.ref p18) (Trm.num 2).data := num_den (SqT.of kp18)
  refine ⟨ln (by show 2 ≤ 100000; decide), fun p19 hp19 => ?_⟩
  have sp19 : Same G18 (upd G18 p19 (.tup [.ref p17, .ref p18])) := same_new hp19 _
  have kp19 : (upd G18 p19 (.tup [.ref p17, .ref p18])) p19 = some (.tup [.ref p17, .ref p18]) := upd_same
  generalize upd G18 p19 (.tup [.ref p17, .ref p18]) = G19 at sp19 kp19 ⊢
  walk_at "stp"
  have sw19 := sw18.trans sp19
  refine ⟨ln (by show 3 ≤ 100000; decide), fun p20 hp20 => ?_⟩
  have sp20 : Same G19 (upd G19 p20 (.tup [.str (Str.ofString "app"), .str (Str.ofString "+"), .ref p19])) := same_new hp20 _
  have kp20 : (upd G19 p20 (.tup [.str (Str.ofString "app"), .str (Str.ofString "+"), .ref p19])) p20 = some (.tup [.str (Str.ofString "app"), .str (Str.ofString "+"), .ref p19]) := upd_same
  generalize upd G19 p20 (.tup [.str (Str.ofString "app"), .str (Str.ofString "+"), .ref p19]) = G20 at sp20 kp20 ⊢
  walk_at "stp"
  have sw20 := sw19.trans sp20
  have dp20 : Den K G20 (.ref p20) (Trm.app (Str.ofString "+") [(.num 1), (.num 2)]).data := app_den (SqT.of kp20) (SqT.of (sp20 _ _ kp19)) (.cons (dp17.mono (sp18.trans (sp19.trans sp20))) (.cons (dp18.mono (sp19.trans sp20)) .nil))
  refine ⟨ln (by show 1 ≤ 100000; decide), fun p21 hp21 => ?_⟩
  have sp21 : Same G20 (upd G20 p21 (.tup [.ref p20])) := same_new hp21 _
  have kp21 : (upd G20 p21 (.tup [.ref p20])) p21 = some (.tup [.ref p20]) := upd_same
  generalize upd G20 p21 (.tup [.ref p20]) = G21 at sp21 kp21 ⊢
  walk_at "stp"
  have sw21 := sw20.trans sp21
  refine ⟨ln (by show 3 ≤ 100000; decide), fun p22 hp22 => ?_⟩
  have sp22 : Same G21 (upd G21 p22 (.tup [.str (Str.ofString "app"), .str (Str.ofString "not"), .ref p21])) := same_new hp22 _
  have kp22 : (upd G21 p22 (.tup [.str (Str.ofString "app"), .str (Str.ofString "not"), .ref p21])) p22 = some (.tup [.str (Str.ofString "app"), .str (Str.ofString "not"), .ref p21]) := upd_same
  generalize upd G21 p22 (.tup [.str (Str.ofString "app"), .str (Str.ofString "not"), .ref p21]) = G22 at sp22 kp22 ⊢
  walk_at "stp"
  have sw22 := sw21.trans sp22
  have dp22 : Den K G22 (.ref p22) (Trm.app (Str.ofString "not") [(.app (Str.ofString "+") [(.num 1), (.num 2)])]).data := app_den (SqT.of kp22) (SqT.of (sp22 _ _ kp21)) (.cons (dp20.mono (sp21.trans sp22)) .nil)
  refine ⟨ln (by show 2 ≤ 100000; decide), fun p23 hp23 => ?_⟩
  have sp23 : Same G22 (upd G22 p23 (.lst [.ref p16, .ref p22])) := same_new hp23 _
  have kp23 : (upd G22 p23 (.lst [.ref p16, .ref p22])) p23 = some (.lst [.ref p16, .ref p22]) := upd_same
  generalize upd G22 p23 (.lst [.ref p16, .ref p22]) = G23 at sp23 kp23 ⊢
  walk_at "stp"
  have sw23 := sw22.trans sp23
  refine mAdd_l ((sp14.trans (sp15.trans (sp16.trans (sp17.trans (sp18.trans (sp19.trans (sp20.trans (sp21.trans (sp22.trans sp23))))))))) _ _ kp13) kp23 (ln (by show 5 ≤ 100000; decide)) (fun p24 hp24 => ?_)
  have sp24 : Same G23 (upd G23 p24 (.lst ([.ref p8, .ref p10, .ref p12] ++ [.ref p16, .ref p22]))) := same_new hp24 _
  have kp24 : (upd G23 p24 (.lst ([.ref p8, .ref p10, .ref p12] ++ [.ref p16, .ref p22]))) p24 = some (.lst [.ref p8, .ref p10, .ref p12, .ref p16, .ref p22]) := upd_same
  generalize upd G23 p24 (.lst ([.ref p8, .ref p10, .ref p12] ++ [.ref p16, .ref p22])) = G24 at sp24 kp24 ⊢
  walk_at "stp"
  have sw24 := sw23.trans sp24
  refine ⟨ln (by show 0 ≤ 100000; decide), fun p25 hp25 => ?_⟩
  have sp25 : Same G24 (upd G24 p25 (.tup [])) := same_new hp25 _
  have kp25 : (upd G24 p25 (.tup [])) p25 = some (.tup []) := upd_same
  generalize upd G24 p25 (.tup []) = G25 at sp25 kp25 ⊢
  walk_at "stp"
  have sw25 := sw24.trans sp25
  refine ⟨ln (by show 3 ≤ 100000; decide), fun p26 hp26 => ?_⟩
  have sp26 : Same G25 (upd G25 p26 (.tup [.str (Str.ofString "app"), .str (Str.ofString "keep"), .ref p25])) := same_new hp26 _
  have kp26 : (upd G25 p26 (.tup [.str (Str.ofString "app"), .str (Str.ofString "keep"), .ref p25])) p26 = some (.tup [.str (Str.ofString "app"), .str (Str.ofString "keep"), .ref p25]) := upd_same
  generalize upd G25 p26 (.tup [.str (Str.ofString "app"), .str (Str.ofString "keep"), .ref p25]) = G26 at sp26 kp26 ⊢
  walk_at "stp"
  have sw26 := sw25.trans sp26
  have dp26 : Den K G26 (.ref p26) (Trm.app (Str.ofString "keep") []).data := app_den (SqT.of kp26) (SqT.of (sp26 _ _ kp25)) .nil
  refine ⟨ln (by show 1 ≤ 100000; decide), fun p27 hp27 => ?_⟩
  have sp27 : Same G26 (upd G26 p27 (.tup [.ref p26])) := same_new hp27 _
  have kp27 : (upd G26 p27 (.tup [.ref p26])) p27 = some (.tup [.ref p26]) := upd_same
  generalize upd G26 p27 (.tup [.ref p26]) = G27 at sp27 kp27 ⊢
  walk_at "stp"
  have sw27 := sw26.trans sp27
  refine ⟨ln (by show 3 ≤ 100000; decide), fun p28 hp28 => ?_⟩
  have sp28 : Same G27 (upd G27 p28 (.tup [.str (Str.ofString "app"), .str (Str.ofString "not"), .ref p27])) := same_new hp28 _
  have kp28 : (upd G27 p28 (.tup [.str (Str.ofString "app"), .str (Str.ofString "not"), .ref p27])) p28 = some (.tup [.str (Str.ofString "app"), .str (Str.ofString "not"), .ref p27]) := upd_same
  generalize upd G27 p28 (.tup [.str (Str.ofString "app"), .str (Str.ofString "not"), .ref p27]) = G28 at sp28 kp28 ⊢
  walk_at "stp"
  have sw28 := sw27.trans sp28
  have dp28 : Den K G28 (.ref p28) (Trm.app (Str.ofString "not") [(.app (Str.ofString "keep") [])]).data := app_den (SqT.of kp28) (SqT.of (sp28 _ _ kp27)) (.cons (dp26.mono (sp27.trans sp28)) .nil)
  refine ⟨ln (by show 1 ≤ 100000; decide), fun p29 hp29 => ?_⟩
  have sp29 : Same G28 (upd G28 p29 (.tup [.ref p3])) := same_new hp29 _
  have kp29 : (upd G28 p29 (.tup [.ref p3])) p29 = some (.tup [.ref p3]) := upd_same
  generalize upd G28 p29 (.tup [.ref p3]) = G29 at sp29 kp29 ⊢
  walk_at "stp"
  have sw29 := sw28.trans sp29
  refine ⟨ln (by show 3 ≤ 100000; decide), fun p30 hp30 => ?_⟩
  have sp30 : Same G29 (upd G29 p30 (.tup [.str (Str.ofString "app"), .str (Str.ofString "not"), .ref p29])) := same_new hp30 _
  have kp30 : (upd G29 p30 (.tup [.str (Str.ofString "app"), .str (Str.ofString "not"), .ref p29])) p30 = some (.tup [.str (Str.ofString "app"), .str (Str.ofString "not"), .ref p29]) := upd_same
  generalize upd G29 p30 (.tup [.str (Str.ofString "app"), .str (Str.ofString "not"), .ref p29]) = G30 at sp30 kp30 ⊢
  walk_at "stp"
  have sw30 := sw29.trans sp30
  have dp30 : Den K G30 (.ref p30) (Trm.app (Str.ofString "not") [(.app w0 [c1])]).data := app_den (SqT.of kp30) (SqT.of (sp30 _ _ kp29)) (.cons (dp3.mono (sp4.trans (sp5.trans (sp6.trans (sp7.trans (sp8.trans (sp9.trans (sp10.trans (sp11.trans (sp12.trans (sp13.trans (sp14.trans (sp15.trans (sp16.trans (sp17.trans (sp18.trans (sp19.trans (sp20.trans (sp21.trans (sp22.trans (sp23.trans (sp24.trans (sp25.trans (sp26.trans (sp27.trans (sp28.trans (sp29.trans sp30))))))))))))))))))))))))))) .nil)
  refine ⟨ln (by show 1 ≤ 100000; decide), fun p31 hp31 => ?_⟩
  have sp31 : Same G30 (upd G30 p31 (.tup [.ref p30])) := same_new hp31 _
  have kp31 : (upd G30 p31 (.tup [.ref p30])) p31 = some (.tup [.ref p30]) := upd_same
  generalize upd G30 p31 (.tup [.ref p30]) = G31 at sp31 kp31 ⊢
  walk_at "stp"
  have sw31 := sw30.trans sp31
  refine ⟨ln (by show 3 ≤ 100000; decide), fun p32 hp32 => ?_⟩
  have sp32 : Same G31 (upd G31 p32 (.tup [.str (Str.ofString "app"), .str (Str.ofString "not"), .ref p31])) := same_new hp32 _
  have kp32 : (upd G31 p32 (.tup [.str (Str.ofString "app"), .str (Str.ofString "not"), .ref p31])) p32 = some (.tup [.str (Str.ofString "app"), .str (Str.ofString "not"), .ref p31]) := upd_same
  generalize upd G31 p32 (.tup [.str (Str.ofString "app"), .str (Str.ofString "not"), .ref p31]) = G32 at sp32 kp32 ⊢
  walk_at "stp"
  have sw32 := sw31.trans sp32
  have dp32 : Den K G32 (.ref p32) (Trm.app (Str.ofString "not") [(.app (Str.ofString "not") [(.app w0 [c1])])]).data := app_den (SqT.of kp32) (SqT.of (sp32 _ _ kp31)) (.cons (dp30.mono (sp31.trans sp32)) .nil)
  refine ⟨ln (by show 2 ≤ 100000; decide), fun p33 hp33 => ?_⟩
  have sp33 : Same G32 (upd G32 p33 (.lst [.ref p28, .ref p32])) := same_new hp33 _
  have kp33 : (upd G32 p33 (.lst [.ref p28, .ref p32])) p33 = some (.lst [.ref p28, .ref p32]) := upd_same
  generalize upd G32 p33 (.lst [.ref p28, .ref p32]) = G33 at sp33 kp33 ⊢
  walk_at "stp"
  have sw33 := sw32.trans sp33
  refine mAdd_l ((sp25.trans (sp26.trans (sp27.trans (sp28.trans (sp29.trans (sp30.trans (sp31.trans (sp32.trans sp33)))))))) _ _ kp24) kp33 (ln (by show 7 ≤ 100000; decide)) (fun p34 hp34 => ?_)
  have sp34 : Same G33 (upd G33 p34 (.lst ([.ref p8, .ref p10, .ref p12, .ref p16, .ref p22] ++ [.ref p28, .ref p32]))) := same_new hp34 _
  have kp34 : (upd G33 p34 (.lst ([.ref p8, .ref p10, .ref p12, .ref p16, .ref p22] ++ [.ref p28, .ref p32]))) p34 = some (.lst [.ref p8, .ref p10, .ref p12, .ref p16, .ref p22, .ref p28, .ref p32]) := upd_same
  generalize upd G33 p34 (.lst ([.ref p8, .ref p10, .ref p12, .ref p16, .ref p22] ++ [.ref p28, .ref p32])) = G34 at sp34 kp34 ⊢
  walk_at "stp"
  have sw34 := sw33.trans sp34
  refine ⟨ln (by show 1 ≤ 100000; decide), fun p35 hp35 => ?_⟩
  have sp35 : Same G34 (upd G34 p35 (.tup [.ref p3])) := same_new hp35 _
  have kp35 : (upd G34 p35 (.tup [.ref p3])) p35 = some (.tup [.ref p3]) := upd_same
  generalize upd G34 p35 (.tup [.ref p3]) = G35 at sp35 kp35 ⊢
  walk_at "stp"
  have sw35 := sw34.trans sp35
  refine ⟨ln (by show 3 ≤ 100000; decide), fun p36 hp36 => ?_⟩
  have sp36 : Same G35 (upd G35 p36 (.tup [.str (Str.ofString "app"), .str (Str.ofString "keep"), .ref p35])) := same_new hp36 _
  have kp36 : (upd G35 p36 (.tup [.str (Str.ofString "app"), .str (Str.ofString "keep"), .ref p35])) p36 = some (.tup [.str (Str.ofString "app"), .str (Str.ofString "keep"), .ref p35]) := upd_same
  generalize upd G35 p36 (.tup [.str (Str.ofString "app"), .str (Str.ofString "keep"), .ref p35]) = G36 at sp36 kp36 ⊢
  walk_at "stp"
  have sw36 := sw35.trans sp36
  have dp36 : Den K G36 (.ref p36) (Trm.app (Str.ofString "keep") [(.app w0 [c1])]).data := app_den (SqT.of kp36) (SqT.of (sp36 _ _ kp35)) (.cons (dp3.mono (sp4.trans (sp5.trans (sp6.trans (sp7.trans (sp8.trans (sp9.trans (sp10.trans (sp11.trans (sp12.trans (sp13.trans (sp14.trans (sp15.trans (sp16.trans (sp17.trans (sp18.trans (sp19.trans (sp20.trans (sp21.trans (sp22.trans (sp23.trans (sp24.trans (sp25.trans (sp26.trans (sp27.trans (sp28.trans (sp29.trans (sp30.trans (sp31.trans (sp32.trans (sp33.trans (sp34.trans (sp35.trans sp36))))))))))))))))))))))))))))))))) .nil)
  refine ⟨ln (by show 2 ≤ 100000; decide), fun p37 hp37 => ?_⟩
  have sp37 : Same G36 (upd G36 p37 (.tup [.str (Str.ofString "num"), .int 1])) := same_new hp37 _
  have kp37 : (upd G36 p37 (.tup [.str (Str.ofString "num"), .int 1])) p37 = some (.tup [.str (Str.ofString "num"), .int 1]) := upd_same
  generalize upd G36 p37 (.tup [.str (Str.ofString "num"), .int 1]) = G37 at sp37 kp37 ⊢
  walk_at "stp"
  have sw37 := sw36.trans sp37
  have dp37 : Den K G37 (.ref p37) (Trm.num 1).data := num_den (SqT.of kp37)
  refine ⟨ln (by show 2 ≤ 100000; decide), fun p38 hp38 => ?_⟩
  have sp38 : Same G37 (upd G37 p38 (.tup [.ref p37, x2])) := same_new hp38 _
  have kp38 : (upd G37 p38 (.tup [.ref p37, x2])) p38 = some (.tup [.ref p37, x2]) := upd_same
  generalize upd G37 p38 (.tup [.ref p37, x2]) = G38 at sp38 kp38 ⊢
  walk_at "stp"
  have sw38 := sw37.trans sp38
  refine ⟨ln (by show 3 ≤ 100000; decide), fun p39 hp39 => ?_⟩
  have sp39 : Same G38 (upd G38 p39 (.tup [.str (Str.ofString "app"), .str (Str.ofString "+"), .ref p38])) := same_new hp39 _
  have kp39 : (upd G38 p39 (.tup [.str (Str.ofString "app"), .str (Str.ofString "+"), .ref p38])) p39 = some (.tup [.str (Str.ofString "app"), .str (Str.ofString "+"), .ref p38]) := upd_same
  generalize upd G38 p39 (.tup [.str (Str.ofString "app"), .str (Str.ofString "+"), .ref p38]) = G39 at sp39 kp39 ⊢
  walk_at "stp"
  have sw39 := sw38.trans sp39
  have dp39 : Den K G39 (.ref p39) (Trm.app (Str.ofString "+") [(.num 1), c2]).data := app_den (SqT.of kp39) (SqT.of (sp39 _ _ kp38)) (.cons (dp37.mono (sp38.trans sp39)) (.cons (dc2.mono (sp5.trans (sp6.trans (sp7.trans (sp8.trans (sp9.trans (sp10.trans (sp11.trans (sp12.trans (sp13.trans (sp14.trans (sp15.trans (sp16.trans (sp17.trans (sp18.trans (sp19.trans (sp20.trans (sp21.trans (sp22.trans (sp23.trans (sp24.trans (sp25.trans (sp26.trans (sp27.trans (sp28.trans (sp29.trans (sp30.trans (sp31.trans (sp32.trans (sp33.trans (sp34.trans (sp35.trans (sp36.trans (sp37.trans (sp38.trans sp39))))))))))))))))))))))))))))))))))) .nil))
  refine ⟨ln (by show 2 ≤ 100000; decide), fun p40 hp40 => ?_⟩
  have sp40 : Same G39 (upd G39 p40 (.tup [.str (Str.ofString "num"), .int 1])) := same_new hp40 _
  have kp40 : (upd G39 p40 (.tup [.str (Str.ofString "num"), .int 1])) p40 = some (.tup [.str (Str.ofString "num"), .int 1]) := upd_same
  generalize upd G39 p40 (.tup [.str (Str.ofString "num"), .int 1]) = G40 at sp40 kp40 ⊢
  walk_at "stp"
  have sw40 := sw39.trans sp40
  have dp40 : Den K G40 (.ref p40) (Trm.num 1).data := num_den (SqT.of kp40)
  refine ⟨ln (by show 2 ≤ 100000; decide), fun p41 hp41 => ?_⟩
  have sp41 : Same G40 (upd G40 p41 (.tup [.ref p40, x2])) := same_new hp41 _
  have kp41 : (upd G40 p41 (.tup [.ref p40, x2])) p41 = some (.tup [.ref p40, x2]) := upd_same
  generalize upd G40 p41 (.tup [.ref p40, x2]) = G41 at sp41 kp41 ⊢
  walk_at "stp"
  have sw41 := sw40.trans sp41
  refine ⟨ln (by show 3 ≤ 100000; decide), fun p42 hp42 => ?_⟩
  have sp42 : Same G41 (upd G41 p42 (.tup [.str (Str.ofString "app"), .str (Str.ofString "[|]"), .ref p41])) := same_new hp42 _
  have kp42 : (upd G41 p42 (.tup [.str (Str.ofString "app"), .str (Str.ofString "[|]"), .ref p41])) p42 = some (.tup [.str (Str.ofString "app"), .str (Str.ofString "[|]"), .ref p41]) := upd_same
  generalize upd G41 p42 (.tup [.str (Str.ofString "app"), .str (Str.ofString "[|]"), .ref p41]) = G42 at sp42 kp42 ⊢
  walk_at "stp"
  have sw42 := sw41.trans sp42
  have dp42 : Den K G42 (.ref p42) (Trm.app (Str.ofString "[|]") [(.num 1), c2]).data := app_den (SqT.of kp42) (SqT.of (sp42 _ _ kp41)) (.cons (dp40.mono (sp41.trans sp42)) (.cons (dc2.mono (sp5.trans (sp6.trans (sp7.trans (sp8.trans (sp9.trans (sp10.trans (sp11.trans (sp12.trans (sp13.trans (sp14.trans (sp15.trans (sp16.trans (sp17.trans (sp18.trans (sp19.trans (sp20.trans (sp21.trans (sp22.trans (sp23.trans (sp24.trans (sp25.trans (sp26.trans (sp27.trans (sp28.trans (sp29.trans (sp30.trans (sp31.trans (sp32.trans (sp33.trans (sp34.trans (sp35.trans (sp36.trans (sp37.trans (sp38.trans (sp39.trans (sp40.trans (sp41.trans sp42)))))))))))))))))))))))))))))))))))))) .nil))
  refine ⟨ln (by show 3 ≤ 100000; decide), fun p43 hp43 => ?_⟩
  have sp43 : Same G42 (upd G42 p43 (.lst [.ref p36, .ref p39, .ref p42])) := same_new hp43 _
  have kp43 : (upd G42 p43 (.lst [.ref p36, .ref p39, .ref p42])) p43 = some (.lst [.ref p36, .ref p39, .ref p42]) := upd_same
  generalize upd G42 p43 (.lst [.ref p36, .ref p39, .ref p42]) = G43 at sp43 kp43 ⊢
  walk_at "stp"
  have sw43 := sw42.trans sp43
  refine mAdd_l ((sp35.trans (sp36.trans (sp37.trans (sp38.trans (sp39.trans (sp40.trans (sp41.trans (sp42.trans sp43)))))))) _ _ kp34) kp43 (ln (by show 10 ≤ 100000; decide)) (fun p44 hp44 => ?_)
  have sp44 : Same G43 (upd G43 p44 (.lst ([.ref p8, .ref p10, .ref p12, .ref p16, .ref p22, .ref p28, .ref p32] ++ [.ref p36, .ref p39, .ref p42]))) := same_new hp44 _
  have kp44 : (upd G43 p44 (.lst ([.ref p8, .ref p10, .ref p12, .ref p16, .ref p22, .ref p28, .ref p32] ++ [.ref p36, .ref p39, .ref p42]))) p44 = some (.lst [.ref p8, .ref p10, .ref p12, .ref p16, .ref p22, .ref p28, .ref p32, .ref p36, .ref p39, .ref p42]) := upd_same
  generalize upd G43 p44 (.lst ([.ref p8, .ref p10, .ref p12, .ref p16, .ref p22, .ref p28, .ref p32] ++ [.ref p36, .ref p39, .ref p42])) = G44 at sp44 kp44 ⊢
  walk_at "stp"
  have sw44 := sw43.trans sp44
  refine ⟨ln (by show 0 ≤ 100000; decide), fun p45 hp45 => ?_⟩
  have sp45 : Same G44 (upd G44 p45 (.tup [])) := same_new hp45 _
  have kp45 : (upd G44 p45 (.tup [])) p45 = some (.tup []) := upd_same
  generalize upd G44 p45 (.tup []) = G45 at sp45 kp45 ⊢
  walk_at "stp"
  have sw45 := sw44.trans sp45
  refine ⟨ln (by show 3 ≤ 100000; decide), fun p46 hp46 => ?_⟩
  have sp46 : Same G45 (upd G45 p46 (.tup [.str (Str.ofString "app"), .str (Str.ofString "[]"), .ref p45])) := same_new hp46 _
  have kp46 : (upd G45 p46 (.tup [.str (Str.ofString "app"), .str (Str.ofString "[]"), .ref p45])) p46 = some (.tup [.str (Str.ofString "app"), .str (Str.ofString "[]"), .ref p45]) := upd_same
  generalize upd G45 p46 (.tup [.str (Str.ofString "app"), .str (Str.ofString "[]"), .ref p45]) = G46 at sp46 kp46 ⊢
  walk_at "stp"
  have sw46 := sw45.trans sp46
  have dp46 : Den K G46 (.ref p46) (Trm.app (Str.ofString "[]") []).data := app_den (SqT.of kp46) (SqT.of (sp46 _ _ kp45)) .nil
  refine ⟨ln (by show 2 ≤ 100000; decide), fun p47 hp47 => ?_⟩
  have sp47 : Same G46 (upd G46 p47 (.tup [.str (Str.ofString "num"), .int s0])) := same_new hp47 _
  have kp47 : (upd G46 p47 (.tup [.str (Str.ofString "num"), .int s0])) p47 = some (.tup [.str (Str.ofString "num"), .int s0]) := upd_same
  generalize upd G46 p47 (.tup [.str (Str.ofString "num"), .int s0]) = G47 at sp47 kp47 ⊢
  walk_at "stp"
  have sw47 := sw46.trans sp47
  have dp47 : Den K G47 (.ref p47) (Trm.num s0).data := num_den (SqT.of kp47)
  refine ⟨ln (by show 2 ≤ 100000; decide), fun p48 hp48 => ?_⟩
  have sp48 : Same G47 (upd G47 p48 (.tup [.str (Str.ofString "any"), .str (Str.ofString "X")])) := same_new hp48 _
  have kp48 : (upd G47 p48 (.tup [.str (Str.ofString "any"), .str (Str.ofString "X")])) p48 = some (.tup [.str (Str.ofString "any"), .str (Str.ofString "X")]) := upd_same
  generalize upd G47 p48 (.tup [.str (Str.ofString "any"), .str (Str.ofString "X")]) = G48 at sp48 kp48 ⊢
  walk_at "stp"
  have sw48 := sw47.trans sp48
  have dp48 : Den K G48 (.ref p48) (Trm.any (Str.ofString "X")).data := any_den (SqT.of kp48)
  refine ⟨ln (by show 2 ≤ 100000; decide), fun p49 hp49 => ?_⟩
  have sp49 : Same G48 (upd G48 p49 (.lst [.ref p47, .ref p48])) := same_new hp49 _
  have kp49 : (upd G48 p49 (.lst [.ref p47, .ref p48])) p49 = some (.lst [.ref p47, .ref p48]) := upd_same
  generalize upd G48 p49 (.lst [.ref p47, .ref p48]) = G49 at sp49 kp49 ⊢
  walk_at "stp"
  have sw49 := sw48.trans sp49
  obtain ⟨xl, tl, hxl, dxl, ntl, gtl, stl, ztl⟩ : ∃ (xl : V) (tl : Trm), atI [V.ref p47, V.ref p48] (s0 % 2) = some xl ∧ Den K G49 xl tl.data ∧ named tl = false ∧ goalB tl = false ∧ short tl ∧ tl.size = 1 := by
    have hi : s0 % 2 = 0 ∨ s0 % 2 = 1 := by omega
    rcases hi with z | z
    · exact ⟨_, .num s0, by rw [z]; rfl, dp47.mono (sp48.trans sp49), rfl, rfl, ⟨trivial, trivial⟩, rfl⟩
    · exact ⟨_, .any (Str.ofString "X"), by rw [z]; rfl, dp48.mono sp49, rfl, rfl, ⟨trivial, trivial⟩, rfl⟩
  refine mIx_l (SqL.of kp49) hxl ?_
  walk_at "stp"
  refine ⟨ln (by show 2 ≤ 100000; decide), fun p50 hp50 => ?_⟩
  have sp50 : Same G49 (upd G49 p50 (.lst [.ref p46, xl])) := same_new hp50 _
  have kp50 : (upd G49 p50 (.lst [.ref p46, xl])) p50 = some (.lst [.ref p46, xl]) := upd_same
  generalize upd G49 p50 (.lst [.ref p46, xl]) = G50 at sp50 kp50 ⊢
  walk_at "stp"
  have sw50 := sw49.trans sp50
  refine mAdd_l ((sp45.trans (sp46.trans (sp47.trans (sp48.trans (sp49.trans sp50))))) _ _ kp44) kp50 (ln (by show 12 ≤ 100000; decide)) (fun p51 hp51 => ?_)
  have sp51 : Same G50 (upd G50 p51 (.lst ([.ref p8, .ref p10, .ref p12, .ref p16, .ref p22, .ref p28, .ref p32, .ref p36, .ref p39, .ref p42] ++ [.ref p46, xl]))) := same_new hp51 _
  have kp51 : (upd G50 p51 (.lst ([.ref p8, .ref p10, .ref p12, .ref p16, .ref p22, .ref p28, .ref p32, .ref p36, .ref p39, .ref p42] ++ [.ref p46, xl]))) p51 = some (.lst [.ref p8, .ref p10, .ref p12, .ref p16, .ref p22, .ref p28, .ref p32, .ref p36, .ref p39, .ref p42, .ref p46, xl]) := upd_same
  generalize upd G50 p51 (.lst ([.ref p8, .ref p10, .ref p12, .ref p16, .ref p22, .ref p28, .ref p32, .ref p36, .ref p39, .ref p42] ++ [.ref p46, xl])) = G51 at sp51 kp51 ⊢
  walk_at "stp"
  have sw51 := sw50.trans sp51
  have hk : kind = 4 ∨ kind = 5 ∨ kind = 6 ∨ kind = 7 ∨ kind = 8 ∨ kind = 9 ∨ kind = 10 ∨ kind = 11 ∨ kind = 12 ∨ kind = 13 ∨ kind = 14 ∨ kind = 15 := by omega
  rcases hk with rfl | rfl | rfl | rfl | rfl | rfl | rfl | rfl | rfl | rfl | rfl | rfl
  · refine mIx_l (SqL.of kp51) (v := .ref p8) rfl ?_
    exact q _ (.app w0 [c3]) _ sw51 (dp8.mono (sp9.trans (sp10.trans (sp11.trans (sp12.trans (sp13.trans (sp14.trans (sp15.trans (sp16.trans (sp17.trans (sp18.trans (sp19.trans (sp20.trans (sp21.trans (sp22.trans (sp23.trans (sp24.trans (sp25.trans (sp26.trans (sp27.trans (sp28.trans (sp29.trans (sp30.trans (sp31.trans (sp32.trans (sp33.trans (sp34.trans (sp35.trans (sp36.trans (sp37.trans (sp38.trans (sp39.trans (sp40.trans (sp41.trans (sp42.trans (sp43.trans (sp44.trans (sp45.trans (sp46.trans (sp47.trans (sp48.trans (sp49.trans (sp50.trans sp51))))))))))))))))))))))))))))))))))))))))))) (by rw [decide_eq_true (by decide)]; exact named_w gw0) (by rw [decide_eq_true (by decide)]; exact goal_w gw0) (short_w gw0 lc3) (by simp only [Trm.size, Trm.sizeL]; omega)
  · refine mIx_l (SqL.of kp51) (v := .ref p10) rfl ?_
    exact q _ (.app (Str.ofString "not") [(.app w0 [c1])]) _ sw51 (dp10.mono (sp11.trans (sp12.trans (sp13.trans (sp14.trans (sp15.trans (sp16.trans (sp17.trans (sp18.trans (sp19.trans (sp20.trans (sp21.trans (sp22.trans (sp23.trans (sp24.trans (sp25.trans (sp26.trans (sp27.trans (sp28.trans (sp29.trans (sp30.trans (sp31.trans (sp32.trans (sp33.trans (sp34.trans (sp35.trans (sp36.trans (sp37.trans (sp38.trans (sp39.trans (sp40.trans (sp41.trans (sp42.trans (sp43.trans (sp44.trans (sp45.trans (sp46.trans (sp47.trans (sp48.trans (sp49.trans (sp50.trans sp51))))))))))))))))))))))))))))))))))))))))) (by rw [decide_eq_false (by decide)]; exact named_notS _) (by rw [decide_eq_true (by decide)]; exact (goal_not _).trans (named_w gw0)) (short_one (by decide +kernel) (g0len gw0)) (by simp only [Trm.size, Trm.sizeL]; omega)
  · refine mIx_l (SqL.of kp51) (v := .ref p12) rfl ?_
    exact q _ (.app (Str.ofString "keep") []) _ sw51 (dp12.mono (sp13.trans (sp14.trans (sp15.trans (sp16.trans (sp17.trans (sp18.trans (sp19.trans (sp20.trans (sp21.trans (sp22.trans (sp23.trans (sp24.trans (sp25.trans (sp26.trans (sp27.trans (sp28.trans (sp29.trans (sp30.trans (sp31.trans (sp32.trans (sp33.trans (sp34.trans (sp35.trans (sp36.trans (sp37.trans (sp38.trans (sp39.trans (sp40.trans (sp41.trans (sp42.trans (sp43.trans (sp44.trans (sp45.trans (sp46.trans (sp47.trans (sp48.trans (sp49.trans (sp50.trans sp51))))))))))))))))))))))))))))))))))))))) (by rw [decide_eq_false (by decide)]; exact named_keepS _) (by rw [decide_eq_true (by decide)]; exact goal_keep _) (short_nil (by decide +kernel)) (by simp only [Trm.size, Trm.sizeL]; omega)
  · refine mIx_l (SqL.of kp51) (v := .ref p16) rfl ?_
    exact q _ (.app (Str.ofString "not") [(.any (Str.ofString "X")), c2]) _ sw51 (dp16.mono (sp17.trans (sp18.trans (sp19.trans (sp20.trans (sp21.trans (sp22.trans (sp23.trans (sp24.trans (sp25.trans (sp26.trans (sp27.trans (sp28.trans (sp29.trans (sp30.trans (sp31.trans (sp32.trans (sp33.trans (sp34.trans (sp35.trans (sp36.trans (sp37.trans (sp38.trans (sp39.trans (sp40.trans (sp41.trans (sp42.trans (sp43.trans (sp44.trans (sp45.trans (sp46.trans (sp47.trans (sp48.trans (sp49.trans (sp50.trans sp51))))))))))))))))))))))))))))))))))) (by rw [decide_eq_false (by decide)]; exact named_notS _) (by rw [decide_eq_false (by decide)]; exact goal_not2 _ _) (short_two (by decide +kernel) trivial lc2) (by simp only [Trm.size, Trm.sizeL]; omega)
  · refine mIx_l (SqL.of kp51) (v := .ref p22) rfl ?_
    exact q _ (.app (Str.ofString "not") [(.app (Str.ofString "+") [(.num 1), (.num 2)])]) _ sw51 (dp22.mono (sp23.trans (sp24.trans (sp25.trans (sp26.trans (sp27.trans (sp28.trans (sp29.trans (sp30.trans (sp31.trans (sp32.trans (sp33.trans (sp34.trans (sp35.trans (sp36.trans (sp37.trans (sp38.trans (sp39.trans (sp40.trans (sp41.trans (sp42.trans (sp43.trans (sp44.trans (sp45.trans (sp46.trans (sp47.trans (sp48.trans (sp49.trans (sp50.trans sp51))))))))))))))))))))))))))))) (by rw [decide_eq_false (by decide)]; exact named_notS _) (by rw [decide_eq_false (by decide)]; exact (goal_not _).trans (named_plus _)) (short_one (by decide +kernel) (by show (Str.ofString "+").length ≤ 1000; decide +kernel)) (by simp only [Trm.size, Trm.sizeL]; omega)
  · refine mIx_l (SqL.of kp51) (v := .ref p28) rfl ?_
    exact q _ (.app (Str.ofString "not") [(.app (Str.ofString "keep") [])]) _ sw51 (dp28.mono (sp29.trans (sp30.trans (sp31.trans (sp32.trans (sp33.trans (sp34.trans (sp35.trans (sp36.trans (sp37.trans (sp38.trans (sp39.trans (sp40.trans (sp41.trans (sp42.trans (sp43.trans (sp44.trans (sp45.trans (sp46.trans (sp47.trans (sp48.trans (sp49.trans (sp50.trans sp51))))))))))))))))))))))) (by rw [decide_eq_false (by decide)]; exact named_notS _) (by rw [decide_eq_false (by decide)]; exact (goal_not _).trans (named_keepS _)) (short_one (by decide +kernel) (by show keepS.length ≤ 1000; decide +kernel)) (by simp only [Trm.size, Trm.sizeL]; omega)
  · refine mIx_l (SqL.of kp51) (v := .ref p32) rfl ?_
    exact q _ (.app (Str.ofString "not") [(.app (Str.ofString "not") [(.app w0 [c1])])]) _ sw51 (dp32.mono (sp33.trans (sp34.trans (sp35.trans (sp36.trans (sp37.trans (sp38.trans (sp39.trans (sp40.trans (sp41.trans (sp42.trans (sp43.trans (sp44.trans (sp45.trans (sp46.trans (sp47.trans (sp48.trans (sp49.trans (sp50.trans sp51))))))))))))))))))) (by rw [decide_eq_false (by decide)]; exact named_notS _) (by rw [decide_eq_false (by decide)]; exact (goal_not _).trans (named_notS _)) (short_one (by decide +kernel) (by show notS.length ≤ 1000; decide +kernel)) (by simp only [Trm.size, Trm.sizeL]; omega)
  · refine mIx_l (SqL.of kp51) (v := .ref p36) rfl ?_
    exact q _ (.app (Str.ofString "keep") [(.app w0 [c1])]) _ sw51 (dp36.mono (sp37.trans (sp38.trans (sp39.trans (sp40.trans (sp41.trans (sp42.trans (sp43.trans (sp44.trans (sp45.trans (sp46.trans (sp47.trans (sp48.trans (sp49.trans (sp50.trans sp51))))))))))))))) (by rw [decide_eq_false (by decide)]; exact named_keepS _) (by rw [decide_eq_false (by decide)]; exact goal_keep _) (short_one (by decide +kernel) (g0len gw0)) (by simp only [Trm.size, Trm.sizeL]; omega)
  · refine mIx_l (SqL.of kp51) (v := .ref p39) rfl ?_
    exact q _ (.app (Str.ofString "+") [(.num 1), c2]) _ sw51 (dp39.mono (sp40.trans (sp41.trans (sp42.trans (sp43.trans (sp44.trans (sp45.trans (sp46.trans (sp47.trans (sp48.trans (sp49.trans (sp50.trans sp51)))))))))))) (by rw [decide_eq_false (by decide)]; exact named_plus _) (by rw [decide_eq_false (by decide)]; exact goal_plus _) (short_two (by decide +kernel) trivial lc2) (by simp only [Trm.size, Trm.sizeL]; omega)
  · refine mIx_l (SqL.of kp51) (v := .ref p42) rfl ?_
    exact q _ (.app (Str.ofString "[|]") [(.num 1), c2]) _ sw51 (dp42.mono (sp43.trans (sp44.trans (sp45.trans (sp46.trans (sp47.trans (sp48.trans (sp49.trans (sp50.trans sp51))))))))) (by rw [decide_eq_false (by decide)]; exact named_cons _) (by rw [decide_eq_false (by decide)]; exact goal_cons _) (short_two (by decide +kernel) trivial lc2) (by simp only [Trm.size, Trm.sizeL]; omega)
  · refine mIx_l (SqL.of kp51) (v := .ref p46) rfl ?_
    exact q _ (.app (Str.ofString "[]") []) _ sw51 (dp46.mono (sp47.trans (sp48.trans (sp49.trans (sp50.trans sp51))))) (by rw [decide_eq_false (by decide)]; exact named_nil _) (by rw [decide_eq_false (by decide)]; exact goal_nil _) (short_nil (by decide +kernel)) (by simp only [Trm.size, Trm.sizeL]; omega)
  · refine mIx_l (SqL.of kp51) (v := xl) rfl ?_
    exact q _ tl _ sw51 (dxl.mono (sp50.trans sp51)) (by rw [decide_eq_false (by decide)]; exact ntl) (by rw [decide_eq_false (by decide)]; exact gtl) (stl) (by simp only [Trm.size, Trm.sizeL, ztl]; omega)
end
end My
set_option Elab.async false
set_option linter.all false
set_option maxRecDepth 100000
set_option maxHeartbeats 4000000
namespace My
open PySem PySem.Spec PyProof.Rows L2
local macro_rules | `(tactic| walk_at "stp") => `(tactic| repeat (with_reducible first | refine tSeq_i ?_ | refine tAsg_i ?_ | refine gName_i ?_ | refine tRet_i ?_ | refine tIfS_i ?_ | refine tNext_i ?_ | refine tDrop_i ?_ | refine mTest_i ?_ | refine mTrue_i ?_ | refine mTru_b ?_ | refine mB_i ?_ | refine tOp_i ?_ | refine tUn_i ?_ | refine mUn_i ?_ | refine m20_i ?_ | refine mAdd_i ?_ | refine mEq_i ?_ | refine mEq_s ?_ | refine mEq_b ?_ | refine mInS_i ?_ | (refine' mVar_i ?hv ?_; (case hv => with_unfolding_all rfl)) | refine tC_i ?_ | refine mChain_i ?_ | refine mAndV_i ?_ | refine mOrV_i ?_ | refine mNotV_i ?_ | refine tIf_i ?_ | refine tAnd_i ?_ | refine tOr_i ?_ | refine tNot_i ?_ | refine tCB_i ?_ | refine tCall0_i ?_ | refine tCons_i ?_ | refine tNil_i ?_ | refine tBM_i ?_ | refine tBM0_i ?_ | refine tTup_i ?_ | refine tLst_i ?_ | refine tSl_i ?_ | refine tNoPart_i ?_ | refine mPart_i ?_ | refine mI_i ?_ | refine is_str ?_ | refine is_bool ?_ | refine is_int ?_ | refine is_int_bool ?_ | refine mMin_i ?_ | refine isN_non ?_ | refine isN_ref ?_ | refine mInt_b ?_ | refine mMax_i ?_ | refine tDGet_i ?_ | refine tDGet2_i ?_ | refine sDPut_i ?_ | refine tDisp_i ?_ | refine tPairs_c ?_ | refine tPairs_n ?_ | refine iRng2_i ?_ | refine iRev_i ?_ | refine iEnum_i ?_ | refine iSeq_i ?_ | refine mAbs_i ?_ | refine gCons_i ?_ | refine gNil_i ?_ | refine tWhile_i ?_ | (refine' mAug_i ?hw ?_; (case hw => with_unfolding_all rfl)) | refine mIAdd_i ?_ | refine tFor_i ?_ | refine tRaise_i ?_ | refine tXMake_i ?_ | refine tTry_i ?_ | refine tXGet_i ?_ | refine tBInit_i ?_ | refine tXSet_i ?_ | refine tPar_i ?_ | refine tF3i_i ?_ | refine iZip_i ?_ | refine iSeq_i ?_ | refine iStr_i ?_ | refine iList_i ?_ | refine iTup_i ?_ | refine iRng1_i ?_ | refine tComp_i ?_ | (refine m2_i ?hc ?_; (case hc => first | (show (0 : Int) < _; decide) | exact cdiv_i (by decide) (by decide)))))
local macro_rules | `(tactic| walk_at "stm") => `(tactic| repeat (with_reducible first | refine tAsg_i ?_ | refine gName_i ?_ | refine tRet_i ?_ | refine tIfS_i ?_ | refine tNext_i ?_ | refine tDrop_i ?_ | refine mTest_i ?_ | refine mTrue_i ?_ | refine mTru_b ?_ | refine mB_i ?_ | refine tOp_i ?_ | refine tUn_i ?_ | refine mUn_i ?_ | refine m20_i ?_ | refine mAdd_i ?_ | refine mEq_i ?_ | refine mEq_s ?_ | refine mEq_b ?_ | refine mInS_i ?_ | (refine' mVar_i ?hv ?_; (case hv => with_unfolding_all rfl)) | refine tC_i ?_ | refine mChain_i ?_ | refine mAndV_i ?_ | refine mOrV_i ?_ | refine mNotV_i ?_ | refine tIf_i ?_ | refine tAnd_i ?_ | refine tOr_i ?_ | refine tNot_i ?_ | refine tCB_i ?_ | refine tCall0_i ?_ | refine tCons_i ?_ | refine tNil_i ?_ | refine tBM_i ?_ | refine tBM0_i ?_ | refine tTup_i ?_ | refine tLst_i ?_ | refine tSl_i ?_ | refine tNoPart_i ?_ | refine mPart_i ?_ | refine mI_i ?_ | refine is_str ?_ | refine is_bool ?_ | refine is_int ?_ | refine is_int_bool ?_ | refine mMin_i ?_ | refine isN_non ?_ | refine isN_ref ?_ | refine mInt_b ?_ | refine mMax_i ?_ | refine tDGet_i ?_ | refine tDGet2_i ?_ | refine sDPut_i ?_ | refine tDisp_i ?_ | refine tPairs_c ?_ | refine tPairs_n ?_ | refine iRng2_i ?_ | refine iRev_i ?_ | refine iEnum_i ?_ | refine iSeq_i ?_ | refine mAbs_i ?_ | refine gCons_i ?_ | refine gNil_i ?_ | refine tWhile_i ?_ | (refine' mAug_i ?hw ?_; (case hw => with_unfolding_all rfl)) | refine mIAdd_i ?_ | refine tFor_i ?_ | refine tRaise_i ?_ | refine tXMake_i ?_ | refine tTry_i ?_ | refine tXGet_i ?_ | refine tBInit_i ?_ | refine tXSet_i ?_ | refine tPar_i ?_ | refine tF3i_i ?_ | refine iZip_i ?_ | refine iSeq_i ?_ | refine iStr_i ?_ | refine iList_i ?_ | refine iTup_i ?_ | refine iRng1_i ?_ | refine tComp_i ?_ | (refine m2_i ?hc ?_; (case hc => first | (show (0 : Int) < _; decide) | exact cdiv_i (by decide) (by decide)))))
section
variable {P : Program} {w : World} {K : PySem.W.Frag} {mg : Str → Option Value} {base : Heap} {t : Ad}
theorem nin_bl {K : PySem.W.Frag} {H : Hp} {Q : VK} {p : Addr} (bs : List Bool) (h : SqL K H p (bs.map V.bl)) (k : Q (.bl (!bs.contains true)) H) : rIn K true (.bl true) (.ref p) H Q := by
  obtain ⟨p', xs, e0, e1, e2, e3, e4⟩ := in_bl (Q := fun v _ => v = .bl (bs.contains true)) bs h rfl
  refine ⟨p', xs, e0, e1, e2, e3, ?_⟩
  have e4 : V.bl (inV (.bl true) xs) = .bl (bs.contains true) := e4
  have e4 : inV (.bl true) xs = bs.contains true := by injection e4
  show Q (.bl (!inV (.bl true) xs)) H
  rw [e4]
  exact k
theorem no_l_size {K : PySem.W.Frag} {H : Hp} {v : V} {R : Trm → Prop} (h : ∃ t : Trm, Den K H v t.data ∧ t.size ≤ 0 ∧ 0 ≤ 1000 ∧ R t) : False := by
  obtain ⟨t, _, z, _⟩ := h
  have := Trm.size_pos t
  omega
theorem st_l_size (T : Txt K mg t)  (n : Nat) (G_l_size : FnOk P w K mg base CX0 (n + 1) t.a_l_size t.d_l_size ["_law_term_here"] (sp_l_size K n)) : FnOk P w K mg base CX0 (n + 1 + 1) t.a_l_size t.d_l_size ["_law_term_here"] (sp_l_size K (n + 1)) := by
  refine T.F_l_size.ok (k := n + 1) sc_l_size (fun vs H Q E h => ?_) (fun cdv A outer s H vs Q E hr h => ?_)
  · unfold sp_l_size at h
    split at h
    · rfl
    · exact h.elim
  unfold sp_l_size at h
  split at h
  rotate_left
  · exact h.elim
  refine ⟨_, (pss_cons (ps_if (mt_cmp mo_ne (pe_ix (ki_seq K rfl) (mv 0) pe_int (fun _ _ => rfl)) pe_str (nomark _)) (pss_one (ps_ret pe_int)) pss_nil) (pss_one (ps_ret (pe_op (ko_add K rfl) pe_int (pe_callB (kc_sum K rfl rfl) rfl T.n_sum boot_sum (pa_con (pe_comp rfl (kpi_tup K rfl (pe_ix (ki_seq K rfl) (mv 0) pe_int (fun _ _ => rfl))) (comp_sc (defScope s_l_size) ["_law_term_here"] ["_law_term_here"] rfl rfl (by decide +kernel)) (fun _ _ _ _ _ => pts_nil) (fun _ _ _ _ _ => (pe_call G_l_size (hr.mono (by first | decide | omega)) rfl T.m_l_size T.F_l_size.kp T.b_l_size .nil pass0 (pa_con (mv 0) pa_nil)))) pa_nil)))))), ?_⟩
  rename_i v
  obtain ⟨t0, hd, hz, hn, q⟩ := h
  cases t0 with
  | num m =>
    obtain ⟨a, rfl, hs⟩ := den_num hd
    walk_at "stp"
    refine mIx_t hs (v := .str numS) rfl ?_
    walk_at "stp"
    refine iteB (fun e => ?_) (fun e => absurd e (by decide +kernel))
    walk_at "stp"
    exact q H (Same.refl H)
  | any m =>
    obtain ⟨a, rfl, hs⟩ := den_any hd
    walk_at "stp"
    refine mIx_t hs (v := .str anyS) rfl ?_
    walk_at "stp"
    refine iteB (fun e => ?_) (fun e => absurd e (by decide +kernel))
    walk_at "stp"
    exact q H (Same.refl H)
  | app sg ks =>
    obtain ⟨a, b, us, rfl, hs, hb, hk⟩ := den_app hd
    walk_at "stp"
    refine mIx_t hs (v := .str appS) rfl ?_
    walk_at "stp"
    refine iteB (fun e => absurd e (by decide +kernel)) (fun e => ?_)
    walk_at "stp"
    refine mIx_t hs (v := .ref b) rfl ?_
    refine ⟨b, rfl, ⟨_, hb⟩, fun D hD => ?_⟩
    simp only [Trm.size] at hz
    have hl := hk.length
    rw [Trm.dataL_map, List.length_map] at hl
    have l4 := Trm.len_le ks
    refine comp_row (row_tup (xs := us)) (fun i ys H' => Same H H' ∧ ys = ((ks.take i).map fun t : Trm => V.int t.size) ∧ H' D = some (.lst ys)) (ln (by omega)) ⟨same_new hD _, rfl, upd_same⟩ (fun i ys H' hP => hP.1.tup hb) (fun i ys H' Q' hi' hl' hP k => ?_) (fun ys H' hl' hP => ?_)
    · obtain ⟨g1, g2, g3⟩ := hP
      have hki : i < ks.length := by omega
      have hx : us[i]? = some us[i] := List.getElem?_eq_getElem hi'
      have hg : us.getD i .non = us[i] := by rw [List.getD_eq_getElem?_getD, hx]; rfl
      obtain ⟨d, e1, e2⟩ := hk.get hx
      rw [Trm.dataL_map, List.getElem?_map, List.getElem?_eq_getElem hki] at e1
      have e1 : ks[i].data = d := Option.some.inj e1
      subst e1
      walk_at "stp"
      rw [hg]
      have hsz : ks[i].size ≤ Trm.sizeL ks := by
        have e := Trm.sizeL_app (ks.take i) (ks.drop i)
        rw [List.take_append_drop, List.drop_eq_getElem_cons hki, Trm.sizeL] at e
        omega
      refine ⟨ks[i], e2.mono g1, by omega, by omega, fun H2 s2 => ?_⟩
      refine k _ _ (s2 _ _ g3) ⟨same_upd (g1.trans s2) hD, ?_, upd_same⟩
      rw [g2, List.take_add_one, List.getElem?_eq_getElem hki, List.map_append]
      rfl
    · obtain ⟨g1, g2, g3⟩ := hP
      have e : ks.take us.length = ks := List.take_of_length_le (by omega)
      rw [e] at g2
      walk_at "stp"
      refine ⟨D, ks.map fun t : Trm => (t.size : Int), rfl, SqL.of (by rw [List.map_map]; exact g2 ▸ g3), fun n hn => ?_, ?_, ?_⟩
      · obtain ⟨t, _, rfl⟩ := List.mem_map.mp hn
        omega
      · rw [sum_sizes]; omega
      · walk_at "stp"
        rw [sum_sizes]
        have e : (1 : Int) + (Trm.sizeL ks : Int) = ((Trm.app sg ks).size : Int) := by simp only [Trm.size]; omega
        rw [e]
        exact q H' g1
theorem ok_l_size (T : Txt K mg t)  (n : Nat) : FnOk P w K mg base CX0 (n + 1) t.a_l_size t.d_l_size ["_law_term_here"] (sp_l_size K n) := by
  induction n with
  | zero =>
    have no : ∀ vs H Q E, (sp_l_size K 0) vs H Q E → False := fun vs H Q E h => by
      unfold sp_l_size at h
      split at h
      · exact no_l_size h
      · exact h
    exact ⟨fun vs H Q E h => (no vs H Q E h).elim, fun A outer s H args us vs Q E _ _ _ _ h => (no vs H Q E h).elim⟩
  | succ n ih =>
    have e : n + 1 + 1 = n + 1 + 1 := by omega
    rw [e]
    exact st_l_size T  n ih
theorem ok_l_refusal (T : Txt K mg t)  : FnOkN P w K mg base 1 t.a_l_refusal t.d_l_refusal ["_law_e"] (sp_l_refusal K t.k_NoRule) := by
  refine T.F_l_refusal.okN sc_l_refusal (fun vs H Q E h => ?_) (fun cdv A outer s H vs Q E hr h => ?_)
  · unfold sp_l_refusal at h
    split at h
    · rfl
    · exact h.elim
  unfold sp_l_refusal at h
  split at h
  rotate_left
  · exact h.elim
  refine ⟨_, (pss_cons (ps_set (i := 1) (hs := sw_lst) sc_l_refusal.nd rfl (by first | exact Or.inl rfl | exact Or.inr rfl) (pe_lst (pa_con (pe_callB (kc_isX K rfl) rfl T.n_isinstance boot_isinstance (pa_con (mv 0) (pa_con (pe_glob (v := .ref t.k_NoText) rfl T.m_NoText rfl) pa_nil))) (pa_con (pe_callB (kc_isX K rfl) rfl T.n_isinstance boot_isinstance (pa_con (mv 0) (pa_con (pe_glob (v := .ref t.k_NoSign) rfl T.m_NoSign rfl) pa_nil))) (pa_con (pe_callB (kc_isX K rfl) rfl T.n_isinstance boot_isinstance (pa_con (mv 0) (pa_con (pe_glob (v := .ref t.k_Big) rfl T.m_Big rfl) pa_nil))) (pa_con (pe_callB (kc_isX K rfl) rfl T.n_isinstance boot_isinstance (pa_con (mv 0) (pa_con (pe_glob (v := .ref t.k_HasKeep) rfl T.m_HasKeep rfl) pa_nil))) pa_nil)))))) (pss_cons (ps_set (i := 1) (hs := sw_bin) sc_l_refusal.nd rfl (by first | exact Or.inl rfl | exact Or.inr rfl) (pe_op (ko_add K rfl) (mv 1) (pe_lst (pa_con (pe_callB (kc_isX K rfl) rfl T.n_isinstance boot_isinstance (pa_con (mv 0) (pa_con (pe_glob (v := .ref t.k_NotLayered) rfl T.m_NotLayered rfl) pa_nil))) (pa_con (pe_callB (kc_isX K rfl) rfl T.n_isinstance boot_isinstance (pa_con (mv 0) (pa_con (pe_glob (v := .ref t.k_Fault) rfl T.m_Fault rfl) pa_nil))) pa_nil))))) (pss_one (ps_ret (me_and (pe_callB (kc_isX K rfl) rfl T.n_isinstance boot_isinstance (pa_con (mv 0) (pa_con (pe_glob (v := .ref t.k_NoRule) rfl T.m_NoRule rfl) pa_nil))) (me_and (pe_callB (kc_isX K rfl) rfl T.n_isinstance boot_isinstance (pa_con (mv 0) (pa_con (pe_bty rfl T.n_ValueError boot_ValueError) pa_nil))) (me_and (pe_cmpR (ko_ninV K rfl) pe_bl (mv 1) (by with_unfolding_all rfl)) (pe_one (pe_cmpR mo_eq (ke_xget K rfl (mv 0)) pe_int (nomark _)))))))))), ?_⟩
  rename_i ea
  obtain ⟨i0, q⟩ := h
  obtain ⟨dx, x1, x2⟩ := i0
  walk_at "stp"
  refine isX_i (C := t.k_NoRule) x1 x2 T.x_NoRule T.at_NoRule T.is_NoRule T.iz_NoRule_NoText ?_
  walk_at "stp"
  refine isX_i (C := t.k_NoRule) x1 x2 T.x_NoRule T.at_NoRule T.is_NoRule T.iz_NoRule_NoSign ?_
  walk_at "stp"
  refine isX_i (C := t.k_NoRule) x1 x2 T.x_NoRule T.at_NoRule T.is_NoRule T.iz_NoRule_Big ?_
  walk_at "stp"
  refine isX_i (C := t.k_NoRule) x1 x2 T.x_NoRule T.at_NoRule T.is_NoRule T.iz_NoRule_HasKeep ?_
  walk_at "stp"
  refine ⟨ln (by show 4 ≤ 100000; decide), fun p1 hp1 => ?_⟩
  have sp1 : Same H (upd H p1 (.lst [.bl false, .bl false, .bl false, .bl false])) := same_new hp1 _
  have kp1 : (upd H p1 (.lst [.bl false, .bl false, .bl false, .bl false])) p1 = some (.lst [.bl false, .bl false, .bl false, .bl false]) := upd_same
  generalize upd H p1 (.lst [.bl false, .bl false, .bl false, .bl false]) = H1 at sp1 kp1 ⊢
  walk_at "stp"
  refine isX_i (C := t.k_NoRule) (sp1 _ _ x1) (sp1 _ _ x2) T.x_NoRule T.at_NoRule T.is_NoRule T.iz_NoRule_NotLayered ?_
  walk_at "stp"
  refine isX_i (C := t.k_NoRule) (sp1 _ _ x1) (sp1 _ _ x2) T.x_NoRule T.at_NoRule T.is_NoRule T.iz_NoRule_Fault ?_
  walk_at "stp"
  refine ⟨ln (by show 2 ≤ 100000; decide), fun p2 hp2 => ?_⟩
  have sp2 : Same H1 (upd H1 p2 (.lst [.bl false, .bl false])) := same_new hp2 _
  have kp2 : (upd H1 p2 (.lst [.bl false, .bl false])) p2 = some (.lst [.bl false, .bl false]) := upd_same
  generalize upd H1 p2 (.lst [.bl false, .bl false]) = H2 at sp2 kp2 ⊢
  walk_at "stp"
  refine mAdd_l (sp2 _ _ kp1) kp2 (ln (by show 6 ≤ 100000; decide)) (fun p3 hp3 => ?_)
  have s3 : Same H2 (upd H2 p3 (.lst ([.bl false, .bl false, .bl false, .bl false] ++ [.bl false, .bl false]))) := same_new hp3 _
  have k3 : SqL K (upd H2 p3 (.lst ([.bl false, .bl false, .bl false, .bl false] ++ [.bl false, .bl false]))) p3 ([false, false, false, false, false, false].map V.bl) := SqL.of upd_same
  generalize upd H2 p3 (.lst ([.bl false, .bl false, .bl false, .bl false] ++ [.bl false, .bl false])) = H3 at s3 k3 ⊢
  have s03 := sp1.trans (sp2.trans s3)
  walk_at "stp"
  refine isX_i (C := t.k_NoRule) (s03 _ _ x1) (s03 _ _ x2) T.x_NoRule T.at_NoRule T.is_NoRule T.iz_NoRule_NoRule ?_
  walk_at "stp"
  refine iteT ?_
  walk_at "stp"
  refine isX_i (C := t.k_NoRule) (s03 _ _ x1) (s03 _ _ x2) T.x_NoRule T.at_NoRule T.is_NoRule T.iz_NoRule_ValueError ?_
  walk_at "stp"
  refine iteT ?_
  walk_at "stp"
  refine nin_bl _ k3 ?_
  walk_at "stp"
  refine iteT ?_
  walk_at "stp"
  refine ⟨ea, t.k_NoRule, _, dx, _, false, .int 0, rfl, s03 _ _ x1, T.x_NoRule, T.at_NoRule, T.no_NoRule_row, s03 _ _ x2, look_row1 _, ?_⟩
  walk_at "stp"
  exact q _ s03
end
end My
set_option Elab.async false
set_option linter.all false
set_option maxRecDepth 100000
set_option maxHeartbeats 4000000
namespace My
open PySem PySem.Spec PyProof.Rows L2
local macro_rules | `(tactic| walk_at "stp") => `(tactic| repeat (with_reducible first | refine tSeq_i ?_ | refine tAsg_i ?_ | refine gName_i ?_ | refine tRet_i ?_ | refine tIfS_i ?_ | refine tNext_i ?_ | refine tDrop_i ?_ | refine mTest_i ?_ | refine mTrue_i ?_ | refine mTru_b ?_ | refine mB_i ?_ | refine tOp_i ?_ | refine tUn_i ?_ | refine mUn_i ?_ | refine m20_i ?_ | refine mAdd_i ?_ | refine mEq_i ?_ | refine mEq_s ?_ | refine mEq_b ?_ | refine mInS_i ?_ | (refine' mVar_i ?hv ?_; (case hv => with_unfolding_all rfl)) | refine tC_i ?_ | refine mChain_i ?_ | refine mAndV_i ?_ | refine mOrV_i ?_ | refine mNotV_i ?_ | refine tIf_i ?_ | refine tAnd_i ?_ | refine tOr_i ?_ | refine tNot_i ?_ | refine tCB_i ?_ | refine tCall0_i ?_ | refine tCons_i ?_ | refine tNil_i ?_ | refine tBM_i ?_ | refine tBM0_i ?_ | refine tTup_i ?_ | refine tLst_i ?_ | refine tSl_i ?_ | refine tNoPart_i ?_ | refine mPart_i ?_ | refine mI_i ?_ | refine is_str ?_ | refine is_bool ?_ | refine is_int ?_ | refine is_int_bool ?_ | refine mMin_i ?_ | refine isN_non ?_ | refine isN_ref ?_ | refine mInt_b ?_ | refine mMax_i ?_ | refine tDGet_i ?_ | refine tDGet2_i ?_ | refine sDPut_i ?_ | refine tDisp_i ?_ | refine tPairs_c ?_ | refine tPairs_n ?_ | refine iRng2_i ?_ | refine iRev_i ?_ | refine iEnum_i ?_ | refine iSeq_i ?_ | refine mAbs_i ?_ | refine gCons_i ?_ | refine gNil_i ?_ | refine tWhile_i ?_ | (refine' mAug_i ?hw ?_; (case hw => with_unfolding_all rfl)) | refine mIAdd_i ?_ | refine tFor_i ?_ | refine tRaise_i ?_ | refine tXMake_i ?_ | refine tTry_i ?_ | refine tXGet_i ?_ | refine tBInit_i ?_ | refine tXSet_i ?_ | refine tPar_i ?_ | refine tF3i_i ?_ | refine iZip_i ?_ | refine iSeq_i ?_ | refine iStr_i ?_ | refine iList_i ?_ | refine iTup_i ?_ | refine iRng1_i ?_ | refine tComp_i ?_ | (refine m2_i ?hc ?_; (case hc => first | (show (0 : Int) < _; decide) | exact cdiv_i (by decide) (by decide)))))
local macro_rules | `(tactic| walk_at "stm") => `(tactic| repeat (with_reducible first | refine tAsg_i ?_ | refine gName_i ?_ | refine tRet_i ?_ | refine tIfS_i ?_ | refine tNext_i ?_ | refine tDrop_i ?_ | refine mTest_i ?_ | refine mTrue_i ?_ | refine mTru_b ?_ | refine mB_i ?_ | refine tOp_i ?_ | refine tUn_i ?_ | refine mUn_i ?_ | refine m20_i ?_ | refine mAdd_i ?_ | refine mEq_i ?_ | refine mEq_s ?_ | refine mEq_b ?_ | refine mInS_i ?_ | (refine' mVar_i ?hv ?_; (case hv => with_unfolding_all rfl)) | refine tC_i ?_ | refine mChain_i ?_ | refine mAndV_i ?_ | refine mOrV_i ?_ | refine mNotV_i ?_ | refine tIf_i ?_ | refine tAnd_i ?_ | refine tOr_i ?_ | refine tNot_i ?_ | refine tCB_i ?_ | refine tCall0_i ?_ | refine tCons_i ?_ | refine tNil_i ?_ | refine tBM_i ?_ | refine tBM0_i ?_ | refine tTup_i ?_ | refine tLst_i ?_ | refine tSl_i ?_ | refine tNoPart_i ?_ | refine mPart_i ?_ | refine mI_i ?_ | refine is_str ?_ | refine is_bool ?_ | refine is_int ?_ | refine is_int_bool ?_ | refine mMin_i ?_ | refine isN_non ?_ | refine isN_ref ?_ | refine mInt_b ?_ | refine mMax_i ?_ | refine tDGet_i ?_ | refine tDGet2_i ?_ | refine sDPut_i ?_ | refine tDisp_i ?_ | refine tPairs_c ?_ | refine tPairs_n ?_ | refine iRng2_i ?_ | refine iRev_i ?_ | refine iEnum_i ?_ | refine iSeq_i ?_ | refine mAbs_i ?_ | refine gCons_i ?_ | refine gNil_i ?_ | refine tWhile_i ?_ | (refine' mAug_i ?hw ?_; (case hw => with_unfolding_all rfl)) | refine mIAdd_i ?_ | refine tFor_i ?_ | refine tRaise_i ?_ | refine tXMake_i ?_ | refine tTry_i ?_ | refine tXGet_i ?_ | refine tBInit_i ?_ | refine tXSet_i ?_ | refine tPar_i ?_ | refine tF3i_i ?_ | refine iZip_i ?_ | refine iSeq_i ?_ | refine iStr_i ?_ | refine iList_i ?_ | refine iTup_i ?_ | refine iRng1_i ?_ | refine tComp_i ?_ | (refine m2_i ?hc ?_; (case hc => first | (show (0 : Int) < _; decide) | exact cdiv_i (by decide) (by decide)))))
section
variable {P : Program} {w : World} {K : PySem.W.Frag} {mg : Str → Option Value} {base : Heap} {t : Ad}
theorem eq_rule {K : PySem.W.Frag} {H : Hp} {Q : VK} {p p' b b' : Addr} {v : V} {t : Trm} {us : List V} {ts : List Trm} (hp : SqT K H p [v, .ref b]) (hp' : SqT K H p' [v, .ref b']) (hb : SqT K H b us) (hb' : SqT K H b' us) (hd : Den K H v t.data) (hz : t.size ≤ 60) (g : Gs K H us ts) (k : Q (.bl true) H) : dEq K false (.ref p) (.ref p') H Q := by
  have h1 := Trm.depth_le t
  have h2 := g.depth
  refine ⟨p, p', _, _, [t.data, .tuple (Trm.dataL ts)], rfl, rfl, .inl ⟨hp, hp'⟩, .cons hd (.cons (.tup hb g.den) .nil), .cons hd (.cons (.tup hb' g.den) .nil), ?_, k⟩
  simp only [PyData.depthAll, PyData.depth]
  omega
theorem ok_l_rule_is (T : Txt K mg t) (G_rule : FnOk P w K mg base (CXo P w) 7 t.a_rule t.d_rule ["head", "goals"] (sp_rule K t.k_NoRule)) (G_l_refusal : FnOkN P w K mg base 1 t.a_l_refusal t.d_l_refusal ["_law_e"] (sp_l_refusal K t.k_NoRule)) : FnOk P w K mg base CX0 8 t.a_l_rule_is t.d_l_rule_is ["_law_head", "_law_goals", "_law_good"] (sp_l_rule_is K) := by
  refine T.F_l_rule_is.ok sc_l_rule_is (fun vs H Q E h => ?_) (fun cdv A outer s H vs Q E hr h => ?_)
  · unfold sp_l_rule_is at h
    split at h
    · rfl
    · exact h.elim
  unfold sp_l_rule_is at h
  split at h
  rotate_left
  · exact h.elim
  refine ⟨_, (pss_cons (ps_set (i := 3) sc_l_rule_is.nd rfl (by first | exact Or.inl rfl | exact Or.inr rfl) pe_non) (pss_cons (ps_set (i := 4) sc_l_rule_is.nd rfl (by first | exact Or.inl rfl | exact Or.inr rfl) pe_bl) (pss_cons (ps_tryset_as (n := 5) (i := 3) rfl rfl G_rule (hr.mono (by first | decide | omega)) rfl T.m_rule T.F_rule.kp T.b_rule .nil (pa_con (mv 0) (pa_con (mv 1) pa_nil)) sc_l_rule_is.nd rfl (by first | exact Or.inl rfl | exact Or.inr rfl) rfl T.m_TrailError T.x_TrailError rfl rfl (by first | exact Or.inl rfl | exact Or.inr rfl) (fun ea => (pss_one (ps_set (i := 4) (hs := sw_call) sc_l_rule_is.nd rfl (by first | exact Or.inl rfl | exact Or.inr rfl) (pe_callN G_l_refusal ((hr.mono (by first | decide | omega)).marked _) rfl T.m_l_refusal T.F_l_refusal.kp T.b_l_refusal .nil (pa_con (mv 5) pa_nil)))))) (pss_cons (ps_if (PW.pt (pw_or (kt_tru K rfl (mv 4)) (pw_or1 (pt_not (kt_tru K rfl (mv 2)))))) (pss_one (ps_ret (me_and (mv 4) (pe_one (ke_not K rfl (mv 2)))))) pss_nil) (pss_cons (ps_if (PW.pt (pw_or (pt_not (kt_tru K rfl (pe_callB (kc_is K rfl) rfl T.n_isinstance boot_isinstance (pa_con (mv 3) (pa_con (pe_bty rfl T.n_tuple boot_tuple) pa_nil))))) (pw_or1 (mt_cmp mo_ne (pe_callB (kc_len K rfl) rfl T.n_len PySem.boot_len (pa_con (mv 3) pa_nil)) pe_int (nomark _))))) (pss_one (ps_ret pe_bl)) pss_nil) (pss_one (ps_ret (me_and (pe_callB (kc_is K rfl) rfl T.n_isinstance boot_isinstance (pa_con (pe_ix (ki_seq K rfl) (mv 3) pe_int (fun _ _ => rfl)) (pa_con (pe_bty rfl T.n_tuple boot_tuple) pa_nil))) (pe_one (pe_cmpR (ko_eqD K rfl (room150 hr)) (mv 3) (pe_tup (pa_con (mv 0) (pa_con (pe_callTy (kc_tuple K rfl) rfl T.n_tuple boot_tuple (pa_con (mv 1) pa_nil)) pa_nil))) (nomark _))))))))))), ?_⟩
  rename_i v g0 good
  obtain ⟨t0, us, ts, hd, hsh, hsz, hg, hgs, hgd, q⟩ := h
  walk_at "stp"
  refine ⟨t0, us, ts, hd, hsh, hsz, hg, hgs, ?_⟩
  rw [← hgd]
  cases good with
  | true =>
    refine fun H1 s1 p b H2 s2 kp kb => ?_
    have s02 := s1.trans s2
    walk_at "stp"
    refine iteF ?_
    walk_at "stp"
    refine iteF ?_
    walk_at "stp"
    refine is_tup kp ?_
    walk_at "stp"
    refine iteF ?_
    walk_at "stp"
    refine mLen_t kp ?_
    walk_at "stp"
    refine iteB (fun e => absurd e (by simp)) (fun e => ?_)
    walk_at "stp"
    refine mIx_t kp (v := .ref b) rfl ?_
    walk_at "stp"
    refine is_tup kb ?_
    walk_at "stp"
    refine iteT ?_
    walk_at "stp"
    rcases hg with hg | hg
    · refine mTup_l (s02.seq hg) (fun p3 hp3 => ?_)
      have s3 := same_new hp3 (.tup us)
      have k3 : SqT K (upd H2 p3 (.tup us)) p3 us := SqT.of upd_same
      generalize upd H2 p3 (.tup us) = H3 at s3 k3 ⊢
      walk_at "stp"
      refine ⟨ln (by show 2 ≤ 100000; decide), fun p4 hp4 => ?_⟩
      have s4 := same_new hp4 (.tup [v, .ref p3])
      have s34 := s3.trans s4
      have s04 := s02.trans s34
      exact eq_rule (s34.tup kp) (SqT.of upd_same) (s34.tup kb) (s4.tup k3) (hd.mono s04) hsz (hgs.mono s04) (q _ s04)
    · refine mTup_t (s02.tup hg) ?_
      walk_at "stp"
      refine ⟨ln (by show 2 ≤ 100000; decide), fun p4 hp4 => ?_⟩
      have s4 := same_new hp4 (.tup [v, .ref g0])
      have s04 := s02.trans s4
      exact eq_rule (s4.tup kp) (SqT.of upd_same) (s4.tup kb) (s04.tup hg) (hd.mono s04) hsz (hgs.mono s04) (q _ s04)
  | false =>
    refine fun ea H1 s1 i1 ea' e' => ?_
    cases e'
    have i1' := i1
    obtain ⟨dx, x1, x2⟩ := i1
    refine ⟨t.k_NoRule, some dx, _, rfl, x1, T.x_NoRule, by simp, ?_⟩
    walk_at "stp"
    refine ⟨i1', fun H2 s2 => ?_⟩
    walk_at "stp"
    refine iteT ?_
    walk_at "stp"
    refine iteT ?_
    walk_at "stp"
    exact q _ (s1.trans s2)
theorem eq_goals {K : PySem.W.Frag} {H : Hp} {Q : VK} {p p' : Addr} {us : List V} {ts : List Trm} {n : Bool} (hp : SqL K H p us) (hp' : SqL K H p' us) (g : Gs K H us ts) (k : Q (.bl (!n)) H) : dEq K n (.ref p) (.ref p') H Q :=
  ⟨p, p', us, us, _, rfl, rfl, .inr ⟨hp, hp'⟩, g.den, g.den, by have := g.depth; omega, k⟩
theorem ok_l_question_is (T : Txt K mg t) (G_question : FnOk P w K mg base (CXo P w) 7 t.a_question t.d_question ["goals"] (sp_question K t.k_NoRule)) (G_l_refusal : FnOkN P w K mg base 1 t.a_l_refusal t.d_l_refusal ["_law_e"] (sp_l_refusal K t.k_NoRule)) : FnOk P w K mg base CX0 8 t.a_l_question_is t.d_l_question_is ["_law_goals", "_law_good"] (sp_l_question_is K) := by
  refine T.F_l_question_is.ok sc_l_question_is (fun vs H Q E h => ?_) (fun cdv A outer s H vs Q E hr h => ?_)
  · unfold sp_l_question_is at h
    split at h
    · rfl
    · exact h.elim
  unfold sp_l_question_is at h
  split at h
  rotate_left
  · exact h.elim
  refine ⟨_, (pss_cons (ps_set (i := 2) (hs := sw_call) sc_l_question_is.nd rfl (by first | exact Or.inl rfl | exact Or.inr rfl) (pe_callTy (kc_list K rfl) rfl T.n_list boot_list (pa_con (mv 0) pa_nil))) (pss_cons (ps_set (i := 3) sc_l_question_is.nd rfl (by first | exact Or.inl rfl | exact Or.inr rfl) pe_non) (pss_cons (ps_set (i := 4) sc_l_question_is.nd rfl (by first | exact Or.inl rfl | exact Or.inr rfl) pe_bl) (pss_cons (ps_tryset_as (n := 5) (i := 3) rfl rfl G_question (hr.mono (by first | decide | omega)) rfl T.m_question T.F_question.kp T.b_question .nil (pa_con (mv 2) pa_nil) sc_l_question_is.nd rfl (by first | exact Or.inl rfl | exact Or.inr rfl) rfl T.m_TrailError T.x_TrailError rfl rfl (by first | exact Or.inl rfl | exact Or.inr rfl) (fun ea => (pss_one (ps_set (i := 4) (hs := sw_call) sc_l_question_is.nd rfl (by first | exact Or.inl rfl | exact Or.inr rfl) (pe_callN G_l_refusal ((hr.mono (by first | decide | omega)).marked _) rfl T.m_l_refusal T.F_l_refusal.kp T.b_l_refusal .nil (pa_con (mv 5) pa_nil)))))) (pss_cons (ps_if (PW.pt (pw_or (kt_tru K rfl (mv 4)) (pw_or1 (pt_not (kt_tru K rfl (mv 1)))))) (pss_one (ps_ret (me_and (mv 4) (me_and (ke_not K rfl (mv 1)) (pe_one (pe_cmpR (ko_eqD K rfl (room150 hr)) (mv 2) (mv 0) (nomark _))))))) pss_nil) (pss_cons (ps_if (PW.pt (pw_or (pt_not (kt_tru K rfl (pe_callB (kc_is K rfl) rfl T.n_isinstance boot_isinstance (pa_con (mv 3) (pa_con (pe_bty rfl T.n_list boot_list) pa_nil))))) (pw_or1 (mt_cmp (ko_neD K rfl (room150 hr)) (mv 3) (mv 0) (nomark _))))) (pss_one (ps_ret pe_bl)) pss_nil) (pss_cons (ps_expr (ke_bm K rfl PySem.F.plainAttrs_list PySem.F.slot_list_append PySem.F.type_list_append mm_append (mv 3) (pa_con pe_int pa_nil))) (pss_one (ps_ret (pe_cmpR (ko_eqD K rfl (room150 hr)) (mv 2) (mv 0) (nomark _))))))))))), ?_⟩
  rename_i g0 good
  obtain ⟨us, ts, hg, hgs, hgd, q⟩ := h
  walk_at "stp"
  refine mLst_l hg (fun ph hph => ?_)
  have s1 := same_new hph (.lst us)
  have k1 : (upd H ph (.lst us)) ph = some (.lst us) := upd_same
  generalize upd H ph (.lst us) = H0 at s1 k1 ⊢
  walk_at "stp"
  refine ⟨us, ts, .inl (SqL.of k1), hgs.mono s1, ?_⟩
  rw [← hgd]
  cases good with
  | true =>
    refine fun H1 s2 p H2 s3 hn kp => ?_
    have s13 := s2.trans s3
    have s03 := s1.trans s13
    walk_at "stp"
    refine iteF ?_
    walk_at "stp"
    refine iteF ?_
    walk_at "stp"
    refine is_lst (SqL.of kp) ?_
    walk_at "stp"
    refine iteF ?_
    walk_at "stp"
    refine eq_goals (SqL.of kp) (s03.seq hg) (hgs.mono s03) ?_
    walk_at "stp"
    refine iteF ?_
    walk_at "stp"
    refine ⟨.inl ⟨rfl, _, SqL.of kp⟩, ?_⟩
    walk_at "stp"
    have hl := hgs.ulen
    have hl2 := hgs.len
    refine mAppend_i kp (ln1 (by omega)) ?_
    have s4 : Same H0 (upd H2 p (.lst (us ++ [.int 1]))) := same_upd s13 hn
    generalize upd H2 p (.lst (us ++ [.int 1])) = H3 at s4 ⊢
    walk_at "stp"
    exact eq_goals (SqL.of (s4 _ _ k1)) ((s1.trans s4).seq hg) (hgs.mono (s1.trans s4)) (q _ (s1.trans s4))
  | false =>
    refine fun ea H1 s2 i1 ea' e' => ?_
    cases e'
    have i1' := i1
    obtain ⟨dx, x1, x2⟩ := i1
    refine ⟨t.k_NoRule, some dx, _, rfl, x1, T.x_NoRule, by simp, ?_⟩
    walk_at "stp"
    refine ⟨i1', fun H2 s3 => ?_⟩
    walk_at "stp"
    refine iteT ?_
    walk_at "stp"
    refine iteT ?_
    walk_at "stp"
    refine iteT ?_
    walk_at "stp"
    have s02 := s1.trans (s2.trans s3)
    exact eq_goals (SqL.of ((s2.trans s3) _ _ k1)) (s02.seq hg) (hgs.mono s02) (q _ s02)
end
end My
set_option Elab.async false
set_option linter.all false
set_option maxRecDepth 100000
set_option maxHeartbeats 4000000
namespace My
open PySem PySem.Spec PyProof.Rows L2
local macro_rules | `(tactic| walk_at "stp") => `(tactic| repeat (with_reducible first | refine tSeq_i ?_ | refine tAsg_i ?_ | refine gName_i ?_ | refine tRet_i ?_ | refine tIfS_i ?_ | refine tNext_i ?_ | refine tDrop_i ?_ | refine mTest_i ?_ | refine mTrue_i ?_ | refine mTru_b ?_ | refine mB_i ?_ | refine tOp_i ?_ | refine tUn_i ?_ | refine mUn_i ?_ | refine m20_i ?_ | refine mAdd_i ?_ | refine mEq_i ?_ | refine mEq_s ?_ | refine mEq_b ?_ | refine mInS_i ?_ | (refine' mVar_i ?hv ?_; (case hv => with_unfolding_all rfl)) | refine tC_i ?_ | refine mChain_i ?_ | refine mAndV_i ?_ | refine mOrV_i ?_ | refine mNotV_i ?_ | refine tIf_i ?_ | refine tAnd_i ?_ | refine tOr_i ?_ | refine tNot_i ?_ | refine tCB_i ?_ | refine tCall0_i ?_ | refine tCons_i ?_ | refine tNil_i ?_ | refine tBM_i ?_ | refine tBM0_i ?_ | refine tTup_i ?_ | refine tLst_i ?_ | refine tSl_i ?_ | refine tNoPart_i ?_ | refine mPart_i ?_ | refine mI_i ?_ | refine is_str ?_ | refine is_bool ?_ | refine is_int ?_ | refine is_int_bool ?_ | refine mMin_i ?_ | refine isN_non ?_ | refine isN_ref ?_ | refine mInt_b ?_ | refine mMax_i ?_ | refine tDGet_i ?_ | refine tDGet2_i ?_ | refine sDPut_i ?_ | refine tDisp_i ?_ | refine tPairs_c ?_ | refine tPairs_n ?_ | refine iRng2_i ?_ | refine iRev_i ?_ | refine iEnum_i ?_ | refine iSeq_i ?_ | refine mAbs_i ?_ | refine gCons_i ?_ | refine gNil_i ?_ | refine tWhile_i ?_ | (refine' mAug_i ?hw ?_; (case hw => with_unfolding_all rfl)) | refine mIAdd_i ?_ | refine tFor_i ?_ | refine tRaise_i ?_ | refine tXMake_i ?_ | refine tTry_i ?_ | refine tXGet_i ?_ | refine tBInit_i ?_ | refine tXSet_i ?_ | refine tPar_i ?_ | refine tF3i_i ?_ | refine iZip_i ?_ | refine iSeq_i ?_ | refine iStr_i ?_ | refine iList_i ?_ | refine iTup_i ?_ | refine iRng1_i ?_ | refine tComp_i ?_ | (refine m2_i ?hc ?_; (case hc => first | (show (0 : Int) < _; decide) | exact cdiv_i (by decide) (by decide)))))
local macro_rules | `(tactic| walk_at "stm") => `(tactic| repeat (with_reducible first | refine tAsg_i ?_ | refine gName_i ?_ | refine tRet_i ?_ | refine tIfS_i ?_ | refine tNext_i ?_ | refine tDrop_i ?_ | refine mTest_i ?_ | refine mTrue_i ?_ | refine mTru_b ?_ | refine mB_i ?_ | refine tOp_i ?_ | refine tUn_i ?_ | refine mUn_i ?_ | refine m20_i ?_ | refine mAdd_i ?_ | refine mEq_i ?_ | refine mEq_s ?_ | refine mEq_b ?_ | refine mInS_i ?_ | (refine' mVar_i ?hv ?_; (case hv => with_unfolding_all rfl)) | refine tC_i ?_ | refine mChain_i ?_ | refine mAndV_i ?_ | refine mOrV_i ?_ | refine mNotV_i ?_ | refine tIf_i ?_ | refine tAnd_i ?_ | refine tOr_i ?_ | refine tNot_i ?_ | refine tCB_i ?_ | refine tCall0_i ?_ | refine tCons_i ?_ | refine tNil_i ?_ | refine tBM_i ?_ | refine tBM0_i ?_ | refine tTup_i ?_ | refine tLst_i ?_ | refine tSl_i ?_ | refine tNoPart_i ?_ | refine mPart_i ?_ | refine mI_i ?_ | refine is_str ?_ | refine is_bool ?_ | refine is_int ?_ | refine is_int_bool ?_ | refine mMin_i ?_ | refine isN_non ?_ | refine isN_ref ?_ | refine mInt_b ?_ | refine mMax_i ?_ | refine tDGet_i ?_ | refine tDGet2_i ?_ | refine sDPut_i ?_ | refine tDisp_i ?_ | refine tPairs_c ?_ | refine tPairs_n ?_ | refine iRng2_i ?_ | refine iRev_i ?_ | refine iEnum_i ?_ | refine iSeq_i ?_ | refine mAbs_i ?_ | refine gCons_i ?_ | refine gNil_i ?_ | refine tWhile_i ?_ | (refine' mAug_i ?hw ?_; (case hw => with_unfolding_all rfl)) | refine mIAdd_i ?_ | refine tFor_i ?_ | refine tRaise_i ?_ | refine tXMake_i ?_ | refine tTry_i ?_ | refine tXGet_i ?_ | refine tBInit_i ?_ | refine tXSet_i ?_ | refine tPar_i ?_ | refine tF3i_i ?_ | refine iZip_i ?_ | refine iSeq_i ?_ | refine iStr_i ?_ | refine iList_i ?_ | refine iTup_i ?_ | refine iRng1_i ?_ | refine tComp_i ?_ | (refine m2_i ?hc ?_; (case hc => first | (show (0 : Int) < _; decide) | exact cdiv_i (by decide) (by decide)))))
section
variable {P : Program} {w : World} {K : PySem.W.Frag} {mg : Str → Option Value} {base : Heap} {t : Ad}
structure Fits (k : Int) (t : Trm) : Prop where
  nm : named t = decide (k = 4)
  gl : goalB t = decide (k < 7)
  sh : short t
  sz : t.size ≤ 60
structure Rows (K : PySem.W.Frag) (H : Hp) (us : List V) (r : List (Int × Trm)) : Prop where
  den : DenL K H us (Trm.dataL (r.map (·.2)))
  fit : ∀ x ∈ r, Fits x.1 x.2
theorem Rows.mono {K : PySem.W.Frag} {H H' : Hp} {us : List V} {r : List (Int × Trm)} (g : Rows K H us r) (s : Same H H') : Rows K H' us r := ⟨g.den.mono s, g.fit⟩
theorem Rows.snoc {K : PySem.W.Frag} {H : Hp} {us : List V} {r : List (Int × Trm)} {u : V} {k : Int} {t : Trm} (g : Rows K H us r) (d : Den K H u t.data) (f : Fits k t) : Rows K H (us ++ [u]) (r ++ [(k, t)]) := by
  refine ⟨?_, fun x hx => ?_⟩
  · have h := g.den.append (DenL.cons d .nil)
    rw [Trm.dataL_map] at h ⊢
    simpa using h
  · rcases List.mem_append.mp hx with h | h
    · exact g.fit x h
    · rw [List.mem_singleton.mp h]; exact f
theorem Rows.ulen {K : PySem.W.Frag} {H : Hp} {us : List V} {r : List (Int × Trm)} (g : Rows K H us r) : us.length = r.length := by
  have := g.den.length
  rw [Trm.dataL_map, List.length_map, List.length_map] at this
  exact this
def kV1 (x : Int × Trm) : V := .int x.1
theorem Rows.get {K : PySem.W.Frag} {H : Hp} {us : List V} {r : List (Int × Trm)} (g : Rows K H us r) {i : Nat} (hi : i < (r.map kV1).length) : ∃ k t, r[i]? = some (k, t) ∧ (r.map kV1).getD i .non = .int k ∧ Den K H (us.getD i .non) t.data ∧ Fits k t := by
  have hi' : i < r.length := by simpa using hi
  have hu : i < us.length := by rw [g.ulen]; exact hi'
  have hx : us[i]? = some us[i] := List.getElem?_eq_getElem hu
  obtain ⟨d, e1, e2⟩ := g.den.get hx
  rw [Trm.dataL_map, List.map_map, List.getElem?_map, List.getElem?_eq_getElem hi'] at e1
  have e1 : r[i].2.data = d := Option.some.inj e1
  subst e1
  refine ⟨r[i].1, r[i].2, List.getElem?_eq_getElem hi', ?_, ?_, g.fit _ (List.getElem_mem hi')⟩
  · rw [List.getD_eq_getElem?_getD, List.getElem?_map, List.getElem?_eq_getElem hi']; rfl
  · rw [List.getD_eq_getElem?_getD, hx]; exact e2
theorem none_back {H H' : Hp} {p : Addr} (s : Same H H') (h : H' p = none) : H p = none := by
  cases e : H p with
  | none => rfl
  | some o => rw [s _ _ e] at h; cases h
theorem at_last {xs : List V} {v : V} : atI (xs ++ [v]) (-1) = some v := by
  unfold atI ixN
  rw [if_neg (by decide), if_pos (by simp; omega)]
  simp only [Option.bind_some, List.length_append, List.length_cons, List.length_nil]
  rw [show ((-1 : Int) + ((xs.length + (0 + 1) : Nat) : Int)).toNat = xs.length by omega]
  simp
theorem at_zero {x : V} {us : List V} : atI (x :: us) 0 = some x := by
  unfold atI ixN
  rw [if_pos (by decide), if_pos (by simp only [List.length_cons]; omega)]
  simp
theorem cut_one (x : V) (us : List V) : cutV (x :: us) (some 1) none = us := by
  unfold cutV
  rw [sIx_none]
  have e : HT.sIx (x :: us).length 0 (some 1) = 1 := by
    unfold HT.sIx
    simp [HT.sIx]
  rw [e]
  simp
def gOk (x : Int × Trm) : Bool := goalB x.2 && fitB x.2
theorem all_next {r : List (Int × Trm)} {i : Nat} {k : Int} {t : Trm} (h : r[i]? = some (k, t)) : (r.take (i + 1)).all gOk = ((r.take i).all gOk && (goalB t && fitB t)) := by
  rw [List.take_add_one, h, List.all_append]
  simp [gOk]
theorem good_all (r : List (Int × Trm)) : (decide ((r.length : Int) ≤ 6) && (r.take r.length).all gOk) = goodGs (r.map (·.2)) := by
  unfold goodGs
  rw [List.take_length, List.length_map, List.all_map]
  congr 1
  exact decide_eq_decide.mpr (by omega)
theorem ok_law (T : Txt K mg t) (G_l_words : FnOk P w K mg base CX0 1 t.a_l_words t.d_l_words ["_law_cell"] (sp_l_words)) (G_l_cell_at : FnOk P w K mg base CX0 1 t.a_l_cell_at t.d_l_cell_at ["_law_script", "_law_k"] (sp_l_cell_at K)) (G_l_term : FnOk P w K mg base CX0 2 t.a_l_term t.d_l_term ["_law_kind", "_law_words_here", "_law_size_here"] (sp_l_term K)) (G_l_question_is : FnOk P w K mg base CX0 8 t.a_l_question_is t.d_l_question_is ["_law_goals", "_law_good"] (sp_l_question_is K)) (G_l_rule_is : FnOk P w K mg base CX0 8 t.a_l_rule_is t.d_l_rule_is ["_law_head", "_law_goals", "_law_good"] (sp_l_rule_is K)) (G_l_size : FnOk P w K mg base CX0 61 t.a_l_size t.d_l_size ["_law_term_here"] (sp_l_size K 60)) (G_l_truth : FnOk P w K mg base CX0 1 t.a_l_truth t.d_l_truth ["_law_found", "_law_due"] (sp_l_truth)) (G_is_named : FnOk P w K mg base CX0 4 t.a_is_named t.d_is_named ["term"] (sp_is_named K)) (G_is_goal : FnOk P w K mg base CX0 5 t.a_is_goal t.d_is_goal ["term"] (sp_is_goal K)) : FnOk P w K mg base CX0 62 t.a_law t.d_law ["_law_script"] (sp_law K) := by
  refine T.F_law.ok sc_law (fun vs H Q E h => ?_) (fun cdv A outer s H vs Q E hr h => ?_)
  · unfold sp_law at h
    split at h
    · rfl
    · exact h.elim
  unfold sp_law at h
  split at h
  rotate_left
  · exact h.elim
  refine ⟨_, (pss_cons (ps_set (i := 1) (hs := sw_call) sc_law.nd rfl (by first | exact Or.inl rfl | exact Or.inr rfl) (pe_call G_l_words (hr.mono (by first | decide | omega)) rfl T.m_l_words T.F_l_words.kp T.b_l_words .nil pass0 (pa_con (pe_op mo_mod (pe_call G_l_cell_at (hr.mono (by first | decide | omega)) rfl T.m_l_cell_at T.F_l_cell_at.kp T.b_l_cell_at .nil pass0 (pa_con (mv 0) (pa_con pe_int pa_nil))) (pe_op mo_pow pe_int pe_int)) pa_nil))) (pss_cons (ps_set (i := 2) (hs := sw_call) sc_law.nd rfl (by first | exact Or.inl rfl | exact Or.inr rfl) (pe_call G_l_cell_at (hr.mono (by first | decide | omega)) rfl T.m_l_cell_at T.F_l_cell_at.kp T.b_l_cell_at .nil pass0 (pa_con (mv 0) (pa_con pe_int pa_nil)))) (pss_cons (ps_set (i := 3) (hs := sw_lst) sc_law.nd rfl (by first | exact Or.inl rfl | exact Or.inr rfl) (pe_lst (pa_con (pe_ix (ki_seq K rfl) (pe_lst (pa_con pe_int (pa_con pe_int (pa_con pe_int (pa_con (pe_op mo_mod (pe_op mo_fdiv (mv 2) pe_int) pe_int) pa_nil))))) (pe_op mo_mod (mv 2) pe_int) (fun _ _ => rfl)) pa_nil))) (pss_cons (ps_set (i := 4) (hs := sw_lst) sc_law.nd rfl (by first | exact Or.inl rfl | exact Or.inr rfl) (pe_lst (pa_con (pe_call G_l_term (hr.mono (by first | decide | omega)) rfl T.m_l_term T.F_l_term.kp T.b_l_term .nil pass0 (pa_con (pe_ix (ki_seq K rfl) (mv 3) pe_int (fun _ _ => rfl)) (pa_con (mv 1) (pa_con (pe_op (ko_add K rfl) pe_int (pe_op mo_mod (pe_call G_l_cell_at (hr.mono (by first | decide | omega)) rfl T.m_l_cell_at T.F_l_cell_at.kp T.b_l_cell_at .nil pass0 (pa_con (mv 0) (pa_con pe_int pa_nil))) pe_int)) pa_nil)))) pa_nil))) (pss_cons (ps_for PassesOwn.never rfl (pi_range1 rfl T.n_range (pa_con (pe_op mo_mod (pe_op mo_fdiv (mv 2) pe_int) pe_int) pa_nil)) (pg_name (i := 5) sc_law.nd rfl (by first | exact Or.inl rfl | exact Or.inr rfl)) (pss_cons (ps_set (i := 6) (hs := sw_call) sc_law.nd rfl (by first | exact Or.inl rfl | exact Or.inr rfl) (pe_call G_l_cell_at (hr.mono (by first | decide | omega)) rfl T.m_l_cell_at T.F_l_cell_at.kp T.b_l_cell_at .nil pass0 (pa_con (mv 0) (pa_con (pe_op (ko_add K rfl) pe_int (mv 5)) pa_nil)))) (pss_cons (ps_expr (ke_bm K rfl PySem.F.plainAttrs_list PySem.F.slot_list_append PySem.F.type_list_append mm_append (mv 3) (pa_con (pe_op mo_mod (mv 6) (pe_ix (ki_seq K rfl) (pe_lst (pa_con pe_int (pa_con pe_int pa_nil))) (pe_op mo_mod (pe_op mo_fdiv (mv 2) pe_int) pe_int) (fun _ _ => rfl))) pa_nil))) (pss_one (ps_expr (ke_bm K rfl PySem.F.plainAttrs_list PySem.F.slot_list_append PySem.F.type_list_append mm_append (mv 4) (pa_con (pe_call G_l_term (hr.mono (by first | decide | omega)) rfl T.m_l_term T.F_l_term.kp T.b_l_term .nil pass0 (pa_con (pe_ix (ki_seq K rfl) (mv 3) (pe_un mu_neg pe_int) (fun _ _ => rfl)) (pa_con (mv 1) (pa_con (pe_op (ko_add K rfl) pe_int (pe_op mo_mod (pe_op mo_fdiv (mv 6) pe_int) (pe_ix (ki_seq K rfl) (pe_lst (pa_con pe_int (pa_con pe_int pa_nil))) (pe_op mo_mod (pe_op mo_fdiv (mv 2) pe_int) pe_int) (fun _ _ => rfl)))) pa_nil)))) pa_nil))))))) (pss_cons (ps_for PassesOwn.never rfl (kpi_zip K rfl rfl T.n_zip (pa_con (mv 3) (pa_con (mv 4) pa_nil))) (kpg_tup K rfl rfl (pgs_cons (pg_name (i := 7) sc_law.nd rfl (by first | exact Or.inl rfl | exact Or.inr rfl)) (pgs_cons (pg_name (i := 8) sc_law.nd rfl (by first | exact Or.inl rfl | exact Or.inr rfl)) pgs_nil))) (pss_one (ps_if (PW.pt (pw_or (pt_not (kt_tru K rfl (pe_call G_l_truth (hr.mono (by first | decide | omega)) rfl T.m_l_truth T.F_l_truth.kp T.b_l_truth .nil pass0 (pa_con (pe_call G_is_named (hr.mono (by first | decide | omega)) rfl T.m_is_named T.F_is_named.kp T.b_is_named .nil pass0 (pa_con (mv 8) pa_nil)) (pa_con (pe_cmpR mo_eq (mv 7) pe_int (nomark _)) pa_nil))))) (pw_or1 (pt_not (kt_tru K rfl (pe_call G_l_truth (hr.mono (by first | decide | omega)) rfl T.m_l_truth T.F_l_truth.kp T.b_l_truth .nil pass0 (pa_con (pe_call G_is_goal (hr.mono (by first | decide | omega)) rfl T.m_is_goal T.F_is_goal.kp T.b_is_goal .nil pass0 (pa_con (mv 8) pa_nil)) (pa_con (pe_cmpR mo_lt (mv 7) pe_int (nomark _)) pa_nil)))))))) (pss_one (ps_ret pe_bl)) pss_nil))) (pss_cons (ps_set (i := 9) (hs := sw_sub) sc_law.nd rfl (by first | exact Or.inl rfl | exact Or.inr rfl) (pe_slice (ks_list K rfl) (mv 4) (mp_some pe_int) po_none)) (pss_cons (ps_set (i := 10) sc_law.nd rfl (by first | exact Or.inl rfl | exact Or.inr rfl) (pe_cmpR mo_le (pe_callB (kc_len K rfl) rfl T.n_len PySem.boot_len (pa_con (mv 9) pa_nil)) pe_int (nomark _))) (pss_cons (ps_for PassesOwn.never rfl (kpi_zip K rfl rfl T.n_zip (pa_con (pe_slice (ks_list K rfl) (mv 3) (mp_some pe_int) po_none) (pa_con (mv 9) pa_nil))) (kpg_tup K rfl rfl (pgs_cons (pg_name (i := 7) sc_law.nd rfl (by first | exact Or.inl rfl | exact Or.inr rfl)) (pgs_cons (pg_name (i := 8) sc_law.nd rfl (by first | exact Or.inl rfl | exact Or.inr rfl)) pgs_nil))) (pss_one (ps_if (PW.pt (pw_or (mt_cmp mo_ge (mv 7) pe_int (nomark _)) (pw_or1 (mt_cmp mo_gt (pe_call G_l_size (hr.mono (by first | decide | omega)) rfl T.m_l_size T.F_l_size.kp T.b_l_size .nil pass0 (pa_con (mv 8) pa_nil)) pe_int (nomark _))))) (pss_one (ps_set (i := 10) sc_law.nd rfl (by first | exact Or.inl rfl | exact Or.inr rfl) pe_bl)) pss_nil))) (pss_cons (ps_if (pt_not (kt_tru K rfl (pe_call G_l_question_is (hr.mono (by first | decide | omega)) rfl T.m_l_question_is T.F_l_question_is.kp T.b_l_question_is .nil pass0 (pa_con (mv 9) (pa_con (mv 10) pa_nil))))) (pss_one (ps_ret pe_bl)) pss_nil) (pss_cons (ps_set (i := 10) sc_law.nd rfl (by first | exact Or.inl rfl | exact Or.inr rfl) (me_and (mv 10) (me_and (pe_cmpR mo_eq (pe_ix (ki_seq K rfl) (mv 3) pe_int (fun _ _ => rfl)) pe_int (nomark _)) (pe_one (pe_cmpR mo_le (pe_call G_l_size (hr.mono (by first | decide | omega)) rfl T.m_l_size T.F_l_size.kp T.b_l_size .nil pass0 (pa_con (pe_ix (ki_seq K rfl) (mv 4) pe_int (fun _ _ => rfl)) pa_nil)) pe_int (nomark _)))))) (pss_cons (ps_if (mt_cmp mo_eq (pe_op mo_mod (pe_op mo_fdiv (mv 2) pe_int) pe_int) pe_int (nomark _)) (pss_one (ps_ret (pe_call G_l_rule_is (hr.mono (by first | decide | omega)) rfl T.m_l_rule_is T.F_l_rule_is.kp T.b_l_rule_is .nil pass0 (pa_con (pe_ix (ki_seq K rfl) (mv 4) pe_int (fun _ _ => rfl)) (pa_con (pe_callTy (kc_tuple K rfl) rfl T.n_tuple boot_tuple (pa_con (mv 9) pa_nil)) (pa_con (mv 10) pa_nil)))))) pss_nil) (pss_cons (ps_set (i := 11) (hs := sw_call) sc_law.nd rfl (by first | exact Or.inl rfl | exact Or.inr rfl) (pe_callTy (kc_list K rfl) rfl T.n_list boot_list (pa_con (mv 9) pa_nil))) (pss_one (ps_ret (me_and (pe_call G_l_rule_is (hr.mono (by first | decide | omega)) rfl T.m_l_rule_is T.F_l_rule_is.kp T.b_l_rule_is .nil pass0 (pa_con (pe_ix (ki_seq K rfl) (mv 4) pe_int (fun _ _ => rfl)) (pa_con (mv 11) (pa_con (mv 10) pa_nil)))) (pe_one (pe_cmpR (ko_eqD K rfl (room150 hr)) (mv 11) (mv 9) (nomark _))))))))))))))))))), ?_⟩
  rename_i a
  obtain ⟨ns, hS, hn0, q⟩ := h
  walk_at "stp"
  refine ⟨ns, hS, by omega, by omega, fun c0 => ?_⟩
  walk_at "stp"
  refine m2_i (C := CPow) ⟨by decide, by decide, by decide⟩ ?_
  walk_at "stp"
  refine ⟨Int.emod_nonneg _ (by decide +kernel), fun wp w0 w1 w2 H1 s1 g0 g1 g2 kw => ?_⟩
  walk_at "stp"
  refine ⟨ns, s1.seq hS, by omega, by omega, fun way => ?_⟩
  walk_at "stp"
  refine ⟨ln (by show 4 ≤ 100000; decide), fun p2 hp2 => ?_⟩
  have sp2 : Same H1 (upd H1 p2 (.lst [.int 4, .int 4, .int 4, .int (way / 8 % 16)])) := same_new hp2 _
  have kp2 : (upd H1 p2 (.lst [.int 4, .int 4, .int 4, .int (way / 8 % 16)])) p2 = some (.lst [.int 4, .int 4, .int 4, .int (way / 8 % 16)]) := upd_same
  generalize upd H1 p2 (.lst [.int 4, .int 4, .int 4, .int (way / 8 % 16)]) = H2 at sp2 kp2 ⊢
  walk_at "stp"
  obtain ⟨k0, hk0, hk1, hk2⟩ : ∃ k0 : Int, atI [V.int 4, V.int 4, V.int 4, V.int (way / 8 % 16)] (way % 4) = some (.int k0) ∧ 0 ≤ k0 ∧ k0 < 16 := by
    have hi : way % 4 = 0 ∨ way % 4 = 1 ∨ way % 4 = 2 ∨ way % 4 = 3 := by omega
    rcases hi with z | z | z | z <;> rw [z]
    · exact ⟨4, rfl, by omega, by omega⟩
    · exact ⟨4, rfl, by omega, by omega⟩
    · exact ⟨4, rfl, by omega, by omega⟩
    · exact ⟨_, rfl, by omega, by omega⟩
  refine mIx_l (SqL.of kp2) hk0 ?_
  walk_at "stp"
  refine ⟨ln (by show 1 ≤ 100000; decide), fun p3 hp3 => ?_⟩
  have sp3 : Same H2 (upd H2 p3 (.lst [.int k0])) := same_new hp3 _
  have kp3 : (upd H2 p3 (.lst [.int k0])) p3 = some (.lst [.int k0]) := upd_same
  generalize upd H2 p3 (.lst [.int k0]) = H3 at sp3 kp3 ⊢
  walk_at "stp"
  have hn3 := hp3
  refine mIx_l (SqL.of kp3) (v := .int k0) rfl ?_
  walk_at "stp"
  refine ⟨ns, (s1.trans (sp2.trans sp3)).seq hS, by omega, by omega, fun c2 => ?_⟩
  walk_at "stp"
  refine ⟨w0, w1, w2, (sp2.trans sp3) _ _ kw, g0, g1, g2, hk1, hk2, by omega, by omega, fun x0 t0 H4 s4 d0 n0 gl0 sh0 z0 => ?_⟩
  walk_at "stp"
  refine ⟨ln (by show 1 ≤ 100000; decide), fun p5 hp5 => ?_⟩
  have sp5 : Same H4 (upd H4 p5 (.lst [x0])) := same_new hp5 _
  have kp5 : (upd H4 p5 (.lst [x0])) p5 = some (.lst [x0]) := upd_same
  generalize upd H4 p5 (.lst [x0]) = H5 at sp5 kp5 ⊢
  walk_at "stp"
  have hn5 : H2 p5 = none := none_back (sp3.trans s4) hp5
  have hne : p5 ≠ p3 := fun z => by
    have := s4 _ _ kp3
    rw [← z, hp5] at this
    cases this
  have ft0 : Fits k0 t0 := ⟨n0, gl0, sh0, z0⟩
  refine ⟨way / 128 % 9, rfl, by omega, by omega, ?_⟩
  refine for_row (row_range 0 (way / 128 % 9).toNat) (fun i σ' Hi => ∃ (o5 o6 : Option V) (us : List V) (r : List (Int × Trm)), σ' = [some (.ref a), some (.ref wp), some (.int way), some (.ref p3), some (.ref p5), o5, o6, none, none, none, none, none] ∧ Same H2 Hi ∧ Hi p3 = some (.lst (((k0, t0) :: r).map kV1)) ∧ Hi p5 = some (.lst (x0 :: us)) ∧ Rows K Hi us r ∧ r.length = i ∧ Den K Hi x0 t0.data) ⟨none, none, [], [], rfl, sp3.trans (s4.trans sp5), (s4.trans sp5) _ _ kp3, kp5, ⟨.nil, fun x hx => by simp at hx⟩, rfl, d0.mono sp5⟩ (fun _ _ _ _ => trivial) (fun i σ' Hi hi hP => ?_) (fun σ' Hi hP => ?_)
  · obtain ⟨o5, o6, us, r, rfl, si, kk, kt, hr1, hl, dx0⟩ := hP
    have sA : Same H Hi := (s1.trans sp2).trans si
    have hi9 : i < 9 := by omega
    have hul := hr1.ulen
    walk_at "stp"
    refine ⟨ns, sA.seq hS, by omega, by omega, fun c => ?_⟩
    walk_at "stp"
    refine ⟨.inl ⟨rfl, _, SqL.of kk⟩, ?_⟩
    walk_at "stp"
    refine ⟨ln (by show 2 ≤ 100000; decide), fun q1 hq1 => ?_⟩
    have sq1 : Same Hi (upd Hi q1 (.lst [.int 7, .int 16])) := same_new hq1 _
    have kq1 : (upd Hi q1 (.lst [.int 7, .int 16])) q1 = some (.lst [.int 7, .int 16]) := upd_same
    generalize upd Hi q1 (.lst [.int 7, .int 16]) = J1 at sq1 kq1 ⊢
    walk_at "stp"
    obtain ⟨m, hm, hm1, hm2⟩ : ∃ m : Int, atI [V.int 7, V.int 16] (way / 4 % 2) = some (.int m) ∧ 0 < m ∧ m ≤ 16 := by
      have hi : way / 4 % 2 = 0 ∨ way / 4 % 2 = 1 := by omega
      rcases hi with z | z <;> rw [z]
      · exact ⟨7, rfl, by omega, by omega⟩
      · exact ⟨16, rfl, by omega, by omega⟩
    refine mIx_l (SqL.of kq1) hm ?_
    walk_at "stp"
    refine m2_i (show (0 : Int) < m from hm1) ?_
    walk_at "stp"
    have cm1 := Int.emod_nonneg c (show m ≠ 0 by omega)
    have cm2 := Int.emod_lt_of_pos c hm1
    refine mAppend_i (sq1 _ _ kk) (ln1 (by rw [List.length_map, List.length_cons]; omega)) ?_
    have s2J : Same H2 (upd J1 p3 (.lst (((k0, t0) :: r).map kV1 ++ [.int (c % m)]))) := same_upd (si.trans sq1) hn3
    have kk2 : (upd J1 p3 (.lst (((k0, t0) :: r).map kV1 ++ [.int (c % m)]))) p3 = some (.lst (((k0, t0) :: r).map kV1 ++ [.int (c % m)])) := upd_same
    have kt2 : (upd J1 p3 (.lst (((k0, t0) :: r).map kV1 ++ [.int (c % m)]))) p5 = some (.lst (x0 :: us)) := by rw [upd_ne hne]; exact sq1 _ _ kt
    have hr2 : Rows K (upd J1 p3 (.lst (((k0, t0) :: r).map kV1 ++ [.int (c % m)]))) us r := ⟨DenL.lst (sq1 _ _ kk) (hr1.mono sq1).den, hr1.fit⟩
    have dx2 : Den K (upd J1 p3 (.lst (((k0, t0) :: r).map kV1 ++ [.int (c % m)]))) x0 t0.data := Den.lst (sq1 _ _ kk) (dx0.mono sq1)
    generalize upd J1 p3 (.lst (((k0, t0) :: r).map kV1 ++ [.int (c % m)])) = J2 at s2J kk2 kt2 hr2 dx2 ⊢
    walk_at "stp"
    refine ⟨.inl ⟨rfl, _, SqL.of kt2⟩, ?_⟩
    walk_at "stp"
    refine mIx_l (SqL.of kk2) at_last ?_
    walk_at "stp"
    refine ⟨ln (by show 2 ≤ 100000; decide), fun q3 hq3 => ?_⟩
    have sq3 : Same J2 (upd J2 q3 (.lst [.int 22, .int 26])) := same_new hq3 _
    have kq3 : (upd J2 q3 (.lst [.int 22, .int 26])) q3 = some (.lst [.int 22, .int 26]) := upd_same
    generalize upd J2 q3 (.lst [.int 22, .int 26]) = J3 at sq3 kq3 ⊢
    walk_at "stp"
    obtain ⟨m', hm', hm1', hm2'⟩ : ∃ m' : Int, atI [V.int 22, V.int 26] (way / 4 % 2) = some (.int m') ∧ 0 < m' ∧ m' ≤ 26 := by
      have hi : way / 4 % 2 = 0 ∨ way / 4 % 2 = 1 := by omega
      rcases hi with z | z <;> rw [z]
      · exact ⟨22, rfl, by omega, by omega⟩
      · exact ⟨26, rfl, by omega, by omega⟩
    refine mIx_l (SqL.of kq3) hm' ?_
    walk_at "stp"
    refine m2_i (show (0 : Int) < m' from hm1') ?_
    walk_at "stp"
    have dm1 := Int.emod_nonneg (c / 16) (show m' ≠ 0 by omega)
    have dm2 := Int.emod_lt_of_pos (c / 16) hm1'
    refine ⟨w0, w1, w2, sq3 _ _ (s2J _ _ (sp2 _ _ kw)), g0, g1, g2, cm1, by omega, by omega, by omega, fun xt tt J4 s4' d4 n4 gl4 sh4 z4 => ?_⟩
    have s24 := sq3.trans s4'
    walk_at "stp"
    refine mAppend_i (s24 _ _ kt2) (ln1 (by rw [List.length_cons]; omega)) ?_
    refine ⟨_, _, us ++ [xt], r ++ [(c % m, tt)], rfl, same_upd (s2J.trans s24) hn5, ?_, upd_same, ⟨DenL.lst (s24 _ _ kt2) ((hr2.mono s24).snoc d4 ⟨n4, gl4, sh4, z4⟩).den, ((hr2.mono s24).snoc d4 ⟨n4, gl4, sh4, z4⟩).fit⟩, by simp [hl], Den.lst (s24 _ _ kt2) (dx2.mono s24)⟩
    rw [upd_ne (Ne.symm hne), s24 _ _ kk2]
    simp [kV1]
  · obtain ⟨o5, o6, us, r, rfl, si, kk, kt, hr1, hl, dx0⟩ := hP
    have sA : Same H Hi := (s1.trans sp2).trans si
    have hr9 : r.length ≤ 9 := by omega
    have hul := hr1.ulen
    have hrow : Rows K Hi (x0 :: us) ((k0, t0) :: r) := ⟨.cons dx0 hr1.den, fun x hx => by
      rcases List.mem_cons.mp hx with z | z
      · rw [z]; exact ft0
      · exact hr1.fit x z⟩
    walk_at "stp"
    refine ⟨p3, p5, _, _, rfl, SqL.of kk, SqL.of kt, ?_⟩
    refine for_zip (by rw [List.length_map, List.length_cons, List.length_cons, hul]) (fun i σ' Hj => ∃ (o7 o8 : Option V), σ' = [some (.ref a), some (.ref wp), some (.int way), some (.ref p3), some (.ref p5), o5, o6, o7, o8, none, none, none] ∧ Same Hi Hj) ⟨none, none, rfl, Same.refl _⟩ (fun i σ' Hj hP => ⟨SqL.of (hP.choose_spec.choose_spec.2 _ _ kk), SqL.of (hP.choose_spec.choose_spec.2 _ _ kt)⟩) (fun i σ' Hj T hi hP hT => ?_) (fun σ' Hj hP => ?_)
    · obtain ⟨o7, o8, rfl, sj⟩ := hP
      obtain ⟨k, tt, e1, e2, e3, e4⟩ := hrow.get hi
      rw [e2]
      generalize (x0 :: us).getD i .non = u at e3 ⊢
      refine gTup_i (SqT.of upd_same) rfl ?_
      have sT := sj.trans (same_new hT (.tup [.int k, u]))
      generalize upd Hj T (.tup [.int k, u]) = J at sT ⊢
      walk_at "stp"
      refine ⟨tt, e3.mono sT, e4.sh.1, fun J1 t1 => ?_⟩
      walk_at "stp"
      refine ⟨by rw [Bool.false_xor]; exact e4.nm, ?_⟩
      walk_at "stp"
      refine iteF ?_
      walk_at "stp"
      refine ⟨tt, e3.mono (sT.trans t1), e4.sh, fun J2 t2 => ?_⟩
      walk_at "stp"
      refine ⟨e4.gl, ?_⟩
      walk_at "stp"
      refine iteF ?_
      walk_at "stp"
      exact ⟨_, _, rfl, sT.trans (t1.trans t2)⟩
    obtain ⟨o7, o8, rfl, sj⟩ := hP
    walk_at "stp"
    refine mSlL_i (SqL.of (sj _ _ kt)) (fun p6 hp6 => ?_)
    have s6 := same_new hp6 (.lst (cutV (x0 :: us) (some 1) none))
    have k6 : (upd Hj p6 (.lst (cutV (x0 :: us) (some 1) none))) p6 = some (.lst us) := by rw [upd_same, cut_one]
    generalize upd Hj p6 (.lst (cutV (x0 :: us) (some 1) none)) = J6 at s6 k6 ⊢
    walk_at "stp"
    refine mLen_l (SqL.of k6) ?_
    walk_at "stp"
    refine mSlL_i (SqL.of (s6 _ _ (sj _ _ kk))) (fun p7 hp7 => ?_)
    have s7 := same_new hp7 (.lst (cutV (((k0, t0) :: r).map kV1) (some 1) none))
    have k7 : (upd J6 p7 (.lst (cutV (((k0, t0) :: r).map kV1) (some 1) none))) p7 = some (.lst (r.map kV1)) := by
      rw [upd_same, List.map_cons, cut_one]
    generalize upd J6 p7 (.lst (cutV (((k0, t0) :: r).map kV1) (some 1) none)) = J7 at s7 k7 ⊢
    have sj7 := sj.trans (s6.trans s7)
    walk_at "stp"
    refine ⟨p7, p6, _, _, rfl, SqL.of k7, SqL.of (s7 _ _ k6), ?_⟩
    refine for_zip (by rw [List.length_map, hul]) (fun i σ' Hk => ∃ (o7 o8 : Option V), σ' = [some (.ref a), some (.ref wp), some (.int way), some (.ref p3), some (.ref p5), o5, o6, o7, o8, some (.ref p6), some (.bl (decide ((us.length : Int) ≤ 6) && (r.take i).all gOk)), none] ∧ Same J7 Hk) ⟨o7, o8, by simp, Same.refl _⟩ (fun i σ' Hk hP => ⟨SqL.of (hP.choose_spec.choose_spec.2 _ _ k7), SqL.of (hP.choose_spec.choose_spec.2 _ _ (s7 _ _ k6))⟩) (fun i σ' Hk T hi hP hT => ?_) (fun σ' Hk hP => ?_)
    · obtain ⟨o7, o8, rfl, sk⟩ := hP
      obtain ⟨k, tt, e1, e2, e3, e4⟩ := hr1.get hi
      have en := all_next e1
      rw [e2]
      generalize us.getD i .non = u at e3 ⊢
      refine gTup_i (SqT.of upd_same) rfl ?_
      have sT := sk.trans (same_new hT (.tup [.int k, u]))
      generalize upd Hk T (.tup [.int k, u]) = J at sT ⊢
      walk_at "stp"
      refine iteB (fun e => ?_) (fun e => ?_)
      · have h7 : 7 ≤ k := of_decide_eq_true e
        have hg : goalB tt = false := by rw [e4.gl]; exact decide_eq_false (by omega)
        refine iteT ?_
        walk_at "stp"
        refine ⟨some (.int k), some u, ?_, sT⟩
        rw [en, hg]
        simp
      · have h7 : ¬ 7 ≤ k := of_decide_eq_false e
        have hg : goalB tt = true := by rw [e4.gl]; exact decide_eq_true (by omega)
        walk_at "stp"
        refine ⟨tt, e3.mono (sj7.trans sT), e4.sz, by omega, fun J1 t1 => ?_⟩
        walk_at "stp"
        refine iteB (fun e => ?_) (fun e => ?_)
        · have hz : fitB tt = false := decide_eq_false (by have := of_decide_eq_true e; omega)
          walk_at "stp"
          refine ⟨some (.int k), some u, ?_, sT.trans t1⟩
          rw [en, hg, hz]
          simp
        · have hz : fitB tt = true := decide_eq_true (by have := of_decide_eq_false e; omega)
          walk_at "stp"
          refine ⟨some (.int k), some u, ?_, sT.trans t1⟩
          rw [en, hg, hz]
          simp
    obtain ⟨o7, o8, rfl, sk⟩ := hP
    have hgd : (decide ((us.length : Int) ≤ 6) && (r.take (r.map kV1).length).all gOk) = goodGs (r.map (·.2)) := by
      rw [List.length_map, hul]
      exact good_all r
    rw [hgd]
    have hgs : Gs K Hi us (r.map (·.2)) := ⟨hr1.den, by rw [List.length_map]; omega, fun x hx => by
      obtain ⟨y, hy, rfl⟩ := List.mem_map.mp hx
      exact ⟨(hr1.fit y hy).sh, (hr1.fit y hy).sz⟩⟩
    have sik := sj7.trans sk
    have k6' := sk _ _ (s7 _ _ k6)
    walk_at "stp"
    refine ⟨us, _, SqL.of k6', hgs.mono sik, rfl, fun L1 l1 => ?_⟩
    walk_at "stm"
    refine iteF ?_
    walk_at "stm"
    have sil := sik.trans l1
    have k6l := l1 _ _ k6'
    (with_reducible refine seq_rest (fun σ' L => σ' = [some (.ref a), some (.ref wp), some (.int way), some (.ref p3), some (.ref p5), o5, o6, o7, o8, some (.ref p6), some (.bl (headB t0 && goodGs (r.map (·.2)))), none] ∧ Same L1 L) (fun σ' L hP => ?_) (fun kz => ?_))
    rotate_left
    · walk_at "stm"
      refine iteB (fun e => ?_) (fun e => ?_)
      · walk_at "stm"
        refine mIx_l (SqL.of (sil _ _ kk)) (v := .int k0) at_zero ?_
        walk_at "stm"
        refine iteB (fun e1 => ?_) (fun e1 => ?_)
        · have hk4 : named t0 = true := by rw [n0]; exact xor_n e1
          walk_at "stm"
          refine mIx_l (SqL.of (sil _ _ kt)) (v := x0) at_zero ?_
          walk_at "stm"
          refine ⟨t0, dx0.mono sil, z0, by omega, fun L2 l2 => ?_⟩
          walk_at "stm"
          have hf : decide ((t0.size : Int) ≤ 24) = fitB t0 := decide_eq_decide.mpr (by omega)
          have hh : (headB t0 && goodGs (r.map (·.2))) = decide ((t0.size : Int) ≤ 24) := by
            rw [hf, e]
            unfold headB
            rw [hk4, Bool.true_and, Bool.and_true]
          rw [hh] at kz
          exact kz _ _ ⟨rfl, l2⟩
        · have hk4 : named t0 = false := by rw [n0]; exact xor_n e1
          walk_at "stm"
          have hh : (headB t0 && goodGs (r.map (·.2))) = false := by
            unfold headB
            rw [hk4, Bool.false_and, Bool.false_and]
          rw [hh] at kz
          exact kz _ _ ⟨rfl, Same.refl _⟩
      · walk_at "stm"
        have hh : (headB t0 && goodGs (r.map (·.2))) = false := by rw [e, Bool.and_false]
        rw [hh] at kz
        exact kz _ _ ⟨rfl, Same.refl _⟩
    obtain ⟨rfl, l2⟩ := hP
    have sim := sil.trans l2
    have k6m := l2 _ _ k6l
    walk_at "stp"
    refine iteB (fun e => ?_) (fun e => ?_)
    · walk_at "stp"
      refine mIx_l (SqL.of (sim _ _ kt)) (v := x0) at_zero ?_
      walk_at "stp"
      refine mTup_l (SqL.of k6m) (fun p8 hp8 => ?_)
      have s8 := same_new hp8 (.tup us)
      walk_at "stp"
      exact ⟨t0, us, _, dx0.mono (sim.trans s8), sh0, z0, .inr (SqT.of upd_same), hgs.mono (sim.trans s8), rfl, fun _ _ => q _⟩
    · walk_at "stp"
      refine mLst_l (SqL.of k6m) (fun p8 hp8 => ?_)
      have s8 := same_new hp8 (.lst us)
      have k8 : (upd L p8 (.lst us)) p8 = some (.lst us) := upd_same
      generalize upd L p8 (.lst us) = L8 at s8 k8 ⊢
      have si8 := sim.trans s8
      walk_at "stp"
      refine mIx_l (SqL.of (si8 _ _ kt)) (v := x0) at_zero ?_
      walk_at "stp"
      refine ⟨t0, us, _, dx0.mono si8, sh0, z0, .inl (SqL.of k8), hgs.mono si8, rfl, fun L9 s9 => ?_⟩
      walk_at "stp"
      refine iteT ?_
      walk_at "stp"
      exact eq_goals (SqL.of (s9 _ _ k8)) (SqL.of (s9 _ _ (s8 _ _ k6m))) (hgs.mono (si8.trans s9)) (q _)
theorem ok_all (T : Txt K mg t) : FnOk P w K mg base CX0 62 t.a_law t.d_law ["_law_script"] (sp_law K) := by
  have h_TrailError_init := ok_TrailError_init (P := P) (w := w) (base := base) T
  have h_parts := ok_parts (P := P) (w := w) (base := base) T
  have h_is_inner := ok_is_inner (P := P) (w := w) (base := base) T
  have h_l_cell_at := ok_l_cell_at (P := P) (w := w) (base := base) T
  have h_l_words := ok_l_words (P := P) (w := w) (base := base) T
  have h_l_chain := ok_l_chain (P := P) (w := w) (base := base) T
  have h_l_truth := ok_l_truth (P := P) (w := w) (base := base) T
  have h_l_refusal := ok_l_refusal (P := P) (w := w) (base := base) T
  have h_is_called := ok_is_called T h_is_inner
  have h_l_term := ok_l_term T h_l_chain
  have h_is_word := ok_is_word T h_is_called
  have h_check_parts := ok_check_parts T h_parts h_TrailError_init
  have h_is_named := ok_is_named T h_is_word
  have h_is_goal := ok_is_goal T h_is_named
  have h_check_goals := ok_check_goals T h_TrailError_init h_check_parts h_is_goal
  have h_rule := ok_rule T h_check_parts h_check_goals h_is_named h_TrailError_init
  have h_question := ok_question T h_check_goals
  have h_l_rule_is := ok_l_rule_is T h_rule h_l_refusal
  have h_l_question_is := ok_l_question_is T h_question h_l_refusal
  have h_l_size := ok_l_size (P := P) (w := w) (base := base) T  60
  exact ok_law T h_l_words h_l_cell_at h_l_term h_l_question_is h_l_rule_is h_l_size h_l_truth h_is_named h_is_goal
end
theorem txt_mk {K : PySem.W.Frag} {h : Heap} {mg : Str → Option Value} (X : K.In h) (G : h.Ns mainGlobals mg)
    {k_TrailError : Addr}
    {nm_TrailError q_TrailError : Str} {N_TrailError : Addr} {bs_TrailError : List Value} {sn_TrailError : List Str} {sub_TrailError : List Value} {ab_TrailError : Bool} {col_TrailError : Option Bool} {dd_TrailError : Option Addr} {k0_TrailError k1_TrailError k2_TrailError k3_TrailError k5_TrailError : Option Value}
    {k_NoText : Addr}
    {nm_NoText q_NoText : Str} {N_NoText : Addr} {bs_NoText : List Value} {sn_NoText : List Str} {sub_NoText : List Value} {ab_NoText : Bool} {col_NoText : Option Bool} {dd_NoText : Option Addr} {k0_NoText k1_NoText k2_NoText k3_NoText k5_NoText : Option Value}
    {k_NoSign : Addr}
    {nm_NoSign q_NoSign : Str} {N_NoSign : Addr} {bs_NoSign : List Value} {sn_NoSign : List Str} {sub_NoSign : List Value} {ab_NoSign : Bool} {col_NoSign : Option Bool} {dd_NoSign : Option Addr} {k0_NoSign k1_NoSign k2_NoSign k3_NoSign k5_NoSign : Option Value}
    {k_NoRule : Addr}
    {nm_NoRule q_NoRule : Str} {N_NoRule : Addr} {bs_NoRule : List Value} {sn_NoRule : List Str} {sub_NoRule : List Value} {ab_NoRule : Bool} {col_NoRule : Option Bool} {dd_NoRule : Option Addr} {k0_NoRule k1_NoRule k2_NoRule k3_NoRule k5_NoRule : Option Value}
    {k_Big : Addr}
    {nm_Big q_Big : Str} {N_Big : Addr} {bs_Big : List Value} {sn_Big : List Str} {sub_Big : List Value} {ab_Big : Bool} {col_Big : Option Bool} {dd_Big : Option Addr} {k0_Big k1_Big k2_Big k3_Big k5_Big : Option Value}
    {k_HasKeep : Addr}
    {nm_HasKeep q_HasKeep : Str} {N_HasKeep : Addr} {bs_HasKeep : List Value} {sn_HasKeep : List Str} {sub_HasKeep : List Value} {ab_HasKeep : Bool} {col_HasKeep : Option Bool} {dd_HasKeep : Option Addr} {k0_HasKeep k1_HasKeep k2_HasKeep k3_HasKeep k5_HasKeep : Option Value}
    {k_NotLayered : Addr}
    {nm_NotLayered q_NotLayered : Str} {N_NotLayered : Addr} {bs_NotLayered : List Value} {sn_NotLayered : List Str} {sub_NotLayered : List Value} {ab_NotLayered : Bool} {col_NotLayered : Option Bool} {dd_NotLayered : Option Addr} {k0_NotLayered k1_NotLayered k2_NotLayered k3_NotLayered k5_NotLayered : Option Value}
    {k_Fault : Addr}
    {nm_Fault q_Fault : Str} {N_Fault : Addr} {bs_Fault : List Value} {sn_Fault : List Str} {sub_Fault : List Value} {ab_Fault : Bool} {col_Fault : Option Bool} {dd_Fault : Option Addr} {k0_Fault k1_Fault k2_Fault k3_Fault k5_Fault : Option Value}
    {f0 : Addr} {od0 an0 : Option Addr} {sl0 : Array (Option Value)} {oc0 kV0 dc0 pm0 cd0 ct0 : Value}
    {v0 : Addr} {vd0 : Option Addr} {vn0 : Nat} {vs0 : Array (Option Value)} {w0_0 : Tok}
    {f1 : Addr} {od1 an1 : Option Addr} {sl1 : Array (Option Value)} {oc1 kV1 dc1 pm1 cd1 ct1 : Value}
    {v1 : Addr} {vd1 : Option Addr} {vn1 : Nat} {vs1 : Array (Option Value)} {w1_0 : Tok}
    {f2 : Addr} {od2 an2 : Option Addr} {sl2 : Array (Option Value)} {oc2 kV2 dc2 pm2 cd2 ct2 : Value}
    {v2 : Addr} {vd2 : Option Addr} {vn2 : Nat} {vs2 : Array (Option Value)} {w2_0 : Tok}
    {f3 : Addr} {od3 an3 : Option Addr} {sl3 : Array (Option Value)} {oc3 kV3 dc3 pm3 cd3 ct3 : Value}
    {f4 : Addr} {od4 an4 : Option Addr} {sl4 : Array (Option Value)} {oc4 kV4 dc4 pm4 cd4 ct4 : Value}
    {f5 : Addr} {od5 an5 : Option Addr} {sl5 : Array (Option Value)} {oc5 kV5 dc5 pm5 cd5 ct5 : Value}
    {f6 : Addr} {od6 an6 : Option Addr} {sl6 : Array (Option Value)} {oc6 kV6 dc6 pm6 cd6 ct6 : Value}
    {f7 : Addr} {od7 an7 : Option Addr} {sl7 : Array (Option Value)} {oc7 kV7 dc7 pm7 cd7 ct7 : Value}
    {f8 : Addr} {od8 an8 : Option Addr} {sl8 : Array (Option Value)} {oc8 kV8 dc8 pm8 cd8 ct8 : Value}
    {f9 : Addr} {od9 an9 : Option Addr} {sl9 : Array (Option Value)} {oc9 kV9 dc9 pm9 cd9 ct9 : Value}
    {f10 : Addr} {od10 an10 : Option Addr} {sl10 : Array (Option Value)} {oc10 kV10 dc10 pm10 cd10 ct10 : Value}
    {f11 : Addr} {od11 an11 : Option Addr} {sl11 : Array (Option Value)} {oc11 kV11 dc11 pm11 cd11 ct11 : Value}
    {f12 : Addr} {od12 an12 : Option Addr} {sl12 : Array (Option Value)} {oc12 kV12 dc12 pm12 cd12 ct12 : Value}
    {f13 : Addr} {od13 an13 : Option Addr} {sl13 : Array (Option Value)} {oc13 kV13 dc13 pm13 cd13 ct13 : Value}
    {f14 : Addr} {od14 an14 : Option Addr} {sl14 : Array (Option Value)} {oc14 kV14 dc14 pm14 cd14 ct14 : Value}
    {f15 : Addr} {od15 an15 : Option Addr} {sl15 : Array (Option Value)} {oc15 kV15 dc15 pm15 cd15 ct15 : Value}
    {f16 : Addr} {od16 an16 : Option Addr} {sl16 : Array (Option Value)} {oc16 kV16 dc16 pm16 cd16 ct16 : Value}
    {f17 : Addr} {od17 an17 : Option Addr} {sl17 : Array (Option Value)} {oc17 kV17 dc17 pm17 cd17 ct17 : Value}
    {f18 : Addr} {od18 an18 : Option Addr} {sl18 : Array (Option Value)} {oc18 kV18 dc18 pm18 cd18 ct18 : Value}
    {f19 : Addr} {od19 an19 : Option Addr} {sl19 : Array (Option Value)} {oc19 kV19 dc19 pm19 cd19 ct19 : Value}
    {f20 : Addr} {od20 an20 : Option Addr} {sl20 : Array (Option Value)} {oc20 kV20 dc20 pm20 cd20 ct20 : Value}
    {f21 : Addr} {od21 an21 : Option Addr} {sl21 : Array (Option Value)} {oc21 kV21 dc21 pm21 cd21 ct21 : Value}
    {f22 : Addr} {od22 an22 : Option Addr} {sl22 : Array (Option Value)} {oc22 kV22 dc22 pm22 cd22 ct22 : Value}
    {t_SMALL : Tok}
    {t_GREAT : Tok}
    {t_FIGURES : Tok}
    {t_MOST_LETTERS : Tok}
    {t_KEEP : Tok}
    {t_NOT : Tok}
    {c_GOAL_MARKS : Addr} {od_GOAL_MARKS : Option Addr} {n_GOAL_MARKS : Nat} {sl_GOAL_MARKS : Array (Option Value)} {t_GOAL_MARKS_0 : Tok} {t_GOAL_MARKS_1 : Tok} {t_GOAL_MARKS_2 : Tok} {t_GOAL_MARKS_3 : Tok}
    {t_MOST_GOAL_PARTS : Tok}
    {t_MOST_GOALS : Tok}
    (ac_TrailError : PySem.W.nsIn K mainGlobals "TrailError" = some (some (.ref k_TrailError)))
    (oc_TrailError : K.lookup k_TrailError = some (excClassObj nm_TrailError q_TrailError k_TrailError N_TrailError bs_TrailError [.type "ValueError", .type "Exception", .type "BaseException", .type "object"] true sn_TrailError sub_TrailError ab_TrailError col_TrailError dd_TrailError k0_TrailError k1_TrailError k2_TrailError k3_TrailError k5_TrailError newS))
    (ga_TrailError : PySem.W.findIn K (.ref k_TrailError) "__getattribute__" = some (some (.builtin "BaseException.__getattribute__")))
    (gx_TrailError : PySem.W.findIn K (.ref k_TrailError) "__getattr__" = some none)
    (sa_TrailError : PySem.W.findIn K (.ref k_TrailError) "__setattr__" = some (some (.builtin "object.__setattr__")))
    (na_TrailError_row : PySem.W.findIn K (.ref k_TrailError) "row" = some none)
    (na_TrailError_ring : PySem.W.findIn K (.ref k_TrailError) "ring" = some none)
    (na_TrailError_word : PySem.W.findIn K (.ref k_TrailError) "word" = some none)
    (in_TrailError : PySem.W.findIn K (.ref k_TrailError) "__init__" = some (some (.ref f0)))
    (kc_TrailError : PySem.W.keepIn K (.ref k_TrailError) = true)
    (gm_TrailError : PySem.W.specialIn K (.ref k_TrailError) "__getattribute__" = some (some (.builtin "type.__getattribute__")))
    (rm_TrailError : PySem.W.readsIn K k_TrailError (.type "type") = true)
    (tm_TrailError : PySem.W.findCls K (.ref k_TrailError) (.type "type") "__init__" = some (.val (.ref f0)))
    (ac_NoText : PySem.W.nsIn K mainGlobals "NoText" = some (some (.ref k_NoText)))
    (oc_NoText : K.lookup k_NoText = some (excClassObj nm_NoText q_NoText k_NoText N_NoText bs_NoText [.ref k_TrailError, .type "ValueError", .type "Exception", .type "BaseException", .type "object"] true sn_NoText sub_NoText ab_NoText col_NoText dd_NoText k0_NoText k1_NoText k2_NoText k3_NoText k5_NoText newS))
    (ga_NoText : PySem.W.findIn K (.ref k_NoText) "__getattribute__" = some (some (.builtin "BaseException.__getattribute__")))
    (gx_NoText : PySem.W.findIn K (.ref k_NoText) "__getattr__" = some none)
    (sa_NoText : PySem.W.findIn K (.ref k_NoText) "__setattr__" = some (some (.builtin "object.__setattr__")))
    (na_NoText_row : PySem.W.findIn K (.ref k_NoText) "row" = some none)
    (na_NoText_ring : PySem.W.findIn K (.ref k_NoText) "ring" = some none)
    (na_NoText_word : PySem.W.findIn K (.ref k_NoText) "word" = some none)
    (in_NoText : PySem.W.findIn K (.ref k_NoText) "__init__" = some (some (.ref f0)))
    (kc_NoText : PySem.W.keepIn K (.ref k_NoText) = true)
    (ac_NoSign : PySem.W.nsIn K mainGlobals "NoSign" = some (some (.ref k_NoSign)))
    (oc_NoSign : K.lookup k_NoSign = some (excClassObj nm_NoSign q_NoSign k_NoSign N_NoSign bs_NoSign [.ref k_TrailError, .type "ValueError", .type "Exception", .type "BaseException", .type "object"] true sn_NoSign sub_NoSign ab_NoSign col_NoSign dd_NoSign k0_NoSign k1_NoSign k2_NoSign k3_NoSign k5_NoSign newS))
    (ga_NoSign : PySem.W.findIn K (.ref k_NoSign) "__getattribute__" = some (some (.builtin "BaseException.__getattribute__")))
    (gx_NoSign : PySem.W.findIn K (.ref k_NoSign) "__getattr__" = some none)
    (sa_NoSign : PySem.W.findIn K (.ref k_NoSign) "__setattr__" = some (some (.builtin "object.__setattr__")))
    (na_NoSign_row : PySem.W.findIn K (.ref k_NoSign) "row" = some none)
    (na_NoSign_ring : PySem.W.findIn K (.ref k_NoSign) "ring" = some none)
    (na_NoSign_word : PySem.W.findIn K (.ref k_NoSign) "word" = some none)
    (in_NoSign : PySem.W.findIn K (.ref k_NoSign) "__init__" = some (some (.ref f0)))
    (kc_NoSign : PySem.W.keepIn K (.ref k_NoSign) = true)
    (ac_NoRule : PySem.W.nsIn K mainGlobals "NoRule" = some (some (.ref k_NoRule)))
    (oc_NoRule : K.lookup k_NoRule = some (excClassObj nm_NoRule q_NoRule k_NoRule N_NoRule bs_NoRule [.ref k_TrailError, .type "ValueError", .type "Exception", .type "BaseException", .type "object"] true sn_NoRule sub_NoRule ab_NoRule col_NoRule dd_NoRule k0_NoRule k1_NoRule k2_NoRule k3_NoRule k5_NoRule newS))
    (ga_NoRule : PySem.W.findIn K (.ref k_NoRule) "__getattribute__" = some (some (.builtin "BaseException.__getattribute__")))
    (gx_NoRule : PySem.W.findIn K (.ref k_NoRule) "__getattr__" = some none)
    (sa_NoRule : PySem.W.findIn K (.ref k_NoRule) "__setattr__" = some (some (.builtin "object.__setattr__")))
    (na_NoRule_row : PySem.W.findIn K (.ref k_NoRule) "row" = some none)
    (na_NoRule_ring : PySem.W.findIn K (.ref k_NoRule) "ring" = some none)
    (na_NoRule_word : PySem.W.findIn K (.ref k_NoRule) "word" = some none)
    (in_NoRule : PySem.W.findIn K (.ref k_NoRule) "__init__" = some (some (.ref f0)))
    (kc_NoRule : PySem.W.keepIn K (.ref k_NoRule) = true)
    (ja_NoRule : PySem.W.findIn K (.ref k_NoRule) "__class__" = some (some (.builtin "object.__class__")))
    (jn_NoRule : PySem.W.specialIn K (.builtin "object.__class__") "__get__" = some (some (.builtin "getset_descriptor.__get__")))
    (jt_NoRule : PySem.W.takesIn K (.builtin "object.__class__") = some true)
    (jm_NoRule : PySem.W.mroIn K k_NoRule (.type "object") = some true)
    (ac_Big : PySem.W.nsIn K mainGlobals "Big" = some (some (.ref k_Big)))
    (oc_Big : K.lookup k_Big = some (excClassObj nm_Big q_Big k_Big N_Big bs_Big [.ref k_TrailError, .type "ValueError", .type "Exception", .type "BaseException", .type "object"] true sn_Big sub_Big ab_Big col_Big dd_Big k0_Big k1_Big k2_Big k3_Big k5_Big newS))
    (ga_Big : PySem.W.findIn K (.ref k_Big) "__getattribute__" = some (some (.builtin "BaseException.__getattribute__")))
    (gx_Big : PySem.W.findIn K (.ref k_Big) "__getattr__" = some none)
    (sa_Big : PySem.W.findIn K (.ref k_Big) "__setattr__" = some (some (.builtin "object.__setattr__")))
    (na_Big_row : PySem.W.findIn K (.ref k_Big) "row" = some none)
    (na_Big_ring : PySem.W.findIn K (.ref k_Big) "ring" = some none)
    (na_Big_word : PySem.W.findIn K (.ref k_Big) "word" = some none)
    (in_Big : PySem.W.findIn K (.ref k_Big) "__init__" = some (some (.ref f0)))
    (kc_Big : PySem.W.keepIn K (.ref k_Big) = true)
    (ac_HasKeep : PySem.W.nsIn K mainGlobals "HasKeep" = some (some (.ref k_HasKeep)))
    (oc_HasKeep : K.lookup k_HasKeep = some (excClassObj nm_HasKeep q_HasKeep k_HasKeep N_HasKeep bs_HasKeep [.ref k_TrailError, .type "ValueError", .type "Exception", .type "BaseException", .type "object"] true sn_HasKeep sub_HasKeep ab_HasKeep col_HasKeep dd_HasKeep k0_HasKeep k1_HasKeep k2_HasKeep k3_HasKeep k5_HasKeep newS))
    (ga_HasKeep : PySem.W.findIn K (.ref k_HasKeep) "__getattribute__" = some (some (.builtin "BaseException.__getattribute__")))
    (gx_HasKeep : PySem.W.findIn K (.ref k_HasKeep) "__getattr__" = some none)
    (sa_HasKeep : PySem.W.findIn K (.ref k_HasKeep) "__setattr__" = some (some (.builtin "object.__setattr__")))
    (na_HasKeep_row : PySem.W.findIn K (.ref k_HasKeep) "row" = some none)
    (na_HasKeep_ring : PySem.W.findIn K (.ref k_HasKeep) "ring" = some none)
    (na_HasKeep_word : PySem.W.findIn K (.ref k_HasKeep) "word" = some none)
    (in_HasKeep : PySem.W.findIn K (.ref k_HasKeep) "__init__" = some (some (.ref f0)))
    (kc_HasKeep : PySem.W.keepIn K (.ref k_HasKeep) = true)
    (ac_NotLayered : PySem.W.nsIn K mainGlobals "NotLayered" = some (some (.ref k_NotLayered)))
    (oc_NotLayered : K.lookup k_NotLayered = some (excClassObj nm_NotLayered q_NotLayered k_NotLayered N_NotLayered bs_NotLayered [.ref k_TrailError, .type "ValueError", .type "Exception", .type "BaseException", .type "object"] true sn_NotLayered sub_NotLayered ab_NotLayered col_NotLayered dd_NotLayered k0_NotLayered k1_NotLayered k2_NotLayered k3_NotLayered k5_NotLayered newS))
    (ga_NotLayered : PySem.W.findIn K (.ref k_NotLayered) "__getattribute__" = some (some (.builtin "BaseException.__getattribute__")))
    (gx_NotLayered : PySem.W.findIn K (.ref k_NotLayered) "__getattr__" = some none)
    (sa_NotLayered : PySem.W.findIn K (.ref k_NotLayered) "__setattr__" = some (some (.builtin "object.__setattr__")))
    (na_NotLayered_row : PySem.W.findIn K (.ref k_NotLayered) "row" = some none)
    (na_NotLayered_ring : PySem.W.findIn K (.ref k_NotLayered) "ring" = some none)
    (na_NotLayered_word : PySem.W.findIn K (.ref k_NotLayered) "word" = some none)
    (in_NotLayered : PySem.W.findIn K (.ref k_NotLayered) "__init__" = some (some (.ref f1)))
    (kc_NotLayered : PySem.W.keepIn K (.ref k_NotLayered) = true)
    (ac_Fault : PySem.W.nsIn K mainGlobals "Fault" = some (some (.ref k_Fault)))
    (oc_Fault : K.lookup k_Fault = some (excClassObj nm_Fault q_Fault k_Fault N_Fault bs_Fault [.ref k_TrailError, .type "ValueError", .type "Exception", .type "BaseException", .type "object"] true sn_Fault sub_Fault ab_Fault col_Fault dd_Fault k0_Fault k1_Fault k2_Fault k3_Fault k5_Fault newS))
    (ga_Fault : PySem.W.findIn K (.ref k_Fault) "__getattribute__" = some (some (.builtin "BaseException.__getattribute__")))
    (gx_Fault : PySem.W.findIn K (.ref k_Fault) "__getattr__" = some none)
    (sa_Fault : PySem.W.findIn K (.ref k_Fault) "__setattr__" = some (some (.builtin "object.__setattr__")))
    (na_Fault_row : PySem.W.findIn K (.ref k_Fault) "row" = some none)
    (na_Fault_ring : PySem.W.findIn K (.ref k_Fault) "ring" = some none)
    (na_Fault_word : PySem.W.findIn K (.ref k_Fault) "word" = some none)
    (in_Fault : PySem.W.findIn K (.ref k_Fault) "__init__" = some (some (.ref f2)))
    (kc_Fault : PySem.W.keepIn K (.ref k_Fault) = true)
    (iz_NoRule_NoText : PySem.W.kitOne K (.ref k_NoRule) (.ref k_NoText) = some false)
    (iz_NoRule_NoSign : PySem.W.kitOne K (.ref k_NoRule) (.ref k_NoSign) = some false)
    (iz_NoRule_Big : PySem.W.kitOne K (.ref k_NoRule) (.ref k_Big) = some false)
    (iz_NoRule_HasKeep : PySem.W.kitOne K (.ref k_NoRule) (.ref k_HasKeep) = some false)
    (iz_NoRule_NotLayered : PySem.W.kitOne K (.ref k_NoRule) (.ref k_NotLayered) = some false)
    (iz_NoRule_Fault : PySem.W.kitOne K (.ref k_NoRule) (.ref k_Fault) = some false)
    (iz_NoRule_NoRule : PySem.W.kitOne K (.ref k_NoRule) (.ref k_NoRule) = some true)
    (iz_NoRule_ValueError : PySem.W.kitOne K (.ref k_NoRule) (.type "ValueError") = some true)
    (l0 : K.lookup f0 = some ⟨oc0, od0, .func (PySem.W.fnOf "__init__" "TrailError.__init__" (defArgs s_TrailError_init) (defBody s_TrailError_init) (defScope s_TrailError_init) (.ref v0) kV0 dc0 pm0 an0 cd0 ct0), sl0⟩)
    (c0 : PySem.W.codeIn K cd0 "TrailError.__init__" = true)
    (k0 : PySem.W.keepIn K (.ref f0) = true)
    (v0_ : K.lookup v0 = some ⟨.type "tuple", vd0, .seq #[.int 0 w0_0] vn0, vs0⟩)
    (fn0 : PySem.W.typeIn K (.ref f0) = some (.type "function"))
    (l1 : K.lookup f1 = some ⟨oc1, od1, .func (PySem.W.fnOf "__init__" "NotLayered.__init__" (defArgs s_NotLayered_init) (defBody s_NotLayered_init) (defScope s_NotLayered_init) (.ref v1) kV1 dc1 pm1 an1 cd1 ct1), sl1⟩)
    (c1 : PySem.W.codeIn K cd1 "NotLayered.__init__" = true)
    (k1 : PySem.W.keepIn K (.ref f1) = true)
    (v1_ : K.lookup v1 = some ⟨.type "tuple", vd1, .seq #[.int 0 w1_0] vn1, vs1⟩)
    (fn1 : PySem.W.typeIn K (.ref f1) = some (.type "function"))
    (l2 : K.lookup f2 = some ⟨oc2, od2, .func (PySem.W.fnOf "__init__" "Fault.__init__" (defArgs s_Fault_init) (defBody s_Fault_init) (defScope s_Fault_init) (.ref v2) kV2 dc2 pm2 an2 cd2 ct2), sl2⟩)
    (c2 : PySem.W.codeIn K cd2 "Fault.__init__" = true)
    (k2 : PySem.W.keepIn K (.ref f2) = true)
    (v2_ : K.lookup v2 = some ⟨.type "tuple", vd2, .seq #[.int 0 w2_0] vn2, vs2⟩)
    (fn2 : PySem.W.typeIn K (.ref f2) = some (.type "function"))
    (a3 : PySem.W.nsIn K mainGlobals "parts" = some (some (.ref f3)))
    (l3 : K.lookup f3 = some ⟨oc3, od3, .func (PySem.W.fnOf "parts" "parts" (defArgs s_parts) (defBody s_parts) (defScope s_parts) .none kV3 dc3 pm3 an3 cd3 ct3), sl3⟩)
    (c3 : PySem.W.codeIn K cd3 "parts" = true)
    (k3 : PySem.W.keepIn K (.ref f3) = true)
    (a4 : PySem.W.nsIn K mainGlobals "is_inner" = some (some (.ref f4)))
    (l4 : K.lookup f4 = some ⟨oc4, od4, .func (PySem.W.fnOf "is_inner" "is_inner" (defArgs s_is_inner) (defBody s_is_inner) (defScope s_is_inner) .none kV4 dc4 pm4 an4 cd4 ct4), sl4⟩)
    (c4 : PySem.W.codeIn K cd4 "is_inner" = true)
    (k4 : PySem.W.keepIn K (.ref f4) = true)
    (a5 : PySem.W.nsIn K mainGlobals "is_called" = some (some (.ref f5)))
    (l5 : K.lookup f5 = some ⟨oc5, od5, .func (PySem.W.fnOf "is_called" "is_called" (defArgs s_is_called) (defBody s_is_called) (defScope s_is_called) .none kV5 dc5 pm5 an5 cd5 ct5), sl5⟩)
    (c5 : PySem.W.codeIn K cd5 "is_called" = true)
    (k5 : PySem.W.keepIn K (.ref f5) = true)
    (a6 : PySem.W.nsIn K mainGlobals "is_word" = some (some (.ref f6)))
    (l6 : K.lookup f6 = some ⟨oc6, od6, .func (PySem.W.fnOf "is_word" "is_word" (defArgs s_is_word) (defBody s_is_word) (defScope s_is_word) .none kV6 dc6 pm6 an6 cd6 ct6), sl6⟩)
    (c6 : PySem.W.codeIn K cd6 "is_word" = true)
    (k6 : PySem.W.keepIn K (.ref f6) = true)
    (a7 : PySem.W.nsIn K mainGlobals "is_named" = some (some (.ref f7)))
    (l7 : K.lookup f7 = some ⟨oc7, od7, .func (PySem.W.fnOf "is_named" "is_named" (defArgs s_is_named) (defBody s_is_named) (defScope s_is_named) .none kV7 dc7 pm7 an7 cd7 ct7), sl7⟩)
    (c7 : PySem.W.codeIn K cd7 "is_named" = true)
    (k7 : PySem.W.keepIn K (.ref f7) = true)
    (a8 : PySem.W.nsIn K mainGlobals "is_goal" = some (some (.ref f8)))
    (l8 : K.lookup f8 = some ⟨oc8, od8, .func (PySem.W.fnOf "is_goal" "is_goal" (defArgs s_is_goal) (defBody s_is_goal) (defScope s_is_goal) .none kV8 dc8 pm8 an8 cd8 ct8), sl8⟩)
    (c8 : PySem.W.codeIn K cd8 "is_goal" = true)
    (k8 : PySem.W.keepIn K (.ref f8) = true)
    (a9 : PySem.W.nsIn K mainGlobals "check_parts" = some (some (.ref f9)))
    (l9 : K.lookup f9 = some ⟨oc9, od9, .func (PySem.W.fnOf "check_parts" "check_parts" (defArgs s_check_parts) (defBody s_check_parts) (defScope s_check_parts) .none kV9 dc9 pm9 an9 cd9 ct9), sl9⟩)
    (c9 : PySem.W.codeIn K cd9 "check_parts" = true)
    (k9 : PySem.W.keepIn K (.ref f9) = true)
    (a10 : PySem.W.nsIn K mainGlobals "check_goals" = some (some (.ref f10)))
    (l10 : K.lookup f10 = some ⟨oc10, od10, .func (PySem.W.fnOf "check_goals" "check_goals" (defArgs s_check_goals) (defBody s_check_goals) (defScope s_check_goals) .none kV10 dc10 pm10 an10 cd10 ct10), sl10⟩)
    (c10 : PySem.W.codeIn K cd10 "check_goals" = true)
    (k10 : PySem.W.keepIn K (.ref f10) = true)
    (a11 : PySem.W.nsIn K mainGlobals "rule" = some (some (.ref f11)))
    (l11 : K.lookup f11 = some ⟨oc11, od11, .func (PySem.W.fnOf "rule" "rule" (defArgs s_rule) (defBody s_rule) (defScope s_rule) .none kV11 dc11 pm11 an11 cd11 ct11), sl11⟩)
    (c11 : PySem.W.codeIn K cd11 "rule" = true)
    (k11 : PySem.W.keepIn K (.ref f11) = true)
    (a12 : PySem.W.nsIn K mainGlobals "question" = some (some (.ref f12)))
    (l12 : K.lookup f12 = some ⟨oc12, od12, .func (PySem.W.fnOf "question" "question" (defArgs s_question) (defBody s_question) (defScope s_question) .none kV12 dc12 pm12 an12 cd12 ct12), sl12⟩)
    (c12 : PySem.W.codeIn K cd12 "question" = true)
    (k12 : PySem.W.keepIn K (.ref f12) = true)
    (a13 : PySem.W.nsIn K mainGlobals "_law_cell_at" = some (some (.ref f13)))
    (l13 : K.lookup f13 = some ⟨oc13, od13, .func (PySem.W.fnOf "_law_cell_at" "_law_cell_at" (defArgs s_l_cell_at) (defBody s_l_cell_at) (defScope s_l_cell_at) .none kV13 dc13 pm13 an13 cd13 ct13), sl13⟩)
    (c13 : PySem.W.codeIn K cd13 "_law_cell_at" = true)
    (k13 : PySem.W.keepIn K (.ref f13) = true)
    (a14 : PySem.W.nsIn K mainGlobals "_law_words" = some (some (.ref f14)))
    (l14 : K.lookup f14 = some ⟨oc14, od14, .func (PySem.W.fnOf "_law_words" "_law_words" (defArgs s_l_words) (defBody s_l_words) (defScope s_l_words) .none kV14 dc14 pm14 an14 cd14 ct14), sl14⟩)
    (c14 : PySem.W.codeIn K cd14 "_law_words" = true)
    (k14 : PySem.W.keepIn K (.ref f14) = true)
    (a15 : PySem.W.nsIn K mainGlobals "_law_chain" = some (some (.ref f15)))
    (l15 : K.lookup f15 = some ⟨oc15, od15, .func (PySem.W.fnOf "_law_chain" "_law_chain" (defArgs s_l_chain) (defBody s_l_chain) (defScope s_l_chain) .none kV15 dc15 pm15 an15 cd15 ct15), sl15⟩)
    (c15 : PySem.W.codeIn K cd15 "_law_chain" = true)
    (k15 : PySem.W.keepIn K (.ref f15) = true)
    (a16 : PySem.W.nsIn K mainGlobals "_law_term" = some (some (.ref f16)))
    (l16 : K.lookup f16 = some ⟨oc16, od16, .func (PySem.W.fnOf "_law_term" "_law_term" (defArgs s_l_term) (defBody s_l_term) (defScope s_l_term) .none kV16 dc16 pm16 an16 cd16 ct16), sl16⟩)
    (c16 : PySem.W.codeIn K cd16 "_law_term" = true)
    (k16 : PySem.W.keepIn K (.ref f16) = true)
    (a17 : PySem.W.nsIn K mainGlobals "_law_size" = some (some (.ref f17)))
    (l17 : K.lookup f17 = some ⟨oc17, od17, .func (PySem.W.fnOf "_law_size" "_law_size" (defArgs s_l_size) (defBody s_l_size) (defScope s_l_size) .none kV17 dc17 pm17 an17 cd17 ct17), sl17⟩)
    (c17 : PySem.W.codeIn K cd17 "_law_size" = true)
    (k17 : PySem.W.keepIn K (.ref f17) = true)
    (a18 : PySem.W.nsIn K mainGlobals "_law_truth" = some (some (.ref f18)))
    (l18 : K.lookup f18 = some ⟨oc18, od18, .func (PySem.W.fnOf "_law_truth" "_law_truth" (defArgs s_l_truth) (defBody s_l_truth) (defScope s_l_truth) .none kV18 dc18 pm18 an18 cd18 ct18), sl18⟩)
    (c18 : PySem.W.codeIn K cd18 "_law_truth" = true)
    (k18 : PySem.W.keepIn K (.ref f18) = true)
    (a19 : PySem.W.nsIn K mainGlobals "_law_refusal" = some (some (.ref f19)))
    (l19 : K.lookup f19 = some ⟨oc19, od19, .func (PySem.W.fnOf "_law_refusal" "_law_refusal" (defArgs s_l_refusal) (defBody s_l_refusal) (defScope s_l_refusal) .none kV19 dc19 pm19 an19 cd19 ct19), sl19⟩)
    (c19 : PySem.W.codeIn K cd19 "_law_refusal" = true)
    (k19 : PySem.W.keepIn K (.ref f19) = true)
    (a20 : PySem.W.nsIn K mainGlobals "_law_rule_is" = some (some (.ref f20)))
    (l20 : K.lookup f20 = some ⟨oc20, od20, .func (PySem.W.fnOf "_law_rule_is" "_law_rule_is" (defArgs s_l_rule_is) (defBody s_l_rule_is) (defScope s_l_rule_is) .none kV20 dc20 pm20 an20 cd20 ct20), sl20⟩)
    (c20 : PySem.W.codeIn K cd20 "_law_rule_is" = true)
    (k20 : PySem.W.keepIn K (.ref f20) = true)
    (a21 : PySem.W.nsIn K mainGlobals "_law_question_is" = some (some (.ref f21)))
    (l21 : K.lookup f21 = some ⟨oc21, od21, .func (PySem.W.fnOf "_law_question_is" "_law_question_is" (defArgs s_l_question_is) (defBody s_l_question_is) (defScope s_l_question_is) .none kV21 dc21 pm21 an21 cd21 ct21), sl21⟩)
    (c21 : PySem.W.codeIn K cd21 "_law_question_is" = true)
    (k21 : PySem.W.keepIn K (.ref f21) = true)
    (a22 : PySem.W.nsIn K mainGlobals "law" = some (some (.ref f22)))
    (l22 : K.lookup f22 = some ⟨oc22, od22, .func (PySem.W.fnOf "law" "law" (defArgs s_law) (defBody s_law) (defScope s_law) .none kV22 dc22 pm22 an22 cd22 ct22), sl22⟩)
    (c22 : PySem.W.codeIn K cd22 "law" = true)
    (k22 : PySem.W.keepIn K (.ref f22) = true)
    (z0 : PySem.W.nsIn K mainGlobals "ValueError" = some none)
    (z1 : PySem.W.nsIn K mainGlobals "all" = some none)
    (z2 : PySem.W.nsIn K mainGlobals "bool" = some none)
    (z3 : PySem.W.nsIn K mainGlobals "int" = some none)
    (z4 : PySem.W.nsIn K mainGlobals "isinstance" = some none)
    (z5 : PySem.W.nsIn K mainGlobals "len" = some none)
    (z6 : PySem.W.nsIn K mainGlobals "list" = some none)
    (z7 : PySem.W.nsIn K mainGlobals "range" = some none)
    (z8 : PySem.W.nsIn K mainGlobals "str" = some none)
    (z9 : PySem.W.nsIn K mainGlobals "sum" = some none)
    (z10 : PySem.W.nsIn K mainGlobals "tuple" = some none)
    (z11 : PySem.W.nsIn K mainGlobals "zip" = some none)
    (y0 : PySem.W.nsIn K mainGlobals "SMALL" = some (some (.str (PySem.Str.ofString "abcdefghijklmnopqrstuvwxyz") t_SMALL)))
    (y1 : PySem.W.nsIn K mainGlobals "GREAT" = some (some (.str (PySem.Str.ofString "ABCDEFGHIJKLMNOPQRSTUVWXYZ") t_GREAT)))
    (y2 : PySem.W.nsIn K mainGlobals "FIGURES" = some (some (.str (PySem.Str.ofString "0123456789") t_FIGURES)))
    (y3 : PySem.W.nsIn K mainGlobals "MOST_LETTERS" = some (some (.int 12 t_MOST_LETTERS)))
    (y4 : PySem.W.nsIn K mainGlobals "KEEP" = some (some (.str (PySem.Str.ofString "keep") t_KEEP)))
    (y5 : PySem.W.nsIn K mainGlobals "NOT" = some (some (.str (PySem.Str.ofString "not") t_NOT)))
    (y6 : PySem.W.nsIn K mainGlobals "GOAL_MARKS" = some (some (.ref c_GOAL_MARKS)))
    (y6_0 : K.lookup c_GOAL_MARKS = some ⟨.type "tuple", od_GOAL_MARKS, .seq #[.str (PySem.Str.ofString "=") t_GOAL_MARKS_0, .str (PySem.Str.ofString ":=") t_GOAL_MARKS_1, .str (PySem.Str.ofString "<") t_GOAL_MARKS_2, .str (PySem.Str.ofString "<=") t_GOAL_MARKS_3] n_GOAL_MARKS, sl_GOAL_MARKS⟩)
    (y7 : PySem.W.nsIn K mainGlobals "MOST_GOAL_PARTS" = some (some (.int 24 t_MOST_GOAL_PARTS)))
    (y8 : PySem.W.nsIn K mainGlobals "MOST_GOALS" = some (some (.int 6 t_MOST_GOALS)))
    : ∃ t : Ad, Txt K mg t ∧ ∀ (s : Shared) (u : Value), BindsTo s t.d_law ⟨[u], []⟩ [("_law_script", u)] := by
  have F0 := funD_mk (st := s_TrailError_init) l0 c0 k0
  have F1 := funD_mk (st := s_NotLayered_init) l1 c1 k1
  have F2 := funD_mk (st := s_Fault_init) l2 c2 k2
  have F3 := fun_mk (st := s_parts) l3 c3 k3
  have F4 := fun_mk (st := s_is_inner) l4 c4 k4
  have F5 := fun_mk (st := s_is_called) l5 c5 k5
  have F6 := fun_mk (st := s_is_word) l6 c6 k6
  have F7 := fun_mk (st := s_is_named) l7 c7 k7
  have F8 := fun_mk (st := s_is_goal) l8 c8 k8
  have F9 := fun_mk (st := s_check_parts) l9 c9 k9
  have F10 := fun_mk (st := s_check_goals) l10 c10 k10
  have F11 := fun_mk (st := s_rule) l11 c11 k11
  have F12 := fun_mk (st := s_question) l12 c12 k12
  have F13 := fun_mk (st := s_l_cell_at) l13 c13 k13
  have F14 := fun_mk (st := s_l_words) l14 c14 k14
  have F15 := fun_mk (st := s_l_chain) l15 c15 k15
  have F16 := fun_mk (st := s_l_term) l16 c16 k16
  have F17 := fun_mk (st := s_l_size) l17 c17 k17
  have F18 := fun_mk (st := s_l_truth) l18 c18 k18
  have F19 := fun_mk (st := s_l_refusal) l19 c19 k19
  have F20 := fun_mk (st := s_l_rule_is) l20 c20 k20
  have F21 := fun_mk (st := s_l_question_is) l21 c21 k21
  have F22 := fun_mk (st := s_law) l22 c22 k22
  exact ⟨⟨k_TrailError, k_NoText, k_NoSign, k_NoRule, k_Big, k_HasKeep, k_NotLayered, k_Fault, f0, _, v0, w0_0, f1, _, v1, w1_0, f2, _, v2, w2_0, f3, _, f4, _, f5, _, f6, _, f7, _, f8, _, f9, _, f10, _, f11, _, f12, _, f13, _, f14, _, f15, _, f16, _, f17, _, f18, _, f19, _, f20, _, f21, _, f22, _, t_SMALL, t_GREAT, t_FIGURES, t_MOST_LETTERS, t_KEEP, t_NOT, c_GOAL_MARKS, t_MOST_GOAL_PARTS, t_MOST_GOALS⟩, ⟨PySem.W.mg_of X G ac_TrailError,
    ⟨⟨nm_TrailError, q_TrailError, N_TrailError, bs_TrailError, sn_TrailError, sub_TrailError, ab_TrailError, col_TrailError, dd_TrailError, k0_TrailError, k1_TrailError, k2_TrailError, k3_TrailError, k5_TrailError, oc_TrailError⟩, by simp, by simp, by simp, by simp⟩,
    ⟨[], by simp, rfl⟩,
    ⟨ga_TrailError, gx_TrailError, sa_TrailError⟩,
    na_TrailError_row,
    na_TrailError_ring,
    na_TrailError_word,
    ⟨⟨⟨nm_TrailError, q_TrailError, N_TrailError, bs_TrailError, sn_TrailError, sub_TrailError, ab_TrailError, col_TrailError, dd_TrailError, k0_TrailError, k1_TrailError, k2_TrailError, k3_TrailError, k5_TrailError, oc_TrailError⟩, by simp, by simp, by simp, by simp⟩, in_TrailError, fn0, kc_TrailError⟩,
    ⟨gm_TrailError, rm_TrailError, tm_TrailError, k0⟩,
    PySem.W.mg_of X G ac_NoText,
    ⟨⟨nm_NoText, q_NoText, N_NoText, bs_NoText, sn_NoText, sub_NoText, ab_NoText, col_NoText, dd_NoText, k0_NoText, k1_NoText, k2_NoText, k3_NoText, k5_NoText, oc_NoText⟩, by simp, by simp, by simp, by simp⟩,
    ⟨[.ref k_TrailError], by simp, rfl⟩,
    ⟨ga_NoText, gx_NoText, sa_NoText⟩,
    na_NoText_row,
    na_NoText_ring,
    na_NoText_word,
    ⟨⟨⟨nm_NoText, q_NoText, N_NoText, bs_NoText, sn_NoText, sub_NoText, ab_NoText, col_NoText, dd_NoText, k0_NoText, k1_NoText, k2_NoText, k3_NoText, k5_NoText, oc_NoText⟩, by simp, by simp, by simp, by simp⟩, in_NoText, fn0, kc_NoText⟩,
    PySem.W.mg_of X G ac_NoSign,
    ⟨⟨nm_NoSign, q_NoSign, N_NoSign, bs_NoSign, sn_NoSign, sub_NoSign, ab_NoSign, col_NoSign, dd_NoSign, k0_NoSign, k1_NoSign, k2_NoSign, k3_NoSign, k5_NoSign, oc_NoSign⟩, by simp, by simp, by simp, by simp⟩,
    ⟨[.ref k_TrailError], by simp, rfl⟩,
    ⟨ga_NoSign, gx_NoSign, sa_NoSign⟩,
    na_NoSign_row,
    na_NoSign_ring,
    na_NoSign_word,
    ⟨⟨⟨nm_NoSign, q_NoSign, N_NoSign, bs_NoSign, sn_NoSign, sub_NoSign, ab_NoSign, col_NoSign, dd_NoSign, k0_NoSign, k1_NoSign, k2_NoSign, k3_NoSign, k5_NoSign, oc_NoSign⟩, by simp, by simp, by simp, by simp⟩, in_NoSign, fn0, kc_NoSign⟩,
    PySem.W.mg_of X G ac_NoRule,
    ⟨⟨nm_NoRule, q_NoRule, N_NoRule, bs_NoRule, sn_NoRule, sub_NoRule, ab_NoRule, col_NoRule, dd_NoRule, k0_NoRule, k1_NoRule, k2_NoRule, k3_NoRule, k5_NoRule, oc_NoRule⟩, by simp, by simp, by simp, by simp⟩,
    ⟨[.ref k_TrailError], by simp, rfl⟩,
    ⟨ga_NoRule, gx_NoRule, sa_NoRule⟩,
    na_NoRule_row,
    na_NoRule_ring,
    na_NoRule_word,
    ⟨⟨⟨nm_NoRule, q_NoRule, N_NoRule, bs_NoRule, sn_NoRule, sub_NoRule, ab_NoRule, col_NoRule, dd_NoRule, k0_NoRule, k1_NoRule, k2_NoRule, k3_NoRule, k5_NoRule, oc_NoRule⟩, by simp, by simp, by simp, by simp⟩, in_NoRule, fn0, kc_NoRule⟩,
    ⟨ja_NoRule, jn_NoRule, jt_NoRule, jm_NoRule⟩,
    iz_NoRule_NoText,
    iz_NoRule_NoSign,
    iz_NoRule_Big,
    iz_NoRule_HasKeep,
    iz_NoRule_NotLayered,
    iz_NoRule_Fault,
    iz_NoRule_NoRule,
    iz_NoRule_ValueError,
    PySem.W.mg_of X G ac_Big,
    ⟨⟨nm_Big, q_Big, N_Big, bs_Big, sn_Big, sub_Big, ab_Big, col_Big, dd_Big, k0_Big, k1_Big, k2_Big, k3_Big, k5_Big, oc_Big⟩, by simp, by simp, by simp, by simp⟩,
    ⟨[.ref k_TrailError], by simp, rfl⟩,
    ⟨ga_Big, gx_Big, sa_Big⟩,
    na_Big_row,
    na_Big_ring,
    na_Big_word,
    ⟨⟨⟨nm_Big, q_Big, N_Big, bs_Big, sn_Big, sub_Big, ab_Big, col_Big, dd_Big, k0_Big, k1_Big, k2_Big, k3_Big, k5_Big, oc_Big⟩, by simp, by simp, by simp, by simp⟩, in_Big, fn0, kc_Big⟩,
    PySem.W.mg_of X G ac_HasKeep,
    ⟨⟨nm_HasKeep, q_HasKeep, N_HasKeep, bs_HasKeep, sn_HasKeep, sub_HasKeep, ab_HasKeep, col_HasKeep, dd_HasKeep, k0_HasKeep, k1_HasKeep, k2_HasKeep, k3_HasKeep, k5_HasKeep, oc_HasKeep⟩, by simp, by simp, by simp, by simp⟩,
    ⟨[.ref k_TrailError], by simp, rfl⟩,
    ⟨ga_HasKeep, gx_HasKeep, sa_HasKeep⟩,
    na_HasKeep_row,
    na_HasKeep_ring,
    na_HasKeep_word,
    ⟨⟨⟨nm_HasKeep, q_HasKeep, N_HasKeep, bs_HasKeep, sn_HasKeep, sub_HasKeep, ab_HasKeep, col_HasKeep, dd_HasKeep, k0_HasKeep, k1_HasKeep, k2_HasKeep, k3_HasKeep, k5_HasKeep, oc_HasKeep⟩, by simp, by simp, by simp, by simp⟩, in_HasKeep, fn0, kc_HasKeep⟩,
    PySem.W.mg_of X G ac_NotLayered,
    ⟨⟨nm_NotLayered, q_NotLayered, N_NotLayered, bs_NotLayered, sn_NotLayered, sub_NotLayered, ab_NotLayered, col_NotLayered, dd_NotLayered, k0_NotLayered, k1_NotLayered, k2_NotLayered, k3_NotLayered, k5_NotLayered, oc_NotLayered⟩, by simp, by simp, by simp, by simp⟩,
    ⟨[.ref k_TrailError], by simp, rfl⟩,
    ⟨ga_NotLayered, gx_NotLayered, sa_NotLayered⟩,
    na_NotLayered_row,
    na_NotLayered_ring,
    na_NotLayered_word,
    ⟨⟨⟨nm_NotLayered, q_NotLayered, N_NotLayered, bs_NotLayered, sn_NotLayered, sub_NotLayered, ab_NotLayered, col_NotLayered, dd_NotLayered, k0_NotLayered, k1_NotLayered, k2_NotLayered, k3_NotLayered, k5_NotLayered, oc_NotLayered⟩, by simp, by simp, by simp, by simp⟩, in_NotLayered, fn1, kc_NotLayered⟩,
    PySem.W.mg_of X G ac_Fault,
    ⟨⟨nm_Fault, q_Fault, N_Fault, bs_Fault, sn_Fault, sub_Fault, ab_Fault, col_Fault, dd_Fault, k0_Fault, k1_Fault, k2_Fault, k3_Fault, k5_Fault, oc_Fault⟩, by simp, by simp, by simp, by simp⟩,
    ⟨[.ref k_TrailError], by simp, rfl⟩,
    ⟨ga_Fault, gx_Fault, sa_Fault⟩,
    na_Fault_row,
    na_Fault_ring,
    na_Fault_word,
    ⟨⟨⟨nm_Fault, q_Fault, N_Fault, bs_Fault, sn_Fault, sub_Fault, ab_Fault, col_Fault, dd_Fault, k0_Fault, k1_Fault, k2_Fault, k3_Fault, k5_Fault, oc_Fault⟩, by simp, by simp, by simp, by simp⟩, in_Fault, fn2, kc_Fault⟩,
    F0,
    fun s us KX hl => match us, hl with | [_, _, _], _ => .of_defaults (T := v0) rfl (KX _ _ v0_) rfl rfl rfl,
    fun s us KX hl => match us, (show us.length = 2 by simpa using hl) with | [_, _], _ => .of_defaults (T := v0) rfl (KX _ _ v0_) rfl rfl rfl,
    F1,
    fun s us KX hl => match us, hl with | [_, _, _], _ => .of_defaults (T := v1) rfl (KX _ _ v1_) rfl rfl rfl,
    fun s us KX hl => match us, (show us.length = 2 by simpa using hl) with | [_, _], _ => .of_defaults (T := v1) rfl (KX _ _ v1_) rfl rfl rfl,
    F2,
    fun s us KX hl => match us, hl with | [_, _, _], _ => .of_defaults (T := v2) rfl (KX _ _ v2_) rfl rfl rfl,
    fun s us KX hl => match us, (show us.length = 2 by simpa using hl) with | [_, _], _ => .of_defaults (T := v2) rfl (KX _ _ v2_) rfl rfl rfl,
    F3,
    F3.binds (ps := ["term"]) (fun _ _ _ _ _ _ us hl => match us, hl with | [_], _ => rfl),
    PySem.W.mg_of X G a3,
    F4,
    F4.binds (ps := ["sign"]) (fun _ _ _ _ _ _ us hl => match us, hl with | [_], _ => rfl),
    PySem.W.mg_of X G a4,
    F5,
    F5.binds (ps := ["text", "firsts"]) (fun _ _ _ _ _ _ us hl => match us, hl with | [_, _], _ => rfl),
    PySem.W.mg_of X G a5,
    F6,
    F6.binds (ps := ["text"]) (fun _ _ _ _ _ _ us hl => match us, hl with | [_], _ => rfl),
    PySem.W.mg_of X G a6,
    F7,
    F7.binds (ps := ["term"]) (fun _ _ _ _ _ _ us hl => match us, hl with | [_], _ => rfl),
    PySem.W.mg_of X G a7,
    F8,
    F8.binds (ps := ["term"]) (fun _ _ _ _ _ _ us hl => match us, hl with | [_], _ => rfl),
    PySem.W.mg_of X G a8,
    F9,
    F9.binds (ps := ["term"]) (fun _ _ _ _ _ _ us hl => match us, hl with | [_], _ => rfl),
    PySem.W.mg_of X G a9,
    F10,
    F10.binds (ps := ["goals"]) (fun _ _ _ _ _ _ us hl => match us, hl with | [_], _ => rfl),
    PySem.W.mg_of X G a10,
    F11,
    F11.binds (ps := ["head", "goals"]) (fun _ _ _ _ _ _ us hl => match us, hl with | [_, _], _ => rfl),
    PySem.W.mg_of X G a11,
    F12,
    F12.binds (ps := ["goals"]) (fun _ _ _ _ _ _ us hl => match us, hl with | [_], _ => rfl),
    PySem.W.mg_of X G a12,
    F13,
    F13.binds (ps := ["_law_script", "_law_k"]) (fun _ _ _ _ _ _ us hl => match us, hl with | [_, _], _ => rfl),
    PySem.W.mg_of X G a13,
    F14,
    F14.binds (ps := ["_law_cell"]) (fun _ _ _ _ _ _ us hl => match us, hl with | [_], _ => rfl),
    PySem.W.mg_of X G a14,
    F15,
    F15.binds (ps := ["_law_size_here", "_law_word"]) (fun _ _ _ _ _ _ us hl => match us, hl with | [_, _], _ => rfl),
    PySem.W.mg_of X G a15,
    F16,
    F16.binds (ps := ["_law_kind", "_law_words_here", "_law_size_here"]) (fun _ _ _ _ _ _ us hl => match us, hl with | [_, _, _], _ => rfl),
    PySem.W.mg_of X G a16,
    F17,
    F17.binds (ps := ["_law_term_here"]) (fun _ _ _ _ _ _ us hl => match us, hl with | [_], _ => rfl),
    PySem.W.mg_of X G a17,
    F18,
    F18.binds (ps := ["_law_found", "_law_due"]) (fun _ _ _ _ _ _ us hl => match us, hl with | [_, _], _ => rfl),
    PySem.W.mg_of X G a18,
    F19,
    F19.binds (ps := ["_law_e"]) (fun _ _ _ _ _ _ us hl => match us, hl with | [_], _ => rfl),
    PySem.W.mg_of X G a19,
    F20,
    F20.binds (ps := ["_law_head", "_law_goals", "_law_good"]) (fun _ _ _ _ _ _ us hl => match us, hl with | [_, _, _], _ => rfl),
    PySem.W.mg_of X G a20,
    F21,
    F21.binds (ps := ["_law_goals", "_law_good"]) (fun _ _ _ _ _ _ us hl => match us, hl with | [_, _], _ => rfl),
    PySem.W.mg_of X G a21,
    F22,
    F22.binds (ps := ["_law_script"]) (fun _ _ _ _ _ _ us hl => match us, hl with | [_], _ => rfl),
    PySem.W.mg_of X G a22,
    PySem.W.mg_none_of X G z0,
    PySem.W.mg_none_of X G z1,
    PySem.W.mg_none_of X G z2,
    PySem.W.mg_none_of X G z3,
    PySem.W.mg_none_of X G z4,
    PySem.W.mg_none_of X G z5,
    PySem.W.mg_none_of X G z6,
    PySem.W.mg_none_of X G z7,
    PySem.W.mg_none_of X G z8,
    PySem.W.mg_none_of X G z9,
    PySem.W.mg_none_of X G z10,
    PySem.W.mg_none_of X G z11,
    PySem.W.mg_of X G y0,
    PySem.W.mg_of X G y1,
    PySem.W.mg_of X G y2,
    PySem.W.mg_of X G y3,
    PySem.W.mg_of X G y4,
    PySem.W.mg_of X G y5,
    PySem.W.mg_of X G y6,
    fun _ => .inr ⟨_, _, _, y6_0, rfl, rfl, ln (by simp), (.cons ⟨_, rfl⟩ (.cons ⟨_, rfl⟩ (.cons ⟨_, rfl⟩ (.cons ⟨_, rfl⟩ .nil))))⟩,
    PySem.W.mg_of X G y7,
    PySem.W.mg_of X G y8⟩, fun s u => .of_eq rfl⟩
theorem walk {l : PySem.W.OpenLaw} {q : Program} {loose : List Str} {XP : (Str → Option Value) → Heap → Prop} {YP : World → Heap → Prop} {d : DefRec} {K : Params → PySem.W.Frag} (hn : l.most = some 63) (hdf : d.params.defaults = [])
    (hY : ∀ (w : World) (h : Heap), YP w h → (K w.params).In h)
    (F : ∀ (w : World) (mg : Str → Option Value) (fa : Addr) (h : Heap), (K w.params).In h → h.Ns mainGlobals mg → mg d.name = some (.ref fa) →
      ∃ fd : FuncData, (∀ (s : Shared) (u : Value), BindsTo s fd ⟨[u], []⟩ [("_law_script", u)]) ∧ ∀ base : Heap, (K w.params).In base → base.Ns mainGlobals mg → FnOk l.prog w (K w.params) mg base CX0 62 fa fd ["_law_script"] (sp_law (K w.params))) :
    PySem.W.WalkO q loose XP YP l.row.toRowW d [] (fun f vs => PySem.call f vs) :=
  L2.walk_of (n := 63) (k := 62) (x := "_law_script") (CX := fun _ => CX0) (sp := fun w => sp_law (K w.params)) hn (by decide) hdf ⟨rfl, by decide, by decide⟩ hY F (fun _ _ a ns hl hO hS => ⟨ns, hS, hl, fun _ => rfl⟩) fun _ _ _ _ _ z => z
end My
open PySem PySem.W PyProof.Rows
set_option maxRecDepth 100000 in
set_option maxHeartbeats 0 in
theorem PySem.Challenge.cw_goaltrail_k30_goals_and_rules_holds : PySem.Challenge.rw_goaltrail_k30_goals_and_rules.Holds := by
  w_on; o_law; k_head; (case hw => w_witness2)
  k_fill
  refine My.walk (l := PySem.Challenge.rw_goaltrail_k30_goals_and_rules) rfl rfl (fun w h Y => PySem.W.kIn_of Y) ?F
  case F =>
    intro w mg fa h KX G hmg
    have TT : ∃ t : My.Ad, My.Txt (L2.KOf KX) mg t ∧ ∀ (s : Shared) (u : Value), BindsTo s t.d_law ⟨[u], []⟩ [("_law_script", u)] := by
      dsimp only [L2.KOf]
      refine' My.txt_mk KX G ?ac_TrailError ?oc_TrailError ?ga_TrailError ?gx_TrailError ?sa_TrailError ?na_TrailError_row ?na_TrailError_ring ?na_TrailError_word ?in_TrailError ?kc_TrailError ?gm_TrailError ?rm_TrailError ?tm_TrailError ?ac_NoText ?oc_NoText ?ga_NoText ?gx_NoText ?sa_NoText ?na_NoText_row ?na_NoText_ring ?na_NoText_word ?in_NoText ?kc_NoText ?ac_NoSign ?oc_NoSign ?ga_NoSign ?gx_NoSign ?sa_NoSign ?na_NoSign_row ?na_NoSign_ring ?na_NoSign_word ?in_NoSign ?kc_NoSign ?ac_NoRule ?oc_NoRule ?ga_NoRule ?gx_NoRule ?sa_NoRule ?na_NoRule_row ?na_NoRule_ring ?na_NoRule_word ?in_NoRule ?kc_NoRule ?ja_NoRule ?jn_NoRule ?jt_NoRule ?jm_NoRule ?ac_Big ?oc_Big ?ga_Big ?gx_Big ?sa_Big ?na_Big_row ?na_Big_ring ?na_Big_word ?in_Big ?kc_Big ?ac_HasKeep ?oc_HasKeep ?ga_HasKeep ?gx_HasKeep ?sa_HasKeep ?na_HasKeep_row ?na_HasKeep_ring ?na_HasKeep_word ?in_HasKeep ?kc_HasKeep ?ac_NotLayered ?oc_NotLayered ?ga_NotLayered ?gx_NotLayered ?sa_NotLayered ?na_NotLayered_row ?na_NotLayered_ring ?na_NotLayered_word ?in_NotLayered ?kc_NotLayered ?ac_Fault ?oc_Fault ?ga_Fault ?gx_Fault ?sa_Fault ?na_Fault_row ?na_Fault_ring ?na_Fault_word ?in_Fault ?kc_Fault ?iz_NoRule_NoText ?iz_NoRule_NoSign ?iz_NoRule_Big ?iz_NoRule_HasKeep ?iz_NoRule_NotLayered ?iz_NoRule_Fault ?iz_NoRule_NoRule ?iz_NoRule_ValueError ?l0 ?c0 ?k0 ?v0_ ?fn0 ?l1 ?c1 ?k1 ?v1_ ?fn1 ?l2 ?c2 ?k2 ?v2_ ?fn2 ?a3 ?l3 ?c3 ?k3 ?a4 ?l4 ?c4 ?k4 ?a5 ?l5 ?c5 ?k5 ?a6 ?l6 ?c6 ?k6 ?a7 ?l7 ?c7 ?k7 ?a8 ?l8 ?c8 ?k8 ?a9 ?l9 ?c9 ?k9 ?a10 ?l10 ?c10 ?k10 ?a11 ?l11 ?c11 ?k11 ?a12 ?l12 ?c12 ?k12 ?a13 ?l13 ?c13 ?k13 ?a14 ?l14 ?c14 ?k14 ?a15 ?l15 ?c15 ?k15 ?a16 ?l16 ?c16 ?k16 ?a17 ?l17 ?c17 ?k17 ?a18 ?l18 ?c18 ?k18 ?a19 ?l19 ?c19 ?k19 ?a20 ?l20 ?c20 ?k20 ?a21 ?l21 ?c21 ?k21 ?a22 ?l22 ?c22 ?k22 ?z0 ?z1 ?z2 ?z3 ?z4 ?z5 ?z6 ?z7 ?z8 ?z9 ?z10 ?z11 ?y0 ?y1 ?y2 ?y3 ?y4 ?y5 ?y6 ?y6_0 ?y7 ?y8
      (case ac_TrailError => k_is)
      (case oc_TrailError => k_is)
      (case ga_TrailError => k_is)
      (case gx_TrailError => k_is)
      (case sa_TrailError => k_is)
      (case na_TrailError_row => k_is)
      (case na_TrailError_ring => k_is)
      (case na_TrailError_word => k_is)
      (case in_TrailError => k_is)
      (case kc_TrailError => k_is)
      (case gm_TrailError => k_is)
      (case rm_TrailError => k_is)
      (case tm_TrailError => k_is)
      (case ac_NoText => k_is)
      (case oc_NoText => k_is)
      (case ga_NoText => k_is)
      (case gx_NoText => k_is)
      (case sa_NoText => k_is)
      (case na_NoText_row => k_is)
      (case na_NoText_ring => k_is)
      (case na_NoText_word => k_is)
      (case in_NoText => k_is)
      (case kc_NoText => k_is)
      (case ac_NoSign => k_is)
      (case oc_NoSign => k_is)
      (case ga_NoSign => k_is)
      (case gx_NoSign => k_is)
      (case sa_NoSign => k_is)
      (case na_NoSign_row => k_is)
      (case na_NoSign_ring => k_is)
      (case na_NoSign_word => k_is)
      (case in_NoSign => k_is)
      (case kc_NoSign => k_is)
      (case ac_NoRule => k_is)
      (case oc_NoRule => k_is)
      (case ga_NoRule => k_is)
      (case gx_NoRule => k_is)
      (case sa_NoRule => k_is)
      (case na_NoRule_row => k_is)
      (case na_NoRule_ring => k_is)
      (case na_NoRule_word => k_is)
      (case in_NoRule => k_is)
      (case kc_NoRule => k_is)
      (case ja_NoRule => k_is)
      (case jn_NoRule => k_is)
      (case jt_NoRule => k_is)
      (case jm_NoRule => k_is)
      (case ac_Big => k_is)
      (case oc_Big => k_is)
      (case ga_Big => k_is)
      (case gx_Big => k_is)
      (case sa_Big => k_is)
      (case na_Big_row => k_is)
      (case na_Big_ring => k_is)
      (case na_Big_word => k_is)
      (case in_Big => k_is)
      (case kc_Big => k_is)
      (case ac_HasKeep => k_is)
      (case oc_HasKeep => k_is)
      (case ga_HasKeep => k_is)
      (case gx_HasKeep => k_is)
      (case sa_HasKeep => k_is)
      (case na_HasKeep_row => k_is)
      (case na_HasKeep_ring => k_is)
      (case na_HasKeep_word => k_is)
      (case in_HasKeep => k_is)
      (case kc_HasKeep => k_is)
      (case ac_NotLayered => k_is)
      (case oc_NotLayered => k_is)
      (case ga_NotLayered => k_is)
      (case gx_NotLayered => k_is)
      (case sa_NotLayered => k_is)
      (case na_NotLayered_row => k_is)
      (case na_NotLayered_ring => k_is)
      (case na_NotLayered_word => k_is)
      (case in_NotLayered => k_is)
      (case kc_NotLayered => k_is)
      (case ac_Fault => k_is)
      (case oc_Fault => k_is)
      (case ga_Fault => k_is)
      (case gx_Fault => k_is)
      (case sa_Fault => k_is)
      (case na_Fault_row => k_is)
      (case na_Fault_ring => k_is)
      (case na_Fault_word => k_is)
      (case in_Fault => k_is)
      (case kc_Fault => k_is)
      (case iz_NoRule_NoText => kit_is)
      (case iz_NoRule_NoSign => kit_is)
      (case iz_NoRule_Big => kit_is)
      (case iz_NoRule_HasKeep => kit_is)
      (case iz_NoRule_NotLayered => kit_is)
      (case iz_NoRule_Fault => kit_is)
      (case iz_NoRule_NoRule => kit_is)
      (case iz_NoRule_ValueError => kit_is)
      (case l0 => k_is)
      (case c0 => k_is)
      (case k0 => k_is)
      (case v0_ => k_is)
      (case fn0 => k_is)
      (case l1 => k_is)
      (case c1 => k_is)
      (case k1 => k_is)
      (case v1_ => k_is)
      (case fn1 => k_is)
      (case l2 => k_is)
      (case c2 => k_is)
      (case k2 => k_is)
      (case v2_ => k_is)
      (case fn2 => k_is)
      (case a3 => k_is)
      (case l3 => k_is)
      (case c3 => k_is)
      (case k3 => k_is)
      (case a4 => k_is)
      (case l4 => k_is)
      (case c4 => k_is)
      (case k4 => k_is)
      (case a5 => k_is)
      (case l5 => k_is)
      (case c5 => k_is)
      (case k5 => k_is)
      (case a6 => k_is)
      (case l6 => k_is)
      (case c6 => k_is)
      (case k6 => k_is)
      (case a7 => k_is)
      (case l7 => k_is)
      (case c7 => k_is)
      (case k7 => k_is)
      (case a8 => k_is)
      (case l8 => k_is)
      (case c8 => k_is)
      (case k8 => k_is)
      (case a9 => k_is)
      (case l9 => k_is)
      (case c9 => k_is)
      (case k9 => k_is)
      (case a10 => k_is)
      (case l10 => k_is)
      (case c10 => k_is)
      (case k10 => k_is)
      (case a11 => k_is)
      (case l11 => k_is)
      (case c11 => k_is)
      (case k11 => k_is)
      (case a12 => k_is)
      (case l12 => k_is)
      (case c12 => k_is)
      (case k12 => k_is)
      (case a13 => k_is)
      (case l13 => k_is)
      (case c13 => k_is)
      (case k13 => k_is)
      (case a14 => k_is)
      (case l14 => k_is)
      (case c14 => k_is)
      (case k14 => k_is)
      (case a15 => k_is)
      (case l15 => k_is)
      (case c15 => k_is)
      (case k15 => k_is)
      (case a16 => k_is)
      (case l16 => k_is)
      (case c16 => k_is)
      (case k16 => k_is)
      (case a17 => k_is)
      (case l17 => k_is)
      (case c17 => k_is)
      (case k17 => k_is)
      (case a18 => k_is)
      (case l18 => k_is)
      (case c18 => k_is)
      (case k18 => k_is)
      (case a19 => k_is)
      (case l19 => k_is)
      (case c19 => k_is)
      (case k19 => k_is)
      (case a20 => k_is)
      (case l20 => k_is)
      (case c20 => k_is)
      (case k20 => k_is)
      (case a21 => k_is)
      (case l21 => k_is)
      (case c21 => k_is)
      (case k21 => k_is)
      (case a22 => k_is)
      (case l22 => k_is)
      (case c22 => k_is)
      (case k22 => k_is)
      (case z0 => k_is)
      (case z1 => k_is)
      (case z2 => k_is)
      (case z3 => k_is)
      (case z4 => k_is)
      (case z5 => k_is)
      (case z6 => k_is)
      (case z7 => k_is)
      (case z8 => k_is)
      (case z9 => k_is)
      (case z10 => k_is)
      (case z11 => k_is)
      (case y0 => k_is)
      (case y1 => k_is)
      (case y2 => k_is)
      (case y3 => k_is)
      (case y4 => k_is)
      (case y5 => k_is)
      (case y6 => k_is)
      (case y6_0 => k_is)
      (case y7 => k_is)
      (case y8 => k_is)
    obtain ⟨t, T, e1⟩ := TT
    have e0 := hmg.symm.trans T.m_law
    cases e0
    exact ⟨t.d_law, e1, fun base kb nb => My.ok_all T⟩
