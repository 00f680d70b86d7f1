import PyProof.Rows.All
import Wide.All
import OpenK.AllK
import Wide.FinOn
import Lean
import PyProof.EqAt
import PyProof.EqKinds
import PyProof.TupleCall
import PyProof.ExcInit
import PyProof.ExcClass2
import PyProof.InstStoreFacts
import OpenK.KOwn
import PyProof.RulesAs
import PyProof.ExcAttrAll.ValueError
import KE.KIsAll
import KE.KRevSl
import KE.KRevIter
import PyProof.Rows.SortRuns
import PySem.SetTable
import PySem.SetOps
import PyProof.TupleKey
import PyProof.SetKind
import PyProof.Rows.SetObj
import KE.KDictSum
import PySem.Challenge.RW_digbook_k04_letters_and_meetings
set_option Elab.async false
set_option linter.all false
set_option maxRecDepth 100000
namespace L2
open PySem PySem.Spec PyProof.Rows

/-- a key: an int or a str -/
noncomputable abbrev Key := Sum Int Str
noncomputable def keyIs : Key → Value → Bool
  | .inl k, v => Value.isInt k v
  | .inr x, v => Value.isStrOf x v
noncomputable def keyH (w : World) : Key → Int
  | .inl k => hashInt k
  | .inr x => hashStr w x
theorem keyIs_shape : ∀ {k : Key} {v : Value}, keyIs k v = true → (∃ i t, k = Sum.inl i ∧ v = Value.int i t) ∨ (∃ x t, k = Sum.inr x ∧ v = Value.str x t)
  | .inl i, v, h => by
    obtain ⟨t, e⟩ := Value.isInt_shape (k := i) (v := v) h
    exact .inl ⟨i, t, rfl, e⟩
  | .inr x, v, h => by
    obtain ⟨t, e⟩ := Value.isStrOf_shape (x := x) (v := v) h
    exact .inr ⟨x, t, rfl, e⟩
theorem keyIs_int (i : Int) (t : Tok) : keyIs (.inl i) (.int i t) = true := by simp [keyIs, Value.isInt]
theorem keyIs_str (x : Str) (t : Tok) : keyIs (.inr x) (.str x t) = true := by simp [keyIs, Value.isStrOf]
theorem key_ll (a b : Int) : decide ((Sum.inl a : Key) = Sum.inl b) = (a == b) := by
  by_cases e : a = b
  · subst e; simp
  · have h : ¬ (Sum.inl a : Key) = Sum.inl b := fun q => e (Sum.inl.inj q)
    rw [decide_eq_false h]
    exact (beq_eq_false_iff_ne.mpr e).symm
theorem key_rr (a b : Str) : decide ((Sum.inr a : Key) = Sum.inr b) = decide (a = b) := by
  by_cases e : a = b
  · subst e; simp
  · have h : ¬ (Sum.inr a : Key) = Sum.inr b := fun q => e (Sum.inr.inj q)
    rw [decide_eq_false h, decide_eq_false e]
theorem key_lr (a : Int) (b : Str) : decide ((Sum.inl a : Key) = Sum.inr b) = false := decide_eq_false (fun q => nomatch q)
theorem key_rl (a : Str) (b : Int) : decide ((Sum.inr a : Key) = Sum.inl b) = false := decide_eq_false (fun q => nomatch q)

noncomputable def mixKind (prog : Program) (w : World) : PySem.KeyKind prog w Key where
  is := keyIs
  hash := keyH w
  inj := fun v a b ha hb => by
    rcases keyIs_shape ha with ⟨i, t, rfl, rfl⟩ | ⟨x, t, rfl, rfl⟩
    · rcases keyIs_shape hb with ⟨j, u, rfl, e⟩ | ⟨y, u, rfl, e⟩
      · injection e with e1 _; rw [e1]
      · exact nomatch e
    · rcases keyIs_shape hb with ⟨j, u, rfl, e⟩ | ⟨y, u, rfl, e⟩
      · exact nomatch e
      · injection e with e1 _; rw [e1]
  byValue := fun k v h => by
    rcases keyIs_shape h with ⟨i, t, rfl, rfl⟩ | ⟨x, t, rfl, rfl⟩ <;> rfl
  pyHash := fun hv h => by
    rcases keyIs_shape hv with ⟨i, t, rfl, rfl⟩ | ⟨x, t, rfl, rfl⟩
    · exact wpAny_pyHash_int h
    · exact wpAny_pyHash_str h
  eqBool := fun hu hv h => by
    rcases keyIs_shape hu with ⟨i, t, rfl, rfl⟩ | ⟨x, t, rfl, rfl⟩
    · rcases keyIs_shape hv with ⟨j, u, rfl, rfl⟩ | ⟨y, u, rfl, rfl⟩
      · rw [key_ll] at h; exact wpAny_eqBool_int h
      · rw [key_lr] at h; exact SeqAt.EqAt.int_str i t y u _ _ _ _ h
    · rcases keyIs_shape hv with ⟨j, u, rfl, rfl⟩ | ⟨y, u, rfl, rfl⟩
      · rw [key_rl] at h; exact SeqAt.EqAt.str_int x t j u _ _ _ _ h
      · rw [key_rr] at h; exact wpAny_eqBool_str h
  «strs» := fun k x t v h => by
    rcases keyIs_shape h with ⟨i, u, rfl, e⟩ | ⟨y, u, rfl, e⟩
    · exact nomatch e
    · injection e with e1 _
      subst e1
      cases v <;> rfl

theorem mixKind_int (prog : Program) (w : World) (i : Int) (t : Tok) : (mixKind prog w).is (.inl i) (.int i t) = true := keyIs_int i t
theorem mixKind_str (prog : Program) (w : World) (x : Str) (t : Tok) : (mixKind prog w).is (.inr x) (.str x t) = true := keyIs_str x t
end L2

namespace L2
open PySem PySem.Spec PyProof.Rows

/-- a value, without the heap -/
inductive V where
  | non | bl (b : Bool) | int (i : Int) | str (x : Str) | byt (b : Array UInt8) | flt (b : UInt64) | ref (a : Addr) | ty (n : String)
  deriving DecidableEq

noncomputable def RelV : V → Value → Prop
  | .non, u => u = Value.none
  | .bl b, u => u = Value.bool b
  | .int i, u => ∃ t, u = Value.int i t
  | .str x, u => ∃ t, u = Value.str x t
  | .byt b, u => ∃ t, u = Value.bytes b t
  | .flt b, u => ∃ t, u = Value.float b t
  | .ref a, u => u = Value.ref a
  | .ty n, u => u = Value.type n

noncomputable abbrev Vals : List V → List Value → Prop := Paired RelV
theorem Vals.length {xs : List V} {us : List Value} (r : Vals xs us) : xs.length = us.length := Paired.length r
theorem Vals.get : ∀ {xs : List V} {us : List Value} {i : Nat} {x : V}, Vals xs us → xs[i]? = some x → ∃ u, us[i]? = some u ∧ RelV x u
  | _, _, _, _, .nil, e => by simp at e
  | _, _, 0, _, .cons r _, e => by simp at e; subst e; exact ⟨_, rfl, r⟩
  | _, _, i + 1, x, .cons _ t, e => by
    obtain ⟨u, h1, h2⟩ := Vals.get (i := i) (x := x) t (by simpa using e)
    exact ⟨u, by simpa using h1, h2⟩
theorem Vals.set {x : V} {u : Value} (r : RelV x u) : ∀ {xs : List V} {us : List Value} (i : Nat), Vals xs us → Vals (xs.set i x) (us.set i u)
  | _, _, _, .nil => .nil
  | _, _, 0, .cons _ t => .cons r t
  | _, _, i + 1, .cons q t => .cons q (Vals.set r i t)
theorem Vals.append : ∀ {xs ys : List V} {us ws : List Value}, Vals xs us → Vals ys ws → Vals (xs ++ ys) (us ++ ws)
  | _, _, _, _, .nil, s => s
  | _, _, _, _, .cons r t, s => .cons r (Vals.append t s)
theorem Vals.take : ∀ {xs : List V} {us : List Value} (n : Nat), Vals xs us → Vals (xs.take n) (us.take n)
  | _, _, 0, _ => .nil
  | _, _, _ + 1, .nil => .nil
  | _, _, n + 1, .cons r t => .cons r (Vals.take n t)
theorem Vals.drop : ∀ {xs : List V} {us : List Value} (n : Nat), Vals xs us → Vals (xs.drop n) (us.drop n)
  | _, _, 0, r => r
  | _, _, _ + 1, .nil => .nil
  | _, _, n + 1, .cons _ t => Vals.drop n t
noncomputable def RelO : Option V → Option Value → Prop
  | some v, some u => RelV v u
  | none, none => True
  | _, _ => False
noncomputable def KV {κ : Type} : List (κ × V) → List (κ × Value) → Prop := Paired fun (p : κ × V) (q : κ × Value) => p.1 = q.1 ∧ RelV p.2 q.2

/-- a key of a dict (00_mix): an int or a text -/
noncomputable def kV : Key → V
  | .inl i => .int i
  | .inr x => .str x

/-- what stands at a tracked address -/
inductive HO where
  /-- a list -/
  | lst (xs : List V)
  /-- a tuple (never changes) -/
  | tup (xs : List V)
  /-- a dict whose keys are ints and texts; one whose keys are tuples of ints and texts (the empty one is both) -/
  | dK (kvs : List (Key × V)) | dT (kvs : List (List Key × V))
  /-- a set of ints: its members, its size -/
  | set (S : Int → Bool) (n : Nat)
  /-- an instance of the class at C, its dict at dx, its attributes -/
  | ins (C dx : Addr) (fs : List (Str × V))
  /-- the dict of the instance at x -/
  | own (x : Addr)
  /-- the dict of an exception -/
  | xd (fs : List (Str × V))
  /-- a bound method, f of x -/
  | met (f x : Addr)
  /-- a range object lo, lo + 1, .. below hi -/
  | rng (lo hi : Int)
  /-- a thing that is known to the object (the script; a dict while a loop walks it): read, never written while it is so -/
  | frz (o : Obj) (u : HO)
  /-- a code object's table -/
  | tbl (ps : Array Value)
  /-- any other thing, by what is true of its one object (a def of one's own: SetO a S n := HO.ext fun h => ..) -/
  | ext (φ : Heap → Prop)

noncomputable abbrev Hp := Addr → Option HO
noncomputable def upd (H : Hp) (a : Addr) (o : HO) : Hp := fun b => if b = a then some o else H b
theorem upd_same {H : Hp} {a : Addr} {o : HO} : upd H a o a = some o := by unfold upd; rw [if_pos rfl]
theorem upd_ne {H : Hp} {a b : Addr} {o : HO} (h : b ≠ a) : upd H a o b = H b := by unfold upd; rw [if_neg h]
/-- two objects of different content stand apart -/
theorem ne_of {H : Hp} {a b : Addr} {o u : HO} (h : H a = some o) (h' : H b = some u) (d : o ≠ u) : a ≠ b := by
  intro e; subst e; rw [h] at h'; exact d (Option.some.inj h')
theorem ne_of_none {H : Hp} {a b : Addr} {o : HO} (h : H a = some o) (h' : H b = none) : a ≠ b := by
  intro e; subst e; rw [h] at h'; cases h'

section
variable (P : Program) (w : World)
noncomputable def ObjOk (H : Hp) (h : Heap) (a : Addr) : HO → Prop
  | .lst xs => xs.length ≤ sizeLine ∧ ∃ (its : List Value) (n : Nat), Vals xs its ∧ h.get? a = some { cls := .type "list", data := .seq its.toArray n }
  | .tup xs => xs.length ≤ sizeLine ∧ ∃ its : List Value, Vals xs its ∧ IsTup h a its.toArray
  | .dK kvs => kvs.length ≤ sizeLine ∧ (a == sysModules) = false ∧ ∃ vs, KV kvs vs ∧ h.DictOf (mixKind P w) a vs
  | .dT kvs => kvs.length ≤ sizeLine ∧ (a == sysModules) = false ∧ ∃ xs : List (List Key × Addr × Value),
      Paired (fun (p : List Key × V) (q : List Key × Addr × Value) => p.1 = q.1 ∧ H q.2.1 = some (.tup (p.1.map kV)) ∧ RelV p.2 q.2.2) kvs xs ∧
      ∃ o es ep, h.get? a = some o ∧ o.ExactDict ∧ o.data = .dict es ep ∧ es.toList = xs.map (entryOfKey (tupleKind (mixKind P w))) ∧ (xs.map (·.1)).Nodup
  | .set S n => h.SetOf (intKind P w) a S n
  | .ins C dx fs => H dx = some (.own a) ∧ fs.length ≤ 1000 ∧ dx ≠ a ∧ h.get? a = some (PySem.W.instObj C dx) ∧
      ∃ mA, h.Ns1 dx mA ∧ (∀ f, RelO (fs.lookup f) (mA f)) ∧ PySem.Within mA (fs.map (·.1))
  | .own _ => ∃ o, h.get? a = some o
  | .xd fs => ∃ mA, h.Ns1 a mA ∧ ∀ f, RelO (fs.lookup f) (mA f)
  | .rng lo hi => ∃ t u v, h.get? a = some { cls := .type "range", data := .fields #[.int lo t, .int hi u, .int 1 v] }
  | .frz o u => h.get? a = some o ∧ ObjOk H h a u
  | .tbl ps => h.get? a = some { cls := .none, data := .fields ps }
  | .met f x => h.get? a = some (PySem.W.methodObj (.ref f) (.ref x))
  | .ext φ => φ h ∧ (∃ o, h.get? a = some o) ∧ ∀ h1 h2 : Heap, φ h1 → (∀ o, h1.get? a = some o → h2.get? a = some o) → φ h2
/-- the abstract heap is held -/
noncomputable def HOk (H : Hp) (h : Heap) : Prop := ∀ a o, H a = some o → ObjOk P w H h a o
end

section
variable {P : Program} {w : World} {H H' : Hp} {h h' : Heap} {a : Addr} {o : HO}
theorem ObjOk.lt (x : ObjOk P w H h a o) : a < h.objs.size := by
  cases o with
  | lst xs => obtain ⟨_, _, _, _, e⟩ := x; exact Heap.lt_size e
  | tup xs => obtain ⟨_, _, _, p⟩ := x; exact p.lt
  | dK kvs => obtain ⟨_, _, _, _, o, _, _, e, _⟩ := x; exact Heap.lt_size e
  | dT kvs => obtain ⟨_, _, _, _, o, _, _, e, _⟩ := x; exact Heap.lt_size e
  | set S n => obtain ⟨o, _, _, _, e, _⟩ := x; exact Heap.lt_size e
  | ins C dx fs => obtain ⟨_, _, _, e, _⟩ := x; exact Heap.lt_size e
  | own y => obtain ⟨_, e⟩ := x; exact Heap.lt_size e
  | xd fs => obtain ⟨_, ⟨_, _, _, e, _⟩, _⟩ := x; exact Heap.lt_size e
  | rng lo hi => obtain ⟨_, _, _, e⟩ := x; exact Heap.lt_size e
  | frz ob u => obtain ⟨e, _⟩ := x; exact Heap.lt_size e
  | tbl ps => exact Heap.lt_size (show h.get? a = some _ from x)
  | met f y => exact Heap.lt_size (show h.get? a = some _ from x)
  | ext φ => obtain ⟨_, ⟨_, e⟩, _⟩ := x; exact Heap.lt_size e
theorem Paired.mapP {α β : Type} {F G : α → β → Prop} : ∀ {l₁ : List α} {l₂ : List β}, Paired F l₁ l₂ → (∀ a b, F a b → G a b) → Paired G l₁ l₂
  | _, _, .nil, _ => .nil
  | _, _, .cons r t, f => .cons (f _ _ r) (Paired.mapP t f)
/-- what an object's description leans on: its own object, its own dict, the tuples -/
theorem ObjOk.stay (x : ObjOk P w H h a o) (k : ∀ b u, (b = a ∨ H b = some (.own a)) → h.get? b = some u → h'.get? b = some u)
    (ho : ∀ b, H b = some (.own a) → H' b = some (.own a)) (ht : ∀ b xs, H b = some (.tup xs) → H' b = some (.tup xs)) : ObjOk P w H' h' a o := by
  induction o with
  | lst xs => obtain ⟨z, its, n, r, e⟩ := x; exact ⟨z, its, n, r, k _ _ (.inl rfl) e⟩
  | tup xs => obtain ⟨z, its, r, ob, e, c⟩ := x; exact ⟨z, its, r, ob, k _ _ (.inl rfl) e, c⟩
  | dK kvs => obtain ⟨z, y, vs, r, ob, es, ep, e, c⟩ := x; exact ⟨z, y, vs, r, ob, es, ep, k _ _ (.inl rfl) e, c⟩
  | dT kvs =>
    obtain ⟨z, y, xs, r, ob, es, ep, e, c⟩ := x
    exact ⟨z, y, xs, Paired.mapP r fun p q z => ⟨z.1, ht _ _ z.2.1, z.2.2⟩, ob, es, ep, k _ _ (.inl rfl) e, c⟩
  | set S n => obtain ⟨ob, es, ep, t, e, c⟩ := x; exact ⟨ob, es, ep, t, k _ _ (.inl rfl) e, c⟩
  | ins C dx fs =>
    obtain ⟨d, z, ne, e, mA, ⟨od, es, ep, e2, c⟩, r⟩ := x
    exact ⟨ho _ d, z, ne, k _ _ (.inl rfl) e, mA, ⟨od, es, ep, k _ _ (.inr d) e2, c⟩, r⟩
  | own y => obtain ⟨ob, e⟩ := x; exact ⟨ob, k _ _ (.inl rfl) e⟩
  | xd fs => obtain ⟨mA, ⟨od, es, ep, e, c⟩, r⟩ := x; exact ⟨mA, ⟨od, es, ep, k _ _ (.inl rfl) e, c⟩, r⟩
  | rng lo hi => obtain ⟨t, u, v, e⟩ := x; exact ⟨t, u, v, k _ _ (.inl rfl) e⟩
  | frz ob u ih => obtain ⟨e, q⟩ := x; exact ⟨k _ _ (.inl rfl) e, ih q⟩
  | tbl ps =>
    have e : h.get? a = some { cls := .none, data := .fields ps } := x
    show h'.get? a = some { cls := .none, data := .fields ps }
    exact k a _ (.inl rfl) e
  | met f y =>
    have e : h.get? a = some (PySem.W.methodObj (.ref f) (.ref y)) := x
    show h'.get? a = some (PySem.W.methodObj (.ref f) (.ref y))
    exact k a _ (.inl rfl) e
  | ext φ => obtain ⟨p, ⟨o, e⟩, st⟩ := x; exact ⟨st _ _ p fun o q => k _ _ (.inl rfl) q, ⟨o, k _ _ (.inl rfl) e⟩, st⟩
theorem HOk.lt (x : HOk P w H h) (e : H a = some o) : a < h.objs.size := (x a o e).lt
theorem HOk.fresh (x : HOk P w H h) (e : h.objs.size ≤ a) : H a = none := by
  cases q : H a with
  | none => rfl
  | some u => exact absurd (Nat.lt_of_lt_of_le (x.lt q) e) (Nat.lt_irrefl _)
/-- every object of the heap is kept -/
theorem HOk.kept (x : HOk P w H h) (k : ∀ b u, h.get? b = some u → h'.get? b = some u) : HOk P w H h' := fun a o e =>
  (x a o e).stay (fun b u _ q => k b u q) (fun _ q => q) fun _ _ q => q
/-- a new object is laid and tracked -/
theorem HOk.laid (x : HOk P w H h) (k : ∀ b u, h.get? b = some u → h'.get? b = some u) (hp : h.objs.size ≤ a) (new : ObjOk P w (upd H a o) h' a o) : HOk P w (upd H a o) h' := fun b u e => by
  have hn := x.fresh hp
  by_cases hb : b = a
  · subst hb; rw [upd_same] at e; cases e; exact new
  · rw [upd_ne hb] at e
    exact (x b u e).stay (fun c v _ q => k c v q) (fun c q => by rw [upd_ne (ne_of_none q hn)]; exact q) fun c xs q => by rw [upd_ne (ne_of_none q hn)]; exact q
end

/-- what may be read as u: it is u, or a known u -/
noncomputable def Rd (H : Hp) (a : Addr) (u : HO) : Prop := H a = some u ∨ ∃ o, H a = some (.frz o u)
theorem Rd.ok {P : Program} {w : World} {H : Hp} {h : Heap} {a : Addr} {u : HO} (r : Rd H a u) (x : HOk P w H h) : ObjOk P w H h a u := by
  rcases r with r | ⟨o, r⟩
  · exact x a u r
  · obtain ⟨_, q⟩ := x a _ r
    exact q
/-- what may be written -/
noncomputable def Mut : Option HO → Prop
  | some (.lst _) => True
  | some (.dK _) => True
  | some (.dT _) => True
  | some (.set _ _) => True
  | some (.ins _ _ _) => True
  | some (.ext _) => True
  | _ => False
section
variable {P : Program} {w : World} {H : Hp} {h h' : Heap} {x e : Addr} {o' : HO}
/-- the object at e is changed: x itself, or the dict of the instance x -/
theorem HOk.write (ok : HOk P w H h) (mu : Mut (H x)) (he : e = x ∨ H e = some (.own x)) (k : ∀ b u, b ≠ e → h.get? b = some u → h'.get? b = some u) (heo : ∃ u, h'.get? e = some u)
    (new : ObjOk P w (upd H x o') h' x o') : HOk P w (upd H x o') h' := fun b u q => by
  have nown : ∀ c y, H c = some (.own y) → c ≠ x := fun c y r z => by subst z; rw [r] at mu; exact mu
  have ntup : ∀ c xs, H c = some (.tup xs) → c ≠ x := fun c xs r z => by subst z; rw [r] at mu; exact mu
  by_cases hb : b = x
  · subst hb; rw [upd_same] at q; cases q; exact new
  · rw [upd_ne hb] at q
    by_cases hbe : b = e
    · have q' : H b = some (.own x) := by
        rcases he with z | z
        · exact absurd (hbe.trans z) hb
        · rw [hbe]; exact z
      rw [q] at q'; cases q'
      obtain ⟨v, hv⟩ := heo
      exact ⟨v, by rw [hbe]; exact hv⟩
    · refine (ok b u q).stay (fun c v hc r => k c v ?_ r) (fun c r => by rw [upd_ne (nown c b r)]; exact r) fun c xs r => by rw [upd_ne (ntup c xs r)]; exact r
      rcases hc with rfl | hc
      · exact hbe
      · rintro rfl
        rcases he with z | z
        · exact nown c b hc z
        · rw [hc] at z; cases z; exact hb rfl
end

structure Un (fs ex : List Addr) (H H' : Hp) (h h' : Heap) : Prop where
  keep : ∀ b o, h.get? b = some o → H b = none → b ∉ fs → b ∉ ex → h'.get? b = some o
  slot : ∀ b o, h.get? b = some o → H b = none → b ∈ fs → b ∉ ex → ∃ sl, h'.get? b = some { o with slots := sl }
  free : ∀ b o, h.get? b = some o → H b = none → b ∉ ex → H' b = none
  there : ∀ b o, h.get? b = some o → b ∉ ex → ∃ o', h'.get? b = some o'
  tups : ∀ b xs, H b = some (.tup xs) → H' b = some (.tup xs)
  frzs : ∀ b o u, H b = some (.frz o u) → H' b = some (.frz o u)
  tbls : ∀ b ps, H b = some (.tbl ps) → ∃ more, H' b = some (.tbl (ps ++ more))
section
variable {fs fs' ex ex' : List Addr} {H H1 H2 : Hp} {h h1 h2 h' : Heap} {a x e : Addr} {o : HO}
theorem Un.any (u : Un fs ex H H1 h h1) {b : Addr} {ob : Obj} (q : h.get? b = some ob) (n : H b = none) (hx : b ∉ ex) : ∃ sl, h1.get? b = some { ob with slots := sl } := by
  by_cases hb : b ∈ fs
  · exact u.slot b ob q n hb hx
  · exact ⟨ob.slots, u.keep b ob q n hb hx⟩
theorem Un.trans (a : Un fs ex H H1 h h1) (b : Un fs ex H1 H2 h1 h2) : Un fs ex H H2 h h2 where
  keep := fun c ob q n hc hx => b.keep c ob (a.keep c ob q n hc hx) (a.free c ob q n hx) hc hx
  slot := fun c ob q n hc hx => by
    obtain ⟨sl, e1⟩ := a.slot c ob q n hc hx
    obtain ⟨sl', e2⟩ := b.slot c _ e1 (a.free c ob q n hx) hc hx
    exact ⟨sl', e2⟩
  free := fun c ob q n hx => by
    obtain ⟨o', e1⟩ := a.there c ob q hx
    exact b.free c o' e1 (a.free c ob q n hx) hx
  there := fun c ob q hx => by
    obtain ⟨o', e1⟩ := a.there c ob q hx
    exact b.there c o' e1 hx
  tups := fun c xs q => b.tups c xs (a.tups c xs q)
  frzs := fun c ob xs q => b.frzs c ob xs (a.frzs c ob xs q)
  tbls := fun c ps q => by
    obtain ⟨m1, e1⟩ := a.tbls c ps q
    obtain ⟨m2, e2⟩ := b.tbls c _ e1
    exact ⟨m1 ++ m2, by rw [e2, Array.append_assoc]⟩
theorem Un.kept (k : ∀ b u, h.get? b = some u → h'.get? b = some u) : Un fs ex H H h h' :=
  ⟨fun b ob q _ _ _ => k b ob q, fun b ob q _ _ _ => ⟨ob.slots, k b ob q⟩, fun _ _ _ n _ => n, fun b ob q _ => ⟨ob, k b ob q⟩, fun _ _ q => q, fun _ _ _ q => q, fun _ ps q => ⟨#[], by rw [q]; simp⟩⟩
theorem Un.refl : Un fs ex H H h h := Un.kept fun _ _ q => q
theorem Un.laid (k : ∀ b u, h.get? b = some u → h'.get? b = some u) (hp : h.objs.size ≤ a) (hn : H a = none) : Un fs ex H (upd H a o) h h' where
  keep := fun b u q _ _ _ => k b u q
  slot := fun b u q _ _ _ => ⟨u.slots, k b u q⟩
  free := fun b u q n _ => by rw [upd_ne (Nat.ne_of_lt (Nat.lt_of_lt_of_le (Heap.lt_size q) hp))]; exact n
  there := fun b u q _ => ⟨u, k b u q⟩
  tups := fun b xs q => by rw [upd_ne (ne_of_none q hn)]; exact q
  frzs := fun b u xs q => by rw [upd_ne (ne_of_none q hn)]; exact q
  tbls := fun b ps q => ⟨#[], by rw [upd_ne (ne_of_none q hn), q]; simp⟩
theorem Un.write (mu : Mut (H x)) (he : e = x ∨ H e = some (.own x)) (k : ∀ b u, b ≠ e → h.get? b = some u → h'.get? b = some u) (heo : ∃ u, h'.get? e = some u) : Un fs ex H (upd H x o) h h' := by
  have hx : ∀ b, H b = none → b ≠ x := fun b n z => by subst z; rw [n] at mu; exact mu
  have hb : ∀ b, H b = none → b ≠ e := fun b n z => by
    subst z
    rcases he with r | r
    · exact hx b n r
    · rw [n] at r; cases r
  have hm : ∀ b u, H b = some u → ¬ Mut (some u) → b ≠ x := fun b u q nm z => by subst z; rw [q] at mu; exact nm mu
  refine ⟨fun b u q n _ _ => k b u (hb b n) q, fun b u q n _ _ => ⟨u.slots, k b u (hb b n) q⟩, fun b u q n _ => by rw [upd_ne (hx b n)]; exact n, fun b u q _ => ?_,
    fun b xs q => by rw [upd_ne (hm b _ q fun z => z)]; exact q, fun b u xs q => by rw [upd_ne (hm b _ q fun z => z)]; exact q, fun b ps q => ⟨#[], by rw [upd_ne (hm b _ q fun z => z), q]; simp⟩⟩
  by_cases hbe : b = e
  · subst hbe; exact heo
  · exact ⟨u, k b u hbe q⟩
end

noncomputable def trk (h : Heap) (H : Hp) : List Addr := (List.range h.objs.size).filter fun a => (H a).isSome
noncomputable def hidT (h : Heap) (H : Hp) : Heap := PySem.W.hideAll h (trk h H)
theorem hidT_size (h : Heap) (H : Hp) : (hidT h H).objs.size = h.objs.size := PySem.W.hideAll_size _ _
theorem hidT_get {h : Heap} {H : Hp} {b : Addr} {o : Obj} (e : h.get? b = some o) (n : H b = none) : (hidT h H).get? b = some o :=
  PySem.W.hideAll_get _ e fun hm => by
    have q : (H b).isSome = true := (List.mem_filter.mp hm).2
    rw [n] at q; simp at q
theorem of_hidT {h : Heap} {H : Hp} {b : Addr} {o : Obj} (e : (hidT h H).get? b = some o) : h.get? b = some o ∧ H b = none := by
  have e' : h.get? b = some o := PySem.W.of_hideAll (trk h H) e
  refine ⟨e', ?_⟩
  cases q : H b with
  | none => rfl
  | some x =>
    have hm : b ∈ trk h H := List.mem_filter.mpr ⟨List.mem_range.mpr (Heap.lt_size e'), by simp [q]⟩
    have z : (hidT h H).get? b = none := PySem.W.hideAll_none (trk h H) hm
    rw [z] at e; cases e

noncomputable def allNews (g h : Heap) (L : Addr) : List (Addr × Obj) := (List.range h.objs.size).filterMap fun a => if a = L ∨ (g.get? a).isSome = true then none else (h.get? a).map fun o => (a, o)
noncomputable def rest (g h : Heap) (L d : Addr) : List (Addr × Obj) := (allNews g h L).filter fun p => decide (p.1 ≠ d)
end L2

namespace L2
open PySem PySem.Spec PyProof.Rows

/-- the module's facts, over the base: the heap at the law's entry without what is tracked there -/
structure Mod (K : PySem.W.Frag) (mg : Str → Option Value) (base : Heap) : Prop where
  kin : K.In base
  glob : base.Ns mainGlobals mg
  blt : ∃ mb, base.Ns builtinsNs mb ∧ ∀ x : Str, x ≠ "__name__" → mb x = bootBuiltins x
  nolimit : base.NoLimit

/-- the context: a def's body (or a comprehension's block) running. base: fixed through the whole law; s₀, H₀: the entry; outer: the frames whose slots others may change (a def's callers); stack: all frames that run;
   ex: iterators that were made ahead of the entry and are walked here (a comprehension's); fn: the names whose cells were made at the entry (a def: all; a comprehension's block: its own); calm: not within an except suite; pn: pins that every state bears; xe: what is wanted of an exception that leaves the code -/
structure Cx where
  prog : Program
  w : World
  K : PySem.W.Frag
  mg : Str → Option Value
  base : Heap
  A : Around
  N : List Str
  s₀ : Shared
  H₀ : Hp
  env : Env
  outer : List Env
  stack : List Env
  ex : List Addr
  fn : Str → Bool
  calm : Bool
  pn : List (Addr × Obj)
  xe : Value → Shared → Prop
/-- the callers' frames -/
noncomputable def frs (l : List Env) : List Addr := l.filterMap (·.frame)
noncomputable abbrev Cx.fs (X : Cx) : List Addr := frs X.outer

noncomputable def Vis (sc : Scope) (x : Str) : Prop := sc.names.lookup x = some .local ∨ sc.names.lookup x = some .cell ∨ sc.names.lookup x = some .free
noncomputable def Loc (sc : Scope) (x : Str) : Prop := sc.names.lookup x = some .local ∨ sc.names.lookup x = some .cell
noncomputable def Look (env : Env) (h : Heap) (m : Str → Option Value) (x : Str) (u : Value) : Prop :=
  (env.kindOf x = some .local ∧ m x = some u) ∨ ((env.kindOf x = some .cell ∨ env.kindOf x = some .free) ∧ ∃ c, env.cells.lookup x = some c ∧ h.IsCell c (some u))

structure Cx.Ok (X : Cx) : Prop where
  mod : Mod X.K X.mg X.base
  kind : X.env.scope.kind = .function
  glob : X.env.globals = mainGlobals
  blt : X.env.builtins = builtinsNs
  above : X.s₀.heap.objs.size ≤ X.env.locals
  inj : ∀ x y c, X.env.cells.lookup x = some c → X.env.cells.lookup y = some c → x = y
  has : ∀ x, (X.env.kindOf x = some .cell ∨ X.env.kindOf x = some .free) → ∃ c, X.env.cells.lookup x = some c
  cab : ∀ x c, X.fn x = true → X.env.cells.lookup x = some c → X.s₀.heap.objs.size ≤ c
  hd : X.calm = true → X.A.handled = none
  frames : X.A.frames = some X.stack
  stk : X.stack = X.outer ∨ (X.stack = X.env :: X.outer ∧ X.env.frame = some X.env.locals)
  exf : ∀ b ∈ X.ex, b ≠ X.env.locals ∧ ∀ x c, X.env.cells.lookup x = some c → c ≠ b
  bs : ∀ b o, X.base.get? b = some o → X.s₀.heap.get? b = some o ∧ X.H₀ b = none
  bsz : X.base.objs.size ≤ X.s₀.heap.objs.size
  noex : ∀ b o, X.base.get? b = some o → b ∉ X.ex
  exfs : ∀ b ∈ X.ex, b ∉ X.fs
  funs : X.s₀.heap.FunFrames X.base X.outer
  frf : ∀ b ∈ X.fs, X.H₀ b = none

structure Inv (X : Cx) (pins : List (Addr × Obj)) (σ : List (Option V)) (H : Hp) (s : Shared) : Prop where
  ok : X.Ok
  os : s.os = X.s₀.os
  bare : AllBare s.gens
  base : Un X.fs X.ex X.H₀ H X.s₀.heap s.heap
  loc : ∃ m, s.heap.Ns X.env.locals m ∧ ∀ (i : Nat) (x : Str) (v : V), X.N[i]? = some x → σ[i]? = some (some v) → Vis X.env.scope x → ∃ u, RelV v u ∧ Look X.env s.heap m x u
  cell : ∀ x c, X.env.cells.lookup x = some c → ∃ v, s.heap.IsCell c v
  free : H X.env.locals = none
  freeC : ∀ x c, X.env.cells.lookup x = some c → H c = none
  pin : ∀ p ∈ X.pn ++ pins, s.heap.get? p.1 = some p.2 ∧ H p.1 = none ∧ p.1 ≠ X.env.locals ∧ p.1 ∉ X.fs ∧ ∀ v, p.2.data ≠ .cell v
  hok : HOk X.prog X.w H s.heap
  len : σ.length = X.N.length

section
variable {X : Cx} {pins : List (Addr × Obj)} {σ : List (Option V)} {H H' : Hp} {s : Shared} {h' : Heap}

theorem Cx.Ok.nofr (ok : X.Ok) {b : Addr} {o : Obj} (e : X.base.get? b = some o) : b ∉ X.fs := fun hb => by
  have := (ok.funs.mem hb).1
  rw [e] at this; cases this
theorem Inv.bs (I : Inv X pins σ H s) : ∀ b o, X.base.get? b = some o → s.heap.get? b = some o ∧ H b = none := fun b o e =>
  ⟨I.base.keep b o (I.ok.bs b o e).1 (I.ok.bs b o e).2 (I.ok.nofr e) (I.ok.noex b o e), I.base.free b o (I.ok.bs b o e).1 (I.ok.bs b o e).2 (I.ok.noex b o e)⟩
theorem Inv.bk (I : Inv X pins σ H s) : ∀ b o, X.base.get? b = some o → s.heap.get? b = some o := fun b o e => (I.bs b o e).1
theorem Inv.mod (I : Inv X pins σ H s) : Mod X.K X.mg X.base := I.ok.mod
theorem Inv.kIn (I : Inv X pins σ H s) : X.K.In s.heap := I.ok.mod.kin.keeps I.bk
theorem Inv.lt (I : Inv X pins σ H s) : X.env.locals < s.heap.objs.size := let ⟨_, hn, _⟩ := I.loc; hn.lt
theorem Inv.sz (I : Inv X pins σ H s) : X.s₀.heap.objs.size ≤ s.heap.objs.size := Nat.le_trans I.ok.above (Nat.le_of_lt I.lt)
theorem Inv.nofs (I : Inv X pins σ H s) {a : Addr} (h : s.heap.objs.size ≤ a) : a ∉ X.fs := fun hb => by
  obtain ⟨_, o, ho, _⟩ := I.ok.funs.mem hb
  exact absurd (Nat.lt_of_lt_of_le (Heap.lt_size ho) (Nat.le_trans I.sz h)) (Nat.lt_irrefl _)
theorem Inv.cne (I : Inv X pins σ H s) : ∀ x c, X.env.cells.lookup x = some c → c ≠ X.env.locals := fun x c e z => by
  obtain ⟨v, o, ho, hd⟩ := I.cell x c e
  obtain ⟨m, ⟨o', es, ep, ho', hd', _⟩, _⟩ := I.loc
  rw [z, ho'] at ho; cases ho; rw [hd'] at hd; cases hd
theorem Inv.funs (I : Inv X pins σ H s) : s.heap.FunFrames X.base X.outer := by
  have all : ∀ (l : List Env), (∀ b ∈ frs l, b ∈ X.fs) → X.s₀.heap.FunFrames X.base l → s.heap.FunFrames X.base l := by
    intro l
    induction l with
    | nil => intro _ _; trivial
    | cons env r ih =>
      intro hs hl
      obtain ⟨hk, ⟨L, o, hf, hn, ho, hd⟩, hr⟩ := hl
      have hL : L ∈ X.fs := hs L (by unfold frs; rw [List.filterMap_cons, hf]; exact List.mem_cons_self)
      obtain ⟨sl, e⟩ := I.base.slot L o ho (I.ok.frf L hL) hL fun z => I.ok.exfs L z hL
      exact ⟨hk, ⟨L, _, hf, hn, e, hd⟩, ih (fun b hb => hs b (by unfold frs; rw [List.filterMap_cons, hf]; exact List.mem_cons_of_mem _ hb)) hr⟩
  exact all X.outer (fun _ hb => hb) I.ok.funs

/-- the frames that run, for a call -/
theorem Inv.stack (I : Inv X pins σ H s) : s.heap.FunFrames X.base X.stack := by
  rcases I.ok.stk with e | ⟨e, hf⟩
  · rw [e]; exact I.funs
  · rw [e]
    obtain ⟨m, hn, _⟩ := I.loc
    refine .cons (by rw [I.ok.kind]; decide) hf hn ?_ I.funs
    exact Heap.get?_none_of_le (Nat.le_trans I.ok.bsz I.ok.above)
theorem Inv.stkSub (I : Inv X pins σ H s) : ∀ b ∈ frs X.stack, b ∈ X.env.locals :: X.fs := fun b hb => by
  rcases I.ok.stk with e | ⟨e, hf⟩
  · rw [e] at hb; exact List.mem_cons_of_mem _ hb
  · rw [e] at hb
    unfold frs at hb
    rw [List.filterMap_cons, hf] at hb
    exact hb
theorem Inv.stkFree (I : Inv X pins σ H s) : ∀ b ∈ frs X.stack, H b = none := fun b hb => by
  rcases List.mem_cons.mp (I.stkSub b hb) with e | hb
  · rw [e]; exact I.free
  · obtain ⟨_, o, ho, _⟩ := I.ok.funs.mem hb
    exact I.base.free b o ho (I.ok.frf b hb) fun z => I.ok.exfs b z hb

/-- THE STEP: the untracked objects but the frame and the records at ch are kept (the callers' frames up to slots), the frame's map is kept, the new abstract heap is held -/
theorem Inv.step {g' : Array GenState} {t' : Nat} {d' : Drawn} {ch : List Addr} (I : Inv X pins σ H s)
    (hch : ∀ b ∈ ch, (b ∈ X.ex ∨ X.s₀.heap.objs.size ≤ b) ∧ b ≠ X.env.locals ∧ (∀ x c, X.env.cells.lookup x = some c → c ≠ b) ∧ ∀ p ∈ X.pn ++ pins, p.1 ≠ b)
    (keep : ∀ b o, b ≠ X.env.locals → b ∉ X.fs → b ∉ ch → s.heap.get? b = some o → H b = none → h'.get? b = some o)
    (slot : ∀ b o, b ≠ X.env.locals → b ∈ X.fs → b ∉ ch → s.heap.get? b = some o → H b = none → ∃ sl, h'.get? b = some { o with slots := sl }) (free : ∀ b o, b ∉ ch → s.heap.get? b = some o → H b = none → H' b = none)
    (there : ∀ b o, b ∉ ch → s.heap.get? b = some o → ∃ o', h'.get? b = some o')
    (tups : ∀ b xs, H b = some (.tup xs) → H' b = some (.tup xs)) (frzs : ∀ b o u, H b = some (.frz o u) → H' b = some (.frz o u)) (tbls : ∀ b ps, H b = some (.tbl ps) → ∃ more, H' b = some (.tbl (ps ++ more)))
    (ns : ∀ m, s.heap.Ns X.env.locals m → h'.Ns X.env.locals m) (hok : HOk X.prog X.w H' h') (hg : AllBare g') :
    Inv X pins σ H' { s with heap := h', gens := g', drawn := d', toks := t' } := by
  have neL : ∀ b o, X.s₀.heap.get? b = some o → b ≠ X.env.locals := fun b o e => Nat.ne_of_lt (Nat.lt_of_lt_of_le (Heap.lt_size e) I.ok.above)
  have neC : ∀ b o, X.s₀.heap.get? b = some o → b ∉ X.ex → b ∉ ch := fun b o e hx hb => by
    rcases (hch b hb).1 with z | z
    · exact hx z
    · exact absurd (Nat.lt_of_lt_of_le (Heap.lt_size e) z) (Nat.lt_irrefl _)
  have cellK : ∀ x c, X.env.cells.lookup x = some c → ∀ v, s.heap.IsCell c v → h'.IsCell c v := fun x c e v ⟨o, ho, hd⟩ => by
    have nch : c ∉ ch := fun z => (hch c z).2.2.1 x c e rfl
    by_cases hc : c ∈ X.fs
    · obtain ⟨sl, q⟩ := slot c o (I.cne x c e) hc nch ho (I.freeC x c e)
      exact ⟨_, q, hd⟩
    · exact ⟨o, keep c o (I.cne x c e) hc nch ho (I.freeC x c e), hd⟩
  refine ⟨I.ok, I.os, hg, ⟨fun b o e n hb hx => ?_, fun b o e n hb hx => ?_, fun b o e n hx => ?_, fun b o e hx => ?_, fun b xs e => tups b xs (I.base.tups b xs e), fun b o xs e => frzs b o xs (I.base.frzs b o xs e), fun b ps e => ?_⟩, ?_, fun x c e => ?_, ?_, fun x c e => ?_, fun p hp => ?_, hok, I.len⟩
  · exact keep b o (neL b o e) hb (neC b o e hx) (I.base.keep b o e n hb hx) (I.base.free b o e n hx)
  · obtain ⟨sl, e1⟩ := I.base.slot b o e n hb hx
    obtain ⟨sl', e2⟩ := slot b _ (neL b o e) hb (neC b o e hx) e1 (I.base.free b o e n hx)
    exact ⟨sl', e2⟩
  · obtain ⟨o', e1⟩ := I.base.there b o e hx
    exact free b o' (neC b o e hx) e1 (I.base.free b o e n hx)
  · obtain ⟨o', e1⟩ := I.base.there b o e hx
    exact there b o' (neC b o e hx) e1
  · obtain ⟨m1, e1⟩ := I.base.tbls b ps e
    obtain ⟨m2, e2⟩ := tbls b _ e1
    exact ⟨m1 ++ m2, by rw [e2, Array.append_assoc]⟩
  · obtain ⟨m, hn, hl⟩ := I.loc
    refine ⟨m, ns m hn, fun i x v e1 e2 e3 => ?_⟩
    obtain ⟨u, r, l⟩ := hl i x v e1 e2 e3
    refine ⟨u, r, ?_⟩
    rcases l with l | ⟨k, c, e, z⟩
    · exact .inl l
    · exact .inr ⟨k, c, e, cellK x c e _ z⟩
  · obtain ⟨v, z⟩ := I.cell x c e
    exact ⟨v, cellK x c e v z⟩
  · obtain ⟨m, ⟨o, _, _, ho, _⟩, _⟩ := I.loc
    exact free _ o (fun z => (hch _ z).2.1 rfl) ho I.free
  · obtain ⟨v, o, ho, hd⟩ := I.cell x c e
    exact free c o (fun z => (hch c z).2.2.1 x c e rfl) ho (I.freeC x c e)
  · obtain ⟨e, n, ne, nf, d⟩ := I.pin p hp
    have nch : p.1 ∉ ch := fun z => (hch p.1 z).2.2.2 p hp rfl
    exact ⟨keep p.1 p.2 ne nf nch e n, free p.1 p.2 nch e n, ne, nf, d⟩
/-- .. where the frame's own object is kept too -/
theorem Inv.un {t' : Nat} (I : Inv X pins σ H s) (u : Un X.fs [] H H' s.heap h') (hok : HOk X.prog X.w H' h') : Inv X pins σ H' { s with heap := h', toks := t' } := by
  obtain ⟨m, ⟨o, es, ep, ho, r⟩, _⟩ := id I.loc
  obtain ⟨sl, hL⟩ := u.any ho I.free (by simp)
  exact I.step (g' := s.gens) (d' := s.drawn) (ch := []) (fun _ z => nomatch z) (fun b o _ hb _ e n => u.keep b o e n hb (by simp)) (fun b o _ hb _ e n => u.slot b o e n hb (by simp)) (fun b o _ e n => u.free b o e n (by simp)) (fun b o _ e => u.there b o e (by simp)) u.tups u.frzs u.tbls (fun m' hm => by
    obtain ⟨o', es', ep', ho', r'⟩ := hm
    rw [ho] at ho'; cases ho'
    exact ⟨_, es', ep', hL, r'⟩) hok I.bare
/-- behind a call (or a comprehension's block): the slots of this frame may have changed too, the records at ch may have turned -/
theorem Inv.call {g' : Array GenState} {t' : Nat} {d' : Drawn} {ch : List Addr} (I : Inv X pins σ H s) (u : Un (frs X.stack) ch H H' s.heap h') (hok : HOk X.prog X.w H' h') (hg : AllBare g')
    (hch : ∀ b ∈ ch, (b ∈ X.ex ∨ X.s₀.heap.objs.size ≤ b) ∧ b ≠ X.env.locals ∧ (∀ x c, X.env.cells.lookup x = some c → c ≠ b) ∧ ∀ p ∈ X.pn ++ pins, p.1 ≠ b) :
    Inv X pins σ H' { s with heap := h', gens := g', drawn := d', toks := t' } := by
  obtain ⟨m, ⟨o, es, ep, ho, r⟩, _⟩ := id I.loc
  obtain ⟨sl, hL⟩ := u.any ho I.free fun z => (hch _ z).2.1 rfl
  exact I.step (ch := ch) hch (fun b o hL hb hc e n => u.keep b o e n (fun z => (List.mem_cons.mp (I.stkSub b z)).elim hL hb) hc) (fun b o _ _ hc e n => u.any e n hc) (fun b o hc e n => u.free b o e n hc) (fun b o hc e => u.there b o e hc) u.tups u.frzs u.tbls (fun m' hm => by
    obtain ⟨o', es', ep', ho', r'⟩ := hm
    rw [ho] at ho'; cases ho'
    exact ⟨_, es', ep', hL, r'⟩) hok hg
/-- an untracked record of ours (an iterator) has turned -/
theorem Inv.turned {t' : Nat} {it : Addr} (I : Inv X pins σ H s) (k : ∀ b o, b ≠ it → s.heap.get? b = some o → h'.get? b = some o) (hn : H it = none) (hL : it ≠ X.env.locals)
    (h1 : it ∈ X.ex ∨ X.s₀.heap.objs.size ≤ it) (h2 : ∀ x c, X.env.cells.lookup x = some c → c ≠ it) (h3 : ∀ p ∈ X.pn ++ pins, p.1 ≠ it) : Inv X pins σ H { s with heap := h', toks := t' } := by
  have nit : ∀ b u, H b = some u → b ≠ it := fun b u e z => by rw [z, hn] at e; cases e
  refine I.step (g' := s.gens) (d' := s.drawn) (ch := [it]) (fun b hb => ?_) (fun b o _ _ hc e _ => k b o (fun z => hc (by simp [z])) e) (fun b o _ _ hc e _ => ⟨o.slots, k b o (fun z => hc (by simp [z])) e⟩) (fun _ _ _ _ n => n)
    (fun b o hc e => ⟨o, k b o (fun z => hc (by simp [z])) e⟩) (fun _ _ e => e) (fun _ _ _ e => e) (fun b ps e => ⟨#[], by rw [e]; simp⟩) (fun m hm => ?_) (fun b u e => ?_) I.bare
  · have e : b = it := by simpa using hb
    subst e
    exact ⟨h1, hL, h2, h3⟩
  · obtain ⟨o, es, ep, ho, r⟩ := hm
    exact ⟨o, es, ep, k _ o (Ne.symm hL) ho, r⟩
  · refine (I.hok b u e).stay (fun c v hc q => k c v ?_ q) (fun _ q => q) fun _ _ q => q
    rcases hc with z | z
    · rw [z]; exact nit b u e
    · exact nit c _ z
theorem Inv.tok (I : Inv X pins σ H s) (t : Nat) : Inv X pins σ H { s with toks := t } := I.un (h' := s.heap) (t' := t) Un.refl I.hok
/-- all objects kept -/
theorem Inv.kept {t' : Nat} (I : Inv X pins σ H s) (k : ∀ b u, s.heap.get? b = some u → h'.get? b = some u) : Inv X pins σ H { s with heap := h', toks := t' } := I.un (Un.kept k) (I.hok.kept k)
/-- a new object laid and tracked -/
theorem Inv.laid {a : Addr} {o : HO} {t' : Nat} (I : Inv X pins σ H s) (k : ∀ b u, s.heap.get? b = some u → h'.get? b = some u) (hp : s.heap.objs.size ≤ a) (new : ObjOk X.prog X.w (upd H a o) h' a o) :
    Inv X pins σ (upd H a o) { s with heap := h', toks := t' } := I.un (Un.laid k hp (I.hok.fresh hp)) (I.hok.laid k hp new)
/-- an object written -/
theorem Inv.write {x e : Addr} {o : HO} {t' : Nat} (I : Inv X pins σ H s) (mu : Mut (H x)) (he : e = x ∨ H e = some (.own x)) (k : ∀ b u, b ≠ e → s.heap.get? b = some u → h'.get? b = some u) (heo : ∃ u, h'.get? e = some u)
    (new : ObjOk X.prog X.w (upd H x o) h' x o) : Inv X pins σ (upd H x o) { s with heap := h', toks := t' } := I.un (Un.write mu he k heo) (I.hok.write mu he k heo new)
theorem Inv.pins_of {pins' : List (Addr × Obj)} (I : Inv X pins σ H s) (h : ∀ p ∈ pins', s.heap.get? p.1 = some p.2 ∧ H p.1 = none ∧ p.1 ≠ X.env.locals ∧ p.1 ∉ X.fs ∧ ∀ v, p.2.data ≠ .cell v) : Inv X pins' σ H s :=
  ⟨I.ok, I.os, I.bare, I.base, I.loc, I.cell, I.free, I.freeC, fun p hp => (List.mem_append.mp hp).elim (fun z => I.pin p (List.mem_append_left _ z)) (h p), I.hok, I.len⟩

theorem nodup_ix {N : List Str} (hN : N.Nodup) {i j : Nat} {x : Str} (a : N[i]? = some x) (b : N[j]? = some x) : i = j := by
  obtain ⟨h1, e1⟩ := List.getElem?_eq_some_iff.mp a
  obtain ⟨h2, e2⟩ := List.getElem?_eq_some_iff.mp b
  exact (List.getElem_inj hN).mp (e1.trans e2.symm)

/-- a name is stored; what changed -/
theorem store_ok2 {M : Model} {A : Around} {E : Value → Shared → Prop} {i : Nat} {x : Str} {v : V} {u : Value} {Q : Unit → Shared → Prop} (I : Inv X pins σ H s) (hN : X.N.Nodup) (hi : X.N[i]? = some x) (hx : Loc X.env.scope x) (r : RelV v u)
    (h : ∀ s', Inv X pins (σ.set i (some v)) H s' → (∃ a, Heap.SameBut a s.heap s'.heap ∧ (a = X.env.locals ∨ X.env.cells.lookup x = some a)) → Q () s') (hf : X.fn x = true ∨ X.env.scope.names.lookup x = some .local := by first | exact .inl rfl | exact .inr rfl | assumption) : wpAny M A (storeName X.env x u) Q E s := by
  obtain ⟨m, hn, hl⟩ := id I.loc
  have hcls : (X.env.scope.kind == .class || (X.env.scope.kind == .module && X.env.locals != X.env.globals)) = false := by rw [I.ok.kind]; rfl
  have hiσ : i < σ.length := by rw [I.len]; exact (List.getElem?_eq_some_iff.mp hi).1
  have cne := I.cne
  have tracked : ∀ {a : Addr} {h' : Heap}, (∃ o, s.heap.get? a = some o ∧ H a = none) → Heap.SameBut a s.heap h' → HOk X.prog X.w H h' := fun {a h'} ha hs b ob e => by
    obtain ⟨_, _, hfree⟩ := ha
    refine (I.hok b ob e).stay (fun c w' hc q => (hs.2 c ?_).trans q) (fun _ q => q) fun _ _ q => q
    rintro rfl
    rcases hc with rfl | hc
    · rw [hfree] at e; cases e
    · rw [hfree] at hc; cases hc
  rcases hx with hk | hk
  · refine wpAny_storeName_local hk hn (fun h' hn' hs => ?_) hcls
    obtain ⟨oL, _, _, hoL, _⟩ := id hn
    refine h _ ⟨I.ok, I.os, I.bare, ⟨fun b o e n hb hx => ?_, fun b o e n hb hx => ?_, I.base.free, fun b o e hx => ?_, I.base.tups, I.base.frzs, I.base.tbls⟩, ⟨_, hn', fun j y v' e1 e2 e3 => ?_⟩, fun y c e => ?_, I.free, I.freeC, fun p hp => ?_, tracked ⟨oL, hoL, I.free⟩ hs, by simpa using I.len⟩ ⟨_, hs, .inl rfl⟩
    · exact (hs.2 b (Nat.ne_of_lt (Nat.lt_of_lt_of_le (Heap.lt_size e) I.ok.above))).trans (I.base.keep b o e n hb hx)
    · obtain ⟨sl, e1⟩ := I.base.slot b o e n hb hx
      exact ⟨sl, (hs.2 b (Nat.ne_of_lt (Nat.lt_of_lt_of_le (Heap.lt_size e) I.ok.above))).trans e1⟩
    · obtain ⟨o', e1⟩ := I.base.there b o e hx
      exact ⟨o', (hs.2 b (Nat.ne_of_lt (Nat.lt_of_lt_of_le (Heap.lt_size e) I.ok.above))).trans e1⟩
    · by_cases hj : j = i
      · subst hj
        rw [hi] at e1; cases e1
        rw [List.getElem?_set_self hiσ] at e2
        cases e2
        exact ⟨u, r, .inl ⟨hk, by simp⟩⟩
      · rw [List.getElem?_set_ne (Ne.symm hj)] at e2
        obtain ⟨u', r', q⟩ := hl j y v' e1 e2 e3
        refine ⟨u', r', ?_⟩
        rcases q with ⟨k, e⟩ | ⟨k, c, e, z⟩
        · refine .inl ⟨k, ?_⟩
          have : y ≠ x := fun e => hj (nodup_ix hN e1 (e ▸ hi))
          simp [this, e]
        · exact .inr ⟨k, c, e, z.sameBut hs (cne y c e)⟩
    · obtain ⟨w', z⟩ := I.cell y c e
      exact ⟨w', z.sameBut hs (cne y c e)⟩
    · obtain ⟨e, n, ne, nf, d⟩ := I.pin p hp
      exact ⟨(hs.2 p.1 ne).trans e, n, ne, nf, d⟩
  · have hfn : X.fn x = true := by
      rcases hf with z | z
      · exact z
      · rw [z] at hk; cases hk
    obtain ⟨c, hc⟩ := I.ok.has x (.inl hk)
    obtain ⟨w', z⟩ := I.cell x c hc
    refine wpAny_storeName_cell I.ok.kind hk hc z (fun h' hc' hs => ?_)
    obtain ⟨oc, hoc, hocd⟩ := id z
    refine h { s with heap := h' } ⟨I.ok, I.os, I.bare, ⟨fun b o e n hb hx => ?_, fun b o e n hb hx => ?_, I.base.free, fun b o e hx => ?_, I.base.tups, I.base.frzs, I.base.tbls⟩, ⟨m, hn.sameBut hs (Ne.symm (cne x c hc)), fun j y v' e1 e2 e3 => ?_⟩, fun y c' e => ?_, I.free, I.freeC, fun p hp => ?_, tracked ⟨oc, hoc, I.freeC x c hc⟩ hs, by simpa using I.len⟩ ⟨c, hs, .inr hc⟩
    · exact (hs.2 b (Nat.ne_of_lt (Nat.lt_of_lt_of_le (Heap.lt_size e) (I.ok.cab x c hfn hc)))).trans (I.base.keep b o e n hb hx)
    · obtain ⟨sl, e1⟩ := I.base.slot b o e n hb hx
      exact ⟨sl, (hs.2 b (Nat.ne_of_lt (Nat.lt_of_lt_of_le (Heap.lt_size e) (I.ok.cab x c hfn hc)))).trans e1⟩
    · obtain ⟨o', e1⟩ := I.base.there b o e hx
      exact ⟨o', (hs.2 b (Nat.ne_of_lt (Nat.lt_of_lt_of_le (Heap.lt_size e) (I.ok.cab x c hfn hc)))).trans e1⟩
    · by_cases hj : j = i
      · subst hj
        rw [hi] at e1; cases e1
        rw [List.getElem?_set_self hiσ] at e2
        cases e2
        exact ⟨u, r, .inr ⟨.inl hk, c, hc, hc'⟩⟩
      · rw [List.getElem?_set_ne (Ne.symm hj)] at e2
        obtain ⟨u', r', q⟩ := hl j y v' e1 e2 e3
        refine ⟨u', r', ?_⟩
        rcases q with q | ⟨k, c', e, z'⟩
        · exact .inl q
        · refine .inr ⟨k, c', e, z'.sameBut hs ?_⟩
          rintro rfl
          exact hj (nodup_ix hN e1 (I.ok.inj _ _ _ e hc ▸ hi))
    · by_cases hcc : c' = c
      · subst hcc; exact ⟨_, hc'⟩
      · obtain ⟨w2, z2⟩ := I.cell y c' e
        exact ⟨w2, z2.sameBut hs hcc⟩
    · obtain ⟨e, n, ne, nf, d⟩ := I.pin p hp
      refine ⟨(hs.2 p.1 ?_).trans e, n, ne, nf, d⟩
      intro q
      rw [q, hoc] at e
      have q' : oc = p.2 := Option.some.inj e
      exact d w' (by rw [← q']; exact hocd)
theorem store_ok {M : Model} {A : Around} {E : Value → Shared → Prop} {i : Nat} {x : Str} {v : V} {u : Value} {Q : Unit → Shared → Prop} (I : Inv X pins σ H s) (hN : X.N.Nodup) (hi : X.N[i]? = some x) (hx : Loc X.env.scope x) (r : RelV v u)
    (h : ∀ s', Inv X pins (σ.set i (some v)) H s' → Q () s') (hf : X.fn x = true ∨ X.env.scope.names.lookup x = some .local := by first | exact .inl rfl | exact .inr rfl | assumption) : wpAny M A (storeName X.env x u) Q E s :=
  store_ok2 I hN hi hx r (fun s' I' _ => h s' I') hf
/-- behind a call or a block, the state as it is -/
theorem Inv.call' {s' : Shared} {ch : List Addr} (I : Inv X pins σ H s) (ho : s'.os = s.os) (u : Un (frs X.stack) ch H H' s.heap s'.heap) (hok : HOk X.prog X.w H' s'.heap) (hg : AllBare s'.gens)
    (hch : ∀ b ∈ ch, (b ∈ X.ex ∨ X.s₀.heap.objs.size ≤ b) ∧ b ≠ X.env.locals ∧ (∀ x c, X.env.cells.lookup x = some c → c ≠ b) ∧ ∀ p ∈ X.pn ++ pins, p.1 ≠ b) : Inv X pins σ H' s' := by
  obtain ⟨h', g', d', t', o'⟩ := s'
  have e : o' = s.os := ho
  subst e
  exact I.call (g' := g') (t' := t') (d' := d') u hok hg hch
end

/-- an exception: its class, its own dict's address (where it has one), the abstract heap behind it -/
noncomputable abbrev XK := Value → Option Addr → Hp → Prop
noncomputable abbrev St := List (Option V)
noncomputable abbrev VK := V → Hp → Prop
/-- an expression's reading; a test's; an argument list's -/
noncomputable abbrev TE := St → Hp → VK → Prop
noncomputable abbrev TT := St → Hp → (Bool → Hp → Prop) → Prop
noncomputable abbrev TA := St → Hp → (List V → Hp → Prop) → Prop
/-- what is wanted behind a statement -/
structure Ends where
  nx : St → Hp → Prop
  rt : VK
  bk : St → Hp → Prop := fun _ _ => False
  ct : St → Hp → Prop := fun _ _ => False
noncomputable abbrev TS := Ends → St → Hp → Prop

noncomputable def EP (X : Cx) (pins : List (Addr × Obj)) (σ : St) (Q : VK) (u : Value) (s' : Shared) : Prop := ∃ v H', Inv X pins σ H' s' ∧ RelV v u ∧ Q v H'
noncomputable def TP (X : Cx) (pins : List (Addr × Obj)) (σ : St) (Q : Bool → Hp → Prop) (b : Bool) (s' : Shared) : Prop := ∃ H', Inv X pins σ H' s' ∧ Q b H'
noncomputable def AP (X : Cx) (pins : List (Addr × Obj)) (σ : St) (Q : List V → Hp → Prop) (us : List Value) (s' : Shared) : Prop := ∃ vs H', Inv X pins σ H' s' ∧ Vals vs us ∧ Q vs H'
noncomputable def SP (X : Cx) (pins : List (Addr × Obj)) (D : Ends) (f : Flow) (s' : Shared) : Prop :=
  match f with
  | .next => ∃ σ' H', Inv X pins σ' H' s' ∧ D.nx σ' H'
  | .brk => ∃ σ' H', Inv X pins σ' H' s' ∧ D.bk σ' H'
  | .cont => ∃ σ' H', Inv X pins σ' H' s' ∧ D.ct σ' H'
  | .ret u => ∃ v σ' H', Inv X pins σ' H' s' ∧ RelV v u ∧ D.rt v H'

noncomputable def PE (X : Cx) (e : Expr) (t : TE) : Prop :=
  ∀ (pins : List (Addr × Obj)) (s : Shared) (σ : St) (H : Hp) (Q : VK), Inv X pins σ H s → t σ H Q → wpAny (model X.prog X.w) X.A (eval e X.env) (EP X pins σ Q) X.xe s
noncomputable def PT (X : Cx) (e : Expr) (t : TT) : Prop :=
  ∀ (pins : List (Addr × Obj)) (s : Shared) (σ : St) (H : Hp) (Q : Bool → Hp → Prop), Inv X pins σ H s → t σ H Q → wpAny (model X.prog X.w) X.A (isTrue e X.env (eval e X.env)) (TP X pins σ Q) X.xe s
/-- a test whatever its 'whole' is (and, or) -/
noncomputable def PW (X : Cx) (e : Expr) (t : TT) : Prop :=
  ∀ (whole : Sem Value) (pins : List (Addr × Obj)) (s : Shared) (σ : St) (H : Hp) (Q : Bool → Hp → Prop), Inv X pins σ H s → t σ H Q → wpAny (model X.prog X.w) X.A (isTrue e X.env whole) (TP X pins σ Q) X.xe s
theorem PW.pt {X : Cx} {e : Expr} {t : TT} (h : PW X e t) : PT X e t := h _
/-- an argument list (no star), from the left -/
noncomputable def PA (X : Cx) (es : List Expr) (t : TA) : Prop :=
  ∀ (pos : Pos) (pins : List (Addr × Obj)) (s : Shared) (σ : St) (H : Hp) (Q : List V → Hp → Prop), Inv X pins σ H s → t σ H Q → wpAny (model X.prog X.w) X.A (spliced (backTo pos (starEach es X.env))) (AP X pins σ Q) X.xe s
noncomputable def PS (X : Cx) (st : Stmt) (t : TS) : Prop :=
  ∀ (pins : List (Addr × Obj)) (s : Shared) (σ : St) (H : Hp) (D : Ends), Inv X pins σ H s → t D σ H → wpAny (model X.prog X.w) X.A (exec st X.env) (SP X pins D) X.xe s
noncomputable def PSs (X : Cx) (st : List Stmt) (t : TS) : Prop :=
  ∀ (pins : List (Addr × Obj)) (s : Shared) (σ : St) (H : Hp) (D : Ends), Inv X pins σ H s → t D σ H → wpAny (model X.prog X.w) X.A (execs st X.env) (SP X pins D) X.xe s
/-- weaken the end -/
theorem thn {α : Type} {t : Sem α} {Q Q' : α → Shared → Prop} {M : Model} {A : Around} {E : Value → Shared → Prop} {s : Shared} (h : wpAny M A t Q E s) (hQ : ∀ a s, Q a s → Q' a s) : wpAny M A t Q' E s := wpAny_mono h hQ fun _ _ x => x
end L2

namespace L2
open PySem PySem.Spec PyProof.Rows
section
variable {X : Cx}

noncomputable def tVar (i : Nat) : TE := fun σ H Q => ∃ v, σ[i]? = some (some v) ∧ Q v H
noncomputable def tC (v : V) : TE := fun _ H Q => Q v H
theorem pe_var {i : Nat} {x : Str} {pos : Pos} (hN : X.N[i]? = some x) (hv : Vis X.env.scope x) (hd : (x == ("__debug__" : Str)) = false := by decide) (hcd : (x == ("__classdict__" : Str)) = false := by decide) : PE X (.Name x pos) (tVar i) := by
  intro pins s σ H Q I h
  obtain ⟨v, e, h⟩ := h
  obtain ⟨m, hn, hl⟩ := I.loc
  obtain ⟨u, r, l⟩ := hl i x v hN e hv
  have fin : EP X pins σ Q u s := ⟨v, H, I, r, h⟩
  rcases l with ⟨hk, hm⟩ | ⟨hk, c, hc, hcell⟩
  · exact wpAny_Name (wpAny_loadName_local I.ok.kind hk hn hm fin) hd
  · rcases hk with hk | hk
    · exact wpAny_Name (wpAny_loadName_cell I.ok.kind hk hc hcell fin) hd
    · exact wpAny_Name (wpAny_loadName_free I.ok.kind hk hc hcell fin hcd) hd
theorem pe_int {i j pos} : PE X (.Constant (.int i) j pos) (tC (.int i)) := fun _ _ _ H _ I h => wpAny_Constant_int ⟨.int i, H, I.tok _, ⟨_, rfl⟩, h⟩
theorem pe_bl {b j pos} : PE X (.Constant (.bool b) j pos) (tC (.bl b)) := fun _ _ _ H _ I h => Constant_bool ⟨.bl b, H, I, rfl, h⟩
theorem pe_str {x j pos} : PE X (.Constant (.str x) j pos) (tC (.str x)) := fun _ _ _ H _ I h => Calls.Constant_str ⟨.str x, H, I.tok _, ⟨_, rfl⟩, h⟩

/-- a global name of the def -/
noncomputable def Gl (X : Cx) (x : Str) : Prop := X.env.kindOf x = some .globalImplicit
theorem ld_glob {E : Value → Shared → Prop} {pins : List (Addr × Obj)} {s : Shared} {σ : St} {H : Hp} {x : Str} {u : Value} {pos : Pos} {Q : Value → Shared → Prop} (I : Inv X pins σ H s) (hg : Gl X x) (hm : X.mg x = some u) (h : Q u s)
    (hd : (x == ("__debug__" : Str)) = false := by decide) : wpAny (model X.prog X.w) X.A (eval (.Name x pos) X.env) Q E s :=
  Calls.Name_function_global I.ok.kind hg (Calls.loadGlobal_global (by rw [I.ok.glob]; exact I.mod.glob.keeps I.bk) hm h) hd
theorem ld_blt {E : Value → Shared → Prop} {pins : List (Addr × Obj)} {s : Shared} {σ : St} {H : Hp} {x : Str} {u : Value} {pos : Pos} {Q : Value → Shared → Prop} (I : Inv X pins σ H s) (hg : Gl X x) (hm : X.mg x = none) (hv : bootBuiltins x = some u) (h : Q u s)
    (hn : x ≠ "__name__" := by decide) (hd : (x == ("__debug__" : Str)) = false := by decide) : wpAny (model X.prog X.w) X.A (eval (.Name x pos) X.env) Q E s := by
  obtain ⟨mb, h1, h2⟩ := I.mod.blt
  exact Calls.Name_function_global I.ok.kind hg (Calls.loadGlobal_builtin (by rw [I.ok.glob]; exact I.mod.glob.keeps I.bk) hm (by rw [I.ok.blt]; exact h1.keeps I.bk) ((h2 x hn).trans hv) h) hd
/-- a module's constant, a class, a function, as a value -/
theorem pe_glob {x : Str} {v : V} {u : Value} {pos : Pos} (hg : Gl X x) (hm : X.mg x = some u) (r : RelV v u) (hd : (x == ("__debug__" : Str)) = false := by decide) : PE X (.Name x pos) (tC v) :=
  fun _ _ _ H _ I h => ld_glob I hg hm ⟨v, H, I, r, h⟩ hd
theorem pe_bltn {x : Str} {v : V} {u : Value} {pos : Pos} (hg : Gl X x) (hm : X.mg x = none) (hv : bootBuiltins x = some u) (r : RelV v u) (hn : x ≠ "__name__" := by decide) (hd : (x == ("__debug__" : Str)) = false := by decide) : PE X (.Name x pos) (tC v) :=
  fun _ _ _ H _ I h => ld_blt I hg hm hv ⟨v, H, I, r, h⟩ hn hd

variable {a b : Expr} {ta tb : TE} {pos : Pos}
/-- a comparison as a value, as a test -/
noncomputable def tB (t : TE) : TT := fun σ H Q => t σ H fun x H1 => ∃ c, x = .bl c ∧ Q c H1
variable {tA tB' : TT} {rest : List Expr}
noncomputable def tAnd (t u : TT) : TT := fun σ H Q => t σ H fun c H1 => if c = true then u σ H1 Q else Q false H1
noncomputable def tOr (t u : TT) : TT := fun σ H Q => t σ H fun c H1 => if c = true then Q true H1 else u σ H1 Q
noncomputable def tNot (t : TT) : TT := fun σ H Q => t σ H fun c H1 => Q (!c) H1
theorem pw_and1 (ha : PT X a tA) : PW X (.BoolOp .And [a] pos) tA := by
  intro wh pins s σ H Q I h
  refine isTrue_and (thn (ha pins s σ H Q I h) fun c s1 e => ?_)
  cases c with
  | true => exact isTrue_and_nil e
  | false => exact e
theorem pw_or1 (ha : PT X a tA) : PW X (.BoolOp .Or [a] pos) tA := by
  intro wh pins s σ H Q I h
  refine isTrue_or (thn (ha pins s σ H Q I h) fun c s1 e => ?_)
  cases c with
  | false => exact isTrue_or_nil e
  | true => exact e
theorem pw_and (ha : PT X a tA) (hb : PW X (.BoolOp .And (b :: rest) pos) tB') : PW X (.BoolOp .And (a :: b :: rest) pos) (tAnd tA tB') := by
  intro wh pins s σ H Q I h
  refine isTrue_and (thn (ha pins s σ H _ I h) fun c s1 ⟨H1, I1, q1⟩ => ?_)
  cases c with
  | true => exact hb wh pins s1 σ H1 Q I1 q1
  | false => exact ⟨H1, I1, q1⟩
theorem pw_or (ha : PT X a tA) (hb : PW X (.BoolOp .Or (b :: rest) pos) tB') : PW X (.BoolOp .Or (a :: b :: rest) pos) (tOr tA tB') := by
  intro wh pins s σ H Q I h
  refine isTrue_or (thn (ha pins s σ H _ I h) fun c s1 ⟨H1, I1, q1⟩ => ?_)
  cases c with
  | true => exact ⟨H1, I1, q1⟩
  | false => exact hb wh pins s1 σ H1 Q I1 q1
theorem pt_not (ha : PT X a tA) : PT X (.UnaryOp .Not a pos) (tNot tA) := by
  intro pins s σ H Q I h
  exact isTrue_not (ha pins s σ H (fun c H1 => Q (!c) H1) I h)
/-- .. as values (bools) -/
noncomputable def tAndV (ta tb : TE) : TE := fun σ H Q => ta σ H fun x H1 => ∃ c, x = .bl c ∧ if c = true then tb σ H1 Q else Q (.bl false) H1
noncomputable def tOrV (ta tb : TE) : TE := fun σ H Q => ta σ H fun x H1 => ∃ c, x = .bl c ∧ if c = true then Q (.bl true) H1 else tb σ H1 Q
noncomputable def tNotV (ta : TE) : TE := fun σ H Q => ta σ H fun x H1 => ∃ c, x = .bl c ∧ Q (.bl (!c)) H1
theorem pe_one {op} {t : TE} (h : PE X a t) : PE X (.BoolOp op [a] pos) t := fun pins s σ H Q I hw => BoolOp_one (h pins s σ H Q I hw)
theorem pe_and (ha : PE X a ta) (hb : PE X (.BoolOp .And (b :: rest) pos) tb) : PE X (.BoolOp .And (a :: b :: rest) pos) (tAndV ta tb) := by
  intro pins s σ H Q I h
  refine BoolOp_and (thn (ha pins s σ H _ I h) fun v s1 ⟨x, H1, I1, r1, q1⟩ => ?_)
  obtain ⟨c, rfl, q1⟩ := q1
  cases r1
  refine wpAny_truthy_bool ?_
  cases c with
  | true => exact hb pins s1 σ H1 Q I1 q1
  | false => exact ⟨.bl false, H1, I1, rfl, q1⟩
theorem pe_or (ha : PE X a ta) (hb : PE X (.BoolOp .Or (b :: rest) pos) tb) : PE X (.BoolOp .Or (a :: b :: rest) pos) (tOrV ta tb) := by
  intro pins s σ H Q I h
  refine BoolOp_or (thn (ha pins s σ H _ I h) fun v s1 ⟨x, H1, I1, r1, q1⟩ => ?_)
  obtain ⟨c, rfl, q1⟩ := q1
  cases r1
  refine wpAny_truthy_bool ?_
  cases c with
  | false => exact hb pins s1 σ H1 Q I1 q1
  | true => exact ⟨.bl true, H1, I1, rfl, q1⟩
/-- a if t else b -/
noncomputable def tIf (t : TT) (ta tb : TE) : TE := fun σ H Q => t σ H fun c H1 => if c = true then ta σ H1 Q else tb σ H1 Q
end
end L2

namespace L2
open PySem PySem.Spec PyProof.Rows

noncomputable def SqL (K : PySem.W.Frag) (H : Hp) (a : Addr) (xs : List V) : Prop :=
  Rd H a (.lst xs) ∨
    ∃ (o : Obj) (its : Array Value) (n : Nat), K.lookup a = some o ∧ o.cls = .type "list" ∧ o.dict = none ∧ o.data = .seq its n ∧ its.size ≤ sizeLine ∧ Vals xs its.toList
noncomputable def SqT (K : PySem.W.Frag) (H : Hp) (a : Addr) (xs : List V) : Prop :=
  Rd H a (.tup xs) ∨
    ∃ (o : Obj) (its : Array Value) (n : Nat), K.lookup a = some o ∧ o.cls = .type "tuple" ∧ o.data = .seq its n ∧ its.size ≤ sizeLine ∧ Vals xs its.toList
noncomputable def absV : Value → Option V
  | .none => some .non
  | .bool b => some (.bl b)
  | .int i _ => some (.int i)
  | .str x _ => some (.str x)
  | .bytes b _ => some (.byt b)
  | .float b _ => some (.flt b)
  | .ref a => some (.ref a)
  | .type n => some (.ty n)
  | _ => none
theorem RelV.abs {x : V} {u : Value} (r : RelV x u) : absV u = some x := by
  cases x with
  | non => cases r; rfl
  | bl _ => cases r; rfl
  | int _ => obtain ⟨t, rfl⟩ := r; rfl
  | str _ => obtain ⟨t, rfl⟩ := r; rfl
  | byt _ => obtain ⟨t, rfl⟩ := r; rfl
  | flt _ => obtain ⟨t, rfl⟩ := r; rfl
  | ref _ => cases r; rfl
  | ty _ => cases r; rfl
theorem RelV.inj {x y : V} {u : Value} (r : RelV x u) (q : RelV y u) : x = y := Option.some.inj (r.abs.symm.trans q.abs)
theorem Vals.inj : ∀ {xs ys : List V} {us : List Value}, Vals xs us → Vals ys us → xs = ys
  | _, _, _, .nil, .nil => rfl
  | _, _, _, .cons r t, .cons r' t' => by rw [r.inj r', Vals.inj t t']
section
variable {X : Cx} {pins : List (Addr × Obj)} {σ : St} {H : Hp} {s : Shared} {a : Addr} {xs ys : List V}
theorem SqL.of {K : PySem.W.Frag} (h : H a = some (.lst xs)) : SqL K H a xs := .inl (.inl h)
theorem SqT.of {K : PySem.W.Frag} (h : H a = some (.tup xs)) : SqT K H a xs := .inl (.inl h)
theorem Inv.list (I : Inv X pins σ H s) (h : SqL X.K H a xs) : ∃ its : List Value, Vals xs its ∧ PlainL s.heap a its.toArray ∧ xs.length ≤ sizeLine := by
  rcases h with h | ⟨o, its, n, hk, hc, hd, hs, hz, r⟩
  · obtain ⟨z, its, n, r, e⟩ := h.ok I.hok
    exact ⟨its, r, ⟨_, n, e, rfl, rfl, rfl⟩, z⟩
  · refine ⟨its.toList, r, ⟨o, n, I.kIn a o hk, hc, hd, by simpa using hs⟩, ?_⟩
    have e := r.length
    simp only [Array.length_toList] at e
    omega
theorem Inv.tuple (I : Inv X pins σ H s) (h : SqT X.K H a xs) : ∃ its : List Value, Vals xs its ∧ IsTup s.heap a its.toArray ∧ xs.length ≤ sizeLine := by
  rcases h with h | ⟨o, its, n, hk, hc, hs, hz, r⟩
  · obtain ⟨z, its, r, p⟩ := h.ok I.hok
    exact ⟨its, r, p, z⟩
  · refine ⟨its.toList, r, ⟨o, I.kIn a o hk, hc, n, by simpa using hs⟩, ?_⟩
    have e := r.length
    simp only [Array.length_toList] at e
    omega
theorem Inv.list_inj (I : Inv X pins σ H s) (h : SqL X.K H a xs) (h' : SqL X.K H a ys) : xs = ys := by
  obtain ⟨its, r, ⟨o, n, e, _, _, d⟩, _⟩ := I.list h
  obtain ⟨its', r', ⟨o', n', e', _, _, d'⟩, _⟩ := I.list h'
  rw [e] at e'; cases e'
  rw [d] at d'
  injection d' with d1 _
  have : its = its' := by simpa using congrArg Array.toList d1
  subst this
  exact r.inj r'
theorem Inv.tuple_inj (I : Inv X pins σ H s) (h : SqT X.K H a xs) (h' : SqT X.K H a ys) : xs = ys := by
  obtain ⟨its, r, ⟨o, e, _, n, d⟩, _⟩ := I.tuple h
  obtain ⟨its', r', ⟨o', e', _, n', d'⟩, _⟩ := I.tuple h'
  rw [e] at e'; cases e'
  rw [d] at d'
  injection d' with d1 _
  have : its = its' := by simpa using congrArg Array.toList d1
  subst this
  exact r.inj r'
end

noncomputable abbrev Cx.wish (X : Cx) (E : Value → Shared → Prop) : Cx := { X with xe := E }
/-- no exception leaves -/
noncomputable abbrev Cx.nox (X : Cx) : Cx := X.wish fun _ _ => False
theorem Cx.Ok.wish {X : Cx} (ok : X.Ok) (E : Value → Shared → Prop) : (X.wish E).Ok :=
  ⟨ok.mod, ok.kind, ok.glob, ok.blt, ok.above, ok.inj, ok.has, ok.cab, ok.hd, ok.frames, ok.stk, ok.exf, ok.bs, ok.bsz, ok.noex, ok.exfs, ok.funs, ok.frf⟩
theorem Cx.Ok.unwish {X : Cx} {E : Value → Shared → Prop} (ok : (X.wish E).Ok) : X.Ok :=
  ⟨ok.mod, ok.kind, ok.glob, ok.blt, ok.above, ok.inj, ok.has, ok.cab, ok.hd, ok.frames, ok.stk, ok.exf, ok.bs, ok.bsz, ok.noex, ok.exfs, ok.funs, ok.frf⟩
section
variable {X : Cx} {pins : List (Addr × Obj)} {σ : St} {H : Hp} {s : Shared} {E : Value → Shared → Prop}
theorem Inv.wish (I : Inv X pins σ H s) (E : Value → Shared → Prop) : Inv (X.wish E) pins σ H s := ⟨I.ok.wish E, I.os, I.bare, I.base, I.loc, I.cell, I.free, I.freeC, I.pin, I.hok, I.len⟩
theorem Inv.unwish (I : Inv (X.wish E) pins σ H s) : Inv X pins σ H s := ⟨I.ok.unwish, I.os, I.bare, I.base, I.loc, I.cell, I.free, I.freeC, I.pin, I.hok, I.len⟩
theorem SP.unwish {D : Ends} {f : Flow} {s' : Shared} (h : SP (X.wish E) pins D f s') : SP X pins D f s' := by
  cases f with
  | next => obtain ⟨σ', H', I, q⟩ := h; exact ⟨σ', H', I.unwish, q⟩
  | brk => obtain ⟨σ', H', I, q⟩ := h; exact ⟨σ', H', I.unwish, q⟩
  | cont => obtain ⟨σ', H', I, q⟩ := h; exact ⟨σ', H', I.unwish, q⟩
  | ret u => obtain ⟨v, σ', H', I, r, q⟩ := h; exact ⟨v, σ', H', I.unwish, r, q⟩
theorem PSs.nox {st : List Stmt} {t : TS} (h : PSs X.nox st t) : PSs X st t := fun pins s σ H D I hw =>
  wpAny_mono (h pins s σ H D (I.wish _) hw) (fun _ _ q => q.unwish) fun _ _ z => False.elim z
end

section
variable {X : Cx} {st : Stmt} {rest : List Stmt} {t u : TS} {e : Expr} {te : TE} {pos : Pos}
noncomputable def tNext : TS := fun D σ H => D.nx σ H
noncomputable def tSeq (t u : TS) : TS := fun D σ H => t { D with nx := u D } σ H
theorem pss_nil : PSs X [] tNext := fun _ _ σ H _ I h => wpAny_execs_nil ⟨σ, H, I, h⟩
theorem pss_cons (h1 : PS X st t) (h2 : PSs X rest u) : PSs X (st :: rest) (tSeq t u) := by
  intro pins s σ H D I h
  refine wpAny_execs_cons (thn (h1 pins s σ H { D with nx := u D } I h) fun f s1 q => ?_)
  cases f with
  | next =>
    obtain ⟨σ', H', I', q⟩ := q
    exact h2 pins s1 σ' H' D I' q
  | ret v => exact q
  | brk => exact q
  | cont => exact q
theorem pss_one (h1 : PS X st t) : PSs X [st] t := by
  intro pins s σ H D I h
  refine wpAny_execs_cons (thn (h1 pins s σ H D I h) fun f s1 q => ?_)
  cases f with
  | next => exact wpAny_execs_nil q
  | ret v => exact q
  | brk => exact q
  | cont => exact q
/-- in a def's body nothing is shown -/
theorem Inv.quiet {pins : List (Addr × Obj)} {σ : St} {H : Hp} {s : Shared} (I : Inv X pins σ H s) : interactive X.env = false := by simp [interactive, I.ok.kind]
/-- an expression whose value is dropped -/
noncomputable def tDrop (te : TE) : TS := fun D σ H => te σ H fun _ H1 => D.nx σ H1
theorem ps_expr (he : PE X e te) (hs : swapsWith e none pos.line X.env = pure false := by rfl) : PS X (.Expr e pos) (tDrop te) := by
  intro pins s σ H D I h
  exact wpAny_Expr_any (thn (he pins s σ H _ I h) fun v s1 ⟨x, H1, I1, r1, q1⟩ => ⟨σ, H1, I1, q1⟩) I.quiet hs
noncomputable def tRet (te : TE) : TS := fun D σ H => te σ H D.rt
theorem ps_ret (he : PE X e te) : PS X (.Return (some e) pos) (tRet te) := by
  intro pins s σ H D I h
  exact wpAny_Return_some (thn (he pins s σ H _ I h) fun v s1 ⟨x, H1, I1, r1, q1⟩ => ⟨x, σ, H1, I1, r1, q1⟩)
noncomputable def tRetN : TS := fun D _ H => D.rt .non H
noncomputable def tIfS (c : TT) (t u : TS) : TS := fun D σ H => c σ H fun b H1 => if b = true then t D σ H1 else u D σ H1
theorem ps_if {c : Expr} {a b : List Stmt} {tc : TT} (hc : PT X c tc) (ha : PSs X a t) (hb : PSs X b u) : PS X (.If c a b pos) (tIfS tc t u) := by
  intro pins s σ H D I h
  refine wpAny_If (thn (hc pins s σ H _ I h) fun d s1 ⟨H1, I1, q1⟩ => ?_)
  cases d with
  | true => exact ha pins s1 σ H1 D I1 q1
  | false => exact hb pins s1 σ H1 D I1 q1
/-- code that the proof never comes to -/
noncomputable def tNever : TS := fun _ _ _ => False
theorem ps_never : PS X st tNever := fun _ _ _ _ _ _ h => h.elim
end

noncomputable abbrev TG := V → St → Hp → (St → Hp → Prop) → Prop
noncomputable abbrev TGs := List V → St → Hp → (St → Hp → Prop) → Prop
noncomputable def PG (X : Cx) (target : Expr) (t : TG) : Prop :=
  ∀ (pins : List (Addr × Obj)) (s : Shared) (σ : St) (H : Hp) (v : V) (u : Value) (Q : St → Hp → Prop), Inv X pins σ H s → RelV v u → t v σ H Q →
    wpAny (model X.prog X.w) X.A (assign target X.env u) (fun _ s' => ∃ σ' H', Inv X pins σ' H' s' ∧ Q σ' H') X.xe s
/-- several targets, one after another -/
noncomputable def PGs (X : Cx) (ts : List Expr) (t : TGs) : Prop :=
  ∀ (pins : List (Addr × Obj)) (s : Shared) (σ : St) (H : Hp) (vs : List V) (us : List Value) (Q : St → Hp → Prop), Inv X pins σ H s → Vals vs us → t vs σ H Q →
    wpAny (model X.prog X.w) X.A (assignInOrder ((assignEach ts X.env).map (·.2)) us) (fun _ s' => ∃ σ' H', Inv X pins σ' H' s' ∧ Q σ' H') X.xe s
/-- o[i] = v, by values -/
noncomputable abbrev TSet := V → V → V → Hp → (Hp → Prop) → Prop
noncomputable def PSet (X : Cx) (t : TSet) : Prop :=
  ∀ (pins : List (Addr × Obj)) (s : Shared) (σ : St) (H : Hp) (o i v : V) (ov iv u : Value) (Q : Hp → Prop), Inv X pins σ H s → RelV o ov → RelV i iv → RelV v u → t o i v H Q →
    wpAny (model X.prog X.w) X.A (setItem ov iv u) (fun _ s' => ∃ H', Inv X pins σ H' s' ∧ Q H') X.xe s
section
variable {X : Cx} {pos : Pos}
noncomputable def gName (i : Nat) : TG := fun v σ H Q => Q (σ.set i (some v)) H
theorem pg_name {i : Nat} {x : Str} (hN : X.N.Nodup) (hi : X.N[i]? = some x) (hx : Loc X.env.scope x) (hf : X.fn x = true ∨ X.env.scope.names.lookup x = some .local := by first | exact .inl rfl | exact .inr rfl | assumption) : PG X (.Name x pos) (gName i) := by
  intro pins s σ H v u Q I r h
  exact wpAny_assign_Name (store_ok I hN hi hx r (fun s' I' => ⟨_, H, I', h⟩) hf)
noncomputable def gNil : TGs := fun vs σ H Q => vs = [] ∧ Q σ H
noncomputable def gCons (t : TG) (u : TGs) : TGs := fun vs σ H Q => ∃ v r, vs = v :: r ∧ t v σ H fun σ' H' => u r σ' H' Q
theorem pgs_nil : PGs X [] gNil := by
  intro pins s σ H vs us Q I r h
  obtain ⟨e, h⟩ := h
  subst e
  cases r
  exact assignInOrder_nil ⟨σ, H, I, h⟩
theorem pgs_cons {e : Expr} {es : List Expr} {t : TG} {u : TGs} (h1 : PG X e t) (h2 : PGs X es u)
    (hs : (assignEach (e :: es) X.env).map (·.2) = assign e X.env :: (assignEach es X.env).map (·.2) := by rfl) : PGs X (e :: es) (gCons t u) := by
  intro pins s σ H vs us Q I r h
  obtain ⟨v, vr, e1, h⟩ := h
  subst e1
  cases r with
  | cons r rr =>
    rw [hs]
    refine assignInOrder_cons (thn (h1 pins s σ H _ _ _ I r h) fun _ s1 ⟨σ1, H1, I1, q1⟩ => ?_)
    exact h2 pins s1 σ1 H1 _ _ Q I1 rr q1
/-- (a, b, ..) = a tuple of that length -/
noncomputable def gTup (K : PySem.W.Frag) (n : Nat) (t : TGs) : TG := fun v σ H Q => ∃ a xs, v = .ref a ∧ SqT K H a xs ∧ xs.length = n ∧ t xs σ H Q
theorem pg_tup {es : List Expr} {k : Nat} {t : TGs} {n : Nat} (hc : X.calm = true) (h : PGs X es t)
    (hn : (assignEach es X.env).length = n := by rfl) (hst : (assignEach es X.env).findIdx? (·.1) = none := by rfl) : PG X (.Tuple es k pos) (gTup X.K n t) := by
  intro pins s σ H v u Q I r hw
  obtain ⟨a, xs, e1, hq, hl, hw⟩ := hw
  subst e1
  cases r
  obtain ⟨its, rv, ht, hz⟩ := I.tuple hq
  refine assign_Tuple_tuple (I.ok.hd hc) ht (by simp [hn, ← hl, rv.length]) hst fun h' hx => ?_
  have I1 : Inv X pins σ H { s with heap := h' } := I.kept (t' := s.toks) fun b o e => hx b o (Nat.ne_of_lt (Heap.lt_size e)) e
  exact h pins _ σ H xs _ Q I1 (by simpa using rv) hw
/-- o[i] = .. -/
noncomputable def gSub (to ti : TE) (t : TSet) : TG := fun v σ H Q => to σ H fun o H1 => ti σ H1 fun i H2 => t o i v H2 fun H3 => Q σ H3
theorem pg_sub {o i : Expr} {to ti : TE} {t : TSet} (ho : PE X o to) (hi : PE X i ti) (hs : PSet X t)
    (ha : ∀ v, assign (.Subscript o i pos) X.env v = (do
      let ov ← holding [v] (eval o X.env)
      let iv ← holding [v, ov] (eval i X.env)
      standAt pos
      holding [v, ov, iv] (setItem ov iv v)
      release [v, ov, iv] []) := by intro _; rfl) : PG X (.Subscript o i pos) (gSub to ti t) := by
  intro pins s σ H v u Q I r h
  rw [ha]
  refine wpAny_bind (wpAny_holding (thn (ho pins s σ H _ I h) fun ov s1 ⟨x, H1, I1, r1, q1⟩ => ?_))
  refine wpAny_bind (wpAny_holding (thn (hi pins s1 σ H1 _ I1 q1) fun iv s2 ⟨y, H2, I2, r2, q2⟩ => ?_))
  refine wpAny_bind (wpAny_standAt (wpAny_bind (wpAny_holding (thn (hs pins s2 σ H2 x y v ov iv u _ I2 r1 r2 r q2) fun _ s3 ⟨H3, I3, q3⟩ => ?_))))
  exact wpAny_release ⟨σ, H3, I3, q3⟩
/-- target = value -/
noncomputable def tAsg (te : TE) (g : TG) : TS := fun D σ H => te σ H fun x H1 => g x σ H1 D.nx
theorem ps_asg {tg e : Expr} {te : TE} {g : TG} (he : PE X e te) (hg : PG X tg g) (hs : swapsWithSole [tg] e pos.line X.env = pure false := by rfl) (hw : swappedStores [tg] e X.env = pure none := by rfl)
    (h1 : (assignEach [tg] X.env).map (·.2) = [assign tg X.env] := by rfl) : PS X (.Assign [tg] e pos) (tAsg te g) := by
  intro pins s σ H D I h
  refine wpAny_Assign_stores (thn (he pins s σ H _ I h) fun v s1 ⟨x, H1, I1, r1, q1⟩ => ?_) hs hw
  rw [h1]
  exact thn (hg pins s1 σ H1 x v _ I1 r1 q1) fun _ s2 q => q
/-- name = value -/
theorem ps_set {i : Nat} {x : Str} {e : Expr} {te : TE} {pos' : Pos} (hN : X.N.Nodup) (hi : X.N[i]? = some x) (hx : Loc X.env.scope x) (he : PE X e te) (hs : swapsWith e (some (.Name x pos')) pos.line X.env = pure false := by rfl) (hf : X.fn x = true ∨ X.env.scope.names.lookup x = some .local := by first | exact .inl rfl | exact .inr rfl | assumption) :
    PS X (.Assign [.Name x pos'] e pos) (tAsg te (gName i)) := by
  intro pins s σ H D I h
  refine wpAny_Assign_Name (thn (he pins s σ H _ I h) fun v s1 ⟨y, H1, I1, r1, q1⟩ => ?_) hs
  exact store_ok I1 hN hi hx r1 (fun s2 I2 => ⟨_, H1, I2, q1⟩) hf
end

section
variable {X : Cx} {pos : Pos}
end

/-- at turn i: it yields x (the heap may grow), or it stops -/
structure It where
  go : Nat → Hp → Prop
  yld : Nat → Hp → V → Hp → Prop
  stop : Nat → Hp → Prop
/-- the iterator's own objects may turn: they are not the frame's, not pinned, younger than the entry (or a comprehension's own) -/
noncomputable def FpOk (X : Cx) (pins : List (Addr × Obj)) (H : Hp) (b : Addr) : Prop :=
  H b = none ∧ b ≠ X.env.locals ∧ b ∉ X.fs ∧ (b ∈ X.ex ∨ X.s₀.heap.objs.size ≤ b) ∧ (∀ x c, X.env.cells.lookup x = some c → c ≠ b) ∧ ∀ p ∈ X.pn ++ pins, p.1 ≠ b
theorem Inv.fpOk {X : Cx} {pins : List (Addr × Obj)} {σ : St} {H H' : Hp} {s : Shared} {b : Addr} (I : Inv X pins σ H s) (hb : s.heap.objs.size ≤ b) (hn : H' b = none) : FpOk X pins H' b := by
  refine ⟨hn, Nat.ne_of_gt (Nat.lt_of_lt_of_le I.lt hb), I.nofs hb, .inr (Nat.le_trans I.sz hb), fun x c e z => ?_, fun p hp z => ?_⟩
  · obtain ⟨v, q⟩ := I.cell x c e
    exact absurd (Nat.lt_of_lt_of_le q.lt (by rw [z]; exact hb)) (Nat.lt_irrefl _)
  · exact absurd (Nat.lt_of_lt_of_le (Heap.lt_size (I.pin p hp).1) (by rw [z]; exact hb)) (Nat.lt_irrefl _)
structure Turn (P : Program) (w : World) (K : PySem.W.Frag) (tg : Expr) (J : It) (fp : List Addr) (it : Addr) (tn : Nat → Heap → Prop) : Prop where
  mem : it ∈ fp
  obj : ∀ i h, tn i h → ∀ b ∈ fp, ∃ o, h.get? b = some o ∧ ∀ v, o.data ≠ .cell v
  keep : ∀ i h h', tn i h → (∀ b ∈ fp, ∀ o, h.get? b = some o → h'.get? b = some o) → tn i h'
  item : ∀ (X : Cx), X.prog = P → X.w = w → X.K = K → X.calm = true → ∀ (i : Nat) (pins : List (Addr × Obj)) (s : Shared) (σ : St) (H : Hp) (E : Value → Shared → Prop), Inv X pins σ H s → (∀ b ∈ fp, FpOk X pins H b) → tn i s.heap → J.go i H →
    wpAny (model P w) X.A (pyNext (.ref it)) (fun r s1 => ∃ u, r = some u ∧
      wpAny (model P w) X.A (letOwnedTupleGo tg (.ref it) u) (fun _ s2 => ∃ x H', Inv X pins σ H' s2 ∧ RelV x u ∧ J.yld i H x H' ∧ tn (i + 1) s2.heap ∧ ∀ b ∈ fp, H' b = none) E s1) E s
  done : ∀ (X : Cx), X.prog = P → X.w = w → X.K = K → X.calm = true → ∀ (i : Nat) (pins : List (Addr × Obj)) (s : Shared) (σ : St) (H : Hp) (E : Value → Shared → Prop), Inv X pins σ H s → (∀ b ∈ fp, FpOk X pins H b) → tn i s.heap → J.stop i H →
    wpAny (model P w) X.A (pyNext (.ref it)) (fun r s1 => r = none ∧ Inv X pins σ H s1) E s
  self : ∀ (A : Around) (i : Nat) (s : Shared) (Q : Value → Shared → Prop) (E : Value → Shared → Prop), tn i s.heap → Q (.ref it) s → wpAny (model P w) A (pyIter (.ref it)) Q E s
noncomputable abbrev TI := St → Hp → (It → Hp → Prop) → Prop
/-- an iterator has come -/
noncomputable def PIE (X : Cx) (pins : List (Addr × Obj)) (σ : St) (tg : Expr) (R : It → Hp → Prop) (itv : Value) (s2 : Shared) : Prop :=
  ∃ (it : Addr) (fp : List Addr) (tn : Nat → Heap → Prop) (J : It) (H' : Hp), itv = .ref it ∧ Inv X pins σ H' s2 ∧ Turn X.prog X.w X.K tg J fp it tn ∧ tn 0 s2.heap ∧ (∀ b ∈ fp, FpOk X pins H' b) ∧ R J H'
noncomputable def PI (X : Cx) (tg iter : Expr) (wi : TI) : Prop :=
  ∀ (pins : List (Addr × Obj)) (s : Shared) (σ : St) (H : Hp) (R : It → Hp → Prop), Inv X pins σ H s → wi σ H R →
    wpAny (model X.prog X.w) X.A (eval iter X.env) (fun v s1 => wpAny (model X.prog X.w) X.A (pyIter v) (PIE X pins σ tg R) X.xe s1) X.xe s

/-- the step ahead of the store is nothing for an iterator that keeps no tuple -/
theorem go_of {M : Model} {A : Around} {E : Value → Shared → Prop} {s : Shared} {tg : Expr} {it : Addr} {u : Value} {o : Obj} {n : String} {vs : Array Value} {Q : Unit → Shared → Prop} (ho : s.heap.get? it = some o) (hc : o.cls = .type n) (hd : o.data = .fields vs)
    (hn : ["enumerate", "zip", "dict_itemiterator", "dict_reverseitemiterator", "odict_iterator", "itertools.zip_longest", "itertools.pairwise"].contains n = false) (hQ : Q () s) : wpAny M A (letOwnedTupleGo tg (.ref it) u) Q E s := by
  unfold letOwnedTupleGo
  cases tg <;> first
    | exact wpAny_pure hQ
    | (cases u <;> first
        | exact wpAny_pure hQ
        | (refine wpAny_bind (wpAny_load ho ?_)
           rw [hc, hd]
           show wpAny M A (if (["enumerate", "zip", "dict_itemiterator", "dict_reverseitemiterator", "odict_iterator", "itertools.zip_longest", "itertools.pairwise"].contains n && vs[0]? == some (rawInt _)) = true then _ else _) Q E s
           rw [if_neg (by intro h; rw [hn, Bool.false_and] at h; cases h)]
           exact wpAny_pure hQ))

/-- the list at a, as it stands at each turn (a loop may append to it) -/
noncomputable def Itl (K : PySem.W.Frag) (a : Addr) : It :=
  ⟨fun i H => ∃ xs x, SqL K H a xs ∧ xs[i]? = some x, fun i H x H' => H' = H ∧ ∀ xs, SqL K H a xs → xs[i]? = some x, fun i H => ∃ xs, SqL K H a xs ∧ xs.length ≤ i⟩
noncomputable def Itt (K : PySem.W.Frag) (a : Addr) : It :=
  ⟨fun i H => ∃ xs x, SqT K H a xs ∧ xs[i]? = some x, fun i H x H' => H' = H ∧ ∀ xs, SqT K H a xs → xs[i]? = some x, fun i H => ∃ xs, SqT K H a xs ∧ xs.length ≤ i⟩
/-- lo, lo + 1, .. (n of them) -/
noncomputable def Itr (lo : Int) (n : Nat) : It := ⟨fun i _ => i < n, fun i H x H' => H' = H ∧ x = .int (lo + i), fun i _ => n ≤ i⟩
theorem turn_list {P : Program} {w : World} {K : PySem.W.Frag} {tg : Expr} (a it : Addr) : Turn P w K tg (Itl K a) [it] it (fun i h => h.IsListIter it a i) where
  mem := by simp
  obj := fun i h st b hb => by
    have e : b = it := by simpa using hb
    subst e
    obtain ⟨o, e, c, d⟩ := st
    exact ⟨o, e, fun v z => by rw [d] at z; cases z⟩
  keep := fun i h h' st k => st.at fun o e => k it (by simp) o e
  item := by
    intro X hP hw hK hc i pins s σ H E I hf st hg
    subst hP hw hK
    obtain ⟨xs, x, hq, hx⟩ := hg
    obtain ⟨its, rv, p, hz⟩ := I.list hq
    obtain ⟨u, hu, ru⟩ := rv.get hx
    obtain ⟨f0, f1, f2, f3, f4, f5⟩ := hf it (by simp)
    refine wpAny_pyNext_list_item st p.isList (x := u) (by simpa using hu) fun h' st' sb => ?_
    have I1 : Inv X pins σ H { s with heap := h' } := I.turned (t' := s.toks) (fun b o hb e => (sb.2 b hb).trans e) f0 f1 f3 f4 f5
    obtain ⟨o, e, c, d⟩ := id st'
    exact ⟨u, rfl, go_of (s := { s with heap := h' }) e c d (by decide) ⟨x, H, I1, ru, ⟨rfl, fun ys hy => by rw [I.list_inj hy hq]; exact hx⟩, st', fun b hb => (hf b hb).1⟩⟩
  done := by
    intro X hP hw hK hc i pins s σ H E I hf st hg
    subst hP hw hK
    obtain ⟨xs, hq, hx⟩ := hg
    obtain ⟨its, rv, p, hz⟩ := I.list hq
    obtain ⟨f0, f1, f2, f3, f4, f5⟩ := hf it (by simp)
    have hl := rv.length
    exact wpAny_pyNext_list_end (I.ok.hd hc) st p.isList (by simp; omega) fun h' eb => ⟨rfl, I.turned (t' := s.toks) (fun b o hb e => eb b o hb e) f0 f1 f3 f4 f5⟩
  self := fun _ _ _ _ _ st h => wpAny_pyIter_listiter st h
theorem turn_tuple {P : Program} {w : World} {K : PySem.W.Frag} {tg : Expr} (a it : Addr) : Turn P w K tg (Itt K a) [it] it (fun i h => h.IsTupleIter it a i) where
  mem := by simp
  obj := fun i h st b hb => by
    have e : b = it := by simpa using hb
    subst e
    obtain ⟨o, e, c, d⟩ := st
    exact ⟨o, e, fun v z => by rw [d] at z; cases z⟩
  keep := fun i h h' st k => st.at fun o e => k it (by simp) o e
  item := by
    intro X hP hw hK hc i pins s σ H E I hf st hg
    subst hP hw hK
    obtain ⟨xs, x, hq, hx⟩ := hg
    obtain ⟨its, rv, p, hz⟩ := I.tuple hq
    obtain ⟨u, hu, ru⟩ := rv.get hx
    obtain ⟨f0, f1, f2, f3, f4, f5⟩ := hf it (by simp)
    refine wpAny_pyNext_tuple_item st (show s.heap.IsTuple a its.toArray from p) (x := u) (by simpa using hu) fun h' st' sb => ?_
    have I1 : Inv X pins σ H { s with heap := h' } := I.turned (t' := s.toks) (fun b o hb e => (sb.2 b hb).trans e) f0 f1 f3 f4 f5
    obtain ⟨o, e, c, d⟩ := id st'
    exact ⟨u, rfl, go_of (s := { s with heap := h' }) e c d (by decide) ⟨x, H, I1, ru, ⟨rfl, fun ys hy => by rw [I.tuple_inj hy hq]; exact hx⟩, st', fun b hb => (hf b hb).1⟩⟩
  done := by
    intro X hP hw hK hc i pins s σ H E I hf st hg
    subst hP hw hK
    obtain ⟨xs, hq, hx⟩ := hg
    obtain ⟨its, rv, p, hz⟩ := I.tuple hq
    obtain ⟨f0, f1, f2, f3, f4, f5⟩ := hf it (by simp)
    have hl := rv.length
    exact wpAny_pyNext_tuple_end (I.ok.hd hc) st (show s.heap.IsTuple a its.toArray from p) (by simp; omega) fun h' eb => ⟨rfl, I.turned (t' := s.toks) (fun b o hb e => eb b o hb e) f0 f1 f3 f4 f5⟩
  self := fun _ _ _ _ _ st h => wpAny_pyIter_tupleiter st h
theorem turn_range {P : Program} {w : World} {K : PySem.W.Frag} {tg : Expr} (it : Addr) (lo : Int) (n : Nat) : Turn P w K tg (Itr lo n) [it] it (fun i h => IsRangeIter h it (lo + (i : Nat) * 1) ((n : Int) - (i : Nat)) 1) where
  mem := by simp
  obj := fun i h st b hb => by
    have e : b = it := by simpa using hb
    subst e
    exact ⟨_, st, fun v z => by
      have z' : Data.fields _ = Data.cell v := z
      cases z'⟩
  keep := fun i h h' st k => k it (by simp) _ st
  item := by
    intro X hP hw hK hc i pins s σ H E I hf st hg
    subst hP hw hK
    obtain ⟨f0, f1, f2, f3, f4, f5⟩ := hf it (by simp)
    have W := Walks.range (prog := X.prog) (w := X.w) (I.ok.hd hc) it lo 1 n
    refine W.item i s _ _ hg st fun v h' tk hv st' kk => ?_
    obtain ⟨t, rfl⟩ := hv
    have I1 : Inv X pins σ H { s with heap := h', toks := tk } := I.turned (fun b o hb e => kk b o (by simpa using hb) e) f0 f1 f3 f4 f5
    refine ⟨_, rfl, go_of (s := { s with heap := h', toks := tk }) (n := "range_iterator") st' rfl rfl (by decide) ⟨.int (lo + i), H, I1, ⟨t, ?_⟩, ⟨rfl, rfl⟩, st', fun b hb => (hf b hb).1⟩⟩
    rw [Int.mul_one]
  done := by
    intro X hP hw hK hc i pins s σ H E I hf st hg
    subst hP hw hK
    obtain ⟨f0, f1, f2, f3, f4, f5⟩ := hf it (by simp)
    exact wpAny_pyNext_range_end (I.ok.hd hc) st (by have : n ≤ i := hg; omega) fun h' eb => ⟨rfl, I.turned (t' := s.toks) (fun b o hb e => eb b o hb e) f0 f1 f3 f4 f5⟩
  self := fun _ _ _ _ _ st h => wpAny_pyIter_rangeiter st h
end L2

namespace L2
open PySem PySem.Spec PyProof.Rows
section
variable {X : Cx} {tg : Expr}
/-- a range object just made, walked -/
theorem range_it {pins : List (Addr × Obj)} {σ : St} {H : Hp} {s : Shared} {R : It → Hp → Prop} {E : Value → Shared → Prop} {lo hi : Int} {t u v : Tok} {tk : Nat} (I : Inv X pins σ H s) (h1 : -(2 ^ 62) ≤ lo) (h2 : lo < 2 ^ 62) (h3 : -(2 ^ 62) ≤ hi) (h4 : hi < 2 ^ 62)
    (q : R (Itr lo (hi - lo).toNat) H) : wpAny (model X.prog X.w) X.A (pyIter (.ref s.heap.objs.size)) (PIE X pins σ tg R) E { s with heap := s.heap.push { cls := .type "range", data := .fields #[.int lo t, .int hi u, .int 1 v] }, toks := tk } := by
  refine wpAny_pyIter_range (IsRange.new ..) (small_one h1 h2 h3 h4) ?_
  have I1 : Inv X pins σ H { s with heap := s.heap.push { cls := .type "range", data := .fields #[.int lo t, .int hi u, .int 1 v] }, toks := tk } := I.kept fun b o e => Heap.get?_push_of_some _ e
  refine ⟨(s.heap.push { cls := .type "range", data := .fields #[.int lo t, .int hi u, .int 1 v] }).objs.size, [(s.heap.push { cls := .type "range", data := .fields #[.int lo t, .int hi u, .int 1 v] }).objs.size], _, _, H, rfl,
    I1.kept (t' := tk) fun b o e => Heap.get?_push_of_some _ e, turn_range _ lo (hi - lo).toNat, ?_, fun b hb => ?_, q⟩
  · have e1 : lo + ((0 : Nat) : Int) * 1 = lo := by simp
    have e2 : (((hi - lo).toNat : Nat) : Int) - ((0 : Nat) : Int) = Builtin.Range.rangeSize lo hi 1 := by rw [rangeSize_one]; split <;> omega
    show IsRangeIter _ _ (lo + ((0 : Nat) : Int) * 1) ((((hi - lo).toNat : Nat) : Int) - ((0 : Nat) : Int)) 1
    rw [e1, e2]
    exact Heap.get?_push_size _ rfl
  · have e : b = (s.heap.push { cls := .type "range", data := .fields #[.int lo t, .int hi u, .int 1 v] }).objs.size := by simpa using hb
    subst e
    exact I1.fpOk (Nat.le_refl _) (I1.hok.fresh (Nat.le_refl _))
noncomputable def iRng1 (ta : TA) : TI := fun σ H R => ta σ H fun vs H1 => ∃ j : Int, vs = [.int j] ∧ -(2 ^ 62) ≤ j ∧ j < 2 ^ 62 ∧ R (Itr 0 j.toNat) H1
noncomputable def iRng2 (ta : TA) : TI := fun σ H R => ta σ H fun vs H1 => ∃ i j : Int, vs = [.int i, .int j] ∧ (-(2 ^ 62) ≤ i ∧ i < 2 ^ 62 ∧ -(2 ^ 62) ≤ j ∧ j < 2 ^ 62) ∧ R (Itr i (j - i).toNat) H1
theorem pi_range1 {a : Expr} {ta : TA} {p pos : Pos} (hg : Gl X "range") (hm : X.mg "range" = none) (ha : PA X [a] ta) (hs : starEach [a] X.env = [(false, eval a X.env)] := by rfl) : PI X tg (.Call (.Name "range" p) [a] [] pos) (iRng1 ta) := by
  intro pins s σ H R I h
  refine Call_ (ld_blt I hg hm boot_range (PyProof.Rows.callWith_type1 (thn (ha pos pins s σ H _ I h) fun us s1 ⟨vs, H1, I1, r1, q1⟩ => ?_) hs rfl))
  obtain ⟨j, e, q1, q2, q⟩ := q1
  subst e
  cases r1 with
  | cons r rr =>
    cases rr
    obtain ⟨t, rfl⟩ := r
    exact call_range_1 (range_it I1 (by omega) (by omega) q1 q2 (by simpa using q))
theorem pi_range2 {a b : Expr} {ta : TA} {p pos : Pos} (hg : Gl X "range") (hm : X.mg "range" = none) (ha : PA X [a, b] ta) (hs : starEach [a, b] X.env = [(false, eval a X.env), (false, eval b X.env)] := by rfl) (hs2 : starEach [b] X.env = [(false, eval b X.env)] := by rfl) :
    PI X tg (.Call (.Name "range" p) [a, b] [] pos) (iRng2 ta) := by
  intro pins s σ H R I h
  refine Call_ (ld_blt I hg hm boot_range (PyProof.Rows.callWith_type1 (thn (ha pos pins s σ H _ I h) fun us s1 ⟨vs, H1, I1, r1, q1⟩ => ?_) (by rw [hs, hs2]) (by rw [hs2]; rfl)))
  obtain ⟨i, j, e, ⟨q1, q2, q3, q4⟩, q⟩ := q1
  subst e
  cases r1 with
  | cons r rr =>
    cases rr with
    | cons r' rr =>
      cases rr
      obtain ⟨t, rfl⟩ := r
      obtain ⟨t', rfl⟩ := r'
      exact call_range_2 (range_it I1 q1 q2 q3 q4 q)

/-- W: the invariant by the turn and a measure; N: what the body is to reach -/
noncomputable def tFor (wi : TI) (g : TG) (tb : TS) : TS := fun D σ H => wi σ H fun J H1 => ∃ W : Nat → Nat → St → Hp → Prop, (∃ m, W 0 m σ H1) ∧ ∀ i m σ H, W i m σ H →
  (J.stop i H ∧ D.nx σ H) ∨ (J.go i H ∧ ∃ N : St → Hp → Prop, (∀ σ' H', N σ' H' → ∃ m', m' < m ∧ W (i + 1) m' σ' H') ∧ ∀ x H', J.yld i H x H' → g x σ H' fun σ2 H2 => tb { D with nx := N, ct := N, bk := D.nx } σ2 H2)
/-- the records at fp as they stand -/
noncomputable def pinsAt (fp : List Addr) (h : Heap) : List (Addr × Obj) := fp.filterMap fun b => (h.get? b).map fun o => (b, o)
theorem mem_pinsAt {fp : List Addr} {h : Heap} {b : Addr} {o : Obj} (hb : b ∈ fp) (e : h.get? b = some o) : (b, o) ∈ pinsAt fp h := List.mem_filterMap.mpr ⟨b, hb, by rw [e]; rfl⟩
theorem of_pinsAt {fp : List Addr} {h : Heap} {p : Addr × Obj} (hp : p ∈ pinsAt fp h) : p.1 ∈ fp ∧ h.get? p.1 = some p.2 := by
  obtain ⟨b, hb, e⟩ := List.mem_filterMap.mp hp
  cases q : h.get? b with
  | none => rw [q] at e; cases e
  | some o =>
    rw [q] at e
    have e' : (b, o) = p := Option.some.inj e
    subst e'
    exact ⟨hb, q⟩
theorem Inv.pinned {pins : List (Addr × Obj)} {σ : St} {H : Hp} {s : Shared} {fp : List Addr} (I : Inv X pins σ H s) (hf : ∀ b ∈ fp, FpOk X pins H b) (ho : ∀ b ∈ fp, ∃ o, s.heap.get? b = some o ∧ ∀ v, o.data ≠ .cell v) : Inv X (pins ++ pinsAt fp s.heap) σ H s :=
  I.pins_of fun p hp => (List.mem_append.mp hp).elim (fun z => I.pin p (List.mem_append_right _ z)) fun z => by
    obtain ⟨hb, e⟩ := of_pinsAt z
    obtain ⟨f0, f1, f2, _⟩ := hf p.1 hb
    obtain ⟨o, e', d⟩ := ho p.1 hb
    rw [e] at e'; cases e'
    exact ⟨e, f0, f1, f2, d⟩
theorem Inv.unpinned {pins pl : List (Addr × Obj)} {σ : St} {H : Hp} {s : Shared} (I : Inv X (pins ++ pl) σ H s) : Inv X pins σ H s := I.pins_of fun p hp => I.pin p (List.mem_append_right _ (List.mem_append_left _ hp))
theorem ps_for {iter : Expr} {body : List Stmt} {wi : TI} {g : TG} {tb : TS} {pos : Pos} (hp : PassesOwn (model X.prog X.w) X.A X.env X.xe) (hc : X.calm = true) (hi : PI X tg iter wi) (hg : PG X tg g) (hb : PSs X body tb)
    (hs : ∀ x, foldedSetIterable iter X.env x = pure x := by intro _; rfl) : PS X (.For tg iter body [] pos) (tFor wi g tb) := by
  intro pins s σ H D I h
  refine wpAny_For (thn (hi pins s σ H _ I h) fun v s1 h1 => thn h1 fun itv s2 h2 => ?_) hs
  obtain ⟨it, fp, tn, J, H2, e, I2, T, st2, f2, W, ⟨m0, w0⟩, turn⟩ := h2
  subst e
  -- what stays true of the iterator's objects through the loop
  have stat : ∀ {H' : Hp}, (∀ b ∈ fp, H' b = none) → ∀ b ∈ fp, FpOk X pins H' b := fun hn b hb => ⟨hn b hb, (f2 b hb).2⟩
  refine codeAny_forLoop_any (fun n s' => ∃ i σ' H', Inv X pins σ' H' s' ∧ tn i s'.heap ∧ (∀ b ∈ fp, H' b = none) ∧ W i n σ' H') ?_ m0 ⟨0, σ, H2, I2, st2, fun b hb => (f2 b hb).1, w0⟩
  rintro n s3 ⟨i, σ3, H3, I3, st3, fr3, w3⟩
  rcases turn i n σ3 H3 w3 with ⟨stop, qn⟩ | ⟨go, N, hN, step⟩
  · refine wpAny_passesOwn hp (thn (T.done X rfl rfl rfl hc i pins s3 σ3 H3 X.xe I3 (stat fr3) st3 stop) fun r s4 ⟨hr, I4⟩ => ?_)
    subst hr
    exact wpAny_execs_nil ⟨σ3, H3, I4, qn⟩
  · refine wpAny_passesOwn hp (thn (T.item X rfl rfl rfl hc i pins s3 σ3 H3 X.xe I3 (stat fr3) st3 go) fun r s4 ⟨u, hr, h4⟩ => ?_)
    subst hr
    refine wpAny_passesOwn hp (thn h4 fun _ s5 ⟨x, H5, I5, r5, y5, st5, fr5⟩ => ?_)
    have I5' := I5.pinned (stat fr5) (T.obj _ _ st5)
    refine wpAny_passesOwn hp (thn (hg _ s5 σ3 H5 x u _ I5' r5 (step x H5 y5)) fun _ s6 ⟨σ6, H6, I6, q6⟩ => ?_)
    refine wpAny_passesOwn hp (thn (hb _ s6 σ6 H6 _ I6 q6) fun f s7 q7 => ?_)
    have again : ∀ {σ7 : St} {H7 : Hp}, Inv X (pins ++ pinsAt fp s5.heap) σ7 H7 s7 → N σ7 H7 → ∃ m, m < n ∧ ∃ i σ' H', Inv X pins σ' H' s7 ∧ tn i s7.heap ∧ (∀ b ∈ fp, H' b = none) ∧ W i m σ' H' := fun {σ7 H7} I7 n7 => by
      obtain ⟨m', hm, w7⟩ := hN σ7 H7 n7
      refine ⟨m', hm, i + 1, σ7, H7, I7.unpinned, T.keep _ _ _ st5 fun b hb o e => (I7.pin (b, o) (List.mem_append_right _ (List.mem_append_right _ (mem_pinsAt hb e)))).1, fun b hb => ?_, w7⟩
      obtain ⟨o, e, d⟩ := T.obj _ _ st5 b hb
      exact (I7.pin (b, o) (List.mem_append_right _ (List.mem_append_right _ (mem_pinsAt hb e)))).2.1
    cases f with
    | next => obtain ⟨σ7, H7, I7, n7⟩ := q7; exact again I7 n7
    | cont => obtain ⟨σ7, H7, I7, n7⟩ := q7; exact again I7 n7
    | brk => obtain ⟨σ7, H7, I7, q7⟩ := q7; exact ⟨σ7, H7, I7.unpinned, q7⟩
    | ret v => obtain ⟨x7, σ7, H7, I7, r7, q7⟩ := q7; exact ⟨x7, σ7, H7, I7.unpinned, r7, q7⟩
end

theorem for_range {lo : Int} {n : Nat} {g : TG} {tb : TS} {D : Ends} {σ : St} {H : Hp} (Pv : Nat → St → Hp → Prop) (h0 : Pv 0 σ H)
    (hs : ∀ i σ H, i < n → Pv i σ H → g (.int (lo + i)) σ H fun σ2 H2 => tb { D with nx := Pv (i + 1), ct := Pv (i + 1), bk := D.nx } σ2 H2) (hd : ∀ σ H, Pv n σ H → D.nx σ H) :
    ∃ W : Nat → Nat → St → Hp → Prop, (∃ m, W 0 m σ H) ∧ ∀ i m σ H, W i m σ H →
      ((Itr lo n).stop i H ∧ D.nx σ H) ∨ ((Itr lo n).go i H ∧ ∃ N : St → Hp → Prop, (∀ σ' H', N σ' H' → ∃ m', m' < m ∧ W (i + 1) m' σ' H') ∧ ∀ x H', (Itr lo n).yld i H x H' → g x σ H' fun σ2 H2 => tb { D with nx := N, ct := N, bk := D.nx } σ2 H2) := by
  refine ⟨fun i m σ H => m = n - i ∧ i ≤ n ∧ Pv i σ H, ⟨n, by simp, Nat.zero_le _, h0⟩, ?_⟩
  rintro i m σ H ⟨rfl, hi, p⟩
  by_cases hlt : i < n
  · refine .inr ⟨hlt, Pv (i + 1), fun σ' H' p' => ⟨n - (i + 1), by omega, rfl, hlt, p'⟩, fun x H' y => ?_⟩
    obtain ⟨e, y⟩ := y
    subst e y
    exact hs i σ _ hlt p
  · have e : i = n := by omega
    subst e
    exact .inl ⟨Nat.le_refl _, hd σ H p⟩
end L2

namespace L2
open PySem PySem.Spec PyProof.Rows

noncomputable abbrev R2 := V → V → Hp → VK → Prop
/-- a two-place operation on values: f is binaryOp op, inplaceOp op or compareOp op -/
noncomputable def OpR (X : Cx) (f : Value → Value → Sem Value) (r : R2) : Prop :=
  ∀ (pins : List (Addr × Obj)) (s : Shared) (σ : St) (H : Hp) (x y : V) (v u : Value) (Q : VK), Inv X pins σ H s → RelV x v → RelV y u → r x y H Q →
    wpAny (model X.prog X.w) X.A (f v u) (EP X pins σ Q) X.xe s
/-- a call of a value that is known (a builtin, a type) with values -/
noncomputable def CallR (X : Cx) (f : Value) (r : List V → Hp → VK → Prop) : Prop :=
  ∀ (pins : List (Addr × Obj)) (s : Shared) (σ : St) (H : Hp) (xs : List V) (us : List Value) (Q : VK), Inv X pins σ H s → Vals xs us → r xs H Q →
    wpAny (model X.prog X.w) X.A (call f us) (EP X pins σ Q) X.xe s
/-- a value's truth -/
noncomputable def TruR (X : Cx) (r : V → Hp → (Bool → Hp → Prop) → Prop) : Prop :=
  ∀ (pins : List (Addr × Obj)) (s : Shared) (σ : St) (H : Hp) (x : V) (v : Value) (Q : Bool → Hp → Prop), Inv X pins σ H s → RelV x v → r x H Q →
    wpAny (model X.prog X.w) X.A (truthy v) (TP X pins σ Q) X.xe s

noncomputable def tOp (r : R2) (ta tb : TE) : TE := fun σ H Q => ta σ H fun x H1 => tb σ H1 fun y H2 => r x y H2 Q
noncomputable def tUn (r : V → Hp → VK → Prop) (ta : TE) : TE := fun σ H Q => ta σ H fun x H1 => r x H1 Q
/-- ints in, under C, and a value out -/
noncomputable def rI (C : Int → Int → Prop) (g : Int → Int → V) : R2 := fun x y H Q => ∃ i j, x = .int i ∧ y = .int j ∧ C i j ∧ Q (g i j) H
noncomputable def rI0 (g : Int → Int → V) : R2 := fun x y H Q => ∃ i j, x = .int i ∧ y = .int j ∧ Q (g i j) H
noncomputable def rU (g : Int → V) : V → Hp → VK → Prop := fun x H Q => ∃ i, x = .int i ∧ Q (g i) H

section
variable {X : Cx} {a b c : Expr} {ta tb tc : TE} {pos : Pos}

theorem binT (ha : PE X a ta) (hb : PE X b tb) {pins : List (Addr × Obj)} {s : Shared} {σ : St} {H : Hp} {R : V → V → Hp → Prop} (I : Inv X pins σ H s)
    (h : ta σ H fun x H1 => tb σ H1 fun y H2 => R x y H2) {Q : Value → Shared → Prop} {f : Value → Value → Sem Value}
    (hf : ∀ v u s2 x y H2, Inv X pins σ H2 s2 → RelV x v → RelV y u → R x y H2 → wpAny (model X.prog X.w) X.A (f v u) Q X.xe s2) :
    wpAny (model X.prog X.w) X.A (eval a X.env) (fun v s₁ => wpAny (model X.prog X.w) X.A (eval b X.env) (fun u s₂ => wpAny (model X.prog X.w) X.A (f v u) Q X.xe s₂) X.xe s₁) X.xe s := by
  refine thn (ha pins s σ H _ I h) fun v s1 ⟨x, H1, I1, r1, q1⟩ => ?_
  refine thn (hb pins s1 σ H1 _ I1 q1) fun u s2 ⟨y, H2, I2, r2, q2⟩ => ?_
  exact hf v u s2 x y H2 I2 r1 r2 q2

theorem pe_op {op : Operator} {r : R2} (ho : OpR X (binaryOp op) r) (ha : PE X a ta) (hb : PE X b tb) : PE X (.BinOp a op b pos) (tOp r ta tb) := by
  intro pins s σ H Q I h
  exact wpAny_BinOp (binT ha hb I h fun v u s2 x y H2 I2 rx ry q => ho pins s2 σ H2 x y v u Q I2 rx ry q)
theorem opI {f : Value → Value → Sem Value} {C : Int → Int → Prop} {g : Int → Int → Int}
    (rule : ∀ (i j : Int) (t u : Tok) (s : Shared) (Q : Value → Shared → Prop) (E : Value → Shared → Prop), C i j → Q (.int (g i j) s.toks) { s with toks := s.toks + 1 } → wpAny (model X.prog X.w) X.A (f (.int i t) (.int j u)) Q E s) :
    OpR X f (rI C fun i j => .int (g i j)) := by
  intro pins s σ H x y v u Q I rx ry h
  obtain ⟨i, j, rfl, rfl, hc, q⟩ := h
  obtain ⟨t, rfl⟩ := rx
  obtain ⟨t', rfl⟩ := ry
  exact rule i j t t' s _ _ hc ⟨.int (g i j), H, I.tok _, ⟨_, rfl⟩, q⟩
theorem opI0 {f : Value → Value → Sem Value} {g : Int → Int → Int}
    (rule : ∀ (i j : Int) (t u : Tok) (s : Shared) (Q : Value → Shared → Prop) (E : Value → Shared → Prop), Q (.int (g i j) s.toks) { s with toks := s.toks + 1 } → wpAny (model X.prog X.w) X.A (f (.int i t) (.int j u)) Q E s) :
    OpR X f (rI0 fun i j => .int (g i j)) := by
  intro pins s σ H x y v u Q I rx ry h
  obtain ⟨i, j, rfl, rfl, q⟩ := h
  obtain ⟨t, rfl⟩ := rx
  obtain ⟨t', rfl⟩ := ry
  exact rule i j t t' s _ _ ⟨.int (g i j), H, I.tok _, ⟨_, rfl⟩, q⟩
theorem opB0 {f : Value → Value → Sem Value} {g : Int → Int → Bool}
    (rule : ∀ (i j : Int) (t u : Tok) (s : Shared) (Q : Value → Shared → Prop) (E : Value → Shared → Prop), Q (.bool (g i j)) s → wpAny (model X.prog X.w) X.A (f (.int i t) (.int j u)) Q E s) :
    OpR X f (rI0 fun i j => .bl (g i j)) := by
  intro pins s σ H x y v u Q I rx ry h
  obtain ⟨i, j, rfl, rfl, q⟩ := h
  obtain ⟨t, rfl⟩ := rx
  obtain ⟨t', rfl⟩ := ry
  exact rule i j t t' s _ _ ⟨.bl (g i j), H, I, rfl, q⟩

noncomputable def CDiv (i j : Int) : Prop := 0 < j ∧ j < 1073741824
noncomputable def CMul (i j : Int) : Prop := (-(2 ^ 64) < i ∧ i < 2 ^ 64) ∨ (-(2 ^ 64) < j ∧ j < 2 ^ 64)
theorem CMul.ok {i j : Int} (h : CMul i j) : IntMulOk i j := by
  rcases h with ⟨h1, h2⟩ | ⟨h1, h2⟩
  · exact .of_left (intBits_le_64 h1 h2)
  · exact .of_right (intBits_le_64 h1 h2)
theorem op_add : OpR X (binaryOp .Add) (rI0 fun i j => .int (i + j)) := opI0 fun _ _ _ _ _ _ _ q => add_int q
theorem op_sub : OpR X (binaryOp .Sub) (rI0 fun i j => .int (i - j)) := opI0 fun _ _ _ _ _ _ _ q => sub_int q
theorem op_mul : OpR X (binaryOp .Mult) (rI CMul fun i j => .int (i * j)) := opI fun _ _ _ _ _ _ _ hc q => mul_int q hc.ok
/-- // by a positive divisor -/
theorem op_fdiv : OpR X (binaryOp .FloorDiv) (rI CDiv fun i j => .int (i / j)) := opI fun i j _ _ _ _ _ hc q => by
  have h1 : (0 : Int) < j := hc.1
  have h2 : j < 1073741824 := hc.2
  exact floordiv_int (by omega) (by rw [Int.fdiv_eq_ediv_of_nonneg i (by omega)]; exact q) (.inl (PyProof.noPylong_small (by omega)))
/-- % by a positive divisor of any size -/
theorem op_mod : OpR X (binaryOp .Mod) (rI (fun _ j => 0 < j) fun i j => .int (i % j)) := opI fun i j _ _ _ _ _ hc q => by
  have h1 : (0 : Int) < j := hc
  exact mod_int' (by omega) (by rw [Int.fmod_eq_emod_of_nonneg i (by omega)]; exact q)
end

/-- the scalars that == tells apart as data does -/
noncomputable def scal : V → V → Bool
  | .non, .non => true | .non, .int _ => true | .int _, .non => true | .non, .bl _ => true | .bl _, .non => true | .non, .str _ => true | .str _, .non => true
  | .int _, .int _ => true | .bl _, .bl _ => true | .str _, .str _ => true | .byt _, .byt _ => true
  | .int _, .str _ => true | .str _, .int _ => true | .bl _, .str _ => true | .str _, .bl _ => true
  | _, _ => false
noncomputable def rEq : R2 := fun x y H Q => scal x y = true ∧ Q (.bl (decide (x = y))) H
noncomputable def rNe : R2 := fun x y H Q => scal x y = true ∧ Q (.bl (!decide (x = y))) H

theorem dec_int {i j : Int} : decide (V.int i = V.int j) = (i == j) := by
  rw [Bool.eq_iff_iff]
  simp
theorem dec_bl {i j : Bool} : decide (V.bl i = V.bl j) = (i == j) := by
  rw [Bool.eq_iff_iff]
  simp
theorem dec_str {i j : Str} : decide (V.str i = V.str j) = (i == j) := by
  rw [Bool.eq_iff_iff]
  simp
theorem dec_byt {i j : Array UInt8} : decide (V.byt i = V.byt j) = (i.toList == j.toList) := by
  rw [Bool.eq_iff_iff]
  cases i
  cases j
  simp

section
variable {X : Cx} {a b c : Expr} {ta tb tc : TE} {pos : Pos}
theorem fin_bl {pins : List (Addr × Obj)} {σ : St} {H : Hp} {s : Shared} {Q : VK} {k k' : Bool} (I : Inv X pins σ H s) (q : Q (.bl k) H) (e : k = k') : EP X pins σ Q (.bool k') s := by
  subst e
  exact ⟨.bl k, H, I, rfl, q⟩
theorem op_eq : OpR X (compareOp .Eq) rEq := by
  intro pins s σ H x y v u Q I rx ry h
  obtain ⟨hs, q⟩ := h
  cases x with
  | non =>
    cases rx
    cases y with
    | non => cases ry; exact PySem.EqNone.eq_none_none (fin_bl I q (by simp))
    | bl j => cases ry; exact PySem.EqNone.eq_none_bool (fin_bl I q (by simp))
    | int j => obtain ⟨t', rfl⟩ := ry; exact PySem.EqNone.eq_none_int (fin_bl I q (by simp))
    | str j => obtain ⟨t', rfl⟩ := ry; exact PySem.EqNone.eq_none_str (fin_bl I q (by simp))
    | _ => exact absurd (show false = true from hs) Bool.false_ne_true
  | bl i =>
    cases rx
    cases y with
    | non => cases ry; exact PySem.EqNone.eq_bool_none (fin_bl I q (by simp))
    | bl j => cases ry; exact eq_bool (fin_bl I q dec_bl)
    | str j => obtain ⟨t', rfl⟩ := ry; exact PySem.EqMixed.eq_bool_str (fin_bl I q (by simp))
    | _ => exact absurd (show false = true from hs) Bool.false_ne_true
  | int i =>
    obtain ⟨t, rfl⟩ := rx
    cases y with
    | non => cases ry; exact PySem.EqNone.eq_int_none (fin_bl I q (by simp))
    | int j => obtain ⟨t', rfl⟩ := ry; exact eq_int (fin_bl I q dec_int)
    | str j => obtain ⟨t', rfl⟩ := ry; exact PySem.EqMixed.eq_int_str (fin_bl I q (by simp))
    | _ => exact absurd (show false = true from hs) Bool.false_ne_true
  | str i =>
    obtain ⟨t, rfl⟩ := rx
    cases y with
    | non => cases ry; exact PySem.EqNone.eq_str_none (fin_bl I q (by simp))
    | bl j => cases ry; exact PySem.EqMixed.eq_str_bool (fin_bl I q (by simp))
    | int j => obtain ⟨t', rfl⟩ := ry; exact PySem.EqMixed.eq_str_int (fin_bl I q (by simp))
    | str j => obtain ⟨t', rfl⟩ := ry; exact eq_str (fin_bl I q dec_str)
    | _ => exact absurd (show false = true from hs) Bool.false_ne_true
  | byt i =>
    obtain ⟨t, rfl⟩ := rx
    cases y with
    | byt j => obtain ⟨t', rfl⟩ := ry; exact PySem.W.eq_bytes (fin_bl I q dec_byt)
    | _ => exact absurd (show false = true from hs) Bool.false_ne_true
  | _ => cases y <;> exact absurd (show false = true from hs) Bool.false_ne_true
theorem op_ne : OpR X (compareOp .NotEq) rNe := by
  intro pins s σ H x y v u Q I rx ry h
  obtain ⟨hs, q⟩ := h
  cases x with
  | non =>
    cases rx
    cases y with
    | non => cases ry; exact PySem.EqNone.ne_none_none (fin_bl I q (by simp))
    | bl j => cases ry; exact PySem.EqNone.ne_none_bool (fin_bl I q (by simp))
    | int j => obtain ⟨t', rfl⟩ := ry; exact PySem.EqNone.ne_none_int (fin_bl I q (by simp))
    | str j => obtain ⟨t', rfl⟩ := ry; exact PySem.EqNone.ne_none_str (fin_bl I q (by simp))
    | _ => exact absurd (show false = true from hs) Bool.false_ne_true
  | bl i =>
    cases rx
    cases y with
    | non => cases ry; exact PySem.EqNone.ne_bool_none (fin_bl I q (by simp))
    | bl j => cases ry; exact ne_bool (fin_bl I q (congrArg not dec_bl))
    | str j => obtain ⟨t', rfl⟩ := ry; exact PySem.EqMixed.ne_bool_str (fin_bl I q (by simp))
    | _ => exact absurd (show false = true from hs) Bool.false_ne_true
  | int i =>
    obtain ⟨t, rfl⟩ := rx
    cases y with
    | non => cases ry; exact PySem.EqNone.ne_int_none (fin_bl I q (by simp))
    | int j => obtain ⟨t', rfl⟩ := ry; exact ne_int (fin_bl I q (congrArg not dec_int))
    | str j => obtain ⟨t', rfl⟩ := ry; exact PySem.EqMixed.ne_int_str (fin_bl I q (by simp))
    | _ => exact absurd (show false = true from hs) Bool.false_ne_true
  | str i =>
    obtain ⟨t, rfl⟩ := rx
    cases y with
    | non => cases ry; exact PySem.EqNone.ne_str_none (fin_bl I q (by simp))
    | bl j => cases ry; exact PySem.EqMixed.ne_str_bool (fin_bl I q (by simp))
    | int j => obtain ⟨t', rfl⟩ := ry; exact PySem.EqMixed.ne_str_int (fin_bl I q (by simp))
    | str j => obtain ⟨t', rfl⟩ := ry; exact ne_str (fin_bl I q (congrArg not dec_str))
    | _ => exact absurd (show false = true from hs) Bool.false_ne_true
  | byt i =>
    obtain ⟨t, rfl⟩ := rx
    cases y with
    | byt j => obtain ⟨t', rfl⟩ := ry; exact PySem.W.ne_bytes (fin_bl I q (congrArg not dec_byt))
    | _ => exact absurd (show false = true from hs) Bool.false_ne_true
  | _ => cases y <;> exact absurd (show false = true from hs) Bool.false_ne_true

theorem op_lt : OpR X (compareOp .Lt) (rI0 fun i j => .bl (decide (i < j))) := opB0 fun _ _ _ _ _ _ _ q => lt_int q
theorem op_le : OpR X (compareOp .LtE) (rI0 fun i j => .bl (decide (i ≤ j))) := opB0 fun _ _ _ _ _ _ _ q => le_int q
theorem op_gt : OpR X (compareOp .Gt) (rI0 fun i j => .bl (decide (j < i))) := opB0 fun _ _ _ _ _ _ _ q => gt_int q
theorem op_ge : OpR X (compareOp .GtE) (rI0 fun i j => .bl (decide (j ≤ i))) := opB0 fun _ _ _ _ _ _ _ q => ge_int q
/-- the one string within the other -/
theorem op_in_str : OpR X (compareOp .In) (fun x y H Q => ∃ i j, x = .str i ∧ y = .str j ∧ Q (.bl (!(Builtin.Str.occurrences j i 0 j.length 1).isEmpty)) H) := by
  intro pins s σ H x y v u Q I rx ry h
  obtain ⟨i, j, rfl, rfl, q⟩ := h
  obtain ⟨t, rfl⟩ := rx
  obtain ⟨t', rfl⟩ := ry
  exact in_str (fin_bl I q rfl)

/-- two rules for one operation: by cases -/
theorem OpR.or {f : Value → Value → Sem Value} {r r' : R2} (h : OpR X f r) (h' : OpR X f r') : OpR X f (fun x y H Q => r x y H Q ∨ r' x y H Q) := by
  intro pins s σ H x y v u Q I rx ry q
  rcases q with q | q
  · exact h pins s σ H x y v u Q I rx ry q
  · exact h' pins s σ H x y v u Q I rx ry q

theorem nomark (b : Expr) {op : CmpOp} (h : op ≠ .In := by decide) (h2 : op ≠ .NotIn := by decide) : behindInMarks op b = false := by
  have e1 : (op == CmpOp.In) = false := by cases op <;> first | rfl | exact absurd rfl h
  have e2 : (op == CmpOp.NotIn) = false := by cases op <;> first | rfl | exact absurd rfl h2
  cases b <;> simp [behindInMarks, e1, e2]
/-- a comparison as a value; hm: nomark b, or (for in, not in) by with_unfolding_all rfl -/
theorem pe_cmpR {op : CmpOp} {r : R2} (ho : OpR X (compareOp op) r) (ha : PE X a ta) (hb : PE X b tb) (hm : behindInMarks op b = false) : PE X (.Compare a [op] [b] pos) (tOp r ta tb) := by
  intro pins s σ H Q I h
  exact wpAny_Compare1 (binT ha hb I h fun v u s2 x y H2 I2 rx ry q => ho pins s2 σ H2 x y v u Q I2 rx ry q) hm
/-- a reading of a value as a test -/
noncomputable def tTest (t : TE) : TT := fun σ H Q => t σ H fun x H' => ∃ k, x = .bl k ∧ Q k H'
theorem pt_cmpR {op : CmpOp} {r : R2} (ho : OpR X (compareOp op) r) (ha : PE X a ta) (hb : PE X b tb) (hm : behindInMarks op b = false) : PT X (.Compare a [op] [b] pos) (tTest (tOp r ta tb)) := by
  intro pins s σ H Q I h
  refine wpAny_isTrue_Compare1 (thn (ha pins s σ H _ I h) fun v s1 ⟨x, H1, I1, r1, q1⟩ => thn (hb pins s1 σ H1 _ I1 q1) fun u s2 ⟨y, H2, I2, r2, q2⟩ =>
    thn (ho pins s2 σ H2 x y v u _ I2 r1 r2 q2) fun c s3 ⟨z, H3, I3, r3, k, e, q3⟩ => ?_) hm
  subst e
  cases r3
  exact wpAny_truthy_bool ⟨H3, I3, q3⟩
/-- a op1 b op2 c -/
noncomputable def tChain (r r' : R2) (ta tb tc : TE) : TE := fun σ H Q => ta σ H fun x H1 => tb σ H1 fun y H2 => r x y H2 fun z H3 => ∃ k, z = .bl k ∧
  (if k = true then tc σ H3 fun w' H4 => r' y w' H4 Q else Q (.bl false) H3)
theorem pe_chain {op op' : CmpOp} {r r' : R2} (ho : OpR X (compareOp op) r) (ho' : OpR X (compareOp op') r') (ha : PE X a ta) (hb : PE X b tb) (hc : PE X c tc)
    (hm : lastMarks [op, op'] [b, c] = false := by with_unfolding_all rfl) : PE X (.Compare a [op, op'] [b, c] pos) (tChain r r' ta tb tc) := by
  intro pins s σ H Q I h
  refine Compare_chain (thn (ha pins s σ H _ I h) fun v s1 ⟨x, H1, I1, r1, q1⟩ => chain_link (thn (hb pins s1 σ H1 _ I1 q1) fun u s2 ⟨y, H2, I2, r2, q2⟩ =>
    thn (ho pins s2 σ H2 x y v u _ I2 r1 r2 q2) fun d s3 ⟨z, H3, I3, r3, k, e, q3⟩ => ?_)) hm
  subst e
  cases r3
  refine wpAny_truthy_bool ?_
  cases k with
  | false => exact ite_ff ⟨.bl false, H3, I3, rfl, q3⟩
  | true => exact ite_tt (chain_last (thn (hc pins s3 σ H3 _ I3 q3) fun w' s4 ⟨z', H4, I4, r4, q4⟩ => ho' pins s4 σ H4 y z' u w' Q I4 r2 r4 q4))
/-- a value's truth by the abstract heap -/
noncomputable def TruV (K : PySem.W.Frag) (x : V) (H : Hp) (k : Bool) : Prop :=
  match x with
  | .non => k = false
  | .bl b => k = b
  | .int i => k = (i != 0)
  | .str y => y.length ≤ sizeLine ∧ k = ((y.length : Int) != 0)
  | .byt y => y.size ≤ sizeLine ∧ k = ((y.size : Int) != 0)
  | .ref p => (∃ xs, SqL K H p xs ∧ k = !xs.isEmpty) ∨ (∃ xs, SqT K H p xs ∧ k = !xs.isEmpty) ∨ ∃ kvs, H p = some (.dK kvs) ∧ k = !kvs.isEmpty
  | _ => False
theorem isEmpty_kv {κ : Type} {kvs : List (κ × V)} {vs : List (κ × Value)} (r : KV kvs vs) : (!vs.isEmpty) = !kvs.isEmpty := by
  cases r <;> rfl
theorem isEmpty_of {xs : List V} {its : List Value} (r : Vals xs its) : (!its.toArray.isEmpty) = !xs.isEmpty := by
  cases r <;> simp
theorem line63 : (sizeLine : Nat) < 2 ^ 63 := by rw [sizeLine_eq]; decide
theorem tru_ok : TruR X (fun x H Q => ∃ k, TruV X.K x H k ∧ Q k H) := by
  intro pins s σ H x v Q I rx h
  obtain ⟨k, e, q⟩ := h
  have hl := line63
  have hs : sizeLine = 16777216 := sizeLine_eq
  cases x with
  | non =>
    cases rx
    have e' : k = false := e
    subst e'
    exact truthy_none ⟨H, I, q⟩
  | bl b =>
    cases rx
    have e' : k = b := e
    subst e'
    exact wpAny_truthy_bool ⟨H, I, q⟩
  | int i =>
    obtain ⟨t, rfl⟩ := rx
    have e' : k = (i != 0) := e
    subst e'
    exact PySem.P.truthy_int ⟨H, I, q⟩
  | str y =>
    obtain ⟨t, rfl⟩ := rx
    obtain ⟨hy, e'⟩ : y.length ≤ sizeLine ∧ k = ((y.length : Int) != 0) := e
    subst e'
    exact PySem.P.truthy_str (by omega) ⟨H, I.tok _, q⟩
  | byt y =>
    obtain ⟨t, rfl⟩ := rx
    obtain ⟨hy, e'⟩ : y.size ≤ sizeLine ∧ k = ((y.size : Int) != 0) := e
    subst e'
    exact PySem.W.truthy_bytes (by omega) ⟨H, I.tok _, q⟩
  | ref p =>
    cases rx
    have e' : (∃ xs, SqL X.K H p xs ∧ k = !xs.isEmpty) ∨ (∃ xs, SqT X.K H p xs ∧ k = !xs.isEmpty) ∨ ∃ kvs, H p = some (.dK kvs) ∧ k = !kvs.isEmpty := e
    rcases e' with ⟨xs, hx, e'⟩ | ⟨xs, hx, e'⟩ | ⟨kvs, hx, e'⟩
    · subst e'
      obtain ⟨its, r, pl, hz⟩ := I.list hx
      have hlen := r.length
      exact wpAny_truthy_list pl.isList (by simp only [List.size_toArray]; omega) ⟨H, I.tok _, by rw [isEmpty_of r]; exact q⟩
    · subst e'
      obtain ⟨its, r, pl, hz⟩ := I.tuple hx
      have hlen := r.length
      exact truthy_tuple pl (by simp only [List.size_toArray]; omega) ⟨H, I.tok _, by rw [isEmpty_of r]; exact q⟩
    · subst e'
      obtain ⟨hz, hS, vs, r, m⟩ : kvs.length ≤ sizeLine ∧ (p == sysModules) = false ∧ ∃ vs, KV kvs vs ∧ s.heap.DictOf (mixKind X.prog X.w) p vs := I.hok p _ hx
      have hlen : kvs.length = vs.length := Paired.length r
      exact wpAny_truthy_dict hS m (by omega) ⟨H, I.tok _, by rw [isEmpty_kv r]; exact q⟩
  | _ => exact (show False from e).elim
/-- any expression whose test is its value's truth (a name, a call, a subscript, a field ..: he by fun _ => rfl) -/
theorem pt_truth (ha : PE X a ta) (he : ∀ whole, isTrue a X.env whole = (do let v ← whole; standAt a.pos; holding [v] (truthy v))) :
    PT X a (fun σ H Q => ta σ H fun x H' => ∃ k, TruV X.K x H' k ∧ Q k H') := by
  intro pins s σ H Q I h
  exact isTrue_plain (thn (ha pins s σ H _ I h) fun v s1 ⟨x, H1, I1, r1, q1⟩ => tru_ok pins s1 σ H1 x v Q I1 r1 q1) (he _)

theorem op_add_str : OpR X (binaryOp .Add) (fun x y H Q => ∃ i j, x = .str i ∧ y = .str j ∧ i.length + j.length ≤ sizeLine ∧ Q (.str (i ++ j)) H) := by
  intro pins s σ H x y v u Q I rx ry h
  obtain ⟨i, j, rfl, rfl, hz, q⟩ := h
  obtain ⟨t, rfl⟩ := rx
  obtain ⟨t', rfl⟩ := ry
  exact add_str (fun t' tk => ⟨.str (i ++ j), H, I.tok _, ⟨_, rfl⟩, q⟩) hz
theorem vals1 {x : V} {us : List Value} (r : Vals [x] us) : ∃ u, us = [u] ∧ RelV x u := by
  cases r with
  | cons r1 r2 => cases r2; exact ⟨_, rfl, r1⟩
theorem vals2 {x y : V} {us : List Value} (r : Vals [x, y] us) : ∃ u w', us = [u, w'] ∧ RelV x u ∧ RelV y w' := by
  cases r with
  | cons r1 r2 =>
    cases r2 with
    | cons r3 r4 => cases r4; exact ⟨_, _, rfl, r1, r3⟩
theorem call_max2 (hc : X.calm = true) : CallR X (.builtin "max") (fun xs H Q => ∃ i j, xs = [.int i, .int j] ∧ Q (.int (if j > i then j else i)) H) := by
  intro pins s σ H xs us Q I r h
  obtain ⟨i, j, rfl, q⟩ := h
  obtain ⟨u, w', rfl, ⟨t, rfl⟩, ⟨t', rfl⟩⟩ := vals2 r
  refine max_two_ints (I.ok.hd hc) fun h' tk k => ⟨_, H, I.kept k, ?_, q⟩
  by_cases hj : j > i
  · rw [if_pos hj, if_pos hj]; exact ⟨_, rfl⟩
  · rw [if_neg hj, if_neg hj]; exact ⟨_, rfl⟩
theorem call_int1 : CallR X (.type "int") (fun xs H Q => (∃ i, xs = [.int i] ∧ Q (.int i) H) ∨ ∃ k, xs = [.bl k] ∧ Q (.int (if k then 1 else 0)) H) := by
  intro pins s σ H xs us Q I r h
  rcases h with ⟨i, rfl, q⟩ | ⟨k, rfl, q⟩
  · obtain ⟨u, rfl, t, rfl⟩ := vals1 r
    exact call_int_int ⟨.int i, H, I, ⟨_, rfl⟩, q⟩
  · obtain ⟨u, rfl, r1⟩ := vals1 r
    cases r1
    exact call_int_bool ⟨.int (if k then 1 else 0), H, I.tok _, ⟨_, rfl⟩, q⟩
/-- len of a str, a bytes, a list, a tuple -/
noncomputable def LenV (K : PySem.W.Frag) (x : V) (H : Hp) (n : Nat) : Prop :=
  match x with
  | .str y => y.length ≤ sizeLine ∧ n = y.length
  | .byt y => y.size ≤ sizeLine ∧ n = y.size
  | .ref p => (∃ xs, SqL K H p xs ∧ n = xs.length) ∨ ∃ xs, SqT K H p xs ∧ n = xs.length
  | _ => False
theorem call_len : CallR X (.builtin "len") (fun xs H Q => ∃ x n, xs = [x] ∧ LenV X.K x H n ∧ Q (.int n) H) := by
  intro pins s σ H xs us Q I r h
  obtain ⟨x, n, rfl, e, q⟩ := h
  obtain ⟨u, rfl, rx⟩ := vals1 r
  have hl := line63
  have hs : sizeLine = 16777216 := sizeLine_eq
  cases x with
  | str y =>
    obtain ⟨t, rfl⟩ := rx
    obtain ⟨hy, e'⟩ : y.length ≤ sizeLine ∧ n = y.length := e
    subst e'
    exact len_str (by omega) ⟨.int _, H, I.tok _, ⟨_, rfl⟩, q⟩
  | byt y =>
    obtain ⟨t, rfl⟩ := rx
    obtain ⟨hy, e'⟩ : y.size ≤ sizeLine ∧ n = y.size := e
    subst e'
    exact PySem.W.len_bytes (by omega) ⟨.int _, H, I.tok _, ⟨_, rfl⟩, q⟩
  | ref p =>
    cases rx
    have e' : (∃ xs, SqL X.K H p xs ∧ n = xs.length) ∨ ∃ xs, SqT X.K H p xs ∧ n = xs.length := e
    rcases e' with ⟨xs, hx, e'⟩ | ⟨xs, hx, e'⟩
    · subst e'
      obtain ⟨its, r', pl, hz⟩ := I.list hx
      have hlen := r'.length
      exact Calls.call_len_list pl.isList (by simp only [List.size_toArray]; omega) ⟨.int xs.length, H, I.tok _, ⟨_, by simp only [List.size_toArray]; rw [hlen]⟩, q⟩
    · subst e'
      obtain ⟨its, r', pl, hz⟩ := I.tuple hx
      have hlen := r'.length
      exact len_tuple pl (by simp only [List.size_toArray]; omega) ⟨.int xs.length, H, I.tok _, ⟨_, by simp only [List.size_toArray]; rw [hlen]⟩, q⟩
  | _ => exact (show False from e).elim
end
end L2

namespace L2
open PySem PySem.Spec PyProof.Rows

structure ObjM (h : Heap) (x dx C : Addr) (mA : Str → Option Value) : Prop where
  obj : h.get? x = some (PySem.W.instObj C dx)
  ns : h.Ns1 dx mA
  ne : dx ≠ x

theorem lookIn_ns {h : Heap} {dx : Addr} {mA : Str → Option Value} (n : h.Ns1 dx mA) : ∃ od, h.get? dx = some od ∧ ∀ name, PySem.W.lookIn name od = some (mA name) := by
  obtain ⟨o, es, ep, ho, hd, hk, _, hm⟩ := n
  refine ⟨o, ho, fun name => ?_⟩
  have e := hm name
  unfold nsFind findBy at e
  rw [← Array.find?_toList] at e
  unfold PySem.W.lookIn
  rw [hd]
  dsimp only
  split
  · rename_i y q
    rw [q] at e
    exact congrArg some e
  · rename_i q
    rw [q] at e
    have a : es.toList.any (·.refKey) = false := by
      rw [List.any_eq_false]
      intro y hy
      obtain ⟨z, t, hkey⟩ := hk y (Array.mem_toList_iff.mp hy)
      simp [DictEntry.refKey, hkey]
    have a' : ¬ es.toList.any (·.refKey) = true := by rw [a]; exact Bool.false_ne_true
    rw [if_neg a']
    exact congrArg some e

theorem ObjM.look {h : Heap} {x dx C : Addr} {mA : Str → Option Value} (I : ObjM h x dx C mA) : ∃ od, PySem.W.InstAt h x (PySem.W.instObj C dx) C (some od) ∧ ∀ name, PySem.W.lookIn name od = some (mA name) :=
  let ⟨od, ho, hl⟩ := lookIn_ns I.ns
  ⟨od, ⟨I.obj, rfl, rfl, ho⟩, hl⟩

section
variable {prog : Program} {w : World} {A : Around} {E : Value → Shared → Prop} {s : Shared} {K : PySem.W.Frag} {x dx C f : Addr} {mA : Str → Option Value} {name : Str} {v : Value}

end

section
variable {P : Program} {w : World} {H H' : Hp} {h h' : Heap} {a C dx : Addr} {fs fs' : List (Str × V)}
theorem ins_get (hok : HOk P w H h) (e : H a = some (.ins C dx fs)) : ∃ mA, ObjM h a dx C mA ∧ (∀ f, RelO (fs.lookup f) (mA f)) ∧ PySem.Within mA (fs.map (·.1)) ∧ fs.length ≤ 1000 ∧ H dx = some (.own a) := by
  obtain ⟨d, z, ne, ob, mA, n, r, q⟩ := (show ObjOk P w H h a (.ins C dx fs) from hok a _ e)
  exact ⟨mA, ⟨ob, n, ne⟩, r, q, z, d⟩
end

structure Cls (K : PySem.W.Frag) (C : Addr) : Prop where
  pg : PySem.W.plainGet K C Str.empty = true
  hd : PySem.W.hasDictIn K C = true
  po : PySem.W.plainOver K C = true
  sa : PySem.W.findIn K (.ref C) "__setattr__" = some (some (.builtin "object.__setattr__"))
theorem Cls.get {K : PySem.W.Frag} {C : Addr} (c : Cls K C) (f : Str) : PySem.W.plainGet K C f = true := c.pg
section
variable {X : Cx} {pins : List (Addr × Obj)} {σ : St} {H : Hp} {s : Shared} {a C dx : Addr} {fs : List (Str × V)} {f : Str} {v : V} {A : Around} {E : Value → Shared → Prop}

end

section
variable {X : Cx} {o e value : Expr} {f : Str} {pos pos' tpos : Pos} {ta tv : TE}
end

section
variable {X : Cx} {pins : List (Addr × Obj)} {σ : St} {H : Hp} {s : Shared} {A : Around} {E : Value → Shared → Prop} {Q : Value → Shared → Prop} {c : Value} {b : Bool}
/-- the type of a value, as the fragment's deciders take it; for an instance its class -/
inductive TyOf (K : PySem.W.Frag) (H : Hp) : V → Value → Prop where
  | non : TyOf K H .non (.type "NoneType")
  | bl (x : Bool) : TyOf K H (.bl x) (.type "bool")
  | int (i : Int) : TyOf K H (.int i) (.type "int")
  | str (x : Str) : TyOf K H (.str x) (.type "str")
  | flt (x : UInt64) : TyOf K H (.flt x) (.type "float")
  | lst {a : Addr} {xs : List V} (e : H a = some (.lst xs)) : TyOf K H (.ref a) (.type "list")
  | frz {a : Addr} {o : Obj} {xs : List V} (e : H a = some (.frz o (.lst xs))) : TyOf K H (.ref a) (.type "list")
  | tup {a : Addr} {xs : List V} (e : H a = some (.tup xs)) : TyOf K H (.ref a) (.type "tuple")
  | dK {a : Addr} {kvs : List (Key × V)} (e : H a = some (.dK kvs)) : TyOf K H (.ref a) (.type "dict")
  | dT {a : Addr} {kvs : List (List Key × V)} (e : H a = some (.dT kvs)) : TyOf K H (.ref a) (.type "dict")
  | ins {a C dx : Addr} {fs : List (Str × V)} (e : H a = some (.ins C dx fs)) (cl : Cls K C) (ha : PySem.W.findIn K (.ref C) "__class__" = some (some (.builtin "object.__class__")))
      (hn : PySem.W.specialIn K (.builtin "object.__class__") "__get__" = some (some (.builtin "getset_descriptor.__get__"))) (htk : PySem.W.takesIn K (.builtin "object.__class__") = some true)
      (hm : PySem.W.mroIn K C (.type "object") = some true) : TyOf K H (.ref a) (.ref C)
/-- isinstance(x, c) for one class c, a built-in or an own one: kitOne's answer -/
theorem isinst_ok {x : V} {u t : Value} (I : Inv X pins σ H s) (rx : RelV x u) (ty : TyOf X.K H x t) (e : PySem.W.kitOne X.K t c = some b) (h : ∀ tk, Q (.bool b) { s with toks := tk }) :
    wpAny (model X.prog X.w) A (call (.builtin "isinstance") [u, c]) Q E s := by
  cases ty with
  | non => cases (show u = Value.none from rx); exact PySem.W.kia_one PySem.W.kitx_none I.kIn True.intro e (fun z => nomatch z) h
  | bl y => cases (show u = Value.bool y from rx); exact PySem.W.kia_one PySem.W.kitx_bool I.kIn True.intro e (fun z => nomatch z) h
  | int i => obtain ⟨t, q⟩ := (show ∃ t, u = Value.int i t from rx); cases q; exact PySem.W.kia_one PySem.W.kitx_int I.kIn True.intro e (fun z => nomatch z) h
  | str y => obtain ⟨t, q⟩ := (show ∃ t, u = Value.str y t from rx); cases q; exact PySem.W.kia_one PySem.W.kitx_str I.kIn True.intro e (fun z => nomatch z) h
  | flt y => obtain ⟨t, q⟩ := (show ∃ t, u = Value.float y t from rx); cases q; exact PySem.W.kia_one PySem.W.kitx_float I.kIn True.intro e (fun z => nomatch z) h
  | @lst a xs ea =>
    cases (show u = Value.ref a from rx)
    obtain ⟨_, _, n, _, h1⟩ := (show ObjOk X.prog X.w H s.heap a (.lst xs) from I.hok a _ ea)
    exact PySem.W.kia_one PySem.W.kitx_list I.kIn ⟨_, h1, rfl⟩ e (fun z => nomatch z) h
  | @frz a ob xs ea =>
    cases (show u = Value.ref a from rx)
    obtain ⟨_, _, _, n, _, h1⟩ := (show ObjOk X.prog X.w H s.heap a (.frz ob (.lst xs)) from I.hok a _ ea)
    exact PySem.W.kia_one PySem.W.kitx_list I.kIn ⟨_, h1, rfl⟩ e (fun z => nomatch z) h
  | @tup a xs ea =>
    cases (show u = Value.ref a from rx)
    obtain ⟨_, _, _, p⟩ := (show ObjOk X.prog X.w H s.heap a (.tup xs) from I.hok a _ ea)
    obtain ⟨o, h1, h2, _⟩ := p
    exact PySem.W.kia_one PySem.W.kitx_tuple I.kIn ⟨o, h1, h2⟩ e (fun z => nomatch z) h
  | @dK a kvs ea =>
    cases (show u = Value.ref a from rx)
    obtain ⟨_, _, vs, _, p⟩ := (show ObjOk X.prog X.w H s.heap a (.dK kvs) from I.hok a _ ea)
    obtain ⟨o, es, ep, h1, h2, _⟩ := p
    exact PySem.W.kia_one PySem.W.kitx_dict I.kIn ⟨o, h1, h2.1⟩ e (fun z => nomatch z) h
  | @dT a kvs ea =>
    cases (show u = Value.ref a from rx)
    obtain ⟨_, _, xs, _, o, es, ep, h1, h2, _⟩ := (show ObjOk X.prog X.w H s.heap a (.dT kvs) from I.hok a _ ea)
    exact PySem.W.kia_one PySem.W.kitx_dict I.kIn ⟨o, h1, h2.1⟩ e (fun z => nomatch z) h
  | @ins a C dx fs ea cl ha hn htk hm =>
    cases (show u = Value.ref a from rx)
    obtain ⟨mA, O, _⟩ := ins_get I.hok ea
    obtain ⟨od, J, _⟩ := O.look
    exact PySem.W.kia_one (PySem.W.kitx_own (cl.get _) cl.hd ha hn htk hm) I.kIn J e (fun z => nomatch z) h
end
end L2

namespace L2
open PySem PySem.Spec PyProof.Rows

structure Room (k : Nat) (A : Around) : Prop where
  hd : A.handled = none
  dp : A.depth + 3 * k + 5 < recursionLimit
  un : A.units + 16 * k + 200 < cLine
theorem Room.mono {j k : Nat} {A : Around} (r : Room k A) (h : j ≤ k) : Room j A := ⟨r.hd, by have := r.dp; omega, by have := r.un; omega⟩
theorem Room.deeper {k : Nat} {A : Around} (r : Room (k + 1) A) (env : Env) : Room k (A.deeper env) :=
  ⟨r.hd, by have := r.dp; show A.depth + 1 + 3 * k + 5 < _; omega, by have := r.un; show A.units + 3 + 16 * k + 200 < _; omega⟩
theorem Room.depth {k : Nat} {A : Around} (r : Room k A) : A.depth < recursionLimit := by have := r.dp; omega
theorem Room.units {k : Nat} {A : Around} (r : Room k A) : A.units + 64 < cLine := by have := r.un; omega
noncomputable def tNil : TA := fun _ H Q => Q [] H
noncomputable def tCons (ta : TE) (tr : TA) : TA := fun σ H Q => ta σ H fun x H1 => tr σ H1 fun xs H2 => Q (x :: xs) H2
section
variable {X : Cx} {e : Expr} {es : List Expr} {te : TE} {t : TA} {pos : Pos}
theorem pa_nil : PA X [] tNil := fun _ _ _ _ H Q I h => Calls.spliced_nil ⟨[], H, I, .nil, h⟩
theorem pa_cons (ha : PE X e te) (hr : PA X es t) (hs : starEach (e :: es) X.env = (false, eval e X.env) :: starEach es X.env := by rfl) : PA X (e :: es) (tCons te t) := by
  intro pos pins s σ H Q I h
  rw [hs]
  show wpAny _ _ (spliced ((false, eval e X.env) :: backTo pos (starEach es X.env))) _ _ s
  refine Calls.spliced_cons (thn (ha pins s σ H _ I h) fun u s1 ⟨x, H1, I1, r1, q1⟩ => ?_)
  exact thn (hr pos pins s1 σ H1 _ I1 q1) fun us s2 ⟨xs, H2, I2, r2, q2⟩ => ⟨x :: xs, H2, I2, .cons r1 r2, q2⟩

/-- a tuple, a list of written items -/
noncomputable def tTup (t : TA) : TE := fun σ H Q => t σ H fun xs H1 => xs.length ≤ sizeLine ∧ ∀ p, H1 p = none → Q (.ref p) (upd H1 p (.tup xs))
noncomputable def tLst (t : TA) : TE := fun σ H Q => t σ H fun xs H1 => xs.length ≤ sizeLine ∧ ∀ p, H1 p = none → Q (.ref p) (upd H1 p (.lst xs))
theorem pe_tup {x1} (h : PA X es t) : PE X (.Tuple es x1 pos) (tTup t) := by
  intro pins s σ H Q I hq
  refine wpAny_Tuple_spliced (thn (h pos pins s σ H _ I hq) fun us s1 ⟨xs, H1, I1, r, z, q⟩ => ⟨by rw [← r.length]; exact z, ?_⟩)
  have hf : H1 s1.heap.objs.size = none := I1.hok.fresh (Nat.le_refl _)
  refine ⟨.ref s1.heap.objs.size, upd H1 s1.heap.objs.size (.tup xs), I1.laid (t' := s1.toks) (fun b u e => Heap.get?_push_of_some _ e) (Nat.le_refl _) ?_, rfl, q _ hf⟩
  exact ⟨z, us, r, ⟨_, Heap.get?_push_size _ rfl, rfl, _, rfl⟩⟩
theorem pe_lst (h : PA X es t) : PE X (.List es pos) (tLst t) := by
  intro pins s σ H Q I hq
  refine wpAny_List_spliced (thn (h pos pins s σ H _ I hq) fun us s1 ⟨xs, H1, I1, r, z, q⟩ => ⟨by rw [← r.length]; exact z, ?_⟩)
  have hf : H1 s1.heap.objs.size = none := I1.hok.fresh (Nat.le_refl _)
  refine ⟨.ref s1.heap.objs.size, upd H1 s1.heap.objs.size (.lst xs), I1.laid (t' := s1.toks) (fun b u e => Heap.get?_push_of_some _ e) (Nat.le_refl _) ?_, rfl, q _ hf⟩
  exact ⟨z, us, 0, r, Heap.get?_push_size _ rfl⟩
end

/-- a def's promise: the bound arguments in the parameters' order, the heap, the wanted end, the wanted exception -/
noncomputable abbrev Sp := List V → Hp → VK → XK → Prop
/-- how an exception lies behind a call (file 08 gives it): the callers' frames, abstract heap and state ahead of the call, the wish, the exception, the state -/
noncomputable abbrev CXT := List Env → Hp → Shared → XK → Value → Shared → Prop

/-- the state at a call -/
structure Env0 (P : Program) (w : World) (K : PySem.W.Frag) (mg : Str → Option Value) (base : Heap) (A : Around) (outer : List Env) (s : Shared) (H : Hp) : Prop where
  frames : A.frames = some outer
  mod : Mod K mg base
  bs : ∀ b o, base.get? b = some o → s.heap.get? b = some o ∧ H b = none
  bsz : base.objs.size ≤ s.heap.objs.size
  funs : s.heap.FunFrames base outer
  frf : ∀ b ∈ frs outer, H b = none
  hok : HOk P w H s.heap
  bare : AllBare s.gens
/-- a call's end -/
noncomputable def CE (outer : List Env) (P : Program) (w : World) (H : Hp) (s : Shared) (Q : VK) (u : Value) (s' : Shared) : Prop :=
  ∃ v H', s'.os = s.os ∧ AllBare s'.gens ∧ Un (frs outer) [] H H' s.heap s'.heap ∧ HOk P w H' s'.heap ∧ RelV v u ∧ Q v H'
noncomputable def CR (CX : CXT) (outer : List Env) (P : Program) (w : World) (H : Hp) (s : Shared) (Q : VK) (E : XK) (r : Result) (s' : Shared) : Prop :=
  match r with
  | .ok (.ret u) => CE outer P w H s Q u s'
  | .ok _ => False
  | .error e => CX outer H s E e s'
structure FnOk (P : Program) (w : World) (K : PySem.W.Frag) (mg : Str → Option Value) (base : Heap) (CX : CXT) (k : Nat) (f : Addr) (fd : FuncData) (ps : List Str) (sp : Sp) : Prop where
  len : ∀ vs H Q E, sp vs H Q E → vs.length = ps.length
  run : ∀ (A : Around) (outer : List Env) (s : Shared) (H : Hp) (args : Args) (us : List Value) (vs : List V) (Q : VK) (E : XK), Room k A → Env0 P w K mg base A outer s H → BindsTo s fd args (ps.zip us) → Vals vs us → sp vs H Q E →
    codeAny (model P w) A (.call (.ref f) args) (CR CX outer P w H s Q E) s
section
variable {X : Cx} {pins : List (Addr × Obj)} {σ : St} {H : Hp} {s s' : Shared}
/-- from a body: what a callee wants -/
theorem Inv.env0 (I : Inv X pins σ H s) : Env0 X.prog X.w X.K X.mg X.base X.A X.stack s H :=
  ⟨I.ok.frames, I.ok.mod, I.bs, Nat.le_trans I.ok.bsz I.sz, I.stack, I.stkFree, I.hok, I.bare⟩
/-- behind a call -/
theorem Inv.after {Q : VK} {u : Value} (I : Inv X pins σ H s) (h : CE X.stack X.prog X.w H s Q u s') : EP X pins σ Q u s' := by
  obtain ⟨v, H', os, bare, un, hok, r, q⟩ := h
  obtain ⟨hh, g, d, t, os'⟩ := s'
  obtain rfl : os' = s.os := os
  exact ⟨v, H', I.call (h' := hh) (g' := g) (d' := d) (t' := t) (ch := []) un hok bare (fun b z => absurd z (by simp)), r, q⟩
end

/-- f(..): the written arguments, then the defaults dvs; E: what is wanted of an exception -/
noncomputable def tCall (sp : Sp) (dvs : List V) (E : XK) (t : TA) : TE := fun σ H Q => t σ H fun vs H1 => sp (vs ++ dvs) H1 Q E
/-- how the parameters are bound: us the positional arguments, kw the keywords' values by name, ds the defaults that fill up -/
noncomputable def Binds (K : PySem.W.Frag) (fd : FuncData) (ps : List Str) (ds : List Value) : Prop :=
  ∀ (s : Shared) (us : List Value), K.In s.heap → (us ++ ds).length = ps.length → BindsTo s fd ⟨us, []⟩ (ps.zip (us ++ ds))
/-- every parameter is given -/
theorem Binds.all {K : PySem.W.Frag} {fd : FuncData} {ps : List Str} (h : ∀ us : List Value, us.length = ps.length → bindArgs fd ⟨us, []⟩ = pure (ps.zip us)) : Binds K fd ps [] := fun s us _ hl => by
  rw [List.append_nil] at hl ⊢
  exact .of_eq (h us hl)

/-- an exception of a callee reaches what this body wants of exceptions -/
noncomputable def Passes (CX : CXT) (X : Cx) (E : XK) : Prop := ∀ (pins : List (Addr × Obj)) (σ : St) (H : Hp) (s : Shared) (e : Value) (s' : Shared), Inv X pins σ H s → CX X.stack H s E e s' → X.xe e s'

section
variable {X : Cx} {CX : CXT} {k : Nat} {f C : Addr} {fd : FuncData} {ps : List Str} {sp : Sp} {dvs : List V} {ds : List Value} {E : XK} {x m : Str} {p pos apos : Pos} {e o : Expr} {es : List Expr} {ta : TE} {t : TA}

/-- the callee runs -/
theorem run_fn {pins : List (Addr × Obj)} {σ : St} {H : Hp} {s : Shared} {Q : VK} {us : List Value} {vs : List V} (F : FnOk X.prog X.w X.K X.mg X.base CX k f fd ps sp) (hr : Room k X.A) (hb : Binds X.K fd ps ds) (hd : Vals dvs ds) (hx : Passes CX X E)
    (I : Inv X pins σ H s) (r : Vals vs us) (h : sp (vs ++ dvs) H Q E) : wpAny (model X.prog X.w) X.A (call (.ref f) us) (EP X pins σ Q) X.xe s := by
  have r2 : Vals (vs ++ dvs) (us ++ ds) := r.append hd
  have hl : (us ++ ds).length = ps.length := by rw [← r2.length]; exact F.len _ _ _ _ h
  refine wpAny_call (codeAny_mono (F.run X.A X.stack s H ⟨us, []⟩ (us ++ ds) (vs ++ dvs) Q E hr I.env0 (hb s us I.kIn hl) r2 h) fun r s' hq => ?_)
  cases r with
  | error e => exact hx pins σ H s e s' I hq
  | ok fl =>
    cases fl with
    | ret u => exact I.after hq
    | next => exact False.elim hq
    | brk => exact False.elim hq
    | cont => exact False.elim hq

theorem pe_call (F : FnOk X.prog X.w X.K X.mg X.base CX k f fd ps sp) (hr : Room k X.A) (hg : Gl X x) (hm : X.mg x = some (.ref f)) (hk : PySem.W.keepIn X.K (.ref f) = true) (hb : Binds X.K fd ps ds) (hd : Vals dvs ds) (hx : Passes CX X E)
    (ha : PA X (e :: es) t) (hdb : (x == ("__debug__" : Str)) = false := by decide) (he : starEach (e :: es) X.env = (false, eval e X.env) :: starEach es X.env := by rfl) (hpl : (backTo pos (starEach es X.env)).any (·.1) = false := by rfl) :
    PE X (.Call (.Name x p) (e :: es) [] pos) (tCall sp dvs E t) := by
  intro pins s σ H Q I h
  refine wpAny_Call_Name_kw (ld_glob I hg hm ?_ hdb)
  refine PySem.W.callWith_K (h₀ := X.base) I.ok.mod.kin hk (thn (ha pos pins s σ H _ I h) fun us s1 ⟨vs, H1, I1, r, q⟩ => ⟨I1.kIn, ?_⟩) he hpl
  exact run_fn F hr hb hd hx I1 r q
end

section
variable {X : Cx} {CX : CXT} {k : Nat} {f C : Addr} {fd : FuncData} {ps ks : List Str} {sp : Sp} {E : XK} {x m : Str} {p pos apos kpos : Pos} {e o : Expr} {es : List Expr} {kws : List Keyword} {te ta : TE} {t tk : TA} {nm : Option Str}
variable {g : List Value → List Value → List Value} {gV : List V → List V → List V}
end

/-- names: the parameters first -/
structure FnScope (N P : List Str) (sc : Scope) : Prop where
  kind : sc.kind = .function
  co : sc.isCoroutine = false
  gen : sc.isGenerator = false
  nd : N.Nodup
  pre : N.take P.length = P
  par : ∀ x ∈ P, sc.names.lookup x = some .local ∨ sc.names.lookup x = some .cell
  nofree : ∀ y ∈ sc.names, y.2 ≠ .free

theorem bindL_out {kindOf : Str → Option NameKind} {x : Str} : ∀ {binds : List (Str × Value)} {m : Str → Option Value}, (∀ v, (x, v) ∉ binds) → bindL kindOf binds m x = m x
  | [], _, _ => rfl
  | (n, v) :: r, m, h => by
    unfold bindL
    rw [bindL_out fun w hw => h w (List.mem_cons_of_mem _ hw)]
    split
    · have : x ≠ n := by rintro rfl; exact h v List.mem_cons_self
      simp [this]
    · rfl
theorem bindC_out {kindOf : Str → Option NameKind} {x : Str} : ∀ {binds : List (Str × Value)} {m : Str → Option Value}, (∀ v, (x, v) ∉ binds) → bindC kindOf binds m x = m x
  | [], _, _ => rfl
  | (n, v) :: r, m, h => by
    unfold bindC
    rw [bindC_out fun w hw => h w (List.mem_cons_of_mem _ hw)]
    split
    · rfl
    · have : x ≠ n := by rintro rfl; exact h v List.mem_cons_self
      simp [this]
theorem bindL_get {kindOf : Str → Option NameKind} {x : Str} {v : Value} : ∀ {P : List Str} {vs : List Value} {i : Nat} {m : Str → Option Value}, P.Nodup → P[i]? = some x → vs[i]? = some v → kindOf x = some .local →
    bindL kindOf (P.zip vs) m x = some v
  | [], _, _, _, _, h, _, _ => by simp at h
  | _ :: _, [], _, _, _, _, h, _ => by simp at h
  | p :: P, w :: vs, 0, m, nd, h1, h2, hk => by
    simp at h1 h2; subst h1; subst h2
    show bindL kindOf ((p, w) :: P.zip vs) m p = _
    unfold bindL
    rw [bindL_out fun v hv => (List.nodup_cons.mp nd).1 (List.of_mem_zip hv).1, if_pos hk]
    simp
  | p :: P, w :: vs, i + 1, m, nd, h1, h2, hk => by
    show bindL kindOf ((p, w) :: P.zip vs) m x = _
    unfold bindL
    exact bindL_get (i := i) (List.nodup_cons.mp nd).2 (by simpa using h1) (by simpa using h2) hk
theorem bindC_get {kindOf : Str → Option NameKind} {x : Str} {v : Value} : ∀ {P : List Str} {vs : List Value} {i : Nat} {m : Str → Option Value}, P.Nodup → P[i]? = some x → vs[i]? = some v → kindOf x ≠ some .local →
    bindC kindOf (P.zip vs) m x = some v
  | [], _, _, _, _, h, _, _ => by simp at h
  | _ :: _, [], _, _, _, _, h, _ => by simp at h
  | p :: P, w :: vs, 0, m, nd, h1, h2, hk => by
    simp at h1 h2; subst h1; subst h2
    show bindC kindOf ((p, w) :: P.zip vs) m p = _
    unfold bindC
    rw [bindC_out fun v hv => (List.nodup_cons.mp nd).1 (List.of_mem_zip hv).1, if_neg hk]
    simp
  | p :: P, w :: vs, i + 1, m, nd, h1, h2, hk => by
    show bindC kindOf ((p, w) :: P.zip vs) m x = _
    unfold bindC
    exact bindC_get (i := i) (List.nodup_cons.mp nd).2 (by simpa using h1) (by simpa using h2) hk

/-- the names' values at the entry -/
noncomputable def start (N : List Str) (vs : List V) : St := vs.map some ++ List.replicate (N.length - vs.length) none

/-- the context of a def's body, at its entry; an exception leaves the frame, then lies as CX says -/
noncomputable def cxOf (CX : CXT) (P : Program) (w : World) (K : PySem.W.Frag) (mg : Str → Option Value) (base : Heap) (N : List Str) (qual : Str) (scope : Scope) (f : Addr) (cd : Value) (A : Around) (outer : List Env) (s : Shared) (H : Hp) (E : XK) : Cx where
  prog := P
  w := w
  K := K
  mg := mg
  base := base
  A := A.deeper (envOfC qual scope s.heap.objs.size f cd)
  N := N
  s₀ := s
  H₀ := H
  env := envOfC qual scope s.heap.objs.size f cd
  outer := outer
  stack := envOfC qual scope s.heap.objs.size f cd :: outer
  ex := []
  calm := true
  fn := fun _ => true
  pn := []
  xe := fun e s' => wpAny (model P w) (A.deeper (envOfC qual scope s.heap.objs.size f cd)) (leaving (envOfC qual scope s.heap.objs.size f cd) e) (fun _ s'' => CX outer H s E e s'') (fun e' s'' => CX outer H s E e' s'') s'

theorem cell_has {sc : Scope} {n : Nat} {x : Str} (h : sc.names.lookup x = some .cell) : ∃ c, (cellsFrom n sc.names []).lookup x = some c := by
  have q := PySem.W.cellsFrom_some sc.names n [] (.inl h)
  exact Option.isSome_iff_exists.mp q

theorem inv_start {CX : CXT} {P : Program} {w : World} {K : PySem.W.Frag} {mg : Str → Option Value} {base : Heap} {N ps : List Str} {qual : Str} {scope : Scope} {f : Addr} {cd : Value} {A : Around} {outer : List Env} {s s1 : Shared} {H : Hp} {E : XK} {us : List Value} {vs : List V}
    (S : FnScope N ps scope) (hd : A.handled = none) (e0 : Env0 P w K mg base A outer s H) (hl : vs.length = ps.length) (r : Vals vs us)
    (x : InCallC s s.heap.objs.size (bindL (envOfC qual scope s.heap.objs.size f cd).kindOf (ps.zip us) fun _ => none) (cellsFrom (s.heap.objs.size + 1) scope.names []) (bindC (envOfC qual scope s.heap.objs.size f cd).kindOf (ps.zip us) fun _ => none) s1) :
    Inv (cxOf CX P w K mg base N qual scope f cd A outer s H E) [] (start N vs) H s1 := by
  have hpl : ps.length ≤ N.length := by have := congrArg List.length S.pre; rw [List.length_take] at this; omega
  obtain ⟨h1, tk, rfl, hk⟩ := x.done
  have noA : ∀ b : Addr, b ∉ (cxOf CX P w K mg base N qual scope f cd A outer s H E).ex := fun b z => absurd (show b ∈ ([] : List Addr) from z) (by simp)
  refine ⟨⟨e0.mod, S.kind, rfl, rfl, Nat.le_refl _, fun y z c h1 h2 => ?_, fun y hy => ?_, fun y c _ h => ?_, fun _ => hd, Around.frames_deeper e0.frames, .inr ⟨rfl, rfl⟩, fun b z => absurd z (noA b), e0.bs, e0.bsz, fun b _ _ => noA b, fun b z => absurd z (noA b), e0.funs, e0.frf⟩,
    rfl, e0.bare, Un.kept hk, ⟨_, x.toInCall.ns, fun i y v h1 h2 h3 => ?_⟩, fun y c h => ⟨_, x.cell y c h⟩, e0.hok.fresh (Nat.le_refl _), fun y c h => ?_, fun p hp => absurd (show p ∈ ([] : List (Addr × Obj)) from hp) (by simp), e0.hok.kept hk, ?_⟩
  · exact name_of_addr x.apart (PySem.mem_of_lookup h1) (PySem.mem_of_lookup h2)
  · have hy : scope.names.lookup y = some .cell ∨ scope.names.lookup y = some .free := hy
    rcases hy with hy | hy
    · exact cell_has hy
    · exact absurd rfl (S.nofree _ (PySem.mem_of_lookup hy))
  · exact Nat.le_of_lt (x.above y c (PySem.mem_of_lookup h))
  · have hi : i < vs.length := by
      unfold start at h2
      by_cases hi : i < vs.length
      · exact hi
      · rw [List.getElem?_append_right (by simpa using hi)] at h2
        rw [List.getElem?_replicate] at h2
        split at h2 <;> cases h2
    have ha : vs[i]? = some v := by
      unfold start at h2
      rw [List.getElem?_append_left (by simpa using hi), List.getElem?_map] at h2
      cases e : vs[i]? with
      | none => rw [e] at h2; cases h2
      | some a => rw [e] at h2; cases h2; rfl
    obtain ⟨u, hu, rv⟩ := r.get ha
    have hp : ps[i]? = some y := by
      rw [← S.pre, List.getElem?_take_of_lt (by omega)]; exact h1
    have ndP : ps.Nodup := by rw [← S.pre]; exact S.nd.sublist (List.take_sublist _ _)
    refine ⟨u, rv, ?_⟩
    rcases S.par y (List.mem_of_getElem? hp) with k | k
    · exact .inl ⟨k, bindL_get ndP hp hu k⟩
    · obtain ⟨c, e⟩ := cell_has (n := s.heap.objs.size + 1) k
      refine .inr ⟨.inl k, c, e, ?_⟩
      have q := x.cell y c e
      rw [bindC_get ndP hp hu (by show scope.names.lookup y ≠ _; rw [k]; decide)] at q
      exact q
  · exact e0.hok.fresh (Nat.le_of_lt (x.above y c (PySem.mem_of_lookup h)))
  · unfold start
    show _ = N.length
    rw [List.length_append, List.length_map, List.length_replicate]
    omega

/-- THE RULE: a def (or a method) of the text, by its body. The body's reading t is chosen for each entry; it is run at the parameters' values -/
theorem fn_of {CX : CXT} {P : Program} {w : World} {K : PySem.W.Frag} {mg : Str → Option Value} {base : Heap} {k : Nat} {f : Addr} {name qual : Str} {params : Arguments} {body : List Stmt} {scope : Scope} {dV kV doc pm cdv ct oc : Value} {an od : Option Addr}
    {osl : Array (Option Value)} {N ps : List Str} {sp : Sp} (lk : K.lookup f = some ⟨oc, od, .func (PySem.W.fnOf name qual params body scope dV kV doc pm an cdv ct), osl⟩) (hcd : PySem.W.codeIn K cdv qual = true) (S : FnScope N ps scope)
    (len : ∀ vs H Q E, sp vs H Q E → vs.length = ps.length)
    (hbody : ∀ (A : Around) (outer : List Env) (s : Shared) (H : Hp) (vs : List V) (Q : VK) (E : XK), Room k (A.deeper (envOfC qual scope s.heap.objs.size f cdv)) → sp vs H Q E →
      ∃ t, PSs (cxOf CX P w K mg base N qual scope f cdv A outer s H E) body t ∧ t { nx := fun _ H' => Q .non H', rt := Q } (start N vs) H) :
    FnOk P w K mg base CX (k + 1) f (PySem.W.fnOf name qual params body scope dV kV doc pm an cdv ct) ps sp := by
  refine ⟨len, fun A outer s H args us vs Q E hr e0 hb r hsp => ?_⟩
  have hl := len _ _ _ _ hsp
  have KX : K.In s.heap := e0.mod.kin.keeps fun b o e => (e0.bs b o e).1
  have lim : s.heap.NoLimit := e0.mod.nolimit.keeps fun b o e => (e0.bs b o e).1
  have hkind : ∀ y ∈ ps.zip us, scope.names.lookup y.1 = some .local ∨ (scope.names.lookup y.1 = some .cell ∧ ((cellsFrom (s.heap.objs.size + 1) scope.names []).lookup y.1).isSome = true) := fun ⟨n, v⟩ hy => by
    rcases S.par n (List.of_mem_zip hy).1 with q | q
    · exact .inl q
    · exact .inr ⟨q, PySem.W.cellsFrom_some _ _ _ (.inl q)⟩
  refine codeAny_call_function hr.depth (KX _ _ lk) rfl S.co S.gen rfl (PySem.W.codeRec_of KX hcd) (hb _ _ _ _ ?_)
  refine wpAny_newFunctionEnv_cells S.kind hkind fun env he s1 x => ?_
  subst he
  refine ⟨lim.keeps x.toInCall.keep, codeAny_func ?_⟩
  obtain ⟨t, ht, hq⟩ := hbody A outer s H vs Q E (hr.deeper _) hsp
  have I : Inv (cxOf CX P w K mg base N qual scope f cdv A outer s H E) [] (start N vs) H s1 := inv_start S hr.hd e0 hl r x
  refine wpAny_mono (ht [] s1 (start N vs) H _ I hq) (fun fl s' hs => ?_) fun e s' hs => hs
  have fin : ∀ {σ' : St} {H' : Hp} {v : V} {u : Value}, Inv (cxOf CX P w K mg base N qual scope f cdv A outer s H E) [] σ' H' s' → RelV v u → Q v H' → CE outer P w H s Q u s' :=
    fun {σ' H' v u} J rv q => ⟨v, H', J.os, J.bare, J.base, J.hok, rv, q⟩
  cases fl with
  | ret u =>
    obtain ⟨v, σ', H', J, rv, q⟩ := hs
    exact fin J rv q
  | next =>
    obtain ⟨σ', H', J, q⟩ := hs
    exact fin (v := V.non) (u := Value.none) J rfl q
  | brk =>
    obtain ⟨_, _, _, q⟩ := hs
    exact False.elim q
  | cont =>
    obtain ⟨_, _, _, q⟩ := hs
    exact False.elim q
end L2

namespace L2
open PySem PySem.Spec PyProof.Rows
section
variable {X : Cx} {x : Str} {p pos : Pos} {e : Expr} {es : List Expr} {t : TA} {id T : String} {r : List V → Hp → VK → Prop}

noncomputable def tCB (r : List V → Hp → VK → Prop) (t : TA) : TE := fun σ H Q => t σ H fun vs H1 => r vs H1 Q
/-- f(e, ..), f a built-in function -/
theorem pe_callB (hc : CallR X (.builtin id) r) (hg : Gl X x) (hm : X.mg x = none) (hv : bootBuiltins x = some (.builtin id)) (ha : PA X (e :: es) t) (hn : x ≠ "__name__" := by decide) (hdb : (x == ("__debug__" : Str)) = false := by decide)
    (he : starEach (e :: es) X.env = (false, eval e X.env) :: starEach es X.env := by rfl) (hpl : (backTo pos (starEach es X.env)).any (·.1) = false := by rfl) : PE X (.Call (.Name x p) (e :: es) [] pos) (tCB r t) := by
  intro pins s σ H Q I h
  refine wpAny_Call_Name_kw (ld_blt I hg hm hv ?_ hn hdb)
  exact PyProof.Rows.callWith_builtin1 (thn (ha pos pins s σ H _ I h) fun us s1 ⟨vs, H1, I1, r1, q1⟩ => hc pins s1 σ H1 vs us Q I1 r1 q1) he hpl
/-- T(e, ..), T a built-in type -/
theorem pe_callTy (hc : CallR X (.type T) r) (hg : Gl X x) (hm : X.mg x = none) (hv : bootBuiltins x = some (.type T)) (ha : PA X (e :: es) t) (hn : x ≠ "__name__" := by decide) (hdb : (x == ("__debug__" : Str)) = false := by decide)
    (he : starEach (e :: es) X.env = (false, eval e X.env) :: starEach es X.env := by rfl) (hpl : (backTo pos (starEach es X.env)).any (·.1) = false := by rfl) : PE X (.Call (.Name x p) (e :: es) [] pos) (tCB r t) := by
  intro pins s σ H Q I h
  refine wpAny_Call_Name_kw (ld_blt I hg hm hv ?_ hn hdb)
  exact PyProof.Rows.callWith_type1 (thn (ha pos pins s σ H _ I h) fun us s1 ⟨vs, H1, I1, r1, q1⟩ => hc pins s1 σ H1 vs us Q I1 r1 q1) he hpl
end
end L2

namespace HT
open PySem PyProof.Rows

section
open PySem.SeqAt
open PySem.AutoSeq1 (wpAny_loadPart')
open PySem.MeetsSeq PySem.MeetsSeq2 PySem.MeetsSeq3

end

section
variable {prog : Program} {w : World} {A : Around} {E : Value → Shared → Prop} {s : Shared}

/-- a slice's bound as a place among n (d where it is left out) -/
noncomputable def sIx (n d : Nat) : Option Int → Nat
  | none => d
  | some v => if v < 0 then (v + (n : Int)).toNat else min v.toNat n
theorem sIx_none (n d : Nat) : sIx n d none = d := rfl
theorem sIx_nat (n d k : Nat) : sIx n d (some (k : Int)) = min k n := by
  show (if (k : Int) < 0 then ((k : Int) + (n : Int)).toNat else min (k : Int).toNat n) = min k n
  rw [if_neg (by omega), Int.toNat_natCast]
theorem sIx_le (n d : Nat) (hd : d ≤ n) (o : Option Int) : sIx n d o ≤ n := by
  cases o with
  | none => exact hd
  | some v =>
    show (if v < 0 then (v + (n : Int)).toNat else min v.toNat n) ≤ n
    by_cases hv : v < 0
    · rw [if_pos hv]; omega
    · rw [if_neg hv]; exact Nat.min_le_right _ _
theorem clip_eq (v : Int) (n d : Nat) : (if v < 0 then max (v + (n : Int)) 0 else min v (n : Int)) = ((sIx n d (some v) : Nat) : Int) := by
  show (if v < 0 then max (v + (n : Int)) 0 else min v (n : Int)) = (((if v < 0 then (v + (n : Int)).toNat else min v.toNat n) : Nat) : Int)
  by_cases hv : v < 0
  · simp only [if_pos hv]; omega
  · simp only [if_neg hv]; omega
theorem adjust_gen (lo hi : Option Int) (n : Nat) : Builtin.Slice.sliceAdjust lo hi 1 (n : Int) = (((sIx n 0 lo : Nat) : Int), ((sIx n n hi : Nat) : Int)) := by
  have h1 : ¬ ((1 : Int) < 0) := by omega
  unfold Builtin.Slice.sliceAdjust
  simp only [h1, if_false]
  refine Prod.ext ?_ ?_
  · cases lo with
    | none => rfl
    | some v => exact clip_eq v n 0
  · cases hi with
    | none => rfl
    | some v => exact clip_eq v n n
theorem places_gen (i j : Nat) : Builtin.Slice.slicePlaces (i : Int) (j : Int) 1 = j - i := by
  unfold Builtin.Slice.slicePlaces
  have h1 : (1 : Int) > 0 := by omega
  simp only [h1, if_true, Int.ediv_one]
  split <;> omega
theorem slicePart_ {v : Value} {o : Option Int} {Q : Option Int → Shared → Prop} (p : IsPart v o) (h : Q o s) : wpAny (model prog w) A (Builtin.Slice.slicePartIndex v) Q E s := by
  cases p with
  | none => exact slicePart_none h
  | int i t => exact slicePart_int h
theorem sliceApplied_gen {sl : Addr} {vl vu : Value} {lo hi : Option Int} {n : Nat} {Q : Int × Int × Nat → Shared → Prop} (hs : s.heap.IsSliceOf sl vl vu .none) (pl : IsPart vl lo) (pu : IsPart vu hi)
    (h : Q (((sIx n 0 lo : Nat) : Int), 1, sIx n n hi - sIx n 0 lo) s) : wpAny (model prog w) A (Builtin.Slice.sliceApplied (.ref sl) (pure (n : Int))) Q E s := by
  obtain ⟨os, hos, hcs, hds⟩ := id hs
  unfold Builtin.Slice.sliceApplied Builtin.Slice.sliceFields
  refine wpAny_bind (wpAny_bind (wpAny_field hos hds (x := vl) rfl (wpAny_bind (wpAny_field hos hds (x := vu) rfl (wpAny_bind (wpAny_field hos hds (x := .none) rfl (wpAny_pure ?_)))))))
  refine wpAny_bind (slicePart_none ?_)
  show wpAny _ _ (if ((1 : Int) == 0) = true then _ else _) _ _ s
  rw [if_neg (by decide)]
  refine wpAny_bind (slicePart_ pl (wpAny_bind (slicePart_ pu (wpAny_bind (wpAny_pure ?_)))))
  show wpAny _ _ (match Builtin.Slice.sliceAdjust lo hi 1 (n : Int) with | (lo, hi) => pure (lo, (1 : Int), Builtin.Slice.slicePlaces lo hi 1)) _ _ s
  rw [adjust_gen lo hi n]
  show wpAny _ _ (pure (((sIx n 0 lo : Nat) : Int), (1 : Int), Builtin.Slice.slicePlaces ((sIx n 0 lo : Nat) : Int) ((sIx n n hi : Nat) : Int) 1)) _ _ s
  rw [places_gen]
  exact wpAny_pure h
theorem pick_gen (xs : Array Value) (i k : Nat) : ((List.range k).filterMap fun (m : Nat) => xs[((i : Int) + (m : Int) * 1).toNat]?).toArray = ((xs.toList.drop i).take k).toArray := by
  have e : (fun (m : Nat) => xs[((i : Int) + (m : Int) * 1).toNat]?) = fun m => xs[i + m]? := by
    funext m
    have : ((i : Int) + (m : Int) * 1).toNat = i + m := by omega
    rw [this]
  rw [e]
  have := pick_run xs i k
  rw [List.filterMap_map] at this
  have e2 : ((fun x => xs[x]?) ∘ fun x => i + x) = fun m => xs[i + m]? := rfl
  rw [e2] at this
  rw [this]

theorem getItem_tuple_cut {t sl : Addr} {items : Array Value} {vl vu : Value} {lo hi : Option Int} {Q : Value → Shared → Prop} (ht : IsTup s.heap t items) (hs : s.heap.IsSliceOf sl vl vu .none) (pl : IsPart vl lo) (pu : IsPart vu hi)
    (hw : ¬ (sIx items.size 0 lo = 0 ∧ sIx items.size items.size hi = items.size))
    (h : Q (.ref s.heap.objs.size) { s with heap := s.heap.push { cls := .type "tuple", data := .seq ((items.toList.drop (sIx items.size 0 lo)).take (sIx items.size items.size hi - sIx items.size 0 lo)).toArray } })
    (hsz : items.size ≤ sizeLine) : wpAny (model prog w) A (getItem (.ref t) (.ref sl)) Q E s := by
  have htake : sizeOk (.seq ((items.toList.drop (sIx items.size 0 lo)).take (sIx items.size items.size hi - sIx items.size 0 lo)).toArray) := by
    show ((items.toList.drop (sIx items.size 0 lo)).take (sIx items.size items.size hi - sIx items.size 0 lo)).toArray.size ≤ sizeLine
    rw [List.size_toArray, List.length_take, List.length_drop, Array.length_toList]
    omega
  have hj : sIx items.size items.size hi ≤ items.size := sIx_le _ _ (Nat.le_refl _) hi
  obtain ⟨os, hos, hcs, hds⟩ := id hs
  have hTs : s.TypeIs (.ref sl) "slice" := ⟨os, hos, hcs⟩
  unfold getItem
  try with_reducible refine wpAny_holding ?_
  first | refine wpAny_bind (wpAny_pure ?_) | skip
  refine wpAny_bind (wpAny_sequenceKey ht.typeIs (by decide) ?_)
  refine wpAny_bind (wpAny_callSpecial?_slot (name := Str.ofString "__getitem__") ht.typeIs PyProof.Rows.slot_tuple_getitem
    (wpAny_call_entry PyProof.Rows.slot_tuple_getitem ht.typeIs entry_tuple_getitem ?_ (args_tuple_getitem _ _)))
  show wpAny _ _ (Builtin.Tuple.tupleItemsOf (.ref t) >>= _) _ _ s
  refine wpAny_bind (tupleItemsOf_ ht ?_)
  refine wpAny_bind (wpAny_typeOf hTs ?_)
  rw [if_pos (by decide)]
  refine wpAny_bind (sliceApplied_gen hs pl pu ?_)
  have hno : ¬ ((((sIx items.size 0 lo : Nat) : Int) == 0 && (1 : Int) == 1 && (sIx items.size items.size hi - sIx items.size 0 lo) == items.size) = true) := by
    intro q
    rw [Bool.and_eq_true, Bool.and_eq_true] at q
    have q1 : ((sIx items.size 0 lo : Nat) : Int) = 0 := eq_of_beq q.1.1
    have q2 : sIx items.size items.size hi - sIx items.size 0 lo = items.size := eq_of_beq q.2
    exact hw ⟨by omega, by omega⟩
  show wpAny _ _ (if (((sIx items.size 0 lo : Nat) : Int) == 0 && (1 : Int) == 1 && (sIx items.size items.size hi - sIx items.size 0 lo) == items.size) = true then _ else _) _ _ s
  rw [if_neg hno, pick_gen]
  first
    | exact wpAny_bind (m := Builtin.Tuple.tupleExact _) (wpAny_newObj_type (wpAny_pure ⟨_, rfl, wpAny_pure h⟩) htake)
    | exact wpAny_bind (m := Builtin.Tuple.tupleExact _) (wpAny_newObj_type (wpAny_bind (wpAny_pure (wpAny_pure ⟨_, rfl, wpAny_pure h⟩))) htake)
    | exact wpAny_bind (wpAny_bind (m := Builtin.Tuple.tupleExact _) (wpAny_newObj_type (wpAny_pure (wpAny_pure ⟨_, rfl, wpAny_pure h⟩)) htake))
    | exact wpAny_bind (wpAny_bind (m := Builtin.Tuple.tupleExact _) (wpAny_newObj_type (wpAny_pure ⟨_, rfl, wpAny_pure h⟩) htake))
end
end HT

namespace L2
open PySem PySem.Spec PyProof.Rows

noncomputable abbrev TO := St → Hp → (Option Int → Hp → Prop) → Prop
/-- a slice's part (left out, or an int) -/
noncomputable def PO (X : Cx) (e : Option Expr) (t : TO) : Prop :=
  ∀ (pins : List (Addr × Obj)) (s : Shared) (σ : St) (H : Hp) (Q : Option Int → Hp → Prop), Inv X pins σ H s → t σ H Q →
    wpAny (model X.prog X.w) X.A (evalPart e X.env) (fun u s' => ∃ o H', Inv X pins σ H' s' ∧ IsPart u o ∧ Q o H') X.xe s
noncomputable def tNoPart : TO := fun _ H Q => Q none H
noncomputable def tPart (t : TE) : TO := fun σ H Q => t σ H fun x H1 => ∃ i, x = .int i ∧ Q (some i) H1

section
variable {X : Cx} {e : Expr} {te : TE} {lo hi : Option Expr} {tl th : TO} {pos p2 : Pos}

theorem po_none : PO X none tNoPart := by
  intro pins s σ H Q I h
  rw [evalPart_none]
  exact wpAny_pure ⟨none, H, I, .none, h⟩
theorem po_some (h : PE X e te) : PO X (some e) (tPart te) := by
  intro pins s σ H Q I hw
  rw [evalPart_some]
  refine thn (h pins s σ H _ I hw) fun u s1 ⟨x, H1, I1, r1, q1⟩ => ?_
  obtain ⟨i, rfl, q⟩ := q1
  obtain ⟨t, rfl⟩ := r1
  exact ⟨some i, H1, I1, .int i t, q⟩

/-- what a slice of a value is, by values: the slice object stands at sl -/
noncomputable def SlR (X : Cx) (r : V → Option Int → Option Int → Hp → VK → Prop) : Prop :=
  ∀ (pins : List (Addr × Obj)) (s : Shared) (σ : St) (H : Hp) (x : V) (v vl vu : Value) (lo hi : Option Int) (sl : Addr) (Q : VK), Inv X pins σ H s → RelV x v → s.heap.IsSliceOf sl vl vu .none → IsPart vl lo → IsPart vu hi → r x lo hi H Q →
    ∃ T id, typeLookup (.type T) "__getitem__" = pure (some (.builtin id)) ∧ s.TypeIs v T ∧ wpAny (model X.prog X.w) X.A (getItem v (.ref sl)) (EP X pins σ Q) X.xe s
theorem SlR.or {r r' : V → Option Int → Option Int → Hp → VK → Prop} (h : SlR X r) (h' : SlR X r') : SlR X (fun x lo hi H Q => r x lo hi H Q ∨ r' x lo hi H Q) := by
  intro pins s σ H x v vl vu lo hi sl Q I rx hs pl pu q
  rcases q with q | q
  · exact h pins s σ H x v vl vu lo hi sl Q I rx hs pl pu q
  · exact h' pins s σ H x v vl vu lo hi sl Q I rx hs pl pu q
noncomputable def tSl (r : V → Option Int → Option Int → Hp → VK → Prop) (te : TE) (tl th : TO) : TE := fun σ H Q => te σ H fun x H1 => tl σ H1 fun l H2 => th σ H2 fun u H3 => r x l u H3 Q
/-- a[lo:hi], any a -/
theorem pe_slice {r : V → Option Int → Option Int → Hp → VK → Prop} (hr : SlR X r) (he : PE X e te) (hl : PO X lo tl) (hu : PO X hi th) : PE X (.Subscript e (.Slice lo hi none p2) pos) (tSl r te tl th) := by
  intro pins s σ H Q I h
  refine Subscript_ (thn (he pins s σ H _ I h) fun v s1 ⟨x, H1, I1, r1, q1⟩ => ?_)
  refine wpAny_Slice (thn (hl pins s1 σ H1 _ I1 q1) fun vl s2 ⟨l, H2, I2, pl, q2⟩ => thn (hu pins s2 σ H2 _ I2 q2) fun vu s3 ⟨u, H3, I3, pu, q3⟩ => ?_)
  rw [evalPart_none]
  refine wpAny_pure ?_
  have I4 : Inv X pins σ H3 { s3 with heap := s3.heap.push { cls := .type "slice", data := .fields #[vl, vu, .none] } } := I3.kept (t' := s3.toks) fun b ob q => Heap.get?_push_of_some _ q
  obtain ⟨T, id, hT, ht, hg⟩ := hr pins { s3 with heap := s3.heap.push { cls := .type "slice", data := .fields #[vl, vu, .none] } } σ H3 x v vl vu l u s3.heap.objs.size Q I4 r1 (Heap.IsSliceOf.new ..) pl pu q3
  show wpAny (model X.prog X.w) X.A (subscriptTail e (.Slice lo hi none p2) v (.ref s3.heap.objs.size)) (EP X pins σ Q) X.xe { s3 with heap := s3.heap.push { cls := .type "slice", data := .fields #[vl, vu, .none] } }
  exact tail_any (ops := [.ref s3.heap.objs.size, v]) ht hT hg (by with_unfolding_all rfl)

/-- the items of xs[lo:hi] -/
noncomputable def cutV (xs : List V) (lo hi : Option Int) : List V := (xs.drop (HT.sIx xs.length 0 lo)).take (HT.sIx xs.length xs.length hi - HT.sIx xs.length 0 lo)
theorem cutV_length (xs : List V) (lo hi : Option Int) : (cutV xs lo hi).length ≤ xs.length := by
  unfold cutV
  rw [List.length_take, List.length_drop]
  omega
/-- t[lo:hi], not the whole of it (the whole would be t itself) -/
noncomputable def rSlT (K : PySem.W.Frag) : V → Option Int → Option Int → Hp → VK → Prop := fun x lo hi H Q => ∃ a xs, x = .ref a ∧ SqT K H a xs ∧
  ¬ (HT.sIx xs.length 0 lo = 0 ∧ HT.sIx xs.length xs.length hi = xs.length) ∧ ∀ p, H p = none → Q (.ref p) (upd H p (.tup (cutV xs lo hi)))
theorem sl_tup : SlR X (rSlT X.K) := by
  intro pins s σ H x v vl vu lo hi sl Q I rx hs pl pu h
  obtain ⟨a, xs, rfl, hx, hw, q⟩ := h
  cases rx
  obtain ⟨its, r, ht, hz⟩ := I.tuple hx
  have hlen : its.toArray.size = xs.length := by rw [List.size_toArray]; exact r.length.symm
  refine ⟨"tuple", _, PyProof.Rows.slot_tuple_getitem.lookup, ht.typeIs, ?_⟩
  refine HT.getItem_tuple_cut ht hs pl pu (by rw [hlen]; exact hw) ?_ (by rw [hlen]; exact hz)
  rw [hlen]
  refine ⟨.ref s.heap.objs.size, _, I.laid (t' := s.toks) (o := .tup (cutV xs lo hi)) (fun b ob q => Heap.get?_push_of_some _ q) (Nat.le_refl _) ?_, rfl, q _ (I.hok.fresh (Nat.le_refl _))⟩
  exact ⟨Nat.le_trans (cutV_length xs lo hi) hz, _, (r.drop (HT.sIx xs.length 0 lo)).take (HT.sIx xs.length xs.length hi - HT.sIx xs.length 0 lo), IsTup.new _ _⟩

end
end L2

namespace L2
open PySem PySem.Spec PyProof.Rows

/-- the place that an index of any sign means -/
noncomputable def ixN (n : Nat) (i : Int) : Option Nat := if 0 ≤ i then (if i < n then some i.toNat else none) else if -(n : Int) ≤ i then some (i + n).toNat else none
noncomputable def atI {α : Type} (xs : List α) (i : Int) : Option α := (ixN xs.length i).bind fun j => xs[j]?
theorem ixN_seq {n : Nat} {i : Int} {j : Nat} (h : ixN n i = some j) : seqIndex? i n = some j ∧ j < n ∧ -(n : Int) ≤ i ∧ i < n := by
  unfold ixN at h
  by_cases h0 : 0 ≤ i
  · rw [if_pos h0] at h
    by_cases h1 : i < n
    · rw [if_pos h1] at h
      have e : i.toNat = j := Option.some.inj h
      exact ⟨by rw [seqIndex_of h0 h1, e], by omega, by omega, h1⟩
    · rw [if_neg h1] at h; cases h
  · rw [if_neg h0] at h
    by_cases h1 : -(n : Int) ≤ i
    · rw [if_pos h1] at h
      have e : (i + n).toNat = j := Option.some.inj h
      exact ⟨by rw [seqIndex_neg (by omega) h1, e], by omega, h1, by omega⟩
    · rw [if_neg h1] at h; cases h
theorem atI_get {α : Type} {xs : List α} {i : Int} {v : α} (h : atI xs i = some v) : ∃ j, seqIndex? i xs.length = some j ∧ xs[j]? = some v ∧ j < xs.length ∧ -(xs.length : Int) ≤ i ∧ i < xs.length := by
  unfold atI at h
  cases e : ixN xs.length i with
  | none => rw [e] at h; cases h
  | some j =>
    rw [e] at h
    obtain ⟨h1, h2, h3, h4⟩ := ixN_seq e
    exact ⟨j, h1, h, h2, h3, h4⟩
theorem atI_nat {α : Type} {xs : List α} {j : Nat} {v : α} (h : xs[j]? = some v) : atI xs (j : Int) = some v := by
  have hj : j < xs.length := (List.getElem?_eq_some_iff.mp h).1
  have e : ixN xs.length (j : Int) = some j := by
    unfold ixN
    rw [if_pos (by omega), if_pos (by omega)]; simp
  unfold atI; rw [e]; exact h
/-- what stands as an index of a plain subscript -/
noncomputable def PlainIx (b : Expr) : Prop := ∀ o i, subscripted b false o i = operate [o, i] (getItem o i)
/-- a subscript by values -/
noncomputable def IxR (X : Cx) (r : R2) : Prop :=
  ∀ (value slice : Expr) (pins : List (Addr × Obj)) (s : Shared) (σ : St) (H : Hp) (x y : V) (v u : Value) (Q : VK), Inv X pins σ H s → RelV x v → RelV y u → r x y H Q →
    subscripted slice false v u = operate [v, u] (getItem v u) → wpAny (model X.prog X.w) X.A (subscriptTail value slice v u) (EP X pins σ Q) X.xe s
/-- a call of a builtin's method by values: the receiver, the arguments -/
noncomputable def MtR (X : Cx) (id : String) (r : V → List V → Hp → VK → Prop) : Prop :=
  ∀ (pins : List (Addr × Obj)) (s : Shared) (σ : St) (H : Hp) (x : V) (xs : List V) (v : Value) (us : List Value) (Q : VK), Inv X pins σ H s → RelV x v → Vals xs us → r x xs H Q →
    wpAny (model X.prog X.w) X.A (call (.builtin id) (v :: us)) (EP X pins σ Q) X.xe s
section
variable {X : Cx} {a b : Expr} {ta tb : TE} {pos : Pos}
/-- a[b] -/
theorem pe_ix {r : R2} (hr : IxR X r) (ha : PE X a ta) (hb : PE X b tb) (hs : PlainIx b) : PE X (.Subscript a b pos) (tOp r ta tb) := by
  intro pins s σ H Q I h
  exact Subscript_ (binT ha hb I h fun v u s2 x y H2 I2 rx ry q => hr a b pins s2 σ H2 x y v u Q I2 rx ry q (hs _ _))

noncomputable def rIxL (K : PySem.W.Frag) : R2 := fun x y H Q => ∃ p xs i v, x = .ref p ∧ y = .int i ∧ SqL K H p xs ∧ atI xs i = some v ∧ Q v H
noncomputable def rIxT (K : PySem.W.Frag) : R2 := fun x y H Q => ∃ p xs i v, x = .ref p ∧ y = .int i ∧ SqT K H p xs ∧ atI xs i = some v ∧ Q v H
noncomputable def rIxS : R2 := fun x y H Q => ∃ z i c, x = .str z ∧ y = .int i ∧ z.length ≤ sizeLine ∧ atI z.cps.toList i = some c ∧ Q (.str ⟨#[c]⟩) H
theorem ix_list : IxR X (rIxL X.K) := by
  intro value slice pins s σ H x y v u Q I rx ry h hs
  obtain ⟨p, xs, i, z, rfl, rfl, hq, he, q⟩ := h
  cases rx
  obtain ⟨t, rfl⟩ := ry
  obtain ⟨its, r, pl, hz⟩ := I.list hq
  obtain ⟨j, h1, h2, h3, h4, h5⟩ := atI_get he
  obtain ⟨w, ew, rw'⟩ := r.get h2
  have hl := r.length
  have hn := line63
  have fin : EP X pins σ Q w s := ⟨z, H, I, rw', q⟩
  by_cases h0 : 0 ≤ i
  · have hj : i.toNat = j := by
      rw [seqIndex_of h0 h5] at h1
      exact Option.some.inj h1
    exact item_listR pl.isList h0 (by omega) (by rw [hj]; simpa using ew) fin hs
  · have hj : (i + (its.toArray.size : Int)).toNat = j := by
      rw [seqIndex_neg (by omega) h4] at h1
      rw [List.size_toArray, ← hl]
      exact Option.some.inj h1
    exact subscriptTail_builtinR (x := w) pl.isList.typeIs slot_list_getitem.lookup
      (wpAny_getItem_list_neg (Q := fun r s' => r = w ∧ EP X pins σ Q r s') pl.isList (by omega) (by rw [List.size_toArray] <;> omega) (by omega) (by rw [hj]; simpa using ew) ⟨rfl, fin⟩) hs
theorem ix_str : IxR X rIxS := by
  intro value slice pins s σ H x y v u Q I rx ry h hs
  obtain ⟨z, i, c, rfl, rfl, hz, he, q⟩ := h
  obtain ⟨t, rfl⟩ := rx
  obtain ⟨t', rfl⟩ := ry
  obtain ⟨j, h1, h2, h3, h4, h5⟩ := atI_get he
  have hl : z.cps.toList.length = z.length := by simp [Str.length]
  rw [hl] at h1 h4 h5
  have hn := line63
  exact tail_any (typeIs_str s z t) slot_str_getitem.lookup (getItem_str (c := c) (by
    have e1 : decide (i < -(2 ^ 63 : Int)) = false := decide_eq_false (by omega)
    have e2 : decide (i ≥ 2 ^ 63) = false := decide_eq_false (by omega)
    rw [e1, e2, Bool.or_false]) (by rw [h1]; simpa using h2) ⟨.str ⟨#[c]⟩, H, I.tok _, ⟨_, rfl⟩, q⟩) hs
/-- list, tuple or str -/
noncomputable def rIx (K : PySem.W.Frag) : R2 := fun x y H Q => rIxL K x y H Q ∨ rIxT K x y H Q ∨ rIxS x y H Q
/-- the list's object behind a store -/
theorem mapSeq_set (its : List Value) (n j : Nat) (u : Value) : Obj.mapSeq (·.setIfInBounds j u) { cls := .type "list", data := .seq its.toArray n } = { cls := .type "list", data := .seq (its.set j u).toArray n } := by
  simp [Obj.mapSeq]
theorem Inv.lst {pins : List (Addr × Obj)} {σ : St} {H : Hp} {s : Shared} {p : Addr} {xs : List V} (I : Inv X pins σ H s) (h : H p = some (.lst xs)) :
    ∃ (its : List Value) (n : Nat), Vals xs its ∧ s.heap.get? p = some { cls := .type "list", data := .seq its.toArray n } ∧ xs.length ≤ sizeLine := by
  obtain ⟨z, its, n, r, e⟩ := I.hok p _ h
  exact ⟨its, n, r, e, z⟩
/-- the list at p is written by an update of its object -/
theorem Inv.lstUpd {pins : List (Addr × Obj)} {σ : St} {H : Hp} {s : Shared} {p : Addr} {xs ys : List V} {its its' : List Value} {n n' : Nat} {f : Obj → Obj} (I : Inv X pins σ H s) (h : H p = some (.lst xs))
    (ho : s.heap.get? p = some { cls := .type "list", data := .seq its.toArray n }) (hf : f { cls := .type "list", data := .seq its.toArray n } = { cls := .type "list", data := .seq its'.toArray n' }) (r : Vals ys its') (hz : ys.length ≤ sizeLine) (t : Nat) :
    Inv X pins σ (upd H p (.lst ys)) { s with heap := s.heap.update p f, toks := t } := by
  have e : (s.heap.update p f).get? p = some { cls := .type "list", data := .seq its'.toArray n' } := by
    rw [Heap.get?_update_self f ho (by rw [hf] <;> rfl), hf]
  refine I.write (x := p) (e := p) (by rw [h]; trivial) (.inl rfl) (fun b u hb q => (Heap.get?_update_other _ _ (Ne.symm hb)).trans q) ⟨_, e⟩ ?_
  exact ⟨hz, its', n', r, e⟩
noncomputable def rSetL : V → V → V → Hp → (Hp → Prop) → Prop := fun o i v H Q => ∃ p xs k j, o = .ref p ∧ i = .int k ∧ H p = some (.lst xs) ∧ ixN xs.length k = some j ∧ Q (upd H p (.lst (xs.set j v)))
theorem set_list : PSet X rSetL := by
  intro pins s σ H o i v ov iv u Q I ro ri rv h
  obtain ⟨p, xs, k, j, rfl, rfl, hp, hj, q⟩ := h
  cases ro
  obtain ⟨t, rfl⟩ := ri
  obtain ⟨its, n, r, ho, hz⟩ := I.lst hp
  obtain ⟨h1, h2, h3, h4⟩ := ixN_seq hj
  have hl := r.length
  have hn := line63
  have I' : Inv X pins σ (upd H p (.lst (xs.set j v))) { s with heap := s.heap.update p (Obj.mapSeq (·.setIfInBounds j u)) } :=
    I.lstUpd hp ho (mapSeq_set its n j u) (r.set rv j) (by rw [List.length_set]; exact hz) s.toks
  by_cases h0 : 0 ≤ k
  · have hk : k.toNat = j := by
      rw [seqIndex_of h0 h4] at h1
      exact Option.some.inj h1
    exact PySem.W.ki_setAt ho h0 (by omega) (by rw [List.size_toArray, ← hl]; exact h4) (by rw [hk]; exact ⟨_, I', q⟩)
  · have hk : (k + (its.toArray.size : Int)).toNat = j := by
      rw [seqIndex_neg (by omega) h3] at h1
      rw [List.size_toArray, ← hl]
      exact Option.some.inj h1
    exact PySem.W.ki_setBack ho (by omega) (by rw [List.size_toArray, ← hl]; exact h3) (by omega) (by rw [hk]; exact ⟨_, I', q⟩)

theorem slice_bounds (lo hi : Option Int) (n : Nat) : (sliceBounds lo hi none n).1 = ((HT.sIx n 0 lo : Nat) : Int) ∧ (sliceBounds lo hi none n).2.1 = ((HT.sIx n n hi : Nat) : Int) ∧ (sliceBounds lo hi none n).2.2 = 1 := by
  refine ⟨?_, ?_, rfl⟩
  · cases lo with
    | none => simp [sliceBounds, HT.sIx]
    | some i =>
      simp only [sliceBounds, HT.sIx, Option.getD_none, show (1 : Int) > 0 by decide, if_true]
      by_cases h : i < 0
      · simp only [h, if_true] <;> omega
      · simp only [h, if_false] <;> omega
  · cases hi with
    | none => simp [sliceBounds, HT.sIx]
    | some i =>
      simp only [sliceBounds, HT.sIx, Option.getD_none, show (1 : Int) > 0 by decide, if_true]
      by_cases h : i < 0
      · simp only [h, if_true] <;> omega
      · simp only [h, if_false] <;> omega
theorem slicePick_cut (its : List Value) (lo hi : Option Int) : slicePick its.toArray lo hi none = ((its.drop (HT.sIx its.length 0 lo)).take (HT.sIx its.length its.length hi - HT.sIx its.length 0 lo)).toArray := by
  obtain ⟨h1, h2, h3⟩ := slice_bounds lo hi its.toArray.size
  unfold slicePick
  rw [h1, h2, h3]
  simp only [sliceRange_one, pick_run, List.size_toArray] <;> rfl
/-- xs[lo:hi] of a list: a new list -/
noncomputable def rSlL (K : PySem.W.Frag) : V → Option Int → Option Int → Hp → VK → Prop := fun x lo hi H Q => ∃ a xs, x = .ref a ∧ SqL K H a xs ∧ ∀ p, H p = none → Q (.ref p) (upd H p (.lst (cutV xs lo hi)))
theorem sl_list : SlR X (rSlL X.K) := by
  intro pins s σ H x v vl vu lo hi sl Q I rx hs pl pu h
  obtain ⟨a, xs, rfl, hx, q⟩ := h
  cases rx
  obtain ⟨its, r, ht, hz⟩ := I.list hx
  have hlen := r.length
  refine ⟨"list", _, slot_list_getitem.lookup, ht.isList.typeIs, ?_⟩
  refine wpAny_getItem_list_slice ht.isList hs pl pu .none (by simp) ?_ (by rw [List.size_toArray] <;> omega)
  rw [slicePick_cut, ← hlen]
  refine ⟨.ref s.heap.objs.size, _, I.laid (t' := s.toks) (o := .lst (cutV xs lo hi)) (fun b ob q => Heap.get?_push_of_some _ q) (Nat.le_refl _) ?_, rfl, q _ (I.hok.fresh (Nat.le_refl _))⟩
  exact ⟨Nat.le_trans (cutV_length xs lo hi) hz, _, 0, (r.drop (HT.sIx xs.length 0 lo)).take (HT.sIx xs.length xs.length hi - HT.sIx xs.length 0 lo), Heap.get?_push_size _ rfl⟩

noncomputable def flatV : V → Bool
  | .non => true
  | .bl _ => true
  | .int _ => true
  | .str _ => true
  | _ => false
/-- == of flat values -/
noncomputable def eqV : V → V → Bool
  | .non, .non => true
  | .bl a, .bl b => a == b
  | .bl a, .int b => (if a then 1 else 0) == b
  | .int a, .bl b => a == (if b then 1 else 0)
  | .int a, .int b => a == b
  | .str a, .str b => a == b
  | _, _ => false
theorem eqAt_V {A : Around} {s : Shared} {y x : V} {u v : Value} (ry : RelV y u) (rx : RelV x v) (fy : flatV y = true) (fx : flatV x = true) : SeqAt.EqAt A s u v (eqV y x) := by
  cases y with
  | non =>
    cases ry
    cases x with
    | non => cases rx; exact SeqAt.EqAt.same _
    | bl b => cases rx; exact SeqAt.EqAt.none_bool b
    | int b => obtain ⟨t, rfl⟩ := rx; exact SeqAt.EqAt.none_int b t
    | str b => obtain ⟨t, rfl⟩ := rx; exact SeqAt.EqAt.none_str b t
    | _ => exact absurd (show false = true from fx) Bool.false_ne_true
  | bl a =>
    cases ry
    cases x with
    | non => cases rx; exact SeqAt.EqAt.bool_none a
    | bl b => cases rx; exact SeqAt.EqAt.bool_bool a b
    | int b => obtain ⟨t, rfl⟩ := rx; exact SeqAt.EqAt.bool_int a b t
    | str b => obtain ⟨t, rfl⟩ := rx; exact SeqAt.EqAt.bool_str a b t
    | _ => exact absurd (show false = true from fx) Bool.false_ne_true
  | int a =>
    obtain ⟨t', rfl⟩ := ry
    cases x with
    | non => cases rx; exact SeqAt.EqAt.int_none a t'
    | bl b => cases rx; exact SeqAt.EqAt.int_bool a t' b
    | int b => obtain ⟨t, rfl⟩ := rx; exact SeqAt.EqAt.int_int a t' b t
    | str b => obtain ⟨t, rfl⟩ := rx; exact SeqAt.EqAt.int_str a t' b t
    | _ => exact absurd (show false = true from fx) Bool.false_ne_true
  | str a =>
    obtain ⟨t', rfl⟩ := ry
    cases x with
    | non => cases rx; exact SeqAt.EqAt.str_none a t'
    | bl b => cases rx; exact SeqAt.EqAt.str_bool a t' b
    | int b => obtain ⟨t, rfl⟩ := rx; exact SeqAt.EqAt.str_int a t' b t
    | str b => obtain ⟨t, rfl⟩ := rx; exact SeqAt.EqAt.str_str a t' b t
    | _ => exact absurd (show false = true from fx) Bool.false_ne_true
  | _ => exact absurd (show false = true from fy) Bool.false_ne_true
/-- the items' answers, read off the values (a value's own answer does not lean on its token) -/
noncomputable def eqU (x : V) (u : Value) : Bool := match u with
  | .none => eqV .non x
  | .bool b => eqV (.bl b) x
  | .int i _ => eqV (.int i) x
  | .str z _ => eqV (.str z) x
  | _ => false
theorem eqU_of {x y : V} {u : Value} (r : RelV y u) (f : flatV y = true) : eqU x u = eqV y x := by
  cases y with
  | non => cases r; rfl
  | bl b => cases r; rfl
  | int i => obtain ⟨t, rfl⟩ := r; rfl
  | str z => obtain ⟨t, rfl⟩ := r; rfl
  | _ => exact absurd (show false = true from f) Bool.false_ne_true
theorem any_eqU {x : V} : ∀ {xs : List V} {us : List Value}, Vals xs us → xs.all flatV = true → us.any (eqU x) = xs.any fun y => eqV y x
  | _, _, .nil, _ => rfl
  | y :: xs, u :: us, .cons r t, f => by
    rw [List.all_cons, Bool.and_eq_true] at f
    rw [List.any_cons, List.any_cons, eqU_of r f.1, any_eqU t f.2]
theorem mem_eqAt {A : Around} {s : Shared} {x : V} {v : Value} (rx : RelV x v) (fx : flatV x = true) : ∀ {xs : List V} {us : List Value}, Vals xs us → xs.all flatV = true → ∀ u ∈ us, SeqAt.EqAt A s u v (eqU x u)
  | _, _, .nil, _ => fun u hu => by cases hu
  | y :: xs, u :: us, .cons r t, f => fun u' hu => by
    rw [List.all_cons, Bool.and_eq_true] at f
    rcases List.mem_cons.mp hu with rfl | hu
    · rw [eqU_of r f.1]; exact eqAt_V r rx f.1 fx
    · exact mem_eqAt rx fx t f.2 u' hu
noncomputable def inV (x : V) (xs : List V) : Bool := xs.any fun y => eqV y x
/-- x in a list or tuple of flat items -/
noncomputable def rIn (K : PySem.W.Frag) (neg : Bool) : R2 := fun x y H Q => ∃ p xs, y = .ref p ∧ (SqL K H p xs ∨ SqT K H p xs) ∧ flatV x = true ∧ xs.all flatV = true ∧ Q (.bl (if neg then !inV x xs else inV x xs)) H
theorem op_in_seq : OpR X (compareOp .In) (rIn X.K false) := by
  intro pins s σ H x y v u Q I rx ry h
  obtain ⟨p, xs, rfl, hq, fx, fs, q⟩ := h
  cases ry
  rcases hq with hq | hq
  · obtain ⟨its, r, pl, hz⟩ := I.list hq
    refine SeqAt.in_listAt (eqU x) pl.isList (fun w hw => mem_eqAt rx fx r fs w (by simpa using hw)) ⟨.bl _, H, I, rfl, ?_⟩
    rw [show its.toArray.any (eqU x) = its.any (eqU x) by simp, any_eqU r fs]
    exact q
  · obtain ⟨its, r, pl, hz⟩ := I.tuple hq
    refine SeqAt.in_tupleAt (eqU x) pl (fun w hw => mem_eqAt rx fx r fs w (by simpa using hw)) ⟨.bl _, H, I, rfl, ?_⟩
    rw [show its.toArray.any (eqU x) = its.any (eqU x) by simp, any_eqU r fs]
    exact q
/-- the value is of that builtin type -/
noncomputable def tyV (K : PySem.W.Frag) (T : String) (x : V) (H : Hp) : Prop := match x with
  | .str _ => T = "str"
  | .int _ => T = "int"
  | .ref p => (T = "list" ∧ ∃ xs, SqL K H p xs) ∨ (T = "tuple" ∧ ∃ o, K.lookup p = some o ∧ o.cls = .type "tuple" ∧ o.dict = none) ∨
      (T = "dict" ∧ ((∃ kvs, H p = some (.dK kvs)) ∨ ∃ kvs, H p = some (.dT kvs))) ∨ (T = "set" ∧ ∃ S n, H p = some (.set S n))
  | _ => False
theorem tyV_is {pins : List (Addr × Obj)} {σ : St} {H : Hp} {s : Shared} {T : String} {x : V} {v : Value} (I : Inv X pins σ H s) (r : RelV x v) (ty : tyV X.K T x H) :
    s.TypeIs v T ∧ ∀ a, v = .ref a → ∃ ob, s.heap.get? a = some ob ∧ ob.dict = none := by
  cases x with
  | str z =>
    obtain ⟨t, rfl⟩ := r
    cases (show T = "str" from ty)
    exact ⟨typeIs_str s z t, fun _ e => nomatch e⟩
  | int i =>
    obtain ⟨t, rfl⟩ := r
    cases (show T = "int" from ty)
    exact ⟨typeIs_int s i t, fun _ e => nomatch e⟩
  | ref p =>
    cases r
    rcases ty with ⟨rfl, xs, hq⟩ | ⟨rfl, o, hk, hc, hd⟩ | ⟨rfl, hk⟩ | ⟨rfl, S, n, hk⟩
    · obtain ⟨its, _, pl, _⟩ := I.list hq
      refine ⟨pl.isList.typeIs, fun a e => ?_⟩
      cases e
      obtain ⟨o, n, e, c, hd, _⟩ := pl
      exact ⟨o, e, hd⟩
    · refine ⟨⟨o, I.kIn p o hk, hc⟩, fun a e => ?_⟩
      cases e
      exact ⟨o, I.kIn _ o hk, hd⟩
    · have z : ∃ o, s.heap.get? p = some o ∧ o.ExactDict := by
        rcases hk with ⟨kvs, hk⟩ | ⟨kvs, hk⟩
        · obtain ⟨_, _, _, _, o, _, _, e, ex, _⟩ := I.hok p _ hk
          exact ⟨o, e, ex⟩
        · obtain ⟨_, _, _, _, o, _, _, e, ex, _⟩ := I.hok p _ hk
          exact ⟨o, e, ex⟩
      obtain ⟨o, e, ex⟩ := z
      refine ⟨⟨o, e, ex.1⟩, fun a e2 => ?_⟩
      cases e2
      exact ⟨o, e, ex.2.1⟩
    · obtain ⟨o, _, _, _, e, ex, _⟩ := I.hok p _ hk
      refine ⟨⟨o, e, ex.1⟩, fun a e2 => ?_⟩
      cases e2
      exact ⟨o, e, ex.2.1⟩
  | _ => exact False.elim ty
noncomputable def tBM0 (K : PySem.W.Frag) (T : String) (r : V → List V → Hp → VK → Prop) (to : TE) : TE := fun σ H Q => to σ H fun x H1 => tyV K T x H1 ∧ r x [] H1 Q
noncomputable def tBM (K : PySem.W.Frag) (T : String) (r : V → List V → Hp → VK → Prop) (to : TE) (t : TA) : TE := fun σ H Q => to σ H fun x H1 => tyV K T x H1 ∧ t σ H1 fun xs H2 => r x xs H2 Q
variable {o e : Expr} {es : List Expr} {to : TE} {t : TA} {name : Str} {apos cpos : Pos} {T id : String} {r : V → List V → Hp → VK → Prop}
theorem pe_bm0 (pa : PlainAttrs T) (slot : Slot T name id) (hty : typeOf (.builtin id) = pure (.type "method_descriptor")) (hm : MtR X id r) (ho : PE X o to)
    (hbase : attributeBase o name X.env (eval o X.env) = eval o X.env := by rfl) (hline : (apos.endLine == cpos.line) = true := by rfl) : PE X (.Call (.Attribute o name apos) [] [] cpos) (tBM0 X.K T r to) := by
  intro pins s σ H Q I h
  refine wpAny_Call_method0_late hbase hline (thn (ho pins s σ H _ I h) fun v s1 ⟨x, H1, I1, r1, ty, q1⟩ => ?_)
  obtain ⟨h1, h2⟩ := tyV_is I1 r1 ty
  exact ⟨T, id, pa, slot, hty, h1, h2, Calls.callWith_builtin rfl (PySem.evalArgs_none (hm pins s1 σ H1 x [] v [] Q I1 r1 .nil q1))⟩
theorem pe_bm (pa : PlainAttrs T) (slot : Slot T name id) (hty : typeOf (.builtin id) = pure (.type "method_descriptor")) (hm : MtR X id r) (ho : PE X o to) (ha : PA X (e :: es) t)
    (hbase : attributeBase o name X.env (eval o X.env) = eval o X.env := by rfl)
    (hfew : ((backTo cpos (starEach (e :: es) X.env)).all (fun x => !x.1) && (backToKw cpos (keywordEach [] X.env)).all (fun x => x.1.isSome)
      && decide ((e :: es).length + ([] : List Keyword).length + (if ([] : List Keyword).isEmpty then 0 else 1) < 30)) = true := by rfl)
    (hline : (apos.endLine == cpos.line) = true := by rfl) (hs : starEach (e :: es) X.env = (false, eval e X.env) :: starEach es X.env := by rfl) (hplain : (backTo cpos (starEach es X.env)).any (·.1) = false := by rfl) :
    PE X (.Call (.Attribute o name apos) (e :: es) [] cpos) (tBM X.K T r to t) := by
  intro pins s σ H Q I h
  refine wpAny_Call_method_late hbase hfew hline rfl (thn (ho pins s σ H _ I h) fun v s1 ⟨x, H1, I1, r1, ty, q1⟩ => ?_)
  obtain ⟨h1, h2⟩ := tyV_is I1 r1 ty
  refine ⟨T, id, pa, slot, hty, h1, h2, ?_⟩
  have hA := ha cpos pins s1 σ H1 _ I1 q1
  rw [hs] at hA ⊢
  refine Calls.callWith_builtin (by show (false || (backTo cpos (starEach es X.env)).any (·.1)) = false; rw [hplain] <;> rfl) (Calls.evalArgs_plain ?_)
  exact thn hA fun us s2 ⟨vs, H2, I2, r2, q2⟩ => hm pins s2 σ H2 x vs v us Q I2 r1 r2 q2
/- xs.append(e), list.index on a module's tuple .. are MtR facts of 06m -/
end
end L2

namespace L2
open PySem PySem.Spec PyProof.Rows

noncomputable def MtM (X : Cx) (id : String) (r : V → List V → Hp → VK → Prop) : Prop :=
  ∀ (pins : List (Addr × Obj)) (s : Shared) (σ : St) (H : Hp) (x : V) (xs : List V) (v : Value) (us : List Value) (Q : VK), Inv X pins σ H s → RelV x v → Vals xs us → r x xs H Q →
    wpAny (model X.prog X.w) X.A (call (.builtin id) (v :: us)) (EP X pins σ Q) X.xe s

theorem Vals.one : ∀ {x : V} {us : List Value}, Vals [x] us → ∃ u, us = [u] ∧ RelV x u
  | _, _, .cons r .nil => ⟨_, rfl, r⟩
theorem Vals.zero : ∀ {us : List Value}, Vals [] us → us = []
  | _, .nil => rfl
theorem Vals.rep {xs : List V} {us : List Value} (h : Vals xs us) : ∀ k : Nat, Vals (List.replicate k xs).flatten (List.replicate k us).flatten
  | 0 => .nil
  | k + 1 => by
    rw [List.replicate_succ, List.replicate_succ, List.flatten_cons, List.flatten_cons]
    exact Vals.append h (Vals.rep h k)
theorem foldl_rep (its : List Value) : ∀ (k : Nat) (acc : List Value),
    List.foldl (fun x1 x2 => x1 ++ x2) acc.toArray (List.replicate k its.toArray) = (acc ++ (List.replicate k its).flatten).toArray
  | 0, acc => by simp
  | k + 1, acc => by
    have e : acc.toArray ++ its.toArray = (acc ++ its).toArray := by simp
    have e2 : (acc ++ its) ++ (List.replicate k its).flatten = acc ++ (List.replicate (k + 1) its).flatten := by
      rw [List.replicate_succ, List.flatten_cons, List.append_assoc]
    rw [← e2, ← foldl_rep its k (acc ++ its), ← e, List.replicate_succ, List.foldl_cons]

section
variable {X : Cx} {pins : List (Addr × Obj)} {σ : St} {H : Hp} {s : Shared} {l b : Addr} {xs ys zs : List V}

theorem Inv.lset {its its' : List Value} {n : Nat} {f : Array Value → Array Value} {t' : Nat} (I : Inv X pins σ H s) (hH : H l = some (.lst xs))
    (e : s.heap.get? l = some { cls := .type "list", data := .seq its.toArray n }) (hf : f its.toArray = its'.toArray) (hv : Vals ys its') (hz : ys.length ≤ sizeLine) :
    Inv X pins σ (upd H l (.lst ys)) { s with heap := s.heap.update l (Obj.mapSeq f), toks := t' } := by
  have q := PySem.IsL.update e f
  rw [hf] at q
  refine I.write (x := l) (e := l) (by rw [hH]; exact trivial) (.inl rfl) (fun b' u hb hu => (Heap.get?_update_other s.heap (Obj.mapSeq f) (Ne.symm hb)).trans hu) ⟨_, q⟩ ?_
  exact ⟨hz, its', _, hv, q⟩
theorem Inv.lnew {its : List Value} {t' : Nat} (I : Inv X pins σ H s) (hv : Vals ys its) (hz : ys.length ≤ sizeLine) :
    Inv X pins σ (upd H s.heap.objs.size (.lst ys)) { s with heap := s.heap.push { cls := .type "list", data := .seq its.toArray }, toks := t' } :=
  I.laid (fun _ _ q => Heap.get?_push_of_some _ q) (Nat.le_refl _) ⟨hz, its, 0, hv, Heap.get?_push_size _ rfl⟩
theorem Inv.fresh (I : Inv X pins σ H s) : H s.heap.objs.size = none := I.hok.fresh (Nat.le_refl _)
theorem Inv.lstM (I : Inv X pins σ H s) (hH : H l = some (.lst xs)) : xs.length ≤ sizeLine ∧ ∃ (its : List Value) (n : Nat), Vals xs its ∧ xs.length = its.length ∧ s.heap.get? l = some { cls := .type "list", data := .seq its.toArray n } := by
  obtain ⟨z, its, n, r, e⟩ := I.hok l _ hH
  exact ⟨z, its, n, r, r.length, e⟩

theorem notLongL {n : Nat} (h : n ≤ sizeLine) : Builtin.List.listTooLong n = false := by
  unfold Builtin.List.listTooLong
  exact decide_eq_false (by omega)
end

section
variable {X : Cx}

noncomputable def rAppend : V → List V → Hp → VK → Prop := fun x vs H Q => ∃ l xs y, x = .ref l ∧ vs = [y] ∧ H l = some (.lst xs) ∧ xs.length < sizeLine ∧ Q .non (upd H l (.lst (xs ++ [y])))
theorem mt_append : MtM X "list.append" rAppend := by
  intro pins s σ H x vs v us Q I rx rv h
  obtain ⟨l, xs, y, rfl, rfl, hH, hz, q⟩ := h
  cases rx
  obtain ⟨u, rfl, ru⟩ := rv.one
  obtain ⟨z, its, n, r, hl, e⟩ := I.lstM hH
  refine call_meets F.slot_list_append ⟨_, e, rfl⟩ F.entry_list_append (F.args_list_append_2 _ _) (PySem.list_append l its.toArray n u (by rw [List.size_toArray]; omega)) ⟨e, ?_⟩
  refine ⟨.non, _, I.lset (its' := its ++ [u]) hH e (by simp) (r.append (.cons ru .nil)) ?_, rfl, q⟩
  rw [List.length_append, List.length_singleton]
  omega

noncomputable def rExtend : V → List V → Hp → VK → Prop := fun x vs H Q => ∃ l b xs zs, x = .ref l ∧ vs = [.ref b] ∧ H l = some (.lst xs) ∧ H b = some (.lst zs) ∧ xs.length + zs.length ≤ sizeLine ∧ Q .non (upd H l (.lst (xs ++ zs)))
theorem mt_extend : MtM X "list.extend" rExtend := by
  intro pins s σ H x vs v us Q I rx rv h
  obtain ⟨l, b, xs, zs, rfl, rfl, hH, hB, hz, q⟩ := h
  cases rx
  obtain ⟨u, rfl, ru⟩ := rv.one
  cases ru
  obtain ⟨z, its, n, r, hl, e⟩ := I.lstM hH
  obtain ⟨z2, its2, n2, r2, hl2, e2⟩ := I.lstM hB
  have hsz : its.toArray.size + its2.toArray.size ≤ sizeLine := by rw [List.size_toArray, List.size_toArray]; omega
  have hlong : ¬ (!its.toArray.isEmpty && Builtin.List.listTooLong (its.toArray.size + its2.toArray.size)) = true := by
    rw [notLongL hsz, Bool.and_false]
    exact Bool.false_ne_true
  refine call_meets F.slot_list_extend ⟨_, e, rfl⟩ F.entry_list_extend (F.args_list_extend_2 _ _)
    (AutoSeq1.list_extend_list_list_0 l its.toArray n b its2.toArray n2 hlong (by rw [List.size_toArray]; omega) (by omega)) ⟨e, e2, ?_⟩
  refine ⟨.non, _, I.lset (its' := its ++ its2) hH e (by simp) (r.append r2) ?_, rfl, q⟩
  rw [List.length_append]
  omega

noncomputable def rClear : V → List V → Hp → VK → Prop := fun x vs H Q => ∃ l xs, x = .ref l ∧ vs = [] ∧ H l = some (.lst xs) ∧ Q .non (upd H l (.lst []))
theorem mt_clear : MtM X "list.clear" rClear := by
  intro pins s σ H x vs v us Q I rx rv h
  obtain ⟨l, xs, rfl, rfl, hH, q⟩ := h
  cases rx
  have hus := rv.zero
  subst hus
  obtain ⟨z, its, n, r, hl, e⟩ := I.lstM hH
  refine call_meets F.slot_list_clear ⟨_, e, rfl⟩ F.entry_list_clear (F.args_list_clear_1 _) (AutoSeq1.list_clear_list_0 l its.toArray n (by rw [List.size_toArray]; omega)) ⟨e, ?_⟩
  exact ⟨.non, _, I.lset (its' := []) (ys := []) hH e rfl .nil (Nat.zero_le _), rfl, q⟩

noncomputable def rCat : R2 := fun x y H Q => ∃ l b xs zs, x = .ref l ∧ y = .ref b ∧ H l = some (.lst xs) ∧ H b = some (.lst zs) ∧ xs.length + zs.length ≤ sizeLine ∧ ∀ p, H p = none → Q (.ref p) (upd H p (.lst (xs ++ zs)))
theorem op_cat : OpR X (binaryOp .Add) rCat := by
  intro pins s σ H x y v u Q I rx ry h
  obtain ⟨l, b, xs, zs, rfl, rfl, hH, hB, hz, q⟩ := h
  cases rx
  cases ry
  obtain ⟨z, its, n, r, hl, e⟩ := I.lstM hH
  obtain ⟨z2, its2, n2, r2, hl2, e2⟩ := I.lstM hB
  refine PySem.P.add_list e e2 ?_ (by rw [List.size_toArray, List.size_toArray]; omega)
  have ea : its.toArray ++ its2.toArray = (its ++ its2).toArray := by simp
  rw [ea]
  exact ⟨.ref _, _, I.lnew (t' := s.toks) (r.append r2) (by rw [List.length_append]; omega), rfl, q _ I.fresh⟩
/-- a list times an int (a negative one is nothing) -/
noncomputable def rRep : R2 := fun x y H Q => ∃ l k xs, x = .ref l ∧ y = .int k ∧ H l = some (.lst xs) ∧ -(2 ^ 63) ≤ k ∧ k < 2 ^ 63 ∧ xs.length * k.toNat ≤ sizeLine ∧
  ∀ p, H p = none → Q (.ref p) (upd H p (.lst (List.replicate k.toNat xs).flatten))
theorem len_rep {α : Type} (xs : List α) (k : Nat) : (List.replicate k xs).flatten.length = k * xs.length := by
  induction k with
  | zero => simp
  | succ k ih => rw [List.replicate_succ, List.flatten_cons, List.length_append, ih, Nat.succ_mul, Nat.add_comm]
theorem op_rep : OpR X (binaryOp .Mult) rRep := by
  intro pins s σ H x y v u Q I rx ry h
  obtain ⟨l, k, xs, rfl, rfl, hH, h1, h2, hz, q⟩ := h
  cases rx
  obtain ⟨t, rfl⟩ := ry
  obtain ⟨z, its, n, r, hl, e⟩ := I.lstM hH
  have hlen : its.toArray.size * k.toNat ≤ sizeLine := by rw [List.size_toArray, ← hl]; exact hz
  have hcap : ¬ its.toArray.size * k.toNat > (2 ^ 63 - 1) / 8 := by
    have : (sizeLine : Nat) ≤ (2 ^ 63 - 1) / 8 := by decide
    omega
  have hfit : ¬ (!Builtin.List.listFitsIndex k) = true := by
    rw [fitsIndex_both h1 h2]
    exact Bool.false_ne_true
  have hlong : ¬ Builtin.List.listTooLong (its.toArray.size * k.toNat) = true := by
    rw [notLongL hlen]
    exact Bool.false_ne_true
  have hnew : List.foldl (fun x1 x2 => x1 ++ x2) #[] (List.replicate (if its.toArray.isEmpty = true then 0 else k.toNat) its.toArray) = (List.replicate k.toNat its).flatten.toArray := by
    have f0 : ∀ m : Nat, List.foldl (fun x1 x2 => x1 ++ x2) #[] (List.replicate m its.toArray) = (List.replicate m its).flatten.toArray := fun m => by
      have := foldl_rep its m []
      rw [List.nil_append] at this
      exact this
    rw [f0]
    cases its with
    | nil => simp
    | cons a r' => rw [if_neg (by simp)]
  refine wpAny_binaryOp_repeat_ref (T := "list") (U := "int") (by decide) ⟨_, e, rfl⟩ (fun s' => typeIs_int s' k t) noFill_list_mul F.fills_int_mul F.slot_int_rmul repeat_list F.slot_int_index.lookup
    (call_meets F.slot_int_rmul (typeIs_int s k t) F.entry_int_rmul (F.args_int_rmul_2 _ _) (int___rmul___int_list k t l its.toArray n)
      ⟨e, rfl, ⟨_, e, rfl⟩, call_meets F.slot_list_mul ⟨_, e, rfl⟩ F.entry_list_mul (F.args_list_mul_2 _ _) (AutoListH.list___mul___list_int_3 l its.toArray n k t hfit hcap hlong) ⟨e, ?_⟩⟩)
  rw [hnew]
  exact ⟨.ref _, _, I.lnew (t' := s.toks) (r.rep k.toNat) (by rw [len_rep, Nat.mul_comm]; exact hz), rfl, q _ I.fresh⟩

end

section
variable {prog : Program} {w : World} {A : Around} {E : Value → Shared → Prop} {s : Shared}
end

section
variable {X : Cx}
end
end L2

namespace L2
open PySem PySem.Spec PyProof.Rows

section
variable {κ : Type} [DecidableEq κ]
noncomputable def valV (kvs : List (κ × V)) (k : κ) : Option V := (kvs.find? fun kv => decide (kv.1 = k)).map (·.2)
/-- in its place, or at the end -/
noncomputable def putK (kvs : List (κ × V)) (k : κ) (v : V) : List (κ × V) :=
  if (kvs.any fun kv => decide (kv.1 = k)) = true then kvs.map (fun kv => if kv.1 = k then (kv.1, v) else kv) else kvs ++ [(k, v)]
theorem valV_pos {p : κ × V} {r : List (κ × V)} {k : κ} (e : p.1 = k) : valV (p :: r) k = some p.2 := by simp [valV, List.find?_cons, e]
theorem valV_neg {p : κ × V} {r : List (κ × V)} {k : κ} (e : ¬ p.1 = k) : valV (p :: r) k = valV r k := by simp [valV, List.find?_cons, e]
theorem valV_any (k : κ) : ∀ kvs : List (κ × V), (kvs.any fun kv => decide (kv.1 = k)) = (valV kvs k).isSome
  | [] => rfl
  | p :: r => by
    rw [List.any_cons]
    by_cases e : p.1 = k
    · simp only [valV_pos e, decide_eq_true e, Bool.true_or, Option.isSome_some]
    · rw [valV_neg e, decide_eq_false e, Bool.false_or]; exact valV_any k r
theorem length_putK (kvs : List (κ × V)) (k : κ) (v : V) : (putK kvs k v).length ≤ kvs.length + 1 := by
  unfold putK
  split
  · rw [List.length_map]; omega
  · rw [List.length_append, List.length_cons, List.length_nil]; omega
theorem RelO.isSome_eq {o : Option V} {u : Option Value} (r : RelO o u) : o.isSome = u.isSome := by
  cases o with
  | none => cases u with
    | none => rfl
    | some _ => exact (show False from r).elim
  | some _ => cases u with
    | none => exact (show False from r).elim
    | some _ => rfl
theorem KV.any {kvs : List (κ × V)} {vs : List (κ × Value)} (r : KV kvs vs) (k : κ) : (kvs.any fun kv => decide (kv.1 = k)) = vs.any fun kv => decide (kv.1 = k) := by
  unfold KV at r
  induction r with
  | nil => rfl
  | cons h t ih => rw [List.any_cons, List.any_cons, ih, h.1]
theorem KV.repl {kvs : List (κ × V)} {vs : List (κ × Value)} (r : KV kvs vs) (k : κ) {y : V} {u : Value} (ry : RelV y u) :
    KV (kvs.map fun kv => if kv.1 = k then (kv.1, y) else kv) (vs.map fun kv => if kv.1 = k then (kv.1, u) else kv) := by
  unfold KV at r ⊢
  induction r with
  | nil => exact .nil
  | @cons p q ps qs h t ih =>
    rw [List.map_cons, List.map_cons]
    refine .cons ?_ ih
    obtain ⟨h1, h2⟩ := h
    by_cases e : p.1 = k
    · rw [if_pos e, if_pos (h1.symm.trans e)]; exact ⟨h1, ry⟩
    · rw [if_neg e, if_neg (fun z => e (h1.trans z))]; exact ⟨h1, h2⟩
theorem KV.put {kvs : List (κ × V)} {vs : List (κ × Value)} (r : KV kvs vs) (k : κ) {y : V} {u : Value} (ry : RelV y u) : KV (putK kvs k y) (stored vs k u) := by
  unfold putK stored
  rw [r.any k]
  by_cases e : (vs.any fun kv => decide (kv.1 = k)) = true
  · rw [if_pos e, if_pos e]; exact r.repl k ry
  · rw [if_neg e, if_neg e]; exact Paired.snoc r ⟨rfl, ry⟩
theorem KV.length {kvs : List (κ × V)} {vs : List (κ × Value)} (r : KV kvs vs) : kvs.length = vs.length := Paired.length r
end


theorem kV_is {P : Program} {w : World} {k : Key} {u : Value} (r : RelV (kV k) u) : (mixKind P w).is k u = true := by
  cases k with
  | inl i => obtain ⟨t, e⟩ := (show ∃ t, u = Value.int i t from r); subst e; exact mixKind_int P w i t
  | inr x => obtain ⟨t, e⟩ := (show ∃ t, u = Value.str x t from r); subst e; exact mixKind_str P w x t
theorem items_are {P : Program} {w : World} : ∀ {ks : List Key} {us : List Value}, Vals (ks.map kV) us → ItemsAre (mixKind P w) ks us
  | [], _, r => by rw [List.map_nil] at r; cases r; exact .nil
  | k :: ks, _, r => by
    rw [List.map_cons] at r
    cases r with
    | cons h t => exact .cons (kV_is h) (items_are t)

/-- raw entries of a dict with tuple keys -/
noncomputable abbrev KT (H : Hp) : List (List Key × V) → List (List Key × Addr × Value) → Prop := Paired fun p q => p.1 = q.1 ∧ H q.2.1 = some (.tup (p.1.map kV)) ∧ RelV p.2 q.2.2
theorem KT.val {H : Hp} {kvs : List (List Key × V)} {xs : List (List Key × Addr × Value)} (r : KT H kvs xs) (k : List Key) : RelO (valV kvs k) ((atKey xs k).map (·.2)) := by
  induction r with
  | nil => exact True.intro
  | @cons p q ps qs h t ih =>
    obtain ⟨h1, _, h2⟩ := h
    by_cases e : p.1 = k
    · have e' : q.1 = k := h1.symm.trans e
      have b : atKey (q :: qs) k = some q.2 := by simp [atKey, List.find?_cons, e']
      rw [valV_pos e, b]; exact h2
    · have e' : ¬ q.1 = k := fun z => e (h1.trans z)
      have b : atKey (q :: qs) k = atKey qs k := by simp [atKey, List.find?_cons, e']
      rw [valV_neg e, b]; exact ih
theorem KT.repl {H : Hp} {kvs : List (List Key × V)} {xs : List (List Key × Addr × Value)} (r : KT H kvs xs) (k : List Key) {y : V} {u : Value} (ry : RelV y u) :
    KT H (kvs.map fun kv => if kv.1 = k then (kv.1, y) else kv) (xs.map (putAt k u)) := by
  induction r with
  | nil => exact .nil
  | @cons p q ps qs h t ih =>
    rw [List.map_cons, List.map_cons]
    refine .cons ?_ ih
    obtain ⟨h1, h2, h3⟩ := h
    unfold putAt
    by_cases e : p.1 = k
    · rw [if_pos e, if_pos (h1.symm.trans e)]; exact ⟨h1, h2, ry⟩
    · rw [if_neg e, if_neg (fun z => e (h1.trans z))]; exact ⟨h1, h2, h3⟩
theorem KT.put {H : Hp} {kvs : List (List Key × V)} {xs : List (List Key × Addr × Value)} (r : KT H kvs xs) (k : List Key) {b : Addr} {y : V} {u : Value} (hb : H b = some (.tup (k.map kV))) (ry : RelV y u) :
    KT H (putK kvs k y) (storedH xs k b u) := by
  have e : (kvs.any fun kv => decide (kv.1 = k)) = (atKey xs k).isSome := by
    rw [valV_any, (r.val k).isSome_eq, Option.isSome_map]
  unfold putK storedH
  rw [e]
  by_cases q : (atKey xs k).isSome = true
  · rw [if_pos q, if_pos q]; exact r.repl k ry
  · rw [if_neg q, if_neg q]; exact Paired.snoc r ⟨rfl, hb, ry⟩
theorem KT.keeps {H H' : Hp} {kvs : List (List Key × V)} {xs : List (List Key × Addr × Value)} (r : KT H kvs xs) (ht : ∀ b ys, H b = some (.tup ys) → H' b = some (.tup ys)) : KT H' kvs xs :=
  Paired.mapP r fun _ _ z => ⟨z.1, ht _ _ z.2.1, z.2.2⟩

section
variable {P : Program} {w : World} {H : Hp} {h : Heap} {a : Addr}
theorem rd_of {u : HO} (ok : HOk P w H h) (e : Rd H a u) : ObjOk P w H h a u := e.ok ok
theorem dk_rd {kvs : List (Key × V)} (ok : HOk P w H h) (e : Rd H a (.dK kvs)) : kvs.length ≤ sizeLine ∧ (a == sysModules) = false ∧ ∃ vs, KV kvs vs ∧ h.DictOf (mixKind P w) a vs :=
  show ObjOk P w H h a (.dK kvs) from rd_of ok e
theorem dk_of {kvs : List (Key × V)} (ok : HOk P w H h) (e : H a = some (.dK kvs)) : kvs.length ≤ sizeLine ∧ (a == sysModules) = false ∧ ∃ vs, KV kvs vs ∧ h.DictOf (mixKind P w) a vs := dk_rd ok (.inl e)
/-- a tracked tuple of ints and texts is a key -/
theorem key_of {ks : List Key} (ok : HOk P w H h) (e : H a = some (.tup (ks.map kV))) : (tupleKind (mixKind P w)).is h ks a := by
  obtain ⟨_, its, r, o, h1, h2, n, h3⟩ := (show ObjOk P w H h a (.tup (ks.map kV)) from ok a _ e)
  exact ⟨o, its.toArray, n, h1, h2, h3, by simpa using items_are r⟩
theorem dt_rd {kvs : List (List Key × V)} (ok : HOk P w H h) (e : Rd H a (.dT kvs)) : kvs.length ≤ sizeLine ∧ (a == sysModules) = false ∧
    ∃ xs, KT H kvs xs ∧ h.DictOfH (tupleKind (mixKind P w)) a xs := by
  obtain ⟨z, y, xs, r, o, es, ep, h1, h2, h3, h4, h5⟩ := (show ObjOk P w H h a (.dT kvs) from rd_of ok e)
  refine ⟨z, y, xs, r, o, es, ep, h1, h2, h3, h4, fun x hx => ?_, h5⟩
  have all : ∀ {l : List (List Key × V)} {m : List (List Key × Addr × Value)}, KT H l m → ∀ x ∈ m, (tupleKind (mixKind P w)).is h x.1 x.2.1 := by
    intro l m q
    induction q with
    | nil => intro x hx; exact nomatch hx
    | @cons p q ps qs hq t ih =>
      intro x hx
      rcases List.mem_cons.mp hx with e | hx
      · subst e
        exact key_of ok (by rw [← hq.1]; exact hq.2.1)
      · exact ih x hx
  exact all r x hx
theorem dt_of {kvs : List (List Key × V)} (ok : HOk P w H h) (e : H a = some (.dT kvs)) : kvs.length ≤ sizeLine ∧ (a == sysModules) = false ∧
    ∃ xs, KT H kvs xs ∧ h.DictOfH (tupleKind (mixKind P w)) a xs := dt_rd ok (.inl e)
end

/-- the heap behind a[y] = v -/
noncomputable def DPut (H : Hp) (a : Addr) (y v : V) (H' : Hp) : Prop :=
  (∃ kvs k, H a = some (.dK kvs) ∧ y = kV k ∧ kvs.length < sizeLine ∧ H' = upd H a (.dK (putK kvs k v))) ∨
  ∃ kvs k b, H a = some (.dT kvs) ∧ y = .ref b ∧ H b = some (.tup (k.map kV)) ∧ kvs.length < sizeLine ∧ H' = upd H a (.dT (putK kvs k v))
theorem DPut.t {H : Hp} {a b : Addr} {kvs : List (List Key × V)} {k : List Key} {v : V} (e : H a = some (.dT kvs)) (eb : H b = some (.tup (k.map kV))) (hl : kvs.length < sizeLine) :
    DPut H a (.ref b) v (upd H a (.dT (putK kvs k v))) := .inr ⟨kvs, k, b, e, rfl, eb, hl, rfl⟩


section
variable {X : Cx} {pins : List (Addr × Obj)} {σ : St} {H : Hp} {s : Shared} {a : Addr} {y v : V} {u r : Value} {o : Option V} {A : Around} {E : Value → Shared → Prop}

theorem Inv.big (I : Inv X pins σ H s) : sysModules < s.heap.objs.size := by
  have h : mainGlobals < s.heap.objs.size := (I.mod.glob.keeps I.bk).lt
  exact Nat.lt_trans (by decide) h

/-- a dict's object is replaced -/
theorem d_write {h' : Heap} {t' : Nat} {ob : HO} (I : Inv X pins σ H s) (mu : Mut (H a)) (hs : Heap.SameBut a s.heap h') (he : ∃ q, h'.get? a = some q) (new : ObjOk X.prog X.w (upd H a ob) h' a ob) :
    Inv X pins σ (upd H a ob) { s with heap := h', toks := t' } :=
  I.write (x := a) (e := a) mu (.inl rfl) (fun b q hb z => (hs.2 b hb).trans z) he new
theorem dk_new {P : Program} {w : World} {H' : Hp} {h' : Heap} {kvs : List (Key × V)} {vs : List (Key × Value)} (z : kvs.length ≤ sizeLine) (hd : (a == sysModules) = false) (rel : KV kvs vs) (dd : h'.DictOf (mixKind P w) a vs) :
    ObjOk P w H' h' a (.dK kvs) := ⟨z, hd, vs, rel, dd⟩
/-- d[y] = v -/
theorem d_setItem {H' : Hp} {Q : Unit → Shared → Prop} (hu : A.units + 1 < cLine) (I : Inv X pins σ H s) (g : DPut H a y v H') (ry : RelV y u) (rv : RelV v r) (h : ∀ s', Inv X pins σ H' s' → Q () s') :
    wpAny (model X.prog X.w) A (setItem (.ref a) u r) Q E s := by
  rcases g with ⟨kvs, k, e, ey, l, eH⟩ | ⟨kvs, k, b, e, ey, eb, l, eH⟩
  · subst ey eH
    obtain ⟨z, hd, vs, rel, dd⟩ := dk_of I.hok e
    have hz : vs.length ≤ sizeLine := by rw [← rel.length]; exact z
    have hl : (putK kvs k v).length ≤ sizeLine := by have := length_putK kvs k v; omega
    refine wpAny_setItem_pairs (hsz := hz) (kV_is ry) dd fun h' dd' hs => h _ ?_
    have he : ∃ q, h'.get? a = some q := let ⟨q, _, _, hq, _⟩ := dd'; ⟨q, hq⟩
    exact d_write I (by rw [e]; exact True.intro) hs he (dk_new hl hd (rel.put k rv) dd')
  · subst ey eH
    cases (show u = Value.ref b from ry)
    obtain ⟨z, hd, xs, rel, dd⟩ := dt_of I.hok e
    have hz : xs.length ≤ sizeLine := by rw [← Paired.length rel]; exact z
    have hl : (putK kvs k v).length ≤ sizeLine := by have := length_putK kvs k v; omega
    refine wpAny_setItem_heap (hsz := hz) (tupleKind_room_in1 hu) (key_of I.hok eb) dd fun h' dd' hs => h _ ?_
    obtain ⟨q, es, ep, hq, h2, h3, h4, _, h5⟩ := dd'
    refine d_write I (by rw [e]; exact True.intro) hs ⟨q, hq⟩ ⟨hl, hd, _, (rel.put k eb rv).keeps fun c ys ec => ?_, q, es, ep, hq, h2, h3, h4, h5⟩
    rw [upd_ne (ne_of ec e (fun z => nomatch z))]
    exact ec
end

section
variable {X : Cx} {pins : List (Addr × Obj)} {σ : St} {H : Hp} {s : Shared} {a : Addr} {kvs : List (Key × V)} {k : Key} {u : Value} {A : Around} {E : Value → Shared → Prop}
end


/-- d[y] = v -/
noncomputable def sDPut (td ty tv : TE) : TS := fun D σ H => tv σ H fun v H1 => td σ H1 fun x H2 => ty σ H2 fun y H3 => ∃ a H4, x = .ref a ∧ DPut H3 a y v H4 ∧ D.nx σ H4
section
variable {X : Cx} {o i e value : Expr} {pos pos' tpos : Pos} {td ty tv : TE}
theorem ps_dput (hu : X.A.units + 1 < cLine) (ho : PE X o td) (hi : PE X i ty) (hv : PE X value tv) (hs : swapsWith value (some (.Subscript o i pos')) pos.line X.env = pure false) :
    PS X (.Assign [.Subscript o i pos'] value pos) (sDPut td ty tv) := by
  intro pins s σ H D I h
  refine wpAny_Assign_Subscript (thn (hv pins s σ H _ I h) fun r s1 ⟨v, H1, I1, rv, q1⟩ => thn (ho pins s1 σ H1 _ I1 q1) fun u s2 ⟨x, H2, I2, rx, q2⟩ => thn (hi pins s2 σ H2 _ I2 q2) fun iv s3 ⟨y, H3, I3, ry, a, H4, ex, g, q3⟩ => ?_) hs
  subst ex
  obtain rfl : u = Value.ref a := rx
  exact d_setItem hu I3 g ry rv fun s4 I4 => ⟨σ, H4, I4, q3⟩
end


theorem dt_empty {P : Program} {w : World} {H : Hp} (h : Heap) (hb : sysModules < h.objs.size) : ObjOk P w H (h.push { cls := .type "dict", data := .dict #[] }) h.objs.size (.dT []) :=
  ⟨Nat.zero_le _, beq_eq_false_iff_ne.mpr (Ne.symm (Nat.ne_of_lt hb)), [], .nil, _, #[], 0, Heap.get?_push_size _ rfl, ⟨rfl, rfl, rfl⟩, rfl, rfl, List.nodup_nil⟩
noncomputable def tDNewT : TE := fun _ H Q => ∀ p, H p = none → Q (.ref p) (upd H p (.dT []))
section
variable {X : Cx} {pos : Pos}
theorem pe_dnewT : PE X (.Dict [] [] pos) tDNewT := fun pins s σ H Q I h =>
  wpAny_Dict_empty ⟨.ref s.heap.objs.size, _, I.laid (a := s.heap.objs.size) (o := .dT []) (t' := s.toks) (fun _ _ q => Heap.get?_push_of_some _ q) (Nat.le_refl _) (dt_empty s.heap I.big), rfl, h _ (I.hok.fresh (Nat.le_refl _))⟩
end

section
variable {X : Cx} {pins : List (Addr × Obj)} {σ : St} {H : Hp} {s : Shared} {a : Addr} {y d : V} {u r : Value} {o : Option V} {A : Around} {E : Value → Shared → Prop}
end

section
variable {X : Cx} {o e f : Expr} {apos cpos : Pos} {td ty tx : TE}
end

section
variable {X : Cx} {pins : List (Addr × Obj)} {σ : St} {H : Hp} {s : Shared} {a : Addr} {kvs : List (Key × V)} {A : Around} {E : Value → Shared → Prop}
end


section
variable {X : Cx} {pins : List (Addr × Obj)} {σ : St} {H : Hp} {s : Shared} {a : Addr} {y : V} {u : Value} {A : Around} {E : Value → Shared → Prop}
end
end L2

namespace Att
open PySem PySem.W PySem.Calls PyProof.Rows

theorem ints_of_wellAll {P : Params} {h : Heap} : ∀ (ns : List Int) (vs : List Value), WellAll P h vs (ns.map WData.int) → IntsAre vs ns := by
  intro ns
  induction ns with
  | nil =>
    intro vs w
    rw [List.map_nil] at w
    cases w
    exact .nil
  | cons n ns ih =>
    intro vs w
    rw [List.map_cons] at w
    cases w with
    | cons a b =>
      cases a
      exact .cons _ _ (ih _ b)

theorem script_of {l : OpenLaw} {n : Nat} (hn : l.most = some n) {P : Params} {h : Heap} {args : List WData} {vals : List Value}
    (hpre : l.row.toRowW.claim.pre args = true) (hwl : WellAll P h vals args) :
    ∃ a vs ns, vals = [Value.ref a] ∧ args = [WData.list (ns.map WData.int)] ∧ h.get? a = some { cls := .type "list", data := .seq vs.toArray } ∧ IntsAre vs ns ∧ ns.length ≤ n := by
  have hsh : WShape.hasAll [] args [.list .int] = true := (pre_splitW hpre).1
  have hc : l.pre.holds [] { args := args } = true := (pre_splitW hpre).2
  obtain ⟨d, r, rfl, h1, h2⟩ := hasAllW_cons hsh
  obtain rfl := hasAllW_nil h2
  obtain ⟨xs, rfl, h3⟩ := hasW_list h1
  obtain ⟨ns, rfl⟩ := items_int h3
  have hlen : ns.length ≤ n := by
    unfold OpenLaw.pre at hc
    have h4 : (WTm.not (.lt (.lit (.int (n : Int))) (.len (.arg 0)))).holds [] { args := [.list (ns.map .int)] } = true := by
      have h4 := (holds_andW hc).1
      rw [hn] at h4
      exact h4
    have h5 := condW_of h4 (w_not (w_lt w_lit (w_len_list (w_arg rfl))))
    rw [List.length_map] at h5
    refine Nat.le_of_not_lt fun q => ?_
    have q' : (n : Int) < ((ns.length : Nat) : Int) := by omega
    first
      | (rw [decide_eq_true q'] at h5; exact absurd h5 (by decide))
      | (simp at h5; omega)
  cases hwl with
  | cons w1 w2 =>
    cases w2
    cases w1 with
    | list ho hall => exact ⟨_, _, ns, rfl, rfl, ho, ints_of_wellAll ns _ hall, hlen⟩

theorem post_true (l : OpenLaw) (args : List WData) : l.row.toRowW.claim.post args (.bool true) args = true :=
  postW_of (r := l.row.toRowW) (X := (true == true))
    (show WShape.has [] (.bool true) .bool = true by first | rfl | decide | simp [WShape.has, WShape.arms, WShape.armsAll])
    (show (WTm.eq .res (.lit (.bool true))).value [] { args := args, res := some (.bool true), after := args } = some (.bool (true == true)) from w_eq_bool (w_res rfl) w_lit) rfl

/-- the same from a codeAny of the CALL (for a layer whose function contracts speak of calls) -/
theorem attach_call {l : OpenLaw} {n : Nat} {q : Program} {loose : List Str} {XP : (Str → Option Value) → Heap → Prop} {YP : World → Heap → Prop} {d : DefRec}
    (hn : l.most = some n) (hdf : d.params.defaults = [])
    (call : ∀ (w : World) (s₀ s₁ : Shared) (mg mb : Str → Option Value) (fa : Addr) (o : Obj) (pm cd doc : Value) (a : Addr) (vs : List Value) (ns : List Int),
      Ground q loose [] XP w s₀ mg mb s₁.heap → YP w s₁.heap →
      s₁.heap.get? fa = some o → o.data = .func (docDef d.name d.params d.body d.scope pm cd doc) → s₁.heap.CodeRec cd d.name → mg d.name = some (.ref fa) →
      s₁.heap.get? a = some { cls := .type "list", data := .seq vs.toArray } → IntsAre vs ns → ns.length ≤ n → s₁.gens = #[] →
      codeAny (model l.prog w) callerA (.call (.ref fa) ⟨[.ref a], []⟩) (fun r s' => r = .ok (.ret (.bool true)) ∧ OldK s₁.heap s'.heap ∧ s'.os = s₁.os ∧ AllBare s'.gens) s₁) :
    WalkO q loose XP YP l.row.toRowW d [] (fun f vs => PySem.call f vs) := by
  intro w s₀ s₁ mg mb G Y fa o pm cd doc dV kV ho hd hcd hD hmg hg args vals as hpre hlay hrd hwl hlo
  obtain rfl : dV = .none := Dflts.none hD hdf
  obtain rfl : kV = .none := Dflts.noKw hD
  obtain ⟨a, vs, ns, rfl, rfl, hobj, hints, hlen⟩ := script_of hn hpre hwl
  refine enter_call (codeAny_mono (call w s₀ s₁ mg mb fa o pm cd doc a vs ns G Y ho (fd_plain hd) hcd hmg hobj hints hlen hg) fun r s' hq => ?_)
  obtain ⟨rfl, h2, h3, h4⟩ := hq
  exact ⟨.inl ⟨.bool true, .bool true, [], rfl, fun _ => rfl, .bool true, post_true l _, fun _ => ⟨List.Pairwise.nil, fun _ hm => (nomatch hm)⟩⟩, h2, h3, h4⟩

section
variable {prog : Program} {w : World} {A : Around} {E : Value → Shared → Prop} {s : Shared} {K : Frag}

end
end Att

namespace L2
open PySem PySem.Spec PyProof.Rows

theorem vals_ints : ∀ {vs : List Value} {ns : List Int}, IntsAre vs ns → Vals (ns.map V.int) vs
  | _, _, .nil => .nil
  | _, _, .cons n t h => .cons ⟨t, rfl⟩ (vals_ints h)

/-- nothing is tracked but the script, known to the object (or it is an object of the module) -/
noncomputable def Only (H : Hp) : Prop := ∀ b, H b = none ∨ ∃ o xs, H b = some (.frz o (.lst xs))

/-- THE HEAD: the law's promise, at the heap behind the top. F, the promise of the law's def, may use that base is part of the heap (so K.In base, base.Ns mainGlobals mg stand in Mod) -/
theorem law_call {P : Program} {w : World} {K : PySem.W.Frag} {mg mb : Str → Option Value} {CX : CXT} {k : Nat} {fa a : Addr} {fd : FuncData} {x : Str} {sp : Sp} {s₁ : Shared} {vs : List Value} {ns : List Int}
    (KX : K.In s₁.heap) (hns : s₁.heap.Ns mainGlobals mg) (hb : s₁.heap.Ns builtinsNs mb) (hbb : ∀ x : Str, x ≠ "__name__" → mb x = bootBuiltins x) (hlim : s₁.heap.NoLimit) (hg : s₁.gens = #[])
    (ha : s₁.heap.get? a = some { cls := .type "list", data := .seq vs.toArray }) (hi : IntsAre vs ns) (hl : ns.length ≤ sizeLine) (hr : Room k callerA)
    (F : ∀ base : Heap, K.In base → base.Ns mainGlobals mg → FnOk P w K mg base CX k fa fd [x] sp) (hbind : ∀ (s : Shared) (u : Value), BindsTo s fd ⟨[u], []⟩ [(x, u)])
    (hsp : ∀ H : Hp, Only H → SqL K H a (ns.map V.int) → sp [.ref a] H (fun v _ => v = .bl true) fun _ _ _ => False)
    (hCX : ∀ H e s', CX [] H s₁ (fun _ _ _ => False) e s' → False) :
    codeAny (model P w) callerA (.call (.ref fa) ⟨[.ref a], []⟩) (fun r s' => r = .ok (.ret (.bool true)) ∧ OldK s₁.heap s'.heap ∧ s'.os = s₁.os ∧ AllBare s'.gens) s₁ := by
  have rv := vals_ints hi
  have lenV := hi.length
  -- from an abstract heap in which nothing but the script may be tracked
  have core : ∀ H : Hp, Only H → SqL K H a (ns.map V.int) → HOk P w H s₁.heap → (∀ b, H b ≠ none → b = a) → (H a ≠ none → K.lookup a = none) →
      codeAny (model P w) callerA (.call (.ref fa) ⟨[.ref a], []⟩) (fun r s' => r = .ok (.ret (.bool true)) ∧ OldK s₁.heap s'.heap ∧ s'.os = s₁.os ∧ AllBare s'.gens) s₁ := by
    intro H hO hS hok hA hK
    have base_of : ∀ {b : Addr} {o : Obj}, s₁.heap.get? b = some o → H b = none → (hidT s₁.heap H).get? b = some o := fun e n => hidT_get e n
    have noA : ∀ {b : Addr} {o : Obj} {es : Array DictEntry} {ep : Nat}, s₁.heap.get? b = some o → o.data = .dict es ep → H b = none := fun {b o es ep} e d => by
      cases q : H b with
      | none => rfl
      | some u =>
        have e' : b = a := hA b (by rw [q]; simp)
        subst e'
        rw [ha] at e; cases e
        have d' : Data.seq vs.toArray _ = Data.dict es ep := d
        cases d'
    have nsK : ∀ {b : Addr} {m : Str → Option Value}, s₁.heap.Ns b m → (hidT s₁.heap H).Ns b m := fun {b m} ⟨o, es, ep, e, d, r⟩ => ⟨o, es, ep, base_of e (noA e d), d, r⟩
    have hKb : K.In (hidT s₁.heap H) := fun b o e => base_of (KX b o e) (by
      cases q : H b with
      | none => rfl
      | some u =>
        have e' : b = a := hA b (by rw [q]; simp)
        subst e'
        rw [hK (by rw [q]; simp)] at e; cases e)
    have hM : Mod K mg (hidT s₁.heap H) := ⟨hKb, nsK hns, ⟨mb, nsK hb, hbb⟩, let ⟨mc, h1, h2⟩ := hlim; ⟨mc, nsK h1, h2⟩⟩
    have e0 : Env0 P w K mg (hidT s₁.heap H) callerA [] s₁ H := ⟨rfl, hM, fun b o e => of_hidT e, Nat.le_of_eq (hidT_size _ _), trivial, fun b hb => absurd (show b ∈ ([] : List Addr) from hb) (by simp), hok, .of_eq hg⟩
    refine codeAny_mono ((F _ hKb (nsK hns)).run callerA [] s₁ H ⟨[.ref a], []⟩ [.ref a] [.ref a] _ _ hr e0 (hbind s₁ (.ref a)) (.cons rfl .nil) (hsp H hO hS)) fun r s' h => ?_
    cases r with
    | error e => exact (hCX H e s' h).elim
    | ok fl =>
      cases fl with
      | next => exact False.elim h
      | brk => exact False.elim h
      | cont => exact False.elim h
      | ret u =>
        obtain ⟨v, H', os, bare, un, hok', r', q⟩ := h
        have q' : v = .bl true := q
        subst q'
        obtain rfl : u = Value.bool true := r'
        refine ⟨rfl, OldK.of_keep fun b o e => ?_, os, bare⟩
        cases q : H b with
        | none => exact un.keep b o e q (by intro z; exact absurd (show b ∈ ([] : List Addr) from z) (by simp)) (by simp)
        | some u =>
          rcases hO b with z | ⟨ob, xs, z⟩
          · rw [q] at z; cases z
          · have z2 := un.frzs b ob _ z
            obtain ⟨e1, _⟩ := hok b _ z
            obtain ⟨e2, _⟩ := hok' b _ z2
            rw [e] at e1; cases e1
            exact e2
  cases hk : K.lookup a with
  | some o =>
    -- the script is one of the module's own objects
    have e := KX a o hk
    rw [ha] at e
    cases e
    refine core (fun _ => none) (fun _ => .inl rfl) (.inr ⟨_, vs.toArray, _, hk, rfl, rfl, rfl, by rw [List.size_toArray, lenV]; exact hl, by simpa using rv⟩) (fun b u z => by have z' : (none : Option HO) = some u := z; cases z') (fun b z => absurd rfl z) fun z => absurd rfl z
  | none =>
    refine core (fun b => if b = a then some (.frz { cls := .type "list", data := .seq vs.toArray } (.lst (ns.map V.int))) else none) (fun b => ?_) (.inl (.inr ⟨{ cls := .type "list", data := .seq vs.toArray }, if_pos rfl⟩)) (fun b u z => ?_) (fun b z => ?_) fun _ => hk
    · by_cases hb : b = a
      · exact .inr ⟨_, _, if_pos hb⟩
      · exact .inl (if_neg hb)
    · by_cases hb : b = a
      · have z' := (if_pos hb).symm.trans z
        cases z'
        subst hb
        exact ⟨ha, by rw [List.length_map]; exact hl, vs, _, rv, ha⟩
      · have z' := (if_neg hb).symm.trans z
        cases z'
    · by_cases hb : b = a
      · exact hb
      · exact absurd (if_neg hb) z
end L2

namespace L2
open PySem PySem.Spec PyProof.Rows

/-- the goal that k_head leaves (case hc), from the law's promise. F gives the function object fd (K's own) once, then the promise over every base -/
theorem walk_of {l : PySem.W.OpenLaw} {n k : Nat} {q : Program} {loose : List Str} {XP : (Str → Option Value) → Heap → Prop} {YP : World → Heap → Prop} {d : DefRec} {K : Params → PySem.W.Frag} {CX : World → CXT} {sp : World → Sp} {x : Str}
    (hn : l.most = some n) (hn2 : n ≤ sizeLine) (hdf : d.params.defaults = []) (hr : Room k callerA)
    (hY : ∀ (w : World) (h : Heap), YP w h → (K w.params).In h)
    (F : ∀ (w : World) (mg : Str → Option Value) (fa : Addr) (h : Heap), (K w.params).In h → h.Ns mainGlobals mg → mg d.name = some (.ref fa) →
      ∃ fd : FuncData, (∀ (s : Shared) (u : Value), BindsTo s fd ⟨[u], []⟩ [(x, u)]) ∧
        ∀ base : Heap, (K w.params).In base → base.Ns mainGlobals mg → FnOk l.prog w (K w.params) mg base (CX w) k fa fd [x] (sp w))
    (hsp : ∀ (w : World) (H : Hp) (a : Addr) (ns : List Int), ns.length ≤ n → Only H → SqL (K w.params) H a (ns.map V.int) → sp w [.ref a] H (fun v _ => v = .bl true) fun _ _ _ => False)
    (hCX : ∀ (w : World) (H : Hp) (s : Shared) (e : Value) (s' : Shared), CX w [] H s (fun _ _ _ => False) e s' → False) :
    PySem.W.WalkO q loose XP YP l.row.toRowW d [] (fun f vs => PySem.call f vs) := by
  refine Att.attach_call hn hdf fun w s₀ s₁ mg mb fa o pm cd doc a vs ns G Y ho hd hcd hmg hobj hints hlen hg => ?_
  have KX := hY w _ Y
  obtain ⟨fd, hb, hF⟩ := F w mg fa _ KX G.T.g hmg
  exact law_call KX G.T.g G.T.b G.T.builtins G.T.nolimit hg hobj hints (Nat.le_trans hlen hn2) hr hF hb (fun H hO hS => hsp w H a ns hlen hO hS) fun H e s' => hCX w H s₁ e s'
end L2



namespace L2
open PySem PySem.Spec PyProof.Rows

noncomputable def defArgs (s : Stmt) : Arguments := match s with
  | .FunctionDef _ a _ _ _ _ _ _ _ _ => a
  | _ => { posonlyargs := [], args := [], vararg := none, kwonlyargs := [], kw_defaults := [], kwarg := none, defaults := [] }
noncomputable def defBody (s : Stmt) : List Stmt := match s with
  | .FunctionDef _ _ b _ _ _ _ _ _ _ => b
  | _ => []
noncomputable def defScope (s : Stmt) : Scope := match s with
  | .FunctionDef _ _ _ _ _ _ sc _ _ _ => sc
  | _ => { kind := .function, names := [], isGenerator := false, isCoroutine := false }

noncomputable abbrev CX0 : CXT := fun _ _ _ _ _ _ => False
noncomputable abbrev E0 : XK := fun _ _ _ => False
theorem pass0 {X : Cx} : Passes CX0 X E0 := fun _ _ _ _ _ _ _ h => h.elim

structure Fun (K : PySem.W.Frag) (x qual : Str) (st : Stmt) (f : Addr) (fd : FuncData) : Prop where
  ex : ∃ (oc : Value) (od : Option Addr) (kV doc pm : Value) (an : Option Addr) (cdv ct : Value) (osl : Array (Option Value)),
    fd = PySem.W.fnOf x qual (defArgs st) (defBody st) (defScope st) .none kV doc pm an cdv ct ∧ K.lookup f = some ⟨oc, od, .func fd, osl⟩ ∧ PySem.W.codeIn K cdv qual = true
  kp : PySem.W.keepIn K (.ref f) = true
section
variable {P : Program} {w : World} {K : PySem.W.Frag} {mg : Str → Option Value} {base : Heap}
/-- THE RULE for a def: its body as a term of rules, and the reading of that term -/
theorem Fun.ok {x qual : Str} {st : Stmt} {f : Addr} {fd : FuncData} {N ps : List Str} {k : Nat} {sp : Sp} (F : Fun K x qual st f fd) (S : FnScope N ps (defScope st)) (len : ∀ vs H Q E, sp vs H Q E → vs.length = ps.length)
    (hbody : ∀ (cdv : Value) (A : Around) (outer : List Env) (s : Shared) (H : Hp) (vs : List V) (Q : VK) (E : XK), Room k (A.deeper (envOfC qual (defScope st) s.heap.objs.size f cdv)) → sp vs H Q E →
      ∃ t, PSs (cxOf CX0 P w K mg base N qual (defScope st) f cdv A outer s H E).nox (defBody st) t ∧ t { nx := fun _ H' => Q .non H', rt := Q } (start N vs) H) : FnOk P w K mg base CX0 (k + 1) f fd ps sp := by
  obtain ⟨oc, od, kV, doc, pm, an, cdv, ct, osl, rfl, lk, hcd⟩ := F.ex
  refine fn_of lk hcd S len fun A outer s H vs Q E hr hsp => ?_
  obtain ⟨t, h, q⟩ := hbody cdv A outer s H vs Q E hr hsp
  exact ⟨t, h.nox, q⟩
/-- how its arguments bind (no defaults): h is «fun _ _ _ _ _ _ us hl => match us, hl with | [_, _], _ => rfl», one _ a parameter -/
theorem Fun.binds {x qual : Str} {st : Stmt} {f : Addr} {fd : FuncData} {ps : List Str} (F : Fun K x qual st f fd)
    (h : ∀ (kV doc pm : Value) (an : Option Addr) (cdv ct : Value) (us : List Value), us.length = ps.length → bindArgs (PySem.W.fnOf x qual (defArgs st) (defBody st) (defScope st) .none kV doc pm an cdv ct) ⟨us, []⟩ = pure (ps.zip us)) : Binds K fd ps [] := by
  obtain ⟨oc, od, kV, doc, pm, an, cdv, ct, osl, rfl, lk, hcd⟩ := F.ex
  exact .all (h kV doc pm an cdv ct)
theorem fun_mk {x qual : Str} {st : Stmt} {f : Addr} {oc : Value} {od an : Option Addr} {osl : Array (Option Value)} {kV doc pm cdv ct : Value} (l : K.lookup f = some ⟨oc, od, .func (PySem.W.fnOf x qual (defArgs st) (defBody st) (defScope st) .none kV doc pm an cdv ct), osl⟩)
    (c : PySem.W.codeIn K cdv qual = true) (k : PySem.W.keepIn K (.ref f) = true) : Fun K x qual st f (PySem.W.fnOf x qual (defArgs st) (defBody st) (defScope st) .none kV doc pm an cdv ct) := ⟨⟨oc, od, kV, doc, pm, an, cdv, ct, osl, rfl, l, c⟩, k⟩
end
section
variable {X : Cx}
theorem pv (i : Nat) {x : Str} {pos : Pos} (hN : X.N[i]? = some x := by rfl) (hv : Vis X.env.scope x := by first | exact Or.inl rfl | exact Or.inr (Or.inl rfl) | exact Or.inr (Or.inr rfl)) (hd : (x == ("__debug__" : Str)) = false := by decide)
    (hcd : (x == ("__classdict__" : Str)) = false := by decide) : PE X (.Name x pos) (tVar i) := pe_var hN hv hd hcd
end

theorem iteF {A B : Prop} (h : B) : if false = true then A else B := by
  rw [if_neg Bool.false_ne_true]
  exact h
theorem ite2 {c A B : Prop} [Decidable c] (h1 : c → A) (h2 : ¬ c → B) : if c then A else B := by
  by_cases h : c
  · rw [if_pos h]
    exact h1 h
  · rw [if_neg h]
    exact h2 h
/-- all that was tracked is as it was -/
noncomputable def Same (H H' : Hp) : Prop := ∀ b o, H b = some o → H' b = some o
theorem Same.refl (H : Hp) : Same H H := fun _ _ h => h
theorem Same.trans {H H1 H2 : Hp} (a : Same H H1) (b : Same H1 H2) : Same H H2 := fun c o h => b c o (a c o h)
theorem Same.free {H H' : Hp} (e : Same H H') {l : Addr} (h : H' l = Option.none) : H l = Option.none := by
  cases q : H l with
  | none => rfl
  | some o =>
    rw [e l o q] at h
    cases h
theorem Same.seq {K : PySem.W.Frag} {H H' : Hp} {a : Addr} {xs : List V} (e : Same H H') (h : SqL K H a xs) : SqL K H' a xs := by
  rcases h with (h | ⟨o, h⟩) | h
  · exact .inl (.inl (e _ _ h))
  · exact .inl (.inr ⟨o, e _ _ h⟩)
  · exact .inr h

end L2

namespace L2
open PySem PySem.Spec PyProof.Rows
section
variable {X : Cx}
end
end L2
namespace L2
open PySem PySem.Spec PyProof.Rows
section
variable {κ : Type} [DecidableEq κ]
theorem nd_snoc : ∀ {l : List κ} {k : κ}, l.Nodup → ¬ k ∈ l → (l ++ [k]).Nodup
  | [], k, _, _ => by simp
  | a :: r, k, h, hk => by
    obtain ⟨h1, h2⟩ := List.nodup_cons.mp h
    show (a :: (r ++ [k])).Nodup
    refine List.nodup_cons.mpr ⟨fun m => ?_, nd_snoc h2 fun m => hk (List.mem_cons.mpr (Or.inr m))⟩
    rcases List.mem_append.mp m with q | q
    · exact h1 q
    · exact hk (List.mem_cons.mpr (Or.inl (List.mem_singleton.mp q).symm))
end
end L2
namespace L2
open PySem PySem.Spec PyProof.Rows

noncomputable def clos (env : Env) : List (Str × NameKind) → List (Str × Addr) → List (Str × Addr)
  | [], acc => acc
  | (n, k) :: r, acc => clos env r (if k = .free then (n, (env.cells.lookup n).getD 0) :: acc else acc)
theorem closFor_go {env : Env} : ∀ (names : List (Str × NameKind)) (acc : List (Str × Addr)), (∀ y ∈ names, y.2 = .free → ∃ c, env.cells.lookup y.1 = some c) →
    (forIn names acc fun x r => match x with
      | (name, kind) => if (kind == NameKind.free) = true then do let a ← cellOf env name; pure (ForInStep.yield ((name, a) :: r)) else pure (ForInStep.yield r) : Sem (List (Str × Addr))) = pure (clos env names acc)
  | [], acc, _ => rfl
  | (n, k) :: r, acc, h => by
    have ih := fun acc => closFor_go (env := env) r acc fun y hy => h y (List.mem_cons_of_mem _ hy)
    rw [List.forIn_cons]
    by_cases hk : k = .free
    · subst hk
      obtain ⟨c, e⟩ := h (n, .free) List.mem_cons_self rfl
      have e1 : cellOf env n = pure c := by unfold cellOf; rw [e]
      simp only [beq_self_eq_true, if_true, e1, pure_bind]
      rw [ih]
      show _ = pure (clos env r (if (NameKind.free : NameKind) = .free then (n, (env.cells.lookup n).getD 0) :: acc else acc))
      rw [if_pos rfl, e]
      all_goals rfl
    · have hb : (k == NameKind.free) = false := by simpa using hk
      simp only [hb, Bool.false_eq_true, if_false, pure_bind]
      rw [ih]
      show _ = pure (clos env r (if k = .free then (n, (env.cells.lookup n).getD 0) :: acc else acc))
      rw [if_neg hk]
theorem closFor {env : Env} {scope : Scope} (h : ∀ y ∈ scope.names, y.2 = .free → ∃ c, env.cells.lookup y.1 = some c) : closureFor scope env = pure (clos env scope.names []) := by
  unfold closureFor
  have e := closFor_go scope.names [] h
  simp only [bind_pure]
  exact e
theorem clos_old {env : Env} {x : Str} {c : Addr} : ∀ (names : List (Str × NameKind)) (acc : List (Str × Addr)), (∀ y ∈ names, y.2 = .free → ∃ c, env.cells.lookup y.1 = some c) →
    (∀ y d, acc.lookup y = some d → env.cells.lookup y = some d) → (clos env names acc).lookup x = some c → env.cells.lookup x = some c
  | [], acc, _, ha, e => ha x c e
  | (n, k) :: r, acc, h, ha, e => by
    refine clos_old r _ (fun y hy => h y (List.mem_cons_of_mem _ hy)) (fun y d q => ?_) e
    by_cases hk : k = .free
    · rw [if_pos hk, List.lookup_cons] at q
      obtain ⟨c', e'⟩ := h (n, k) List.mem_cons_self hk
      cases hy : y == n with
      | true =>
        rw [hy] at q
        have := eq_of_beq hy
        subst this
        rw [e'] at q ⊢
        exact q
      | false => rw [hy] at q; exact ha y d q
    · rw [if_neg hk] at q; exact ha y d q
theorem clos_keeps {env : Env} {x : Str} : ∀ (names : List (Str × NameKind)) (acc : List (Str × Addr)), (∃ c, acc.lookup x = some c) → ∃ c, (clos env names acc).lookup x = some c
  | [], _, h => h
  | (n, k) :: r, acc, h => by
    refine clos_keeps r _ ?_
    by_cases hk : k = .free
    · rw [if_pos hk, List.lookup_cons]
      cases hy : x == n with
      | true => exact ⟨_, rfl⟩
      | false => exact h
    · rw [if_neg hk]; exact h
theorem clos_has {env : Env} {x : Str} : ∀ (names : List (Str × NameKind)) (acc : List (Str × Addr)), (x, NameKind.free) ∈ names → ∃ c, (clos env names acc).lookup x = some c
  | [], _, h => by simp at h
  | (n, k) :: r, acc, h => by
    rcases List.mem_cons.mp h with e | h
    · cases e
      refine clos_keeps r _ ?_
      rw [if_pos rfl, List.lookup_cons, beq_self_eq_true]
      exact ⟨_, rfl⟩
    · exact clos_has r _ h

noncomputable def compCx (X : Cx) (scope : Scope) (N' : List Str) (s₃ : Shared) (H₃ : Hp) (fp : List Addr) : Cx :=
  { X with
    N := N'
    s₀ := s₃
    H₀ := H₃
    env := compEnvC scope (clos X.env scope.names []) s₃.heap.objs.size X.env
    outer := X.stack
    stack := X.stack
    ex := fp
    fn := fun _ => false
    pn := []
    xe := fun _ _ => False }

/-- what is asked of the block's scope, all of it written in the text -/
structure CompScope (X : Cx) (scope : Scope) (N' : List Str) (cap : List (Nat × Nat)) : Prop where
  kind : scope.kind = .function
  cell : ∀ y ∈ scope.names, y.2 ≠ .cell
  loc : ∀ y ∈ scope.names, y.2 = .local → scope.names.lookup y.1 = some .local
  free : ∀ y ∈ scope.names, y.2 = .free → X.env.kindOf y.1 = some .cell ∨ X.env.kindOf y.1 = some .free
  capt : ∀ p ∈ cap, ∃ x, N'[p.1]? = some x ∧ X.N[p.2]? = some x ∧ scope.names.lookup x = some .free
/-- the slots at the block's entry: the captured ones -/
noncomputable def capSt (n : Nat) (cap : List (Nat × Nat)) (σ : St) : St := (List.range n).map fun j => (cap.lookup j).bind fun i => (σ[i]?).join

theorem mem_lookupN : ∀ {l : List (Nat × Nat)} {j i : Nat}, l.lookup j = some i → (j, i) ∈ l
  | [], _, _, h => by simp at h
  | (a, b) :: r, j, i, h => by
    rw [List.lookup_cons] at h
    cases hj : j == a with
    | true =>
      rw [hj] at h
      have := eq_of_beq hj
      subst this
      have e : b = i := Option.some.inj h
      subst e
      exact List.mem_cons_self
    | false => rw [hj] at h; exact List.mem_cons_of_mem _ (mem_lookupN h)
theorem relabel_mem {env : Env} {names : List (Str × NameKind)} {x : Str} {k : NameKind} (h : (names.map fun (n, k) => if (k == NameKind.free && env.scope.kind == .function && env.kindOf n == some .cell) then (n, NameKind.cell) else (n, k)).lookup x = some k)
    (hk : k = .cell ∨ k = .free) (hc : ∀ y ∈ names, y.2 ≠ .cell) : (x, NameKind.free) ∈ names := by
  have m := PySem.mem_of_lookup h
  obtain ⟨⟨n, k'⟩, hm, e⟩ := List.mem_map.mp m
  by_cases hb : (k' == NameKind.free && env.scope.kind == .function && env.kindOf n == some .cell) = true
  · have e' : ((n, NameKind.cell) : Str × NameKind) = (x, k) := by rw [← e]; simp only [hb, if_true]
    cases e'
    have : k' = .free := by
      simp only [Bool.and_eq_true, beq_iff_eq] at hb
      exact hb.1.1
    subst this
    exact hm
  · have e' : ((n, k') : Str × NameKind) = (x, k) := by rw [← e]; simp only [hb]; rfl
    cases e'
    rcases hk with rfl | rfl
    · exact absurd rfl (hc _ hm)
    · exact hm
theorem relabel_free {env : Env} : ∀ {names : List (Str × NameKind)} {x : Str}, names.lookup x = some .free →
    (names.map fun (n, k) => if (k == NameKind.free && env.scope.kind == .function && env.kindOf n == some .cell) then (n, NameKind.cell) else (n, k)).lookup x = some .cell ∨
    (names.map fun (n, k) => if (k == NameKind.free && env.scope.kind == .function && env.kindOf n == some .cell) then (n, NameKind.cell) else (n, k)).lookup x = some .free
  | [], _, h => by simp at h
  | (n, k) :: r, x, h => by
    have ih := @relabel_free env r x
    simp only [List.map_cons]
    cases hx : x == n with
    | true =>
      rw [List.lookup_cons, hx] at h
      have hk : k = .free := Option.some.inj h
      subst hk
      by_cases hc : ((NameKind.free == NameKind.free) && env.scope.kind == .function && env.kindOf n == some .cell) = true
      · rw [if_pos hc, List.lookup_cons, hx]; exact .inl rfl
      · rw [if_neg hc, List.lookup_cons, hx]; exact .inr rfl
    | false =>
      rw [List.lookup_cons, hx] at h
      have h := ih h
      by_cases hc : (k == NameKind.free && env.scope.kind == .function && env.kindOf n == some .cell) = true
      · rw [if_pos hc, List.lookup_cons, hx]; exact h
      · rw [if_neg hc, List.lookup_cons, hx]; exact h

section
variable {X : Cx} {pins : List (Addr × Obj)} {σ : St} {H : Hp} {s : Shared}
theorem Inv.kindL (I : Inv X pins σ H s) {x : Str} (h : X.env.kindOf x = some .cell ∨ X.env.kindOf x = some .free) : ∃ c, X.env.cells.lookup x = some c := I.ok.has x h
/-- the block is entered: D is the list that grows, at the old size; the block's names stand behind it -/
theorem Inv.block {scope : Scope} {N' : List Str} {cap : List (Nat × Nat)} {fp : List Addr} {h₁ : Heap} {tk : Nat} {o : Obj} (S : CompScope X scope N' cap) (I : Inv X pins σ H s) (hf : ∀ b ∈ fp, FpOk X pins H b) (hlt : ∀ b ∈ fp, b < s.heap.objs.size)
    (hn : h₁.Ns s.heap.objs.size (fun x => ([] : List (Str × Value)).reverse.lookup x)) (hb : Heap.SameBut s.heap.objs.size (s.heap.push o) h₁) :
    Inv (compCx X scope N' s H fp) [] (capSt N'.length cap σ) H { s with heap := h₁, toks := tk } := by
  have old : ∀ b u, s.heap.get? b = some u → h₁.get? b = some u := fun b u e => (hb.2 b (Nat.ne_of_lt (Heap.lt_size e))).trans (Heap.get?_push_of_some _ e)
  have hfr : ∀ y ∈ scope.names, y.2 = .free → ∃ c, X.env.cells.lookup y.1 = some c := fun y hy hk => I.kindL (S.free y hy hk)
  have cl_old : ∀ x c, (clos X.env scope.names []).lookup x = some c → X.env.cells.lookup x = some c := fun x c e => clos_old scope.names [] hfr (fun _ _ q => by simp at q) e
  refine ⟨⟨I.ok.mod, S.kind, I.ok.glob, I.ok.blt, Nat.le_refl _, fun x y c h1 h2 => I.ok.inj x y c (cl_old x c h1) (cl_old y c h2), fun x hx => ?_, fun x c hq _ => (nomatch hq), I.ok.hd, I.ok.frames, .inl rfl, fun b hb' => ⟨?_, fun x c e => ?_⟩, I.bs,
      Nat.le_trans I.ok.bsz I.sz, fun b u e hb' => ?_, fun b hb' hs => ?_, I.stack, I.stkFree⟩, rfl, I.bare, Un.kept old, ⟨_, hn, fun j x v e1 e2 e3 => ?_⟩, fun x c e => ?_, I.hok.fresh (Nat.le_refl _), fun x c e => I.freeC x c (cl_old x c e), fun p hp => ?_, I.hok.kept old, ?_⟩
  · have hx' : (relabel scope X.env).names.lookup x = some .cell ∨ (relabel scope X.env).names.lookup x = some .free := hx
    have : (x, NameKind.free) ∈ scope.names := by
      rcases hx' with q | q
      · exact relabel_mem q (.inl rfl) S.cell
      · exact relabel_mem q (.inr rfl) S.cell
    exact clos_has scope.names [] this
  · exact Nat.ne_of_lt (hlt b hb')
  · exact (hf b hb').2.2.2.2.1 x c (cl_old x c e)
  · rcases (hf b hb').2.2.2.1 with z | z
    · exact I.ok.noex b u e z
    · exact absurd (Nat.lt_of_lt_of_le (Heap.lt_size e) (Nat.le_trans I.ok.bsz z)) (Nat.lt_irrefl _)
  · rcases List.mem_cons.mp (I.stkSub b hs) with z | z
    · exact (hf b hb').2.1 z
    · exact (hf b hb').2.2.1 z
  · -- a captured name
    have hj : ∃ i, cap.lookup j = some i ∧ σ[i]? = some (some v) := by
      have e2' : ((List.range N'.length).map fun j => (cap.lookup j).bind fun i => (σ[i]?).join)[j]? = some (some v) := e2
      rw [List.getElem?_map] at e2'
      cases hr : (List.range N'.length)[j]? with
      | none => rw [hr] at e2'; cases e2'
      | some j' =>
        rw [hr] at e2'
        have hj' : j' = j := by
          have := List.getElem?_eq_some_iff.mp hr
          obtain ⟨h1, h2⟩ := this
          simpa using h2.symm
        subst hj'
        have e3' : ((cap.lookup j').bind fun i => (σ[i]?).join) = some v := Option.some.inj e2'
        cases hc : cap.lookup j' with
        | none => rw [hc] at e3'; cases e3'
        | some i =>
          rw [hc] at e3'
          refine ⟨i, rfl, ?_⟩
          have e4 : (σ[i]?).join = some v := e3'
          cases hs : σ[i]? with
          | none => rw [hs] at e4; cases e4
          | some w => rw [hs] at e4; have : w = some v := e4; rw [this]
    obtain ⟨i, hc, hi⟩ := hj
    obtain ⟨y, n1, n2, n3⟩ := S.capt (j, i) (mem_lookupN hc)
    have hxy : y = x := Option.some.inj (n1.symm.trans e1)
    subst hxy
    have vis : X.env.kindOf y = some .cell ∨ X.env.kindOf y = some .free := S.free _ (PySem.mem_of_lookup n3) rfl
    obtain ⟨m, hm, hl⟩ := I.loc
    obtain ⟨u, r, l⟩ := hl i y v n2 hi (by rcases vis with q | q; exact .inr (.inl q); exact .inr (.inr q))
    refine ⟨u, r, .inr ⟨?_, ?_⟩⟩
    · exact relabel_free n3
    · rcases l with ⟨k, _⟩ | ⟨_, c, hcell, hv⟩
      · rcases vis with q | q
        · rw [k] at q; cases q
        · rw [k] at q; cases q
      · obtain ⟨c', hc'⟩ := clos_has (env := X.env) scope.names [] (PySem.mem_of_lookup n3)
        have := cl_old y c' hc'
        rw [hcell] at this
        have e5 : c = c' := Option.some.inj this
        subst e5
        obtain ⟨ob, ho, hd⟩ := hv
        exact ⟨c, hc', ob, old c ob ho, hd⟩
  · obtain ⟨v, ob, ho, hd⟩ := I.cell x c (cl_old x c e)
    exact ⟨v, ob, old c ob ho, hd⟩
  · exact absurd (show p ∈ ([] : List (Addr × Obj)) from hp) (by simp)
  · show (capSt N'.length cap σ).length = N'.length
    unfold capSt
    rw [List.length_map, List.length_range]
end

noncomputable def PTs (X : Cx) (ifs : List Expr) (t : TT) : Prop :=
  ∀ (pins : List (Addr × Obj)) (s : Shared) (σ : St) (H : Hp) (Q : Bool → Hp → Prop), Inv X pins σ H s → t σ H Q →
    wpAny (model X.prog X.w) X.A (forIn ifs true fun c r => if r = true then do let ok ← isTrue c X.env (eval c X.env); pure (ForInStep.yield ok) else pure (ForInStep.yield r)) (TP X pins σ Q) X.xe s
noncomputable def tYes : TT := fun _ H Q => Q true H
theorem pts_nil {X : Cx} : PTs X [] tYes := fun _ _ _ H _ I h => wpAny_tests_nil ⟨H, I, h⟩
theorem pts_one {X : Cx} {c : Expr} {t : TT} (h : PT X c t) : PTs X [c] t := fun pins s σ H Q I q => wpAny_tests_one (h pins s σ H Q I q)

/-- W: the invariant by the turn, a measure, the items so far, the block's slots, the heap; D is the new list -/
noncomputable def tComp (wi : TI) (n : Nat) (cap : List (Nat × Nat)) (g : TG) (tc : TT) (te : TE) : TE := fun σ H Q => wi σ H fun J H1 => ∀ D, H1 D = none → ∃ W : Nat → Nat → List V → St → Hp → Prop,
  (∃ m, W 0 m [] (capSt n cap σ) (upd H1 D (.lst []))) ∧ ∀ i m ys σ' H', W i m ys σ' H' → (J.stop i H' ∧ Q (.ref D) H') ∨
    (J.go i H' ∧ ∀ x H2, J.yld i H' x H2 → g x σ' H2 fun σ2 H3 => tc σ2 H3 fun b H4 => if b = true then te σ2 H4 fun y H5 => ∃ zs m', H5 D = some (.lst zs) ∧ zs.length < sizeLine ∧ m' < m ∧ W (i + 1) m' (ys ++ [y]) σ2 (upd H5 D (.lst (zs ++ [y])))
      else ∃ m', m' < m ∧ W (i + 1) m' ys σ2 H4)

theorem comp_core {X : Cx} {tg iter elt : Expr} {ifs : List Expr} {scope : Scope} {pos ipos : Pos} {N' : List Str} {cap : List (Nat × Nat)} {wi : TI} {g : TG} {tc : TT} {te : TE} {use : Option (Value → Sem Unit)} {pins : List (Addr × Obj)} {s : Shared} {σ : St} {H : Hp} {Q : VK} {QQ : Value → Shared → Prop} (S : CompScope X scope N' cap) (hc : X.calm = true) (hi : PI X tg iter wi)
    (hg : ∀ s₃ H₃ fp, PG (compCx X scope N' s₃ H₃ fp) tg g) (ht : ∀ s₃ H₃ fp, PTs (compCx X scope N' s₃ H₃ fp) ifs tc) (he : ∀ s₃ H₃ fp, PE (compCx X scope N' s₃ H₃ fp) elt te)
    (hs : ∀ x, foldedSetIterable iter X.env x = pure x) (I : Inv X pins σ H s) (h : tComp wi N'.length cap g tc te σ H Q)
    (hfin : ∀ (D C : Addr) (H5 : Hp) (s6 : Shared) (fl : Flow) (m : Str → Option Value), s6.heap.Ns C m → FpOk X pins H5 C → (∀ h', Heap.SameBut C s6.heap h' → Inv X pins σ H5 { s6 with heap := h' }) → Q (.ref D) H5 → compPost (model X.prog X.w) X.A X.xe use QQ (.ref D) C (.ok fl) s6) :
    wpAny (model X.prog X.w) X.A (comprehension (.ListComp elt [⟨tg, iter, ifs, 0⟩] scope pos) scope X.env ipos (newList []) false (eval iter X.env) use) QQ X.xe s := by
  have hfr : ∀ y ∈ scope.names, y.2 = .free → ∃ c, X.env.cells.lookup y.1 = some c := fun y hy hk => I.kindL (S.free y hy hk)
  refine wpAny_comprehension_free (use := use) rfl hs (closFor hfr) S.kind S.loc (thn (hi pins s σ H _ I h) fun v s1 h1 => thn h1 fun itv s2 h2 => ?_)
  obtain ⟨it, fp, tn, J, H2, e, I2, T, st2, f2, R⟩ := h2
  subst e
  refine wpAny_newObj_type (wpAny_newFunctionEnv S.cell (by intro y hy; simp at hy) (fun h₁ hns₁ hsb₁ => ?_) S.kind)
  dsimp only at hns₁ hsb₁ ⊢
  -- the new list
  have I3 : Inv X pins σ (upd H2 s2.heap.objs.size (.lst [])) { s2 with heap := s2.heap.push { cls := .type "list", data := .seq ([] : List Value).toArray } } := I2.lnew (its := []) (t' := s2.toks) .nil (Nat.zero_le _)
  have hD : H2 s2.heap.objs.size = none := I2.fresh
  have hlt2 : ∀ b ∈ fp, b < s2.heap.objs.size := fun b hb => by obtain ⟨o, ho, _⟩ := T.obj 0 _ st2 b hb; exact Heap.lt_size ho
  generalize hs3 : ({ s2 with heap := s2.heap.push { cls := .type "list", data := .seq ([] : List Value).toArray } } : Shared) = s3 at I3
  have hs3h : s3.heap = s2.heap.push { cls := .type "list", data := .seq ([] : List Value).toArray } := by rw [← hs3]
  have sz3 : s3.heap.objs.size = s2.heap.objs.size + 1 := by rw [hs3h, Heap.size_push]
  have f3 : ∀ b ∈ fp, FpOk X pins (upd H2 s2.heap.objs.size (.lst [])) b := fun b hb => ⟨by rw [upd_ne (Nat.ne_of_lt (hlt2 b hb))]; exact (f2 b hb).1, (f2 b hb).2⟩
  have hlt3 : ∀ b ∈ fp, b < s3.heap.objs.size := fun b hb => by rw [sz3]; exact Nat.lt_succ_of_lt (hlt2 b hb)
  obtain ⟨W, ⟨m0, w0⟩, turn⟩ := R _ hD
  have hns3 : h₁.Ns s3.heap.objs.size (fun x => ([] : List (Str × Value)).reverse.lookup x) := by rw [hs3h]; exact hns₁
  have hsb3 : Heap.SameBut s3.heap.objs.size (s3.heap.push { cls := .type "dict", data := .dict #[] }) h₁ := by rw [hs3h]; exact hsb₁
  have I4 : Inv (compCx X scope N' s3 (upd H2 s2.heap.objs.size (.lst [])) fp) [] (capSt N'.length cap σ) (upd H2 s2.heap.objs.size (.lst [])) { s3 with heap := h₁, toks := s3.toks + ([] : List (Str × Value)).length } := I3.block S f3 hlt3 hns3 hsb3
  have st4 : tn 0 h₁ := T.keep _ _ _ st2 fun b hb o e => (hsb3.2 b (Nat.ne_of_lt (hlt3 b hb))).trans (Heap.get?_push_of_some _ (by rw [hs3h]; exact Heap.get?_push_of_some _ e))
  have hX' : (compCx X scope N' s3 (upd H2 s2.heap.objs.size (.lst [])) fp).env = compEnvC scope (clos X.env scope.names []) s3.heap.objs.size X.env := rfl
  have stat : ∀ {H' : Hp}, (∀ b ∈ fp, H' b = none) → ∀ b ∈ fp, FpOk (compCx X scope N' s3 (upd H2 s2.heap.objs.size (.lst [])) fp) [] H' b := fun hn b hb =>
    ⟨hn b hb, (I4.ok.exf b hb).1, I4.ok.exfs b hb, .inl hb, (I4.ok.exf b hb).2, fun p hp => absurd (show p ∈ ([] : List (Addr × Obj)) from hp) (by simp)⟩
  -- the block
  have loop : codeAny (model X.prog X.w) X.A (.compLoop (.ListComp elt [⟨tg, iter, ifs, 0⟩] scope pos) 0 (.ref it) (.ref s2.heap.objs.size) (compCx X scope N' s3 (upd H2 s2.heap.objs.size (.lst [])) fp).env)
      (compPost (model X.prog X.w) X.A X.xe use QQ (.ref s2.heap.objs.size) s3.heap.objs.size) { s3 with heap := h₁, toks := s3.toks + ([] : List (Str × Value)).length } := by
    refine codeAny_loop rfl (fun n s' => ∃ i ys σ' H', Inv (compCx X scope N' s3 (upd H2 s2.heap.objs.size (.lst [])) fp) [] σ' H' s' ∧ tn i s'.heap ∧ (∀ b ∈ fp, H' b = none) ∧ W i n ys σ' H') ?_ m0 ⟨0, [], _, _, I4, st4, fun b hb => (f3 b hb).1, w0⟩
    rintro n s5 ⟨i, ys, σ5, H5, I5, st5, fr5, w5⟩
    show wpAny _ X.A ((compTurn (.ListComp elt [⟨tg, iter, ifs, 0⟩] scope pos) 0 (.ref it) (.ref s2.heap.objs.size) (compCx X scope N' s3 (upd H2 s2.heap.objs.size (.lst [])) fp).env).onRaise (fun x => do noteFrame x (compCx X scope N' s3 (upd H2 s2.heap.objs.size (.lst [])) fp).env; theTreesLotGoes x)) _ _ s5
    refine wpAny_noted ?_
    rw [compTurn_list]
    refine wpAny_bind (wpAny_standAt (wpAny_bind ?_))
    rcases turn i n ys σ5 H5 w5 with ⟨stop, q⟩ | ⟨go, step⟩
    · refine thn (T.done (compCx X scope N' s3 (upd H2 s2.heap.objs.size (.lst [])) fp) rfl rfl rfl hc i [] s5 σ5 H5 _ I5 (stat fr5) st5 stop) fun r s6 ⟨hr, I6⟩ => ?_
      subst hr
      refine wpAny_pure ?_
      obtain ⟨m6, hn6, _⟩ := I6.loc
      refine hfin s2.heap.objs.size s3.heap.objs.size H5 s6 _ m6 hn6 (I2.fpOk (by rw [sz3]; exact Nat.le_succ _) I6.free) (fun h' sb => ?_) q
      -- back in the def's own context
      have u6 : Un (frs X.stack) fp (upd H2 s2.heap.objs.size (.lst [])) H5 s3.heap s6.heap := I6.base
      have ne6 : ∀ b u, s3.heap.get? b = some u → b ≠ s3.heap.objs.size := fun b u e => Nat.ne_of_lt (Heap.lt_size e)
      have u7 : Un (frs X.stack) fp (upd H2 s2.heap.objs.size (.lst [])) H5 s3.heap h' := ⟨fun b u e n hb hx => (sb.2 b (ne6 b u e)).trans (u6.keep b u e n hb hx), fun b u e n hb hx => by
          obtain ⟨sl, q⟩ := u6.slot b u e n hb hx
          exact ⟨sl, (sb.2 b (ne6 b u e)).trans q⟩, u6.free, fun b u e hx => by
          obtain ⟨o', q⟩ := u6.there b u e hx
          exact ⟨o', (sb.2 b (ne6 b u e)).trans q⟩, u6.tups, u6.frzs, u6.tbls⟩
      have u8 : Un (frs X.stack) fp H2 (upd H2 s2.heap.objs.size (.lst [])) s2.heap s3.heap := Un.laid (fun b u e => by rw [hs3h]; exact Heap.get?_push_of_some _ e) (Nat.le_refl _) hD
      have ok7 : HOk X.prog X.w H5 h' := fun b u e => by
        have hne : ∀ c w, H5 c = some w → c ≠ s3.heap.objs.size := fun c w q z => by
          have : H5 s3.heap.objs.size = none := I6.free
          rw [z, this] at q; cases q
        refine (I6.hok b u e).stay (fun c w hc' q => (sb.2 c ?_).trans q) (fun _ q => q) fun _ _ q => q
        rcases hc' with z | z
        · rw [z]; exact hne b u e
        · exact hne c _ z
      exact I2.call' (s' := { s6 with heap := h' }) (ch := fp) (by show s6.os = s2.os; rw [I6.os, ← hs3]; rfl) (u8.trans u7) ok7 I6.bare fun b hb => ⟨(f2 b hb).2.2.2.1, (f2 b hb).2.1, (f2 b hb).2.2.2.2.1, (f2 b hb).2.2.2.2.2⟩
    · refine thn (T.item (compCx X scope N' s3 (upd H2 s2.heap.objs.size (.lst [])) fp) rfl rfl rfl hc i [] s5 σ5 H5 _ I5 (stat fr5) st5 go) fun r s6 ⟨u, hr, h6⟩ => ?_
      subst hr
      refine wpAny_bind (thn h6 fun _ s7 ⟨x, H7, I7, r7, y7, st7, fr7⟩ => ?_)
      have I7' := I7.pinned (stat fr7) (T.obj _ _ st7)
      have lift : ∀ {α : Type} {t : Sem α} {Q1 : α → Shared → Prop} {E2 : Value → Shared → Prop} {s' : Shared}, wpAny (model X.prog X.w) X.A t Q1 (fun _ _ => False) s' → wpAny (model X.prog X.w) X.A t Q1 E2 s' := fun h => wpAny_mono h (fun _ _ q => q) fun _ _ f => f.elim
      have back : ∀ {σ8 : St} {H8 : Hp} {s8 : Shared}, Inv (compCx X scope N' s3 (upd H2 s2.heap.objs.size (.lst [])) fp) ([] ++ pinsAt fp s7.heap) σ8 H8 s8 →
          Inv (compCx X scope N' s3 (upd H2 s2.heap.objs.size (.lst [])) fp) [] σ8 H8 s8 ∧ tn (i + 1) s8.heap ∧ ∀ b ∈ fp, H8 b = none := fun {σ8 H8 s8} I8 => by
        refine ⟨I8.unpinned, T.keep _ _ _ st7 fun b hb o e => (I8.pin (b, o) (List.mem_append_right _ (List.mem_append_right _ (mem_pinsAt hb e)))).1, fun b hb => ?_⟩
        obtain ⟨o, e, d⟩ := T.obj _ _ st7 b hb
        exact (I8.pin (b, o) (List.mem_append_right _ (List.mem_append_right _ (mem_pinsAt hb e)))).2.1
      refine wpAny_bind (lift (thn (hg s3 _ fp _ s7 σ5 H7 x u _ I7' r7 (step x H7 y7)) fun _ s8 ⟨σ8, H8, I8, q8⟩ => ?_))
      refine wpAny_bind (lift (thn (ht s3 _ fp _ s8 σ8 H8 _ I8 q8) fun b s9 ⟨H9, I9, q9⟩ => ?_))
      cases b with
      | false =>
        obtain ⟨m', hm, w9⟩ := (by simpa using q9 : ∃ m', m' < n ∧ W (i + 1) m' ys σ8 H9)
        obtain ⟨J1, J2, J3⟩ := back I9
        exact wpAny_pure ⟨rfl, m', hm, i + 1, ys, σ8, H9, J1, J2, J3, w9⟩
      | true =>
        have q9 := (by simpa using q9 : te σ8 H9 fun y H5 => ∃ zs m', H5 s2.heap.objs.size = some (.lst zs) ∧ zs.length < sizeLine ∧ m' < n ∧ W (i + 1) m' (ys ++ [y]) σ8 (upd H5 s2.heap.objs.size (.lst (zs ++ [y]))))
        refine wpAny_bind (wpAny_bind (lift (thn (he s3 _ fp _ s9 σ8 H9 _ I9 q9) fun u2 s10 ⟨y, H10, I10, r10, zs, m', hz, hl, hm, w10⟩ => ?_)))
        refine wpAny_bind (lift (thn (mt_append _ s10 σ8 H10 (.ref s2.heap.objs.size) [y] (.ref s2.heap.objs.size) [u2] (fun v H' => v = .non ∧ H' = upd H10 s2.heap.objs.size (.lst (zs ++ [y]))) I10 rfl (.cons r10 .nil) ⟨_, _, _, rfl, rfl, hz, hl, rfl, rfl⟩) fun u3 s11 ⟨v3, H11, I11, r11, e11, e12⟩ => ?_))
        subst e12
        obtain ⟨J1, J2, J3⟩ := back I11
        exact wpAny_pure (wpAny_pure ⟨rfl, m', hm, i + 1, ys ++ [y], σ8, _, J1, J2, J3, w10⟩)
  have hloop : codeAny (model X.prog X.w) X.A (.compStart (.ListComp elt [⟨tg, iter, ifs, 0⟩] scope pos) 0 (.ref it) (.ref s2.heap.objs.size) (compCx X scope N' s3 (upd H2 s2.heap.objs.size (.lst [])) fp).env)
      (compPost (model X.prog X.w) X.A X.xe use QQ (.ref s2.heap.objs.size) s3.heap.objs.size) { s3 with heap := h₁, toks := s3.toks + ([] : List (Str × Value)).length } :=
    codeAny_compStart_list loop (T.self _ 0 _ _ _ st4 loop)
  subst hs3
  exact hloop
theorem pe_comp {X : Cx} {tg iter elt : Expr} {ifs : List Expr} {scope : Scope} {pos : Pos} {N' : List Str} {cap : List (Nat × Nat)} {wi : TI} {g : TG} {tc : TT} {te : TE} (S : CompScope X scope N' cap) (hc : X.calm = true) (hi : PI X tg iter wi)
    (hg : ∀ s₃ H₃ fp, PG (compCx X scope N' s₃ H₃ fp) tg g) (ht : ∀ s₃ H₃ fp, PTs (compCx X scope N' s₃ H₃ fp) ifs tc) (he : ∀ s₃ H₃ fp, PE (compCx X scope N' s₃ H₃ fp) elt te)
    (hs : ∀ x, foldedSetIterable iter X.env x = pure x := by intro _; rfl) :
    PE X (.ListComp elt [⟨tg, iter, ifs, 0⟩] scope pos) (tComp wi N'.length cap g tc te) := by
  intro pins s σ H Q I h
  rw [eval_ListComp]
  exact comp_core S hc hi hg ht he hs I h fun D C H5 s6 fl m hn _ k q => ⟨m, hn, fun h' sb => ⟨.ref D, H5, k h' sb, rfl, q⟩⟩
end L2
namespace L2
open PySem PySem.Spec PyProof.Rows

noncomputable def Its (z : Str) : It := ⟨fun i _ => i < z.cps.size, fun i H x H' => H' = H ∧ ∃ c, z.cps[i]? = some c ∧ x = .str ⟨#[c]⟩, fun i _ => z.cps.size ≤ i⟩
theorem turn_ascii {P : Program} {w : World} {K : PySem.W.Frag} {tg : Expr} (it : Addr) (z : Str) (t : Tok) : Turn P w K tg (Its z) [it] it (fun i h => h.IsStrIter it "str_ascii_iterator" z t i) where
  mem := by simp
  obj := fun i h st b hb => by
    have e : b = it := by simpa using hb
    subst e
    obtain ⟨o, e, c, d⟩ := st
    exact ⟨o, e, fun v z => by rw [d] at z; cases z⟩
  keep := fun i h h' st k => by
    obtain ⟨o, e, r⟩ := st
    exact ⟨o, k it (by simp) o e, r⟩
  item := by
    intro X hP hw hK hc i pins s σ H E I hf st hg
    subst hP hw hK
    have hlt : i < z.cps.size := hg
    obtain ⟨f0, f1, f2, f3, f4, f5⟩ := hf it (by simp)
    refine wpAny_pyNext_ascii_item st (c := z.cps[i]) (by simp [hlt]) fun h' st' sb => ?_
    have I1 : Inv X pins σ H { s with heap := h', toks := s.toks + 1 } := I.turned (t' := s.toks + 1) (fun b o hb e => (sb.2 b hb).trans e) f0 f1 f3 f4 f5
    obtain ⟨o, e, c, d⟩ := id st'
    exact ⟨_, rfl, go_of (s := { s with heap := h', toks := s.toks + 1 }) e c d (by decide) ⟨.str ⟨#[z.cps[i]]⟩, H, I1, ⟨_, rfl⟩, ⟨rfl, _, by simp [hlt], rfl⟩, st', fun b hb => (hf b hb).1⟩⟩
  done := by
    intro X hP hw hK hc i pins s σ H E I hf st hg
    subst hP hw hK
    have hle : z.cps.size ≤ i := hg
    obtain ⟨f0, f1, f2, f3, f4, f5⟩ := hf it (by simp)
    exact wpAny_pyNext_ascii_end (I.ok.hd hc) st (by simp [hle]) fun h' eb => ⟨rfl, I.turned (t' := s.toks) (fun b o hb e => eb b o hb e) f0 f1 f3 f4 f5⟩
  self := fun _ _ _ _ _ st h => wpAny_pyIter_striter_ascii st h
theorem turn_wide {P : Program} {w : World} {K : PySem.W.Frag} {tg : Expr} (it : Addr) (z : Str) (t : Tok) : Turn P w K tg (Its z) [it] it (fun i h => h.IsStrIter it "str_iterator" z t i) where
  mem := by simp
  obj := fun i h st b hb => by
    have e : b = it := by simpa using hb
    subst e
    obtain ⟨o, e, c, d⟩ := st
    exact ⟨o, e, fun v z => by rw [d] at z; cases z⟩
  keep := fun i h h' st k => by
    obtain ⟨o, e, r⟩ := st
    exact ⟨o, k it (by simp) o e, r⟩
  item := by
    intro X hP hw hK hc i pins s σ H E I hf st hg
    subst hP hw hK
    have hlt : i < z.cps.size := hg
    obtain ⟨f0, f1, f2, f3, f4, f5⟩ := hf it (by simp)
    refine wpAny_pyNext_wide_item st (c := z.cps[i]) (by simp [hlt]) fun h' st' sb => ?_
    have I1 : Inv X pins σ H { s with heap := h', toks := s.toks + 1 } := I.turned (t' := s.toks + 1) (fun b o hb e => (sb.2 b hb).trans e) f0 f1 f3 f4 f5
    obtain ⟨o, e, c, d⟩ := id st'
    exact ⟨_, rfl, go_of (s := { s with heap := h', toks := s.toks + 1 }) e c d (by decide) ⟨.str ⟨#[z.cps[i]]⟩, H, I1, ⟨_, rfl⟩, ⟨rfl, _, by simp [hlt], rfl⟩, st', fun b hb => (hf b hb).1⟩⟩
  done := by
    intro X hP hw hK hc i pins s σ H E I hf st hg
    subst hP hw hK
    have hle : z.cps.size ≤ i := hg
    obtain ⟨f0, f1, f2, f3, f4, f5⟩ := hf it (by simp)
    exact wpAny_pyNext_wide_end (I.ok.hd hc) st (by simp [hle]) fun h' eb => ⟨rfl, I.turned (t' := s.toks) (fun b o hb e => eb b o hb e) f0 f1 f3 f4 f5⟩
  self := fun _ _ _ _ _ st h => wpAny_pyIter_striter_wide st h
noncomputable def CK (D : Addr) (n i : Nat) (Pv : Nat → List V → St → Hp → Prop) (ys : List V) (σ : St) (y : V) (H : Hp) : Prop :=
  ∃ zs m', H D = some (.lst zs) ∧ zs.length < sizeLine ∧ m' < n - i ∧ (m' = n - (i + 1) ∧ i + 1 ≤ n ∧ Pv (i + 1) (ys ++ [y]) σ (upd H D (.lst (zs ++ [y]))))
noncomputable def CN (n i : Nat) (Pv : Nat → List V → St → Hp → Prop) (ys : List V) (σ : St) (H : Hp) : Prop := ∃ m', m' < n - i ∧ (m' = n - (i + 1) ∧ i + 1 ≤ n ∧ Pv (i + 1) ys σ H)
theorem CK.mk {D : Addr} {n i : Nat} {Pv : Nat → List V → St → Hp → Prop} {ys zs : List V} {σ : St} {y : V} {H : Hp} (hi : i < n) (hz : H D = some (.lst zs)) (hl : zs.length < sizeLine) (p : Pv (i + 1) (ys ++ [y]) σ (upd H D (.lst (zs ++ [y])))) : CK D n i Pv ys σ y H :=
  ⟨zs, n - (i + 1), hz, hl, by omega, rfl, hi, p⟩
theorem CN.mk {n i : Nat} {Pv : Nat → List V → St → Hp → Prop} {ys : List V} {σ : St} {H : Hp} (hi : i < n) (p : Pv (i + 1) ys σ H) : CN n i Pv ys σ H := ⟨n - (i + 1), by omega, rfl, hi, p⟩
theorem comp_by {J : It} {n : Nat} {g : TG} {tc : TT} {te : TE} {D : Addr} {σ : St} {H : Hp} {QD : Hp → Prop} (Pv : Nat → List V → St → Hp → Prop) (h0 : Pv 0 [] σ H) (hgo : ∀ i ys σ H, i < n → Pv i ys σ H → J.go i H) (hstop : ∀ ys σ H, Pv n ys σ H → J.stop n H)
    (hs : ∀ i ys σ H, i < n → Pv i ys σ H → ∀ x H2, J.yld i H x H2 → g x σ H2 fun σ2 H3 => tc σ2 H3 fun b H4 => if b = true then te σ2 H4 fun y H5 => CK D n i Pv ys σ2 y H5 else CN n i Pv ys σ2 H4) (hd : ∀ ys σ H, Pv n ys σ H → QD H) :
    ∃ W : Nat → Nat → List V → St → Hp → Prop, (∃ m, W 0 m [] σ H) ∧ ∀ i m ys σ' H', W i m ys σ' H' → (J.stop i H' ∧ QD H') ∨
      (J.go i H' ∧ ∀ x H2, J.yld i H' x H2 → g x σ' H2 fun σ2 H3 => tc σ2 H3 fun b H4 => if b = true then te σ2 H4 fun y H5 => ∃ zs m', H5 D = some (.lst zs) ∧ zs.length < sizeLine ∧ m' < m ∧ W (i + 1) m' (ys ++ [y]) σ2 (upd H5 D (.lst (zs ++ [y])))
        else ∃ m', m' < m ∧ W (i + 1) m' ys σ2 H4) := by
  refine ⟨fun i m ys σ H => m = n - i ∧ i ≤ n ∧ Pv i ys σ H, ⟨n, by simp, Nat.zero_le _, h0⟩, ?_⟩
  rintro i m ys σ H ⟨rfl, hi, p⟩
  by_cases hlt : i < n
  · exact .inr ⟨hgo i ys σ H hlt p, fun x H2 y => hs i ys σ H hlt p x H2 y⟩
  · have e : i = n := by omega
    subst e
    exact .inl ⟨hstop ys σ H p, hd ys σ H p⟩

theorem vals_bl : ∀ {bs : List Bool} {us : List Value} {i : Nat} {v : Value}, Vals (bs.map V.bl) us → us[i]? = some v → ∃ b, bs[i]? = some b ∧ v = .bool b
  | [], _, _, _, r, e => by rw [List.map_nil] at r; cases r; simp at e
  | b :: bs, _, i, v, r, e => by
    rw [List.map_cons] at r
    cases r with
    | cons r1 r2 =>
      cases (show _ = Value.bool b from r1)
      cases i with
      | zero => simp at e; exact ⟨b, rfl, e.symm⟩
      | succ i =>
        obtain ⟨b', h1, h2⟩ := vals_bl (bs := bs) (i := i) r2 (by simpa using e)
        exact ⟨b', by simpa using h1, h2⟩
theorem all_range_getD (bs : List Bool) : (List.range bs.length).all (fun i => bs.getD i false) = bs.all id := by
  have e : (List.range bs.length).map (fun i => bs.getD i false) = bs := by
    apply List.ext_getElem
    · simp
    · intro i h1 h2
      simp [List.getD_eq_getElem?_getD, h2]
  have : (List.range bs.length).all (fun i => bs.getD i false) = ((List.range bs.length).map fun i => bs.getD i false).all id := by rw [List.all_map]; rfl
  rw [this, e]
theorem call_all {X : Cx} (hc : X.calm = true) : CallR X (.builtin "all") (fun xs H Q => ∃ (p : Addr) (bs : List Bool), xs = [.ref p] ∧ SqL X.K H p (bs.map V.bl) ∧ Q (.bl (bs.all id)) H) := by
  intro pins s σ H xs us Q I r h
  obtain ⟨p, bs, rfl, hq, q⟩ := h
  obtain ⟨u, rfl, ru⟩ := vals1 r
  cases ru
  obtain ⟨its, rv, pl, hz⟩ := I.list hq
  have hh : X.A.in1.handled = none := I.ok.hd hc
  have hp : p < s.heap.objs.size := by obtain ⟨o, ho, _⟩ := pl.isList; exact Heap.lt_size ho
  have hlen : bs.length = its.toArray.size := by rw [List.size_toArray, ← rv.length, List.length_map]
  refine call_all_walk (wpAny_pyIter_list pl.isList ?_)
  refine ⟨s.heap.objs.size, [s.heap.objs.size, p], [s.heap.objs.size], its.toArray.size, _, _, fun i => bs.getD i false, rfl, Walks.list (A := X.A.in1) hh _ p (Nat.ne_of_lt hp) its.toArray, ⟨⟨_, Heap.get?_push_size _ rfl, rfl, rfl⟩, pl.isList.push _⟩, ?_, ?_⟩
  · intro i v s' Q' E' hv hQ
    obtain ⟨b, hb, rfl⟩ := vals_bl (i := i) rv (by simpa using hv)
    have e : bs.getD i false = b := by rw [List.getD_eq_getElem?_getD, hb]; rfl
    have hQ : Q' (bs.getD i false) s' := hQ
    rw [e] at hQ
    exact wpAny_truthy_bool hQ
  · intro h' tk hk
    rw [← hlen, all_range_getD]
    refine ⟨.bl (bs.all id), H, I.kept (t' := tk) fun b o e => hk b o ?_ (Heap.get?_push_of_some _ e), rfl, q⟩
    have := Heap.lt_size e
    intro hb
    exact absurd (List.mem_singleton.mp hb) (Nat.ne_of_lt this)

noncomputable def rSlS : V → Option Int → Option Int → Hp → VK → Prop := fun x lo hi H Q => ∃ z, x = .str z ∧ z.length ≤ sizeLine ∧ Q (.str (Txt.slice z lo hi)) H
theorem sl_str {X : Cx} : SlR X rSlS := by
  intro pins s σ H x v vl vu lo hi sl Q I rx hs pl pu h
  obtain ⟨z, rfl, hz, q⟩ := h
  obtain ⟨t, rfl⟩ := rx
  refine ⟨"str", _, F.slot_str_getitem.lookup, typeIs_str _ _ _, ?_⟩
  have fin : ∀ l u, (Txt.slice z l u).length ≤ sizeLine := fun l u => Nat.le_trans (Txt.slice_le z _ _) hz
  cases pl with
  | none =>
    cases pu with
    | none => exact wpAny_getItem_str_slice (l := none) (u := none) (st := none) hs rfl (post_val_or_str ⟨fin _ _, fun t' k => ⟨.str (Txt.slice z _ _), H, I.tok k, ⟨_, rfl⟩, q⟩⟩)
    | int j uj => exact wpAny_getItem_str_slice (l := none) (u := some (j, uj)) (st := none) hs rfl (post_val_or_str ⟨fin _ _, fun t' k => ⟨.str (Txt.slice z _ _), H, I.tok k, ⟨_, rfl⟩, q⟩⟩)
  | int i ui =>
    cases pu with
    | none => exact wpAny_getItem_str_slice (l := some (i, ui)) (u := none) (st := none) hs rfl (post_val_or_str ⟨fin _ _, fun t' k => ⟨.str (Txt.slice z _ _), H, I.tok k, ⟨_, rfl⟩, q⟩⟩)
    | int j uj => exact wpAny_getItem_str_slice (l := some (i, ui)) (u := some (j, uj)) (st := none) hs rfl (post_val_or_str ⟨fin _ _, fun t' k => ⟨.str (Txt.slice z _ _), H, I.tok k, ⟨_, rfl⟩, q⟩⟩)
theorem strsAre_of : ∀ {ss : List Str} {us : List Value}, Vals (ss.map V.str) us → StrsAre us ss
  | [], _, r => by rw [List.map_nil] at r; cases r; exact .nil
  | x :: ss, _, r => by
    rw [List.map_cons] at r
    cases r with
    | cons r1 r2 =>
      obtain ⟨t, e⟩ := r1
      subst e
      exact .cons x t (strsAre_of r2)
theorem vals_strs : ∀ {ss : List Str} {us : List Value}, StrsAre us ss → Vals (ss.map V.str) us
  | _, _, .nil => .nil
  | _, _, .cons x t h => .cons ⟨t, rfl⟩ (vals_strs h)
noncomputable def rJoin (K : PySem.W.Frag) : V → List V → Hp → VK → Prop := fun x vs H Q => ∃ (z : Str) (l : Addr) (ss : List Str), x = .str z ∧ vs = [.ref l] ∧ SqL K H l (ss.map V.str) ∧ (ss.map (·.length)).sum + ss.length * z.length ≤ 16777216 ∧ Q (.str (Txt.join z ss)) H
theorem mt_join {X : Cx} : MtM X "str.join" (rJoin X.K) := by
  intro pins s σ H x vs v us Q I rx rv h
  obtain ⟨z, l, ss, rfl, rfl, hq, hw, q⟩ := h
  obtain ⟨t, rfl⟩ := rx
  obtain ⟨u, rfl, ru⟩ := rv.one
  cases ru
  obtain ⟨its, r, pl, hz⟩ := I.list hq
  exact PyProof.Rows.join_list pl.isList (strsAre_of r) hw fun t' k => ⟨.str (Txt.join z ss), H, I.tok k, ⟨_, rfl⟩, q⟩

theorem call_isi {X : Cx} : CallR X (.builtin "isinstance") (fun xs H Q => ∃ x n t b, xs = [x, .ty n] ∧ TyOf X.K H x t ∧ PySem.W.kitOne X.K t (.type n) = some b ∧ Q (.bl b) H) := by
  intro pins s σ H xs us Q I r h
  obtain ⟨x, n, t, b, rfl, ty, e, q⟩ := h
  obtain ⟨u, u2, rfl, ru, ru2⟩ := vals2 r
  cases (show u2 = Value.type n from ru2)
  exact isinst_ok I ru ty e fun tk => ⟨.bl b, H, I.tok tk, rfl, q⟩

theorem subAt_one (z : Str) (c i : Nat) : Builtin.Str.subAt z ⟨#[c]⟩ i = decide (z.cps[i]? = some c) := by
  unfold Builtin.Str.subAt
  have hl : (⟨#[c]⟩ : Str).length = 1 := rfl
  rw [hl]
  by_cases hi : i < z.cps.size
  · have e : z.cps.extract i (i + 1) = #[z.cps[i]] := by
      apply Array.ext
      · simp; omega
      · intro j h1 h2
        simp at h2
        subst h2
        simp
    show (z.cps.extract i (i + 1) == #[c]) = _
    rw [e, Array.getElem?_eq_getElem hi]
    by_cases hc : z.cps[i] = c
    · subst hc; simp
    · have h1 : (#[z.cps[i]] == #[c]) = false := by simpa using hc
      rw [h1]
      exact (decide_eq_false fun q => hc (Option.some.inj q)).symm
  · have e : z.cps.extract i (i + 1) = #[] := by
      apply Array.ext
      · simp; omega
      · intro j h1 h2; simp at h2
    show (z.cps.extract i (i + 1) == #[c]) = _
    rw [e, Array.getElem?_eq_none (by omega)]
    simp
theorem in_one (z : Str) (c : Nat) : (!(Builtin.Str.occurrences z ⟨#[c]⟩ 0 z.length 1).isEmpty) = decide (c ∈ z.cps.toList) := by
  rcases StrLaws.occ_head z ⟨#[c]⟩ 1 (Nat.le_refl _) with ⟨e, hn⟩ | ⟨i, r, e, ha, _⟩
  · rw [e]
    refine (decide_eq_false fun hm => ?_).symm
    obtain ⟨j, hj, e2⟩ := List.mem_iff_getElem.mp hm
    have hj' : j < z.cps.size := by simpa using hj
    refine hn j ⟨?_, ?_⟩
    · show j + 1 ≤ z.cps.size; omega
    · rw [subAt_one]
      exact decide_eq_true (by rw [Array.getElem?_eq_getElem hj']; simpa using e2)
  · rw [e]
    refine (decide_eq_true ?_).symm
    have h2 := ha.2
    rw [subAt_one] at h2
    have h3 := of_decide_eq_true h2
    have := Array.mem_of_getElem? h3
    simpa using this
end L2
namespace L2
open PySem PySem.Spec PyProof.Rows

section
variable {X : Cx}
noncomputable abbrev rAddS : R2 := fun x y H Q => ∃ i j, x = .str i ∧ y = .str j ∧ i.length + j.length ≤ sizeLine ∧ Q (.str (i ++ j)) H
noncomputable abbrev rAddA : R2 := fun x y H Q => rI0 (fun i j => .int (i + j)) x y H Q ∨ (rAddS x y H Q ∨ rCat x y H Q)
theorem op_addA : OpR X (binaryOp .Add) rAddA := op_add.or (op_add_str.or op_cat)
noncomputable abbrev rMulA : R2 := fun x y H Q => rI CMul (fun i j => .int (i * j)) x y H Q ∨ rRep x y H Q
theorem op_mulA : OpR X (binaryOp .Mult) rMulA := op_mul.or op_rep
noncomputable abbrev rEqA : R2 := rEq
theorem op_eqA : OpR X (compareOp .Eq) rEqA := op_eq
noncomputable abbrev rNeA : R2 := rNe
theorem op_neA : OpR X (compareOp .NotEq) rNeA := op_ne
noncomputable abbrev rInS : R2 := fun x y H Q => ∃ i j, x = .str i ∧ y = .str j ∧ Q (.bl (!(Builtin.Str.occurrences j i 0 j.length 1).isEmpty)) H
noncomputable abbrev rInA (K : PySem.W.Frag) : R2 := fun x y H Q => rInS x y H Q ∨ rIn K false x y H Q
theorem op_inA : OpR X (compareOp .In) (rInA X.K) := op_in_str.or op_in_seq
noncomputable abbrev rSlA (K : PySem.W.Frag) : V → Option Int → Option Int → Hp → VK → Prop := fun x lo hi H Q => rSlL K x lo hi H Q ∨ (rSlT K x lo hi H Q ∨ rSlS x lo hi H Q)
theorem sl_any : SlR X (rSlA X.K) := sl_list.or (sl_tup.or sl_str)
theorem set_any : PSet X rSetL := set_list
noncomputable def iAny (K : PySem.W.Frag) (tl : TE) : TI := fun σ H R => tl σ H fun x H1 => (∃ a, x = .ref a ∧ (∃ xs, SqL K H1 a xs) ∧ R (Itl K a) H1) ∨ (∃ a, x = .ref a ∧ (∃ xs, SqT K H1 a xs) ∧ R (Itt K a) H1) ∨ ∃ z, x = .str z ∧ R (Its z) H1
theorem pi_any {tg l : Expr} {tl : TE} (hl : PE X l tl) : PI X tg l (iAny X.K tl) := by
  intro pins s σ H R I h
  refine thn (hl pins s σ H _ I h) fun v s1 ⟨x, H1, I1, r1, q1⟩ => ?_
  have fpok : ∀ b ∈ [s1.heap.objs.size], FpOk X pins H1 b := fun b hb => by
    have e : b = s1.heap.objs.size := by simpa using hb
    subst e
    exact I1.fpOk (Nat.le_refl _) (I1.hok.fresh (Nat.le_refl _))
  rcases q1 with ⟨a, e, ⟨xs, hq⟩, q⟩ | ⟨a, e, ⟨xs, hq⟩, q⟩ | ⟨z, e, q⟩
  · subst e
    cases r1
    obtain ⟨its, rv, p, hz⟩ := I1.list hq
    refine wpAny_pyIter_list p.isList ?_
    exact ⟨s1.heap.objs.size, [s1.heap.objs.size], _, _, H1, rfl, I1.kept (t' := s1.toks) fun b o e => Heap.get?_push_of_some _ e, turn_list a _, ⟨_, Heap.get?_push_size _ rfl, rfl, rfl⟩, fpok, q⟩
  · subst e
    cases r1
    obtain ⟨its, rv, p, hz⟩ := I1.tuple hq
    refine wpAny_pyIter_tuple (show s1.heap.IsTuple a its.toArray from p) ?_
    exact ⟨s1.heap.objs.size, [s1.heap.objs.size], _, _, H1, rfl, I1.kept (t' := s1.toks) fun b o e => Heap.get?_push_of_some _ e, turn_tuple a _, ⟨_, Heap.get?_push_size _ rfl, rfl, rfl⟩, fpok, q⟩
  · subst e
    obtain ⟨t, rfl⟩ := r1
    cases ha : z.cps.all (· < 128) with
    | true =>
      refine wpAny_pyIter_ascii ha ?_
      exact ⟨s1.heap.objs.size, [s1.heap.objs.size], _, _, H1, rfl, I1.kept (t' := s1.toks) fun b o e => Heap.get?_push_of_some _ e, turn_ascii _ z t, ⟨_, Heap.get?_push_size _ rfl, rfl, rfl⟩, fpok, q⟩
    | false =>
      refine wpAny_pyIter_wide ha ?_
      exact ⟨s1.heap.objs.size, [s1.heap.objs.size], _, _, H1, rfl, I1.kept (t' := s1.toks) fun b o e => Heap.get?_push_of_some _ e, turn_wide _ z t, ⟨_, Heap.get?_push_size _ rfl, rfl, rfl⟩, fpok, q⟩
end

noncomputable def compOk (sc : Scope) (N : List Str) (scope : Scope) (N' : List Str) (cap : List (Nat × Nat)) : Bool :=
  decide (scope.kind = .function) && scope.names.all (fun y => decide (y.2 ≠ .cell) && (decide (y.2 ≠ .local) || decide (scope.names.lookup y.1 = some .local)) && (decide (y.2 ≠ .free) || decide (sc.names.lookup y.1 = some .cell) || decide (sc.names.lookup y.1 = some .free))) &&
    cap.all fun p => match N'[p.1]? with
      | some x => decide (N[p.2]? = some x) && decide (scope.names.lookup x = some .free)
      | none => false
theorem CompScope.of {X : Cx} {scope : Scope} {N' : List Str} {cap : List (Nat × Nat)} (h : compOk X.env.scope X.N scope N' cap = true) : CompScope X scope N' cap := by
  unfold compOk at h
  rw [Bool.and_eq_true, Bool.and_eq_true, List.all_eq_true, List.all_eq_true] at h
  obtain ⟨⟨h1, h2⟩, h3⟩ := h
  refine ⟨of_decide_eq_true h1, fun y hy => ?_, fun y hy hl => ?_, fun y hy hf => ?_, fun p hp => ?_⟩
  · have := h2 y hy
    simp only [Bool.and_eq_true, Bool.or_eq_true, decide_eq_true_eq] at this
    exact this.1.1
  · have := h2 y hy
    simp only [Bool.and_eq_true, Bool.or_eq_true, decide_eq_true_eq] at this
    exact this.1.2.resolve_left fun q => q hl
  · have := h2 y hy
    simp only [Bool.and_eq_true, Bool.or_eq_true, decide_eq_true_eq] at this
    rcases this.2 with (q | q) | q
    · exact absurd hf q
    · exact .inl q
    · exact .inr q
  · have := h3 p hp
    cases e : N'[p.1]? with
    | none => rw [e] at this; cases this
    | some x =>
      rw [e] at this
      simp only [Bool.and_eq_true, decide_eq_true_eq] at this
      exact ⟨x, rfl, this.1, this.2⟩

structure Gv (mg : Str → Option Value) (x : Str) (v : V) : Prop where
  ex : ∃ u, mg x = some u ∧ RelV v u
theorem pe_gv {X : Cx} {x : Str} {v : V} {pos : Pos} (g : Gv X.mg x v) (hg : Gl X x) (hd : (x == ("__debug__" : Str)) = false := by decide) : PE X (.Name x pos) (tC v) := by
  obtain ⟨u, h, r⟩ := g.ex
  exact pe_glob hg h r hd

structure Cal (P : Program) (w : World) (K : PySem.W.Frag) (mg : Str → Option Value) (base : Heap) (k : Nat) (x : Str) (ps : List Str) (sp : Sp) : Prop where
  ex : ∃ f fd, FnOk P w K mg base CX0 k f fd ps sp ∧ mg x = some (.ref f) ∧ PySem.W.keepIn K (.ref f) = true ∧ Binds K fd ps []
structure DefOk (K : PySem.W.Frag) (mg : Str → Option Value) (x : Str) (st : Stmt) (ps : List Str) : Prop where
  ex : ∃ f fd, Fun K x x st f fd ∧ mg x = some (.ref f) ∧ Binds K fd ps []
theorem DefOk.cal {P : Program} {w : World} {K : PySem.W.Frag} {mg : Str → Option Value} {base : Heap} {x : Str} {st : Stmt} {N ps : List Str} {k : Nat} {sp : Sp} (D : DefOk K mg x st ps) (S : FnScope N ps (defScope st)) (len : ∀ vs H Q E, sp vs H Q E → vs.length = ps.length)
    (hbody : ∀ (f : Addr) (cdv : Value) (A : Around) (outer : List Env) (s : Shared) (H : Hp) (vs : List V) (Q : VK) (E : XK), Room k (A.deeper (envOfC x (defScope st) s.heap.objs.size f cdv)) → sp vs H Q E →
      ∃ t, PSs (cxOf CX0 P w K mg base N x (defScope st) f cdv A outer s H E).nox (defBody st) t ∧ t { nx := fun _ H' => Q .non H', rt := Q } (start N vs) H) : Cal P w K mg base (k + 1) x ps sp := by
  obtain ⟨f, fd, F, hm, hb⟩ := D.ex
  exact ⟨f, fd, F.ok S len (hbody f), hm, F.kp, hb⟩
theorem pe_cal {X : Cx} {j k : Nat} {x : Str} {ps : List Str} {sp : Sp} {p pos : Pos} {e : Expr} {es : List Expr} {t : TA} (C : Cal X.prog X.w X.K X.mg X.base j x ps sp) (hr : Room k X.A) (hg : Gl X x) (hx : Passes CX0 X E0) (ha : PA X (e :: es) t) (hjk : j ≤ k := by decide)
    (hdb : (x == ("__debug__" : Str)) = false := by decide) (he : starEach (e :: es) X.env = (false, eval e X.env) :: starEach es X.env := by rfl) (hpl : (backTo pos (starEach es X.env)).any (·.1) = false := by rfl) :
    PE X (.Call (.Name x p) (e :: es) [] pos) (tCall sp [] E0 t) := by
  obtain ⟨f, fd, F, hm, hk, hb⟩ := C.ex
  exact pe_call F (hr.mono hjk) hg hm hk hb .nil hx ha hdb he hpl
theorem def_mk {K : PySem.W.Frag} {h : Heap} {mg : Str → Option Value} {x : Str} {st : Stmt} {ps : List Str} {f : Addr} {oc : Value} {od an : Option Addr} {osl : Array (Option Value)} {kV doc pm cdv ct : Value} (X : K.In h) (G : h.Ns mainGlobals mg)
    (a : PySem.W.nsIn K mainGlobals x = some (some (.ref f))) (l : K.lookup f = some ⟨oc, od, .func (PySem.W.fnOf x x (defArgs st) (defBody st) (defScope st) .none kV doc pm an cdv ct), osl⟩) (c : PySem.W.codeIn K cdv x = true) (k : PySem.W.keepIn K (.ref f) = true)
    (b : ∀ (kV doc pm : Value) (an : Option Addr) (cdv ct : Value) (us : List Value), us.length = ps.length → bindArgs (PySem.W.fnOf x x (defArgs st) (defBody st) (defScope st) .none kV doc pm an cdv ct) ⟨us, []⟩ = pure (ps.zip us)) : DefOk K mg x st ps :=
  ⟨f, _, fun_mk l c k, PySem.W.mg_of X G a, (fun_mk l c k).binds b⟩
theorem gv_mk {K : PySem.W.Frag} {h : Heap} {mg : Str → Option Value} {x : Str} {v : V} {u : Value} (X : K.In h) (G : h.Ns mainGlobals mg) (a : PySem.W.nsIn K mainGlobals x = some (some u)) (r : RelV v u) : Gv mg x v := ⟨u, PySem.W.mg_of X G a, r⟩
end L2
namespace L2
open PySem PySem.Spec PyProof.Rows
theorem seq_split {t u : TS} {D : Ends} {σ : St} {H : Hp} (h : ∀ nx : St → Hp → Prop, (∀ σ' H', u D σ' H' → nx σ' H') → t { D with nx := nx } σ H) : tSeq t u D σ H := h _ fun _ _ x => x
theorem for_split {wi : TI} {g : TG} {tb : TS} {D : Ends} {σ : St} {H : Hp} (h : ∀ Kont : It → Hp → Prop, (∀ J H1, (∃ W : Nat → Nat → St → Hp → Prop, (∃ m, W 0 m σ H1) ∧ ∀ i m σ H, W i m σ H →
    (J.stop i H ∧ D.nx σ H) ∨ (J.go i H ∧ ∃ N : St → Hp → Prop, (∀ σ' H', N σ' H' → ∃ m', m' < m ∧ W (i + 1) m' σ' H') ∧ ∀ x H', J.yld i H x H' → g x σ H' fun σ2 H2 => tb { D with nx := N, ct := N, bk := D.nx } σ2 H2)) → Kont J H1) → wi σ H Kont) : tFor wi g tb D σ H := h _ fun _ _ x => x
theorem comp_split {wi : TI} {n : Nat} {cap : List (Nat × Nat)} {g : TG} {tc : TT} {te : TE} {σ : St} {H : Hp} {Q : VK} (h : ∀ Kont : It → Hp → Prop, (∀ J H1, (∀ D, H1 D = none → ∃ W : Nat → Nat → List V → St → Hp → Prop,
    (∃ m, W 0 m [] (capSt n cap σ) (upd H1 D (.lst []))) ∧ ∀ i m ys σ' H', W i m ys σ' H' → (J.stop i H' ∧ Q (.ref D) H') ∨
      (J.go i H' ∧ ∀ x H2, J.yld i H' x H2 → g x σ' H2 fun σ2 H3 => tc σ2 H3 fun b H4 => if b = true then te σ2 H4 fun y H5 => ∃ zs m', H5 D = some (.lst zs) ∧ zs.length < sizeLine ∧ m' < m ∧ W (i + 1) m' (ys ++ [y]) σ2 (upd H5 D (.lst (zs ++ [y])))
        else ∃ m', m' < m ∧ W (i + 1) m' ys σ2 H4)) → Kont J H1) → wi σ H Kont) : tComp wi n cap g tc te σ H Q := h _ fun _ _ x => x
end L2
namespace L2
open PySem PySem.Spec PyProof.Rows
section
variable {X : Cx} {K : PySem.W.Frag}
theorem op_inK (h : X.K = K) : OpR X (compareOp .In) (rInA K) := by subst h; exact op_inA
theorem slK (h : X.K = K) : SlR X (rSlA K) := by subst h; exact sl_any
theorem call_lenK (h : X.K = K) : CallR X (.builtin "len") (fun xs H Q => ∃ x n, xs = [x] ∧ LenV K x H n ∧ Q (.int n) H) := by subst h; exact call_len
theorem call_allK (h : X.K = K) (hc : X.calm = true) : CallR X (.builtin "all") (fun xs H Q => ∃ (p : Addr) (bs : List Bool), xs = [.ref p] ∧ SqL K H p (bs.map V.bl) ∧ Q (.bl (bs.all id)) H) := by subst h; exact call_all hc
theorem call_isiK (h : X.K = K) : CallR X (.builtin "isinstance") (fun xs H Q => ∃ x n t b, xs = [x, .ty n] ∧ TyOf K H x t ∧ PySem.W.kitOne K t (.type n) = some b ∧ Q (.bl b) H) := by subst h; exact call_isi
theorem mt_joinK (h : X.K = K) : MtR X "str.join" (rJoin K) := by subst h; exact mt_join
theorem pt_truthK {a : Expr} {ta : TE} (h : X.K = K) (ha : PE X a ta) (he : ∀ whole, isTrue a X.env whole = (do let v ← whole; standAt a.pos; holding [v] (truthy v))) : PT X a (fun σ H Q => ta σ H fun x H' => ∃ k, TruV K x H' k ∧ Q k H') := by subst h; exact pt_truth ha he
theorem pi_anyK {tg l : Expr} {tl : TE} (h : X.K = K) (hl : PE X l tl) : PI X tg l (iAny K tl) := by subst h; exact pi_any hl
variable {o e : Expr} {es : List Expr} {to : TE} {t : TA} {name : Str} {apos cpos : Pos} {T id : String} {r : V → List V → Hp → VK → Prop}
theorem pe_bm0K (h : X.K = K) (pa : PlainAttrs T) (slot : Slot T name id) (hty : typeOf (.builtin id) = pure (.type "method_descriptor")) (hm : MtR X id r) (ho : PE X o to)
    (hbase : attributeBase o name X.env (eval o X.env) = eval o X.env := by rfl) (hline : (apos.endLine == cpos.line) = true := by rfl) : PE X (.Call (.Attribute o name apos) [] [] cpos) (tBM0 K T r to) := by
  subst h
  exact pe_bm0 pa slot hty hm ho hbase hline
theorem pe_bmK (h : X.K = K) (pa : PlainAttrs T) (slot : Slot T name id) (hty : typeOf (.builtin id) = pure (.type "method_descriptor")) (hm : MtR X id r) (ho : PE X o to) (ha : PA X (e :: es) t)
    (hbase : attributeBase o name X.env (eval o X.env) = eval o X.env := by rfl)
    (hfew : ((backTo cpos (starEach (e :: es) X.env)).all (fun x => !x.1) && (backToKw cpos (keywordEach [] X.env)).all (fun x => x.1.isSome)
      && decide ((e :: es).length + ([] : List Keyword).length + (if ([] : List Keyword).isEmpty then 0 else 1) < 30)) = true := by rfl)
    (hline : (apos.endLine == cpos.line) = true := by rfl) (hs : starEach (e :: es) X.env = (false, eval e X.env) :: starEach es X.env := by rfl) (hplain : (backTo cpos (starEach es X.env)).any (·.1) = false := by rfl) :
    PE X (.Call (.Attribute o name apos) (e :: es) [] cpos) (tBM K T r to t) := by
  subst h
  exact pe_bm pa slot hty hm ho ha hbase hfew hline hs hplain
end
end L2
namespace L2
open PySem PySem.Spec PyProof.Rows

structure ZApart (z TI TO i1 i2 : Addr) : Prop where
  TIz : TI ≠ z
  TOz : TO ≠ z
  i1z : i1 ≠ z
  i2z : i2 ≠ z
  TITO : TI ≠ TO
  TIi1 : TI ≠ i1
  TIi2 : TI ≠ i2
  TOi1 : TO ≠ i1
  TOi2 : TO ≠ i2
  i12 : i1 ≠ i2
section
variable {prog : Program} {w : World} {A : Around} {E : Value → Shared → Prop} {s : Shared} {z TI TO i1 i2 : Addr} {n1 n2 i : Nat} {P1 P2 : Nat → Value → Prop} {St1 St2 : Nat → Heap → Prop}
/-- one more pair, each side by its own draws -/
theorem zip_more {a b : Value} {Q : Value → Shared → Prop} (D1 : Draws prog w A i1 [i1] n1 P1 St1) (D2 : Draws prog w A i2 [i2] n2 P2 St2) (D : ZApart z TI TO i1 i2)
    (hz : IsZip s.heap z TI TO .none) (hTI : IsPair s.heap TI (.ref i1) (.ref i2)) (hTO : IsPair s.heap TO a b) (h1 : St1 i s.heap) (h2 : St2 i s.heap) (l1 : i < n1) (l2 : i < n2)
    (hQ : ∀ x y h' tk, P1 i x → P2 i y → IsZip h' z TI TO (rawInt s.heap.objs.size) → IsPair h' TO x y → St1 (i + 1) h' → St2 (i + 1) h' → IsPair h' s.heap.objs.size x y →
      (∀ c o, c ≠ z → c ≠ TO → c ≠ i1 → c ≠ i2 → s.heap.get? c = some o → h'.get? c = some o) → Q (.ref s.heap.objs.size) { s with heap := h', toks := tk }) :
    wpAny (model prog w) A (Builtin.«zip.__next__» ⟨[.ref z], []⟩) (fun fin s' => ∃ v, fin = .done (.ret v) ∧ Q v s') E s := by
  have fr1 : ∀ {k h h' c}, c ≠ i1 → Heap.SameBut c h h' → St1 k h → St1 k h' := fun hc sb st => D1.frame _ _ _ st fun b hb o e => by
    have : b = i1 := by simpa using hb
    subst this
    exact (sb.2 b (Ne.symm hc)).trans e
  have fr2 : ∀ {k h h' c}, c ≠ i2 → Heap.SameBut c h h' → St2 k h → St2 k h' := fun hc sb st => D2.frame _ _ _ st fun b hb o e => by
    have : b = i2 := by simpa using hb
    subst this
    exact (sb.2 b (Ne.symm hc)).trans e
  show wpAny _ _ (field (.ref z) 2 >>= _) _ _ _
  refine wpAny_bind (wpAny_field hz rfl (x := .bool false) rfl ?_)
  show wpAny _ _ (field (.ref z) 3 >>= _) _ _ _
  refine wpAny_bind (wpAny_field hz rfl (x := .ref TI) rfl (wpAny_bind (wpAny_seqItems hTI rfl ?_)))
  show wpAny _ _ (Builtin.SmallTypes.ownedTupleIsFree (.ref z) >>= _) _ _ _
  refine wpAny_bind ?_
  unfold Builtin.SmallTypes.ownedTupleIsFree
  refine wpAny_bind (wpAny_field hz rfl (x := .none) rfl (wpAny_pure ?_))
  simp only [if_true]
  refine wpAny_bind (wpAny_rule (wpAny_bind (wpAny_field hz rfl (x := .ref TO) rfl (wpAny_bind (wpAny_setField_rec hz (by simp) fun g1 hz1 sb1 => ?_)))))
  replace hz1 : IsZip g1 z TI TO .ellipsis := hz1
  refine wpAny_bind ?_
  simp only [List.zipIdx_cons, List.zipIdx_nil, List.forIn_cons, List.forIn_nil]
  refine wpAny_bind (wpAny_bind (wpAny_onRaise ?_))
  show wpAny _ _ (Builtin.SmallTypes.nextOf (.ref i1) >>= _) _ _ _
  refine wpAny_bind (D1.item i _ _ _ l1 (fr1 (Ne.symm D.i1z) sb1 h1) fun x g2 tk2 px st2 sb2 => wpAny_pure ?_)
  replace sb2 : Heap.SameBut i1 g1 g2 := sb2
  have hTO2 : IsPair g2 TO a b := (sb2.2 _ D.TOi1).trans ((sb1.2 _ D.TOz).trans hTO)
  refine wpAny_bind (wpAny_seqItems hTO2 rfl (wpAny_bind (wpAny_updateSeq_pair (s := { s with heap := g2, toks := tk2 }) hTO2 fun g3 hTO3 sb3 => ?_)))
  replace hTO3 : IsPair g3 TO x b := hTO3
  replace sb3 : Heap.SameBut TO g2 g3 := sb3
  refine wpAny_bind (wpAny_letGo (wpAny_pure (wpAny_bind (wpAny_bind (wpAny_onRaise ?_)))))
  show wpAny _ _ (Builtin.SmallTypes.nextOf (.ref i2) >>= _) _ _ _
  have h2' : St2 i g3 := fr2 D.TOi2 sb3 (fr2 D.i12 sb2 (fr2 (Ne.symm D.i2z) sb1 h2))
  refine wpAny_bind (D2.item i _ _ _ l2 h2' fun y g4 tk4 py st4 sb4 => wpAny_pure ?_)
  replace sb4 : Heap.SameBut i2 g3 g4 := sb4
  have hTO4 : IsPair g4 TO x b := (sb4.2 _ D.TOi2).trans hTO3
  refine wpAny_bind (wpAny_seqItems hTO4 rfl (wpAny_bind (wpAny_updateSeq_pair (s := { s with heap := g4, toks := tk4 }) hTO4 fun g5 hTO5 sb5 => ?_)))
  replace hTO5 : IsPair g5 TO x y := hTO5
  replace sb5 : Heap.SameBut TO g4 g5 := sb5
  refine wpAny_bind (wpAny_letGo (wpAny_pure (wpAny_pure (wpAny_bind (wpAny_seqItems hTO5 rfl (wpAny_bind (wpAny_newTuple ?_)))))))
  have hsz : g5.objs.size = s.heap.objs.size := by rw [sb5.1, sb4.1, sb3.1, sb2.1, sb1.1]
  have hz5 : IsZip g5 z TI TO .ellipsis := (sb5.2 _ D.TOz.symm).trans ((sb4.2 _ D.i2z.symm).trans ((sb3.2 _ D.TOz.symm).trans ((sb2.2 _ D.i1z.symm).trans hz1)))
  have hk5 : ∀ c o, c ≠ z → c ≠ TO → c ≠ i1 → c ≠ i2 → s.heap.get? c = some o → g5.get? c = some o := fun c o c1 c2 c3 c4 e =>
    (sb5.2 c c2).trans ((sb4.2 c c4).trans ((sb3.2 c c2).trans ((sb2.2 c c3).trans ((sb1.2 c c1).trans e))))
  have h15 : St1 (i + 1) g5 := fr1 D.TOi1 sb5 (fr1 (Ne.symm D.i12) sb4 (fr1 D.TOi1 sb3 st2))
  have h25 : St2 (i + 1) g5 := fr2 D.TOi2 sb5 st4
  have hzlt : z < g5.objs.size := Heap.lt_size hz5
  have hTOlt : TO < g5.objs.size := Heap.lt_size hTO5
  show wpAny _ _ (Builtin.SmallTypes.ownedTupleHandOut (.ref z) (.ref g5.objs.size) >>= _) _ _ _
  refine wpAny_bind ?_
  unfold Builtin.SmallTypes.ownedTupleHandOut
  have hz6 : IsZip (g5.push { cls := .type "tuple", data := .seq #[x, y] }) z TI TO .ellipsis := Heap.get?_push_of_some _ hz5
  refine wpAny_bind (wpAny_setField_rec (s := { s with heap := g5.push { cls := .type "tuple", data := .seq #[x, y] }, toks := tk4 }) hz6 (by simp) fun g7 hz7 sb7 => ?_)
  replace hz7 : IsZip g7 z TI TO (rawInt g5.objs.size) := hz7
  replace sb7 : Heap.SameBut z (g5.push { cls := .type "tuple", data := .seq #[x, y] }) g7 := sb7
  refine wpAny_setField_rec (s := { s with heap := g7, toks := tk4 }) hz7 (by simp) fun g8 hz8 sb8 => ?_
  replace hz8 : IsZip g8 z TI TO (rawInt g5.objs.size) := hz8
  replace sb8 : Heap.SameBut z g7 g8 := sb8
  have up : ∀ c o, c ≠ z → g5.get? c = some o → g8.get? c = some o := fun c o c1 e => (sb8.2 c c1).trans ((sb7.2 c c1).trans (Heap.get?_push_of_some _ e))
  have hT8 : IsPair g8 g5.objs.size x y := (sb8.2 _ (Nat.ne_of_gt hzlt)).trans ((sb7.2 _ (Nat.ne_of_gt hzlt)).trans (Heap.get?_push_size _ rfl))
  have h18 : St1 (i + 1) g8 := D1.frame _ _ _ h15 fun b hb o e => up b o (by have : b = i1 := by simpa using hb
                                                                             rw [this]; exact D.i1z) e
  have h28 : St2 (i + 1) g8 := D2.frame _ _ _ h25 fun b hb o e => up b o (by have : b = i2 := by simpa using hb
                                                                             rw [this]; exact D.i2z) e
  rw [hsz] at hz8 hT8
  refine wpAny_pure ⟨_, rfl, ?_⟩
  show Q (.ref g5.objs.size) _
  rw [hsz]
  exact hQ x y g8 tk4 px py hz8 (up _ _ D.TOz hTO5) h18 h28 hT8 fun c o c1 c2 c3 c4 e => up c o c1 (hk5 c o c1 c2 c3 c4 e)
/-- no more pairs -/
theorem zip_stop {a b : Value} {Q : Fin → Shared → Prop} (D1 : Draws prog w A i1 [i1] n1 P1 St1) (D2 : Draws prog w A i2 [i2] n2 P2 St2) (D : ZApart z TI TO i1 i2)
    (hz : IsZip s.heap z TI TO .none) (hTI : IsPair s.heap TI (.ref i1) (.ref i2)) (hTO : IsPair s.heap TO a b) (h1 : St1 i s.heap) (h2 : St2 i s.heap) (l1 : i ≤ n1) (l2 : i ≤ n2) (hend : i = n1 ∨ i = n2)
    (hE : ∀ h' e tk, (∀ c o, c ≠ z → c ≠ TO → c ≠ i1 → c ≠ i2 → s.heap.get? c = some o → h'.get? c = some o) → (∃ o, h'.get? e = some o ∧ o.cls = .type "StopIteration") → E (.ref e) { s with heap := h', toks := tk }) :
    wpAny (model prog w) A (Builtin.«zip.__next__» ⟨[.ref z], []⟩) Q E s := by
  have fr1 : ∀ {k h h' c}, c ≠ i1 → Heap.SameBut c h h' → St1 k h → St1 k h' := fun hc sb st => D1.frame _ _ _ st fun b hb o e => by
    have : b = i1 := by simpa using hb
    subst this
    exact (sb.2 b (Ne.symm hc)).trans e
  have fr2 : ∀ {k h h' c}, c ≠ i2 → Heap.SameBut c h h' → St2 k h → St2 k h' := fun hc sb st => D2.frame _ _ _ st fun b hb o e => by
    have : b = i2 := by simpa using hb
    subst this
    exact (sb.2 b (Ne.symm hc)).trans e
  show wpAny _ _ (field (.ref z) 2 >>= _) _ _ _
  refine wpAny_bind (wpAny_field hz rfl (x := .bool false) rfl ?_)
  show wpAny _ _ (field (.ref z) 3 >>= _) _ _ _
  refine wpAny_bind (wpAny_field hz rfl (x := .ref TI) rfl (wpAny_bind (wpAny_seqItems hTI rfl ?_)))
  show wpAny _ _ (Builtin.SmallTypes.ownedTupleIsFree (.ref z) >>= _) _ _ _
  refine wpAny_bind ?_
  unfold Builtin.SmallTypes.ownedTupleIsFree
  refine wpAny_bind (wpAny_field hz rfl (x := .none) rfl (wpAny_pure ?_))
  simp only [if_true]
  refine wpAny_bind (wpAny_rule (wpAny_bind (wpAny_field hz rfl (x := .ref TO) rfl (wpAny_bind (wpAny_setField_rec hz (by simp) fun g1 hz1 sb1 => ?_)))))
  replace hz1 : IsZip g1 z TI TO .ellipsis := hz1
  refine wpAny_bind ?_
  simp only [List.zipIdx_cons, List.zipIdx_nil, List.forIn_cons, List.forIn_nil]
  refine wpAny_bind (wpAny_bind (wpAny_onRaise ?_))
  show wpAny _ _ (Builtin.SmallTypes.nextOf (.ref i1) >>= _) _ _ _
  have h1' : St1 i g1 := fr1 (Ne.symm D.i1z) sb1 h1
  by_cases c1 : i < n1
  · have e2 : i = n2 := by omega
    refine wpAny_bind (D1.item i _ _ _ c1 h1' fun x g2 tk2 px st2 sb2 => wpAny_pure ?_)
    replace sb2 : Heap.SameBut i1 g1 g2 := sb2
    have hTO2 : IsPair g2 TO a b := (sb2.2 _ D.TOi1).trans ((sb1.2 _ D.TOz).trans hTO)
    refine wpAny_bind (wpAny_seqItems hTO2 rfl (wpAny_bind (wpAny_updateSeq_pair (s := { s with heap := g2, toks := tk2 }) hTO2 fun g3 hTO3 sb3 => ?_)))
    replace sb3 : Heap.SameBut TO g2 g3 := sb3
    refine wpAny_bind (wpAny_letGo (wpAny_pure (wpAny_bind (wpAny_bind (wpAny_onRaise ?_)))))
    show wpAny _ _ (Builtin.SmallTypes.nextOf (.ref i2) >>= _) _ _ _
    have h2' : St2 n2 g3 := e2 ▸ fr2 D.TOi2 sb3 (fr2 D.i12 sb2 (fr2 (Ne.symm D.i2z) sb1 h2))
    refine wpAny_bind (D2.done _ _ _ h2' fun g4 e sb4 he => ?_)
    replace sb4 : Heap.ExtBut i2 g3 g4 := sb4
    obtain ⟨oe, hoe, hce⟩ := he
    have hz4 : IsZip g4 z TI TO .ellipsis := sb4 _ _ D.i2z.symm ((sb3.2 _ D.TOz.symm).trans ((sb2.2 _ D.i1z.symm).trans hz1))
    have hez : e ≠ z := fun x => by subst x; rw [hz4] at hoe; cases hoe; simp at hce
    refine wpAny_setField_rec (s := { s with heap := g4, toks := tk2 }) hz4 (by simp) fun g5 _ sb5 => ?_
    replace sb5 : Heap.SameBut z g4 g5 := sb5
    exact hE g5 e tk2 (fun c o d1 d2 d3 d4 x => (sb5.2 c d1).trans (sb4 c o d4 ((sb3.2 c d2).trans ((sb2.2 c d3).trans ((sb1.2 c d1).trans x))))) ⟨oe, (sb5.2 e hez).trans hoe, hce⟩
  · have e1 : i = n1 := by omega
    refine wpAny_bind (D1.done _ _ _ (e1 ▸ h1') fun g2 e sb2 he => ?_)
    replace sb2 : Heap.ExtBut i1 g1 g2 := sb2
    obtain ⟨oe, hoe, hce⟩ := he
    have hz2 : IsZip g2 z TI TO .ellipsis := sb2 _ _ D.i1z.symm hz1
    have hez : e ≠ z := fun x => by subst x; rw [hz2] at hoe; cases hoe; simp at hce
    refine wpAny_setField_rec (s := { s with heap := g2 }) hz2 (by simp) fun g3 _ sb3 => ?_
    replace sb3 : Heap.SameBut z g2 g3 := sb3
    exact hE g3 e s.toks (fun c o d1 _ d3 _ x => (sb3.2 c d1).trans (sb2 c o d3 ((sb1.2 c d1).trans x))) ⟨oe, (sb3.2 e hez).trans hoe, hce⟩
end

noncomputable def Itz (x y : Str) : It := ⟨fun i _ => i < x.cps.size ∧ i < y.cps.size, fun i H v H' => ∃ c d T, x.cps[i]? = some c ∧ y.cps[i]? = some d ∧ H T = none ∧ v = .ref T ∧ H' = upd H T (.tup [.str ⟨#[c]⟩, .str ⟨#[d]⟩]),
  fun i _ => i ≤ x.cps.size ∧ i ≤ y.cps.size ∧ (i = x.cps.size ∨ i = y.cps.size)⟩
noncomputable def ZSt (z TI TO i1 i2 : Addr) (S1 S2 : Nat → Heap → Prop) (i : Nat) (h : Heap) : Prop := IsZip h z TI TO .none ∧ IsPair h TI (.ref i1) (.ref i2) ∧ (∃ a b, IsPair h TO a b) ∧ S1 i h ∧ S2 i h
theorem str_draws (prog : Program) (w : World) (x : Str) (t : Tok) (it : Addr) : ∀ A : Around, A.handled = none →
    Draws prog w A it [it] x.cps.size (fun i v => ∃ c u, x.cps[i]? = some c ∧ v = .str ⟨#[c]⟩ u) (fun i h => h.IsStrIter it (strIterType x) x t i) := by
  intro A hh
  unfold strIterType
  cases ha : x.cps.all (· < 128) with
  | true => exact Draws.strAscii hh it x t
  | false => exact Draws.strWide hh it x t
theorem turn_zip {P : Program} {w : World} {K : PySem.W.Frag} {elts : List Expr} {kt : Nat} {tp : Pos} (z TI TO i1 i2 : Addr) (x y : Str) (t u : Tok) (D : ZApart z TI TO i1 i2) :
    Turn P w K (.Tuple elts kt tp) (Itz x y) [z, TI, TO, i1, i2] z (ZSt z TI TO i1 i2 (fun i h => h.IsStrIter i1 (strIterType x) x t i) (fun i h => h.IsStrIter i2 (strIterType y) y u i)) where
  mem := by simp
  obj := fun i h st b hb => by
    obtain ⟨hz, hTI, ⟨a, c, hTO⟩, ⟨o1, e1, _, d1⟩, ⟨o2, e2, _, d2⟩⟩ := st
    simp only [List.mem_cons, List.not_mem_nil, or_false] at hb
    rcases hb with rfl | rfl | rfl | rfl | rfl
    · exact ⟨_, hz, fun v q => nomatch q⟩
    · exact ⟨_, hTI, fun v q => nomatch q⟩
    · exact ⟨_, hTO, fun v q => nomatch q⟩
    · exact ⟨o1, e1, fun v q => by rw [d1] at q; cases q⟩
    · exact ⟨o2, e2, fun v q => by rw [d2] at q; cases q⟩
  keep := fun i h h' st k => by
    obtain ⟨hz, hTI, ⟨a, c, hTO⟩, ⟨o1, e1, r1⟩, ⟨o2, e2, r2⟩⟩ := st
    exact ⟨k z (by simp) _ hz, k TI (by simp) _ hTI, ⟨a, c, k TO (by simp) _ hTO⟩, ⟨o1, k i1 (by simp) _ e1, r1⟩, ⟨o2, k i2 (by simp) _ e2, r2⟩⟩
  item := by
    intro X hP hw hK hc i pins s σ H E I hf st hg
    subst hP hw hK
    obtain ⟨hz, hTI, ⟨a, c, hTO⟩, h1, h2⟩ := st
    obtain ⟨g1, g2⟩ : i < x.cps.size ∧ i < y.cps.size := hg
    have hT : s.TypeIs (.ref z) "zip" := ⟨_, hz, rfl⟩
    have hh : X.A.in1.handled = none := I.ok.hd hc
    unfold pyNext
    refine wpAny_bind (wpAny_attempt (wpAny_callSpecial?_slot (name := Str.ofString "__next__") hT F.slot_zip_next (wpAny_call_entry F.slot_zip_next hT F.entry_zip_next
      (zip_more (str_draws _ _ x t i1 _ hh) (str_draws _ _ y u i2 _ hh) D hz hTI hTO h1 h2 g1 g2 fun v1 v2 h' tk p1 p2 a1 a2 a3 a4 a5 hk => wpAny_pure ?_) (F.args_zip_next_1 _))))
    obtain ⟨c1, u1, e1, rfl⟩ := p1
    obtain ⟨c2, u2, e2, rfl⟩ := p2
    refine ⟨_, rfl, wpAny_letOwnedTupleGo_zip (s := { s with heap := h', toks := tk }) a1 fun h'' hz'' sb => ?_⟩
    replace sb : Heap.SameBut z h' h'' := sb
    have zlt : z < s.heap.objs.size := Heap.lt_size hz
    have Tne : s.heap.objs.size ≠ z := Nat.ne_of_gt zlt
    have hT2 : h''.get? s.heap.objs.size = some { cls := .type "tuple", data := .seq #[.str ⟨#[c1]⟩ u1, .str ⟨#[c2]⟩ u2] } := (sb.2 _ Tne).trans a5
    -- the four records that turn are our own
    have turn1 : Inv X pins σ H { s with heap := h'', toks := tk } := by
      have nit : ∀ b v, H b = some v → b ∉ [z, TI, TO, i1, i2] := fun b v e hb => by rw [(hf b hb).1] at e; cases e
      have kk : ∀ b o, b ∉ [z, TI, TO, i1, i2] → s.heap.get? b = some o → h''.get? b = some o := fun b o hb e => by
        simp only [List.mem_cons, List.not_mem_nil, or_false, not_or] at hb
        exact (sb.2 b hb.1).trans (hk b o hb.1 hb.2.2.1 hb.2.2.2.1 hb.2.2.2.2 e)
      refine I.step (g' := s.gens) (d' := s.drawn) (ch := [z, TI, TO, i1, i2]) (fun b hb => ⟨(hf b hb).2.2.2.1, (hf b hb).2.1, (hf b hb).2.2.2.2.1, (hf b hb).2.2.2.2.2⟩) (fun b o _ _ hc e _ => kk b o hc e) (fun b o _ _ hc e _ => ⟨o.slots, kk b o hc e⟩) (fun _ _ _ _ n => n)
        (fun b o hc e => ⟨o, kk b o hc e⟩) (fun _ _ e => e) (fun _ _ _ e => e) (fun b ps e => ⟨#[], by rw [e]; simp⟩) (fun m hm => ?_) (fun b v e => ?_) I.bare
      · obtain ⟨o, es, ep, ho, r⟩ := hm
        exact ⟨o, es, ep, kk _ o (fun hb => (hf _ hb).2.1 rfl) ho, r⟩
      · refine (I.hok b v e).stay (fun c' v' hc' q => kk c' v' ?_ q) (fun _ q => q) fun _ _ q => q
        rcases hc' with q' | q'
        · rw [q']; exact nit b v e
        · exact nit c' _ q'
    have Hn : H s.heap.objs.size = none := I.fresh
    have I2 : Inv X pins σ (upd H s.heap.objs.size (.tup [.str ⟨#[c1]⟩, .str ⟨#[c2]⟩])) { s with heap := h'', toks := tk } := by
      have nf : s.heap.objs.size ∉ X.fs := I.nofs (Nat.le_refl _)
      refine ⟨turn1.ok, turn1.os, turn1.bare, ?_, turn1.loc, turn1.cell, ?_, ?_, ?_, ?_, turn1.len⟩
      · have lt0 : ∀ b o, X.s₀.heap.get? b = some o → b ≠ s.heap.objs.size := fun b o e => Nat.ne_of_lt (Nat.lt_of_lt_of_le (Heap.lt_size e) I.sz)
        refine ⟨turn1.base.keep, turn1.base.slot, fun b o e n hx => ?_, turn1.base.there, fun b xs e => ?_, fun b o v e => ?_, fun b ps e => ?_⟩
        · rw [upd_ne (lt0 b o e)]; exact turn1.base.free b o e n hx
        · rw [upd_ne (ne_of_none (turn1.base.tups b xs e) Hn)]; exact turn1.base.tups b xs e
        · rw [upd_ne (ne_of_none (turn1.base.frzs b o v e) Hn)]; exact turn1.base.frzs b o v e
        · obtain ⟨m, q⟩ := turn1.base.tbls b ps e
          exact ⟨m, by rw [upd_ne (ne_of_none q Hn)]; exact q⟩
      · rw [upd_ne (Nat.ne_of_lt I.lt)]; exact turn1.free
      · intro x' c' e
        obtain ⟨v', q⟩ := I.cell x' c' e
        rw [upd_ne (Nat.ne_of_lt q.lt)]; exact turn1.freeC x' c' e
      · intro p hp
        obtain ⟨e, n, r⟩ := turn1.pin p hp
        refine ⟨e, ?_, r⟩
        rw [upd_ne (Nat.ne_of_lt (Heap.lt_size (I.pin p hp).1))]; exact n
      · intro b v e
        by_cases hb : b = s.heap.objs.size
        · subst hb
          rw [upd_same] at e
          cases e
          exact ⟨by show 2 ≤ sizeLine; decide, [.str ⟨#[c1]⟩ u1, .str ⟨#[c2]⟩ u2], .cons ⟨_, rfl⟩ (.cons ⟨_, rfl⟩ .nil), _, hT2, rfl, _, rfl⟩
        · rw [upd_ne hb] at e
          refine (turn1.hok b v e).stay (fun _ _ _ q => q) (fun c' q => ?_) fun c' xs q => ?_
          · rw [upd_ne (ne_of_none q Hn)]; exact q
          · rw [upd_ne (ne_of_none q Hn)]; exact q
    refine ⟨.ref s.heap.objs.size, _, I2, rfl, ⟨c1, c2, _, e1, e2, Hn, rfl, rfl⟩, ⟨hz'', (sb.2 _ D.TIz).trans (hk _ _ D.TIz D.TITO D.TIi1 D.TIi2 hTI), ⟨_, _, (sb.2 _ D.TOz).trans a2⟩, ?_, ?_⟩, fun b hb => ?_⟩
    · obtain ⟨o, e, r⟩ := a3; exact ⟨o, (sb.2 _ D.i1z).trans e, r⟩
    · obtain ⟨o, e, r⟩ := a4; exact ⟨o, (sb.2 _ D.i2z).trans e, r⟩
    · have : b < s.heap.objs.size := by
        simp only [List.mem_cons, List.not_mem_nil, or_false] at hb
        obtain ⟨o1, q1, _⟩ := h1
        obtain ⟨o2, q2, _⟩ := h2
        rcases hb with rfl | rfl | rfl | rfl | rfl
        · exact Heap.lt_size hz
        · exact Heap.lt_size hTI
        · exact Heap.lt_size hTO
        · exact Heap.lt_size q1
        · exact Heap.lt_size q2
      rw [upd_ne (Nat.ne_of_lt this)]; exact (hf b hb).1
  done := by
    intro X hP hw hK hc i pins s σ H E I hf st hg
    subst hP hw hK
    obtain ⟨hz, hTI, ⟨a, c, hTO⟩, h1, h2⟩ := st
    obtain ⟨g1, g2, g3⟩ : i ≤ x.cps.size ∧ i ≤ y.cps.size ∧ (i = x.cps.size ∨ i = y.cps.size) := hg
    have hT : s.TypeIs (.ref z) "zip" := ⟨_, hz, rfl⟩
    have hh : X.A.in1.handled = none := I.ok.hd hc
    unfold pyNext
    refine wpAny_bind (wpAny_attempt (wpAny_callSpecial?_slot (name := Str.ofString "__next__") hT F.slot_zip_next (wpAny_call_entry F.slot_zip_next hT F.entry_zip_next
      (zip_stop (str_draws _ _ x t i1 _ hh) (str_draws _ _ y u i2 _ hh) D hz hTI hTO h1 h2 g1 g2 g3 fun h' e tk hk he => ?_) (F.args_zip_next_1 _))))
    obtain ⟨o, ho, hco⟩ := he
    refine wpAny_bind (wpAny_isInstance (T := "StopIteration") (b := true) ⟨o, ho, hco⟩ isSubtype_stop (wpAny_pure ⟨rfl, ?_⟩))
    have nit : ∀ b v, H b = some v → b ∉ [z, TI, TO, i1, i2] := fun b v e hb => by rw [(hf b hb).1] at e; cases e
    have kk : ∀ b o, b ∉ [z, TI, TO, i1, i2] → s.heap.get? b = some o → h'.get? b = some o := fun b o hb e => by
      simp only [List.mem_cons, List.not_mem_nil, or_false, not_or] at hb
      exact hk b o hb.1 hb.2.2.1 hb.2.2.2.1 hb.2.2.2.2 e
    refine I.step (g' := s.gens) (d' := s.drawn) (ch := [z, TI, TO, i1, i2]) (fun b hb => ⟨(hf b hb).2.2.2.1, (hf b hb).2.1, (hf b hb).2.2.2.2.1, (hf b hb).2.2.2.2.2⟩) (fun b o _ _ hc e _ => kk b o hc e) (fun b o _ _ hc e _ => ⟨o.slots, kk b o hc e⟩) (fun _ _ _ _ n => n)
      (fun b o hc e => ⟨o, kk b o hc e⟩) (fun _ _ e => e) (fun _ _ _ e => e) (fun b ps e => ⟨#[], by rw [e]; simp⟩) (fun m hm => ?_) (fun b v e => ?_) I.bare
    · obtain ⟨o', es, ep, ho', r⟩ := hm
      exact ⟨o', es, ep, kk _ o' (fun hb => (hf _ hb).2.1 rfl) ho', r⟩
    · refine (I.hok b v e).stay (fun c' v' hc' q => kk c' v' ?_ q) (fun _ q => q) fun _ _ q => q
      rcases hc' with q' | q'
      · rw [q']; exact nit b v e
      · exact nit c' _ q'
  self := fun _ _ _ _ _ st h => wpAny_pyIter_zip st.1 h
end L2
namespace L2
open PySem PySem.Spec PyProof.Rows
noncomputable def isStar : Expr → Bool
  | .Starred _ _ => true
  | _ => false
theorem starEach_plain {e : Expr} {es : List Expr} {env : Env} (h : isStar e = false) : starEach (e :: es) env = (false, eval e env) :: starEach es env := by
  cases e <;> first | rfl | exact absurd h (by simp [isStar])
theorem assignEach_plain {e : Expr} {es : List Expr} {env : Env} (h : isStar e = false) : assignEach (e :: es) env = (false, assign e env) :: assignEach es env := by
  cases e <;> first | rfl | exact absurd h (by simp [isStar])
theorem anyStar {pos : Pos} {env : Env} : ∀ {es : List Expr}, es.any isStar = false → (backTo pos (starEach es env)).any (·.1) = false
  | [], _ => rfl
  | e :: es, h => by
    rw [List.any_cons, Bool.or_eq_false_iff] at h
    rw [starEach_plain h.1]
    have := anyStar (pos := pos) (env := env) h.2
    cases es with
    | nil => rfl
    | cons e2 es2 =>
      simp only [backTo] at this ⊢
      simpa using this
theorem allStar {pos : Pos} {env : Env} : ∀ {es : List Expr}, es.any isStar = false → (backTo pos (starEach es env)).all (fun x => !x.1) = true
  | [], _ => rfl
  | e :: es, h => by
    rw [List.any_cons, Bool.or_eq_false_iff] at h
    rw [starEach_plain h.1]
    have := allStar (pos := pos) (env := env) h.2
    cases es with
    | nil => rfl
    | cons e2 es2 =>
      simp only [backTo] at this ⊢
      simpa using this
theorem assignStar {env : Env} : ∀ {es : List Expr}, es.any isStar = false → (assignEach es env).length = es.length ∧ (assignEach es env).findIdx? (·.1) = none
  | [], _ => ⟨rfl, rfl⟩
  | e :: es, h => by
    rw [List.any_cons, Bool.or_eq_false_iff] at h
    rw [assignEach_plain h.1]
    have ih := assignStar (env := env) h.2
    refine ⟨by rw [List.length_cons, List.length_cons, ih.1], ?_⟩
    rw [List.findIdx?_cons, ih.2]
    rfl
noncomputable def isCompE : Expr → Bool
  | .ListComp _ _ _ _ => true
  | .SetComp _ _ _ _ => true
  | .DictComp _ _ _ _ _ => true
  | _ => false
theorem swaps_no {e : Expr} {t : Option Expr} {l : Nat} {env : Env} (h : isCompE e = false) : swapsWith e t l env = pure false := by
  cases e <;> first | rfl | exact absurd h (by simp [isCompE])
noncomputable def isTupE : Expr → Bool
  | .Tuple _ _ _ => true
  | _ => false
theorem swapped_no {t e : Expr} {env : Env} (h : isTupE e = false) : swappedStores [t] e env = pure none := by
  cases e with
  | Tuple _ _ _ => exact absurd h (by simp [isTupE])
  | _ => cases t <;> rfl
noncomputable def isCallE : Expr → Bool
  | .Call _ _ _ _ => true
  | _ => false
theorem attrBase_no {o : Expr} {a : Str} {env : Env} {w : Sem Value} (h : isCallE o = false) : attributeBase o a env w = w := by
  cases o <;> first | rfl | exact absurd h (by simp [isCallE])
noncomputable def isSetE : Expr → Bool
  | .Set _ _ _ => true
  | _ => false
theorem folded_no {e : Expr} {env : Env} (h : isSetE e = false) (x : Value) : foldedSetIterable e env x = pure x := by
  cases e <;> first | rfl | exact absurd h (by simp [isSetE])
noncomputable def isSliceE : Expr → Bool
  | .Slice _ _ _ _ => true
  | _ => false
theorem assign_sub {o i : Expr} {pos : Pos} {env : Env} (h : isSliceE i = false) (v : Value) : assign (.Subscript o i pos) env v = (do
      let ov ← holding [v] (eval o env)
      let iv ← holding [v, ov] (eval i env)
      standAt pos
      holding [v, ov, iv] (setItem ov iv v)
      release [v, ov, iv] []) := by
  cases i <;> first | rfl | exact absurd h (by simp [isSliceE])
structure QE (X : Cx) (e : Expr) (t : TE) : Prop where
  h : PE X e t
structure QT (X : Cx) (e : Expr) (t : TT) : Prop where
  h : PT X e t
structure QW (X : Cx) (e : Expr) (t : TT) : Prop where
  h : PW X e t
structure QA (X : Cx) (es : List Expr) (t : TA) : Prop where
  h : PA X es t
structure QS (X : Cx) (st : Stmt) (t : TS) : Prop where
  h : PS X st t
structure QSs (X : Cx) (st : List Stmt) (t : TS) : Prop where
  h : PSs X st t
structure QG (X : Cx) (e : Expr) (t : TG) : Prop where
  h : PG X e t
structure QGs (X : Cx) (es : List Expr) (t : TGs) : Prop where
  h : PGs X es t
structure QI (X : Cx) (tg iter : Expr) (wi : TI) : Prop where
  h : PI X tg iter wi
structure QO (X : Cx) (e : Option Expr) (t : TO) : Prop where
  h : PO X e t
structure QTs (X : Cx) (ifs : List Expr) (t : TT) : Prop where
  h : PTs X ifs t
structure OpQ (X : Cx) (f : Value → Value → Sem Value) (r : R2) : Prop where
  h : OpR X f r
structure CallQ (X : Cx) (f : Value) (r : List V → Hp → VK → Prop) : Prop where
  h : CallR X f r
structure MtQ (X : Cx) (id : String) (r : V → List V → Hp → VK → Prop) : Prop where
  h : MtR X id r
section
variable {X : Cx} {K : PySem.W.Frag} {pos : Pos}
theorem eInt {i j} : QE X (.Constant (.int i) j pos) (tC (.int i)) := ⟨pe_int⟩
theorem eBl {b j} : QE X (.Constant (.bool b) j pos) (tC (.bl b)) := ⟨pe_bl⟩
theorem eStr {x j} : QE X (.Constant (.str x) j pos) (tC (.str x)) := ⟨pe_str⟩
theorem vn (i : Nat) {x : Str} (hN : X.N[i]? = some x) (hv : Vis X.env.scope x) (hd : (x == ("__debug__" : Str)) = false) (hcd : (x == ("__classdict__" : Str)) = false) : QE X (.Name x pos) (tVar i) := ⟨pe_var hN hv hd hcd⟩
theorem gvE {x : Str} {v : V} (g : Gv X.mg x v) (hg : Gl X x) (hd : (x == ("__debug__" : Str)) = false) : QE X (.Name x pos) (tC v) := ⟨pe_gv g hg hd⟩
theorem blE {x : Str} {v : V} {u : Value} (hg : Gl X x) (hm : X.mg x = none) (hv : bootBuiltins x = some u) (r : RelV v u) (hn : (x == ("__name__" : Str)) = false) (hd : (x == ("__debug__" : Str)) = false) : QE X (.Name x pos) (tC v) :=
  ⟨pe_bltn hg hm hv r (fun e => by subst e; cases hn) hd⟩
theorem aNil : QA X [] tNil := ⟨pa_nil⟩
theorem paE {e : Expr} {es : List Expr} {te : TE} {t : TA} (hs : isStar e = false) (ha : QE X e te) (hr : QA X es t) : QA X (e :: es) (tCons te t) := ⟨pa_cons ha.h hr.h (starEach_plain hs)⟩
theorem calE {j k : Nat} {x : Str} {ps : List Str} {sp : Sp} {p : Pos} {e : Expr} {es : List Expr} {t : TA} (C : Cal X.prog X.w X.K X.mg X.base j x ps sp) (hr : Room k X.A) (hg : Gl X x) (hjk : Nat.ble j k = true)
    (hdb : (x == ("__debug__" : Str)) = false) (he : (e :: es).any isStar = false) (ha : QA X (e :: es) t) :
    QE X (.Call (.Name x p) (e :: es) [] pos) (tCall sp [] E0 t) := by
  rw [List.any_cons, Bool.or_eq_false_iff] at he
  exact ⟨pe_cal C hr hg pass0 ha.h (Nat.le_of_ble_eq_true hjk) hdb (starEach_plain he.1) (anyStar he.2)⟩
theorem cbE {x : Str} {id : String} {r : List V → Hp → VK → Prop} {p : Pos} {e : Expr} {es : List Expr} {t : TA} (hc : CallQ X (.builtin id) r) (hg : Gl X x) (hm : X.mg x = none) (hv : bootBuiltins x = some (.builtin id)) (hn : (x == ("__name__" : Str)) = false) (hdb : (x == ("__debug__" : Str)) = false)
    (he : (e :: es).any isStar = false) (ha : QA X (e :: es) t) : QE X (.Call (.Name x p) (e :: es) [] pos) (tCB r t) := by
  rw [List.any_cons, Bool.or_eq_false_iff] at he
  exact ⟨pe_callB hc.h hg hm hv ha.h (fun e => by subst e; cases hn) hdb (starEach_plain he.1) (anyStar he.2)⟩
theorem ctE {x : Str} {T : String} {r : List V → Hp → VK → Prop} {p : Pos} {e : Expr} {es : List Expr} {t : TA} (hc : CallQ X (.type T) r) (hg : Gl X x) (hm : X.mg x = none) (hv : bootBuiltins x = some (.type T)) (hn : (x == ("__name__" : Str)) = false) (hdb : (x == ("__debug__" : Str)) = false)
    (he : (e :: es).any isStar = false) (ha : QA X (e :: es) t) : QE X (.Call (.Name x p) (e :: es) [] pos) (tCB r t) := by
  rw [List.any_cons, Bool.or_eq_false_iff] at he
  exact ⟨pe_callTy hc.h hg hm hv ha.h (fun e => by subst e; cases hn) hdb (starEach_plain he.1) (anyStar he.2)⟩
theorem bmE {o e : Expr} {es : List Expr} {to : TE} {t : TA} {name : Str} {apos cpos : Pos} {T id : String} {r : V → List V → Hp → VK → Prop} (h : X.K = K) (pa : PlainAttrs T) (slot : Slot T name id) (hty : typeOf (.builtin id) = pure (.type "method_descriptor")) (hm : MtQ X id r)
    (hbase : isCallE o = false) (hfew : (e :: es).any isStar = false) (h30 : Nat.blt (e :: es).length 30 = true) (hline : (apos.endLine == cpos.line) = true) (ho : QE X o to) (ha : QA X (e :: es) t) :
    QE X (.Call (.Attribute o name apos) (e :: es) [] cpos) (tBM K T r to t) := by
  have he := hfew
  rw [List.any_cons, Bool.or_eq_false_iff] at he
  refine ⟨pe_bmK h pa slot hty hm.h ho.h ha.h (attrBase_no hbase) ?_ hline (starEach_plain he.1) (anyStar he.2)⟩
  rw [allStar hfew]
  have h30' : (e :: es).length < 30 := Nat.blt_eq.mp h30
  have : decide ((e :: es).length + ([] : List Keyword).length + (if ([] : List Keyword).isEmpty then 0 else 1) < 30) = true := decide_eq_true (by simpa using h30')
  rw [this]
  rfl
theorem bm0E {o : Expr} {to : TE} {name : Str} {apos cpos : Pos} {T id : String} {r : V → List V → Hp → VK → Prop} (h : X.K = K) (pa : PlainAttrs T) (slot : Slot T name id) (hty : typeOf (.builtin id) = pure (.type "method_descriptor")) (hm : MtQ X id r)
    (hbase : isCallE o = false) (hline : (apos.endLine == cpos.line) = true) (ho : QE X o to) : QE X (.Call (.Attribute o name apos) [] [] cpos) (tBM0 K T r to) := ⟨pe_bm0K h pa slot hty hm.h ho.h (attrBase_no hbase) hline⟩
theorem rng1E {tg a : Expr} {ta : TA} {p : Pos} (hg : Gl X "range") (hm : X.mg "range" = none) (hs : isStar a = false) (ha : QA X [a] ta) : QI X tg (.Call (.Name "range" p) [a] [] pos) (iRng1 ta) := ⟨pi_range1 hg hm ha.h (starEach_plain hs)⟩
theorem rng2E {tg a b : Expr} {ta : TA} {p : Pos} (hg : Gl X "range") (hm : X.mg "range" = none) (hs : isStar a = false) (hs2 : isStar b = false) (ha : QA X [a, b] ta) : QI X tg (.Call (.Name "range" p) [a, b] [] pos) (iRng2 ta) :=
  ⟨pi_range2 hg hm ha.h ((starEach_plain hs).trans (by rw [starEach_plain hs2]; rfl)) (starEach_plain hs2)⟩
theorem anyI {tg l : Expr} {tl : TE} (h : X.K = K) (hl : QE X l tl) : QI X tg l (iAny K tl) := ⟨pi_anyK h hl.h⟩
section
variable {a b c : Expr} {ta tb tc : TE} {op op' : CmpOp} {r r' : R2}
theorem chainE (ho : OpQ X (compareOp op) r) (ho' : OpQ X (compareOp op') r') (hm : lastMarks [op, op'] [b, c] = false) (ha : QE X a ta) (hb : QE X b tb) (hc : QE X c tc) : QE X (.Compare a [op, op'] [b, c] pos) (tChain r r' ta tb tc) := ⟨pe_chain ho.h ho'.h ha.h hb.h hc.h hm⟩
theorem cmpE (ho : OpQ X (compareOp op) r) (hm : behindInMarks op b = false) (ha : QE X a ta) (hb : QE X b tb) : QE X (.Compare a [op] [b] pos) (tOp r ta tb) := ⟨pe_cmpR ho.h ha.h hb.h hm⟩
theorem cmpT (ho : OpQ X (compareOp op) r) (hm : behindInMarks op b = false) (ha : QE X a ta) (hb : QE X b tb) : QT X (.Compare a [op] [b] pos) (tTest (tOp r ta tb)) := ⟨pt_cmpR ho.h ha.h hb.h hm⟩
theorem opE {op : Operator} (ho : OpQ X (binaryOp op) r) (ha : QE X a ta) (hb : QE X b tb) : QE X (.BinOp a op b pos) (tOp r ta tb) := ⟨pe_op ho.h ha.h hb.h⟩
theorem slE {p2 : Pos} {lo hi : Option Expr} {tl th : TO} (h : X.K = K) (ha : QE X a ta) (hl : QO X lo tl) (hu : QO X hi th) : QE X (.Subscript a (.Slice lo hi none p2) pos) (tSl (rSlA K) ta tl th) := ⟨pe_slice (slK h) ha.h hl.h hu.h⟩
theorem noO : QO X none tNoPart := ⟨po_none⟩
theorem someO (h : QE X a ta) : QO X (some a) (tPart ta) := ⟨po_some h.h⟩
theorem oneV {op} (h : QE X a ta) : QE X (.BoolOp op [a] pos) ta := ⟨pe_one h.h⟩
theorem andV {rest : List Expr} (ha : QE X a ta) (hb : QE X (.BoolOp .And (b :: rest) pos) tb) : QE X (.BoolOp .And (a :: b :: rest) pos) (tAndV ta tb) := ⟨pe_and ha.h hb.h⟩
theorem orV {rest : List Expr} (ha : QE X a ta) (hb : QE X (.BoolOp .Or (b :: rest) pos) tb) : QE X (.BoolOp .Or (a :: b :: rest) pos) (tOrV ta tb) := ⟨pe_or ha.h hb.h⟩
theorem lstE {es : List Expr} {t : TA} (h : QA X es t) : QE X (.List es pos) (tLst t) := ⟨pe_lst h.h⟩
theorem tupE {es : List Expr} {t : TA} {x1} (h : QA X es t) : QE X (.Tuple es x1 pos) (tTup t) := ⟨pe_tup h.h⟩
variable {tA tB' : TT} {rest : List Expr}
theorem notT (ha : QT X a tA) : QT X (.UnaryOp .Not a pos) (tNot tA) := ⟨pt_not ha.h⟩
theorem and1W (ha : QT X a tA) : QW X (.BoolOp .And [a] pos) tA := ⟨pw_and1 ha.h⟩
theorem or1W (ha : QT X a tA) : QW X (.BoolOp .Or [a] pos) tA := ⟨pw_or1 ha.h⟩
theorem andW (ha : QT X a tA) (hb : QW X (.BoolOp .And (b :: rest) pos) tB') : QW X (.BoolOp .And (a :: b :: rest) pos) (tAnd tA tB') := ⟨pw_and ha.h hb.h⟩
theorem orW (ha : QT X a tA) (hb : QW X (.BoolOp .Or (b :: rest) pos) tB') : QW X (.BoolOp .Or (a :: b :: rest) pos) (tOr tA tB') := ⟨pw_or ha.h hb.h⟩
theorem wT (h : QW X a tA) : QT X a tA := ⟨PW.pt h.h⟩
theorem truT (h : X.K = K) (he : ∀ whole, isTrue a X.env whole = (do let v ← whole; standAt a.pos; holding [v] (truthy v))) (ha : QE X a ta) : QT X a (fun σ H Q => ta σ H fun x H' => ∃ k, TruV K x H' k ∧ Q k H') := ⟨pt_truthK h ha.h he⟩
theorem noTs : QTs X [] tYes := ⟨pts_nil⟩
theorem oneTs (h : QT X c tA) : QTs X [c] tA := ⟨pts_one h.h⟩
end
theorem compE {tg iter elt : Expr} {ifs : List Expr} {scope : Scope} {N' : List Str} {cap : List (Nat × Nat)} {wi : TI} {g : TG} {tc : TT} {te : TE} (S : CompScope X scope N' cap) (hc : X.calm = true) (hs : isSetE iter = false) (hi : QI X tg iter wi)
    (hg : ∀ s₃ H₃ fp, QG (compCx X scope N' s₃ H₃ fp) tg g) (ht : ∀ s₃ H₃ fp, QTs (compCx X scope N' s₃ H₃ fp) ifs tc) (he : ∀ s₃ H₃ fp, QE (compCx X scope N' s₃ H₃ fp) elt te) :
    QE X (.ListComp elt [⟨tg, iter, ifs, 0⟩] scope pos) (tComp wi N'.length cap g tc te) := ⟨pe_comp S hc hi.h (fun s₃ H₃ fp => (hg s₃ H₃ fp).h) (fun s₃ H₃ fp => (ht s₃ H₃ fp).h) (fun s₃ H₃ fp => (he s₃ H₃ fp).h) (folded_no hs)⟩
theorem ssNil : QSs X [] tNext := ⟨pss_nil⟩
theorem ssCons {st : Stmt} {rest : List Stmt} {t u : TS} (h1 : QS X st t) (h2 : QSs X rest u) : QSs X (st :: rest) (tSeq t u) := ⟨pss_cons h1.h h2.h⟩
theorem ssOne {st : Stmt} {t : TS} (h1 : QS X st t) : QSs X [st] t := ⟨pss_one h1.h⟩
theorem ifS {c : Expr} {a b : List Stmt} {tc : TT} {t u : TS} (hc : QT X c tc) (ha : QSs X a t) (hb : QSs X b u) : QS X (.If c a b pos) (tIfS tc t u) := ⟨ps_if hc.h ha.h hb.h⟩
theorem retS {e : Expr} {te : TE} (he : QE X e te) : QS X (.Return (some e) pos) (tRet te) := ⟨ps_ret he.h⟩
theorem neverS {st : Stmt} : QS X st tNever := ⟨ps_never⟩
theorem forE {tg iter : Expr} {body : List Stmt} {wi : TI} {g : TG} {tb : TS} (hp : PassesOwn (model X.prog X.w) X.A X.env X.xe) (hc : X.calm = true) (hs : isSetE iter = false) (hi : QI X tg iter wi) (hg : QG X tg g) (hb : QSs X body tb) :
    QS X (.For tg iter body [] pos) (tFor wi g tb) := ⟨ps_for hp hc hi.h hg.h hb.h (folded_no hs)⟩
theorem setE (i : Nat) {x : Str} {e : Expr} {te : TE} {pos' : Pos} (hN : X.N.Nodup) (hi : X.N[i]? = some x) (hx : Loc X.env.scope x) (hf : X.fn x = true ∨ X.env.scope.names.lookup x = some .local) (hs : isCompE e = false) (he : QE X e te) :
    QS X (.Assign [.Name x pos'] e pos) (tAsg te (gName i)) := ⟨ps_set hN hi hx he.h (swaps_no hs) hf⟩
theorem exprE {e : Expr} {te : TE} (hs : isCompE e = false) (he : QE X e te) : QS X (.Expr e pos) (tDrop te) := ⟨ps_expr he.h (swaps_no hs)⟩
theorem asgE {tg e : Expr} {te : TE} {g : TG} (hs : isCompE e = false) (hw : isTupE e = false) (hst : isStar tg = false) (he : QE X e te) (hg : QG X tg g) : QS X (.Assign [tg] e pos) (tAsg te g) :=
  ⟨ps_asg he.h hg.h (swaps_no hs) (swapped_no hw) (by rw [assignEach_plain hst]; rfl)⟩
theorem nameG (i : Nat) {x : Str} (hN : X.N.Nodup) (hi : X.N[i]? = some x) (hx : Loc X.env.scope x) (hf : X.fn x = true ∨ X.env.scope.names.lookup x = some .local) : QG X (.Name x pos) (gName i) := ⟨pg_name hN hi hx hf⟩
theorem gsNil : QGs X [] gNil := ⟨pgs_nil⟩
theorem gsE {e : Expr} {es : List Expr} {t : TG} {u : TGs} (hs : isStar e = false) (h1 : QG X e t) (h2 : QGs X es u) : QGs X (e :: es) (gCons t u) := ⟨pgs_cons h1.h h2.h (by rw [assignEach_plain hs]; rfl)⟩
theorem tupG {es : List Expr} {k : Nat} {t : TGs} (hK : X.K = K) (hc : X.calm = true) (hs : es.any isStar = false) (h : QGs X es t) : QG X (.Tuple es k pos) (gTup K es.length t) := by
  subst hK
  exact ⟨pg_tup hc h.h (assignStar hs).1 (assignStar hs).2⟩
theorem subG {o i : Expr} {to ti : TE} (hs : isSliceE i = false) (ho : QE X o to) (hi : QE X i ti) : QG X (.Subscript o i pos) (gSub to ti rSetL) := ⟨pg_sub ho.h hi.h set_any (assign_sub hs)⟩
theorem q_addA : OpQ X (binaryOp .Add) rAddA := ⟨op_addA⟩
theorem q_sub : OpQ X (binaryOp .Sub) (rI0 fun i j => .int (i - j)) := ⟨op_sub⟩
theorem q_mulA : OpQ X (binaryOp .Mult) rMulA := ⟨op_mulA⟩
theorem q_mod : OpQ X (binaryOp .Mod) (rI (fun _ j => 0 < j) fun i j => .int (i % j)) := ⟨op_mod⟩
theorem q_fdiv : OpQ X (binaryOp .FloorDiv) (rI CDiv fun i j => .int (i / j)) := ⟨op_fdiv⟩
theorem q_eqA : OpQ X (compareOp .Eq) rEqA := ⟨op_eqA⟩
theorem q_neA : OpQ X (compareOp .NotEq) rNeA := ⟨op_neA⟩
theorem q_lt : OpQ X (compareOp .Lt) (rI0 fun i j => .bl (decide (i < j))) := ⟨op_lt⟩
theorem q_le : OpQ X (compareOp .LtE) (rI0 fun i j => .bl (decide (i ≤ j))) := ⟨op_le⟩
theorem q_gt : OpQ X (compareOp .Gt) (rI0 fun i j => .bl (decide (j < i))) := ⟨op_gt⟩
theorem q_ge : OpQ X (compareOp .GtE) (rI0 fun i j => .bl (decide (j ≤ i))) := ⟨op_ge⟩
theorem q_in (h : X.K = K) : OpQ X (compareOp .In) (rInA K) := ⟨op_inK h⟩
noncomputable abbrev rNotInS : R2 := fun x y H Q => ∃ i j, x = .str i ∧ y = .str j ∧ Q (.bl (!(!(Builtin.Str.occurrences j i 0 j.length 1).isEmpty))) H
noncomputable abbrev rNotInA (K : PySem.W.Frag) : R2 := fun x y H Q => rNotInS x y H Q ∨ rIn K true x y H Q
theorem k_len (h : X.K = K) : CallQ X (.builtin "len") (fun xs H Q => ∃ x n, xs = [x] ∧ LenV K x H n ∧ Q (.int n) H) := ⟨call_lenK h⟩
theorem k_all (h : X.K = K) (hc : X.calm = true) : CallQ X (.builtin "all") (fun xs H Q => ∃ (p : Addr) (bs : List Bool), xs = [.ref p] ∧ SqL K H p (bs.map V.bl) ∧ Q (.bl (bs.all id)) H) := ⟨call_allK h hc⟩
theorem k_max (hc : X.calm = true) : CallQ X (.builtin "max") (fun xs H Q => ∃ i j, xs = [.int i, .int j] ∧ Q (.int (if j > i then j else i)) H) := ⟨call_max2 hc⟩
theorem k_isi (h : X.K = K) : CallQ X (.builtin "isinstance") (fun xs H Q => ∃ x n t b, xs = [x, .ty n] ∧ TyOf K H x t ∧ PySem.W.kitOne K t (.type n) = some b ∧ Q (.bl b) H) := ⟨call_isiK h⟩
theorem k_int : CallQ X (.type "int") (fun xs H Q => (∃ i, xs = [.int i] ∧ Q (.int i) H) ∨ ∃ k, xs = [.bl k] ∧ Q (.int (if k then 1 else 0)) H) := ⟨call_int1⟩
theorem m_append : MtQ X "list.append" rAppend := ⟨mt_append⟩
theorem m_extend : MtQ X "list.extend" rExtend := ⟨mt_extend⟩
theorem m_clear : MtQ X "list.clear" rClear := ⟨mt_clear⟩
theorem m_join (h : X.K = K) : MtQ X "str.join" (rJoin K) := ⟨mt_joinK h⟩
end
end L2
namespace L2
open PySem PySem.Spec PyProof.Rows PySem.SeqAt

section
variable {X : Cx} {pins : List (Addr × Obj)} {σ : St} {H : Hp} {s : Shared} {h' : Heap} {tk : Nat} {fp : List Addr}
theorem Inv.moved (I : Inv X pins σ H s) (hf : ∀ b ∈ fp, FpOk X pins H b) (kk : ∀ b o, b ∉ fp → s.heap.get? b = some o → h'.get? b = some o) : Inv X pins σ H { s with heap := h', toks := tk } := by
  have nit : ∀ b v, H b = some v → b ∉ fp := fun b v e hb => by rw [(hf b hb).1] at e; cases e
  refine I.step (g' := s.gens) (d' := s.drawn) (ch := fp) (fun b hb => ⟨(hf b hb).2.2.2.1, (hf b hb).2.1, (hf b hb).2.2.2.2.1, (hf b hb).2.2.2.2.2⟩) (fun b o _ _ hc e _ => kk b o hc e) (fun b o _ _ hc e _ => ⟨o.slots, kk b o hc e⟩) (fun _ _ _ _ n => n)
    (fun b o hc e => ⟨o, kk b o hc e⟩) (fun _ _ e => e) (fun _ _ _ e => e) (fun b ps e => ⟨#[], by rw [e]; simp⟩) (fun m hm => ?_) (fun b v e => ?_) I.bare
  · obtain ⟨o, es, ep, ho, r⟩ := hm
    exact ⟨o, es, ep, kk _ o (fun hb => (hf _ hb).2.1 rfl) ho, r⟩
  · refine (I.hok b v e).stay (fun c' v' hc' q => kk c' v' ?_ q) (fun _ q => q) fun _ _ q => q
    rcases hc' with q' | q'
    · rw [q']; exact nit b v e
    · exact nit c' _ q'
theorem Inv.stood {a : Addr} {o : HO} (I : Inv X pins σ H s) (J : Inv X pins σ H { s with heap := h', toks := tk }) (ha : s.heap.objs.size ≤ a) (new : ObjOk X.prog X.w (upd H a o) h' a o) : Inv X pins σ (upd H a o) { s with heap := h', toks := tk } := by
  have Hn : H a = none := I.hok.fresh ha
  have lt0 : ∀ b o, X.s₀.heap.get? b = some o → b ≠ a := fun b o e => Nat.ne_of_lt (Nat.lt_of_lt_of_le (Nat.lt_of_lt_of_le (Heap.lt_size e) I.sz) ha)
  refine ⟨J.ok, J.os, J.bare, ?_, J.loc, J.cell, ?_, ?_, ?_, ?_, J.len⟩
  · refine ⟨J.base.keep, J.base.slot, fun b o e n hx => ?_, J.base.there, fun b xs e => ?_, fun b o v e => ?_, fun b ps e => ?_⟩
    · rw [upd_ne (lt0 b o e)]; exact J.base.free b o e n hx
    · rw [upd_ne (ne_of_none (J.base.tups b xs e) Hn)]; exact J.base.tups b xs e
    · rw [upd_ne (ne_of_none (J.base.frzs b o v e) Hn)]; exact J.base.frzs b o v e
    · obtain ⟨m, q⟩ := J.base.tbls b ps e
      exact ⟨m, by rw [upd_ne (ne_of_none q Hn)]; exact q⟩
  · rw [upd_ne (Nat.ne_of_lt (Nat.lt_of_lt_of_le I.lt ha))]; exact J.free
  · intro x' c' e
    obtain ⟨v', q⟩ := I.cell x' c' e
    rw [upd_ne (Nat.ne_of_lt (Nat.lt_of_lt_of_le q.lt ha))]; exact J.freeC x' c' e
  · intro p hp
    obtain ⟨e, n, r⟩ := J.pin p hp
    refine ⟨e, ?_, r⟩
    rw [upd_ne (Nat.ne_of_lt (Nat.lt_of_lt_of_le (Heap.lt_size (I.pin p hp).1) ha))]; exact n
  · intro b v e
    by_cases hb : b = a
    · subst hb
      rw [upd_same] at e
      cases e
      exact new
    · rw [upd_ne hb] at e
      refine (J.hok b v e).stay (fun _ _ _ q => q) (fun c' q => ?_) fun c' xs q => ?_
      · rw [upd_ne (ne_of_none q Hn)]; exact q
      · rw [upd_ne (ne_of_none q Hn)]; exact q
end

noncomputable def rSplit : V → List V → Hp → VK → Prop := fun x vs H Q => ∃ z y, x = .str z ∧ vs = [.str y] ∧ 1 ≤ y.length ∧ z.length + 2 ≤ sizeLine ∧ ∀ l, H l = none → Q (.ref l) (upd H l (.lst ((Txt.split z y).map V.str)))
theorem vals_from : ∀ (ss : List Str) (k : Nat), Vals (ss.map V.str) (strsFrom k ss)
  | [], _ => .nil
  | _ :: r, k => .cons ⟨_, rfl⟩ (vals_from r (k + 1))
theorem mt_split {X : Cx} : MtM X "str.split" rSplit := by
  intro pins s σ H x vs v us Q I rx rv h
  obtain ⟨z, y, rfl, rfl, h1, hz, q⟩ := h
  obtain ⟨t, rfl⟩ := rx
  obtain ⟨u0, rfl, ru⟩ := rv.one
  obtain ⟨u, rfl⟩ := ru
  have hy0 : (y.length == 0) = false := by simp; omega
  have hsl := split_le z y
  by_cases c1 : (decide (z.length < y.length) || decide (Builtin.Str.strKind z < Builtin.Str.strKind y)) = true
  · have e : Txt.split z y = [z] := if_pos c1
    rw [e] at q
    exact call_meets F.slot_str_split (typeIs_str _ _ _) F.entry_str_split (F.args_str_split_2 _ _) (meets_str_split_cannot_occur z y t u c1) ⟨.ref _, _, I.lnew (ys := [.str z]) (its := [.str z t]) (t' := s.toks) (.cons ⟨_, rfl⟩ .nil) (by show 1 ≤ sizeLine; decide), rfl, q _ I.fresh⟩
  · have c1' := Bool.eq_false_iff.mpr c1
    by_cases c2 : (Builtin.Str.occurrences z y 0 z.length (z.length + 1)).isEmpty = true
    · have e : Txt.split z y = [z] := (if_neg c1).trans (if_pos c2)
      rw [e] at q
      exact call_meets F.slot_str_split (typeIs_str _ _ _) F.entry_str_split (F.args_str_split_2 _ _) (meets_str_split_not_found z y t u c1' hy0 c2) ⟨.ref _, _, I.lnew (ys := [.str z]) (its := [.str z t]) (t' := s.toks) (.cons ⟨_, rfl⟩ .nil) (by show 1 ≤ sizeLine; decide), rfl, q _ I.fresh⟩
    · have e : Txt.split z y = Builtin.Str.partsBetween z (Builtin.Str.occurrences z y 0 z.length (z.length + 1)) y.length := (if_neg c1).trans (if_neg c2)
      have hl2 : (Builtin.Str.partsBetween z (Builtin.Str.occurrences z y 0 z.length (z.length + 1)) y.length).length ≤ sizeLine := by rw [← e]; omega
      refine call_meets F.slot_str_split (typeIs_str _ _ _) F.entry_str_split (F.args_str_split_2 _ _) (meets_str_split_sep z y t u c1' hy0 (Bool.eq_false_iff.mpr c2) (by omega) hl2) ?_
      rw [← e] at hl2 ⊢
      exact ⟨.ref _, _, I.lnew (its := strsFrom s.toks (Txt.split z y)) (t' := s.toks + (Txt.split z y).length) (vals_from _ _) (by rw [List.length_map]; exact hl2), rfl, q _ I.fresh⟩
theorem m_split {X : Cx} : MtQ X "str.split" rSplit := ⟨mt_split⟩

noncomputable def Ite (K : PySem.W.Frag) (a : Addr) (xs : List V) : It := ⟨fun i H => SqL K H a xs ∧ i < xs.length, fun i H v H' => ∃ x T, xs[i]? = some x ∧ H T = none ∧ v = .ref T ∧ H' = upd H T (.tup [.int i, x]), fun i H => SqL K H a xs ∧ xs.length ≤ i⟩
noncomputable def ESt (e it a : Addr) (i : Nat) (h : Heap) : Prop := (∃ old, IsEnum h e it i old) ∧ h.IsListIter it a i
theorem turn_enum {P : Program} {w : World} {K : PySem.W.Frag} {elts : List Expr} {kt : Nat} {tp : Pos} (e it a : Addr) (xs : List V) (hne : e ≠ it) : Turn P w K (.Tuple elts kt tp) (Ite K a xs) [e, it] e (ESt e it a) where
  mem := by simp
  obj := fun i h st b hb => by
    obtain ⟨⟨old, he⟩, o1, e1, _, d1⟩ := st
    simp only [List.mem_cons, List.not_mem_nil, or_false] at hb
    rcases hb with rfl | rfl
    · exact ⟨_, he, fun v q => nomatch q⟩
    · exact ⟨o1, e1, fun v q => by rw [d1] at q; cases q⟩
  keep := fun i h h' st k => by
    obtain ⟨⟨old, he⟩, o1, e1, r1⟩ := st
    exact ⟨⟨old, k e (by simp) _ he⟩, o1, k it (by simp) _ e1, r1⟩
  item := by
    intro X hP hw hK hc i pins s σ H E I hf st hg
    subst hP hw hK
    obtain ⟨⟨old, he⟩, hit⟩ := st
    obtain ⟨hq, hi⟩ : SqL X.K H a xs ∧ i < xs.length := hg
    obtain ⟨its, rv, p, hz⟩ := I.list hq
    obtain ⟨u, hu, ru⟩ := rv.get (i := i) (x := xs[i]) (by simp [hi])
    refine wpAny_pyNext_enum_item he hit p.isList (x := u) (by simpa using hu) hne fun h1 he1 hit1 ht1 hz1 hk1 => ⟨_, rfl, ?_⟩
    refine wpAny_letOwnedTupleGo_enum (s := { s with heap := h1, toks := s.toks + 1 }) he1 fun h2 he2 sb2 => ?_
    replace sb2 : Heap.SameBut e h1 h2 := sb2
    have elt : e < s.heap.objs.size := Heap.lt_size he
    have ilt : it < s.heap.objs.size := by obtain ⟨o, q, _⟩ := hit; exact Heap.lt_size q
    have kk : ∀ b o, b ∉ [e, it] → s.heap.get? b = some o → h2.get? b = some o := fun b o hb q => by
      simp only [List.mem_cons, List.not_mem_nil, or_false, not_or] at hb
      exact (sb2.2 b hb.1).trans (hk1 b o hb.1 hb.2 q)
    have J : Inv X pins σ H { s with heap := h2, toks := s.toks + 1 } := I.moved hf kk
    have hT : h2.get? s.heap.objs.size = some { cls := .type "tuple", data := .seq #[.int i s.toks, u] } := (sb2.2 _ (Nat.ne_of_gt elt)).trans ht1
    have I2 : Inv X pins σ (upd H s.heap.objs.size (.tup [.int i, xs[i]])) { s with heap := h2, toks := s.toks + 1 } :=
      I.stood J (Nat.le_refl _) ⟨by show 2 ≤ sizeLine; decide, [.int i s.toks, u], .cons ⟨_, rfl⟩ (.cons ru .nil), _, hT, rfl, _, rfl⟩
    refine ⟨.ref s.heap.objs.size, _, I2, rfl, ⟨xs[i], _, by simp [hi], I.fresh, rfl, rfl⟩, ⟨⟨u, by rw [Int.natCast_succ]; exact he2⟩, ?_⟩, fun b hb => ?_⟩
    · obtain ⟨o, q, r⟩ := hit1; exact ⟨o, (sb2.2 _ (Ne.symm hne)).trans q, r⟩
    · have : b < s.heap.objs.size := by
        simp only [List.mem_cons, List.not_mem_nil, or_false] at hb
        rcases hb with rfl | rfl
        · exact elt
        · exact ilt
      rw [upd_ne (Nat.ne_of_lt this)]; exact (hf b hb).1
  done := by
    intro X hP hw hK hc i pins s σ H E I hf st hg
    subst hP hw hK
    obtain ⟨⟨old, he⟩, hit⟩ := st
    obtain ⟨hq, hi⟩ : SqL X.K H a xs ∧ xs.length ≤ i := hg
    obtain ⟨its, rv, p, hz⟩ := I.list hq
    have hl := rv.length
    have hh : X.A.handled = none := I.ok.hd hc
    refine wpAny_pyNext_enum_end hh he hit p.isList (by simp; omega) fun h1 xb => ⟨rfl, I.moved (fp := [e, it]) (tk := s.toks) hf fun b o hb q => ?_⟩
    simp only [List.mem_cons, List.not_mem_nil, or_false, not_or] at hb
    exact xb b o hb.2 q
  self := fun A i s Q E st h => by
    obtain ⟨⟨old, he⟩, hit⟩ := st
    exact wpAny_pyIter_enum he h
noncomputable def iEnum (K : PySem.W.Frag) (ta : TA) : TI := fun σ H R => ta σ H fun vs H1 => ∃ a xs, vs = [.ref a] ∧ SqL K H1 a xs ∧ R (Ite K a xs) H1

section
variable {X : Cx} {K : PySem.W.Frag} {pos : Pos}
theorem enumI {elts : List Expr} {kt : Nat} {tp p : Pos} {a : Expr} {ta : TA} (hK : X.K = K) (hg : Gl X "enumerate") (hm : X.mg "enumerate" = none) (hs : isStar a = false) (ha : QA X [a] ta) :
    QI X (.Tuple elts kt tp) (.Call (.Name "enumerate" p) [a] [] pos) (iEnum K ta) := by
  subst hK
  constructor
  intro pins s σ H R I h
  refine Call_ (ld_blt I hg hm boot_enumerate (PyProof.Rows.callWith_type1 (thn (ha.h pos pins s σ H _ I h) fun us s1 ⟨vs, H1, I1, r1, q1⟩ => ?_) (starEach_plain hs) rfl))
  obtain ⟨l, xs, e, hq, q⟩ := q1
  subst e
  obtain ⟨u, rfl, ru⟩ := vals1 r1
  cases ru
  obtain ⟨its, rv, p, hz⟩ := I1.list hq
  refine call_enumerate_list p.isList fun h1 he hit hz1 hk => wpAny_pyIter_enum (s := { s1 with heap := h1 }) he ?_
  have J : Inv X pins σ H1 { s1 with heap := h1 } := I1.kept (t' := s1.toks) hk
  refine ⟨s1.heap.objs.size + 1, [s1.heap.objs.size + 1, s1.heap.objs.size], ESt (s1.heap.objs.size + 1) s1.heap.objs.size l, Ite X.K l xs, H1, rfl, J, turn_enum _ _ _ _ (Nat.succ_ne_self _), ⟨⟨_, he⟩, hit⟩, fun b hb => ?_, q⟩
  simp only [List.mem_cons, List.not_mem_nil, or_false] at hb
  rcases hb with rfl | rfl
  · exact I1.fpOk (Nat.le_succ _) (I1.hok.fresh (Nat.le_succ _))
  · exact I1.fpOk (Nat.le_refl _) (I1.hok.fresh (Nat.le_refl _))
end

section
variable (h : Heap) (x y : Str) (t u : Tok)
noncomputable abbrev zs1 : Heap := h.push { cls := .type (strIterType x), data := .fields #[.str x t, .int 0 0] }
noncomputable abbrev zs2 : Heap := (zs1 h x t).push { cls := .type (strIterType y), data := .fields #[.str y u, .int 0 0] }
noncomputable abbrev zs3 : Heap := (zs2 h x y t u).push { cls := .type "tuple", data := .seq #[.ref h.objs.size, .ref (zs1 h x t).objs.size] }
noncomputable abbrev zs4 : Heap := (zs3 h x y t u).push { cls := .type "tuple", data := .seq #[.none, .none] }
noncomputable abbrev zs5 : Heap := (zs4 h x y t u).push { cls := .type "zip", data := .fields #[.none, .bool false, .bool false, .ref (zs2 h x y t u).objs.size, .ref (zs3 h x y t u).objs.size] }
end
set_option maxHeartbeats 4000000 in
theorem meets_zip_texts (x y : Str) (t u : Tok) :
    Meets (Builtin.«zip.__new__» ⟨[.type "zip", .str x t, .str y u], []⟩) (fun _ R s => R (.ok (.ret (.ref (zs4 s.heap x y t u).objs.size))) { s with heap := zs5 s.heap x y t u }) :=
  .of_wp fun prog w A R s hR => by
    obtain ⟨hp, g, d, tk, os⟩ := s
    have hsub := PySem.sub_zip
    wp_walk using wpAny_pyIter_strU (x := x) (t := t), wpAny_pyIter_strU (x := y) (t := u)
    exact ⟨_, rfl, hR⟩
end L2
namespace L2
open PySem PySem.Spec PyProof.Rows PySem.SeqAt
section
variable {prog : Program} {w : World} {A : Around} {E : Value → Shared → Prop} {s : Shared}
theorem call_zip_texts {x y : Str} {t u : Tok} {Q : Value → Shared → Prop}
    (h : ∀ h', IsZip h' (s.heap.objs.size + 4) (s.heap.objs.size + 2) (s.heap.objs.size + 3) .none → IsPair h' (s.heap.objs.size + 2) (.ref s.heap.objs.size) (.ref (s.heap.objs.size + 1)) → IsPair h' (s.heap.objs.size + 3) .none .none →
      h'.IsStrIter s.heap.objs.size (strIterType x) x t 0 → h'.IsStrIter (s.heap.objs.size + 1) (strIterType y) y u 0 → (∀ c o, s.heap.get? c = some o → h'.get? c = some o) → Q (.ref (s.heap.objs.size + 4)) { s with heap := h' }) :
    wpAny (model prog w) A (call (.type "zip") [.str x t, .str y u]) Q E s := by
  refine callType_new F.called_zip (by decide) (F.typeCall_zip_2 _ _) (F.newCall_zip_2 _ _) (fun obj => F.args_object_init_3 obj _ _) F.entry_zip_new (meets_zip_texts x y t u) ?_
  have n1 : (zs1 s.heap x t).objs.size = s.heap.objs.size + 1 := Heap.size_push ..
  have n2 : (zs2 s.heap x y t u).objs.size = s.heap.objs.size + 2 := by rw [Heap.size_push, n1]
  have n3 : (zs3 s.heap x y t u).objs.size = s.heap.objs.size + 3 := by rw [Heap.size_push, n2]
  have n4 : (zs4 s.heap x y t u).objs.size = s.heap.objs.size + 4 := by rw [Heap.size_push, n3]
  have k5 : ∀ c o, (zs4 s.heap x y t u).get? c = some o → (zs5 s.heap x y t u).get? c = some o := fun _ _ q => Heap.get?_push_of_some _ q
  have k4 : ∀ c o, (zs3 s.heap x y t u).get? c = some o → (zs5 s.heap x y t u).get? c = some o := fun c o q => k5 c o (Heap.get?_push_of_some _ q)
  have k3 : ∀ c o, (zs2 s.heap x y t u).get? c = some o → (zs5 s.heap x y t u).get? c = some o := fun c o q => k4 c o (Heap.get?_push_of_some _ q)
  have k2 : ∀ c o, (zs1 s.heap x t).get? c = some o → (zs5 s.heap x y t u).get? c = some o := fun c o q => k3 c o (Heap.get?_push_of_some _ q)
  have k1 : ∀ c o, s.heap.get? c = some o → (zs5 s.heap x y t u).get? c = some o := fun c o q => k2 c o (Heap.get?_push_of_some _ q)
  have b5 : (zs5 s.heap x y t u).get? (zs4 s.heap x y t u).objs.size = some _ := Heap.get?_push_size _ rfl
  have b4 : (zs5 s.heap x y t u).get? (zs3 s.heap x y t u).objs.size = some _ := k5 _ _ (Heap.get?_push_size _ rfl)
  have b3 : (zs5 s.heap x y t u).get? (zs2 s.heap x y t u).objs.size = some _ := k4 _ _ (Heap.get?_push_size _ rfl)
  have b2 : (zs5 s.heap x y t u).get? (zs1 s.heap x t).objs.size = some _ := k3 _ _ (Heap.get?_push_size _ rfl)
  have b1 : (zs5 s.heap x y t u).get? s.heap.objs.size = some _ := k2 _ _ (Heap.get?_push_size _ rfl)
  show _ ∧ _
  rw [n2, n3, n4] at b5
  rw [n1, n2] at b3
  rw [n3] at b4
  rw [n1] at b2
  rw [n4]
  exact ⟨⟨_, b5, rfl⟩, h _ b5 b3 b4 ⟨_, b1, rfl, rfl⟩ ⟨_, b2, rfl, rfl⟩ k1⟩
end
noncomputable def iZipS (ta : TA) : TI := fun σ H R => ta σ H fun vs H1 => ∃ x y, vs = [.str x, .str y] ∧ R (Itz x y) H1
section
variable {X : Cx} {K : PySem.W.Frag} {pos : Pos}
theorem zipSI {elts : List Expr} {kt : Nat} {tp p : Pos} {a b : Expr} {ta : TA} (hg : Gl X "zip") (hm : X.mg "zip" = none) (hs : isStar a = false) (hs2 : isStar b = false) (ha : QA X [a, b] ta) :
    QI X (.Tuple elts kt tp) (.Call (.Name "zip" p) [a, b] [] pos) (iZipS ta) := by
  constructor
  intro pins s σ H R I h
  refine Call_ (ld_blt I hg hm boot_zip (PyProof.Rows.callWith_type1 (thn (ha.h pos pins s σ H _ I h) fun us s1 ⟨vs, H1, I1, r1, q1⟩ => ?_) (starEach_plain hs) (by rw [starEach_plain hs2]; rfl)))
  obtain ⟨x, y, e, q⟩ := q1
  subst e
  obtain ⟨u1, u2, rfl, ⟨t, rfl⟩, ⟨u, rfl⟩⟩ := vals2 r1
  refine call_zip_texts fun h1 hz hTI hTO hi1 hi2 hk => wpAny_pyIter_zip (s := { s1 with heap := h1 }) hz ?_
  have J : Inv X pins σ H1 { s1 with heap := h1 } := I1.kept (t' := s1.toks) hk
  have ne : ∀ i j : Nat, i ≠ j → s1.heap.objs.size + i ≠ s1.heap.objs.size + j := fun i j h e => h (Nat.add_left_cancel e)
  refine ⟨s1.heap.objs.size + 4, [s1.heap.objs.size + 4, s1.heap.objs.size + 2, s1.heap.objs.size + 3, s1.heap.objs.size + 0, s1.heap.objs.size + 1], _, Itz x y, H1, rfl, J,
    turn_zip _ _ _ _ _ x y t u ⟨ne 2 4 (by decide), ne 3 4 (by decide), ne 0 4 (by decide), ne 1 4 (by decide), ne 2 3 (by decide), ne 2 0 (by decide), ne 2 1 (by decide), ne 3 0 (by decide), ne 3 1 (by decide), ne 0 1 (by decide)⟩,
    ⟨hz, hTI, ⟨_, _, hTO⟩, hi1, hi2⟩, fun b hb => ?_, q⟩
  have hb' : s1.heap.objs.size ≤ b := by
    simp only [List.mem_cons, List.not_mem_nil, or_false] at hb
    rcases hb with rfl | rfl | rfl | rfl | rfl <;> exact Nat.le_add_right _ _
  exact I1.fpOk hb' (I1.hok.fresh hb')

noncomputable abbrev rMulS : R2 := fun x y H Q => ∃ z n, x = .str z ∧ y = .int n ∧ 0 ≤ n ∧ n ≤ 100000 ∧ z.length ≤ 100 ∧ Q (.str (Txt.mul z n)) H
end
end L2
namespace L2
open PySem PySem.Spec PyProof.Rows PySem.SeqAt
inductive D where
  | non | bl (b : Bool) | int (i : Int) | str (x : Str) | lst (ds : List D) | tup (ds : List D)
mutual
noncomputable def D.beq : D → D → Bool
  | .non, .non => true
  | .bl a, .bl b => a == b
  | .bl a, .int b => (if a then 1 else 0) == b
  | .int a, .bl b => a == (if b then 1 else 0)
  | .int a, .int b => a == b
  | .str a, .str b => a == b
  | .lst as, .lst bs => D.beqs as bs
  | .tup as, .tup bs => D.beqs as bs
  | _, _ => false
noncomputable def D.beqs : List D → List D → Bool
  | [], [] => true
  | a :: as, b :: bs => D.beq a b && D.beqs as bs
  | _, _ => false
end
mutual
noncomputable def D.dep : D → Nat
  | .lst as => D.deps as + 1
  | .tup as => D.deps as + 1
  | _ => 0
noncomputable def D.deps : List D → Nat
  | [] => 0
  | a :: as => max (D.dep a) (D.deps as)
end
mutual
noncomputable def Has (K : PySem.W.Frag) (H : Hp) : D → V → Prop
  | .non, x => x = .non
  | .bl b, x => x = .bl b
  | .int i, x => x = .int i
  | .str z, x => x = .str z
  | .lst ds, x => ∃ a xs, x = .ref a ∧ SqL K H a xs ∧ HasL K H ds xs
  | .tup ds, x => ∃ a xs, x = .ref a ∧ SqT K H a xs ∧ HasL K H ds xs
noncomputable def HasL (K : PySem.W.Frag) (H : Hp) : List D → List V → Prop
  | [], xs => xs = []
  | d :: ds, xs => ∃ y ys, xs = y :: ys ∧ Has K H d y ∧ HasL K H ds ys
end
section
variable {K : PySem.W.Frag} {H H' : Hp}
theorem HasL.len : ∀ {ds : List D} {xs : List V}, HasL K H ds xs → ds.length = xs.length
  | [], _, h => by simp only [HasL] at h; subst h; rfl
  | d :: ds, _, h => by
    simp only [HasL] at h
    obtain ⟨y, ys, rfl, _, h2⟩ := h
    rw [List.length_cons, List.length_cons, HasL.len h2]
theorem HasL.get : ∀ {ds : List D} {xs : List V} {i : Nat} {x : V}, HasL K H ds xs → xs[i]? = some x → ∃ d, ds[i]? = some d ∧ Has K H d x
  | [], _, i, x, h, e => by simp only [HasL] at h; subst h; simp at e
  | d :: ds, _, i, x, h, e => by
    simp only [HasL] at h
    obtain ⟨y, ys, rfl, h1, h2⟩ := h
    cases i with
    | zero => simp at e; subst e; exact ⟨d, by simp, h1⟩
    | succ i =>
      obtain ⟨d', q1, q2⟩ := HasL.get (i := i) h2 (by simpa using e)
      exact ⟨d', by simpa using q1, q2⟩
theorem Same.seqT {a : Addr} {xs : List V} (e : Same H H') (h : SqT K H a xs) : SqT K H' a xs := by
  rcases h with (h | ⟨o, h⟩) | h
  · exact .inl (.inl (e _ _ h))
  · exact .inl (.inr ⟨o, e _ _ h⟩)
  · exact .inr h
mutual
theorem Same.has (sm : Same H H') : ∀ {d : D} {x : V}, Has K H d x → Has K H' d x
  | .non, _, h => by simpa only [Has] using h
  | .bl _, _, h => by simpa only [Has] using h
  | .int _, _, h => by simpa only [Has] using h
  | .str _, _, h => by simpa only [Has] using h
  | .lst ds, _, h => by
    simp only [Has] at h ⊢
    obtain ⟨a, xs, e, q, r⟩ := h
    exact ⟨a, xs, e, sm.seq q, Same.hasL sm r⟩
  | .tup ds, _, h => by
    simp only [Has] at h ⊢
    obtain ⟨a, xs, e, q, r⟩ := h
    exact ⟨a, xs, e, sm.seqT q, Same.hasL sm r⟩
theorem Same.hasL (sm : Same H H') : ∀ {ds : List D} {xs : List V}, HasL K H ds xs → HasL K H' ds xs
  | [], _, h => by simpa only [HasL] using h
  | d :: ds, _, h => by
    simp only [HasL] at h ⊢
    obtain ⟨y, ys, e, h1, h2⟩ := h
    exact ⟨y, ys, e, Same.has sm h1, Same.hasL sm h2⟩
end
mutual
theorem D.beq_refl : ∀ d : D, D.beq d d = true
  | .non => by simp [D.beq]
  | .bl _ => by simp [D.beq]
  | .int _ => by simp [D.beq]
  | .str _ => by simp [D.beq]
  | .lst ds => by simp only [D.beq]; exact D.beqs_refl ds
  | .tup ds => by simp only [D.beq]; exact D.beqs_refl ds
theorem D.beqs_refl : ∀ ds : List D, D.beqs ds ds = true
  | [] => by simp [D.beqs]
  | d :: ds => by simp only [D.beqs]; rw [D.beq_refl d, D.beqs_refl ds]; rfl
end
theorem D.beqs_all : ∀ (as bs : List D), as.length = bs.length → (List.range as.length).all (fun j => D.beq (as.getD j .non) (bs.getD j .non)) = D.beqs as bs
  | [], [], _ => by simp [D.beqs]
  | a :: as, b :: bs, h => by
    have ih := D.beqs_all as bs (by simpa using h)
    rw [List.length_cons, List.range_succ_eq_map, List.all_cons, List.all_map]
    simp only [D.beqs]
    rw [← ih]
    rfl
theorem D.beqs_len : ∀ {as bs : List D}, as.length ≠ bs.length → D.beqs as bs = false
  | [], [], h => absurd rfl h
  | [], _ :: _, _ => by simp [D.beqs]
  | _ :: _, [], _ => by simp [D.beqs]
  | a :: as, b :: bs, h => by
    simp only [D.beqs]
    rw [D.beqs_len (as := as) (bs := bs) (by simpa using h), Bool.and_false]
end
section
variable {X : Cx} {pins : List (Addr × Obj)} {σ : St} {H : Hp} {s : Shared}
theorem Inv.seq_apart (I : Inv X pins σ H s) {a b : Addr} {xs ys : List V} (h : SqL X.K H a xs) (h' : SqT X.K H b ys) : a ≠ b := by
  obtain ⟨its, r, p, _⟩ := I.list h
  obtain ⟨its', r', p', _⟩ := I.tuple h'
  exact ne_of_list_tuple p.isList p'
mutual
theorem Has.inj (I : Inv X pins σ H s) : ∀ {d e : D} {x : V}, Has X.K H d x → Has X.K H e x → D.beq d e = true
  | .non, e, x, h, h' => by
    simp only [Has] at h; subst h
    cases e <;> simp only [Has] at h' <;> first | rfl | (obtain ⟨_, _, q, _⟩ := h'; cases q) | cases h'
    all_goals simp [D.beq]
  | .bl b, e, x, h, h' => by
    simp only [Has] at h; subst h
    cases e <;> simp only [Has] at h' <;> first | (obtain ⟨_, _, q, _⟩ := h'; cases q) | cases h'
    all_goals simp [D.beq]
  | .int i, e, x, h, h' => by
    simp only [Has] at h; subst h
    cases e <;> simp only [Has] at h' <;> first | (obtain ⟨_, _, q, _⟩ := h'; cases q) | cases h'
    all_goals simp [D.beq]
  | .str z, e, x, h, h' => by
    simp only [Has] at h; subst h
    cases e <;> simp only [Has] at h' <;> first | (obtain ⟨_, _, q, _⟩ := h'; cases q) | cases h'
    all_goals simp [D.beq]
  | .lst ds, e, x, h, h' => by
    simp only [Has] at h
    obtain ⟨a, xs, rfl, q, r⟩ := h
    cases e with
    | lst es =>
      simp only [Has] at h'
      obtain ⟨b, ys, e, q', r'⟩ := h'
      cases e
      have e := I.list_inj q q'
      subst e
      simp only [D.beq]
      exact HasL.inj I r r'
    | tup es =>
      simp only [Has] at h'
      obtain ⟨b, ys, e, q', r'⟩ := h'
      cases e
      exact absurd rfl (I.seq_apart q q')
    | _ => simp only [Has] at h'; cases h'
  | .tup ds, e, x, h, h' => by
    simp only [Has] at h
    obtain ⟨a, xs, rfl, q, r⟩ := h
    cases e with
    | tup es =>
      simp only [Has] at h'
      obtain ⟨b, ys, e, q', r'⟩ := h'
      cases e
      have e := I.tuple_inj q q'
      subst e
      simp only [D.beq]
      exact HasL.inj I r r'
    | lst es =>
      simp only [Has] at h'
      obtain ⟨b, ys, e, q', r'⟩ := h'
      cases e
      exact absurd rfl (I.seq_apart q' q)
    | _ => simp only [Has] at h'; cases h'
theorem HasL.inj (I : Inv X pins σ H s) : ∀ {ds es : List D} {xs : List V}, HasL X.K H ds xs → HasL X.K H es xs → D.beqs ds es = true
  | [], es, xs, h, h' => by
    simp only [HasL] at h; subst h
    cases es with
    | nil => simp [D.beqs]
    | cons e es => simp only [HasL] at h'; obtain ⟨_, _, q, _⟩ := h'; cases q
  | d :: ds, es, xs, h, h' => by
    simp only [HasL] at h
    obtain ⟨y, ys, rfl, h1, h2⟩ := h
    cases es with
    | nil => simp only [HasL] at h'; cases h'
    | cons e es =>
      simp only [HasL] at h'
      obtain ⟨y', ys', q, h1', h2'⟩ := h'
      cases q
      simp only [D.beqs]
      rw [Has.inj I h1 h1', HasL.inj I h2 h2']
      rfl
end
/-- each item of a list with its datum -/
theorem eq_items {A : Around} {ds es : List D} {xs ys : List V} {us vs : List Value} (hx : HasL X.K H ds xs) (hy : HasL X.K H es ys) (rx : Vals xs us) (ry : Vals ys vs)
    (ih : ∀ (j : Nat) d e x y u v, ds[j]? = some d → es[j]? = some e → Has X.K H d x → Has X.K H e y → RelV x u → RelV y v → EqAt A s u v (D.beq d e)) (j : Nat) (h1 : j < us.toArray.size) (h2 : j < vs.toArray.size) :
    EqAt A s us.toArray[j] vs.toArray[j] (D.beq (ds.getD j .non) (es.getD j .non)) := by
  have l1 : j < us.length := by simpa using h1
  have l2 : j < vs.length := by simpa using h2
  have lx : j < xs.length := by rw [rx.length]; exact l1
  have ly : j < ys.length := by rw [ry.length]; exact l2
  obtain ⟨d, hd, hd'⟩ := hx.get (i := j) (x := xs[j]) (by simp [lx])
  obtain ⟨e, he, he'⟩ := hy.get (i := j) (x := ys[j]) (by simp [ly])
  obtain ⟨u, hu, ru⟩ := rx.get (i := j) (x := xs[j]) (by simp [lx])
  obtain ⟨v, hv, rv⟩ := ry.get (i := j) (x := ys[j]) (by simp [ly])
  have eu : us.toArray[j] = u := by
    have : us[j]? = some us[j] := by simp [l1]
    rw [this] at hu
    simpa using Option.some.inj hu
  have ev : vs.toArray[j] = v := by
    have : vs[j]? = some vs[j] := by simp [l2]
    rw [this] at hv
    simpa using Option.some.inj hv
  rw [eu, ev, List.getD_eq_getElem?_getD, List.getD_eq_getElem?_getD, hd, he]
  exact ih j d e _ _ u v hd he hd' he' ru rv
theorem rc_lists (I : Inv X pins σ H s) {A : Around} {ds es : List D} {xs ys : List V} {a b : Addr} (qx : SqL X.K H a xs) (hx : HasL X.K H ds xs) (qy : SqL X.K H b ys) (hy : HasL X.K H es ys) (hu : A.units < cLine)
    (ih : ∀ (j : Nat) d e x y u v, ds[j]? = some d → es[j]? = some e → Has X.K H d x → Has X.K H e y → RelV x u → RelV y v → EqAt A.in1 s u v (D.beq d e)) : RcAt A s (.ref a) (.ref b) (D.beqs ds es) := by
  obtain ⟨us, rx, px, _⟩ := I.list qx
  obtain ⟨vs, ry, py, _⟩ := I.list qy
  have n1 : us.toArray.size = ds.length := by rw [List.size_toArray, ← rx.length, hx.len]
  have n2 : vs.toArray.size = es.length := by rw [List.size_toArray, ← ry.length, hy.len]
  by_cases hl : ds.length = es.length
  · rw [← D.beqs_all ds es hl, ← n1]
    exact RcAt.lists px.isList py.isList (by rw [n1, n2, hl]) hu (eq_items hx hy rx ry ih)
  · rw [D.beqs_len hl]
    exact RcAt.lists_lengths px.isList py.isList (by rw [n1, n2]; simpa using hl) hu
theorem rc_tups (I : Inv X pins σ H s) {A : Around} {ds es : List D} {xs ys : List V} {a b : Addr} (qx : SqT X.K H a xs) (hx : HasL X.K H ds xs) (qy : SqT X.K H b ys) (hy : HasL X.K H es ys) (hu : A.units < cLine)
    (ih : ∀ (j : Nat) d e x y u v, ds[j]? = some d → es[j]? = some e → Has X.K H d x → Has X.K H e y → RelV x u → RelV y v → EqAt A.in1 s u v (D.beq d e)) : RcAt A s (.ref a) (.ref b) (D.beqs ds es) := by
  obtain ⟨us, rx, px, _⟩ := I.tuple qx
  obtain ⟨vs, ry, py, _⟩ := I.tuple qy
  have n1 : us.toArray.size = ds.length := by rw [List.size_toArray, ← rx.length, hx.len]
  have n2 : vs.toArray.size = es.length := by rw [List.size_toArray, ← ry.length, hy.len]
  have main := RcAt.tuples (A := A) (s := s) (l := a) (b := b) (items := us.toArray) (items2 := vs.toArray) px py hu (eq_items hx hy rx ry ih)
  rw [n1, n2] at main
  by_cases hl : ds.length = es.length
  · rw [← hl, Nat.min_self, D.beqs_all ds es hl] at main
    simpa using main
  · rw [D.beqs_len hl]
    have e : (ds.length == es.length) = false := by simpa using hl
    rw [e, Bool.and_false] at main
    exact main
theorem getElem?_deps : ∀ {ds : List D} {j : Nat} {d : D}, ds[j]? = some d → D.dep d ≤ D.deps ds
  | [], _, _, h => by simp at h
  | a :: as, 0, d, h => by
    simp at h; subst h
    simp only [D.deps]
    exact Nat.le_max_left _ _
  | a :: as, j + 1, d, h => by
    have := getElem?_deps (ds := as) (j := j) (d := d) (by simpa using h)
    simp only [D.deps]
    exact Nat.le_trans this (Nat.le_max_right _ _)

/-- values compared by what they hold -/
theorem eqAt_has (I : Inv X pins σ H s) : ∀ (n : Nat) {d e : D} {x y : V} {u v : Value} {A : Around}, D.dep d ≤ n → A.units + n < cLine → Has X.K H d x → Has X.K H e y → RelV x u → RelV y v → EqAt A s u v (D.beq d e) := by
  intro n
  induction n with
  | zero =>
    intro d e x y u v A hn hu hx hy rx ry
    have hu' : A.units < cLine := by omega
    cases d with
    | lst ds => exact absurd hn (by simp [D.dep])
    | tup ds => exact absurd hn (by simp [D.dep])
    | non =>
      simp only [Has] at hx; subst hx; cases rx
      cases e with
      | non => simp only [Has] at hy; subst hy; cases ry; simp only [D.beq]; exact EqAt.same _
      | bl j => simp only [Has] at hy; subst hy; cases ry; simp only [D.beq]; exact EqAt.none_bool _
      | int j => simp only [Has] at hy; subst hy; obtain ⟨_, rfl⟩ := ry; simp only [D.beq]; exact EqAt.none_int _ _
      | str j => simp only [Has] at hy; subst hy; obtain ⟨_, rfl⟩ := ry; simp only [D.beq]; exact EqAt.none_str _ _
      | lst j => simp only [Has] at hy; obtain ⟨b, ys, rfl, q, _⟩ := hy; cases ry; obtain ⟨vs, _, p, _⟩ := I.list q; simp only [D.beq]; exact EqAt.none_list p.isList hu'
      | tup j => simp only [Has] at hy; obtain ⟨b, ys, rfl, q, _⟩ := hy; cases ry; obtain ⟨vs, _, p, _⟩ := I.tuple q; simp only [D.beq]; exact EqAt.none_tuple p hu'
    | bl i =>
      simp only [Has] at hx; subst hx; cases rx
      cases e with
      | non => simp only [Has] at hy; subst hy; cases ry; simp only [D.beq]; exact EqAt.bool_none _
      | bl j => simp only [Has] at hy; subst hy; cases ry; simp only [D.beq]; exact EqAt.bool_bool _ _
      | int j => simp only [Has] at hy; subst hy; obtain ⟨_, rfl⟩ := ry; simp only [D.beq]; exact EqAt.bool_int _ _ _
      | str j => simp only [Has] at hy; subst hy; obtain ⟨_, rfl⟩ := ry; simp only [D.beq]; exact EqAt.bool_str _ _ _
      | lst j => simp only [Has] at hy; obtain ⟨b, ys, rfl, q, _⟩ := hy; cases ry; obtain ⟨vs, _, p, _⟩ := I.list q; simp only [D.beq]; exact EqAt.bool_list _ p.isList hu'
      | tup j => simp only [Has] at hy; obtain ⟨b, ys, rfl, q, _⟩ := hy; cases ry; obtain ⟨vs, _, p, _⟩ := I.tuple q; simp only [D.beq]; exact EqAt.bool_tuple _ p hu'
    | int i =>
      simp only [Has] at hx; subst hx; obtain ⟨_, rfl⟩ := rx
      cases e with
      | non => simp only [Has] at hy; subst hy; cases ry; simp only [D.beq]; exact EqAt.int_none _ _
      | bl j => simp only [Has] at hy; subst hy; cases ry; simp only [D.beq]; exact EqAt.int_bool _ _ _
      | int j => simp only [Has] at hy; subst hy; obtain ⟨_, rfl⟩ := ry; simp only [D.beq]; exact EqAt.int_int _ _ _ _
      | str j => simp only [Has] at hy; subst hy; obtain ⟨_, rfl⟩ := ry; simp only [D.beq]; exact EqAt.int_str _ _ _ _
      | lst j => simp only [Has] at hy; obtain ⟨b, ys, rfl, q, _⟩ := hy; cases ry; obtain ⟨vs, _, p, _⟩ := I.list q; simp only [D.beq]; exact EqAt.int_list _ _ p.isList hu'
      | tup j => simp only [Has] at hy; obtain ⟨b, ys, rfl, q, _⟩ := hy; cases ry; obtain ⟨vs, _, p, _⟩ := I.tuple q; simp only [D.beq]; exact EqAt.int_tuple _ _ p hu'
    | str i =>
      simp only [Has] at hx; subst hx; obtain ⟨_, rfl⟩ := rx
      cases e with
      | non => simp only [Has] at hy; subst hy; cases ry; simp only [D.beq]; exact EqAt.str_none _ _
      | bl j => simp only [Has] at hy; subst hy; cases ry; simp only [D.beq]; exact EqAt.str_bool _ _ _
      | int j => simp only [Has] at hy; subst hy; obtain ⟨_, rfl⟩ := ry; simp only [D.beq]; exact EqAt.str_int _ _ _ _
      | str j => simp only [Has] at hy; subst hy; obtain ⟨_, rfl⟩ := ry; simp only [D.beq]; exact EqAt.str_str _ _ _ _
      | lst j => simp only [Has] at hy; obtain ⟨b, ys, rfl, q, _⟩ := hy; cases ry; obtain ⟨vs, _, p, _⟩ := I.list q; simp only [D.beq]; exact EqAt.str_list _ _ p.isList hu'
      | tup j => simp only [Has] at hy; obtain ⟨b, ys, rfl, q, _⟩ := hy; cases ry; obtain ⟨vs, _, p, _⟩ := I.tuple q; simp only [D.beq]; exact EqAt.str_tuple _ _ p hu'
  | succ n ih =>
    intro d e x y u v A hn hu hx hy rx ry
    by_cases h0 : D.dep d ≤ n
    · exact ih h0 (by omega) hx hy rx ry
    have hu' : A.units < cLine := by omega
    cases d with
    | lst ds =>
      simp only [Has] at hx
      obtain ⟨a, xs, rfl, q, r⟩ := hx
      cases rx
      have hd : D.deps ds ≤ n := by simp only [D.dep] at hn; omega
      cases e with
      | lst es =>
        simp only [Has] at hy
        obtain ⟨b, ys, rfl, q', r'⟩ := hy
        cases ry
        simp only [D.beq]
        by_cases hab : a = b
        · subst hab
          have e := I.list_inj q q'
          subst e
          rw [HasL.inj I r r']
          exact EqAt.same _
        · exact EqAt.of_refs hab (rc_lists I q r q' r' hu' fun j d e x y u v hd' he' hdx hey ru rv => ih (Nat.le_trans (getElem?_deps hd') hd) (by show A.units + 1 + n < cLine; omega) hdx hey ru rv)
      | tup es =>
        simp only [Has] at hy
        obtain ⟨b, ys, rfl, q', _⟩ := hy
        cases ry
        obtain ⟨us, _, p, _⟩ := I.list q
        obtain ⟨vs, _, p', _⟩ := I.tuple q'
        simp only [D.beq]
        exact EqAt.list_tuple p.isList p' hu'
      | non => simp only [Has] at hy; subst hy; cases ry; obtain ⟨us, _, p, _⟩ := I.list q; simp only [D.beq]; exact EqAt.list_none p.isList hu'
      | bl k => simp only [Has] at hy; subst hy; cases ry; obtain ⟨us, _, p, _⟩ := I.list q; simp only [D.beq]; exact EqAt.list_bool _ p.isList hu'
      | int k => simp only [Has] at hy; subst hy; obtain ⟨t', rfl⟩ := ry; obtain ⟨us, _, p, _⟩ := I.list q; simp only [D.beq]; exact EqAt.list_int _ _ p.isList hu'
      | str k => simp only [Has] at hy; subst hy; obtain ⟨t', rfl⟩ := ry; obtain ⟨us, _, p, _⟩ := I.list q; simp only [D.beq]; exact EqAt.list_str _ _ p.isList hu'
    | tup ds =>
      simp only [Has] at hx
      obtain ⟨a, xs, rfl, q, r⟩ := hx
      cases rx
      have hd : D.deps ds ≤ n := by simp only [D.dep] at hn; omega
      cases e with
      | tup es =>
        simp only [Has] at hy
        obtain ⟨b, ys, rfl, q', r'⟩ := hy
        cases ry
        simp only [D.beq]
        by_cases hab : a = b
        · subst hab
          have e := I.tuple_inj q q'
          subst e
          rw [HasL.inj I r r']
          exact EqAt.same _
        · exact EqAt.of_refs hab (rc_tups I q r q' r' hu' fun j d e x y u v hd' he' hdx hey ru rv => ih (Nat.le_trans (getElem?_deps hd') hd) (by show A.units + 1 + n < cLine; omega) hdx hey ru rv)
      | lst es =>
        simp only [Has] at hy
        obtain ⟨b, ys, rfl, q', _⟩ := hy
        cases ry
        obtain ⟨us, _, p, _⟩ := I.tuple q
        obtain ⟨vs, _, p', _⟩ := I.list q'
        simp only [D.beq]
        exact EqAt.tuple_list p p'.isList hu'
      | non => simp only [Has] at hy; subst hy; cases ry; obtain ⟨us, _, p, _⟩ := I.tuple q; simp only [D.beq]; exact EqAt.tuple_none p hu'
      | bl k => simp only [Has] at hy; subst hy; cases ry; obtain ⟨us, _, p, _⟩ := I.tuple q; simp only [D.beq]; exact EqAt.tuple_bool _ p hu'
      | int k => simp only [Has] at hy; subst hy; obtain ⟨t', rfl⟩ := ry; obtain ⟨us, _, p, _⟩ := I.tuple q; simp only [D.beq]; exact EqAt.tuple_int _ _ p hu'
      | str k => simp only [Has] at hy; subst hy; obtain ⟨t', rfl⟩ := ry; obtain ⟨us, _, p, _⟩ := I.tuple q; simp only [D.beq]; exact EqAt.tuple_str _ _ p hu'
    | _ => exact absurd (Nat.zero_le n) h0
end
end L2
namespace L2
open PySem PySem.Spec PyProof.Rows PySem.SeqAt
/-- x = [.. for ..], x a plain local: stored ahead of the block's names being let go -/
theorem ps_setComp {X : Cx} {i : Nat} {x : Str} {px pos' : Pos} {tg iter elt : Expr} {ifs : List Expr} {scope : Scope} {pos : Pos} {N' : List Str} {cap : List (Nat × Nat)} {wi : TI} {g : TG} {tc : TT} {te : TE} (hN : X.N.Nodup) (hxi : X.N[i]? = some x) (hx : Loc X.env.scope x) (hf : X.fn x = true ∨ X.env.scope.names.lookup x = some .local)
    (hsw : swapsWith (.ListComp elt [⟨tg, iter, ifs, 0⟩] scope pos) (some (.Name x px)) pos'.line X.env = pure true) (S : CompScope X scope N' cap) (hc : X.calm = true) (hs : ∀ x, foldedSetIterable iter X.env x = pure x) (hi : PI X tg iter wi)
    (hg : ∀ s₃ H₃ fp, PG (compCx X scope N' s₃ H₃ fp) tg g) (ht : ∀ s₃ H₃ fp, PTs (compCx X scope N' s₃ H₃ fp) ifs tc) (he : ∀ s₃ H₃ fp, PE (compCx X scope N' s₃ H₃ fp) elt te) :
    PS X (.Assign [.Name x px] (.ListComp elt [⟨tg, iter, ifs, 0⟩] scope pos) pos') (tAsg (tComp wi N'.length cap g tc te) (gName i)) := by
  intro pins s σ H D I h
  rw [arm_exec_Assign]
  refine wpAny_bind (wpAny_standAt ?_)
  show wpAny _ _ (swapsWith (.ListComp elt [⟨tg, iter, ifs, 0⟩] scope pos) (some (.Name x px)) pos'.line X.env >>= _) _ _ _
  rw [hsw]
  refine wpAny_bind (wpAny_pure ?_)
  rw [if_pos rfl, arm_evalThenUse_ListComp]
  refine wpAny_bind (wpAny_bind (comp_core (QQ := fun _ s' => wpAny (model X.prog X.w) X.A (pure ()) (fun _ s2 => wpAny (model X.prog X.w) X.A (pure Flow.next) (SP X pins D) X.xe s2) X.xe s') S hc hi hg ht he hs I h fun D' C H5 s6 fl m hn fp k q => ?_))
  have I6 : Inv X pins σ H5 s6 := k s6.heap (Heap.SameBut.refl _ _)
  obtain ⟨o, es, ep, ho, hd, hr⟩ := id hn
  have I7 : Inv X (pins ++ pinsAt [C] s6.heap) σ H5 s6 := I6.pinned (fun b hb => by rw [List.mem_singleton.mp hb]; exact fp) fun b hb => by
    rw [List.mem_singleton.mp hb]
    exact ⟨o, ho, fun v z => by rw [hd] at z; cases z⟩
  show wpAny _ _ (assignAll (.ref D') [assign (.Name x px) X.env]) _ _ _
  show wpAny _ _ (assign (.Name x px) X.env (.ref D')) _ _ _
  refine wpAny_assign_Name (store_ok I7 hN hxi hx (v := .ref D') (u := .ref D') rfl (fun s8 I8 => ?_) hf)
  have hC : s8.heap.get? C = some o := (I8.pin (C, o) (List.mem_append_right _ (List.mem_append_right _ (mem_pinsAt (List.mem_singleton.mpr rfl) ho)))).1
  refine ⟨m, ⟨o, es, ep, hC, hd, hr⟩, fun h' sb => ?_⟩
  refine wpAny_pure (wpAny_pure ⟨_, H5, ?_, q⟩)
  refine (I8.unpinned).moved (fp := [C]) (tk := s8.toks) (fun b hb => by rw [List.mem_singleton.mp hb]; exact fp) fun b o' hb e => (sb.2 b (fun z => hb (List.mem_singleton.mpr z))).trans e
/-- what swapsWith asks of the text -/
theorem swaps_yes {elt : Expr} {gens : List Comprehension} {scope : Scope} {pos px : Pos} {x : Str} {l : Nat} {env : Env} (h : (env.blockKind == .function && env.kindOf x == some .local && px.line == pos.line && !(scope.names.any fun (n, k) => n == x && (k == .local || k == .cell))) = true) :
    swapsWith (.ListComp elt gens scope pos) (some (.Name x px)) l env = pure true := by
  show (pure (env.blockKind == .function && env.kindOf x == some .local && px.line == pos.line && !(scope.names.any fun (n, k) => n == x && (k == .local || k == .cell))) : Sem Bool) = pure true
  rw [h]
theorem setCompE {X : Cx} (i : Nat) {x : Str} {px pos' : Pos} {tg iter elt : Expr} {ifs : List Expr} {scope : Scope} {pos : Pos} {N' : List Str} {cap : List (Nat × Nat)} {wi : TI} {g : TG} {tc : TT} {te : TE} (hN : X.N.Nodup) (hxi : X.N[i]? = some x) (hx : Loc X.env.scope x) (hf : X.fn x = true ∨ X.env.scope.names.lookup x = some .local)
    (hsw : (X.env.blockKind == .function && X.env.kindOf x == some .local && px.line == pos.line && !(scope.names.any fun (n, k) => n == x && (k == .local || k == .cell))) = true) (S : CompScope X scope N' cap) (hc : X.calm = true) (hs : isSetE iter = false) (hi : QI X tg iter wi)
    (hg : ∀ s₃ H₃ fp, QG (compCx X scope N' s₃ H₃ fp) tg g) (ht : ∀ s₃ H₃ fp, QTs (compCx X scope N' s₃ H₃ fp) ifs tc) (he : ∀ s₃ H₃ fp, QE (compCx X scope N' s₃ H₃ fp) elt te) :
    QS X (.Assign [.Name x px] (.ListComp elt [⟨tg, iter, ifs, 0⟩] scope pos) pos') (tAsg (tComp wi N'.length cap g tc te) (gName i)) :=
  ⟨ps_setComp hN hxi hx hf (swaps_yes hsw) S hc (folded_no hs) hi.h (fun s₃ H₃ fp => (hg s₃ H₃ fp).h) (fun s₃ H₃ fp => (ht s₃ H₃ fp).h) (fun s₃ H₃ fp => (he s₃ H₃ fp).h)⟩
section
variable {X : Cx} {pins : List (Addr × Obj)} {σ : St} {H : Hp} {s : Shared}
theorem ne_lists (I : Inv X pins σ H s) {A : Around} {ds es : List D} {xs ys : List V} {a b : Addr} (qx : SqL X.K H a xs) (hx : HasL X.K H ds xs) (qy : SqL X.K H b ys) (hy : HasL X.K H es ys) (hu : A.units < cLine)
    (ih : ∀ (j : Nat) d e x y u v, ds[j]? = some d → es[j]? = some e → Has X.K H d x → Has X.K H e y → RelV x u → RelV y v → EqAt A.in1 s u v (D.beq d e)) : RcNeAt A s (.ref a) (.ref b) (!D.beqs ds es) := by
  obtain ⟨us, rx, px, _⟩ := I.list qx
  obtain ⟨vs, ry, py, _⟩ := I.list qy
  have n1 : us.toArray.size = ds.length := by rw [List.size_toArray, ← rx.length, hx.len]
  have n2 : vs.toArray.size = es.length := by rw [List.size_toArray, ← ry.length, hy.len]
  by_cases hl : ds.length = es.length
  · rw [← D.beqs_all ds es hl, ← n1]
    exact RcNeAt.lists px.isList py.isList (by rw [n1, n2, hl]) hu (eq_items hx hy rx ry ih)
  · rw [D.beqs_len hl]
    exact RcNeAt.lists_lengths px.isList py.isList (by rw [n1, n2]; simpa using hl) hu
theorem ne_tups (I : Inv X pins σ H s) {A : Around} {ds es : List D} {xs ys : List V} {a b : Addr} (qx : SqT X.K H a xs) (hx : HasL X.K H ds xs) (qy : SqT X.K H b ys) (hy : HasL X.K H es ys) (hu : A.units < cLine)
    (ih : ∀ (j : Nat) d e x y u v, ds[j]? = some d → es[j]? = some e → Has X.K H d x → Has X.K H e y → RelV x u → RelV y v → EqAt A.in1 s u v (D.beq d e)) : RcNeAt A s (.ref a) (.ref b) (!D.beqs ds es) := by
  obtain ⟨us, rx, px, _⟩ := I.tuple qx
  obtain ⟨vs, ry, py, _⟩ := I.tuple qy
  have n1 : us.toArray.size = ds.length := by rw [List.size_toArray, ← rx.length, hx.len]
  have n2 : vs.toArray.size = es.length := by rw [List.size_toArray, ← ry.length, hy.len]
  have main := RcNeAt.tuples (A := A) (s := s) (l := a) (b := b) (items := us.toArray) (items2 := vs.toArray) px py hu (eq_items hx hy rx ry ih)
  rw [n1, n2] at main
  by_cases hl : ds.length = es.length
  · rw [← hl, Nat.min_self, D.beqs_all ds es hl] at main
    simpa using main
  · rw [D.beqs_len hl]
    have e : (ds.length == es.length) = false := by simpa using hl
    rw [e, Bool.and_false] at main
    exact main
end
section
variable {X : Cx} {K : PySem.W.Frag}
noncomputable abbrev rEqL (K : PySem.W.Frag) : R2 := fun x y H Q => ∃ ds es, Has K H (.lst ds) x ∧ Has K H (.lst es) y ∧ D.deps ds ≤ 40 ∧ Q (.bl (D.beqs ds es)) H
noncomputable abbrev rEqT (K : PySem.W.Frag) : R2 := fun x y H Q => ∃ ds es, Has K H (.tup ds) x ∧ Has K H (.tup es) y ∧ D.deps ds ≤ 40 ∧ Q (.bl (D.beqs ds es)) H
noncomputable abbrev rNeL (K : PySem.W.Frag) : R2 := fun x y H Q => ∃ ds es, Has K H (.lst ds) x ∧ Has K H (.lst es) y ∧ D.deps ds ≤ 40 ∧ Q (.bl (!D.beqs ds es)) H
noncomputable abbrev rNeT (K : PySem.W.Frag) : R2 := fun x y H Q => ∃ ds es, Has K H (.tup ds) x ∧ Has K H (.tup es) y ∧ D.deps ds ≤ 40 ∧ Q (.bl (!D.beqs ds es)) H
theorem op_eqL (hu : X.A.units + 64 < cLine) : OpR X (compareOp .Eq) (rEqL X.K) := by
  intro pins s σ H x y v u Q I rx ry h
  obtain ⟨ds, es, hx, hy, hd, q⟩ := h
  simp only [Has] at hx hy
  obtain ⟨a, xs, rfl, qx, hx⟩ := hx
  obtain ⟨b, ys, rfl, qy, hy⟩ := hy
  cases rx; cases ry
  exact rc_lists I qx hx qy hy (by omega) (fun j d e x y u v hd' he' hdx hey ru rv => eqAt_has I 40 (Nat.le_trans (getElem?_deps hd') hd) (by show X.A.units + 1 + 40 < cLine; omega) hdx hey ru rv) _ _ _ _ ⟨.bl _, H, I, rfl, q⟩
theorem op_eqT (hu : X.A.units + 64 < cLine) : OpR X (compareOp .Eq) (rEqT X.K) := by
  intro pins s σ H x y v u Q I rx ry h
  obtain ⟨ds, es, hx, hy, hd, q⟩ := h
  simp only [Has] at hx hy
  obtain ⟨a, xs, rfl, qx, hx⟩ := hx
  obtain ⟨b, ys, rfl, qy, hy⟩ := hy
  cases rx; cases ry
  exact rc_tups I qx hx qy hy (by omega) (fun j d e x y u v hd' he' hdx hey ru rv => eqAt_has I 40 (Nat.le_trans (getElem?_deps hd') hd) (by show X.A.units + 1 + 40 < cLine; omega) hdx hey ru rv) _ _ _ _ ⟨.bl _, H, I, rfl, q⟩
theorem op_neL (hu : X.A.units + 64 < cLine) : OpR X (compareOp .NotEq) (rNeL X.K) := by
  intro pins s σ H x y v u Q I rx ry h
  obtain ⟨ds, es, hx, hy, hd, q⟩ := h
  simp only [Has] at hx hy
  obtain ⟨a, xs, rfl, qx, hx⟩ := hx
  obtain ⟨b, ys, rfl, qy, hy⟩ := hy
  cases rx; cases ry
  exact ne_lists I qx hx qy hy (by omega) (fun j d e x y u v hd' he' hdx hey ru rv => eqAt_has I 40 (Nat.le_trans (getElem?_deps hd') hd) (by show X.A.units + 1 + 40 < cLine; omega) hdx hey ru rv) _ _ _ _ ⟨.bl _, H, I, rfl, q⟩
theorem op_neT (hu : X.A.units + 64 < cLine) : OpR X (compareOp .NotEq) (rNeT X.K) := by
  intro pins s σ H x y v u Q I rx ry h
  obtain ⟨ds, es, hx, hy, hd, q⟩ := h
  simp only [Has] at hx hy
  obtain ⟨a, xs, rfl, qx, hx⟩ := hx
  obtain ⟨b, ys, rfl, qy, hy⟩ := hy
  cases rx; cases ry
  exact ne_tups I qx hx qy hy (by omega) (fun j d e x y u v hd' he' hdx hey ru rv => eqAt_has I 40 (Nat.le_trans (getElem?_deps hd') hd) (by show X.A.units + 1 + 40 < cLine; omega) hdx hey ru rv) _ _ _ _ ⟨.bl _, H, I, rfl, q⟩
noncomputable abbrev rEqB (K : PySem.W.Frag) : R2 := fun x y H Q => rEq x y H Q ∨ (rEqL K x y H Q ∨ rEqT K x y H Q)
noncomputable abbrev rNeB (K : PySem.W.Frag) : R2 := fun x y H Q => rNe x y H Q ∨ (rNeL K x y H Q ∨ rNeT K x y H Q)
theorem q_eqB {k : Nat} (h : X.K = K) (hr : Room k X.A) : OpQ X (compareOp .Eq) (rEqB K) := by subst h; exact ⟨op_eq.or ((op_eqL hr.units).or (op_eqT hr.units))⟩
theorem q_neB {k : Nat} (h : X.K = K) (hr : Room k X.A) : OpQ X (compareOp .NotEq) (rNeB K) := by subst h; exact ⟨op_ne.or ((op_neL hr.units).or (op_neT hr.units))⟩
theorem HasL.strs {H : Hp} : ∀ (ss : List Str), HasL K H (ss.map D.str) (ss.map V.str)
  | [] => by simp only [List.map_nil, HasL]
  | z :: r => by
    simp only [List.map_cons, HasL]
    exact ⟨_, _, rfl, by simp only [Has], HasL.strs r⟩
theorem Has.strs {H : Hp} {a : Addr} {ss : List Str} (h : SqL K H a (ss.map V.str)) : Has K H (.lst (ss.map D.str)) (.ref a) := by
  simp only [Has]
  exact ⟨a, _, rfl, h, HasL.strs ss⟩
theorem deps_strs : ∀ (ss : List Str), D.deps (ss.map D.str) = 0
  | [] => rfl
  | z :: r => by simp only [List.map_cons, D.deps, D.dep, deps_strs r]; rfl
end
end L2
namespace L2
open PySem PySem.Spec PyProof.Rows

theorem slot_setit_next : Slot "set_iterator" "__next__" "set_iterator.__next__" :=
  .of (owner := "set_iterator") (n := "__next__") (by rw [typeLookup_type, builtinLookup_eq_fast]; kernel_rfl) (by decide +kernel) (by decide +kernel) (by decide +kernel) (by first | exact .inl (by decide +kernel) | exact .inr (by decide +kernel)) (by rw [isSubtype_type]; kernel_rfl)
theorem entry_setit_next : entryFor table "set_iterator.__next__" = some Builtin.«set_iterator.__next__» := entryFor_of_tree (by kernel_rfl)
theorem args_setit_next (a : Value) : argsOk "set_iterator.__next__" ⟨[a], []⟩ := by unfold argsOk; kernel_rfl
theorem entry_setIter : entryFor table "set.__iter__" = some Builtin.«frozenset.__iter__» := entryFor_alias (id' := "frozenset.__iter__") (by kernel_rfl) rfl (by decide +kernel) (by kernel_rfl)

theorem orStandIn_led (t : SetTable) (n : Nat) : (t.orStandIn n).led = t.led := by unfold SetTable.orStandIn; split <;> rfl
theorem layNew_led (t : SetTable) (es : Array (Int × Value)) (h : Int) (x : Value) : (layNew t es h x).2.1.led = t.led := by
  unfold layNew
  cases t.freeSlot h with
  | none => rfl
  | some p =>
    obtain ⟨sl, d⟩ := p
    exact orStandIn_led (t.put sl).1 _
theorem relayAll_led (t : SetTable) (es : Array (Int × Value)) (n : Nat) : (relayAll t es n).2.1.led = t.led := by
  unfold relayAll
  cases hr : t.relaid (es.map (·.1)) n with
  | none => rfl
  | some p =>
    obtain ⟨t', ord⟩ := p
    simp only
    split
    · simp only [SetTable.relaid, SetTable.laid] at hr
      cases hc : SetTable.layClean (SetTable.sizeAbove n - 1) (es.map (·.1)) with
      | none => rw [hc] at hr; cases hr
      | some ow => rw [hc] at hr; injection hr with hr; injection hr with h1 h2; rw [← h1]
    · rfl
theorem relayAll_plain (t : SetTable) (es : Array (Int × Value)) (n : Nat) (hp : t.plain = false) : (relayAll t es n).2.1.plain = false := by
  unfold relayAll
  cases hr : t.relaid (es.map (·.1)) n with
  | none => rfl
  | some p =>
    obtain ⟨t', ord⟩ := p
    simp only
    split
    · simp only [SetTable.relaid, SetTable.laid] at hr
      cases hc : SetTable.layClean (SetTable.sizeAbove n - 1) (es.map (·.1)) with
      | none => rw [hc] at hr; cases hr
      | some ow => rw [hc] at hr; injection hr with hr; injection hr with h1 h2; rw [← h1]; exact hp
    · rfl

noncomputable def byText (w : World) : Bool := w.params.followText "set-order"
noncomputable def SetS (w : World) (a : Addr) (ks : List Str) (h : Heap) : Prop :=
  ∃ o es ep t ss, h.get? a = some o ∧ o.ExactSet ∧ o.data = .set es ep t ∧ StrsAre (es.toList.map (·.2)) ss ∧ ss.Perm ks ∧ ks.Nodup ∧ (∀ e ∈ es.toList, ∃ z u, e = (hashStr w z, .str z u)) ∧ es.size < scanBound ∧ t.fits es.size = true ∧ (es.size ≠ 0 → t.plain = false) ∧ t.led = !byText w
theorem elems_str {prog : Program} {w : World} {l : List (Int × Value)} (h : ∀ e ∈ l, ∃ z u, e = (hashStr w z, .str z u)) : ElemsOf (mixKind prog w) l := fun e he => by
  obtain ⟨z, u, rfl⟩ := h e he
  exact ⟨⟨Sum.inr z, keyIs_str z u, rfl⟩, rfl⟩
theorem strsAre_mem : ∀ {vs : List Value} {ss : List Str} {z : Str}, StrsAre vs ss → ((∃ u, Value.str z u ∈ vs) ↔ z ∈ ss)
  | _, _, z, .nil => by simp
  | _, _, z, .cons x t h => by
    have ih := strsAre_mem (z := z) h
    constructor
    · rintro ⟨u, hu⟩
      rcases List.mem_cons.mp hu with e | e
      · injection e with e1 _; rw [e1]; exact List.mem_cons_self
      · exact List.mem_cons_of_mem _ (ih.mp ⟨u, e⟩)
    · intro hz
      rcases List.mem_cons.mp hz with e | e
      · rw [e]; exact ⟨t, List.mem_cons_self⟩
      · obtain ⟨u, hu⟩ := ih.mpr e
        exact ⟨u, List.mem_cons_of_mem _ hu⟩
theorem strsAre_append : ∀ {vs ws : List Value} {ss ts : List Str}, StrsAre vs ss → StrsAre ws ts → StrsAre (vs ++ ws) (ss ++ ts)
  | _, _, _, _, .nil, h => h
  | _, _, _, _, .cons x t h, h' => .cons x t (strsAre_append h h')
theorem strsAre_len : ∀ {vs : List Value} {ss : List Str}, StrsAre vs ss → vs.length = ss.length
  | _, _, .nil => rfl
  | _, _, .cons x t h => by rw [List.length_cons, List.length_cons, strsAre_len h]
/-- another order of the same values -/
theorem strsAre_perm {vs ws : List Value} {ss : List Str} (h : StrsAre vs ss) (p : ws.Perm vs) : ∃ ts, StrsAre ws ts ∧ ts.Perm ss := by
  refine ⟨ws.map strOf, strsAre_map ws fun v hv => h.all v (p.mem_iff.mp hv), ?_⟩
  have := p.map strOf
  rwa [h.strs] at this

section
variable {prog : Program} {w : World} {A : Around} {E : Value → Shared → Prop} {s : Shared} {a : Addr}
theorem SetS.stored {h : Heap} {o : Obj} {es es' : Array (Int × Value)} {ep : Nat} {t t' : SetTable} {ss ks : List Str} (ho : h.get? a = some o) (hex : o.ExactSet) (hd : o.data = .set es ep t) (h1 : StrsAre (es'.toList.map (·.2)) ss) (h2 : ss.Perm ks) (h3 : ks.Nodup)
    (h4 : ∀ e ∈ es'.toList, ∃ z u, e = (hashStr w z, .str z u)) (h5 : es'.size < scanBound) (h6 : t'.fits es'.size = true) (h7 : t'.plain = false) (h8 : t'.led = !byText w) :
    (h.update a (Obj.putSet es' t')).get? a = some { o with data := .set es' (ep + 1) t' } ∧ SetS w a ks (h.update a (Obj.putSet es' t')) := by
  have hg : (h.update a (Obj.putSet es' t')).get? a = some { o with data := .set es' (ep + 1) t' } := by
    have q := Heap.get?_update_self (Obj.putSet es' t') ho (by rw [putSet_of es' t' hd]; rfl)
    rwa [putSet_of es' t' hd] at q
  exact ⟨hg, _, es', ep + 1, t', ss, hg, hex, rfl, h1, h2, h3, h4, h5, h6, fun _ => h7, h8⟩
/-- what was laid is stored, and perhaps laid anew -/
theorem set_tail {g : Bool → Sem Unit} (hg : ∀ (b : Bool) (s₁ : Shared) (Q' : Unit → Shared → Prop), Q' () s₁ → wpAny (model prog w) A (g b) Q' E s₁) {o : Obj} {es es1 : Array (Int × Value)} {ep : Nat} {t t2 : SetTable} {ss ks : List Str} {dum : Bool} {R : Option Bool → Shared → Prop} (ho : s.heap.get? a = some o) (hex : o.ExactSet) (hd : o.data = .set es ep t)
    (h1 : StrsAre (es1.toList.map (·.2)) ss) (h2 : ss.Perm ks) (h3 : ks.Nodup) (h4 : ∀ e ∈ es1.toList, ∃ z u, e = (hashStr w z, .str z u)) (h5 : es1.size < scanBound) (h6 : t2.fits es1.size = true) (h7 : t2.plain = false) (h8 : t2.led = !byText w)
    (hR : ∀ h', Heap.SameBut a s.heap h' → SetS w a ks h' → R (some true) { s with heap := h' }) :
    wpAny (model prog w) A (do
      storeSet a es1 t2
      if (!dum && t2.tooFull) = true then do
        g (relayAll t2 es1 (SetTable.grown es1.size)).2.2
        storeSet a (relayAll t2 es1 (SetTable.grown es1.size)).1 (relayAll t2 es1 (SetTable.grown es1.size)).2.1
        pure (some true)
      else pure (some true)) R E s := by
  obtain ⟨g1, S1⟩ := SetS.stored (w := w) (es' := es1) (t' := t2) ho hex hd h1 h2 h3 h4 h5 h6 h7 h8
  have b1 := Heap.SameBut.update s.heap a (Obj.putSet es1 t2)
  refine wpAny_bind (wpAny_storeSet_of ho hd ?_ (fits_of_scanBound h5))
  split
  · have p := relayAll_perm t2 es1 (SetTable.grown es1.size)
    have f := relayAll_fits t2 es1 (SetTable.grown es1.size)
    have l := relayAll_led t2 es1 (SetTable.grown es1.size)
    have pl := relayAll_plain t2 es1 (SetTable.grown es1.size) h7
    generalize relayAll t2 es1 (SetTable.grown es1.size) = L at p f l pl ⊢
    obtain ⟨es2, t3, gv⟩ := L
    dsimp only at p f l pl ⊢
    have z : es2.size = es1.size := by rw [← Array.length_toList, p.length_eq, Array.length_toList]
    obtain ⟨ts, q1, q2⟩ := strsAre_perm h1 (p.map (·.2))
    refine wpAny_bind (hg _ _ _ (wpAny_bind (wpAny_storeSet_of (s := { s with heap := s.heap.update a (Obj.putSet es1 t2) }) g1 rfl ?_ (fits_of_scanBound (by rw [z]; exact h5)))))
    exact wpAny_pure (hR _ (b1.trans (Heap.SameBut.update _ a _)) (SetS.stored (w := w) (es' := es2) (t' := t3) g1 hex rfl q1 (q2.trans h2) h3 (fun e he => h4 e (p.mem_iff.mp he)) (by rw [z]; exact h5) f pl (l.trans h8)).2)
  · exact wpAny_pure (hR _ b1 S1)
theorem set_add_str {ks : List Str} {z : Str} {tk : Tok} {Q : Bool → Shared → Prop} (hS : SetS w a ks s.heap) (hroom : ks.length + 1 < scanBound)
    (hQ : ∀ h' b, Heap.SameBut a s.heap h' → SetS w a (if z ∈ ks then ks else ks ++ [z]) h' → Q b { s with heap := h', toks := s.toks + 1 }) : wpAny (model prog w) A (setAdd a (.str z tk)) Q E s := by
  obtain ⟨o, es, ep, t, ss, ho, hex, hd, hst, hp, hnd, hel, hb, hf, hpl, hled⟩ := hS
  have hn : es.size = ks.length := by
    have q := strsAre_len hst
    rw [List.length_map, Array.length_toList, hp.length_eq] at q
    exact q
  have hE : ElemsOf (mixKind prog w) es.toList := elems_str hel
  have hkey : (mixKind prog w).is (Sum.inr z) (.str z tk) = true := keyIs_str z tk
  unfold setAdd
  refine wpAny_holding (wpAny_bind (wpAny_pyHash_str ?_))
  unfold setAddHashed setAddHashedIn
  refine wpAny_holding (wpAny_bind (wpAny_setState_of (s := { s with toks := s.toks + 1 }) ho hd hf ?_))
  dsimp only
  rw [byScan_of (knd := mixKind prog w) rfl hb hE]
  simp only [↓reduceIte]
  unfold setAddByScan
  refine wpAny_bind (wpAny_bind (wpAny_rule (wpAny_bind (wpAny_setScan_of (knd := mixKind prog w) (k := Sum.inr z) hkey ho hd hf hE ?_))))
  have hin : (∃ e ∈ es.toList, (mixKind prog w).is (Sum.inr z) e.2 = true) ↔ z ∈ ks := by
    rw [← hp.mem_iff, ← strsAre_mem hst]
    constructor
    · rintro ⟨e, he, q⟩
      obtain ⟨y, u, rfl⟩ := hel e he
      have q : keyIs (Sum.inr z) (Value.str y u) = true := q
      rcases keyIs_shape q with ⟨i, t', q1, q2⟩ | ⟨y', t', q1, q2⟩
      · cases q2
      · cases q1
        exact ⟨u, List.mem_map.mpr ⟨_, he, by injection q2 with e1 _; rw [e1]⟩⟩
    · rintro ⟨u, hu⟩
      obtain ⟨e, he, q⟩ := List.mem_map.mp hu
      exact ⟨e, he, by rw [q]; exact keyIs_str z u⟩
  cases hr : List.findIdx? (fun e => (mixKind prog w).is (Sum.inr z) e.2) es.toList with
  | some j =>
    obtain ⟨hj, hpj, _⟩ := List.findIdx?_eq_some_iff_getElem.mp hr
    have hz : z ∈ ks := hin.mp ⟨es.toList[j], List.getElem_mem hj, hpj⟩
    dsimp only
    have q := hQ s.heap false (Heap.SameBut.refl a s.heap) (by rw [if_pos hz]; exact ⟨o, es, ep, t, ss, ho, hex, hd, hst, hp, hnd, hel, hb, hf, hpl, hled⟩)
    exact wpAny_pure (wpAny_pure q)
  | none =>
    have hz : z ∉ ks := fun q => by
      obtain ⟨e, he, q2⟩ := hin.mpr q
      have := List.findIdx?_eq_none_iff.mp hr e he
      rw [q2] at this
      cases this
    rw [if_neg hz] at hQ
    dsimp only
    have lp := layNew_perm t es (hashStr w z) (.str z tk)
    have lf := layNew_fits t es (hashStr w z) (.str z tk)
    have ll := layNew_led t es (hashStr w z) (.str z tk)
    generalize hL : layNew t es (hashStr w z) (.str z tk) = L at lp lf ll
    obtain ⟨es1, t1, dum, gave⟩ := L
    dsimp only at lp lf ll ⊢
    rw [Array.toList_push] at lp
    have gone : ∀ (b : Bool) (s₁ : Shared) (Q' : Unit → Shared → Prop), Q' () s₁ → wpAny (model prog w) A (match b with | true => rule "set.scan.the-table-gave-way" | false => pure ()) Q' E s₁ := fun b s₁ Q' q => by
      cases b
      · exact wpAny_pure q
      · exact wpAny_rule q
    have hel1 : ∀ e ∈ es1.toList, ∃ z u, e = (hashStr w z, .str z u) := fun e he => by
      rcases List.mem_append.mp (lp.mem_iff.mp he) with q | q
      · exact hel e q
      · rw [List.mem_singleton.mp q]; exact ⟨z, tk, rfl⟩
    have q1 : StrsAre ((es.toList ++ [(hashStr w z, Value.str z tk)]).map (·.2)) (ss ++ [z]) := by
      rw [List.map_append]
      exact strsAre_append hst (.cons z tk .nil)
    obtain ⟨ts, q2, q3⟩ := strsAre_perm q1 (lp.map (·.2))
    have hp1 : ts.Perm (ks ++ [z]) := q3.trans (hp.append_right _)
    have hnd1 : (ks ++ [z]).Nodup := nd_snoc hnd hz
    have hz1 : es1.size = es.size + 1 := by rw [← Array.length_toList, lp.length_eq, List.length_append, Array.length_toList]; rfl
    have hb1 : es1.size < scanBound := by rw [hz1, hn]; exact hroom
    have fin : ∀ h', Heap.SameBut a s.heap h' → SetS w a (ks ++ [z]) h' → wpAny (model prog w) A (pure true) Q E { s with heap := h', toks := s.toks + 1 } := fun h' sb S' => wpAny_pure (hQ h' true sb S')
    refine wpAny_bind (gone _ _ _ ?_)
    cases hpl1 : t1.plain with
    | true =>
      simp only [↓reduceIte]
      refine wpAny_bind ?_
      rw [show hashByValue 8 (Value.str z tk) = pure false from rfl]
      refine wpAny_pure ?_
      simp only [Bool.false_eq_true, ↓reduceIte]
      exact set_tail (s := { s with toks := s.toks + 1 }) gone ho hex hd q2 hp1 hnd1 hel1 hb1 (SetTable.fits_plain_off lf) rfl (ll.trans hled) fun h' sb S' => fin h' sb S'
    | false =>
      simp only [Bool.false_eq_true, ↓reduceIte]
      refine wpAny_bind (wpAny_pure ?_)
      simp only [↓reduceIte]
      exact set_tail (s := { s with toks := s.toks + 1 }) gone ho hex hd q2 hp1 hnd1 hel1 hb1 lf hpl1 (ll.trans hled) fun h' sb S' => fin h' sb S'
end
end L2
namespace L2
open PySem PySem.Spec PyProof.Rows
noncomputable def addS (ks : List Str) (z : Str) : List Str := if z ∈ ks then ks else ks ++ [z]
noncomputable def firstsOf (ss : List Str) : List Str := ss.foldl addS []
theorem addS_len (ks : List Str) (z : Str) : (addS ks z).length ≤ ks.length + 1 := by
  unfold addS; split
  · omega
  · rw [List.length_append]; exact Nat.le_refl _
theorem addS_mem {ks : List Str} {z y : Str} : y ∈ addS ks z ↔ y ∈ ks ∨ y = z := by
  unfold addS
  by_cases h : z ∈ ks
  · rw [if_pos h]
    exact ⟨.inl, fun q => q.elim id fun e => e ▸ h⟩
  · rw [if_neg h, List.mem_append, List.mem_singleton]
theorem addS_nodup {ks : List Str} {z : Str} (h : ks.Nodup) : (addS ks z).Nodup := by
  unfold addS
  by_cases hz : z ∈ ks
  · rw [if_pos hz]; exact h
  · rw [if_neg hz]; exact nd_snoc h hz
theorem fold_mem : ∀ {ss ks : List Str} {y : Str}, y ∈ ss.foldl addS ks ↔ y ∈ ks ∨ y ∈ ss
  | [], ks, y => by simp
  | z :: r, ks, y => by
    rw [List.foldl_cons, fold_mem, addS_mem, List.mem_cons]
    exact ⟨fun h => h.elim (fun h => h.elim .inl fun e => .inr (.inl e)) fun h => .inr (.inr h), fun h => h.elim (fun h => .inl (.inl h)) fun h => h.elim (fun e => .inl (.inr e)) .inr⟩
theorem fold_nodup : ∀ {ss ks : List Str}, ks.Nodup → (ss.foldl addS ks).Nodup
  | [], _, h => h
  | z :: r, ks, h => by
    rw [List.foldl_cons]
    exact fold_nodup (addS_nodup h)
theorem firstsOf_mem {ss : List Str} {y : Str} : y ∈ firstsOf ss ↔ y ∈ ss := by unfold firstsOf; rw [fold_mem]; simp
theorem firstsOf_nodup (ss : List Str) : (firstsOf ss).Nodup := fold_nodup List.nodup_nil
theorem fold_len : ∀ (ss ks : List Str), (ss.foldl addS ks).length ≤ ks.length + ss.length
  | [], ks => by simp
  | z :: r, ks => by
    have h1 := fold_len r (addS ks z)
    have h2 := addS_len ks z
    rw [List.foldl_cons, List.length_cons]
    omega
theorem SetS.keep {w : World} {a : Addr} {ks : List Str} {h h' : Heap} (S : SetS w a ks h) (k : ∀ o, h.get? a = some o → h'.get? a = some o) : SetS w a ks h' := by
  obtain ⟨o, es, ep, t, ss, ho, r⟩ := S
  exact ⟨o, es, ep, t, ss, k o ho, r⟩
theorem firsts_succ (val : Nat → Str) (i : Nat) : firstsOf ((List.range (i + 1)).map val) = addS (firstsOf ((List.range i).map val)) (val i) := by
  unfold firstsOf
  rw [List.range_succ, List.map_append, List.foldl_append]
  rfl
section
variable {prog : Program} {w : World} {A : Around} {R : Result → Shared → Prop} {I : Addr} {fp wr : List Addr} {G : Array GenState → Array GenState → Prop} {n : Nat} {P : Nat → Value → Prop} {St : Nat → Shared → Prop}
theorem set_loop_strs (W : WalksS prog w A.in1 I fp wr G n P St) (S : Addr) (hSf : S ∉ fp) (val : Nat → Str) (hval : ∀ i v, P i v → ∃ t, v = .str (val i) t) (hb : n + 1 < scanBound) :
    ∀ (k i : Nat) (s : Shared), n - i = k → i ≤ n → St i s → SetS w S (firstsOf ((List.range i).map val)) s.heap →
      (∀ s', Moved (S :: wr) G s s' → SetS w S (firstsOf ((List.range n).map val)) s'.heap → R (.ok (.ret .none)) s') → codeAny (model prog w) A (.builtin "set.update.loop" ⟨[.ref S, .ref I], []⟩) R s := by
  have out : S ∉ wr := fun h => hSf (W.sub _ h)
  have more : ∀ b ∈ wr, b ∈ S :: wr := fun b hb => List.mem_cons_of_mem _ hb
  intro k
  induction k with
  | zero =>
    intro i s hk hi st hS fin
    have e : i = n := by omega
    subst e
    refine codeAny_builtin F.entry_set_update_loop ?_
    rw [Around.under_plainId F.plain_set_update_loop _]
    show wpAny _ A.in1 (pyNext (.ref I) >>= _) _ _ s
    refine wpAny_bind (W.done s _ _ st fun s1 m1 => ?_)
    show wpAny _ A.in1 (ret Value.none) _ _ s1
    exact wpAny_pure (fin s1 (m1.mono more) (hS.keep fun o e => m1.heap S o out e))
  | succ k ih =>
    intro i s hk hi st hS fin
    have lt : i < n := by omega
    refine codeAny_builtin F.entry_set_update_loop ?_
    rw [Around.under_plainId F.plain_set_update_loop _]
    show wpAny _ A.in1 (pyNext (.ref I) >>= _) _ _ s
    refine wpAny_bind (W.item i s _ _ lt st fun v s1 pv st1 m1 => ?_)
    obtain ⟨t, rfl⟩ := hval i v pv
    have hS1 := hS.keep (h' := s1.heap) fun o e => m1.heap S o out e
    have room : (firstsOf ((List.range i).map val)).length + 1 < scanBound := by
      have q := fold_len ((List.range i).map val) []
      rw [List.length_map, List.length_range] at q
      unfold firstsOf
      simp only [List.length_nil, Nat.zero_add] at q
      omega
    show wpAny _ A.in1 (holding [Value.str (val i) t] (setAdd S (.str (val i) t)) >>= _) _ _ s1
    refine wpAny_bind (wpAny_holding (set_add_str hS1 room fun h2 b sb hS2 => ?_))
    have hS2' : SetS w S (firstsOf ((List.range (i + 1)).map val)) h2 := by rw [firsts_succ]; exact hS2
    refine wpAny_pure ⟨plainId_quiet F.plain_set_update_loop _, ih (i + 1) _ (by omega) lt (W.frame _ s1 _ _ st1 (Nat.le_succ _) fun b hb o e => ?_) hS2' fun s3 m3 hS3 => ?_⟩
    · rw [sb.2 b (fun q : b = S => hSf (q ▸ hb))]; exact e
    · refine fin s3 (Moved.trans W.gtrans ((m1.mono more).then_heap (Nat.le_succ _) fun b o hb e => ?_) m3) hS3
      rw [sb.2 b (fun q : b = S => hb (by rw [q]; exact List.mem_cons_self))]; exact e
end
section
variable {prog : Program} {w : World} {A : Around} {E : Value → Shared → Prop} {s : Shared}
/-- a new set's object -/
noncomputable abbrev newSetO (w : World) : Obj := { cls := .type "set", dict := none, data := .set #[] 0 (.fresh 0 0 (!byText w)) }
theorem set_new1 (a : Value) {Q₁ : Value → Shared → Prop} (h : Q₁ (.ref s.heap.objs.size) { s with heap := s.heap.push (newSetO w) }) :
    codeAny (model prog w) A (.call (.builtin "set.__new__") ⟨[.type "set", a], []⟩) (wants Q₁ E) s := by
  refine codeAny_of_tree ?_
  show wpAny _ A.in1 (checkBuiltinCall "set.__new__" ⟨[.type "set", a], []⟩ >>= fun _ => again (.builtin "set.__new__" ⟨[.type "set", a], []⟩)) _ _ s
  refine wpAny_bind (wpAny_of_eq (PySem.F.newCall_set_1 a) (wpAny_pure ⟨plainId_quiet PySem.F.plain_set_new _, codeAny_builtin PySem.F.entry_set_new ?_⟩))
  rw [Around.under_plainId PySem.F.plain_set_new _]
  unfold Builtin.«set.__new__» Builtin.Frozenset.newClass
  have su := sub_set_self
  obtain ⟨hp, g, d, tk, os⟩ := s
  dsimp only
  wp_walk
  refine wpAny_askSetting (wpAny_pure ?_)
  dsimp only
  simp only [newObj]
  exact wpAny_bind (wpAny_alloc (wpAny_pure (wpAny_pure h)))
theorem SetS.empty {h : Heap} {a : Addr} (e : h.get? a = some (newSetO w)) : SetS w a [] h :=
  ⟨_, #[], 0, _, [], e, ⟨rfl, rfl, rfl⟩, rfl, .nil, .nil, List.nodup_nil, fun e he => by simp at he, by decide, rfl, fun q => absurd rfl q, rfl⟩
theorem strs_val : ∀ {vs : List Value} {ss : List Str}, StrsAre vs ss → ∀ (i : Nat) (v : Value), vs[i]? = some v → ∃ t, v = .str (ss.getD i (Str.ofString "")) t
  | _, _, .nil, i, v, h => by simp at h
  | _, _, .cons x t hr, 0, v, h => by simp at h; exact ⟨t, by rw [← h]; rfl⟩
  | _, _, .cons x t hr, i + 1, v, h => by
    obtain ⟨u, e⟩ := strs_val hr i v (by simpa using h)
    exact ⟨u, by rw [e]; rfl⟩
theorem range_getD (ss : List Str) : (List.range ss.length).map (fun i => ss.getD i (Str.ofString "")) = ss := by
  apply List.ext_getElem
  · simp
  · intro i h1 h2
    simp [List.getD_eq_getElem?_getD, h2]
set_option maxHeartbeats 4000000 in
theorem call_set_strs {l : Addr} {items : Array Value} {ss : List Str} {Q : Value → Shared → Prop} (hh : A.handled = none) (hl : s.heap.IsList l items) (hi : StrsAre items.toList ss) (hb : items.size + 1 < scanBound)
    (hQ : ∀ (h' : Heap) (tk : Nat), SetS w s.heap.objs.size (firstsOf ss) h' → (∀ b o, s.heap.get? b = some o → h'.get? b = some o) → Q (.ref s.heap.objs.size) { s with heap := h', toks := tk }) :
    wpAny (model prog w) A (call (.type "set") [.ref l]) Q E s := by
  obtain ⟨c, tl, hmro⟩ := PySem.F.called_set.mro
  have hmade := PySem.F.called_set.made
  have hsub := PySem.F.called_set.sub
  refine wpAny_call (codeAny_of_tree ?_)
  show wpAny _ _ (callAny (.type "set") _) _ _ _
  refine wpAny_pure ⟨Code.quiet_builtin _ (by decide +kernel), codeAny_builtin F.entry_type_call ?_⟩
  rw [Around.under_plain (weight_type_call_type "set" [.ref l] []) rfl]
  have ht1 := PySem.F.called_set.notType
  have ht2 := PySem.F.called_set.canCreate
  have ht3 := PySem.F.typeCall_set_1 (.ref l)
  repeat any_goals first | assumption | wp_step
  refine codeAny_mono (set_new1 (.ref l) (E := E) (Q₁ := fun obj s₁ => obj = .ref s.heap.objs.size ∧ s₁ = { s with heap := s.heap.push (newSetO w) }) ⟨rfl, rfl⟩) fun r s₁ hr => ?_
  cases r with
  | error e => exact hr
  | ok fl =>
    cases fl with
    | ret obj =>
      obtain ⟨rfl, rfl⟩ := hr
      have gS : (s.heap.push (newSetO w)).get? s.heap.objs.size = some (newSetO w) := Heap.get?_push_size _ rfl
      have tS : Shared.TypeIs { s with heap := s.heap.push (newSetO w) } (.ref s.heap.objs.size) "set" := ⟨_, gS, rfl⟩
      have hli := PySem.F.called_set.init.lookup
      have hbi := PySem.F.called_set.init.bind (.ref s.heap.objs.size)
      repeat any_goals first | assumption | wp_step
      refine codeAny_mono (codeAny_call_builtin (R := wants (fun r s₂ => r = .none ∧ ∃ h' tk, s₂ = { s with heap := h', toks := tk } ∧ SetS w s.heap.objs.size (firstsOf ss) h' ∧ (∀ b o, s.heap.get? b = some o → h'.get? b = some o)) E) PySem.F.called_set.init.plain F.entry_set_init (check_set_init_1 tS ?_)) fun r₂ s₂ hr₂ => ?_
      · obtain ⟨ol, gl, cl, nl, dl⟩ := hl
        obtain ⟨ocls, odict, odata, oslots⟩ := ol
        simp only at cl dl
        subst cl; subst dl
        have gl' : (s.heap.push (newSetO w)).get? l = some { cls := .type "list", dict := odict, data := .seq items nl, slots := oslots } := Heap.get?_push_of_some _ gl
        have no1 := PySem.F.sub_list_set
        have no2 := PySem.F.sub_list_frozenset
        have no3 : (Value.type "list" == Value.type "dict") = false := by decide
        have isl : (s.heap.push (newSetO w)).IsList l items := ⟨_, gl', rfl, nl, rfl⟩
        unfold Builtin.«set.__init__»
        unfold noKeywords
        unfold Builtin.Frozenset.updateFrom
        generalize hPI : pyIter = PI
        wp_walk
        subst hPI
        refine wpAny_pyIter_list isl (wpAny_bind (wpAny_runValue ?_))
        have llt : l < s.heap.objs.size := Heap.lt_size gl
        have h3 : A.in1.in1.in1.handled = none := by simp [hh]
        have nz : (s.heap.push (newSetO w)).objs.size = s.heap.objs.size + 1 := Heap.size_push ..
        have ne1 : l ≠ (s.heap.push (newSetO w)).objs.size := by rw [nz]; exact Nat.ne_of_lt (Nat.lt_succ_of_lt llt)
        have ne2 : s.heap.objs.size ∉ [(s.heap.push (newSetO w)).objs.size, l] := by
          rw [nz]
          simp only [List.mem_cons, List.not_mem_nil, or_false, not_or]
          exact ⟨Nat.ne_of_lt (Nat.lt_succ_self _), Nat.ne_of_gt llt⟩
        have hlen : items.size = ss.length := by rw [← Array.length_toList]; exact strsAre_len hi
        refine set_loop_strs ((Walks.list h3 _ l ne1 items).toS) s.heap.objs.size ne2 (fun i => ss.getD i (Str.ofString "")) (fun i v hv => strs_val hi i v (by rw [Array.getElem?_toList]; exact hv)) hb (items.size - 0) 0 _ (by omega) (Nat.zero_le _)
          ⟨⟨_, Heap.get?_push_size _ rfl, rfl, rfl⟩, isl.push _⟩ (SetS.empty (Heap.get?_push_of_some _ gS)) ?_
        intro s3 m3 S3
        rw [hlen, range_getD] at S3
        obtain ⟨h', g', d', tk', os'⟩ := s3
        have eg : g' = s.gens := m3.gens
        have ed : d' = s.drawn := m3.drawn
        have eo : os' = s.os := m3.os
        subst eg; subst ed; subst eo
        refine wpAny_pure ?_
        show wpAny _ _ (ret Value.none) _ _ _
        refine wpAny_pure ⟨rfl, h', tk', rfl, S3, fun b o e => ?_⟩
        have blt := Heap.lt_size e
        refine m3.heap b o ?_ (Heap.get?_push_of_some _ (Heap.get?_push_of_some _ e))
        simp only [List.mem_cons, List.not_mem_nil, or_false, not_or, nz]
        exact ⟨Nat.ne_of_lt blt, Nat.ne_of_lt (Nat.lt_succ_of_lt blt)⟩
      · cases r₂ with
        | error e => exact hr₂
        | ok fl₂ =>
          cases fl₂ with
          | ret r =>
            obtain ⟨rfl, h', tk, rfl, S3, k3⟩ := hr₂
            repeat any_goals first | assumption | wp_step
            exact hQ _ _ S3 k3
          | _ => exact hr₂.elim
    | _ => exact hr.elim
end
section
variable {X : Cx} {K : PySem.W.Frag}
/-- a set of texts, as a thing of the heap -/
noncomputable def SetO (w : World) (a : Addr) (ks : List Str) : HO := .ext (SetS w a ks)
theorem call_set (hc : X.calm = true) : CallR X (.type "set") (fun xs H Q => ∃ p ss, xs = [.ref p] ∧ SqL X.K H p (ss.map V.str) ∧ ss.length ≤ 4000 ∧ ∀ l, H l = none → Q (.ref l) (upd H l (SetO X.w l (firstsOf ss)))) := by
  intro pins s σ H xs us Q I r h
  obtain ⟨p, ss, rfl, hq, hl, q⟩ := h
  obtain ⟨u, rfl, ru⟩ := vals1 r
  cases ru
  obtain ⟨its, rv, pl, hz⟩ := I.list hq
  have hst := strsAre_of rv
  have hn : its.toArray.size = ss.length := by rw [List.size_toArray]; exact strsAre_len hst
  refine call_set_strs (I.ok.hd hc) pl.isList (ss := ss) (by simpa using hst) (by rw [hn]; show ss.length + 1 < 4096; omega) fun h' tk S k => ?_
  refine ⟨.ref s.heap.objs.size, _, I.laid (o := SetO X.w s.heap.objs.size (firstsOf ss)) (t' := tk) k (Nat.le_refl _) ⟨S, ?_, fun h1 h2 S1 k1 => S1.keep k1⟩, rfl, q _ I.fresh⟩
  obtain ⟨o, _, _, _, _, ho, _⟩ := S
  exact ⟨o, ho⟩
theorem k_set (h : X.K = K) (hw : X.w = w) (hc : X.calm = true) : CallQ X (.type "set") (fun xs H Q => ∃ p ss, xs = [.ref p] ∧ SqL K H p (ss.map V.str) ∧ ss.length ≤ 4000 ∧ ∀ l, H l = none → Q (.ref l) (upd H l (SetO w l (firstsOf ss)))) := by subst h; subst hw; exact ⟨call_set hc⟩
end
end L2
namespace L2
open PySem PySem.Spec PyProof.Rows
theorem erase_perm {α : Type} : ∀ {xs : List α} {i : Nat} (h : i < xs.length), (xs[i] :: xs.eraseIdx i).Perm xs
  | x :: r, 0, _ => by simp
  | x :: r, i + 1, h => by
    have ih := erase_perm (xs := r) (i := i) (by simpa using h)
    simp only [List.getElem_cons_succ, List.eraseIdx_cons_succ]
    exact (List.Perm.swap _ _ _).trans (.cons _ ih)
section
variable {prog : Program} {w : World} {A : Around} {E : Value → Shared → Prop} {s : Shared}
theorem choose_ok {src : Source} {n : Nat} {Q : Nat → Shared → Prop} (hn : n ≠ 0) (h : ∀ i d, i < n → Q i { s with drawn := d }) : wpAny (model prog w) A (choose src n) Q E s := by
  intro Γ p _
  show Sem.wp _ _ (.choose src n .pure) _ _ _ _
  rw [Sem.wp_choose]
  exact ⟨hn, h _ _ (Nat.mod_lt _ (Nat.pos_of_ne_zero hn))⟩
theorem draw_ok {α : Type} : ∀ (n : Nat) (xs : List α) (s : Shared) (Q : List α → Shared → Prop), xs.length ≤ n → (∀ ys d, ys.Perm xs → Q ys { s with drawn := d }) → wpAny (model prog w) A (drawOrder n xs) Q E s
  | 0, xs, s, Q, hn, h => by
    have e : xs = [] := List.length_eq_zero_iff.mp (Nat.le_zero.mp hn)
    subst e
    exact wpAny_pure (h [] s.drawn .nil)
  | n + 1, [], s, Q, hn, h => wpAny_pure (h [] s.drawn .nil)
  | n + 1, x :: r, s, Q, hn, h => by
    unfold drawOrder
    refine wpAny_bind (choose_ok (by simp) fun i d hi => ?_)
    have e : (x :: r)[i]? = some ((x :: r)[i]) := List.getElem?_eq_getElem hi
    rw [e]
    have l : ((x :: r).eraseIdx i).length ≤ n := by rw [List.length_eraseIdx]; simp only [hi, ↓reduceIte]; simp only [List.length_cons] at hn ⊢; omega
    refine wpAny_bind (draw_ok n ((x :: r).eraseIdx i) _ _ l fun ys d2 p => wpAny_pure (h _ d2 ?_))
    exact (List.Perm.cons _ p).trans (erase_perm hi)
end
theorem pick_go {α : Type} (next : Nat → Nat) : ∀ (fuel k : Nat) (left : List α) (out : Array α), left.length ≤ fuel → (pickOrder.go next fuel k left out).toList.Perm (out.toList ++ left)
  | 0, k, left, out, h => by
    have e : left = [] := List.length_eq_zero_iff.mp (Nat.le_zero.mp h)
    subst e
    rw [List.append_nil]
    exact .refl _
  | fuel + 1, k, [], out, h => by
    unfold pickOrder.go
    simp
  | fuel + 1, k, x :: r, out, h => by
    unfold pickOrder.go
    have hi : next k % (x :: r).length < (x :: r).length := Nat.mod_lt _ (by simp)
    rw [List.getElem?_eq_getElem hi]
    have l : ((x :: r).eraseIdx (next k % (x :: r).length)).length ≤ fuel := by rw [List.length_eraseIdx]; simp only [hi, ↓reduceIte]; simp only [List.length_cons] at h ⊢; omega
    refine (pick_go next fuel (k + 1) _ _ l).trans ?_
    rw [Array.toList_push, List.append_assoc]
    exact (List.Perm.refl _).append (erase_perm hi)
theorem pick_perm {α : Type} (next : Nat → Nat) (xs : Array α) : (pickOrder next xs).toList.Perm xs.toList := by
  have := pick_go next xs.size 0 xs.toList #[] (by simp)
  simpa [pickOrder] using this
theorem below_one (p j : Nat) : SetTable.below #[p] j = if p < j then 1 else 0 := by
  unfold SetTable.below
  simp only [List.size_toArray, List.length_cons, List.length_nil, Nat.zero_add]
  unfold SetTable.below.go
  simp
  split <;> (unfold SetTable.below.go; rfl)
theorem below_none (j : Nat) : SetTable.below #[] j = 0 := rfl

theorem array_one {α : Type} {xs : Array α} (h : xs.size = 1) : ∃ p, xs = #[p] := by
  obtain ⟨l⟩ := xs
  match l, h with
  | [p], _ => exact ⟨p, rfl⟩
/-- the iterator at I over the set at S, i items told of ord -/
noncomputable def SIt (w : World) (I S T : Addr) (o : Obj) (es : Array (Int × Value)) (ep : Nat) (t : SetTable) (ord : List Value) (i : Nat) (h : Heap) : Prop :=
  h.get? S = some o ∧ ∃ first, h.get? I = some { cls := .type "set_iterator", dict := none, data := .fields #[first, rawInt i, .ref S, rawInt es.size, rawInt ep], slots := #[] } ∧
    ((byText w = true ∧ first = rawInt 0 ∧ ord = (pickOrder (w.params.setOrder S ep) es).toList.map (·.2)) ∨
     (byText w = false ∧ first = .ref T ∧ T ≠ I ∧ ∃ ps : List Nat, h.get? T = some { cls := .type "tuple", data := .seq (ps.map fun (i : Nat) => rawInt i).toArray } ∧ ps.length = ord.length ∧ ∀ (j p : Nat), ps[j]? = some p → ∃ e, es[p]? = some e ∧ ord[j]? = some e.2) ∨
     (byText w = false ∧ es.size ≤ 1 ∧ ord = es.toList.map (·.2) ∧ (i = 0 → first = rawInt 0) ∧ (i = 1 → ∃ p : Nat, t.place[0]? = some p ∧ first = rawInt (p + 1))))

theorem SIt.is {w : World} {I S T : Addr} {o : Obj} {es : Array (Int × Value)} {ep : Nat} {t : SetTable} {ord : List Value} {i : Nat} {s : Shared} (h : SIt w I S T o es ep t ord i s.heap) : s.TypeIs (.ref I) "set_iterator" := by
  obtain ⟨_, f, hI, _⟩ := h
  exact ⟨_, hI, rfl⟩
section
variable {prog : Program} {w : World} {A : Around} {E : Value → Shared → Prop} {s : Shared} {I S T : Addr} {o : Obj} {es : Array (Int × Value)} {ep : Nat} {t : SetTable} {ord : List Value}
theorem setit_item {i : Nat} {v : Value} {Q : Option Value → Shared → Prop} (hd : o.data = .set es ep t) (hf : t.fits es.size = true) (hled : t.led = !byText w) (hSI : S ≠ I) (st : SIt w I S T o es ep t ord i s.heap) (hv : ord[i]? = some v) (hn : ord.length = es.size)
    (hQ : ∀ h', SIt w I S T o es ep t ord (i + 1) h' → Heap.SameBut I s.heap h' → Q (some v) { s with heap := h' }) : wpAny (model prog w) A (pyNext (.ref I)) Q E s := by
  have hT := st.is
  obtain ⟨hS, first, hI, m⟩ := st
  unfold pyNext
  refine wpAny_bind (wpAny_attempt (wpAny_callSpecial?_slot (name := Str.ofString "__next__") hT slot_setit_next (wpAny_call_entry slot_setit_next hT entry_setit_next ?_ (args_setit_next _))))
  unfold Builtin.«set_iterator.__next__»
  refine wpAny_bind (m := slotArgs _ _ _) (wpAny_pure ?_)
  refine wpAny_bind (wpAny_fieldsOf hI rfl ?_)
  show wpAny _ _ (setEntries S >>= _) _ _ _
  refine wpAny_bind (wpAny_setEntries_of hS hd hf ?_)
  rw [if_neg (by simp)]
  rcases m with ⟨bt, rfl, eo⟩ | ⟨bt, rfl, hTI, ps, hTt, hpl, hps⟩ | ⟨bt, h1, eo, f0, f1⟩
  · show wpAny _ _ (setNext S 0 i ep >>= _) _ _ _
    refine wpAny_bind ?_
    unfold setNext
    refine wpAny_bind (wpAny_setState_of hS hd hf ?_)
    refine wpAny_bind (wpAny_bind (wpAny_askSetting (wpAny_pure ?_)))
    show wpAny _ _ (if byText w = true then _ else _) _ _ _
    rw [if_pos bt]
    dsimp only
    rw [if_neg (show ¬ ((ep != ep) = true) by simp)]
    refine wpAny_bind ?_
    unfold setWalk
    refine wpAny_bind (wpAny_setState_of hS hd hf ?_)
    refine wpAny_bind (wpAny_bind (wpAny_askSetting (wpAny_pure ?_)))
    show wpAny _ _ (if byText w = true then _ else _) _ _ _
    rw [if_pos bt]
    refine wpAny_bind (wpAny_askSetting (wpAny_pure (wpAny_pure ?_)))
    have hv' : (pickOrder (w.params.setOrder S ep) es)[i]?.map (·.2) = some v := by
      rw [eo] at hv
      simpa using hv
    cases hp : (pickOrder (w.params.setOrder S ep) es)[i]? with
    | none => rw [hp] at hv'; cases hv'
    | some e =>
      rw [hp] at hv'
      have ev : e.2 = v := by simpa using hv'
      show wpAny _ _ (match ((pickOrder (w.params.setOrder S ep) es)[i]?).map fun e => (e.2, 0) with | some (x, next) => _ | none => _) _ _ _
      rw [hp]
      show wpAny _ _ (setField (.ref I) 0 (rawInt ((0 : Nat) : Int)) >>= _) _ _ _
      refine wpAny_bind (wpAny_setField_rec hI (by simp) fun g1 hI1 sb1 => ?_)
      refine wpAny_bind (wpAny_setField_rec (s := { s with heap := g1 }) hI1 (by simp) fun g2 hI2 sb2 => ?_)
      rw [ev]
      have sb : Heap.SameBut I s.heap g2 := sb1.trans sb2
      refine wpAny_pure ⟨v, rfl, wpAny_pure (hQ g2 ⟨(sb.2 S hSI).trans hS, _, hI2, .inl ⟨bt, rfl, eo⟩⟩ sb)⟩
  · show wpAny _ _ (seqItems? (.ref T) >>= _) _ _ _
    refine wpAny_bind (wpAny_seqItems hTt rfl ?_)
    have hi : i < ord.length := (List.getElem?_eq_some_iff.mp hv).1
    have hip : i < ps.length := by omega
    obtain ⟨e, he, hoe⟩ := hps i ps[i] (by simp [hip])
    have ev : e.2 = v := by rw [hoe] at hv; exact Option.some.inj hv
    have hpl' : (ps.map fun (i : Nat) => rawInt i).toArray[(i : Int).toNat]? = some (rawInt ps[i]) := by simp [hip]
    dsimp only
    rw [hpl']
    show wpAny _ _ (setNextDrawn S ps[i] ep >>= _) _ _ _
    refine wpAny_bind ?_
    unfold setNextDrawn
    refine wpAny_bind (wpAny_setState_of hS hd hf ?_)
    dsimp only
    rw [if_neg (show ¬ ((ep != ep) = true) by simp), he]
    refine wpAny_pure ?_
    refine wpAny_bind (wpAny_setField_rec hI (by simp) fun g1 hI1 sb1 => ?_)
    rw [ev]
    exact wpAny_pure ⟨v, rfl, wpAny_pure (hQ g1 ⟨(sb1.2 S hSI).trans hS, _, hI1, .inr (.inl ⟨bt, rfl, hTI, ps, (sb1.2 T hTI).trans hTt, hpl, hps⟩)⟩ sb1)⟩
  · have hi : i < ord.length := (List.getElem?_eq_some_iff.mp hv).1
    have i0 : i = 0 := by omega
    subst i0
    have f0 := f0 rfl
    subst f0
    have e1 : es.size = 1 := by omega
    have pz : t.place.size = 1 := by
      simp only [SetTable.fits, Bool.and_eq_true, beq_iff_eq, decide_eq_true_eq] at hf
      rw [hf.1, e1]
    obtain ⟨p, hp⟩ := array_one pz
    obtain ⟨e, he⟩ : ∃ e, es[0]? = some e := ⟨es[0], by simp [e1]⟩
    have ev : e.2 = v := by
      rw [eo] at hv
      have : (es[0]?).map (·.2) = some v := by simpa using hv
      rw [he] at this
      simpa using this
    show wpAny _ _ (setNext S 0 0 ep >>= _) _ _ _
    refine wpAny_bind ?_
    unfold setNext
    refine wpAny_bind (wpAny_setState_of hS hd hf ?_)
    refine wpAny_bind (wpAny_bind (wpAny_askSetting (wpAny_pure ?_)))
    show wpAny _ _ (if byText w = true then _ else _) _ _ _
    rw [if_neg (by rw [bt]; decide)]
    dsimp only
    split
    · rename_i hdr
      change (!t.plain && decide (es.size > 1)) = true at hdr
      rw [e1] at hdr
      simp at hdr
    · refine wpAny_bind (m := (if (!t.led && !es.isEmpty) = true then unsupported "set:maker-not-led" else pure ())) ?_
      rw [hled, bt]
      refine wpAny_pure ?_
      rw [hp, below_one]
      simp only [Nat.not_lt_zero, ↓reduceIte, he]
      refine wpAny_pure ?_
      show wpAny _ _ (setField (.ref I) 0 (rawInt ((p + 1 : Nat) : Int)) >>= _) _ _ _
      refine wpAny_bind (wpAny_setField_rec hI (by simp) fun g1 hI1 sb1 => ?_)
      refine wpAny_bind (wpAny_setField_rec (s := { s with heap := g1 }) hI1 (by simp) fun g2 hI2 sb2 => ?_)
      rw [ev]
      have sb : Heap.SameBut I s.heap g2 := sb1.trans sb2
      exact wpAny_pure ⟨v, rfl, wpAny_pure (hQ g2 ⟨(sb.2 S hSI).trans hS, _, hI2, .inr (.inr ⟨bt, by omega, eo, fun q => by omega, fun _ => ⟨p, by rw [hp]; rfl, rfl⟩⟩)⟩ sb)⟩

theorem stop_raised {α : Type} {Q : α → Shared → Prop} (hh : A.handled = none) (hE : ∀ h' e, (∀ b o, s.heap.get? b = some o → h'.get? b = some o) → (∃ o, h'.get? e = some o ∧ o.cls = .type "StopIteration") → E (.ref e) { s with heap := h' }) :
    wpAny (model prog w) A (newExc (.type "StopIteration") [] >>= fun e => (raiseNew e : Sem α)) Q E s := by
  refine wpAny_bind ?_
  simp only [newExc, newTuple]
  refine wpAny_bind (wpAny_newObj_type ?_ (by size_fits))
  refine wpAny_bind (m := firstArgMember _ _) (wpAny_of_eq (a := Value.none) (by first | rfl | (simp only [firstArgMember]; rfl)) (wpAny_newObj_type ?_ (by size_fits)))
  refine wpAny_raiseNew_none hh (hE _ _ (fun b o e => Heap.get?_push_of_some _ (Heap.get?_push_of_some _ e)) ⟨_, Heap.get?_push_size _ rfl, rfl⟩)
theorem setit_end {i : Nat} {Q : Option Value → Shared → Prop} (hh : A.handled = none) (hd : o.data = .set es ep t) (hf : t.fits es.size = true) (hled : t.led = !byText w) (st : SIt w I S T o es ep t ord i s.heap) (hi : i = ord.length) (hn : ord.length = es.size)
    (hQ : ∀ h', (∀ b o, b ≠ I → s.heap.get? b = some o → h'.get? b = some o) → Q none { s with heap := h' }) : wpAny (model prog w) A (pyNext (.ref I)) Q E s := by
  have hT := st.is
  obtain ⟨hS, first, hI, m⟩ := st
  have hh1 : A.in1.handled = none := hh
  -- what the raise comes to
  have fin : ∀ (g : Heap) (Q' : Fin → Shared → Prop), Heap.SameBut I s.heap g → wpAny (model prog w) A.in1 (newExc (.type "StopIteration") [] >>= fun e => (raiseNew e : Sem Fin)) Q' (fun e s' => wpAny (model prog w) A (do
      if (← isInstance e (.type "StopIteration")) then pure none else throw e) Q E s') { s with heap := g } := fun g Q' sb => by
    refine stop_raised hh1 fun h' e k ⟨oe, he, hc⟩ => ?_
    refine wpAny_bind (wpAny_isInstance (T := "StopIteration") (b := true) ⟨oe, he, hc⟩ isSubtype_stop (wpAny_pure (hQ h' fun b o hb q => k b o ((sb.2 b hb).trans q))))
  unfold pyNext
  refine wpAny_bind (wpAny_attempt (wpAny_callSpecial?_slot (name := Str.ofString "__next__") hT slot_setit_next (wpAny_call_entry slot_setit_next hT entry_setit_next ?_ (args_setit_next _))))
  unfold Builtin.«set_iterator.__next__»
  refine wpAny_bind (m := slotArgs _ _ _) (wpAny_pure ?_)
  refine wpAny_bind (wpAny_fieldsOf hI rfl ?_)
  show wpAny _ _ (setEntries S >>= _) _ _ _
  refine wpAny_bind (wpAny_setEntries_of hS hd hf ?_)
  rw [if_neg (by simp)]
  rcases m with ⟨bt, rfl, eo⟩ | ⟨bt, rfl, hTI, ps, hTt, hpl, hps⟩ | ⟨bt, h1, eo, f0, f1⟩
  · show wpAny _ _ (setNext S 0 i ep >>= _) _ _ _
    refine wpAny_bind ?_
    unfold setNext
    refine wpAny_bind (wpAny_setState_of hS hd hf ?_)
    refine wpAny_bind (wpAny_bind (wpAny_askSetting (wpAny_pure ?_)))
    show wpAny _ _ (if byText w = true then _ else _) _ _ _
    rw [if_pos bt]
    dsimp only
    rw [if_neg (show ¬ ((ep != ep) = true) by simp)]
    refine wpAny_bind ?_
    unfold setWalk
    refine wpAny_bind (wpAny_setState_of hS hd hf ?_)
    refine wpAny_bind (wpAny_bind (wpAny_askSetting (wpAny_pure ?_)))
    show wpAny _ _ (if byText w = true then _ else _) _ _ _
    rw [if_pos bt]
    refine wpAny_bind (wpAny_askSetting (wpAny_pure (wpAny_pure ?_)))
    have hp : (pickOrder (w.params.setOrder S ep) es)[i]? = none := by
      rw [Array.getElem?_eq_none_iff, hi, eo, List.length_map, Array.length_toList]
      exact Nat.le_refl _
    show wpAny _ _ (match ((pickOrder (w.params.setOrder S ep) es)[i]?).map fun e => (e.2, 0) with | some (x, next) => _ | none => _) _ _ _
    rw [hp]
    show wpAny _ _ (setField (.ref I) 2 .none >>= _) _ _ _
    exact wpAny_bind (wpAny_setField_rec hI (by simp) fun g1 _ sb1 => fin g1 _ sb1)
  · show wpAny _ _ (seqItems? (.ref T) >>= _) _ _ _
    refine wpAny_bind (wpAny_seqItems hTt rfl ?_)
    have hpl' : (ps.map fun (i : Nat) => rawInt i).toArray[(i : Int).toNat]? = none := by simp; omega
    dsimp only
    rw [hpl']
    show wpAny _ _ (setField (.ref I) 0 (rawInt 0) >>= _) _ _ _
    refine wpAny_bind (wpAny_setField_rec hI (by simp) fun g1 hI1 sb1 => ?_)
    exact wpAny_bind (wpAny_setField_rec (s := { s with heap := g1 }) hI1 (by simp) fun g2 _ sb2 => fin g2 _ (sb1.trans sb2))
  · have done : ∀ slot : Nat, first = rawInt slot → SetTable.below t.place slot = es.size → wpAny (model prog w) A.in1 (setNext S slot i ep) (fun a s' => a = none ∧ s' = s) (fun _ _ => False) s := by
      intro slot _ hb
      unfold setNext
      refine wpAny_bind (wpAny_setState_of hS hd hf ?_)
      refine wpAny_bind (wpAny_bind (wpAny_askSetting (wpAny_pure ?_)))
      show wpAny _ _ (if byText w = true then _ else _) _ _ _
      rw [if_neg (by rw [bt]; decide)]
      dsimp only
      split
      · rename_i hdr
        change (!t.plain && decide (es.size > 1)) = true at hdr
        have : decide (es.size > 1) = false := decide_eq_false (by omega)
        rw [this, Bool.and_false] at hdr
        cases hdr
      · refine wpAny_bind (m := (if (!t.led && !es.isEmpty) = true then unsupported "set:maker-not-led" else pure ())) ?_
        rw [hled, bt]
        refine wpAny_pure ?_
        rw [hb, show es[es.size]? = none by simp]
        exact wpAny_pure ⟨rfl, rfl⟩
    have go : ∀ slot : Nat, first = rawInt slot → SetTable.below t.place slot = es.size → wpAny (model prog w) A.in1 (setNext S slot i ep >>= fun a => match a with
          | some (x, next) => (do
            setField (.ref I) 0 (rawInt ↑next)
            setField (.ref I) 1 (rawInt (↑i + 1))
            ret x)
          | none => (do
            setField (.ref I) 2 .none
            let e ← newExc (.type "StopIteration") []
            raiseNew e)) (fun fin s' => ∃ v, fin = Fin.done (Flow.ret v) ∧ wpAny (model prog w) A (pure (some v)) Q E s') (fun e s' => wpAny (model prog w) A (do
      if (← isInstance e (.type "StopIteration")) then pure none else throw e) Q E s') s := by
      intro slot e hb
      refine wpAny_bind (wpAny_mono (done slot e hb) (fun a s' ⟨e1, e2⟩ => ?_) fun _ _ f => f.elim)
      subst e1; subst e2
      exact wpAny_bind (wpAny_setField_rec hI (by simp) fun g1 _ sb1 => fin g1 _ sb1)
    have pz : t.place.size = es.size := by
      simp only [SetTable.fits, Bool.and_eq_true, beq_iff_eq, decide_eq_true_eq] at hf
      exact hf.1
    by_cases e0 : es.size = 0
    · have i0 : i = 0 := by omega
      subst i0
      have f0 := f0 rfl
      subst f0
      refine go 0 rfl ?_
      have : t.place = #[] := Array.eq_empty_of_size_eq_zero (by omega)
      rw [this, below_none, e0]
    · have e1 : es.size = 1 := by omega
      have i1 : i = 1 := by omega
      subst i1
      obtain ⟨p, hp, f1⟩ := f1 rfl
      subst f1
      refine go (p + 1) rfl ?_
      obtain ⟨p', hp'⟩ := array_one (by rw [pz, e1] : t.place.size = 1)
      rw [hp'] at hp ⊢
      have : p' = p := by simpa using hp
      subst this
      rw [below_one, if_pos (Nat.lt_succ_self _), e1]
end
end L2
namespace L2
open PySem PySem.Spec PyProof.Rows
theorem slot_setit_iter : Slot "set_iterator" "__iter__" "set_iterator.__iter__" :=
  .of (owner := "set_iterator") (n := "__iter__") (by rw [typeLookup_type, builtinLookup_eq_fast]; kernel_rfl) (by decide +kernel) (by decide +kernel) (by decide +kernel) (by first | exact .inl (by decide +kernel) | exact .inr (by decide +kernel)) (by rw [isSubtype_type]; kernel_rfl)
theorem entry_setit_iter : entryFor table "set_iterator.__iter__" = some Builtin.«dict_keyiterator.__iter__» := entryFor_alias (id' := "dict_keyiterator.__iter__") (by kernel_rfl) rfl (by decide +kernel) (by kernel_rfl)
theorem args_setit_iter (a : Value) : argsOk "set_iterator.__iter__" ⟨[a], []⟩ := by unfold argsOk; kernel_rfl
theorem set_len_look : typeLookup (.type "set") "__len__" = pure (some (.builtin "set.__len__")) := by rw [typeLookup_type, builtinLookup_eq_fast]; kernel_rfl
section
variable {prog : Program} {w : World} {A : Around} {E : Value → Shared → Prop} {s : Shared} {I S T : Addr} {o : Obj} {es : Array (Int × Value)} {ep : Nat} {t : SetTable} {ord : List Value}
theorem walks_set (hh : A.handled = none) (hd : o.data = .set es ep t) (hf : t.fits es.size = true) (hled : t.led = !byText w) (hSI : S ≠ I) (hn : ord.length = es.size) :
    Walks prog w A I [I, S, T] [I] ord.length (fun i v => ord[i]? = some v) (fun i h => SIt w I S T o es ep t ord i h) where
  sub := by simp
  frame := fun i h h' st k => by
    obtain ⟨hS, first, hI, m⟩ := st
    refine ⟨k S (by simp) _ hS, first, k I (by simp) _ hI, ?_⟩
    rcases m with m | ⟨bt, e, hTI, ps, hTt, r⟩ | m
    · exact .inl m
    · exact .inr (.inl ⟨bt, e, hTI, ps, k T (by simp) _ hTt, r⟩)
    · exact .inr (.inr m)
  item := fun i s Q E hi st hQ => setit_item (v := ord[i]) hd hf hled hSI st (by simp [hi]) hn fun h' st' sb => hQ _ h' s.toks (by simp [hi]) st' fun b o' hb e => (sb.2 b (fun q => hb (by simp [q]))).trans e
  done := fun s Q E st hQ => setit_end hh hd hf hled st rfl hn fun h' k => hQ h' s.toks fun b o' hb e => k b o' (fun q => hb (by simp [q])) e
  self := fun i s Q E st hQ => by
    have hT := st.is
    refine wpAny_pyIter_slot hT slot_setit_iter (wpAny_call_entry slot_setit_iter hT entry_setit_iter ?_ (args_setit_iter _))
    show wpAny _ _ (ret (.ref I)) _ _ s
    exact wpAny_pure ⟨_, rfl, "set_iterator", _, hT, slot_setit_next.lookup, hQ⟩
/-- the iterator comes -/
theorem iter_set {ks : List Str} {Q : Value → Shared → Prop} (hS : SetS w S ks s.heap)
    (hQ : ∀ (I T : Addr) (o : Obj) es ep t (ord : List Value) (ss : List Str) (h' : Heap) d, (∀ b o, s.heap.get? b = some o → h'.get? b = some o) → s.heap.objs.size ≤ I → S ≠ I → (T = S ∨ s.heap.objs.size ≤ T) → T < h'.objs.size → I < h'.objs.size → o.data = .set es ep t → t.fits es.size = true → t.led = (!byText w) → ord.length = es.size →
      SIt w I S T o es ep t ord 0 h' → StrsAre ord ss → ss.Perm ks → Q (.ref I) { s with heap := h', drawn := d }) : wpAny (model prog w) A (pyIter (.ref S)) Q E s := by
  obtain ⟨o, es, ep, t, ss, ho, hex, hd, hst, hp, hnd, hel, hb, hf, hpl, hled⟩ := hS
  have hT : s.TypeIs (.ref S) "set" := ⟨o, ho, hex.1⟩
  have slt : S < s.heap.objs.size := Heap.lt_size ho
  refine wpAny_pyIter_slot hT F.slot_set_iter (wpAny_call_entry F.slot_set_iter hT entry_setIter ?_ (F.args_set_iter_1 _))
  unfold Builtin.«frozenset.__iter__»
  refine wpAny_bind (m := Builtin.Frozenset.slot0 _ _) (wpAny_bind (m := slotArgs _ _ _) (wpAny_pure (wpAny_pure ?_)))
  refine wpAny_bind (m := Builtin.Frozenset.sizeOf S) (wpAny_bind (wpAny_setEntries_of ho hd hf (wpAny_pure ?_)))
  refine wpAny_bind (m := setDrawn S) ?_
  unfold setDrawn
  refine wpAny_bind (wpAny_setState_of ho hd hf (wpAny_bind (wpAny_bind (wpAny_askSetting (wpAny_pure (wpAny_pure ?_))))))
  have fin : ∀ (first : Value) (s1 : Shared) (T : Addr) (ord : List Value), s1.heap.get? S = some o → (∃ d h1, s1 = { s with heap := h1, drawn := d }) → (∀ b o, s.heap.get? b = some o → s1.heap.get? b = some o) → T < s1.heap.objs.size → s.heap.objs.size ≤ s1.heap.objs.size → (T = S ∨ s.heap.objs.size ≤ T) → (∃ ss, StrsAre ord ss ∧ ss.Perm ks) →
      ((byText w = true ∧ first = rawInt 0 ∧ ord = (pickOrder (w.params.setOrder S ep) es).toList.map (·.2)) ∨ (byText w = false ∧ first = .ref T ∧ ∃ ps : List Nat, s1.heap.get? T = some { cls := .type "tuple", data := .seq (ps.map fun (i : Nat) => rawInt i).toArray } ∧ ps.length = ord.length ∧ ∀ (j p : Nat), ps[j]? = some p → ∃ e, es[p]? = some e ∧ ord[j]? = some e.2) ∨ (byText w = false ∧ es.size ≤ 1 ∧ ord = es.toList.map (·.2) ∧ first = rawInt 0)) → ord.length = es.size →
      wpAny (model prog w) A.in1 (do ret (← newFields "set_iterator" [first, rawInt 0, .ref S, rawInt es.size, rawInt (← setEpoch S)])) (fun fin s' => ∃ v, fin = Fin.done (Flow.ret v) ∧ ∃ T' r, s'.TypeIs v T' ∧ typeLookup (.type T') "__next__" = pure (some r) ∧ Q v s') (fun e s' => E e s') s1 := by
    intro first s1 T ord h1 ⟨d, g1, e1⟩ k1 tl sl hTT ⟨ss', q1, q2⟩ m hn
    subst e1
    refine wpAny_bind (wpAny_setEpoch_of h1 hd hf (wpAny_bind (wpAny_newObj_type ?_)))
    have gI : (g1.push { cls := .type "set_iterator", data := .fields #[first, rawInt 0, .ref S, rawInt es.size, rawInt ep] }).get? g1.objs.size = some _ := Heap.get?_push_size _ rfl
    refine wpAny_pure ⟨_, rfl, "set_iterator", _, ⟨_, gI, rfl⟩, slot_setit_next.lookup, hQ g1.objs.size T o es ep t ord ss' _ d (fun b o' e => Heap.get?_push_of_some _ (k1 b o' e)) sl (Nat.ne_of_lt (Heap.lt_size h1)) hTT (by rw [Heap.size_push]; exact Nat.lt_succ_of_lt tl) (by rw [Heap.size_push]; exact Nat.lt_succ_self _) hd hf hled hn ?_ q1 q2⟩
    refine ⟨Heap.get?_push_of_some _ h1, first, gI, ?_⟩
    rcases m with m | ⟨bt, e, ps, hTt, r⟩ | ⟨bt, h1', eo, e⟩
    · exact .inl m
    · exact .inr (.inl ⟨bt, e, Nat.ne_of_lt tl, ps, Heap.get?_push_of_some _ hTt, r⟩)
    · exact .inr (.inr ⟨bt, h1', eo, fun _ => e, fun q => absurd q (by decide)⟩)
  have lst : (es.toList.map (·.2)).length = es.size := by rw [List.length_map, Array.length_toList]
  by_cases bt : byText w = true
  · show wpAny _ _ (if (!byText w && _) = true then _ else _) _ _ _
    rw [bt, Bool.not_true, Bool.false_and, if_neg (by decide)]
    refine wpAny_bind (wpAny_pure ?_)
    have pp := (pick_perm (w.params.setOrder S ep) es).map (·.2)
    obtain ⟨ts, r1, r2⟩ := strsAre_perm hst pp
    exact fin (rawInt 0) s S _ ho ⟨s.drawn, s.heap, rfl⟩ (fun _ _ e => e) slt (Nat.le_refl _) (.inl rfl) ⟨ts, r1, r2.trans hp⟩ (.inl ⟨bt, rfl, rfl⟩) (by rw [pp.length_eq, lst])
  · have bf : byText w = false := by simpa using bt
    show wpAny _ _ (if (!byText w && (!t.plain && decide (es.size > 1))) = true then _ else _) _ _ _
    by_cases h1 : es.size > 1
    · rw [bf, hpl (by omega), decide_eq_true h1]
      simp only [Bool.not_false, Bool.and_self, ↓reduceIte]
      refine wpAny_bind (draw_ok es.size (List.range es.size) _ _ (by simp) fun ps d pps => wpAny_bind ?_)
      refine wpAny_newTuple ?_ (by rw [List.length_map, pps.length_eq, List.length_range]; exact fits_of_scanBound hb)
      have lt : ∀ p ∈ ps, p < es.size := fun p q => List.mem_range.mp (pps.mem_iff.mp q)
      have er : (List.range es.size).map (fun p => ((es[p]?).map (·.2)).getD .none) = es.toList.map (·.2) := by
        apply List.ext_getElem
        · simp
        · intro i q1 q2
          simp at q1
          simp [q1]
      have pp : (ps.map (fun p => ((es[p]?).map (·.2)).getD .none)).Perm (es.toList.map (·.2)) := by rw [← er]; exact pps.map _
      obtain ⟨ts, r1, r2⟩ := strsAre_perm hst pp
      refine fin (.ref s.heap.objs.size) { s with heap := _, drawn := d } s.heap.objs.size (ps.map (fun p => ((es[p]?).map (·.2)).getD .none)) (Heap.get?_push_of_some _ ho) ⟨d, _, rfl⟩ (fun b o' e => Heap.get?_push_of_some _ e) (by show _ < (Heap.push _ _).objs.size; rw [Heap.size_push]; exact Nat.lt_succ_self _) (by show _ ≤ (Heap.push _ _).objs.size; rw [Heap.size_push]; exact Nat.le_succ _) (.inr (Nat.le_refl _)) ⟨ts, r1, r2.trans hp⟩
        (.inr (.inl ⟨bf, rfl, ps, Heap.get?_push_size _ rfl, by rw [List.length_map], fun j p q => ?_⟩)) (by rw [pp.length_eq, lst])
      have hlt := lt p (List.mem_of_getElem? q)
      exact ⟨es[p], by simp [hlt], by simp [q, hlt]⟩
    · rw [bf, decide_eq_false h1]
      simp only [Bool.and_false, Bool.false_eq_true, ↓reduceIte]
      refine wpAny_bind (wpAny_pure ?_)
      exact fin (rawInt 0) s S _ ho ⟨s.drawn, s.heap, rfl⟩ (fun _ _ e => e) slt (Nat.le_refl _) (.inl rfl) ⟨ss, hst, hp⟩ (.inr (.inr ⟨bf, by omega, rfl, rfl⟩)) lst
/-- all that a set of texts has, collected into a list -/
theorem collect_set {ks : List Str} {Q : List Value → Shared → Prop} (hh : A.handled = none) (hS : SetS w S ks s.heap)
    (hQ : ∀ s' vs ss, StrsAre vs ss → ss.Perm ks → (∀ b o, s.heap.get? b = some o → s'.heap.get? b = some o) → s'.gens = s.gens → s'.os = s.os → s.heap.objs.size ≤ s'.heap.objs.size → Q vs s') : wpAny (model prog w) A (collect (.ref S)) Q E s := by
  have hT0 : ∃ o es ep t, s.heap.get? S = some o ∧ o.ExactSet ∧ o.data = .set es ep t ∧ t.fits es.size = true ∧ es.size < scanBound := by
    obtain ⟨o, es, ep, t, ss, ho, hex, hd, _, _, _, _, hb, hf, _⟩ := hS
    exact ⟨o, es, ep, t, ho, hex, hd, hf, hb⟩
  obtain ⟨o0, es0, ep0, t0, ho0, hex0, hd0, hf0, hb0⟩ := hT0
  unfold collect
  refine wpAny_bind (wpAny_runValue (codeAny_builtin F.entry_proto_collect ?_))
  rw [Around.under_plainId F.plain_proto_collect _]
  show wpAny _ A.in1 (newList [] >>= fun l => again (.builtin "list.__iadd__" ⟨[l, .ref S], []⟩)) _ _ s
  refine wpAny_bind (wpAny_newObj_type (wpAny_pure ⟨plainId_quiet F.plain_list_iadd _, codeAny_builtin F.entry_list_iadd ?_⟩))
  rw [Around.under_plainId F.plain_list_iadd _]
  have slt : S < s.heap.objs.size := Heap.lt_size ho0
  show wpAny _ A.in1 (Builtin.List.listExtendWith (.ref s.heap.objs.size) (.ref S) (.ref s.heap.objs.size)) _ _ _
  unfold Builtin.List.listExtendWith
  generalize hG : s.heap.push { cls := .type "list", data := .seq ([] : List Value).toArray } = G
  have gS : G.get? S = some o0 := by rw [← hG]; exact Heap.get?_push_of_some _ ho0
  have gz : G.objs.size = s.heap.objs.size + 1 := by rw [← hG, Heap.size_push]
  have gL : G.get? s.heap.objs.size = some { cls := .type "list", data := .seq ([] : List Value).toArray } := by rw [← hG]; exact Heap.get?_push_size _ rfl
  have tS : Shared.TypeIs { s with heap := G } (.ref S) "set" := ⟨o0, gS, hex0.1⟩
  refine wpAny_bind (wpAny_typeOf (T := "set") tS ?_)
  have n1 : Builtin.List.listSameRef (.ref s.heap.objs.size) (.ref S) = false := by
    show (s.heap.objs.size == S) = false
    exact beq_eq_false_iff_ne.mpr (Nat.ne_of_gt slt)
  have n2 : (Value.type "set" == Value.type "list") = false := by decide
  have n3 : (Value.type "set" == Value.type "tuple") = false := by decide
  simp only [n1, n2, n3, Bool.or_false, Bool.false_eq_true, if_false]
  have hS1 : SetS w S ks G := hS.keep fun o e => by rw [← hG]; exact Heap.get?_push_of_some _ e
  refine wpAny_bind (iter_set (s := { s with heap := G }) hS1 fun I T o es ep t ord ss h1 d k1 hI hSI hTT hTl hIl hd hf hled hn st q1 q2 => ?_)
  replace k1 : ∀ b o, G.get? b = some o → h1.get? b = some o := k1
  replace hI : G.objs.size ≤ I := hI
  have gS1 : h1.get? S = some o0 := k1 _ _ gS
  refine wpAny_bind (wpAny_holding ?_)
  unfold Builtin.List.listLengthHint
  have tS1 : Shared.TypeIs { s with heap := h1, drawn := d } (.ref S) "set" := ⟨o0, gS1, hex0.1⟩
  refine wpAny_bind (wpAny_specialOf (T := "set") tS1 set_len_look ?_)
  wp_delta
  refine wpAny_bind (wpAny_isInstance (T := "set") (b := true) tS1 (by rw [isSubtype_type]; kernel_rfl) ?_)
  show wpAny _ A.in1 (typeOf (.ref S) >>= _) _ _ _
  refine wpAny_bind (wpAny_typeOf (T := "set") tS1 (wpAny_pure ?_))
  rw [if_pos (by decide)]
  refine wpAny_bind (wpAny_rule ?_)
  have gL1 : h1.get? s.heap.objs.size = some { cls := .type "list", data := .seq ([] : List Value).toArray } := k1 _ _ gL
  refine wpAny_bind ?_
  unfold Builtin.List.listTouch
  refine wpAny_bind (listUpdate_at (s := { s with heap := h1, drawn := d }) gL1 rfl ?_ (Nat.zero_le _) (by show 1 ≤ sizeLine + 1; omega))
  have gL2 := Heap.get?_update_self (Obj.mapSeq (·.push Value.none)) gL1 rfl
  refine listUpdate_at (xs := #[Value.none]) (n := 1) (s := { s with heap := h1.update s.heap.objs.size (Obj.mapSeq (·.push Value.none)), drawn := d }) gL2 rfl ?_ (by show 1 ≤ sizeLine; decide) (by show 0 ≤ sizeLine + 1; omega)
  have gL3 := Heap.get?_update_self (Obj.mapSeq (·.pop)) gL2 rfl
  have oth : ∀ b o, b ≠ s.heap.objs.size → h1.get? b = some o → ((h1.update s.heap.objs.size (Obj.mapSeq (·.push Value.none))).update s.heap.objs.size (Obj.mapSeq (·.pop))).get? b = some o := fun b o hb e => (Heap.get?_update_other _ _ (Ne.symm hb)).trans ((Heap.get?_update_other _ _ (Ne.symm hb)).trans e)
  have neI : s.heap.objs.size ≠ I := Nat.ne_of_lt (Nat.lt_of_lt_of_le (by rw [gz]; exact Nat.lt_succ_self _) hI)
  have neT : s.heap.objs.size ≠ T := by
    rcases hTT with e | e
    · rw [e]; exact Nat.ne_of_gt slt
    · exact Nat.ne_of_lt (Nat.lt_of_lt_of_le (by show s.heap.objs.size < G.objs.size; rw [gz]; exact Nat.lt_succ_self _) e)
  have nfp : s.heap.objs.size ∉ [I, S, T] := by
    simp only [List.mem_cons, List.not_mem_nil, or_false, not_or]
    exact ⟨neI, Nat.ne_of_gt slt, neT⟩
  have hbn : ord.length ≤ sizeLine := by
    have e : es.size < scanBound := by
      obtain ⟨hS', _⟩ := st
      rw [gS1] at hS'
      cases hS'
      rw [hd0] at hd
      injection hd with e1
      rw [← e1]; exact hb0
    rw [hn]; exact fits_of_scanBound e
  have W := walks_set (prog := prog) (A := A.in1) (T := T) (show A.in1.handled = none from hh) hd hf hled hSI hn
  have st2 := W.frame 0 h1 ((h1.update s.heap.objs.size (Obj.mapSeq (·.push Value.none))).update s.heap.objs.size (Obj.mapSeq (·.pop))) st fun b hb o' e => oth b o' (fun q => nfp (q ▸ hb)) e
  refine wpAny_pure ⟨plainId_quiet F.plain_extend_loop _, codeAny_extend_loopS W.toS hbn _ nfp _ ord.length 0 _ _ _ rfl (Nat.zero_le _) st2 gL3 (ItemsOf.nil _) fun s5 acc c5 m5 gL5 hacc => ?_⟩
  show wpAny _ A (load s.heap.objs.size >>= _) _ _ s5
  refine wpAny_bind (wpAny_load gL5 (wpAny_pure ?_))
  have ea : acc.toList = ord := by
    apply List.ext_getElem?
    intro j
    by_cases hj : j < ord.length
    · have hj' : j < acc.size := by rw [hacc.1]; exact hj
      have := hacc.2 j acc[j] (by simp [hj'])
      rw [this]
      simp [hj']
    · have l1 : acc.toList.length = ord.length := by rw [Array.length_toList]; exact hacc.1
      rw [List.getElem?_eq_none (l := acc.toList) (by omega), List.getElem?_eq_none (l := ord) (by omega)]
  rw [ea]
  refine hQ s5 ord ss q1 q2 (fun b o' e => ?_) m5.gens m5.os (Nat.le_of_lt (Heap.lt_size gL5))
  have blt := Heap.lt_size e
  refine m5.heap b o' ?_ (oth b o' (Nat.ne_of_lt blt) (k1 b o' (by rw [← hG]; exact Heap.get?_push_of_some _ e)))
  simp only [List.mem_cons, List.not_mem_nil, or_false, not_or]
  exact ⟨Nat.ne_of_lt blt, Nat.ne_of_lt (Nat.lt_of_lt_of_le blt (Nat.le_trans (by rw [gz]; exact Nat.le_succ _) hI))⟩
end
end L2
namespace L2
open PySem PySem.Spec PyProof.Rows
section
variable {X : Cx} {pins : List (Addr × Obj)} {σ : St} {H : Hp} {s s' : Shared}
theorem Inv.keptS (I : Inv X pins σ H s) (k : ∀ b o, s.heap.get? b = some o → s'.heap.get? b = some o) (hg : s'.gens = s.gens) (ho : s'.os = s.os) : Inv X pins σ H s' := by
  obtain ⟨h', g', d', t', o'⟩ := s'
  replace hg : g' = s.gens := hg
  replace ho : o' = s.os := ho
  subst hg; subst ho
  refine I.step (g' := s.gens) (d' := d') (ch := []) (fun b hb => absurd hb (by simp)) (fun b o _ _ _ e _ => k b o e) (fun b o _ _ _ e _ => ⟨o.slots, k b o e⟩) (fun _ _ _ _ n => n) (fun b o _ e => ⟨o, k b o e⟩) (fun _ _ e => e) (fun _ _ _ e => e) (fun b ps e => ⟨#[], by rw [e]; simp⟩) (fun m hm => ?_) (fun b v e => ?_) I.bare
  · obtain ⟨o, es, ep, ho, r⟩ := hm
    exact ⟨o, es, ep, k _ o ho, r⟩
  · exact (I.hok b v e).stay (fun c' v' _ q => k c' v' q) (fun _ q => q) fun _ _ q => q
theorem Inv.stoodS {a : Addr} {o : HO} (I : Inv X pins σ H s) (J : Inv X pins σ H s') (ha : s.heap.objs.size ≤ a) (new : ObjOk X.prog X.w (upd H a o) s'.heap a o) : Inv X pins σ (upd H a o) s' := by
  have Hn : H a = none := I.hok.fresh ha
  have lt0 : ∀ b o, X.s₀.heap.get? b = some o → b ≠ a := fun b o e => Nat.ne_of_lt (Nat.lt_of_lt_of_le (Nat.lt_of_lt_of_le (Heap.lt_size e) I.sz) ha)
  refine ⟨J.ok, J.os, J.bare, ?_, J.loc, J.cell, ?_, ?_, ?_, ?_, J.len⟩
  · refine ⟨J.base.keep, J.base.slot, fun b o e n hx => ?_, J.base.there, fun b xs e => ?_, fun b o v e => ?_, fun b ps e => ?_⟩
    · rw [upd_ne (lt0 b o e)]; exact J.base.free b o e n hx
    · rw [upd_ne (ne_of_none (J.base.tups b xs e) Hn)]; exact J.base.tups b xs e
    · rw [upd_ne (ne_of_none (J.base.frzs b o v e) Hn)]; exact J.base.frzs b o v e
    · obtain ⟨m, q⟩ := J.base.tbls b ps e
      exact ⟨m, by rw [upd_ne (ne_of_none q Hn)]; exact q⟩
  · rw [upd_ne (Nat.ne_of_lt (Nat.lt_of_lt_of_le I.lt ha))]; exact J.free
  · intro x' c' e
    obtain ⟨v', q⟩ := I.cell x' c' e
    rw [upd_ne (Nat.ne_of_lt (Nat.lt_of_lt_of_le q.lt ha))]; exact J.freeC x' c' e
  · intro p hp
    obtain ⟨e, n, r⟩ := J.pin p hp
    refine ⟨e, ?_, r⟩
    rw [upd_ne (Nat.ne_of_lt (Nat.lt_of_lt_of_le (Heap.lt_size (I.pin p hp).1) ha))]; exact n
  · intro b v e
    by_cases hb : b = a
    · subst hb
      rw [upd_same] at e
      cases e
      exact new
    · rw [upd_ne hb] at e
      refine (J.hok b v e).stay (fun _ _ _ q => q) (fun c' q => ?_) fun c' xs q => ?_
      · rw [upd_ne (ne_of_none q Hn)]; exact q
      · rw [upd_ne (ne_of_none q Hn)]; exact q
end
section
variable {prog : Program} {w : World} {A : Around} {E : Value → Shared → Prop} {s : Shared} {S : Addr}
set_option maxHeartbeats 4000000 in
theorem sorted_set {ks : List Str} {Q : Value → Shared → Prop} (hh : A.handled = none) (hS : SetS w S ks s.heap) (h64 : ks.length < 64)
    (hQ : ∀ (s' : Shared) (l : Addr) (vs : List Value) (ss : List Str) (n : Nat), StrsAre vs ss → ss.Perm ks → sortedS ss = true → (∀ b o, s.heap.get? b = some o → s'.heap.get? b = some o) → s'.gens = s.gens → s'.os = s.os → s.heap.objs.size ≤ l → s'.heap.get? l = some { cls := .type "list", data := .seq vs.toArray n } → Q (.ref l) s') :
    wpAny (model prog w) A (call (.builtin "sorted") [.ref S]) Q E s := by
  refine Calls.call_function_entry kind_sorted plain_sorted entry_sorted (args_sorted1 _) ?_
  unfold Builtin.«sorted»
  refine wpAny_bind (m := checkCount "sorted" 1 1 _) (wpAny_pure ?_)
  refine wpAny_bind (collect_set (show A.in1.handled = none from hh) hS fun s1 vs ss q1 q2 k1 g1 o1 sle => ?_)
  have hl : vs.length < 64 := by rw [strsAre_len q1, q2.length_eq]; exact h64
  refine wpAny_bind (wpAny_newList ?_ (by rw [sizeLine_eq]; omega))
  have gL : (s1.heap.push (seqObj "list" vs.toArray 0)).get? s1.heap.objs.size = some (seqObj "list" vs.toArray 0) := Heap.get?_push_size _ rfl
  refine wpAny_bind (wpAny_holding (wpAny_call_entry slot_list_sort ⟨_, gL, rfl⟩ entry_list_sort (list_sort_treeK (s := { s1 with heap := s1.heap.push (seqObj "list" vs.toArray 0) }) strKind_oneLt gL q1.keysOf (fun v₁ v₂ rest e => keyKind_strs (by rw [← e]; exact q1)) hl fun st' hp hs => ⟨_, rfl, ?_⟩) (args_list_sort _)))
  obtain ⟨ts, r1, r2, r3⟩ := sorted_out_str q1 hp hs
  obtain ⟨n, gl⟩ : ∃ n, (sortedHeap (s1.heap.push (seqObj "list" vs.toArray 0)) s1.heap.objs.size vs ((arrOf st').map (·.2))).get? s1.heap.objs.size = some (seqObj "list" ((arrOf st').map (·.2)) n) := sortedHeap_at gL
  refine wpAny_pure ⟨_, rfl, hQ _ s1.heap.objs.size ((arrOf st').map (·.2)).toList ts n r1 (r2.trans q2) r3 (fun b o' e => ?_) g1 o1 sle ?_⟩
  rotate_left
  · show _ = some (seqObj "list" ((arrOf st').map (·.2)).toList.toArray n)
    rw [Array.toArray_toList]
    exact gl
  have e1 := k1 b o' e
  have blt := Heap.lt_size e1
  show (sortedHeap _ _ _ _).get? b = _
  rw [sortedHeap_old (Nat.ne_of_lt blt) (by rw [Heap.size_push]; exact Nat.lt_succ_of_lt blt)]
  exact Heap.get?_push_of_some _ e1
end
section
variable {X : Cx} {K : PySem.W.Frag}
theorem call_sortedS (hc : X.calm = true) : CallR X (.builtin "sorted") (fun xs H Q => ∃ a ks, xs = [.ref a] ∧ H a = some (SetO X.w a ks) ∧ ks.length < 64 ∧ ∀ l ss, H l = none → ss.Perm ks → sortedS ss = true → Q (.ref l) (upd H l (.lst (ss.map V.str)))) := by
  intro pins s σ H xs us Q I r h
  obtain ⟨a, ks, rfl, ha, hl, q⟩ := h
  obtain ⟨u, rfl, ru⟩ := vals1 r
  cases ru
  obtain ⟨S, _, _⟩ := (show ObjOk X.prog X.w H s.heap a (SetO X.w a ks) from I.hok a _ ha)
  refine sorted_set (I.ok.hd hc) S hl fun s' l vs ss n r1 r2 r3 k g o hle gl => ?_
  have hfree : H l = none := I.hok.fresh hle
  have J : Inv X pins σ H s' := I.keptS k g o
  refine ⟨.ref l, _, I.stoodS (o := .lst (ss.map V.str)) J hle ⟨?_, vs, n, vals_strs r1, gl⟩, rfl, q l ss hfree r2 r3⟩
  rw [List.length_map, r2.length_eq, sizeLine_eq]
  omega
theorem k_sortedS (h : X.w = w) (hc : X.calm = true) : CallQ X (.builtin "sorted") (fun xs H Q => ∃ a ks, xs = [.ref a] ∧ H a = some (SetO w a ks) ∧ ks.length < 64 ∧ ∀ l ss, H l = none → ss.Perm ks → sortedS ss = true → Q (.ref l) (upd H l (.lst (ss.map V.str)))) := by subst h; exact ⟨call_sortedS hc⟩
end
end L2
namespace L2
theorem seq_op {t u : TS} {D : Ends} {σ : St} {H : Hp} (h : ∀ D' : Ends, (∀ σ' H', u D σ' H' → D'.nx σ' H') → (∀ v H', D.rt v H' → D'.rt v H') → t D' σ H) : tSeq t u D σ H := h _ (fun _ _ x => x) fun _ _ x => x
theorem ends_op {t : TS} {D : Ends} {σ : St} {H : Hp} (h : ∀ D' : Ends, (∀ σ' H', D.nx σ' H' → D'.nx σ' H') → (∀ v H', D.rt v H' → D'.rt v H') → t D' σ H) : t D σ H := h _ (fun _ _ x => x) fun _ _ x => x
theorem for_enum {K : PySem.W.Frag} {a : PySem.Addr} {xs : List V} {g : TG} {tb : TS} {D : Ends} {σ : St} {H : Hp} (Pv : Nat → St → Hp → Prop) (h0 : Pv 0 σ H) (hl : ∀ i σ H, i ≤ xs.length → Pv i σ H → SqL K H a xs)
    (hs : ∀ i x T σ H, xs[i]? = some x → Pv i σ H → H T = none → g (.ref T) σ (upd H T (.tup [.int i, x])) fun σ2 H2 => tb { D with nx := Pv (i + 1), ct := Pv (i + 1), bk := D.nx } σ2 H2) (hd : ∀ σ H, Pv xs.length σ H → D.nx σ H) :
    ∃ W : Nat → Nat → St → Hp → Prop, (∃ m, W 0 m σ H) ∧ ∀ i m σ H, W i m σ H →
      ((Ite K a xs).stop i H ∧ D.nx σ H) ∨ ((Ite K a xs).go i H ∧ ∃ N : St → Hp → Prop, (∀ σ' H', N σ' H' → ∃ m', m' < m ∧ W (i + 1) m' σ' H') ∧ ∀ x H', (Ite K a xs).yld i H x H' → g x σ H' fun σ2 H2 => tb { D with nx := N, ct := N, bk := D.nx } σ2 H2) := by
  refine ⟨fun i m σ H => m = xs.length - i ∧ i ≤ xs.length ∧ Pv i σ H, ⟨xs.length, by simp, Nat.zero_le _, h0⟩, ?_⟩
  rintro i m σ H ⟨rfl, hi, p⟩
  have q := hl i σ H hi p
  by_cases lt : i < xs.length
  · refine .inr ⟨⟨q, lt⟩, Pv (i + 1), fun σ' H' p' => ⟨xs.length - (i + 1), by omega, rfl, lt, p'⟩, fun v H' y => ?_⟩
    obtain ⟨x, T, e, hT, rfl, rfl⟩ := y
    exact hs i x T σ _ e p hT
  · have e : i = xs.length := by omega
    subst e
    exact .inl ⟨⟨q, Nat.le_refl _⟩, hd σ H p⟩
section
open PySem PySem.Spec PyProof.Rows
variable {X : Cx} {K : PySem.W.Frag} {pos : Pos} {a b : Expr} {ta tb : TE}
theorem q_addI : OpQ X (binaryOp .Add) (rI0 fun i j => .int (i + j)) := ⟨op_add⟩
theorem q_mulI : OpQ X (binaryOp .Mult) (rI CMul fun i j => .int (i * j)) := ⟨op_mul⟩
theorem ixLE (h : X.K = K) (hs : PlainIx b) (ha : QE X a ta) (hb : QE X b tb) : QE X (.Subscript a b pos) (tOp (rIxL K) ta tb) := by subst h; exact ⟨pe_ix ix_list ha.h hb.h hs⟩
theorem ixSE (hs : PlainIx b) (ha : QE X a ta) (hb : QE X b tb) : QE X (.Subscript a b pos) (tOp rIxS ta tb) := ⟨pe_ix ix_str ha.h hb.h hs⟩
end
end L2
namespace Cut
open PySem L2 PyProof.Rows
noncomputable def letters : Str := "abcdefghijklmnopqrstuvwxyz"
noncomputable def isLet (c : Nat) : Bool := decide (c ∈ letters.cps.toList)
noncomputable def okc (c : Nat) : Bool := decide (c = 46) || isLet c
noncomputable def nl : Str := "\n"
theorem nl_eq : nl = ⟨#[10]⟩ := rfl
theorem okc_nl {c : Nat} (h : okc c = true) : c ≠ 10 := by
  intro e
  subst e
  revert h
  decide +kernel
/-- rows that are a cut -/
structure IsCut (rows : List Str) : Prop where
  pos : 1 ≤ rows.length
  high : rows.length ≤ 40
  wide : ∃ wd, 1 ≤ wd ∧ wd ≤ 40 ∧ ∀ r ∈ rows, r.cps.size = wd
  sign : ∀ r ∈ rows, r.cps.toList.all okc = true
  fall : ∀ (i : Nat) (r r' : Str), rows[i]? = some r → rows[i + 1]? = some r' → ∀ (j c c' : Nat), r.cps[j]? = some c → r'.cps[j]? = some c' → c' = 46 → c = 46
  some' : ∃ r ∈ rows, ∃ c ∈ r.cps.toList, c ≠ 46
theorem str_ext {x y : Str} (h : x.cps.toList = y.cps.toList) : x = y := by
  obtain ⟨⟨l⟩⟩ := x
  obtain ⟨⟨m⟩⟩ := y
  simp at h
  rw [h]
theorem join_cons (sep x y : Str) (r : List Str) : (Str.join sep (x :: y :: r)).cps.toList = x.cps.toList ++ sep.cps.toList ++ (Str.join sep (y :: r)).cps.toList := by
  show ((x.cps ++ sep.cps) ++ (Str.join sep (y :: r)).cps).toList = _
  rw [Array.toList_append, Array.toList_append]
theorem cut_at {α : Type} [DecidableEq α] {c : α} : ∀ {a b x y : List α}, c ∉ a → c ∉ b → a ++ c :: x = b ++ c :: y → a = b ∧ x = y
  | [], [], _, _, _, _, h => ⟨rfl, (List.cons.inj h).2⟩
  | [], b :: bs, _, _, _, hb, h => absurd (by rw [← (List.cons.inj h).1]; exact List.mem_cons_self) hb
  | a :: as, [], _, _, ha, _, h => absurd (by rw [(List.cons.inj h).1]; exact List.mem_cons_self) ha
  | a :: as, b :: bs, x, y, ha, hb, h => by
    obtain ⟨h1, h2⟩ := List.cons.inj h
    obtain ⟨e1, e2⟩ := cut_at (fun q => ha (List.mem_cons_of_mem _ q)) (fun q => hb (List.mem_cons_of_mem _ q)) h2
    exact ⟨by rw [h1, e1], e2⟩
theorem join_inj {c : Nat} : ∀ {ps qs : List Str}, ps ≠ [] → qs ≠ [] → (∀ p ∈ ps, c ∉ p.cps.toList) → (∀ q ∈ qs, c ∉ q.cps.toList) → (Str.join ⟨#[c]⟩ ps).cps.toList = (Str.join ⟨#[c]⟩ qs).cps.toList → ps = qs
  | [], _, h, _, _, _, _ => absurd rfl h
  | _, [], _, h, _, _, _ => absurd rfl h
  | [p], [q], _, _, _, _, e => by rw [str_ext (show p.cps.toList = q.cps.toList from e)]
  | [p], q :: q2 :: qs, _, _, hp, _, e => by
    rw [join_cons] at e
    refine absurd ?_ (hp p List.mem_cons_self)
    rw [show p.cps.toList = (Str.join ⟨#[c]⟩ [p]).cps.toList from rfl, e]
    simp
  | p :: p2 :: ps, [q], _, _, _, hq, e => by
    rw [join_cons] at e
    refine absurd ?_ (hq q List.mem_cons_self)
    rw [show q.cps.toList = (Str.join ⟨#[c]⟩ [q]).cps.toList from rfl, ← e]
    simp
  | p :: p2 :: ps, q :: q2 :: qs, _, _, hp, hq, e => by
    rw [join_cons, join_cons, List.append_assoc, List.append_assoc] at e
    obtain ⟨e1, e2⟩ := cut_at (c := c) (hp p List.mem_cons_self) (hq q List.mem_cons_self) e
    rw [str_ext e1, join_inj (by simp) (by simp) (fun x hx => hp x (List.mem_cons_of_mem _ hx)) (fun x hx => hq x (List.mem_cons_of_mem _ hx)) e2]
theorem split_join {rows : List Str} (h0 : rows ≠ []) (h : ∀ r ∈ rows, 10 ∉ r.cps.toList) : Txt.split (Str.join nl rows) nl = rows := by
  have e := StrLaws.join_split (Str.join nl rows) nl
  rw [nl_eq] at e ⊢
  refine join_inj (c := 10) ?_ h0 (StrLaws.split_free _ 10) h (by rw [e])
  intro q
  have := split_pos (Str.join ⟨#[10]⟩ rows) ⟨#[10]⟩
  rw [q] at this
  simp at this
theorem IsCut.nonl {rows : List Str} (h : IsCut rows) : ∀ r ∈ rows, 10 ∉ r.cps.toList := fun r hr hm => by
  have := List.all_eq_true.mp (h.sign r hr) 10 hm
  exact okc_nl this rfl
theorem IsCut.split {rows : List Str} (h : IsCut rows) : Txt.split (Str.join nl rows) nl = rows :=
  split_join (fun e => by have := h.pos; rw [e] at this; simp at this) h.nonl
theorem sum_le {α : Type} {f : α → Nat} {B : Nat} : ∀ {xs : List α}, (∀ x ∈ xs, f x ≤ B) → (xs.map f).sum ≤ xs.length * B
  | [], _ => by simp
  | x :: r, h => by
    have h1 := sum_le fun y hy => h y (List.mem_cons_of_mem _ hy)
    have h2 := h x List.mem_cons_self
    rw [List.map_cons, List.sum_cons, List.length_cons, Nat.succ_mul]
    omega
theorem IsCut.sum {rows : List Str} (h : IsCut rows) : (rows.map (·.length)).sum ≤ 1600 := by
  obtain ⟨wd, _, w2, h3⟩ := h.wide
  have := sum_le (f := fun r : Str => r.length) (B := 40) (xs := rows) fun r hr => by have := h3 r hr; show r.cps.size ≤ 40; omega
  have := h.high
  have h5 : rows.length * 40 ≤ 40 * 40 := Nat.mul_le_mul_right _ this
  omega
theorem IsCut.text {rows : List Str} (h : IsCut rows) : (Str.join nl rows).length ≤ 2000 := by
  have h1 := StrLaws.join_length_le nl rows
  have h2 := h.sum
  have h3 := h.high
  have h4 : nl.length = 1 := rfl
  rw [h4] at h1
  omega
noncomputable def sgn (c : Nat) : Str := ⟨#[c]⟩
theorem firsts_few {cs : List Nat} (h : ∀ c ∈ cs, isLet c = true) : (firstsOf (cs.map sgn)).length ≤ 26 := by
  have hs : ∀ x ∈ firstsOf (cs.map sgn), x ∈ letters.cps.toList.map sgn := fun x hx => by
    obtain ⟨c, hc, e⟩ := List.mem_map.mp (firstsOf_mem.mp hx)
    exact List.mem_map.mpr ⟨c, of_decide_eq_true (h c hc), e⟩
  have := List.Nodup.length_le_of_subset (firstsOf_nodup (cs.map sgn)) hs
  rw [List.length_map] at this
  have e : letters.cps.toList.length = 26 := by decide +kernel
  omega
/-- the letters' signs of some rows -/
noncomputable def signsOf (rows : List Str) : List Nat := (Str.join (Str.ofString "") rows).cps.toList.filter (fun c => decide (c ≠ 46))
theorem join0 : ∀ (rows : List Str), (Str.join (Str.ofString "") rows).cps.toList = (rows.map (·.cps.toList)).flatten
  | [] => rfl
  | [x] => by simp [Str.join]
  | x :: y :: r => by
    have e : (Str.ofString "").cps.toList = [] := rfl
    rw [join_cons, join0 (y :: r), e, List.append_nil]
    simp
theorem signs_let {rows : List Str} (h : ∀ r ∈ rows, r.cps.toList.all okc = true) : ∀ c ∈ signsOf rows, isLet c = true := fun c hc => by
  unfold signsOf at hc
  rw [List.mem_filter, join0] at hc
  obtain ⟨h1, h2⟩ := hc
  obtain ⟨l, hl, hm⟩ := List.mem_flatten.mp h1
  obtain ⟨r, hr, rfl⟩ := List.mem_map.mp hl
  have := List.all_eq_true.mp (h r hr) c hm
  unfold okc at this
  rw [Bool.or_eq_true] at this
  rcases this with q | q
  · exact absurd (of_decide_eq_true q) (of_decide_eq_true h2)
  · exact q
theorem IsCut.signs_ne {rows : List Str} (h : IsCut rows) : signsOf rows ≠ [] := by
  obtain ⟨r, hr, c, hc, hne⟩ := h.some'
  intro e
  have : c ∈ signsOf rows := by
    unfold signsOf
    rw [List.mem_filter, join0]
    exact ⟨List.mem_flatten.mpr ⟨_, List.mem_map.mpr ⟨r, hr, rfl⟩, hc⟩, decide_eq_true hne⟩
  rw [e] at this
  cases this
noncomputable def rowB (z : Str) : Bool := (decide (1 ≤ (z.length : Int)) && decide ((z.length : Int) ≤ 40)) && z.cps.toList.all okc
noncomputable def beneathB (row above : Str) : Bool := decide (row.length = above.length) && (List.zip above.cps.toList row.cps.toList).all fun p => !decide (p.2 = 46) || decide (p.1 = 46)
theorem IsCut.row {rows : List Str} (h : IsCut rows) {r : Str} (hr : r ∈ rows) : rowB r = true := by
  obtain ⟨wd, w1, w2, h3⟩ := h.wide
  have e : r.length = wd := h3 r hr
  unfold rowB
  rw [h.sign r hr, e, decide_eq_true (by omega), decide_eq_true (by omega)]
  rfl
theorem IsCut.beneath {rows : List Str} (h : IsCut rows) {i : Nat} {r r' : Str} (h1 : rows[i]? = some r) (h2 : rows[i + 1]? = some r') : beneathB r' r = true := by
  obtain ⟨wd, w1, w2, h3⟩ := h.wide
  have e1 : r.length = wd := h3 r (List.mem_of_getElem? h1)
  have e2 : r'.length = wd := h3 r' (List.mem_of_getElem? h2)
  unfold beneathB
  rw [decide_eq_true (e2.trans e1.symm), Bool.true_and, List.all_eq_true]
  intro p hp
  obtain ⟨j, hj⟩ := List.getElem?_of_mem hp
  rw [List.getElem?_zip_eq_some] at hj
  have g1 : r.cps[j]? = some p.1 := by simpa using hj.1
  have g2 : r'.cps[j]? = some p.2 := by simpa using hj.2
  have := h.fall i r r' h1 h2 j p.1 p.2 g1 g2
  by_cases q : p.2 = 46
  · rw [decide_eq_true (this q), Bool.or_true]
  · rw [decide_eq_false q]; rfl
theorem cut_of {rows : List Str} {ts : List Int} {hi wd p : Nat} (h1 : 1 ≤ hi) (h2 : hi ≤ 40) (w1 : 1 ≤ wd) (w2 : wd ≤ 40) (hl : rows.length = hi) (hp : p < wd) (htp : ts[p]? = some 0)
    (hr : ∀ (r : Nat) (z : Str), rows[r]? = some z → z.cps.size = wd ∧ ∀ (j c : Nat), z.cps[j]? = some c → ∃ t, ts[j]? = some t ∧ ((((r : Int) < t) ∧ c = 46) ∨ (¬ ((r : Int) < t) ∧ isLet c = true))) : IsCut rows := by
  have at' : ∀ z ∈ rows, ∃ r : Nat, rows[r]? = some z := fun z hz => List.getElem?_of_mem hz
  refine ⟨by omega, by omega, ⟨wd, w1, w2, fun z hz => ?_⟩, fun z hz => ?_, fun i r r' e1 e2 j c c' g1 g2 hc => ?_, ?_⟩
  · obtain ⟨r, e⟩ := at' z hz
    exact (hr r z e).1
  · obtain ⟨r, e⟩ := at' z hz
    rw [List.all_eq_true]
    intro c hc
    obtain ⟨j, hj⟩ := List.getElem?_of_mem hc
    obtain ⟨t, _, q | q⟩ := (hr r z e).2 j c (by simpa using hj)
    · rw [q.2]; decide +kernel
    · unfold okc; rw [q.2, Bool.or_true]
  · obtain ⟨t, ht, q⟩ := (hr (i + 1) r' e2).2 j c' g2
    obtain ⟨t', ht', q'⟩ := (hr i r e1).2 j c g1
    rw [ht] at ht'
    cases ht'
    rcases q with q | q
    · rcases q' with q' | q'
      · exact q'.2
      · omega
    · rw [hc] at q
      exact absurd q.2 (by decide +kernel)
  · have h0 : 0 < rows.length := by omega
    have e0 : rows[0]? = some rows[0] := by simp [h0]
    obtain ⟨hz, hc⟩ := hr 0 rows[0] e0
    have hp' : p < rows[0].cps.size := by rw [hz]; exact hp
    refine ⟨rows[0], List.getElem_mem h0, rows[0].cps[p], by simp, ?_⟩
    obtain ⟨t, ht, q⟩ := hc p rows[0].cps[p] (by simp [hp'])
    rw [htp] at ht
    cases ht
    rcases q with q | q
    · exact absurd q.1 (by decide)
    · intro e
      rw [e] at q
      exact absurd q.2 (by decide +kernel)
theorem join_signs (cs : List Nat) : (Str.join (Str.ofString "") (cs.map sgn)) = ⟨cs.toArray⟩ := by
  refine str_ext ?_
  rw [join0, List.map_map]
  show ((cs.map (fun c => [c])).flatten) = cs
  induction cs with
  | nil => rfl
  | cons c r ih => rw [List.map_cons, List.flatten_cons, ih]; rfl
theorem sgn_sum : ∀ cs : List Nat, ((cs.map sgn).map (fun x => x.length)).sum = cs.length
  | [] => rfl
  | c :: r => by
    rw [List.map_cons, List.map_cons, List.sum_cons, sgn_sum r, List.length_cons]
    show 1 + r.length = r.length + 1
    omega
end Cut
namespace Cut
open PySem L2
theorem beneathB_iff {r u : Str} : beneathB r u = true ↔ r.length = u.length ∧ ∀ (j c c' : Nat), u.cps[j]? = some c → r.cps[j]? = some c' → c' = 46 → c = 46 := by
  unfold beneathB
  rw [Bool.and_eq_true, decide_eq_true_eq, List.all_eq_true]
  constructor
  · rintro ⟨h1, h2⟩
    refine ⟨h1, fun j c c' g1 g2 hc => ?_⟩
    have z : (List.zip u.cps.toList r.cps.toList)[j]? = some (c, c') := by
      rw [List.getElem?_zip_eq_some]
      exact ⟨by simpa using g1, by simpa using g2⟩
    have := h2 _ (List.mem_of_getElem? z)
    simp only [Bool.or_eq_true, Bool.not_eq_true', decide_eq_false_iff_not, decide_eq_true_eq] at this
    rcases this with h | h
    · exact absurd hc h
    · exact h
  · rintro ⟨h1, h2⟩
    refine ⟨h1, fun p hp => ?_⟩
    obtain ⟨j, hj⟩ := List.getElem?_of_mem hp
    obtain ⟨c, c'⟩ := p
    rw [List.getElem?_zip_eq_some] at hj
    obtain ⟨g1, g2⟩ := hj
    simp only [Bool.or_eq_true, Bool.not_eq_true', decide_eq_false_iff_not, decide_eq_true_eq]
    by_cases hc : c' = 46
    · exact .inr (h2 j c c' (by simpa using g1) (by simpa using g2) hc)
    · exact .inl hc
end Cut
namespace L2
open PySem PySem.Spec PyProof.Rows
noncomputable def Up (B : Heap) (l : List Env) (e : Addr) (cls : Value) (dct : Option Addr) (fl : Option Value) (h : Heap) : Prop :=
  B.StaysIn h ∧ B.get? e = none ∧ h.FunFrames B l ∧ ∃ oe vs, h.get? e = some oe ∧ oe.cls = cls ∧ oe.dict = dct ∧ oe.data = .fields vs ∧ 1 < vs.size ∧
    match fl with
    | none => vs[1]? = some .none
    | some f => ∃ T oT ts, vs[1]? = some (.ref T) ∧ B.get? T = none ∧ T ≠ e ∧ h.get? T = some oT ∧ oT.data = .fields ts ∧ ts[3]? = some f
section
variable {M : Model} {A : Around} {E : Value → Shared → Prop} {s : Shared} {B : Heap} {env : Env} {outer : List Env} {L e : Addr} {cls : Value} {dct : Option Addr} {Q : Unit → Shared → Prop}
end
end L2
namespace L2
open PySem PySem.Spec PyProof.Rows
section
variable {P : Program} {w : World} {H : Hp} {h : Heap} {a : Addr} {o : HO}
end

section
variable {P : Program} {w : World} {l : List Env} {H H' : Hp} {s s' : Shared} {ea : Addr} {B h' : Heap} {cls : Value} {dx : Option Addr} {fl fl' : Option Value}
end

section
variable {P : Program} {w : World} {K : PySem.W.Frag} {mg : Str → Option Value} {base : Heap} {N : List Str} {qual : Str} {scope : Scope} {f : Addr} {cd : Value} {A : Around} {outer : List Env} {s₀ : Shared} {H₀ : Hp} {E : XK}
end
end L2
namespace L2
open PySem PySem.Spec PyProof.Rows
section
variable {prog : Program} {w : World} {A : Around} {E : Value → Shared → Prop} {h : Heap} {g : Array GenState} {d : Drawn} {t : Nat} {os : OsState}
variable {nm q : Str} {C N : Addr} {bs bm bmB : List Value} {hdct : Bool} {sn : List Str} {sub : List Value} {ab : Bool} {col : Option Bool} {dd : Option Addr} {k0 k1 k2 k3 k5 : Option Value} {B newId initId : String}
end
end L2
namespace L2
open PySem PySem.Spec PyProof.Rows
noncomputable abbrev veB : List Value := [.type "ValueError", .type "Exception", .type "BaseException", .type "object"]
noncomputable def overVE : List Value → Bool
  | .ref c :: r => overVE r
  | l => l == veB
section
variable {prog : Program} {w : World} {A : Around} {E : Value → Shared → Prop} {s : Shared} {K : PySem.W.Frag} {x C : Addr} {name : Str} {v : Value} {ox : Obj} {od : Option Obj}
end
end L2
namespace L2
open PySem PySem.Spec PyProof.Rows
end L2
namespace L2
open PySem PySem.Spec PyProof.Rows
section
variable {X : Cx} {C f : Addr}
end
end L2
namespace L2
open PySem PySem.Spec PyProof.Rows
section
variable {X : Cx} {pins : List (Addr × Obj)} {σ : St} {H : Hp} {s s' : Shared}
end
section
variable {X : Cx} {C D f : Addr} {x nm : Str} {p pos pos' apos : Pos} {e o value : Expr} {es : List Expr} {t : TA} {ta tv : TE} {r : List V → Hp → VK → Prop}
end
end L2
namespace L2
open PySem PySem.Spec PyProof.Rows
section
variable {X : Cx} {e v1 v2 : Expr} {rest : List Expr} {te t1 t2 : TE} {ts : List TE} {pos : Pos}
end
end L2
namespace L2
open PySem PySem.Spec PyProof.Rows
section
variable {X : Cx} {k : Nat} {f C : Addr} {fd : FuncData} {ps : List Str} {sp : Sp} {x : Str} {p pos cpos : Pos} {e : Expr} {es : List Expr} {te : TE} {t : TA}
end
/-- without what stands at a -/
noncomputable def drop (H : Hp) (a : Addr) : Hp := fun b => if b = a then none else H b
end L2
namespace L2
open PySem PySem.Spec PyProof.Rows
section
variable {X : Cx} {pins : List (Addr × Obj)} {σ : St} {H : Hp} {s s' : Shared}
end
section
variable {M : Model} {A : Around} {E : Value → Shared → Prop} {s : Shared} {K : PySem.W.Frag} {D C e : Addr} {oe : Obj} {b : Bool} {Q : Bool → Shared → Prop}
end
end L2
namespace L2
open PySem PySem.Spec PyProof.Rows
section
variable {X : Cx} {pins pins' pn : List (Addr × Obj)} {σ : St} {H : Hp} {s : Shared} {E : Value → Shared → Prop}
end
end L2
namespace L2
open PySem PySem.Spec PyProof.Rows
section
variable {prog : Program} {w : World} {A : Around} {E : Value → Shared → Prop} {s : Shared} {K : PySem.W.Frag} {x C : Addr} {name : Str} {v : Value} {ox : Obj} {od : Option Obj}
end
end L2
namespace L2
open PySem PySem.Spec PyProof.Rows
section
variable {prog : Program} {w : World} {A : Around} {E : Value → Shared → Prop} {s : Shared} {K : PySem.W.Frag} {x C : Addr} {ox : Obj} {od : Option Obj}
end
end L2
namespace L2
open PySem PySem.Spec PyProof.Rows
section
variable {X : Cx} {pins : List (Addr × Obj)} {σ : St} {H : Hp} {s : Shared}
end
end L2
namespace L2
open PySem PySem.Spec PyProof.Rows
section
variable {P : Program} {w : World} {K : PySem.W.Frag} {mg : Str → Option Value} {base : Heap} {x qual : Str} {st : Stmt} {N ps : List Str} {k : Nat} {sp : Sp}
end
section
variable {X : Cx} {K : PySem.W.Frag} {pos : Pos}
end
end L2
namespace L2
open PySem PySem.Spec PyProof.Rows
end L2
namespace L2
open PySem PySem.Spec PyProof.Rows
section
variable {prog : Program} {w : World} {A : Around} {E : Value → Shared → Prop} {s : Shared}
end
end L2
namespace L2
open PySem PySem.Spec PyProof.Rows
section
variable {prog : Program} {w : World} {A : Around} {E : Value → Shared → Prop} {s : Shared}
end
end L2
namespace L2
open PySem PySem.Spec PyProof.Rows
end L2
namespace L2
open PySem PySem.Spec PyProof.Rows
section
variable {prog : Program} {w : World} {A : Around} {E : Value → Shared → Prop} {s : Shared}
end
end L2
namespace L2
open PySem PySem.Spec PyProof.Rows
section
variable {prog : Program} {w : World} {A : Around} {E : Value → Shared → Prop} {s : Shared}
end
end L2
namespace L2
open PySem PySem.Spec PyProof.Rows
end L2
namespace L2
open PySem PySem.Spec PyProof.Rows
end L2
namespace L2
open PySem PySem.Spec PyProof.Rows
section
variable {X : Cx} {K : PySem.W.Frag} {pos : Pos}
end
end L2
namespace SBig
open PySem PyProof.Rows
section
variable (prog : Program) (w : World) (A : Around) (SI : Shared → Prop)
/-- what a step of the sort does to its state -/
noncomputable def SC {α : Type} (m : StateT SortSt Sem α) (Q : α → SortSt → Prop) (st : SortSt) : Prop :=
  ∀ s, SI s → wpAny (model prog w) A (m.run st) (fun r s' => SI s' ∧ Q r.1 r.2) (fun _ _ => False) s
/-- items are compared by a number -/
noncomputable def Cmp (κ : SortKind) (D : Keyed → Prop) (N : Keyed → Nat) : Prop :=
  ∀ x y s, D x → D y → SI s → wpAny (model prog w) A (keyLt' κ x.1 y.1) (fun b s' => b = decide (N x < N y) ∧ SI s') (fun _ _ => False) s
end
section
variable {prog : Program} {w : World} {A : Around} {SI : Shared → Prop} {α β : Type}
theorem sc_pure {a : α} {Q : α → SortSt → Prop} {st : SortSt} (h : Q a st) : (SC prog w A SI) (pure a) Q st := fun s hs => by
  rw [StateT.run_pure]; exact wpAny_pure ⟨hs, h⟩
theorem sc_bind {m : StateT SortSt Sem α} {f : α → StateT SortSt Sem β} {Q : β → SortSt → Prop} {st : SortSt} (h : (SC prog w A SI) m (fun a st' => (SC prog w A SI) (f a) Q st') st) : (SC prog w A SI) (m >>= f) Q st := fun s hs => by
  rw [StateT.run_bind]
  exact wpAny_bind (wpAny_mono (h s hs) (fun r s' h' => h'.2 s' h'.1) fun _ _ e => e)
theorem sc_mono {m : StateT SortSt Sem α} {Q Q' : α → SortSt → Prop} {st : SortSt} (h : (SC prog w A SI) m Q st) (hq : ∀ a st', Q a st' → Q' a st') : (SC prog w A SI) m Q' st := fun s hs =>
  wpAny_mono (h s hs) (fun r s' h' => ⟨h'.1, hq _ _ h'.2⟩) fun _ _ e => e
theorem sc_get {Q : SortSt → SortSt → Prop} {st : SortSt} (h : Q st st) : (SC prog w A SI) get Q st := fun s hs => by
  rw [StateT.run_get]; exact wpAny_pure ⟨hs, h⟩
theorem sc_modify {f : SortSt → SortSt} {Q : PUnit → SortSt → Prop} {st : SortSt} (h : Q ⟨⟩ (f st)) : (SC prog w A SI) (modify f) Q st := fun s hs => by
  rw [StateT.run_modify]; exact wpAny_pure ⟨hs, h⟩
theorem sc_set {x : SortSt} {Q : PUnit → SortSt → Prop} {st : SortSt} (h : Q ⟨⟩ x) : (SC prog w A SI) (set x) Q st := fun s hs => by
  rw [StateT.run_set]; exact wpAny_pure ⟨hs, h⟩
theorem sc_lift {m : Sem α} {Q : α → SortSt → Prop} {st : SortSt} (h : ∀ s, SI s → wpAny (model prog w) A m (fun a s' => SI s' ∧ Q a st) (fun _ _ => False) s) : (SC prog w A SI) (liftM m : StateT SortSt Sem α) Q st := fun s hs => by
  show wpAny _ _ ((StateT.lift m : StateT SortSt Sem α).run st) _ _ s
  rw [StateT.run_lift]
  exact wpAny_bind (wpAny_mono (h s hs) (fun a s' h' => wpAny_pure h') fun _ _ e => e)
theorem sc_rule {t : String} {Q : Unit → SortSt → Prop} {st : SortSt} (h : Q () st) : (SC prog w A SI) (liftM (rule t) : StateT SortSt Sem Unit) Q st := sc_lift fun s hs => wpAny_rule ⟨hs, h⟩
theorem sc_range {a b : Nat} {c : β} {f : Nat → β → StateT SortSt Sem (ForInStep β)} {Q : β → SortSt → Prop} {st : SortSt} (I : Nat → β → SortSt → Prop) (hab : a ≤ b) (h0 : I a c st)
    (hs : ∀ i x st, a ≤ i → i < b → I i x st → (SC prog w A SI) (f i x) (fun r st' => match r with | .done y => Q y st' | .yield y => I (i + 1) y st') st) (he : ∀ x st, I b x st → Q x st) : (SC prog w A SI) (forIn [a:b] c f) Q st := by
  rw [Std.Legacy.Range.forIn_eq_forIn_range']
  have hsz : ([a:b] : Std.Legacy.Range).size = b - a := by simp [Std.Legacy.Range.size]
  show (SC prog w A SI) (forIn (List.range' a ([a:b] : Std.Legacy.Range).size 1) c f) Q st
  rw [hsz]
  have go : ∀ (d i : Nat) (x : β) (st : SortSt), i + d = b → a ≤ i → I i x st → (SC prog w A SI) (forIn (List.range' i d 1) x f) Q st := by
    intro d
    induction d with
    | zero =>
      intro i x st e _ hI
      have e : i = b := by omega
      subst e
      rw [List.range'_zero, List.forIn_nil]
      exact sc_pure (he x st hI)
    | succ d ih =>
      intro i x st e ha hI
      rw [List.range'_succ, List.forIn_cons]
      refine sc_bind (sc_mono (hs i x st ha (by omega) hI) fun r st' h' => ?_)
      cases r with
      | done y => exact sc_pure h'
      | yield y => exact ih (i + 1) y st' (by omega) (by omega) h'
  exact go (b - a) a c st (by omega) (Nat.le_refl _) h0
theorem sc_elem {xs : Array Keyed} {i : Nat} {x : Keyed} {Q : Keyed → SortSt → Prop} {st : SortSt} (hx : xs[i]? = some x) (h : Q x st) : (SC prog w A SI) (elem' xs i) Q st := by
  rw [elem'_eq, hx]
  exact sc_pure h
theorem sc_lt {D : Keyed → Prop} {N : Keyed → Nat} {x y : Keyed} {Q : Option Bool → SortSt → Prop} {st : SortSt} (c : Cmp prog w A SI (kindOf st) D N) (hx : D x) (hy : D y) (h : Q (some (decide (N x < N y))) st) : (SC prog w A SI) (lt' x y) Q st := by
  rw [lt'_eq]
  refine sc_bind (sc_get ?_)
  refine sc_bind (sc_lift (fun s hs => wpAny_attempt (wpAny_mono (c x y s hx hy hs) (fun b s' ⟨hb, hs'⟩ => ?_) fun _ _ e => e.elim)))
  subst hb
  exact ⟨hs', sc_pure h⟩
theorem sc_ltAt {D : Keyed → Prop} {N : Keyed → Nat} {i j : Nat} {x y : Keyed} {Q : Option Bool → SortSt → Prop} {st : SortSt} (c : Cmp prog w A SI (kindOf st) D N) (hi : (arrOf st)[i]? = some x) (hj : (arrOf st)[j]? = some y) (hx : D x) (hy : D y)
    (h : Q (some (decide (N x < N y))) st) : (SC prog w A SI) (ltAt' i j) Q st := by
  rw [ltAt'_eq]
  refine sc_bind (sc_get ?_)
  exact sc_bind (sc_elem hi (sc_bind (sc_elem hj (sc_lt c hx hy h))))
end
noncomputable def gallop' : Bool → Keyed → Array Keyed → Nat → Nat → Nat → StateT SortSt Sem (Option Nat) := sortPriv% PySem.Builtin.gallop
theorem gallop'_eq (left : Bool) (key : Keyed) (arr : Array Keyed) (base n hint : Nat) : gallop' left key arr base n hint = (do
  let beyond (i : Nat) : StateT SortSt Sem (Option Bool) := do
    let x ← elem' arr (base + i)
    if left then lt' x key else return (← lt' key x).map (!·)
  let mut lastofs := 0
  let mut ofs := 1
  let mut lo := 0
  let mut hi := 0
  let some right ← beyond hint | return none
  if right then
    let maxofs := n - hint
    for _ in [0:n] do
      if ofs ≥ maxofs then break
      let some more ← beyond (hint + ofs) | return none
      if !more then break
      lastofs := ofs
      ofs := 2 * ofs + 1
    lo := hint + lastofs + 1
    hi := hint + min ofs maxofs
  else
    let maxofs := hint + 1
    for _ in [0:n] do
      if ofs ≥ maxofs then break
      let some found ← beyond (hint - ofs) | return none
      if found then break
      lastofs := ofs
      ofs := 2 * ofs + 1
    lo := hint + 1 - min ofs maxofs
    hi := hint - lastofs
  for _ in [0:n] do
    if lo ≥ hi then break
    let m := lo + (hi - lo) / 2
    let some more ← beyond m | return none
    if more then lo := m + 1 else hi := m
  return some hi) := rfl
end SBig
namespace SBig
open PySem PyProof.Rows
section
variable {prog : Program} {w : World} {A : Around} {SI : Shared → Prop} {α β : Type}
/-- whether an item lies ahead of the place that is looked for -/
noncomputable def ahead (N : Keyed → Nat) (left : Bool) (key x : Keyed) : Bool := if left then decide (N x < N key) else !decide (N key < N x)
theorem sc_beyond {D : Keyed → Prop} {N : Keyed → Nat} {left : Bool} {key x : Keyed} {arr : Array Keyed} {i : Nat} {Q : Option Bool → SortSt → Prop} {st : SortSt} (c : Cmp prog w A SI (kindOf st) D N) (hk : D key) (hx : arr[i]? = some x) (hd : D x)
    (h : Q (some (ahead N left key x)) st) : (SC prog w A SI) (do let x ← elem' arr i; if left = true then lt' x key else do let y ← lt' key x; pure (y.map (!·))) Q st := by
  refine sc_bind (sc_elem hx ?_)
  cases left with
  | true =>
    rw [if_pos rfl]
    exact sc_lt c hd hk h
  | false =>
    rw [if_neg (by simp)]
    exact sc_bind (sc_lt c hk hd (sc_pure h))
theorem sc_gallop {D : Keyed → Prop} {N : Keyed → Nat} {left : Bool} {key : Keyed} {arr : Array Keyed} {base n hint : Nat} {Q : Option Nat → SortSt → Prop} {st : SortSt} (c : Cmp prog w A SI (kindOf st) D N) (hk : D key)
    (ha : ∀ i, i < n → ∃ x, arr[base + i]? = some x ∧ D x) (P : Nat → Bool) (hP : ∀ i x, i < n → arr[base + i]? = some x → P i = ahead N left key x) (hmono : ∀ i j, i ≤ j → j < n → P j = true → P i = true) (hh : hint < n)
    (h : ∀ k, k ≤ n → (∀ i, i < k → P i = true) → (∀ i, k ≤ i → i < n → P i = false) → Q (some k) st) : (SC prog w A SI) (gallop' left key arr base n hint) Q st := by
  have ask : ∀ (i : Nat) (R : Option Bool → SortSt → Prop), i < n → R (some (P i)) st → (SC prog w A SI) (do let x ← elem' arr (base + i); if left = true then lt' x key else do let y ← lt' key x; pure (y.map (!·))) R st := fun i R hi hR => by
    obtain ⟨x, hx, hd⟩ := ha i hi
    exact sc_beyond c hk hx hd (by rw [← hP i x hi hx]; exact hR)
  rw [gallop'_eq]
  refine sc_bind (ask hint _ hh ?_)
  dsimp only
  split
  · rename_i hr
    refine sc_bind (sc_mono (sc_range (Q := fun x st' => st' = st ∧ ∃ l o, x = (none, l, o) ∧ l < o ∧ hint + l < n ∧ P (hint + l) = true ∧ (n - hint ≤ o ∨ (hint + o < n ∧ P (hint + o) = false)))
      (fun j x st' => st' = st ∧ ∃ l o, x = (none, l, o) ∧ l < o ∧ hint + l < n ∧ P (hint + l) = true ∧ j < o) (Nat.zero_le _) ⟨rfl, 0, 1, rfl, by omega, by omega, hr, by omega⟩ ?_ ?_) ?_)
    · rintro j x st' _ hj ⟨rfl, l, o, rfl, hlo, hln, hp, hjo⟩
      dsimp only
      by_cases hge : o ≥ n - hint
      · rw [if_pos hge]
        exact sc_pure ⟨rfl, l, o, rfl, hlo, hln, hp, .inl hge⟩
      · rw [if_neg hge]
        refine sc_bind (ask _ _ (by omega) ?_)
        dsimp only
        cases hq : P (hint + o) with
        | true =>
          rw [if_neg (by simp)]
          exact sc_pure ⟨rfl, o, _, rfl, by omega, by omega, hq, by omega⟩
        | false =>
          rw [if_pos (by simp)]
          exact sc_pure ⟨rfl, l, o, rfl, hlo, hln, hp, .inr ⟨by omega, hq⟩⟩
    · rintro x st' ⟨rfl, l, o, rfl, hlo, hln, hp, hjo⟩
      exact ⟨rfl, l, o, rfl, hlo, hln, hp, .inl (by omega)⟩
    · rintro x st0 ⟨e0, l, o, rfl, hlo, hln, hp, ho⟩
      subst e0
      dsimp only
      have z1 : ∀ i, i < hint + l + 1 → P i = true := fun i hi => hmono i _ (by omega) hln hp
      have z2 : ∀ i, hint + min o (n - hint) ≤ i → i < n → P i = false := fun i hi hin => by
        rcases ho with ho | ⟨ho, hq⟩
        · omega
        · cases hz : P i with
          | false => rfl
          | true => rw [hmono _ i (by omega) hin hz] at hq; cases hq
      have z3 : hint + l + 1 ≤ hint + min o (n - hint) := by omega
      have z4 : hint + min o (n - hint) ≤ n := by omega
      refine sc_bind (sc_mono (sc_range (Q := fun x st' => st' = st0 ∧ ∃ k, x = (none, k, k) ∧ k ≤ n ∧ (∀ i, i < k → P i = true) ∧ (∀ i, k ≤ i → i < n → P i = false))
        (fun j x st' => st' = st0 ∧ ∃ l k, x = (none, l, k) ∧ l ≤ k ∧ k - l ≤ n - j ∧ k ≤ n ∧ (∀ i, i < l → P i = true) ∧ (∀ i, k ≤ i → i < n → P i = false)) (Nat.zero_le _) ⟨rfl, _, _, rfl, z3, by omega, z4, z1, z2⟩ ?_ ?_) ?_)
      · rintro j x st' _ hj ⟨rfl, l, k, rfl, hlk, hm, hk, p1, p2⟩
        dsimp only
        by_cases hge : l ≥ k
        · rw [if_pos hge]
          have : l = k := by omega
          subst this
          exact sc_pure ⟨rfl, l, rfl, hk, p1, p2⟩
        · rw [if_neg hge]
          have hmid : l + (k - l) / 2 < k := by omega
          refine sc_bind (ask _ _ (by omega) ?_)
          dsimp only
          cases hp : P (l + (k - l) / 2) with
          | true =>
            rw [if_pos rfl]
            exact sc_pure ⟨rfl, _, _, rfl, by omega, by omega, hk, fun i hi => hmono i _ (by omega) (by omega) hp, p2⟩
          | false =>
            rw [if_neg (by simp)]
            refine sc_pure ⟨rfl, _, _, rfl, by omega, by omega, by omega, p1, fun i hi hin => ?_⟩
            cases hq : P i with
            | false => rfl
            | true => rw [hmono _ i hi hin hq] at hp; cases hp
      · rintro x st' ⟨rfl, l, k, rfl, hlk, hm, hk, p1, p2⟩
        have : l = k := by omega
        subst this
        exact ⟨rfl, l, rfl, hk, p1, p2⟩
      · rintro x st' ⟨rfl, k, rfl, hk, p1, p2⟩
        exact sc_pure (h k hk p1 p2)
      
  · rename_i hr
    have hr : P hint = false := by simpa using hr
    refine sc_bind (sc_mono (sc_range (Q := fun x st' => st' = st ∧ ∃ l o, x = (none, l, o) ∧ l < o ∧ l ≤ hint ∧ P (hint - l) = false ∧ (hint + 1 ≤ o ∨ (o ≤ hint ∧ P (hint - o) = true)))
      (fun j x st' => st' = st ∧ ∃ l o, x = (none, l, o) ∧ l < o ∧ l ≤ hint ∧ P (hint - l) = false ∧ j < o) (Nat.zero_le _) ⟨rfl, 0, 1, rfl, by omega, by omega, hr, by omega⟩ ?_ ?_) ?_)
    · rintro j x st' _ hj ⟨rfl, l, o, rfl, hlo, hln, hp, hjo⟩
      dsimp only
      by_cases hge : o ≥ hint + 1
      · rw [if_pos hge]
        exact sc_pure ⟨rfl, l, o, rfl, hlo, hln, hp, .inl hge⟩
      · rw [if_neg hge]
        refine sc_bind (ask _ _ (by omega) ?_)
        dsimp only
        cases hq : P (hint - o) with
        | false =>
          rw [if_neg (by simp)]
          exact sc_pure ⟨rfl, o, _, rfl, by omega, by omega, hq, by omega⟩
        | true =>
          rw [if_pos rfl]
          exact sc_pure ⟨rfl, l, o, rfl, hlo, hln, hp, .inr ⟨by omega, hq⟩⟩
    · rintro x st' ⟨rfl, l, o, rfl, hlo, hln, hp, hjo⟩
      exact ⟨rfl, l, o, rfl, hlo, hln, hp, .inl (by omega)⟩
    · rintro x st0 ⟨e0, l, o, rfl, hlo, hln, hp, ho⟩
      subst e0
      dsimp only
      have z1 : ∀ i, i < hint + 1 - min o (hint + 1) → P i = true := fun i hi => by
        rcases ho with ho | ⟨ho, hq⟩
        · omega
        · exact hmono i _ (by omega) (by omega) hq
      have z2 : ∀ i, hint - l ≤ i → i < n → P i = false := fun i hi hin => by
        cases hz : P i with
        | false => rfl
        | true => rw [hmono _ i (by omega) hin hz] at hp; cases hp
      have z3 : hint + 1 - min o (hint + 1) ≤ hint - l := by omega
      have z4 : hint - l ≤ n := by omega
      refine sc_bind (sc_mono (sc_range (Q := fun x st' => st' = st0 ∧ ∃ k, x = (none, k, k) ∧ k ≤ n ∧ (∀ i, i < k → P i = true) ∧ (∀ i, k ≤ i → i < n → P i = false))
        (fun j x st' => st' = st0 ∧ ∃ l k, x = (none, l, k) ∧ l ≤ k ∧ k - l ≤ n - j ∧ k ≤ n ∧ (∀ i, i < l → P i = true) ∧ (∀ i, k ≤ i → i < n → P i = false)) (Nat.zero_le _) ⟨rfl, _, _, rfl, z3, by omega, z4, z1, z2⟩ ?_ ?_) ?_)
      · rintro j x st' _ hj ⟨rfl, l, k, rfl, hlk, hm, hk, p1, p2⟩
        dsimp only
        by_cases hge : l ≥ k
        · rw [if_pos hge]
          have : l = k := by omega
          subst this
          exact sc_pure ⟨rfl, l, rfl, hk, p1, p2⟩
        · rw [if_neg hge]
          have hmid : l + (k - l) / 2 < k := by omega
          refine sc_bind (ask _ _ (by omega) ?_)
          dsimp only
          cases hp : P (l + (k - l) / 2) with
          | true =>
            rw [if_pos rfl]
            exact sc_pure ⟨rfl, _, _, rfl, by omega, by omega, hk, fun i hi => hmono i _ (by omega) (by omega) hp, p2⟩
          | false =>
            rw [if_neg (by simp)]
            refine sc_pure ⟨rfl, _, _, rfl, by omega, by omega, by omega, p1, fun i hi hin => ?_⟩
            cases hq : P i with
            | false => rfl
            | true => rw [hmono _ i hi hin hq] at hp; cases hp
      · rintro x st' ⟨rfl, l, k, rfl, hlk, hm, hk, p1, p2⟩
        have : l = k := by omega
        subst this
        exact ⟨rfl, l, rfl, hk, p1, p2⟩
      · rintro x st' ⟨rfl, k, rfl, hk, p1, p2⟩
        exact sc_pure (h k hk p1 p2)
      
end
end SBig
namespace SBig
open PySem PyProof.Rows
noncomputable def mergeLo' : Array Keyed → Array Keyed → StateT SortSt Sem (Array Keyed) := sortPriv% PySem.Builtin.mergeLo
noncomputable def mergeHi' : Array Keyed → Array Keyed → StateT SortSt Sem (Array Keyed) := sortPriv% PySem.Builtin.mergeHi
noncomputable def setMinGallop' : Nat → StateT SortSt Sem Unit := sortPriv% PySem.Builtin.setMinGallop
theorem setMinGallop'_eq (g : Nat) : setMinGallop' g = modify (fun s => SortSt.mk' (kindOf s) (arrOf s) (pendingOf s) g (failedOf s)) := rfl
theorem mergeLo'_eq (a b : Array Keyed) : mergeLo' a b = (do
  rule "list.sort.merge-lo"
  let total := a.size + b.size
  let done (out : Array Keyed) (ia ib : Nat) := out ++ a.extract ia a.size ++ b.extract ib b.size
  let lastOfA (out : Array Keyed) (ia ib : Nat) := out ++ b.extract ib b.size ++ a.extract ia a.size
  let mut out : Array Keyed := #[← elem' b 0]
  let mut ia := 0
  let mut ib := 1
  if ib == b.size then return done out ia ib
  if ia + 1 == a.size then return lastOfA out ia ib
  let mut minGallop := gallopOf (← get)
  for _ in [0:total] do
    let mut acount := 0
    let mut bcount := 0
    for _ in [0:total] do
      let some bWins ← lt' (← elem' b ib) (← elem' a ia) | return done out ia ib
      if bWins then
        out := out.push (← elem' b ib); ib := ib + 1; bcount := bcount + 1; acount := 0
        if ib == b.size then return done out ia ib
        if bcount ≥ minGallop then break
      else
        out := out.push (← elem' a ia); ia := ia + 1; acount := acount + 1; bcount := 0
        if ia + 1 == a.size then return lastOfA out ia ib
        if acount ≥ minGallop then break
    rule "list.sort.gallop"
    minGallop := minGallop + 1
    for _ in [0:total] do
      if minGallop > 1 then minGallop := minGallop - 1
      setMinGallop' minGallop
      let some k ← gallop' false (← elem' b ib) a ia (a.size - ia) 0 | return done out ia ib
      acount := k
      if k > 0 then
        out := out ++ a.extract ia (ia + k); ia := ia + k
        if ia + 1 == a.size then return lastOfA out ia ib
        if ia == a.size then return done out ia ib
      out := out.push (← elem' b ib); ib := ib + 1
      if ib == b.size then return done out ia ib
      let some k ← gallop' true (← elem' a ia) b ib (b.size - ib) 0 | return done out ia ib
      bcount := k
      if k > 0 then
        out := out ++ b.extract ib (ib + k); ib := ib + k
        if ib == b.size then return done out ia ib
      out := out.push (← elem' a ia); ia := ia + 1
      if ia + 1 == a.size then return lastOfA out ia ib
      if acount < 7 && bcount < 7 then break
    minGallop := minGallop + 1
    setMinGallop' minGallop
  unsupported "internal:list.sort.merge-bound") := rfl
noncomputable def Srt (N : Keyed → Nat) (l : List Keyed) : Prop := l.Pairwise fun x y => N x ≤ N y
theorem Srt.drop {N : Keyed → Nat} {l : List Keyed} (h : Srt N l) (k : Nat) : Srt N (l.drop k) := List.Pairwise.sublist (List.drop_sublist _ _) h
theorem Srt.le {N : Keyed → Nat} {l : List Keyed} (h : Srt N l) {i j : Nat} {x y : Keyed} (hij : i ≤ j) (hx : l[i]? = some x) (hy : l[j]? = some y) : N x ≤ N y := by
  rcases Nat.eq_or_lt_of_le hij with e | e
  · subst e
    rw [hx] at hy
    cases hy
    exact Nat.le_refl _
  · obtain ⟨h1, e1⟩ := List.getElem?_eq_some_iff.mp hx
    obtain ⟨h2, e2⟩ := List.getElem?_eq_some_iff.mp hy
    have := List.pairwise_iff_getElem.mp h i j h1 h2 e
    rwa [e1, e2] at this
theorem mem_drop_at {l : List Keyed} {k : Nat} {y : Keyed} (h : y ∈ l.drop k) : ∃ j, k ≤ j ∧ j < l.length ∧ l[j]? = some y := by
  obtain ⟨i, hi⟩ := List.getElem?_of_mem h
  rw [List.getElem?_drop] at hi
  exact ⟨k + i, by omega, (List.getElem?_eq_some_iff.mp hi).1, hi⟩
theorem mem_take_at {l : List Keyed} {i k : Nat} {x : Keyed} (h : x ∈ (l.drop i).take k) : ∃ j, j < k ∧ l[i + j]? = some x := by
  obtain ⟨j, hj⟩ := List.getElem?_of_mem h
  rw [List.getElem?_take] at hj
  split at hj
  · rw [List.getElem?_drop] at hj
    exact ⟨j, by assumption, hj⟩
  · cases hj
theorem Srt.drop_le {N : Keyed → Nat} {l : List Keyed} (h : Srt N l) {i : Nat} {x y : Keyed} (hx : l[i]? = some x) (hy : y ∈ l.drop i) : N x ≤ N y := by
  obtain ⟨j, hj, _, e⟩ := mem_drop_at hy
  exact h.le hj hx e
structure MI (N : Keyed → Nat) (A B out : List Keyed) (ia ib : Nat) : Prop where
  perm : (out ++ A.drop ia ++ B.drop ib).Perm (A ++ B)
  srt : Srt N out
  ca : ∀ x ∈ out, ∀ y ∈ A.drop ia, N x ≤ N y
  cb : ∀ x ∈ out, ∀ y ∈ B.drop ib, N x ≤ N y
theorem MI.zero (N : Keyed → Nat) (A B : List Keyed) : MI N A B [] 0 0 := ⟨by simp, List.Pairwise.nil, fun _ h => (nomatch h), fun _ h => (nomatch h)⟩
theorem MI.takeA {N : Keyed → Nat} {A B out : List Keyed} {ia ib : Nat} (h : MI N A B out ia ib) (hA : Srt N A) (k : Nat) (hle : ∀ x ∈ (A.drop ia).take k, ∀ y ∈ B.drop ib, N x ≤ N y) : MI N A B (out ++ (A.drop ia).take k) (ia + k) ib := by
  have e : A.drop ia = (A.drop ia).take k ++ A.drop (ia + k) := by rw [← List.drop_drop]; exact (List.take_append_drop k _).symm
  have sA : ((A.drop ia).take k ++ A.drop (ia + k)).Pairwise fun x y => N x ≤ N y := by rw [← e]; exact hA.drop ia
  obtain ⟨s1, _, s3⟩ := List.pairwise_append.mp sA
  refine ⟨?_, List.pairwise_append.mpr ⟨h.srt, s1, fun x hx y hy => h.ca x hx y (List.mem_of_mem_take hy)⟩, fun x hx y hy => ?_, fun x hx y hy => ?_⟩
  · have p := h.perm
    rw [e] at p
    rwa [← List.append_assoc] at p
  · rcases List.mem_append.mp hx with hx | hx
    · exact h.ca x hx y (by rw [e]; exact List.mem_append_right _ hy)
    · exact s3 x hx y hy
  · rcases List.mem_append.mp hx with hx | hx
    · exact h.cb x hx y hy
    · exact hle x hx y hy
theorem MI.takeB {N : Keyed → Nat} {A B out : List Keyed} {ia ib : Nat} (h : MI N A B out ia ib) (hB : Srt N B) (k : Nat) (hle : ∀ x ∈ (B.drop ib).take k, ∀ y ∈ A.drop ia, N x ≤ N y) : MI N A B (out ++ (B.drop ib).take k) ia (ib + k) := by
  have e : B.drop ib = (B.drop ib).take k ++ B.drop (ib + k) := by rw [← List.drop_drop]; exact (List.take_append_drop k _).symm
  have sB : ((B.drop ib).take k ++ B.drop (ib + k)).Pairwise fun x y => N x ≤ N y := by rw [← e]; exact hB.drop ib
  obtain ⟨s1, _, s3⟩ := List.pairwise_append.mp sB
  refine ⟨?_, List.pairwise_append.mpr ⟨h.srt, s1, fun x hx y hy => h.cb x hx y (List.mem_of_mem_take hy)⟩, fun x hx y hy => ?_, fun x hx y hy => ?_⟩
  · have p := h.perm
    rw [e] at p
    refine List.Perm.trans ?_ p
    rw [List.append_assoc, List.append_assoc, List.append_assoc]
    refine List.Perm.append_left _ ?_
    rw [← List.append_assoc, ← List.append_assoc]
    exact List.Perm.append_right _ List.perm_append_comm
  · rcases List.mem_append.mp hx with hx | hx
    · exact h.ca x hx y hy
    · exact hle x hx y hy
  · rcases List.mem_append.mp hx with hx | hx
    · exact h.cb x hx y (by rw [e]; exact List.mem_append_right _ hy)
    · exact s3 x hx y hy
/-- sorted, and the items of both -/
noncomputable def Good (N : Keyed → Nat) (A B r : List Keyed) : Prop := Srt N r ∧ r.Perm (A ++ B)
theorem MI.done {N : Keyed → Nat} {A B out : List Keyed} {ia ib : Nat} (h : MI N A B out ia ib) (hA : Srt N A) (hB : Srt N B) (hx : ∀ x ∈ A.drop ia, ∀ y ∈ B.drop ib, N x ≤ N y) : Good N A B (out ++ A.drop ia ++ B.drop ib) :=
  ⟨List.pairwise_append.mpr ⟨List.pairwise_append.mpr ⟨h.srt, hA.drop ia, h.ca⟩, hB.drop ib, fun x hx' y hy => (List.mem_append.mp hx').elim (fun q => h.cb x q y hy) fun q => hx x q y hy⟩, h.perm⟩
theorem MI.last {N : Keyed → Nat} {A B out : List Keyed} {ia ib : Nat} (h : MI N A B out ia ib) (hA : Srt N A) (hB : Srt N B) (hx : ∀ y ∈ B.drop ib, ∀ x ∈ A.drop ia, N y ≤ N x) : Good N A B (out ++ B.drop ib ++ A.drop ia) := by
  refine ⟨List.pairwise_append.mpr ⟨List.pairwise_append.mpr ⟨h.srt, hB.drop ib, h.cb⟩, hA.drop ia, fun x hx' y hy => (List.mem_append.mp hx').elim (fun q => h.ca x q y hy) fun q => hx x q y hy⟩, List.Perm.trans ?_ h.perm⟩
  rw [List.append_assoc, List.append_assoc]
  exact List.Perm.append_left _ List.perm_append_comm
theorem take_one {l : List Keyed} {i : Nat} {x : Keyed} (h : l[i]? = some x) : (l.drop i).take 1 = [x] := by
  obtain ⟨hl, e⟩ := List.getElem?_eq_some_iff.mp h
  rw [List.drop_eq_getElem_cons hl, e]
  rfl
theorem MI.oneA {N : Keyed → Nat} {A B out : List Keyed} {ia ib : Nat} {x : Keyed} (h : MI N A B out ia ib) (hA : Srt N A) (hx : A[ia]? = some x) (hle : ∀ y ∈ B.drop ib, N x ≤ N y) : MI N A B (out ++ [x]) (ia + 1) ib := by
  have := h.takeA hA 1 (by rw [take_one hx]; intro z hz; rw [List.mem_singleton.mp hz]; exact hle)
  rwa [take_one hx] at this
theorem MI.oneB {N : Keyed → Nat} {A B out : List Keyed} {ia ib : Nat} {x : Keyed} (h : MI N A B out ia ib) (hB : Srt N B) (hx : B[ib]? = some x) (hle : ∀ y ∈ A.drop ia, N x ≤ N y) : MI N A B (out ++ [x]) ia (ib + 1) := by
  have := h.takeB hB 1 (by rw [take_one hx]; intro z hz; rw [List.mem_singleton.mp hz]; exact hle)
  rwa [take_one hx] at this
theorem ext_list (a : Array Keyed) (i j : Nat) : (a.extract i j).toList = (a.toList.drop i).take (j - i) := by
  rw [Array.toList_extract, List.extract_eq_take_drop]
theorem ext_all (a : Array Keyed) (i : Nat) : (a.extract i a.size).toList = a.toList.drop i := by
  rw [ext_list, List.take_of_length_le]
  rw [List.length_drop, Array.length_toList]
  exact Nat.le_refl _
/-- nothing but how soon it gallops is changed -/
noncomputable def SG (st st' : SortSt) : Prop := kindOf st' = kindOf st ∧ arrOf st' = arrOf st ∧ pendingOf st' = pendingOf st ∧ failedOf st' = failedOf st
theorem SG.refl (st : SortSt) : SG st st := ⟨rfl, rfl, rfl, rfl⟩
theorem SG.set {st st' : SortSt} (h : SG st st') (g : Nat) : SG st (SortSt.mk' (kindOf st') (arrOf st') (pendingOf st') g (failedOf st')) := h
end SBig
namespace SBig
open PySem PyProof.Rows
section
variable {prog : Program} {w : World} {A : Around} {SI : Shared → Prop} {α β : Type}
theorem at_list {a : Array Keyed} {i : Nat} (h : i < a.size) : a[i]? = some a[i] ∧ a.toList[i]? = some a[i] := ⟨by simp [h], by simp [h]⟩
theorem ext_add (a : Array Keyed) (i k : Nat) : (a.extract i (i + k)).toList = (a.toList.drop i).take k := by
  rw [ext_list, Nat.add_sub_cancel_left]
theorem galA_mono {N : Keyed → Nat} {a : Array Keyed} {ia : Nat} {key d : Keyed} (hA : Srt N a.toList) {i j : Nat} (hij : i ≤ j) (hj : ia + j < a.size) (h : ahead N false key (a.getD (ia + j) d) = true) : ahead N false key (a.getD (ia + i) d) = true := by
  have e : ∀ (i : Nat) (hi : ia + i < a.size), a.getD (ia + i) d = a[ia + i] := fun i hi => by simp [Array.getD, hi]
  rw [e j hj] at h
  rw [e i (by omega)]
  have l := hA.le (i := ia + i) (j := ia + j) (by omega) (at_list (by omega)).2 (at_list hj).2
  unfold ahead at h ⊢
  simp only [Bool.false_eq_true, if_false, Bool.not_eq_true', decide_eq_false_iff_not] at h ⊢
  omega
theorem galB_mono {N : Keyed → Nat} {a : Array Keyed} {ia : Nat} {key d : Keyed} (hA : Srt N a.toList) {i j : Nat} (hij : i ≤ j) (hj : ia + j < a.size) (h : ahead N true key (a.getD (ia + j) d) = true) : ahead N true key (a.getD (ia + i) d) = true := by
  have e : ∀ (i : Nat) (hi : ia + i < a.size), a.getD (ia + i) d = a[ia + i] := fun i hi => by simp [Array.getD, hi]
  rw [e j hj] at h
  rw [e i (by omega)]
  have l := hA.le (i := ia + i) (j := ia + j) (by omega) (at_list (by omega)).2 (at_list hj).2
  unfold ahead at h ⊢
  simp only [if_true, decide_eq_true_eq] at h ⊢
  omega
theorem galA {N : Keyed → Nat} {a : Array Keyed} {ia n k : Nat} {key d : Keyed} (p1 : ∀ i, i < k → ahead N false key (a.getD (ia + i) d) = true) (p2 : ∀ i, k ≤ i → i < n → ahead N false key (a.getD (ia + i) d) = false) :
    (∀ i x, i < k → a[ia + i]? = some x → N x ≤ N key) ∧ ∀ i x, k ≤ i → i < n → a[ia + i]? = some x → N key < N x := by
  refine ⟨fun i x hi e => ?_, fun i x hi hn e => ?_⟩
  · have := p1 i hi
    rw [Array.getD_eq_getD_getElem?, e] at this
    unfold ahead at this
    simpa using this
  · have := p2 i hi hn
    rw [Array.getD_eq_getD_getElem?, e] at this
    unfold ahead at this
    simpa using this
theorem galB {N : Keyed → Nat} {a : Array Keyed} {ia n k : Nat} {key d : Keyed} (p1 : ∀ i, i < k → ahead N true key (a.getD (ia + i) d) = true) (p2 : ∀ i, k ≤ i → i < n → ahead N true key (a.getD (ia + i) d) = false) :
    (∀ i x, i < k → a[ia + i]? = some x → N x < N key) ∧ ∀ i x, k ≤ i → i < n → a[ia + i]? = some x → N key ≤ N x := by
  refine ⟨fun i x hi e => ?_, fun i x hi hn e => ?_⟩
  · have := p1 i hi
    rw [Array.getD_eq_getD_getElem?, e] at this
    unfold ahead at this
    simpa using this
  · have := p2 i hi hn
    rw [Array.getD_eq_getD_getElem?, e] at this
    unfold ahead at this
    simpa using this
/-- where a and b stand, and what is out -/
structure ML (N : Keyed → Nat) (a b out : Array Keyed) (ia ib : Nat) : Prop where
  mi : MI N a.toList b.toList out.toList ia ib
  na : ia + 1 < a.size
  nb : ib < b.size
  sz : out.size = ia + ib
theorem sc_mergeLo {D : Keyed → Prop} {N : Keyed → Nat} {a b : Array Keyed} {Q : Array Keyed → SortSt → Prop} {st : SortSt} (c : Cmp prog w A SI (kindOf st) D N) (hA : Srt N a.toList) (hB : Srt N b.toList) (dA : ∀ x ∈ a.toList, D x) (dB : ∀ x ∈ b.toList, D x)
    (ha : 1 ≤ a.size) (hb : 1 ≤ b.size) (h0 : ∀ x y, b.toList[0]? = some x → a.toList[0]? = some y → N x ≤ N y) (hl : ∀ y ∈ b.toList, ∀ x ∈ a.toList.drop (a.size - 1), N y ≤ N x)
    (h : ∀ r st', SG st st' → Good N a.toList b.toList r.toList → Q r st') : (SC prog w A SI) (mergeLo' a b) Q st := by
  have DA : ∀ {i : Nat} (hi : i < a.size), D a[i] := fun hi => dA _ (by simp)
  have DB : ∀ {i : Nat} (hi : i < b.size), D b[i] := fun hi => dB _ (by simp)
  have fd : ∀ (out : Array Keyed) (ia ib : Nat), MI N a.toList b.toList out.toList ia ib → (a.size ≤ ia ∨ b.size ≤ ib) → Good N a.toList b.toList (out ++ a.extract ia a.size ++ b.extract ib b.size).toList := fun out ia ib m q => by
    rw [Array.toList_append, Array.toList_append, ext_all, ext_all]
    refine m.done hA hB fun x hx y hy => ?_
    rcases q with q | q
    · obtain ⟨j, h1, h2, _⟩ := mem_drop_at hx
      rw [Array.length_toList] at h2
      omega
    · obtain ⟨j, h1, h2, _⟩ := mem_drop_at hy
      rw [Array.length_toList] at h2
      omega
  have fl : ∀ (out : Array Keyed) (ia ib : Nat), MI N a.toList b.toList out.toList ia ib → ia + 1 = a.size → Good N a.toList b.toList (out ++ b.extract ib b.size ++ a.extract ia a.size).toList := fun out ia ib m q => by
    rw [Array.toList_append, Array.toList_append, ext_all, ext_all]
    exact m.last hA hB fun y hy x hx => hl y (List.mem_of_mem_drop hy) x (by rw [show a.size - 1 = ia by omega]; exact hx)
  rw [mergeLo'_eq]
  refine sc_bind (sc_rule ?_)
  dsimp only
  obtain ⟨eb, eb'⟩ := at_list (a := b) (i := 0) (by omega)
  refine sc_bind (sc_elem eb ?_)
  have m0 : MI N a.toList b.toList #[b[0]].toList 0 1 := (MI.zero N a.toList b.toList).oneB hB eb' fun y hy => by
    obtain ⟨ea, ea'⟩ := at_list (a := a) (i := 0) (by omega)
    exact Nat.le_trans (h0 _ _ eb' ea') (hA.drop_le ea' hy)
  by_cases q1 : 1 = b.size
  · rw [if_pos (by simp [← q1])]
    exact sc_pure (h _ st (SG.refl _) (fd _ _ _ m0 (.inr (by omega))))
  rw [if_neg (by simp; omega)]
  by_cases q2 : 0 + 1 = a.size
  · rw [if_pos (by simp [← q2])]
    exact sc_pure (h _ st (SG.refl _) (fl _ _ _ m0 q2))
  rw [if_neg (by simp at q2 ⊢; omega)]
  refine sc_bind (sc_get ?_)
  refine sc_bind (sc_mono (sc_range (Q := fun x st' => SG st st' ∧ ∃ r, x.1 = some r ∧ Good N a.toList b.toList r.toList)
    (fun j x st' => SG st st' ∧ ∃ out ia ib g, x = (none, out, ia, ib, g) ∧ ML N a b out ia ib ∧ j + 1 ≤ out.size) (Nat.zero_le _) ⟨SG.refl _, _, _, _, _, rfl, ⟨m0, by omega, by omega, rfl⟩, Nat.le_refl _⟩ ?_ ?_) ?_)
  · rintro j x st1 _ hj ⟨sg, out, ia, ib, g, rfl, m, hsz⟩
    dsimp only
    refine sc_bind (sc_mono (sc_range (Q := fun x st' => SG st st' ∧ ((∃ r o, x = (some r, o) ∧ Good N a.toList b.toList r.toList) ∨ ∃ out ia ib ac bc, x = (none, out, ia, ib, ac, bc) ∧ ML N a b out ia ib ∧ j + 2 ≤ out.size))
      (fun j2 x st' => SG st st' ∧ ∃ out ia ib ac bc, x = (none, out, ia, ib, ac, bc) ∧ ML N a b out ia ib ∧ j + 1 + j2 ≤ out.size) (Nat.zero_le _) ⟨sg, _, _, _, _, _, rfl, m, hsz⟩ ?_ ?_) ?_)
    · rintro j2 x st2 _ hj2 ⟨sg2, out, ia, ib, ac, bc, rfl, m, hsz⟩
      dsimp only
      obtain ⟨ea, ea'⟩ := at_list (a := a) (i := ia) (by have := m.na; omega)
      obtain ⟨eb, eb'⟩ := at_list (a := b) (i := ib) m.nb
      refine sc_bind (sc_elem eb (sc_bind (sc_elem ea (sc_bind (sc_lt (by rw [sg2.1]; exact c) (DB m.nb) (DA (by have := m.na; omega)) ?_)))))
      dsimp only
      have hia : ia < a.size := by have := m.na; omega
      have hib := m.nb
      by_cases hlt : N b[ib] < N a[ia]
      · rw [decide_eq_true hlt, if_pos rfl]
        refine sc_bind (sc_elem eb ?_)
        have m2 : MI N a.toList b.toList (out.push b[ib]).toList ia (ib + 1) := by
          rw [Array.toList_push]
          exact m.mi.oneB hB eb' fun y hy => Nat.le_trans (Nat.le_of_lt hlt) (hA.drop_le ea' hy)
        by_cases q : ib + 1 = b.size
        · rw [if_pos (by simp [q])]
          exact sc_pure ⟨sg2, .inl ⟨_, _, rfl, fd _ _ _ m2 (.inr (by omega))⟩⟩
        · rw [if_neg (by simp [q])]
          have := m.nb
          have m3 : ML N a b (out.push b[ib]) ia (ib + 1) := ⟨m2, m.na, by omega, by rw [Array.size_push, m.sz]; omega⟩
          split
          · exact sc_pure ⟨sg2, .inr ⟨_, _, _, _, _, rfl, m3, by rw [Array.size_push]; omega⟩⟩
          · exact sc_pure ⟨sg2, _, _, _, _, _, rfl, m3, by rw [Array.size_push]; omega⟩
      · rw [decide_eq_false hlt, if_neg (by simp)]
        refine sc_bind (sc_elem ea ?_)
        have m2 : MI N a.toList b.toList (out.push a[ia]).toList (ia + 1) ib := by
          rw [Array.toList_push]
          exact m.mi.oneA hA ea' fun y hy => Nat.le_trans (Nat.le_of_not_lt hlt) (hB.drop_le eb' hy)
        by_cases q : ia + 1 + 1 = a.size
        · rw [if_pos (by simp [q])]
          exact sc_pure ⟨sg2, .inl ⟨_, _, rfl, fl _ _ _ m2 q⟩⟩
        · rw [if_neg (by simp [q])]
          have := m.na
          have m3 : ML N a b (out.push a[ia]) (ia + 1) ib := ⟨m2, by omega, m.nb, by rw [Array.size_push, m.sz]; omega⟩
          split
          · exact sc_pure ⟨sg2, .inr ⟨_, _, _, _, _, rfl, m3, by rw [Array.size_push]; omega⟩⟩
          · exact sc_pure ⟨sg2, _, _, _, _, _, rfl, m3, by rw [Array.size_push]; omega⟩
    · rintro x st2 ⟨sg2, out, ia, ib, ac, bc, rfl, m, hsz⟩
      exact ⟨sg2, .inr ⟨_, _, _, _, _, rfl, m, by omega⟩⟩
    · rintro x st2 ⟨sg2, ⟨r, o, rfl, gd⟩ | ⟨out, ia, ib, ac, bc, rfl, m, hsz⟩⟩
      · exact sc_pure ⟨sg2, r, rfl, gd⟩
      · dsimp only
        refine sc_bind (sc_rule ?_)
        refine sc_bind (sc_mono (sc_range (Q := fun x st' => SG st st' ∧ ((∃ r o, x = (some r, o) ∧ Good N a.toList b.toList r.toList) ∨ ∃ out ia ib g ac bc, x = (none, out, ia, ib, g, ac, bc) ∧ ML N a b out ia ib ∧ j + 2 ≤ out.size))
          (fun j2 x st' => SG st st' ∧ ∃ out ia ib g ac bc, x = (none, out, ia, ib, g, ac, bc) ∧ ML N a b out ia ib ∧ j + 2 ≤ out.size) (Nat.zero_le _) ⟨sg2, _, _, _, _, _, _, rfl, m, hsz⟩ ?_ ?_) ?_)
        · rintro j2 x st2 _ hj2 ⟨sg2, out, ia, ib, g, ac, bc, rfl, m, hsz⟩
          dsimp only
          have hib := m.nb
          obtain ⟨eb, eb'⟩ := at_list (a := b) (i := ib) hib
          by_cases hg : g > 1
          all_goals
            first | rw [if_pos hg] | rw [if_neg hg]
            rw [setMinGallop'_eq]
            refine sc_bind (sc_modify ?_)
            refine sc_bind (sc_elem eb ?_)
            refine sc_bind (sc_gallop (by rw [show kindOf _ = kindOf st from sg2.1]; exact c) (DB hib) (fun i hi => ⟨a[ia + i]'(by omega), (at_list (by omega)).1, DA (by omega)⟩) (fun i => ahead N false b[ib] (a.getD (ia + i) b[ib]))
              (fun i x hi hx => by rw [Array.getD_eq_getD_getElem?, hx]; rfl) (fun i i' hii hi hp => galA_mono hA hii (by omega) hp) (by have := m.na; omega) fun k hk p1 p2 => ?_)
            dsimp only
            have ga := galA p1 p2
            have mk := m.mi.takeA hA k (fun x hx y hy => by
              obtain ⟨i, hi, e⟩ := mem_take_at hx
              exact Nat.le_trans (ga.1 i x hi (by simpa using e)) (hB.drop_le eb' hy))
            by_cases hk00 : k > 0
            · rw [if_pos hk00]
              rw [← ext_add, ← Array.toList_append] at mk
              by_cases q1 : ia + k + 1 = a.size
              · rw [if_pos (by simp [q1])]
                exact sc_pure ⟨sg2.set _, .inl ⟨_, _, rfl, fl _ _ _ mk q1⟩⟩
              rw [if_neg (by simp [q1])]
              by_cases q2 : ia + k = a.size
              · rw [if_pos (by simp [q2])]
                exact sc_pure ⟨sg2.set _, .inl ⟨_, _, rfl, fd _ _ _ mk (.inl (by omega))⟩⟩
              rw [if_neg (by simp [q2])]
              refine sc_bind (sc_elem eb ?_)
              obtain ⟨ia2, hia2⟩ : ∃ ia2, ia2 = (ia + k) := ⟨_, rfl⟩
              rw [← hia2] at mk ⊢
              have hna2 : ia2 + 1 < a.size := by rw [hia2]; exact (by omega)
              obtain ⟨ea2, ea2'⟩ := at_list (a := a) (i := ia2) (by omega)
              have mb := MI.oneB mk hB eb' (fun y hy => by
                obtain ⟨j, h1, h2, e⟩ := mem_drop_at hy
                rw [Array.length_toList] at h2
                exact Nat.le_of_lt (ga.2 (j - ia) y (by omega) (by omega) (by rw [show ia + (j - ia) = j by omega]; simpa using e)))
              rw [← Array.toList_push] at mb
              by_cases q3 : ib + 1 = b.size
              · rw [if_pos (by simp [q3])]
                exact sc_pure ⟨sg2.set _, .inl ⟨_, _, rfl, fd _ _ _ mb (.inr (by omega))⟩⟩
              rw [if_neg (by simp [q3])]
              refine sc_bind (sc_elem ea2 ?_)
              refine sc_bind (sc_gallop (by rw [show kindOf _ = kindOf st from sg2.1]; exact c) (DA (by omega)) (fun i hi => ⟨b[ib + 1 + i]'(by omega), (at_list (by omega)).1, DB (by omega)⟩) (fun i => ahead N true (a[ia2]'(by omega)) (b.getD (ib + 1 + i) b[ib]))
                (fun i x hi hx => by rw [Array.getD_eq_getD_getElem?, hx]; rfl) (fun i i' hii hi hp => galB_mono hB hii (by omega) hp) (by omega) fun k2 hk2 p3 p4 => ?_)
              dsimp only
              have gb := galB p3 p4
              have hle3 : ∀ y ∈ b.toList.drop (ib + 1 + k2), N (a[ia2]'(by omega)) ≤ N y := fun y hy => by
                obtain ⟨j, h1, h2, e⟩ := mem_drop_at hy
                rw [Array.length_toList] at h2
                exact gb.2 (j - (ib + 1)) y (by omega) (by omega) (by rw [show ib + 1 + (j - (ib + 1)) = j by omega]; simpa using e)
              have m3 := mb.takeB hB k2 (fun x hx y hy => by
                obtain ⟨i, hi, e⟩ := mem_take_at hx
                exact Nat.le_trans (Nat.le_of_lt (gb.1 i x hi (by simpa using e))) (hA.drop_le ea2' hy))
              by_cases hk200 : k2 > 0
              · rw [if_pos hk200]
                rw [← ext_add, ← Array.toList_append] at m3
                by_cases q4 : ib + 1 + k2 = b.size
                · rw [if_pos (by simp [q4])]
                  exact sc_pure ⟨sg2.set _, .inl ⟨_, _, rfl, fd _ _ _ m3 (.inr (by omega))⟩⟩
                rw [if_neg (by simp [q4])]
                refine sc_bind (sc_elem ea2 ?_)
                have m4 := MI.oneA m3 hA ea2' hle3
                rw [← Array.toList_push] at m4
                by_cases q5 : ia2 + 1 + 1 = a.size
                · rw [if_pos (by simp [q5])]
                  exact sc_pure ⟨sg2.set _, .inl ⟨_, _, rfl, fl _ _ _ m4 q5⟩⟩
                rw [if_neg (by simp [q5])]
                split
                · exact sc_pure ⟨sg2.set _, .inr ⟨_, _, _, _, _, _, rfl, ⟨m4, by omega, (by omega), by simp [m.sz]; omega⟩, by simp; omega⟩⟩
                · exact sc_pure ⟨sg2.set _, _, _, _, _, _, _, rfl, ⟨m4, by omega, (by omega), by simp [m.sz]; omega⟩, by simp; omega⟩
              · rw [if_neg hk200]
                have hk20 : k2 = 0 := by omega
                subst hk20
                refine sc_bind (sc_elem ea2 ?_)
                have m4 := MI.oneA mb hA ea2' hle3
                rw [← Array.toList_push] at m4
                by_cases q5 : ia2 + 1 + 1 = a.size
                · rw [if_pos (by simp [q5])]
                  exact sc_pure ⟨sg2.set _, .inl ⟨_, _, rfl, fl _ _ _ m4 q5⟩⟩
                rw [if_neg (by simp [q5])]
                split
                · exact sc_pure ⟨sg2.set _, .inr ⟨_, _, _, _, _, _, rfl, ⟨m4, by omega, (by omega), by simp [m.sz]; omega⟩, by simp; omega⟩⟩
                · exact sc_pure ⟨sg2.set _, _, _, _, _, _, _, rfl, ⟨m4, by omega, (by omega), by simp [m.sz]; omega⟩, by simp; omega⟩
            · rw [if_neg hk00]
              have hk0 : k = 0 := by omega
              subst hk0
              have mk := m.mi
              refine sc_bind (sc_elem eb ?_)
              obtain ⟨ia2, hia2⟩ : ∃ ia2, ia2 = ia := ⟨_, rfl⟩
              rw [← hia2] at mk ⊢
              have hna2 : ia2 + 1 < a.size := by rw [hia2]; exact m.na
              obtain ⟨ea2, ea2'⟩ := at_list (a := a) (i := ia2) (by omega)
              have mb := MI.oneB mk hB eb' (fun y hy => by
                obtain ⟨j, h1, h2, e⟩ := mem_drop_at hy
                rw [Array.length_toList] at h2
                exact Nat.le_of_lt (ga.2 (j - ia) y (by omega) (by omega) (by rw [show ia + (j - ia) = j by omega]; simpa using e)))
              rw [← Array.toList_push] at mb
              by_cases q3 : ib + 1 = b.size
              · rw [if_pos (by simp [q3])]
                exact sc_pure ⟨sg2.set _, .inl ⟨_, _, rfl, fd _ _ _ mb (.inr (by omega))⟩⟩
              rw [if_neg (by simp [q3])]
              refine sc_bind (sc_elem ea2 ?_)
              refine sc_bind (sc_gallop (by rw [show kindOf _ = kindOf st from sg2.1]; exact c) (DA (by omega)) (fun i hi => ⟨b[ib + 1 + i]'(by omega), (at_list (by omega)).1, DB (by omega)⟩) (fun i => ahead N true (a[ia2]'(by omega)) (b.getD (ib + 1 + i) b[ib]))
                (fun i x hi hx => by rw [Array.getD_eq_getD_getElem?, hx]; rfl) (fun i i' hii hi hp => galB_mono hB hii (by omega) hp) (by omega) fun k2 hk2 p3 p4 => ?_)
              dsimp only
              have gb := galB p3 p4
              have hle3 : ∀ y ∈ b.toList.drop (ib + 1 + k2), N (a[ia2]'(by omega)) ≤ N y := fun y hy => by
                obtain ⟨j, h1, h2, e⟩ := mem_drop_at hy
                rw [Array.length_toList] at h2
                exact gb.2 (j - (ib + 1)) y (by omega) (by omega) (by rw [show ib + 1 + (j - (ib + 1)) = j by omega]; simpa using e)
              have m3 := mb.takeB hB k2 (fun x hx y hy => by
                obtain ⟨i, hi, e⟩ := mem_take_at hx
                exact Nat.le_trans (Nat.le_of_lt (gb.1 i x hi (by simpa using e))) (hA.drop_le ea2' hy))
              by_cases hk200 : k2 > 0
              · rw [if_pos hk200]
                rw [← ext_add, ← Array.toList_append] at m3
                by_cases q4 : ib + 1 + k2 = b.size
                · rw [if_pos (by simp [q4])]
                  exact sc_pure ⟨sg2.set _, .inl ⟨_, _, rfl, fd _ _ _ m3 (.inr (by omega))⟩⟩
                rw [if_neg (by simp [q4])]
                refine sc_bind (sc_elem ea2 ?_)
                have m4 := MI.oneA m3 hA ea2' hle3
                rw [← Array.toList_push] at m4
                by_cases q5 : ia2 + 1 + 1 = a.size
                · rw [if_pos (by simp [q5])]
                  exact sc_pure ⟨sg2.set _, .inl ⟨_, _, rfl, fl _ _ _ m4 q5⟩⟩
                rw [if_neg (by simp [q5])]
                split
                · exact sc_pure ⟨sg2.set _, .inr ⟨_, _, _, _, _, _, rfl, ⟨m4, by omega, (by omega), by simp [m.sz]; omega⟩, by simp; omega⟩⟩
                · exact sc_pure ⟨sg2.set _, _, _, _, _, _, _, rfl, ⟨m4, by omega, (by omega), by simp [m.sz]; omega⟩, by simp; omega⟩
              · rw [if_neg hk200]
                have hk20 : k2 = 0 := by omega
                subst hk20
                refine sc_bind (sc_elem ea2 ?_)
                have m4 := MI.oneA mb hA ea2' hle3
                rw [← Array.toList_push] at m4
                by_cases q5 : ia2 + 1 + 1 = a.size
                · rw [if_pos (by simp [q5])]
                  exact sc_pure ⟨sg2.set _, .inl ⟨_, _, rfl, fl _ _ _ m4 q5⟩⟩
                rw [if_neg (by simp [q5])]
                split
                · exact sc_pure ⟨sg2.set _, .inr ⟨_, _, _, _, _, _, rfl, ⟨m4, by omega, (by omega), by simp [m.sz]; omega⟩, by simp; omega⟩⟩
                · exact sc_pure ⟨sg2.set _, _, _, _, _, _, _, rfl, ⟨m4, by omega, (by omega), by simp [m.sz]; omega⟩, by simp; omega⟩
        · rintro x st2 ⟨sg2, out, ia, ib, g, ac, bc, rfl, m, hsz⟩
          exact ⟨sg2, .inr ⟨_, _, _, _, _, _, rfl, m, by omega⟩⟩
        · rintro x st2 ⟨sg2, ⟨r, o, rfl, gd⟩ | ⟨out, ia, ib, g, ac, bc, rfl, m, hsz⟩⟩
          · exact sc_pure ⟨sg2, r, rfl, gd⟩
          · dsimp only
            rw [setMinGallop'_eq]
            exact sc_bind (sc_modify (sc_pure ⟨sg2.set _, _, _, _, _, rfl, m, by omega⟩))
  · rintro x st1 ⟨sg, out, ia, ib, g, rfl, m, hsz⟩
    have := m.na
    have := m.nb
    have := m.sz
    omega
  · rintro x st1 ⟨sg, r, hr, gd⟩
    obtain ⟨x1, x2⟩ := x
    dsimp only at hr
    subst hr
    exact sc_pure (h r st1 sg gd)
end
end SBig
namespace SBig
open PySem PyProof.Rows
theorem mergeHi'_eq (a b : Array Keyed) : mergeHi' a b = (do
  rule "list.sort.merge-hi"
  let total := a.size + b.size
  let done (out : Array Keyed) (na nb : Nat) := a.extract 0 na ++ b.extract 0 nb ++ out.reverse
  let firstOfB (out : Array Keyed) (na nb : Nat) := b.extract 0 nb ++ a.extract 0 na ++ out.reverse
  let mut na := a.size - 1
  let mut nb := b.size
  let mut out : Array Keyed := #[← elem' a na]
  if na == 0 then return done out na nb
  if nb == 1 then return firstOfB out na nb
  let mut minGallop := gallopOf (← get)
  for _ in [0:total] do
    let mut acount := 0
    let mut bcount := 0
    for _ in [0:total] do
      let some aWins ← lt' (← elem' b (nb - 1)) (← elem' a (na - 1)) | return done out na nb
      if aWins then
        na := na - 1; out := out.push (← elem' a na); acount := acount + 1; bcount := 0
        if na == 0 then return done out na nb
        if acount ≥ minGallop then break
      else
        nb := nb - 1; out := out.push (← elem' b nb); bcount := bcount + 1; acount := 0
        if nb == 1 then return firstOfB out na nb
        if bcount ≥ minGallop then break
    rule "list.sort.gallop"
    minGallop := minGallop + 1
    for _ in [0:total] do
      if minGallop > 1 then minGallop := minGallop - 1
      setMinGallop' minGallop
      let some at_ ← gallop' false (← elem' b (nb - 1)) a 0 na (na - 1) | return done out na nb
      let k := na - at_
      acount := k
      if k > 0 then
        out := out ++ (a.extract at_ na).reverse; na := at_
        if na == 0 then return done out na nb
      nb := nb - 1; out := out.push (← elem' b nb)
      if nb == 1 then return firstOfB out na nb
      let some at_ ← gallop' true (← elem' a (na - 1)) b 0 nb (nb - 1) | return done out na nb
      let k := nb - at_
      bcount := k
      if k > 0 then
        out := out ++ (b.extract at_ nb).reverse; nb := at_
        if nb == 1 then return firstOfB out na nb
        if nb == 0 then return done out na nb
      na := na - 1; out := out.push (← elem' a na)
      if na == 0 then return done out na nb
      if acount < 7 && bcount < 7 then break
    minGallop := minGallop + 1
    setMinGallop' minGallop
  unsupported "internal:list.sort.merge-bound") := rfl
theorem Srt.take {N : Keyed → Nat} {l : List Keyed} (h : Srt N l) (k : Nat) : Srt N (l.take k) := List.Pairwise.sublist (List.take_sublist _ _) h
theorem mem_take_lt {l : List Keyed} {k : Nat} {x : Keyed} (h : x ∈ l.take k) : ∃ j, j < k ∧ j < l.length ∧ l[j]? = some x := by
  obtain ⟨j, hj⟩ := List.getElem?_of_mem h
  rw [List.getElem?_take] at hj
  split at hj
  · exact ⟨j, by assumption, (List.getElem?_eq_some_iff.mp hj).1, hj⟩
  · cases hj
theorem mem_mid {l : List Keyed} {i k : Nat} {x : Keyed} (h : x ∈ (l.take k).drop i) : ∃ j, i ≤ j ∧ j < k ∧ j < l.length ∧ l[j]? = some x := by
  obtain ⟨j, h1, h2, e⟩ := mem_drop_at h
  rw [List.getElem?_take] at e
  split at e
  · exact ⟨j, h1, by assumption, (List.getElem?_eq_some_iff.mp e).1, e⟩
  · cases e
structure MH (N : Keyed → Nat) (A B O : List Keyed) (na nb : Nat) : Prop where
  perm : (A.take na ++ B.take nb ++ O).Perm (A ++ B)
  srt : Srt N O
  ca : ∀ x ∈ A.take na, ∀ y ∈ O, N x ≤ N y
  cb : ∀ x ∈ B.take nb, ∀ y ∈ O, N x ≤ N y
theorem MH.zero (N : Keyed → Nat) (A B : List Keyed) : MH N A B [] A.length B.length := ⟨by simp, List.Pairwise.nil, fun _ _ _ h => (nomatch h), fun _ _ _ h => (nomatch h)⟩
theorem MH.takeA {N : Keyed → Nat} {A B O : List Keyed} {na nb : Nat} (h : MH N A B O na nb) (hA : Srt N A) (k : Nat) (hk : k ≤ na) (hle : ∀ y ∈ (A.take na).drop k, ∀ x ∈ B.take nb, N x ≤ N y) : MH N A B ((A.take na).drop k ++ O) k nb := by
  have e : A.take na = A.take k ++ (A.take na).drop k := by
    have := (List.take_append_drop k (A.take na)).symm
    rw [List.take_take, Nat.min_eq_left hk] at this
    exact this
  have sA : (A.take k ++ (A.take na).drop k).Pairwise fun x y => N x ≤ N y := by rw [← e]; exact hA.take na
  obtain ⟨_, s2, s3⟩ := List.pairwise_append.mp sA
  refine ⟨?_, List.pairwise_append.mpr ⟨s2, h.srt, fun x hx y hy => h.ca x (List.mem_of_mem_drop hx) y hy⟩, fun x hx y hy => ?_, fun x hx y hy => ?_⟩
  · refine List.Perm.trans ?_ h.perm
    rw [← List.append_assoc]
    refine List.Perm.append_right _ ?_
    rw (occs := .pos [2]) [e]
    rw [List.append_assoc, List.append_assoc]
    exact List.Perm.append_left _ List.perm_append_comm
  · rcases List.mem_append.mp hy with hy | hy
    · exact s3 x hx y hy
    · exact h.ca x (by rw [e]; exact List.mem_append_left _ hx) y hy
  · rcases List.mem_append.mp hy with hy | hy
    · exact hle y hy x hx
    · exact h.cb x hx y hy
theorem MH.takeB {N : Keyed → Nat} {A B O : List Keyed} {na nb : Nat} (h : MH N A B O na nb) (hB : Srt N B) (k : Nat) (hk : k ≤ nb) (hle : ∀ y ∈ (B.take nb).drop k, ∀ x ∈ A.take na, N x ≤ N y) : MH N A B ((B.take nb).drop k ++ O) na k := by
  have e : B.take nb = B.take k ++ (B.take nb).drop k := by
    have := (List.take_append_drop k (B.take nb)).symm
    rw [List.take_take, Nat.min_eq_left hk] at this
    exact this
  have sB : (B.take k ++ (B.take nb).drop k).Pairwise fun x y => N x ≤ N y := by rw [← e]; exact hB.take nb
  obtain ⟨_, s2, s3⟩ := List.pairwise_append.mp sB
  refine ⟨?_, List.pairwise_append.mpr ⟨s2, h.srt, fun x hx y hy => h.cb x (List.mem_of_mem_drop hx) y hy⟩, fun x hx y hy => ?_, fun x hx y hy => ?_⟩
  · refine List.Perm.trans ?_ h.perm
    rw [← List.append_assoc]
    refine List.Perm.append_right _ ?_
    rw (occs := .pos [2]) [e]
    rw [List.append_assoc]
  · rcases List.mem_append.mp hy with hy | hy
    · exact hle y hy x hx
    · exact h.ca x hx y hy
  · rcases List.mem_append.mp hy with hy | hy
    · exact s3 x hx y hy
    · exact h.cb x (by rw [e]; exact List.mem_append_left _ hx) y hy
theorem last_one {l : List Keyed} {k : Nat} {x : Keyed} (h : l[k]? = some x) : (l.take (k + 1)).drop k = [x] := by
  obtain ⟨hl, e⟩ := List.getElem?_eq_some_iff.mp h
  rw [List.take_succ_eq_append_getElem hl, e, List.drop_append_of_le_length (by rw [List.length_take]; omega), List.drop_of_length_le (by rw [List.length_take]; omega)]
  rfl
theorem MH.oneA {N : Keyed → Nat} {A B O : List Keyed} {na nb : Nat} {x : Keyed} (h : MH N A B O (na + 1) nb) (hA : Srt N A) (hx : A[na]? = some x) (hle : ∀ y ∈ B.take nb, N y ≤ N x) : MH N A B (x :: O) na nb := by
  have := h.takeA hA na (by omega) (by rw [last_one hx]; intro z hz; rw [List.mem_singleton.mp hz]; exact hle)
  rwa [last_one hx] at this
theorem MH.oneB {N : Keyed → Nat} {A B O : List Keyed} {na nb : Nat} {x : Keyed} (h : MH N A B O na (nb + 1)) (hB : Srt N B) (hx : B[nb]? = some x) (hle : ∀ y ∈ A.take na, N y ≤ N x) : MH N A B (x :: O) na nb := by
  have := h.takeB hB nb (by omega) (by rw [last_one hx]; intro z hz; rw [List.mem_singleton.mp hz]; exact hle)
  rwa [last_one hx] at this
theorem MH.done {N : Keyed → Nat} {A B O : List Keyed} {na nb : Nat} (h : MH N A B O na nb) (hA : Srt N A) (hB : Srt N B) (hx : ∀ x ∈ A.take na, ∀ y ∈ B.take nb, N x ≤ N y) : Good N A B (A.take na ++ B.take nb ++ O) :=
  ⟨List.pairwise_append.mpr ⟨List.pairwise_append.mpr ⟨hA.take na, hB.take nb, hx⟩, h.srt, fun x hx' y hy => (List.mem_append.mp hx').elim (fun q => h.ca x q y hy) fun q => h.cb x q y hy⟩, h.perm⟩
theorem MH.first {N : Keyed → Nat} {A B O : List Keyed} {na nb : Nat} (h : MH N A B O na nb) (hA : Srt N A) (hB : Srt N B) (hx : ∀ y ∈ B.take nb, ∀ x ∈ A.take na, N y ≤ N x) : Good N A B (B.take nb ++ A.take na ++ O) :=
  ⟨List.pairwise_append.mpr ⟨List.pairwise_append.mpr ⟨hB.take nb, hA.take na, hx⟩, h.srt, fun x hx' y hy => (List.mem_append.mp hx').elim (fun q => h.cb x q y hy) fun q => h.ca x q y hy⟩, List.Perm.trans (List.Perm.append_right _ List.perm_append_comm) h.perm⟩
theorem ext0 (a : Array Keyed) (k : Nat) : (a.extract 0 k).toList = a.toList.take k := by rw [ext_list]; simp
theorem ext_mid (a : Array Keyed) (i k : Nat) : (a.extract i k).toList = (a.toList.take k).drop i := by
  rw [ext_list, List.drop_take]
theorem Srt.take_le {N : Keyed → Nat} {l : List Keyed} (h : Srt N l) {i : Nat} {x y : Keyed} (hx : l[i]? = some x) (hy : y ∈ l.take (i + 1)) : N y ≤ N x := by
  obtain ⟨j, hj, _, e⟩ := mem_take_lt hy
  exact h.le (by omega) e hx
theorem rev_push (out : Array Keyed) (x : Keyed) : (out.push x).reverse.toList = x :: out.reverse.toList := by simp
theorem rev_app (out p : Array Keyed) : (out ++ p.reverse).reverse.toList = p.toList ++ out.reverse.toList := by simp
section
variable {prog : Program} {w : World} {A : Around} {SI : Shared → Prop} {α β : Type}
structure MHS (N : Keyed → Nat) (a b out : Array Keyed) (na nb : Nat) : Prop where
  mh : MH N a.toList b.toList out.reverse.toList na nb
  pa : 1 ≤ na
  pb : 2 ≤ nb
  ma : na ≤ a.size
  mb : nb ≤ b.size
  sz : out.size = (a.size - na) + (b.size - nb)
theorem sc_mergeHi {D : Keyed → Prop} {N : Keyed → Nat} {a b : Array Keyed} {Q : Array Keyed → SortSt → Prop} {st : SortSt} (c : Cmp prog w A SI (kindOf st) D N) (hA : Srt N a.toList) (hB : Srt N b.toList) (dA : ∀ x ∈ a.toList, D x) (dB : ∀ x ∈ b.toList, D x)
    (ha : 1 ≤ a.size) (hb : 1 ≤ b.size) (h0 : ∀ x y, b.toList[0]? = some x → a.toList[0]? = some y → N x ≤ N y) (hl : ∀ y ∈ b.toList, ∀ x ∈ a.toList.drop (a.size - 1), N y ≤ N x)
    (h : ∀ r st', SG st st' → Good N a.toList b.toList r.toList → Q r st') : (SC prog w A SI) (mergeHi' a b) Q st := by
  have DA : ∀ {i : Nat} (hi : i < a.size), D a[i] := fun hi => dA _ (by simp)
  have DB : ∀ {i : Nat} (hi : i < b.size), D b[i] := fun hi => dB _ (by simp)
  have fd : ∀ (out : Array Keyed) (na nb : Nat), MH N a.toList b.toList out.reverse.toList na nb → (na = 0 ∨ nb = 0) → Good N a.toList b.toList (a.extract 0 na ++ b.extract 0 nb ++ out.reverse).toList := fun out na nb m q => by
    rw [Array.toList_append, Array.toList_append, ext0, ext0]
    refine m.done hA hB fun x hx y hy => ?_
    rcases q with q | q
    · obtain ⟨j, h1, _⟩ := mem_take_lt hx
      omega
    · obtain ⟨j, h1, _⟩ := mem_take_lt hy
      omega
  have ff : ∀ (out : Array Keyed) (na nb : Nat), MH N a.toList b.toList out.reverse.toList na nb → nb = 1 → Good N a.toList b.toList (b.extract 0 nb ++ a.extract 0 na ++ out.reverse).toList := fun out na nb m q => by
    rw [Array.toList_append, Array.toList_append, ext0, ext0]
    refine m.first hA hB fun y hy x hx => ?_
    obtain ⟨j, h1, h2, e⟩ := mem_take_lt hy
    obtain ⟨i, _, h4, e'⟩ := mem_take_lt hx
    have j0 : j = 0 := by omega
    subst j0
    obtain ⟨ea, ea'⟩ := at_list (a := a) (i := 0) (by omega)
    exact Nat.le_trans (h0 _ _ e ea') (hA.le (Nat.zero_le _) ea' e')
  rw [mergeHi'_eq]
  refine sc_bind (sc_rule ?_)
  dsimp only
  obtain ⟨la, hla⟩ : ∃ la, a.size = la + 1 := ⟨a.size - 1, by omega⟩
  obtain ⟨ea, ea'⟩ := at_list (a := a) (i := la) (by omega)
  rw [show a.size - 1 = la by omega]
  refine sc_bind (sc_elem ea ?_)
  have m0 : MH N a.toList b.toList #[a[la]].reverse.toList la b.size := by
    have z := MH.zero N a.toList b.toList
    rw [Array.length_toList, Array.length_toList, hla] at z
    exact z.oneA hA ea' fun y hy => hl y (List.mem_of_mem_take hy) _ (by
      rw [show a.size - 1 = la by omega]
      exact List.mem_of_getElem? (i := 0) (by rw [List.getElem?_drop]; exact ea'))
  by_cases q1 : la = 0
  · rw [if_pos (by simp [q1])]
    exact sc_pure (h _ st (SG.refl _) (fd _ _ _ m0 (.inl q1)))
  rw [if_neg (by simp [q1])]
  by_cases q2 : b.size = 1
  · rw [if_pos (by simp [q2])]
    exact sc_pure (h _ st (SG.refl _) (ff _ _ _ m0 q2))
  rw [if_neg (by simp [q2])]
  refine sc_bind (sc_get ?_)
  refine sc_bind (sc_mono (sc_range (Q := fun x st' => SG st st' ∧ ∃ r, x.1 = some r ∧ Good N a.toList b.toList r.toList)
    (fun j x st' => SG st st' ∧ ∃ na nb out g, x = (none, na, nb, out, g) ∧ MHS N a b out na nb ∧ j + 1 ≤ out.size) (Nat.zero_le _) ⟨SG.refl _, _, _, _, _, rfl, ⟨m0, by omega, by omega, by omega, by omega, by simp; omega⟩, Nat.le_refl _⟩ ?_ ?_) ?_)
  · rintro j x st1 _ hj ⟨sg, na, nb, out, g, rfl, m, hsz⟩
    dsimp only
    refine sc_bind (sc_mono (sc_range (Q := fun x st' => SG st st' ∧ ((∃ r o, x = (some r, o) ∧ Good N a.toList b.toList r.toList) ∨ ∃ na nb out ac bc, x = (none, na, nb, out, ac, bc) ∧ MHS N a b out na nb ∧ j + 2 ≤ out.size))
      (fun j2 x st' => SG st st' ∧ ∃ na nb out ac bc, x = (none, na, nb, out, ac, bc) ∧ MHS N a b out na nb ∧ j + 1 + j2 ≤ out.size) (Nat.zero_le _) ⟨sg, _, _, _, _, _, rfl, m, hsz⟩ ?_ ?_) ?_)
    · rintro j2 x st2 _ hj2 ⟨sg2, na, nb, out, ac, bc, rfl, m, hsz⟩
      dsimp only
      have pa := m.pa
      have pb := m.pb
      have ma := m.ma
      have mb := m.mb
      obtain ⟨na, rfl⟩ : ∃ n, na = n + 1 := ⟨na - 1, by omega⟩
      obtain ⟨nb, rfl⟩ : ∃ n, nb = n + 1 := ⟨nb - 1, by omega⟩
      rw [Nat.add_sub_cancel, Nat.add_sub_cancel]
      have hia : na < a.size := by omega
      have hib : nb < b.size := by omega
      obtain ⟨ea, ea'⟩ := at_list (a := a) (i := na) hia
      obtain ⟨eb, eb'⟩ := at_list (a := b) (i := nb) hib
      refine sc_bind (sc_elem eb (sc_bind (sc_elem ea (sc_bind (sc_lt (by rw [sg2.1]; exact c) (DB hib) (DA hia) ?_)))))
      dsimp only
      by_cases hlt : N b[nb] < N a[na]
      · rw [decide_eq_true hlt, if_pos rfl]
        refine sc_bind (sc_elem ea ?_)
        have m2 := m.mh.oneA hA ea' fun y hy => Nat.le_trans (hB.take_le eb' hy) (Nat.le_of_lt hlt)
        rw [← rev_push] at m2
        by_cases q : na = 0
        · rw [if_pos (by simp [q])]
          exact sc_pure ⟨sg2, .inl ⟨_, _, rfl, fd _ _ _ m2 (.inl q)⟩⟩
        · rw [if_neg (by simp [q])]
          have m3 : MHS N a b (out.push a[na]) na (nb + 1) := ⟨m2, by omega, by omega, by omega, by omega, by rw [Array.size_push, m.sz]; omega⟩
          split
          · exact sc_pure ⟨sg2, .inr ⟨_, _, _, _, _, rfl, m3, by rw [Array.size_push]; omega⟩⟩
          · exact sc_pure ⟨sg2, _, _, _, _, _, rfl, m3, by rw [Array.size_push]; omega⟩
      · rw [decide_eq_false hlt, if_neg (by simp)]
        refine sc_bind (sc_elem eb ?_)
        have m2 := m.mh.oneB hB eb' fun y hy => Nat.le_trans (hA.take_le ea' hy) (Nat.le_of_not_lt hlt)
        rw [← rev_push] at m2
        by_cases q : nb = 1
        · rw [if_pos (by simp [q])]
          exact sc_pure ⟨sg2, .inl ⟨_, _, rfl, ff _ _ _ m2 q⟩⟩
        · rw [if_neg (by simp [q])]
          have m3 : MHS N a b (out.push b[nb]) (na + 1) nb := ⟨m2, by omega, by omega, by omega, by omega, by rw [Array.size_push, m.sz]; omega⟩
          split
          · exact sc_pure ⟨sg2, .inr ⟨_, _, _, _, _, rfl, m3, by rw [Array.size_push]; omega⟩⟩
          · exact sc_pure ⟨sg2, _, _, _, _, _, rfl, m3, by rw [Array.size_push]; omega⟩
    · rintro x st2 ⟨sg2, na, nb, out, ac, bc, rfl, m, hsz⟩
      exact ⟨sg2, .inr ⟨_, _, _, _, _, rfl, m, by omega⟩⟩
    · rintro x st2 ⟨sg2, ⟨r, o, rfl, gd⟩ | ⟨na, nb, out, ac, bc, rfl, m, hsz⟩⟩
      · exact sc_pure ⟨sg2, r, rfl, gd⟩
      · dsimp only
        refine sc_bind (sc_rule ?_)
        refine sc_bind (sc_mono (sc_range (Q := fun x st' => SG st st' ∧ ((∃ r o, x = (some r, o) ∧ Good N a.toList b.toList r.toList) ∨ ∃ na nb out g ac bc, x = (none, na, nb, out, g, ac, bc) ∧ MHS N a b out na nb ∧ j + 2 ≤ out.size))
          (fun j2 x st' => SG st st' ∧ ∃ na nb out g ac bc, x = (none, na, nb, out, g, ac, bc) ∧ MHS N a b out na nb ∧ j + 2 ≤ out.size) (Nat.zero_le _) ⟨sg2, _, _, _, _, _, _, rfl, m, hsz⟩ ?_ ?_) ?_)
        · rintro j2 x st2 _ hj2 ⟨sg2, na, nb, out, g, ac, bc, rfl, m, hsz⟩
          dsimp only
          have pa := m.pa
          have pb := m.pb
          have ma := m.ma
          have mb0 := m.mb
          obtain ⟨nb, rfl⟩ : ∃ n, nb = n + 1 := ⟨nb - 1, by omega⟩
          simp only [Nat.add_sub_cancel]
          have hib : nb < b.size := by omega
          obtain ⟨eb, eb'⟩ := at_list (a := b) (i := nb) hib
          by_cases hg : g > 1
          all_goals
            first | rw [if_pos hg] | rw [if_neg hg]
            rw [setMinGallop'_eq]
            refine sc_bind (sc_modify ?_)
            refine sc_bind (sc_elem eb ?_)
            refine sc_bind (sc_gallop (by rw [show kindOf _ = kindOf st from sg2.1]; exact c) (DB hib) (fun i hi => ⟨a[0 + i]'(by omega), (at_list (by omega)).1, DA (by omega)⟩) (fun i => ahead N false b[nb] (a.getD (0 + i) b[nb]))
              (fun i x hi hx => by rw [Array.getD_eq_getD_getElem?, hx]; rfl) (fun i i' hii hi hp => galA_mono hA hii (by omega) hp) (by omega) fun k hk p1 p2 => ?_)
            dsimp only
            have ga := galA p1 p2
            simp only [Nat.zero_add] at ga
            have mk := m.mh.takeA hA k hk (fun y hy x hx => by
              obtain ⟨i, h1, h2, h3, e⟩ := mem_mid hy
              exact Nat.le_trans (hB.take_le eb' hx) (Nat.le_of_lt (ga.2 i y h1 h2 (by simpa using e))))
            by_cases hk00 : na - k > 0
            · rw [if_pos hk00]
              rw [← ext_mid, ← rev_app] at mk
              by_cases q1 : k = 0
              · rw [if_pos (by simp [q1])]
                exact sc_pure ⟨sg2.set _, .inl ⟨_, _, rfl, fd _ _ _ mk (.inl q1)⟩⟩
              rw [if_neg (by simp [q1])]
              refine sc_bind (sc_elem eb ?_)
              obtain ⟨na2, hna2e⟩ : ∃ na2, na2 = k := ⟨_, rfl⟩
              rw [← hna2e] at mk ⊢
              have hna2 : 1 ≤ na2 := by rw [hna2e]; exact (by omega)
              have hna2m : na2 ≤ a.size := by have := m.ma; omega
              obtain ⟨na3, rfl⟩ : ∃ na3, na2 = na3 + 1 := ⟨na2 - 1, by omega⟩
              rw [Nat.add_sub_cancel] at *
              obtain ⟨ea2, ea2'⟩ := at_list (a := a) (i := na3) (by omega)
              have mb := MH.oneB mk hB eb' (fun y hy => by
                obtain ⟨j, h1, h2, e⟩ := mem_take_lt hy
                rw [Array.length_toList] at h2
                exact ga.1 j y (by omega) (by simpa using e))
              rw [← rev_push] at mb
              by_cases q3 : nb = 1
              · rw [if_pos (by simp [q3])]
                exact sc_pure ⟨sg2.set _, .inl ⟨_, _, rfl, ff _ _ _ mb q3⟩⟩
              rw [if_neg (by simp [q3])]
              refine sc_bind (sc_elem ea2 ?_)
              refine sc_bind (sc_gallop (by rw [show kindOf _ = kindOf st from sg2.1]; exact c) (DA (by omega)) (fun i hi => ⟨b[0 + i]'(by omega), (at_list (by omega)).1, DB (by omega)⟩) (fun i => ahead N true (a[na3]'(by omega)) (b.getD (0 + i) b[nb]))
                (fun i x hi hx => by rw [Array.getD_eq_getD_getElem?, hx]; rfl) (fun i i' hii hi hp => galB_mono hB hii (by omega) hp) (by omega) fun k2 hk2 p3 p4 => ?_)
              dsimp only
              have gb := galB p3 p4
              have hle3 : ∀ y ∈ b.toList.take k2, N y ≤ N (a[na3]'(by omega)) := fun y hy => by
                obtain ⟨j, h1, h2, e⟩ := mem_take_lt hy
                exact Nat.le_of_lt (gb.1 j y h1 (by simpa using e))
              have m3 := mb.takeB hB k2 hk2 (fun y hy x hx => by
                obtain ⟨i, h1, h2, h3, e⟩ := mem_mid hy
                exact Nat.le_trans (hA.take_le ea2' hx) (gb.2 i y h1 h2 (by simpa using e)))
              by_cases hk200 : nb - k2 > 0
              · rw [if_pos hk200]
                rw [← ext_mid, ← rev_app] at m3
                by_cases q4 : k2 = 1
                · rw [if_pos (by simp [q4])]
                  exact sc_pure ⟨sg2.set _, .inl ⟨_, _, rfl, ff _ _ _ m3 q4⟩⟩
                rw [if_neg (by simp [q4])]
                by_cases q6 : k2 = 0
                · rw [if_pos (by simp [q6])]
                  exact sc_pure ⟨sg2.set _, .inl ⟨_, _, rfl, fd _ _ _ m3 (.inr q6)⟩⟩
                rw [if_neg (by simp [q6])]
                refine sc_bind (sc_elem ea2 ?_)
                have m4 := MH.oneA m3 hA ea2' hle3
                rw [← rev_push] at m4
                by_cases q5 : na3 = 0
                · rw [if_pos (by simp [q5])]
                  exact sc_pure ⟨sg2.set _, .inl ⟨_, _, rfl, fd _ _ _ m4 (.inl q5)⟩⟩
                rw [if_neg (by simp [q5])]
                split
                · exact sc_pure ⟨sg2.set _, .inr ⟨_, _, _, _, _, _, rfl, ⟨m4, by omega, (by omega), by omega, by omega, by simp [m.sz]; omega⟩, by simp; omega⟩⟩
                · exact sc_pure ⟨sg2.set _, _, _, _, _, _, _, rfl, ⟨m4, by omega, (by omega), by omega, by omega, by simp [m.sz]; omega⟩, by simp; omega⟩
              · rw [if_neg hk200]
                have hk20 : k2 = nb := by omega
                subst hk20
                refine sc_bind (sc_elem ea2 ?_)
                have m4 := MH.oneA mb hA ea2' hle3
                rw [← rev_push] at m4
                by_cases q5 : na3 = 0
                · rw [if_pos (by simp [q5])]
                  exact sc_pure ⟨sg2.set _, .inl ⟨_, _, rfl, fd _ _ _ m4 (.inl q5)⟩⟩
                rw [if_neg (by simp [q5])]
                split
                · exact sc_pure ⟨sg2.set _, .inr ⟨_, _, _, _, _, _, rfl, ⟨m4, by omega, (by omega), by omega, by omega, by simp [m.sz]; omega⟩, by simp; omega⟩⟩
                · exact sc_pure ⟨sg2.set _, _, _, _, _, _, _, rfl, ⟨m4, by omega, (by omega), by omega, by omega, by simp [m.sz]; omega⟩, by simp; omega⟩
            · rw [if_neg hk00]
              have hk0 : k = na := by omega
              subst hk0
              have mk := m.mh
              refine sc_bind (sc_elem eb ?_)
              obtain ⟨na2, hna2e⟩ : ∃ na2, na2 = k := ⟨_, rfl⟩
              rw [← hna2e] at mk ⊢
              have hna2 : 1 ≤ na2 := by rw [hna2e]; exact (by omega)
              have hna2m : na2 ≤ a.size := by have := m.ma; omega
              obtain ⟨na3, rfl⟩ : ∃ na3, na2 = na3 + 1 := ⟨na2 - 1, by omega⟩
              rw [Nat.add_sub_cancel] at *
              obtain ⟨ea2, ea2'⟩ := at_list (a := a) (i := na3) (by omega)
              have mb := MH.oneB mk hB eb' (fun y hy => by
                obtain ⟨j, h1, h2, e⟩ := mem_take_lt hy
                rw [Array.length_toList] at h2
                exact ga.1 j y (by omega) (by simpa using e))
              rw [← rev_push] at mb
              by_cases q3 : nb = 1
              · rw [if_pos (by simp [q3])]
                exact sc_pure ⟨sg2.set _, .inl ⟨_, _, rfl, ff _ _ _ mb q3⟩⟩
              rw [if_neg (by simp [q3])]
              refine sc_bind (sc_elem ea2 ?_)
              refine sc_bind (sc_gallop (by rw [show kindOf _ = kindOf st from sg2.1]; exact c) (DA (by omega)) (fun i hi => ⟨b[0 + i]'(by omega), (at_list (by omega)).1, DB (by omega)⟩) (fun i => ahead N true (a[na3]'(by omega)) (b.getD (0 + i) b[nb]))
                (fun i x hi hx => by rw [Array.getD_eq_getD_getElem?, hx]; rfl) (fun i i' hii hi hp => galB_mono hB hii (by omega) hp) (by omega) fun k2 hk2 p3 p4 => ?_)
              dsimp only
              have gb := galB p3 p4
              have hle3 : ∀ y ∈ b.toList.take k2, N y ≤ N (a[na3]'(by omega)) := fun y hy => by
                obtain ⟨j, h1, h2, e⟩ := mem_take_lt hy
                exact Nat.le_of_lt (gb.1 j y h1 (by simpa using e))
              have m3 := mb.takeB hB k2 hk2 (fun y hy x hx => by
                obtain ⟨i, h1, h2, h3, e⟩ := mem_mid hy
                exact Nat.le_trans (hA.take_le ea2' hx) (gb.2 i y h1 h2 (by simpa using e)))
              by_cases hk200 : nb - k2 > 0
              · rw [if_pos hk200]
                rw [← ext_mid, ← rev_app] at m3
                by_cases q4 : k2 = 1
                · rw [if_pos (by simp [q4])]
                  exact sc_pure ⟨sg2.set _, .inl ⟨_, _, rfl, ff _ _ _ m3 q4⟩⟩
                rw [if_neg (by simp [q4])]
                by_cases q6 : k2 = 0
                · rw [if_pos (by simp [q6])]
                  exact sc_pure ⟨sg2.set _, .inl ⟨_, _, rfl, fd _ _ _ m3 (.inr q6)⟩⟩
                rw [if_neg (by simp [q6])]
                refine sc_bind (sc_elem ea2 ?_)
                have m4 := MH.oneA m3 hA ea2' hle3
                rw [← rev_push] at m4
                by_cases q5 : na3 = 0
                · rw [if_pos (by simp [q5])]
                  exact sc_pure ⟨sg2.set _, .inl ⟨_, _, rfl, fd _ _ _ m4 (.inl q5)⟩⟩
                rw [if_neg (by simp [q5])]
                split
                · exact sc_pure ⟨sg2.set _, .inr ⟨_, _, _, _, _, _, rfl, ⟨m4, by omega, (by omega), by omega, by omega, by simp [m.sz]; omega⟩, by simp; omega⟩⟩
                · exact sc_pure ⟨sg2.set _, _, _, _, _, _, _, rfl, ⟨m4, by omega, (by omega), by omega, by omega, by simp [m.sz]; omega⟩, by simp; omega⟩
              · rw [if_neg hk200]
                have hk20 : k2 = nb := by omega
                subst hk20
                refine sc_bind (sc_elem ea2 ?_)
                have m4 := MH.oneA mb hA ea2' hle3
                rw [← rev_push] at m4
                by_cases q5 : na3 = 0
                · rw [if_pos (by simp [q5])]
                  exact sc_pure ⟨sg2.set _, .inl ⟨_, _, rfl, fd _ _ _ m4 (.inl q5)⟩⟩
                rw [if_neg (by simp [q5])]
                split
                · exact sc_pure ⟨sg2.set _, .inr ⟨_, _, _, _, _, _, rfl, ⟨m4, by omega, (by omega), by omega, by omega, by simp [m.sz]; omega⟩, by simp; omega⟩⟩
                · exact sc_pure ⟨sg2.set _, _, _, _, _, _, _, rfl, ⟨m4, by omega, (by omega), by omega, by omega, by simp [m.sz]; omega⟩, by simp; omega⟩
        · rintro x st2 ⟨sg2, na, nb, out, g, ac, bc, rfl, m, hsz⟩
          exact ⟨sg2, .inr ⟨_, _, _, _, _, _, rfl, m, by omega⟩⟩
        · rintro x st2 ⟨sg2, ⟨r, o, rfl, gd⟩ | ⟨na, nb, out, g, ac, bc, rfl, m, hsz⟩⟩
          · exact sc_pure ⟨sg2, r, rfl, gd⟩
          · dsimp only
            rw [setMinGallop'_eq]
            exact sc_bind (sc_modify (sc_pure ⟨sg2.set _, _, _, _, _, rfl, m, by omega⟩))
  · rintro x st1 ⟨sg, na, nb, out, g, rfl, m, hsz⟩
    have := m.pa
    have := m.pb
    have := m.ma
    have := m.mb
    have := m.sz
    omega
  · rintro x st1 ⟨sg, r, hr, gd⟩
    obtain ⟨x1, x2⟩ := x
    dsimp only at hr
    subst hr
    exact sc_pure (h r st1 sg gd)
end
end SBig
namespace SBig
open PySem PyProof.Rows
theorem mergeAt'_eq (i : Nat) : mergeAt' i = (do
  let s ← get
  let (some (sa, na, power), some (sb, nb, _)) := ((pendingOf s)[i]?, (pendingOf s)[i + 1]?) | unsupported "internal:list.sort.pending"
  set (setPending s (((pendingOf s).setIfInBounds i (sa, na + nb, power)).eraseIdxIfInBounds (i + 1)))
  let some k ← gallop' false (← elem' (arrOf s) sb) (arrOf s) sa na 0 | return false
  let (sa, na) := (sa + k, na - k)
  if na == 0 then return true
  let some nb ← gallop' true (← elem' (arrOf s) (sa + na - 1)) (arrOf s) sb nb (nb - 1) | return false
  if nb == 0 then return true
  let x := (arrOf s).extract sa sb
  let y := (arrOf s).extract sb (sb + nb)
  let merged ← if na ≤ nb then mergeLo' x y else mergeHi' x y
  modify fun s => setArr s (merged.toList.zipIdx.foldl (fun a (p, j) => a.setIfInBounds (sa + j) p) (arrOf s))
  return (failedOf (← get)).isNone) := rfl
theorem put_back : ∀ (m : List Keyed) (c o : Nat) (a : Array Keyed), o + c + m.length ≤ a.size →
    ((m.zipIdx c).foldl (fun (a : Array Keyed) (p : Keyed × Nat) => a.setIfInBounds (o + p.2) p.1) a).toList = a.toList.take (o + c) ++ m ++ a.toList.drop (o + c + m.length)
  | [], c, o, a, _ => by simp
  | x :: m, c, o, a, h => by
    rw [List.zipIdx_cons, List.foldl_cons]
    rw [List.length_cons] at h
    rw [put_back m (c + 1) o _ (by rw [Array.size_setIfInBounds]; omega), Array.toList_setIfInBounds]
    have hl : o + c < a.toList.length := by rw [Array.length_toList]; omega
    rw [List.length_cons, List.take_set, List.drop_set]
    rw [show o + (c + 1) = o + c + 1 by omega, show o + c + 1 + m.length = o + c + (m.length + 1) by omega]
    rw [if_pos (by omega)]
    have e : (a.toList.take (o + c + 1)).set (o + c) x = a.toList.take (o + c) ++ [x] := by
      rw [List.take_succ_eq_append_getElem hl]
      rw [List.set_append_right _ _ (by rw [List.length_take]; omega)]
      rw [List.length_take, Nat.min_eq_left (by omega), Nat.sub_self]
      rfl
    rw [e]
    simp
section
variable {prog : Program} {w : World} {A : Around} {SI : Shared → Prop} {α β : Type}
theorem sc_mergeAt {D : Keyed → Prop} {N : Keyed → Nat} {i p p2 : Nat} {L1 X Y L2 : List Keyed} {Q : Bool → SortSt → Prop} {st : SortSt} (c : Cmp prog w A SI (kindOf st) D N) (e : (arrOf st).toList = L1 ++ X ++ Y ++ L2) (hX : Srt N X) (hY : Srt N Y) (nX : X ≠ []) (nY : Y ≠ [])
    (dX : ∀ x ∈ X, D x) (dY : ∀ x ∈ Y, D x) (hp : (pendingOf st)[i]? = some (L1.length, X.length, p)) (hp2 : (pendingOf st)[i + 1]? = some (L1.length + X.length, Y.length, p2)) (hf : failedOf st = none)
    (h : ∀ Z st', Srt N Z → Z.Perm (X ++ Y) → (arrOf st').toList = L1 ++ Z ++ L2 → kindOf st' = kindOf st → failedOf st' = none → pendingOf st' = ((pendingOf st).setIfInBounds i (L1.length, X.length + Y.length, p)).eraseIdxIfInBounds (i + 1) → Q true st') : (SC prog w A SI) (mergeAt' i) Q st := by
  have lX : 0 < X.length := List.length_pos_iff.mpr nX
  have lY : 0 < Y.length := List.length_pos_iff.mpr nY
  have sz : (arrOf st).size = L1.length + X.length + Y.length + L2.length := by
    rw [← Array.length_toList, e]
    simp only [List.length_append]
  have atX : ∀ (j : Nat) (hj : j < X.length), (arrOf st)[L1.length + j]? = some X[j] := fun j hj => by
    have : (arrOf st).toList[L1.length + j]? = some X[j] := by
      rw [e, List.append_assoc, List.append_assoc, List.getElem?_append_right (by omega), Nat.add_sub_cancel_left, List.getElem?_append_left hj]
      simp [hj]
    simpa using this
  have atY : ∀ (j : Nat) (hj : j < Y.length), (arrOf st)[L1.length + X.length + j]? = some Y[j] := fun j hj => by
    have : (arrOf st).toList[L1.length + X.length + j]? = some Y[j] := by
      rw [e, List.append_assoc, List.getElem?_append_right (by rw [List.length_append]; omega), List.length_append, Nat.add_sub_cancel_left, List.getElem?_append_left hj]
      simp [hj]
    simpa using this
  have DX : ∀ (j : Nat) (hj : j < X.length), D X[j] := fun j hj => dX _ (List.getElem_mem hj)
  have DY : ∀ (j : Nat) (hj : j < Y.length), D Y[j] := fun j hj => dY _ (List.getElem_mem hj)
  have leX : ∀ (i j : Nat) (hi : i ≤ j) (hj : j < X.length), N (X[i]'(by omega)) ≤ N X[j] := fun i j hi hj => hX.le hi (by simp) (by simp)
  have leY : ∀ (i j : Nat) (hi : i ≤ j) (hj : j < Y.length), N (Y[i]'(by omega)) ≤ N Y[j] := fun i j hi hj => hY.le hi (by simp) (by simp)
  rw [mergeAt'_eq]
  refine sc_bind (sc_get ?_)
  rw [hp, hp2]
  dsimp only
  refine sc_bind (sc_set ?_)
  have eb := atY 0 lY
  rw [Nat.add_zero] at eb
  refine sc_bind (sc_elem eb ?_)
  refine sc_bind (sc_gallop c (DY 0 lY) (fun i hi => ⟨_, atX i hi, DX i hi⟩) (fun i => ahead N false Y[0] (X.getD i Y[0])) (fun i x hi hx => by
      rw [atX i hi] at hx
      cases hx
      rw [List.getD_eq_getElem?_getD, List.getElem?_eq_getElem hi]
      rfl) (fun i j hij hj hq => ?_) lX fun k hk p1 p2 => ?_)
  · rw [List.getD_eq_getElem?_getD, List.getElem?_eq_getElem hj] at hq
    rw [List.getD_eq_getElem?_getD, List.getElem?_eq_getElem (by omega)]
    have := leX i j hij hj
    unfold ahead at hq ⊢
    simp only [Bool.false_eq_true, if_false, Bool.not_eq_true', decide_eq_false_iff_not, Option.getD_some] at hq ⊢
    omega
  have g1 : ∀ (j : Nat) (hj : j < X.length), j < k → N X[j] ≤ N Y[0] := fun j hj hjk => by
    have := p1 j hjk
    rw [List.getD_eq_getElem?_getD, List.getElem?_eq_getElem hj] at this
    unfold ahead at this
    simpa using this
  have g2 : ∀ (j : Nat) (hj : j < X.length), k ≤ j → N Y[0] < N X[j] := fun j hj hjk => by
    have := p2 j hjk hj
    rw [List.getD_eq_getElem?_getD, List.getElem?_eq_getElem hj] at this
    unfold ahead at this
    simpa using this
  dsimp only
  by_cases q1 : X.length - k = 0
  · rw [if_pos (by simp [q1])]
    refine sc_pure (h (X ++ Y) _ (List.pairwise_append.mpr ⟨hX, hY, fun x hx y hy => ?_⟩) (List.Perm.refl _) (by show (arrOf st).toList = _; rw [e]; simp) rfl hf rfl)
    obtain ⟨j, hj, rfl⟩ := List.getElem_of_mem hx
    obtain ⟨j', hj', rfl⟩ := List.getElem_of_mem hy
    exact Nat.le_trans (g1 j hj (by omega)) (leY 0 j' (Nat.zero_le _) hj')
  rw [if_neg (by simpa using q1)]
  have el := atX (X.length - 1) (by omega)
  rw [show L1.length + k + (X.length - k) - 1 = L1.length + (X.length - 1) by omega]
  refine sc_bind (sc_elem el ?_)
  refine sc_bind (sc_gallop c (DX _ (by omega)) (fun i hi => ⟨_, atY i hi, DY i hi⟩) (fun i => ahead N true (X[X.length - 1]'(by omega)) (Y.getD i Y[0])) (fun i x hi hx => by
      rw [atY i hi] at hx
      cases hx
      rw [List.getD_eq_getElem?_getD, List.getElem?_eq_getElem hi]
      rfl) (fun i j hij hj hq => ?_) (by omega) fun k2 hk2 p3 p4 => ?_)
  · rw [List.getD_eq_getElem?_getD, List.getElem?_eq_getElem hj] at hq
    rw [List.getD_eq_getElem?_getD, List.getElem?_eq_getElem (by omega)]
    have := leY i j hij hj
    unfold ahead at hq ⊢
    simp only [if_true, decide_eq_true_eq, Option.getD_some] at hq ⊢
    omega
  have g3 : ∀ (j : Nat) (hj : j < Y.length), j < k2 → N Y[j] < N (X[X.length - 1]'(by omega)) := fun j hj hjk => by
    have := p3 j hjk
    rw [List.getD_eq_getElem?_getD, List.getElem?_eq_getElem hj] at this
    unfold ahead at this
    simpa using this
  have g4 : ∀ (j : Nat) (hj : j < Y.length), k2 ≤ j → N (X[X.length - 1]'(by omega)) ≤ N Y[j] := fun j hj hjk => by
    have := p4 j hjk hj
    rw [List.getD_eq_getElem?_getD, List.getElem?_eq_getElem hj] at this
    unfold ahead at this
    simpa using this
  dsimp only
  by_cases q2 : k2 = 0
  · rw [if_pos (by simp [q2])]
    refine sc_pure (h (X ++ Y) _ (List.pairwise_append.mpr ⟨hX, hY, fun x hx y hy => ?_⟩) (List.Perm.refl _) (by show (arrOf st).toList = _; rw [e]; simp) rfl hf rfl)
    obtain ⟨j, hj, rfl⟩ := List.getElem_of_mem hx
    obtain ⟨j', hj', rfl⟩ := List.getElem_of_mem hy
    exact Nat.le_trans (leX j (X.length - 1) (by omega) (by omega)) (g4 j' hj' (by omega))
  rw [if_neg (by simpa using q2)]
  have ex : ((arrOf st).extract (L1.length + k) (L1.length + X.length)).toList = X.drop k := by
    rw [ext_list, e, List.append_assoc, List.append_assoc, List.drop_append, List.drop_of_length_le (by omega), List.nil_append, Nat.add_sub_cancel_left, List.drop_append_of_le_length (by omega), List.take_append_of_le_length (by rw [List.length_drop]; omega), List.take_of_length_le (by rw [List.length_drop]; omega)]
  have ey : ((arrOf st).extract (L1.length + X.length) (L1.length + X.length + k2)).toList = Y.take k2 := by
    rw [ext_add, e, List.append_assoc, List.drop_append, List.drop_of_length_le (by rw [List.length_append]; omega), List.nil_append, List.length_append, Nat.sub_self, List.drop_zero, List.take_append_of_le_length (by omega)]
  have sx : ((arrOf st).extract (L1.length + k) (L1.length + X.length)).size = X.length - k := by rw [← Array.length_toList, ex, List.length_drop]
  have sy : ((arrOf st).extract (L1.length + X.length) (L1.length + X.length + k2)).size = k2 := by rw [← Array.length_toList, ey, List.length_take, Nat.min_eq_left hk2]
  have fin : ∀ (r : Array Keyed) (st1 : SortSt), SG (setPending st (((pendingOf st).setIfInBounds i (L1.length, X.length + Y.length, p)).eraseIdxIfInBounds (i + 1))) st1 → Good N (X.drop k) (Y.take k2) r.toList →
      (SC prog w A SI) (do modify (fun s => setArr s (r.toList.zipIdx.foldl (fun a (p, j) => a.setIfInBounds (L1.length + k + j) p) (arrOf s))); let x ← get; pure (failedOf x).isNone) Q st1 := fun r st1 sg gd => by
    refine sc_bind (sc_modify (sc_bind (sc_get (sc_pure ?_))))
    have hf1 : failedOf st1 = none := by rw [sg.2.2.2]; exact hf
    show Q (failedOf st1).isNone _
    rw [hf1]
    have lr : r.toList.length = (X.length - k) + k2 := by
      rw [gd.2.length_eq, List.length_append, List.length_drop, List.length_take, Nat.min_eq_left hk2]
    refine h (X.take k ++ r.toList ++ Y.drop k2) _ ?_ ?_ ?_ sg.1 hf1 sg.2.2.1
    · have mem : ∀ y ∈ r.toList, (∃ (j : Nat) (hj : j < X.length), k ≤ j ∧ y = X[j]) ∨ ∃ (j : Nat) (hj : j < Y.length), j < k2 ∧ y = Y[j] := fun y hy => by
        rcases List.mem_append.mp (gd.2.mem_iff.mp hy) with q | q
        · obtain ⟨j, h1, h2, e⟩ := mem_drop_at q
          obtain ⟨hj, e⟩ := List.getElem?_eq_some_iff.mp e
          exact .inl ⟨j, hj, h1, e.symm⟩
        · obtain ⟨j, h1, h2, e⟩ := mem_take_lt q
          obtain ⟨hj, e⟩ := List.getElem?_eq_some_iff.mp e
          exact .inr ⟨j, hj, h1, e.symm⟩
      refine List.pairwise_append.mpr ⟨List.pairwise_append.mpr ⟨hX.take k, gd.1, fun x hx y hy => ?_⟩, hY.drop k2, fun x hx y hy => ?_⟩
      · obtain ⟨j, h1, h2, e⟩ := mem_take_lt hx
        obtain ⟨hj, rfl⟩ := List.getElem?_eq_some_iff.mp e
        rcases mem y hy with ⟨j', hj', h3, rfl⟩ | ⟨j', hj', h3, rfl⟩
        · exact leX j j' (by omega) hj'
        · exact Nat.le_trans (g1 j hj h1) (leY 0 j' (Nat.zero_le _) hj')
      · obtain ⟨j, h1, h2, e⟩ := mem_drop_at hy
        obtain ⟨hj, rfl⟩ := List.getElem?_eq_some_iff.mp e
        rcases List.mem_append.mp hx with hx | hx
        · obtain ⟨j', h3, h4, e'⟩ := mem_take_lt hx
          obtain ⟨hj', rfl⟩ := List.getElem?_eq_some_iff.mp e'
          exact Nat.le_trans (leX j' (X.length - 1) (by omega) (by omega)) (g4 j hj h1)
        · rcases mem x hx with ⟨j', hj', h3, rfl⟩ | ⟨j', hj', h3, rfl⟩
          · exact Nat.le_trans (leX j' (X.length - 1) (by omega) (by omega)) (g4 j hj h1)
          · exact leY j' j (by omega) hj
    · have p1 : (X.take k ++ r.toList ++ Y.drop k2).Perm (X.take k ++ (X.drop k ++ Y.take k2) ++ Y.drop k2) := List.Perm.append_right _ (List.Perm.append_left _ gd.2)
      refine p1.trans ?_
      rw [← List.append_assoc, List.take_append_drop, List.append_assoc, List.take_append_drop]
    · show (setArr st1 _ |> arrOf).toList = _
      have ea1 : arrOf st1 = arrOf st := sg.2.1
      show ((r.toList.zipIdx).foldl (fun (a : Array Keyed) (p : Keyed × Nat) => a.setIfInBounds (L1.length + k + p.2) p.1) (arrOf st1)).toList = _
      rw [put_back _ 0 _ _ (by rw [lr, ea1, sz]; omega), ea1, e, lr]
      have t1 : (L1 ++ X ++ Y ++ L2).take (L1.length + k + 0) = L1 ++ X.take k := by
        rw [Nat.add_zero, List.append_assoc, List.append_assoc, List.take_append, List.take_of_length_le (by omega), Nat.add_sub_cancel_left, List.take_append_of_le_length (by omega)]
      have t2 : (L1 ++ X ++ Y ++ L2).drop (L1.length + k + 0 + (X.length - k + k2)) = Y.drop k2 ++ L2 := by
        rw [show L1.length + k + 0 + (X.length - k + k2) = (L1 ++ X).length + k2 by rw [List.length_append]; omega, List.append_assoc, List.drop_append, List.drop_of_length_le (by omega), List.nil_append, Nat.add_sub_cancel_left, List.drop_append_of_le_length (by omega)]
      rw [t1, t2]
      simp
  have pre0 : ∀ x y, ((arrOf st).extract (L1.length + X.length) (L1.length + X.length + k2)).toList[0]? = some x → ((arrOf st).extract (L1.length + k) (L1.length + X.length)).toList[0]? = some y → N x ≤ N y := fun x y hx hy => by
    rw [ey, List.getElem?_take, if_pos (by omega), List.getElem?_eq_getElem lY] at hx
    rw [ex, List.getElem?_drop, List.getElem?_eq_getElem (by omega)] at hy
    cases hx
    cases hy
    exact Nat.le_of_lt (g2 _ (by omega) (by omega))
  have prel : ∀ y ∈ ((arrOf st).extract (L1.length + X.length) (L1.length + X.length + k2)).toList, ∀ x ∈ ((arrOf st).extract (L1.length + k) (L1.length + X.length)).toList.drop (((arrOf st).extract (L1.length + k) (L1.length + X.length)).size - 1), N y ≤ N x := fun y hy x hx => by
    rw [ey] at hy
    rw [sx, ex, List.drop_drop] at hx
    obtain ⟨j, h1, h2, e1⟩ := mem_take_lt hy
    obtain ⟨hj, rfl⟩ := List.getElem?_eq_some_iff.mp e1
    obtain ⟨j', h3, h4, e2⟩ := mem_drop_at hx
    obtain ⟨hj', rfl⟩ := List.getElem?_eq_some_iff.mp e2
    have : j' = X.length - 1 := by omega
    subst this
    exact Nat.le_of_lt (g3 j hj h1)
  have hXs : Srt N ((arrOf st).extract (L1.length + k) (L1.length + X.length)).toList := by rw [ex]; exact hX.drop k
  have hYs : Srt N ((arrOf st).extract (L1.length + X.length) (L1.length + X.length + k2)).toList := by rw [ey]; exact hY.take k2
  have dXs : ∀ x ∈ ((arrOf st).extract (L1.length + k) (L1.length + X.length)).toList, D x := fun x hx => dX x (by rw [ex] at hx; exact List.mem_of_mem_drop hx)
  have dYs : ∀ x ∈ ((arrOf st).extract (L1.length + X.length) (L1.length + X.length + k2)).toList, D x := fun x hx => dY x (by rw [ey] at hx; exact List.mem_of_mem_take hx)
  have gg : ∀ (r : Array Keyed) (st1 : SortSt), SG (setPending st (((pendingOf st).setIfInBounds i (L1.length, X.length + Y.length, p)).eraseIdxIfInBounds (i + 1))) st1 → Good N ((arrOf st).extract (L1.length + k) (L1.length + X.length)).toList ((arrOf st).extract (L1.length + X.length) (L1.length + X.length + k2)).toList r.toList →
      (SC prog w A SI) (do modify (fun s => setArr s (r.toList.zipIdx.foldl (fun a (p, j) => a.setIfInBounds (L1.length + k + j) p) (arrOf s))); let x ← get; pure (failedOf x).isNone) Q st1 := fun r st1 sg gd => fin r st1 sg (by rw [ex, ey] at gd; exact gd)
  by_cases q3 : X.length - k ≤ k2
  · rw [if_pos q3]
    exact sc_bind (sc_mergeLo c hXs hYs dXs dYs (by rw [sx]; omega) (by rw [sy]; omega) pre0 prel gg)
  · rw [if_neg q3]
    exact sc_bind (sc_mergeHi c hXs hYs dXs dYs (by rw [sx]; omega) (by rw [sy]; omega) pre0 prel gg)
end
end SBig
namespace SBig
open PySem PyProof.Rows
noncomputable def ky (N : Keyed → Nat) (a : Array Keyed) (i : Nat) : Nat := N (a.getD i (Value.none, Value.none))
theorem ky_at {N : Keyed → Nat} {a : Array Keyed} {i : Nat} {x : Keyed} (h : a[i]? = some x) : ky N a i = N x := by
  unfold ky
  rw [Array.getD_eq_getD_getElem?, h]
  rfl
theorem ky_of {N : Keyed → Nat} {a b : Array Keyed} {i j : Nat} (h : a[i]? = b[j]?) : ky N a i = ky N b j := by
  unfold ky
  rw [Array.getD_eq_getD_getElem?, Array.getD_eq_getD_getElem?, h]
/-- the items from lo on are put otherwise, nothing else -/
structure CR (st0 st : SortSt) (lo : Nat) : Prop where
  kind : kindOf st = kindOf st0
  pend : pendingOf st = pendingOf st0
  fail : failedOf st = failedOf st0
  perm : (arrOf st).Perm (arrOf st0)
  same : ∀ i, i < lo → (arrOf st)[i]? = (arrOf st0)[i]?
theorem CR.refl (st : SortSt) (lo : Nat) : CR st st lo := ⟨rfl, rfl, rfl, Array.Perm.refl _, fun _ _ => rfl⟩
theorem CR.size {st0 st : SortSt} {lo : Nat} (h : CR st0 st lo) : (arrOf st).size = (arrOf st0).size := h.perm.size_eq
theorem CR.rev {st0 st : SortSt} {lo i j : Nat} (h : CR st0 st lo) (hi : lo ≤ i) (hj : j ≤ (arrOf st).size) : CR st0 (setArr st (mirror (arrOf st) i j ((j - i) / 2))) lo :=
  ⟨h.kind, h.pend, h.fail, (mirror_perm _ _ _ _).trans h.perm, fun k hk => by
    show (mirror (arrOf st) i j ((j - i) / 2))[k]? = _
    rw [getElem?_mirror_all hj, if_neg (by omega)]
    exact h.same k hk⟩
theorem ky_rev {N : Keyed → Nat} {a : Array Keyed} {i j : Nat} (hj : j ≤ a.size) (k : Nat) : ky N (mirror a i j ((j - i) / 2)) k = if i ≤ k ∧ k < j then ky N a (i + j - 1 - k) else ky N a k := by
  split
  · rename_i h
    exact ky_of (by rw [getElem?_mirror_all hj, if_pos h])
  · rename_i h
    exact ky_of (by rw [getElem?_mirror_all hj, if_neg h])
/-- rising, falling from lo on, n items -/
noncomputable def Up (N : Keyed → Nat) (a : Array Keyed) (lo n : Nat) : Prop := ∀ i j, i ≤ j → j < n → ky N a (lo + i) ≤ ky N a (lo + j)
noncomputable def Dn (N : Keyed → Nat) (a : Array Keyed) (lo n : Nat) : Prop := ∀ i j, i ≤ j → j < n → ky N a (lo + j) ≤ ky N a (lo + i)
theorem Up.one (N : Keyed → Nat) (a : Array Keyed) (lo : Nat) : Up N a lo 1 := fun i j h1 h2 => by
  rw [show i = j by omega]; exact Nat.le_refl _
theorem Up.step {N : Keyed → Nat} {a : Array Keyed} {lo n : Nat} (h : Up N a lo n) (h1 : 1 ≤ n) (hn : ¬ ky N a (lo + n) < ky N a (lo + n - 1)) : Up N a lo (n + 1) := fun i j hij hj => by
  by_cases e : j = n
  · subst e
    by_cases e2 : i = j
    · rw [e2]; exact Nat.le_refl _
    · have := h i (j - 1) (by omega) (by omega)
      rw [show lo + (j - 1) = lo + j - 1 by omega] at this
      omega
  · exact h i j hij (by omega)
theorem Dn.step {N : Keyed → Nat} {a : Array Keyed} {lo n : Nat} (h : Dn N a lo n) (h1 : 1 ≤ n) (hn : ky N a (lo + n) ≤ ky N a (lo + n - 1)) : Dn N a lo (n + 1) := fun i j hij hj => by
  by_cases e : j = n
  · subst e
    by_cases e2 : i = j
    · rw [e2]; exact Nat.le_refl _
    · have := h i (j - 1) (by omega) (by omega)
      rw [show lo + (j - 1) = lo + j - 1 by omega] at this
      omega
  · exact h i j hij (by omega)
theorem Dn.rev {N : Keyed → Nat} {a : Array Keyed} {lo n : Nat} (h : Dn N a lo n) (hn : lo + n ≤ a.size) : Up N (mirror a lo (lo + n) ((lo + n - lo) / 2)) lo n := fun i j hij hj => by
  rw [ky_rev hn, ky_rev hn, if_pos (by omega), if_pos (by omega)]
  have := h (n - 1 - j) (n - 1 - i) (by omega) (by omega)
  rw [show lo + (lo + n) - 1 - (lo + i) = lo + (n - 1 - i) by omega, show lo + (lo + n) - 1 - (lo + j) = lo + (n - 1 - j) by omega]
  exact this
/-- items that are alike, turned about -/
theorem Dn.same {N : Keyed → Nat} {a : Array Keyed} {lo n i j : Nat} (h : Dn N a lo n) (hj : j ≤ a.size) (he : ∀ k k', i ≤ k → k < j → i ≤ k' → k' < j → ky N a k = ky N a k') : Dn N (mirror a i j ((j - i) / 2)) lo n := by
  have e : ∀ k, ky N (mirror a i j ((j - i) / 2)) k = ky N a k := fun k => by
    rw [ky_rev hj]
    split
    · exact he _ _ (by omega) (by omega) (by omega) (by omega)
    · rfl
  intro p q hpq hq
  rw [e, e]
  exact h p q hpq hq
section
variable {prog : Program} {w : World} {A : Around} {SI : Shared → Prop} {α β : Type}
theorem sc_ltK {D : Keyed → Prop} {N : Keyed → Nat} {i j lo : Nat} {Q : Option Bool → SortSt → Prop} {st0 st : SortSt} (c : Cmp prog w A SI (kindOf st0) D N) (d : ∀ x ∈ (arrOf st0).toList, D x) (r : CR st0 st lo) (hi : i < (arrOf st0).size) (hj : j < (arrOf st0).size)
    (h : Q (some (decide (ky N (arrOf st) i < ky N (arrOf st) j))) st) : (SC prog w A SI) (ltAt' i j) Q st := by
  have dd : ∀ x ∈ (arrOf st).toList, D x := fun x hx => d x ((Array.perm_iff_toList_perm.mp r.perm).mem_iff.mp hx)
  have hi' : i < (arrOf st).size := by rw [r.size]; exact hi
  have hj' : j < (arrOf st).size := by rw [r.size]; exact hj
  obtain ⟨e1, e1'⟩ := at_list hi'
  obtain ⟨e2, e2'⟩ := at_list hj'
  refine sc_ltAt (by rw [r.kind]; exact c) e1 e2 (dd _ (by simp)) (dd _ (by simp)) ?_
  rw [ky_at e1, ky_at e2] at h
  exact h
theorem sc_rev {i j : Nat} {Q : Unit → SortSt → Prop} {st : SortSt} (h : Q () (setArr st (mirror (arrOf st) i j ((j - i) / 2)))) : (SC prog w A SI) (reverseSlice' i j) Q st := by
  rw [reverseSlice'_eq]
  exact sc_modify h
theorem sc_countRun {D : Keyed → Prop} {N : Keyed → Nat} {lo nrem : Nat} {Q : Option Nat → SortSt → Prop} {st : SortSt} (c : Cmp prog w A SI (kindOf st) D N) (d : ∀ x ∈ (arrOf st).toList, D x) (h1 : 1 ≤ nrem) (hs : lo + nrem ≤ (arrOf st).size)
    (h : ∀ n st', CR st st' lo → 1 ≤ n → n ≤ nrem → Up N (arrOf st') lo n → Q (some n) st') : (SC prog w A SI) (countRun' lo nrem) Q st := by
  rw [countRun'_eq]
  refine sc_bind (sc_mono (sc_range (Q := fun x st' => st' = st ∧ ∃ n, x = (none, n) ∧ 1 ≤ n ∧ n ≤ nrem ∧ Up N (arrOf st) lo n ∧ (n = nrem ∨ ky N (arrOf st) (lo + n) < ky N (arrOf st) (lo + n - 1)))
    (fun j x st' => st' = st ∧ x = (none, j) ∧ Up N (arrOf st) lo j) h1 ⟨rfl, rfl, Up.one _ _ _⟩ ?_ ?_) ?_)
  · rintro j x st' hj1 hj ⟨rfl, rfl, up⟩
    dsimp only
    refine sc_bind (sc_ltK c d (CR.refl _ lo) (by omega) (by omega) ?_)
    dsimp only
    by_cases q : ky N (arrOf st') (lo + j) < ky N (arrOf st') (lo + j - 1)
    · rw [decide_eq_true q, if_pos rfl]
      exact sc_pure ⟨rfl, j, rfl, hj1, by omega, up, .inr q⟩
    · rw [decide_eq_false q, if_neg (by simp)]
      exact sc_pure ⟨rfl, rfl, up.step hj1 q⟩
  · rintro x st' ⟨rfl, rfl, up⟩
    exact ⟨rfl, nrem, rfl, h1, Nat.le_refl _, up, .inl rfl⟩
  · rintro x st1 ⟨e1, n, rfl, n1, n2, up, hq⟩
    subst e1
    dsimp only
    by_cases q1 : n = nrem
    · rw [if_pos (by simp [q1])]
      exact sc_pure (h n st1 (CR.refl _ _) n1 n2 up)
    rw [if_neg (by simp [q1])]
    have hq : ky N (arrOf st1) (lo + n) < ky N (arrOf st1) (lo + n - 1) := hq.resolve_left q1
    have n3 : n < nrem := by omega
    by_cases q2 : n > 1
    · rw [if_pos q2]
      refine sc_bind (sc_ltK c d (CR.refl _ lo) (by omega) (by omega) ?_)
      dsimp only
      by_cases q3 : ky N (arrOf st1) lo < ky N (arrOf st1) (lo + n - 1)
      · rw [decide_eq_true q3, if_pos rfl]
        exact sc_pure (h n st1 (CR.refl _ _) n1 n2 up)
      · rw [decide_eq_false q3, if_neg (by simp)]
        refine sc_bind (sc_rev ?_)
        have r2 := (CR.refl st1 lo).rev (i := lo) (j := lo + n) (Nat.le_refl _) (by omega)
        have all : ∀ i, i < n → ky N (arrOf st1) (lo + i) = ky N (arrOf st1) lo := fun i hi => by
          have a1 := up 0 i (Nat.zero_le _) hi
          have a2 := up i (n - 1) (by omega) (by omega)
          rw [show lo + (n - 1) = lo + n - 1 by omega] at a2
          rw [Nat.add_zero] at a1
          omega
        have dn0 : Dn N (arrOf st1) lo n := fun i j hij hj => by rw [all i (by omega), all j hj]; exact Nat.le_refl _
        have dn1 : Dn N (arrOf st1) lo (n + 1) := dn0.step n1 (by omega)
        have dn2 := dn1.same (i := lo) (j := lo + n) (by omega) (fun k k' a1 a2 a3 a4 => by
          have b1 := all (k - lo) (by omega)
          have b2 := all (k' - lo) (by omega)
          rw [show lo + (k - lo) = k by omega] at b1
          rw [show lo + (k' - lo) = k' by omega] at b2
          rw [b1, b2])
        refine sc_bind (sc_rule ?_)
        refine sc_bind (sc_mono (sc_range (Q := fun x st' => CR st1 st' lo ∧ ∃ m q, x = (none, m, q) ∧ q + 1 ≤ m ∧ m ≤ nrem ∧ Dn N (arrOf st') lo m ∧ (∀ k k', lo + m - (q + 1) ≤ k → k < lo + m → lo + m - (q + 1) ≤ k' → k' < lo + m → ky N (arrOf st') k = ky N (arrOf st') k'))
          (fun j x st' => CR st1 st' lo ∧ ∃ q, x = (none, j, q) ∧ q + 1 ≤ j ∧ Dn N (arrOf st') lo j ∧ (∀ k k', lo + j - (q + 1) ≤ k → k < lo + j → lo + j - (q + 1) ≤ k' → k' < lo + j → ky N (arrOf st') k = ky N (arrOf st') k')) (by omega) ⟨r2, 0, rfl, by omega, dn2, fun k k' a1 a2 a3 a4 => by rw [show k = k' by omega]⟩ ?_ ?_) ?_)
        · rintro j x st3 hj1 hj ⟨r3, q, rfl, hqj, dn3, eq3⟩
          dsimp only
          refine sc_bind (sc_ltK c d r3 (by omega) (by omega) ?_)
          dsimp only
          by_cases hs : ky N (arrOf st3) (lo + j) < ky N (arrOf st3) (lo + j - 1)
          · rw [decide_eq_true hs, if_pos rfl]
            by_cases hq0 : q > 0
            · rw [if_pos hq0]
              refine sc_bind (sc_rev (sc_pure ⟨r3.rev (by omega) (by rw [r3.size]; omega), 0, rfl, by omega, ?_, fun k k' a1 a2 a3 a4 => by rw [show k = k' by omega]⟩))
              have dn4 : Dn N (arrOf st3) lo (j + 1) := dn3.step (by omega) (by omega)
              exact dn4.same (by rw [r3.size]; omega) eq3
            · rw [if_neg hq0]
              exact sc_pure ⟨r3, 0, rfl, by omega, dn3.step (by omega) (by omega), fun k k' a1 a2 a3 a4 => by rw [show k = k' by omega]⟩
          · rw [decide_eq_false hs, if_neg (by simp)]
            refine sc_bind (sc_ltK c d r3 (by omega) (by omega) ?_)
            dsimp only
            by_cases hl : ky N (arrOf st3) (lo + j - 1) < ky N (arrOf st3) (lo + j)
            · rw [decide_eq_true hl, if_pos rfl]
              exact sc_pure ⟨r3, j, q, rfl, hqj, by omega, dn3, eq3⟩
            · rw [decide_eq_false hl, if_neg (by simp)]
              have ee : ky N (arrOf st3) (lo + j) = ky N (arrOf st3) (lo + j - 1) := by omega
              have all : ∀ k, lo + j - (q + 1) ≤ k → k < lo + (j + 1) → ky N (arrOf st3) k = ky N (arrOf st3) (lo + j - 1) := fun k a1 a2 => by
                by_cases e : k = lo + j
                · rw [e]; exact ee
                · exact eq3 _ _ a1 (by omega) (by omega) (by omega)
              exact sc_pure ⟨r3, q + 1, rfl, by omega, dn3.step (by omega) (by omega), fun k k' a1 a2 a3 a4 => (all k (by omega) a2).trans (all k' (by omega) a4).symm⟩
        · rintro x st3 ⟨r3, q, rfl, hqj, dn3, eq3⟩
          exact ⟨r3, nrem, q, rfl, hqj, Nat.le_refl _, dn3, eq3⟩
        · rintro x st3 ⟨r3, m, q, rfl, hqm, hm, dn3, eq3⟩
          dsimp only
          by_cases hq0 : q > 0
          · rw [if_pos hq0]
            refine sc_bind (sc_rev ?_)
            have r4 := r3.rev (i := lo + m - (q + 1)) (j := lo + m) (by omega) (by rw [r3.size]; omega)
            have dn4 := dn3.same (i := lo + m - (q + 1)) (j := lo + m) (by rw [r3.size]; omega) eq3
            refine sc_bind (sc_rev ?_)
            have r5 := (r4).rev (i := lo) (j := lo + m) (Nat.le_refl _) (by rw [(r4).size]; omega)
            have up5 := (dn4).rev (by rw [(r4).size]; omega)
            refine sc_bind (sc_mono (sc_range (Q := fun x st' => CR st1 st' lo ∧ ∃ n, x = (none, n) ∧ 1 ≤ n ∧ n ≤ nrem ∧ Up N (arrOf st') lo n)
              (fun j x st' => CR st1 st' lo ∧ x = (none, j) ∧ Up N (arrOf st') lo j) (by omega) ⟨r5, rfl, up5⟩ ?_ ?_) ?_)
            · rintro j x st6 hj1 hj ⟨r6, rfl, up6⟩
              dsimp only
              refine sc_bind (sc_ltK c d r6 (by omega) (by omega) ?_)
              dsimp only
              by_cases q : ky N (arrOf st6) (lo + j) < ky N (arrOf st6) (lo + j - 1)
              · rw [decide_eq_true q, if_pos rfl]
                exact sc_pure ⟨r6, j, rfl, by omega, by omega, up6⟩
              · rw [decide_eq_false q, if_neg (by simp)]
                exact sc_pure ⟨r6, rfl, up6.step (by omega) q⟩
            · rintro x st6 ⟨r6, rfl, up6⟩
              exact ⟨r6, nrem, rfl, h1, Nat.le_refl _, up6⟩
            · rintro x st6 ⟨r6, m, rfl, m1, m2, up6⟩
              exact sc_pure (h m st6 r6 m1 m2 up6)
          · rw [if_neg hq0]
            refine sc_bind (sc_rev ?_)
            have r5 := (r3).rev (i := lo) (j := lo + m) (Nat.le_refl _) (by rw [(r3).size]; omega)
            have up5 := (dn3).rev (by rw [(r3).size]; omega)
            refine sc_bind (sc_mono (sc_range (Q := fun x st' => CR st1 st' lo ∧ ∃ n, x = (none, n) ∧ 1 ≤ n ∧ n ≤ nrem ∧ Up N (arrOf st') lo n)
              (fun j x st' => CR st1 st' lo ∧ x = (none, j) ∧ Up N (arrOf st') lo j) (by omega) ⟨r5, rfl, up5⟩ ?_ ?_) ?_)
            · rintro j x st6 hj1 hj ⟨r6, rfl, up6⟩
              dsimp only
              refine sc_bind (sc_ltK c d r6 (by omega) (by omega) ?_)
              dsimp only
              by_cases q : ky N (arrOf st6) (lo + j) < ky N (arrOf st6) (lo + j - 1)
              · rw [decide_eq_true q, if_pos rfl]
                exact sc_pure ⟨r6, j, rfl, by omega, by omega, up6⟩
              · rw [decide_eq_false q, if_neg (by simp)]
                exact sc_pure ⟨r6, rfl, up6.step (by omega) q⟩
            · rintro x st6 ⟨r6, rfl, up6⟩
              exact ⟨r6, nrem, rfl, h1, Nat.le_refl _, up6⟩
            · rintro x st6 ⟨r6, m, rfl, m1, m2, up6⟩
              exact sc_pure (h m st6 r6 m1 m2 up6)
    · rw [if_neg q2]
      have e1 : n = 1 := by omega
      have r2 := CR.refl st1 lo
      have dn2 : Dn N (arrOf st1) lo (n + 1) := by
        refine Dn.step (fun i j hij hj => ?_) n1 (by omega)
        rw [show i = j by omega]
        exact Nat.le_refl _
      refine sc_bind (sc_rule ?_)
      refine sc_bind (sc_mono (sc_range (Q := fun x st' => CR st1 st' lo ∧ ∃ m q, x = (none, m, q) ∧ q + 1 ≤ m ∧ m ≤ nrem ∧ Dn N (arrOf st') lo m ∧ (∀ k k', lo + m - (q + 1) ≤ k → k < lo + m → lo + m - (q + 1) ≤ k' → k' < lo + m → ky N (arrOf st') k = ky N (arrOf st') k'))
        (fun j x st' => CR st1 st' lo ∧ ∃ q, x = (none, j, q) ∧ q + 1 ≤ j ∧ Dn N (arrOf st') lo j ∧ (∀ k k', lo + j - (q + 1) ≤ k → k < lo + j → lo + j - (q + 1) ≤ k' → k' < lo + j → ky N (arrOf st') k = ky N (arrOf st') k')) (by omega) ⟨r2, 0, rfl, by omega, dn2, fun k k' a1 a2 a3 a4 => by rw [show k = k' by omega]⟩ ?_ ?_) ?_)
      · rintro j x st3 hj1 hj ⟨r3, q, rfl, hqj, dn3, eq3⟩
        dsimp only
        refine sc_bind (sc_ltK c d r3 (by omega) (by omega) ?_)
        dsimp only
        by_cases hs : ky N (arrOf st3) (lo + j) < ky N (arrOf st3) (lo + j - 1)
        · rw [decide_eq_true hs, if_pos rfl]
          by_cases hq0 : q > 0
          · rw [if_pos hq0]
            refine sc_bind (sc_rev (sc_pure ⟨r3.rev (by omega) (by rw [r3.size]; omega), 0, rfl, by omega, ?_, fun k k' a1 a2 a3 a4 => by rw [show k = k' by omega]⟩))
            have dn4 : Dn N (arrOf st3) lo (j + 1) := dn3.step (by omega) (by omega)
            exact dn4.same (by rw [r3.size]; omega) eq3
          · rw [if_neg hq0]
            exact sc_pure ⟨r3, 0, rfl, by omega, dn3.step (by omega) (by omega), fun k k' a1 a2 a3 a4 => by rw [show k = k' by omega]⟩
        · rw [decide_eq_false hs, if_neg (by simp)]
          refine sc_bind (sc_ltK c d r3 (by omega) (by omega) ?_)
          dsimp only
          by_cases hl : ky N (arrOf st3) (lo + j - 1) < ky N (arrOf st3) (lo + j)
          · rw [decide_eq_true hl, if_pos rfl]
            exact sc_pure ⟨r3, j, q, rfl, hqj, by omega, dn3, eq3⟩
          · rw [decide_eq_false hl, if_neg (by simp)]
            have ee : ky N (arrOf st3) (lo + j) = ky N (arrOf st3) (lo + j - 1) := by omega
            have all : ∀ k, lo + j - (q + 1) ≤ k → k < lo + (j + 1) → ky N (arrOf st3) k = ky N (arrOf st3) (lo + j - 1) := fun k a1 a2 => by
              by_cases e : k = lo + j
              · rw [e]; exact ee
              · exact eq3 _ _ a1 (by omega) (by omega) (by omega)
            exact sc_pure ⟨r3, q + 1, rfl, by omega, dn3.step (by omega) (by omega), fun k k' a1 a2 a3 a4 => (all k (by omega) a2).trans (all k' (by omega) a4).symm⟩
      · rintro x st3 ⟨r3, q, rfl, hqj, dn3, eq3⟩
        exact ⟨r3, nrem, q, rfl, hqj, Nat.le_refl _, dn3, eq3⟩
      · rintro x st3 ⟨r3, m, q, rfl, hqm, hm, dn3, eq3⟩
        dsimp only
        by_cases hq0 : q > 0
        · rw [if_pos hq0]
          refine sc_bind (sc_rev ?_)
          have r4 := r3.rev (i := lo + m - (q + 1)) (j := lo + m) (by omega) (by rw [r3.size]; omega)
          have dn4 := dn3.same (i := lo + m - (q + 1)) (j := lo + m) (by rw [r3.size]; omega) eq3
          refine sc_bind (sc_rev ?_)
          have r5 := (r4).rev (i := lo) (j := lo + m) (Nat.le_refl _) (by rw [(r4).size]; omega)
          have up5 := (dn4).rev (by rw [(r4).size]; omega)
          refine sc_bind (sc_mono (sc_range (Q := fun x st' => CR st1 st' lo ∧ ∃ n, x = (none, n) ∧ 1 ≤ n ∧ n ≤ nrem ∧ Up N (arrOf st') lo n)
            (fun j x st' => CR st1 st' lo ∧ x = (none, j) ∧ Up N (arrOf st') lo j) (by omega) ⟨r5, rfl, up5⟩ ?_ ?_) ?_)
          · rintro j x st6 hj1 hj ⟨r6, rfl, up6⟩
            dsimp only
            refine sc_bind (sc_ltK c d r6 (by omega) (by omega) ?_)
            dsimp only
            by_cases q : ky N (arrOf st6) (lo + j) < ky N (arrOf st6) (lo + j - 1)
            · rw [decide_eq_true q, if_pos rfl]
              exact sc_pure ⟨r6, j, rfl, by omega, by omega, up6⟩
            · rw [decide_eq_false q, if_neg (by simp)]
              exact sc_pure ⟨r6, rfl, up6.step (by omega) q⟩
          · rintro x st6 ⟨r6, rfl, up6⟩
            exact ⟨r6, nrem, rfl, h1, Nat.le_refl _, up6⟩
          · rintro x st6 ⟨r6, m, rfl, m1, m2, up6⟩
            exact sc_pure (h m st6 r6 m1 m2 up6)
        · rw [if_neg hq0]
          refine sc_bind (sc_rev ?_)
          have r5 := (r3).rev (i := lo) (j := lo + m) (Nat.le_refl _) (by rw [(r3).size]; omega)
          have up5 := (dn3).rev (by rw [(r3).size]; omega)
          refine sc_bind (sc_mono (sc_range (Q := fun x st' => CR st1 st' lo ∧ ∃ n, x = (none, n) ∧ 1 ≤ n ∧ n ≤ nrem ∧ Up N (arrOf st') lo n)
            (fun j x st' => CR st1 st' lo ∧ x = (none, j) ∧ Up N (arrOf st') lo j) (by omega) ⟨r5, rfl, up5⟩ ?_ ?_) ?_)
          · rintro j x st6 hj1 hj ⟨r6, rfl, up6⟩
            dsimp only
            refine sc_bind (sc_ltK c d r6 (by omega) (by omega) ?_)
            dsimp only
            by_cases q : ky N (arrOf st6) (lo + j) < ky N (arrOf st6) (lo + j - 1)
            · rw [decide_eq_true q, if_pos rfl]
              exact sc_pure ⟨r6, j, rfl, by omega, by omega, up6⟩
            · rw [decide_eq_false q, if_neg (by simp)]
              exact sc_pure ⟨r6, rfl, up6.step (by omega) q⟩
          · rintro x st6 ⟨r6, rfl, up6⟩
            exact ⟨r6, nrem, rfl, h1, Nat.le_refl _, up6⟩
          · rintro x st6 ⟨r6, m, rfl, m1, m2, up6⟩
            exact sc_pure (h m st6 r6 m1 m2 up6)
end
end SBig
namespace SBig
open PySem PyProof.Rows
section
variable {prog : Program} {w : World} {A : Around} {SI : Shared → Prop} {α β : Type}
theorem CR.move {st0 st : SortSt} {lo k l : Nat} (h : CR st0 st lo) (hk : lo + k < (arrOf st).size) (hl : l ≤ k) : CR st0 (setArr st (bubble (arrOf st) (lo + k) (lo + k - (lo + l)))) lo :=
  ⟨h.kind, h.pend, h.fail, (bubble_perm _ _ _).trans h.perm, fun i hi => by
    show (bubble (arrOf st) (lo + k) (lo + k - (lo + l)))[i]? = _
    rw [getElem?_bubble hk _ (by omega), if_neg (by omega), if_neg (by omega)]
    exact h.same i hi⟩
theorem ky_move {N : Keyed → Nat} {a : Array Keyed} {src d : Nat} (hs : src < a.size) (hd : d ≤ src) (k : Nat) : ky N (bubble a src d) k = if k = src - d then ky N a src else if src - d < k ∧ k ≤ src then ky N a (k - 1) else ky N a k := by
  by_cases h1 : k = src - d
  · rw [if_pos h1]; exact ky_of (by rw [getElem?_bubble hs d hd, if_pos h1])
  · rw [if_neg h1]
    by_cases h2 : src - d < k ∧ k ≤ src
    · rw [if_pos h2]; exact ky_of (by rw [getElem?_bubble hs d hd, if_neg h1, if_pos h2])
    · rw [if_neg h2]; exact ky_of (by rw [getElem?_bubble hs d hd, if_neg h1, if_neg h2])
theorem sc_binary {D : Keyed → Prop} {N : Keyed → Nat} {lo n ok : Nat} {Q : Bool → SortSt → Prop} {st0 st : SortSt} (c : Cmp prog w A SI (kindOf st0) D N) (d : ∀ x ∈ (arrOf st0).toList, D x) (r : CR st0 st lo) (h1 : 1 ≤ ok) (hn : ok ≤ n) (hs : lo + n ≤ (arrOf st0).size) (up : Up N (arrOf st) lo ok)
    (h : ∀ st', CR st0 st' lo → Up N (arrOf st') lo n → Q true st') : (SC prog w A SI) (binarySort' lo n ok) Q st := by
  rw [binarySort'_eq]
  rw [show max ok 1 = ok by omega]
  refine sc_bind (sc_mono (sc_range (Q := fun x st' => x = (none, ()) ∧ CR st0 st' lo ∧ Up N (arrOf st') lo n) (fun k x st' => x = (none, ()) ∧ CR st0 st' lo ∧ Up N (arrOf st') lo k) hn ⟨rfl, r, up⟩ ?_ ?_) ?_)
  · rintro k x st1 hk1 hk ⟨rfl, r1, up1⟩
    dsimp only
    have pv : ∀ i, i < k → lo + i < (arrOf st0).size := fun i hi => by omega
    refine sc_bind (sc_mono (sc_range (Q := fun x st' => st' = st1 ∧ ∃ l, x.1 = none ∧ x.2.1 = l ∧ l ≤ k ∧ (∀ i, i < l → ky N (arrOf st1) (lo + i) ≤ ky N (arrOf st1) (lo + k)) ∧ (∀ i, l ≤ i → i < k → ky N (arrOf st1) (lo + k) < ky N (arrOf st1) (lo + i)))
      (fun j x st' => st' = st1 ∧ ∃ l q, x = (none, l, q) ∧ l ≤ q ∧ q ≤ k ∧ q - l ≤ k - j ∧ (∀ i, i < l → ky N (arrOf st1) (lo + i) ≤ ky N (arrOf st1) (lo + k)) ∧ (∀ i, q ≤ i → i < k → ky N (arrOf st1) (lo + k) < ky N (arrOf st1) (lo + i))) (Nat.zero_le _)
      ⟨rfl, 0, k, rfl, by omega, by omega, by omega, fun i hi => absurd hi (Nat.not_lt_zero _), fun i h1 h2 => by omega⟩ ?_ ?_) ?_)
    · rintro j x st2 _ hj ⟨rfl, l, q, rfl, hlq, hqk, hm, p1, p2⟩
      dsimp only
      by_cases hge : l ≥ q
      · rw [if_pos hge]
        have e : l = q := by omega
        subst e
        exact sc_pure ⟨rfl, l, rfl, rfl, hqk, p1, p2⟩
      · rw [if_neg hge]
        refine sc_bind (sc_ltK c d r1 (by omega) (by omega) ?_)
        dsimp only
        by_cases hlt : ky N (arrOf st2) (lo + k) < ky N (arrOf st2) (lo + (l + q) / 2)
        · rw [decide_eq_true hlt, if_pos rfl]
          exact sc_pure ⟨rfl, l, _, rfl, by omega, by omega, by omega, p1, fun i a1 a2 => Nat.lt_of_lt_of_le hlt (up1 _ _ a1 a2)⟩
        · rw [decide_eq_false hlt, if_neg (by simp)]
          exact sc_pure ⟨rfl, _, q, rfl, by omega, by omega, by omega, fun i a1 => Nat.le_trans (up1 i ((l + q) / 2) (by omega) (by omega)) (by omega), p2⟩
    · rintro x st2 ⟨rfl, l, q, rfl, hlq, hqk, hm, p1, p2⟩
      have e : l = q := by omega
      subst e
      exact ⟨rfl, l, rfl, rfl, hqk, p1, p2⟩
    · rintro ⟨x1, x2, x3⟩ st2 ⟨e2, l, e3, e4, hlk, p1, p2⟩
      subst e2
      dsimp only at e3 e4
      subst e3 e4
      dsimp only
      rw [moveDown'_eq]
      refine sc_bind (sc_modify (sc_pure ⟨rfl, r1.move (by rw [r1.size]; omega) hlk, ?_⟩))
      have hsz : lo + k < (arrOf st2).size := by rw [r1.size]; omega
      intro i j hij hj
      show ky N (bubble (arrOf st2) (lo + k) (lo + k - (lo + x2))) (lo + i) ≤ ky N (bubble (arrOf st2) (lo + k) (lo + k - (lo + x2))) (lo + j)
      rw [ky_move hsz (by omega), ky_move hsz (by omega)]
      have ed : lo + k - (lo + k - (lo + x2)) = lo + x2 := by omega
      rw [ed]
      by_cases a1 : lo + i = lo + x2
      · rw [if_pos a1]
        by_cases a2 : lo + j = lo + x2
        · rw [if_pos a2]; exact Nat.le_refl _
        · rw [if_neg a2, if_pos (by omega)]
          have := p2 (j - 1) (by omega) (by omega)
          rw [show lo + (j - 1) = lo + j - 1 by omega] at this
          omega
      · rw [if_neg a1]
        by_cases a3 : lo + x2 < lo + i ∧ lo + i ≤ lo + k
        · rw [if_pos a3, if_neg (by omega), if_pos (by omega)]
          have := up1 (i - 1) (j - 1) (by omega) (by omega)
          rw [show lo + (j - 1) = lo + j - 1 by omega, show lo + (i - 1) = lo + i - 1 by omega] at this
          exact this
        · rw [if_neg a3]
          by_cases a4 : lo + j = lo + x2
          · rw [if_pos a4]
            exact p1 i (by omega)
          · rw [if_neg a4]
            by_cases a5 : lo + x2 < lo + j ∧ lo + j ≤ lo + k
            · rw [if_pos a5]
              have := up1 i (j - 1) (by omega) (by omega)
              rw [show lo + (j - 1) = lo + j - 1 by omega] at this
              exact this
            · rw [if_neg a5]
              exact up1 i j hij (by omega)
  · rintro x st1 ⟨rfl, r1, up1⟩
    exact ⟨rfl, r1, up1⟩
  · rintro x st1 ⟨rfl, r1, up1⟩
    exact sc_pure (h st1 r1 up1)
end
end SBig
namespace SBig
open PySem PyProof.Rows
/-- runs with their powers, as they are kept -/
noncomputable def pendL : List (List Keyed × Nat) → Nat → List (Nat × Nat × Nat)
  | [], _ => []
  | (r, p) :: t, o => (o, r.length, p) :: pendL t (o + r.length)
noncomputable def runsL (rp : List (List Keyed × Nat)) : List Keyed := (rp.map (·.1)).flatten
theorem runsL_app (a b : List (List Keyed × Nat)) : runsL (a ++ b) = runsL a ++ runsL b := by simp [runsL]
theorem runsL_cons (a : List Keyed × Nat) (b : List (List Keyed × Nat)) : runsL (a :: b) = a.1 ++ runsL b := by simp [runsL]
theorem pendL_app : ∀ (a b : List (List Keyed × Nat)) (o : Nat), pendL (a ++ b) o = pendL a o ++ pendL b (o + (runsL a).length)
  | [], b, o => by simp [pendL, runsL]
  | (r, p) :: t, b, o => by
    rw [List.cons_append, pendL, pendL, pendL_app t b, runsL_cons, List.length_append, List.cons_append, Nat.add_assoc]
theorem pendL_len : ∀ (a : List (List Keyed × Nat)) (o : Nat), (pendL a o).length = a.length
  | [], _ => rfl
  | (r, p) :: t, o => by rw [pendL, List.length_cons, List.length_cons, pendL_len t]
/-- the runs so far, and what is left -/
structure RI (N : Keyed → Nat) (st0 st : SortSt) (rp : List (List Keyed × Nat)) (rest : List Keyed) : Prop where
  kind : kindOf st = kindOf st0
  fail : failedOf st = none
  perm : (arrOf st).toList.Perm (arrOf st0).toList
  arr : (arrOf st).toList = runsL rp ++ rest
  pend : (pendingOf st).toList = pendL rp 0
  runs : ∀ r ∈ rp, r.1 ≠ [] ∧ Srt N r.1
theorem RI.size {N : Keyed → Nat} {st0 st : SortSt} {rp : List (List Keyed × Nat)} {rest : List Keyed} (h : RI N st0 st rp rest) : (arrOf st).size = (arrOf st0).size := by
  rw [← Array.length_toList, ← Array.length_toList, h.perm.length_eq]
theorem RI.psize {N : Keyed → Nat} {st0 st : SortSt} {rp : List (List Keyed × Nat)} {rest : List Keyed} (h : RI N st0 st rp rest) : (pendingOf st).size = rp.length := by
  rw [← Array.length_toList, h.pend, pendL_len]
section
variable {prog : Program} {w : World} {A : Around} {SI : Shared → Prop} {α β : Type}
theorem sc_mergeRuns {D : Keyed → Prop} {N : Keyed → Nat} {st0 st : SortSt} {a b : List (List Keyed × Nat)} {X Y : List Keyed} {p p2 i : Nat} {rest : List Keyed} {Q : Bool → SortSt → Prop} (c : Cmp prog w A SI (kindOf st0) D N) (d : ∀ x ∈ (arrOf st0).toList, D x)
    (h : RI N st0 st (a ++ (X, p) :: (Y, p2) :: b) rest) (hi : i = a.length) (k : ∀ Z st', RI N st0 st' (a ++ (Z, p) :: b) rest → Z.length = X.length + Y.length → Q true st') : (SC prog w A SI) (mergeAt' i) Q st := by
  subst hi
  have e := h.arr
  rw [runsL_app, runsL_cons, runsL_cons] at e
  have e' : (arrOf st).toList = runsL a ++ X ++ Y ++ (runsL b ++ rest) := by rw [e]; simp
  have dd : ∀ x ∈ (arrOf st).toList, D x := fun x hx => d x (h.perm.mem_iff.mp hx)
  have pe := h.pend
  rw [pendL_app, pendL, pendL, Nat.zero_add] at pe
  have pl : (pendL a 0).length = a.length := pendL_len a 0
  have q1 : (pendingOf st)[a.length]? = some ((runsL a).length, X.length, p) := by
    have : (pendingOf st).toList[a.length]? = some ((runsL a).length, X.length, p) := by
      rw [pe, List.getElem?_append_right (by omega), pl, Nat.sub_self]; rfl
    simpa using this
  have q2 : (pendingOf st)[a.length + 1]? = some ((runsL a).length + X.length, Y.length, p2) := by
    have : (pendingOf st).toList[a.length + 1]? = some ((runsL a).length + X.length, Y.length, p2) := by
      rw [pe, List.getElem?_append_right (by omega), pl, Nat.add_sub_cancel_left]; rfl
    simpa using this
  have hX := h.runs (X, p) (by simp)
  have hY := h.runs (Y, p2) (by simp)
  refine sc_mergeAt (by rw [h.kind]; exact c) e' hX.2 hY.2 hX.1 hY.1 (fun x hx => dd x (by rw [e']; simp [hx])) (fun x hx => dd x (by rw [e']; simp [hx])) q1 q2 h.fail fun Z st' hZ hp ea hk hf hpe => ?_
  have zl : Z.length = X.length + Y.length := by rw [hp.length_eq, List.length_append]
  refine k Z st' ⟨hk.trans h.kind, hf, ?_, ?_, ?_, fun r hr => ?_⟩ zl
  · refine List.Perm.trans ?_ h.perm
    rw [ea, e']
    rw [show runsL a ++ X ++ Y ++ (runsL b ++ rest) = runsL a ++ (X ++ Y) ++ (runsL b ++ rest) by simp]
    exact List.Perm.append_right _ (List.Perm.append_left _ hp)
  · rw [ea, runsL_app, runsL_cons]; simp
  · rw [hpe, Array.toList_eraseIdxIfInBounds, Array.toList_setIfInBounds, pe, pendL_app, pendL, Nat.zero_add]
    rw [List.set_append_right _ _ (by omega), pl, Nat.sub_self, List.set_cons_zero]
    rw [List.eraseIdx_append_of_length_le (by omega), pl, Nat.add_sub_cancel_left, List.eraseIdx_cons_succ, List.eraseIdx_cons_zero]
    rw [zl, Nat.add_assoc]
  · rcases List.mem_append.mp hr with hr | hr
    · exact h.runs r (List.mem_append_left _ hr)
    · rcases List.mem_cons.mp hr with rfl | hr
      · refine ⟨fun q => ?_, hZ⟩
        have hx := List.length_pos_iff.mpr hX.1
        dsimp only at q hx
        rw [q, List.length_nil] at zl
        omega
      · exact h.runs r (by simp [hr])
theorem srt_of_up {N : Keyed → Nat} {a : Array Keyed} {lo n : Nat} (h : Up N a lo n) (hn : lo + n ≤ a.size) : Srt N ((a.toList.drop lo).take n) := by
  refine List.pairwise_iff_getElem.mpr fun i j hi hj hij => ?_
  have hj' : j < n := by rw [List.length_take] at hj; omega
  have g : ∀ (i : Nat) (hi : i < ((a.toList.drop lo).take n).length), i < n → N ((a.toList.drop lo).take n)[i] = ky N a (lo + i) := fun i hi hin => by
    refine (ky_at ?_).symm
    have : ((a.toList.drop lo).take n)[i]? = some ((a.toList.drop lo).take n)[i] := List.getElem?_eq_getElem hi
    rw [List.getElem?_take, if_pos hin, List.getElem?_drop] at this
    simpa using this
  rw [g i hi (by omega), g j hj hj']
  exact h i j (by omega) hj'
theorem CR.toRI {N : Keyed → Nat} {st0 st1 st2 : SortSt} {rp : List (List Keyed × Nat)} {rest : List Keyed} {lo n : Nat} (h : RI N st0 st1 rp rest) (r : CR st1 st2 lo) (hlo : (runsL rp).length = lo) (up : Up N (arrOf st2) lo n) (hn : lo + n ≤ (arrOf st1).size) :
    ∃ R rest', RI N st0 st2 rp (R ++ rest') ∧ R.length = n ∧ Srt N R := by
  have hsz : (arrOf st2).size = (arrOf st1).size := r.size
  refine ⟨((arrOf st2).toList.drop lo).take n, (arrOf st2).toList.drop (lo + n), ⟨r.kind.trans h.kind, r.fail.trans h.fail, (Array.perm_iff_toList_perm.mp r.perm).trans h.perm, ?_, by rw [r.pend]; exact h.pend, h.runs⟩, ?_, srt_of_up up (by omega)⟩
  · have e : (arrOf st2).toList.take lo = runsL rp := by
      have e1 : (arrOf st2).toList.take lo = (arrOf st1).toList.take lo := by
        apply List.ext_getElem?
        intro i
        rw [List.getElem?_take, List.getElem?_take]
        split
        · rename_i hi
          have := r.same i hi
          simpa using this
        · rfl
      rw [e1, h.arr, List.take_append_of_le_length (by omega), List.take_of_length_le (by omega)]
    rw [← e]
    have t1 := List.take_append_drop lo (arrOf st2).toList
    have t2 := List.take_append_drop n ((arrOf st2).toList.drop lo)
    rw [List.drop_drop] at t2
    rw [t2, t1]
  · rw [List.length_take, List.length_drop, Array.length_toList]
    omega
theorem modify_last {α : Type} (f : α → α) : ∀ (l : List α) (x : α), (l ++ [x]).modify l.length f = l ++ [f x]
  | [], x => rfl
  | y :: l, x => by
    rw [List.cons_append, List.length_cons, List.modify_succ_cons, modify_last f l x, List.cons_append]
theorem list_end {α : Type} (l : List α) : l = [] ∨ ∃ a x, l = a ++ [x] := by
  by_cases h : l = []
  · exact .inl h
  · exact .inr ⟨l.dropLast, l.getLast h, (List.dropLast_concat_getLast h).symm⟩
theorem list_end2 {α : Type} (l : List α) (h : 1 < l.length) : ∃ a x y, l = a ++ x :: y :: [] := by
  rcases list_end l with rfl | ⟨a, y, rfl⟩
  · simp at h
  · rcases list_end a with rfl | ⟨b, x, rfl⟩
    · simp at h
    · exact ⟨b, x, y, by simp⟩
theorem RI.pushed {N : Keyed → Nat} {st0 st : SortSt} {rp : List (List Keyed × Nat)} {R rest : List Keyed} {lo m : Nat} (h : RI N st0 st rp (R ++ rest)) (hlo : (runsL rp).length = lo) (hm : R.length = m) (h1 : 1 ≤ m) (hR : Srt N R) : RI N st0 (setPending st ((pendingOf st).push (lo, m, 0))) (rp ++ [(R, 0)]) rest := by
  refine ⟨h.kind, h.fail, h.perm, ?_, ?_, fun r hr => ?_⟩
  · show (arrOf st).toList = _
    rw [h.arr, runsL_app, runsL_cons]
    simp [runsL]
  · show ((pendingOf st).push (lo, m, 0)).toList = _
    rw [Array.toList_push, h.pend, pendL_app, pendL, pendL, Nat.zero_add, hlo, hm]
  · rcases List.mem_append.mp hr with hr | hr
    · exact h.runs r hr
    · rw [List.mem_singleton.mp hr]
      exact ⟨fun q => by dsimp only at q; rw [q] at hm; simp at hm; omega, hR⟩
theorem RI.powered {N : Keyed → Nat} {st0 st : SortSt} {rp : List (List Keyed × Nat)} {rest : List Keyed} {X : List Keyed} {p : Nat} (pw : Nat) (h : RI N st0 st (rp ++ [(X, p)]) rest) : RI N st0 (setPending st ((pendingOf st).modify ((pendingOf st).size - 1) fun x => (x.fst, x.2.fst, pw))) (rp ++ [(X, pw)]) rest := by
  refine ⟨h.kind, h.fail, h.perm, ?_, ?_, fun r hr => ?_⟩
  · show (arrOf st).toList = _
    rw [h.arr, runsL_app, runsL_app, runsL_cons, runsL_cons]
  · show ((pendingOf st).modify ((pendingOf st).size - 1) _).toList = _
    rw [Array.toList_modify, h.psize, h.pend, pendL_app, pendL_app]
    rw [show (rp ++ [(X, p)]).length - 1 = (pendL rp 0).length by rw [pendL_len]; simp]
    show List.modify (pendL rp 0 ++ [_]) _ _ = _
    rw [modify_last]
    rfl
  · rcases List.mem_append.mp hr with hr | hr
    · exact h.runs r (List.mem_append_left _ hr)
    · rw [List.mem_singleton.mp hr]
      exact h.runs (X, p) (by simp)
theorem sc_sortRuns {D : Keyed → Prop} {N : Keyed → Nat} {Q : Unit → SortSt → Prop} {st : SortSt} (c : Cmp prog w A SI (kindOf st) D N) (d : ∀ x ∈ (arrOf st).toList, D x) (h2 : 1 ≤ (arrOf st).size) (hp : pendingOf st = #[]) (hf : failedOf st = none)
    (h : ∀ st', (arrOf st').toList.Perm (arrOf st).toList → Srt N (arrOf st').toList → failedOf st' = none → Q () st') : (SC prog w A SI) sortRuns' Q st := by
  rw [sortRuns'_eq]
  refine sc_bind (sc_get ?_)
  dsimp only
  have ri0 : RI N st st [] (arrOf st).toList := ⟨rfl, hf, List.Perm.refl _, rfl, by rw [hp]; rfl, fun _ h => (nomatch h)⟩
  refine sc_bind (sc_mono (sc_range (Q := fun x st' => ∃ rp lo, x = (none, lo) ∧ RI N st st' rp [])
    (fun j x st' => ∃ rp rest lo, x = (none, lo) ∧ RI N st st' rp rest ∧ (runsL rp).length = lo ∧ j ≤ lo ∧ lo ≤ (arrOf st).size) (Nat.zero_le _) ⟨[], _, 0, rfl, ri0, rfl, Nat.le_refl _, Nat.zero_le _⟩ ?_ ?_) ?_)
  · rintro j x st1 _ hj ⟨rp, rest, lo, rfl, ri, hlo, hjl, hls⟩
    dsimp only
    have s1 := ri.size
    by_cases hge : lo ≥ (arrOf st).size
    · rw [if_pos hge]
      have er : rest = [] := by
        have := congrArg List.length ri.arr
        rw [List.length_append, Array.length_toList, s1, hlo] at this
        exact List.length_eq_zero_iff.mp (by omega)
      subst er
      exact sc_pure ⟨rp, lo, rfl, ri⟩
    rw [if_neg hge]
    have d1 : ∀ x ∈ (arrOf st1).toList, D x := fun x hx => d x (ri.perm.mem_iff.mp hx)
    have c1 : Cmp prog w A SI (kindOf st1) D N := by rw [ri.kind]; exact c
    refine sc_bind (sc_countRun c1 d1 (by omega) (by omega) fun n st2 r2 n1 n2 up2 => ?_)
    dsimp only
    by_cases hmin : n < minRun' (arrOf st).size (arrOf st).size 0
    · rw [if_pos hmin]
      refine sc_bind (sc_rule ?_)
      refine sc_bind (sc_binary c1 d1 r2 n1 (by omega) (by omega) up2 fun st3 r3 up3 => ?_)
      rw [if_neg (by simp)]
      obtain ⟨R, rest', ri3, hR1, hR2⟩ := CR.toRI ri r3 hlo up3 (by omega)
      refine sc_bind (sc_get ?_)
      rcases list_end rp with e0 | ⟨a0, ⟨X0, p0⟩, e0⟩
      · subst e0
        have hb : (pendingOf st3).back? = none := by
          have := ri3.psize
          rw [List.length_nil] at this
          simp [Array.back?, this]
        rw [hb]
        dsimp only
        exact sc_bind (sc_modify (sc_pure ⟨_, _, _, rfl, ri3.pushed hlo hR1 (by omega) hR2, by rw [runsL_app, List.length_append, hlo, runsL_cons]; simp [runsL, hR1], by omega, by omega⟩))
      · have hb : (pendingOf st3).back? = some ((runsL a0).length, X0.length, p0) := by
          rw [← Array.getLast?_toList, ri3.pend, e0, pendL_app, pendL, pendL, Nat.zero_add]
          simp
        rw [hb]
        dsimp only
        refine sc_bind (sc_mono (sc_range (Q := fun x st' => x = (none, ()) ∧ ∃ rp', RI N st st' rp' (R ++ rest') ∧ rp' ≠ [] ∧ (runsL rp').length = lo) (fun j x st' => x = (none, ()) ∧ ∃ rp', RI N st st' rp' (R ++ rest') ∧ rp' ≠ [] ∧ (runsL rp').length = lo) (Nat.zero_le _) ⟨rfl, rp, ri3, by rw [e0]; simp, hlo⟩ ?_ ?_) ?_)
        · rintro j5 x st5 _ _ ⟨rfl, rp5, ri5, ne5, lo5⟩
          refine sc_bind (sc_get ?_)
          by_cases hz : (pendingOf st5).size > 1
          · obtain ⟨a5, ⟨X5, p5⟩, ⟨Y5, q5⟩, rfl⟩ := list_end2 rp5 (by rw [← ri5.psize]; exact hz)
            have hl5 : (pendingOf st5).size - 2 = a5.length := by rw [ri5.psize]; simp
            have hg5 : (pendingOf st5)[(pendingOf st5).size - 2]? = some ((runsL a5).length, X5.length, p5) := by
              have : (pendingOf st5).toList[a5.length]? = some ((runsL a5).length, X5.length, p5) := by
                rw [ri5.pend, pendL_app, List.getElem?_append_right (by rw [pendL_len]; omega), pendL_len, Nat.sub_self, Nat.zero_add]; rfl
              rw [hl5]
              simpa using this
            rw [if_pos hz, hg5]
            dsimp only
            split
            · exact sc_pure ⟨rfl, _, ri5, ne5, lo5⟩
            · refine sc_bind (sc_mergeRuns c d ri5 hl5 fun Z5 st6 ri6 zl6 => ?_)
              rw [if_neg (by simp)]
              refine sc_pure ⟨rfl, _, ri6, by simp, ?_⟩
              rw [← lo5, runsL_app, runsL_app, runsL_cons, runsL_cons, runsL_cons]
              simp [runsL, zl6]
              all_goals omega
          · rw [if_neg hz]
            exact sc_pure ⟨rfl, _, ri5, ne5, lo5⟩
        · rintro x st5 ⟨rfl, rp5, ri5, ne5, lo5⟩
          exact ⟨rfl, rp5, ri5, ne5, lo5⟩
        · rintro x st5 ⟨rfl, rp5, ri5, ne5, lo5⟩
          dsimp only
          obtain ⟨a5, ⟨X5, p5⟩, rfl⟩ := (list_end rp5).resolve_left ne5
          refine sc_bind (sc_modify (sc_bind (sc_modify (sc_pure ?_))))
          have lo6 : ∀ pw : Nat, (runsL (a5 ++ [(X5, pw)])).length = lo := fun pw => by
            rw [← lo5, runsL_app, runsL_app, runsL_cons, runsL_cons]
          exact ⟨_, _, _, rfl, (ri5.powered _).pushed (lo6 _) hR1 (by omega) hR2, by rw [runsL_app, List.length_append, lo6, runsL_cons]; simp [runsL, hR1], by omega, by omega⟩
    · rw [if_neg hmin]
      obtain ⟨R, rest', ri3, hR1, hR2⟩ := CR.toRI ri r2 hlo up2 (by omega)
      obtain ⟨st3, e3⟩ : ∃ st3, st3 = st2 := ⟨_, rfl⟩
      subst e3
      refine sc_bind (sc_get ?_)
      rcases list_end rp with e0 | ⟨a0, ⟨X0, p0⟩, e0⟩
      · subst e0
        have hb : (pendingOf st3).back? = none := by
          have := ri3.psize
          rw [List.length_nil] at this
          simp [Array.back?, this]
        rw [hb]
        dsimp only
        exact sc_bind (sc_modify (sc_pure ⟨_, _, _, rfl, ri3.pushed hlo hR1 (by omega) hR2, by rw [runsL_app, List.length_append, hlo, runsL_cons]; simp [runsL, hR1], by omega, by omega⟩))
      · have hb : (pendingOf st3).back? = some ((runsL a0).length, X0.length, p0) := by
          rw [← Array.getLast?_toList, ri3.pend, e0, pendL_app, pendL, pendL, Nat.zero_add]
          simp
        rw [hb]
        dsimp only
        refine sc_bind (sc_mono (sc_range (Q := fun x st' => x = (none, ()) ∧ ∃ rp', RI N st st' rp' (R ++ rest') ∧ rp' ≠ [] ∧ (runsL rp').length = lo) (fun j x st' => x = (none, ()) ∧ ∃ rp', RI N st st' rp' (R ++ rest') ∧ rp' ≠ [] ∧ (runsL rp').length = lo) (Nat.zero_le _) ⟨rfl, rp, ri3, by rw [e0]; simp, hlo⟩ ?_ ?_) ?_)
        · rintro j5 x st5 _ _ ⟨rfl, rp5, ri5, ne5, lo5⟩
          refine sc_bind (sc_get ?_)
          by_cases hz : (pendingOf st5).size > 1
          · obtain ⟨a5, ⟨X5, p5⟩, ⟨Y5, q5⟩, rfl⟩ := list_end2 rp5 (by rw [← ri5.psize]; exact hz)
            have hl5 : (pendingOf st5).size - 2 = a5.length := by rw [ri5.psize]; simp
            have hg5 : (pendingOf st5)[(pendingOf st5).size - 2]? = some ((runsL a5).length, X5.length, p5) := by
              have : (pendingOf st5).toList[a5.length]? = some ((runsL a5).length, X5.length, p5) := by
                rw [ri5.pend, pendL_app, List.getElem?_append_right (by rw [pendL_len]; omega), pendL_len, Nat.sub_self, Nat.zero_add]; rfl
              rw [hl5]
              simpa using this
            rw [if_pos hz, hg5]
            dsimp only
            split
            · exact sc_pure ⟨rfl, _, ri5, ne5, lo5⟩
            · refine sc_bind (sc_mergeRuns c d ri5 hl5 fun Z5 st6 ri6 zl6 => ?_)
              rw [if_neg (by simp)]
              refine sc_pure ⟨rfl, _, ri6, by simp, ?_⟩
              rw [← lo5, runsL_app, runsL_app, runsL_cons, runsL_cons, runsL_cons]
              simp [runsL, zl6]
              all_goals omega
          · rw [if_neg hz]
            exact sc_pure ⟨rfl, _, ri5, ne5, lo5⟩
        · rintro x st5 ⟨rfl, rp5, ri5, ne5, lo5⟩
          exact ⟨rfl, rp5, ri5, ne5, lo5⟩
        · rintro x st5 ⟨rfl, rp5, ri5, ne5, lo5⟩
          dsimp only
          obtain ⟨a5, ⟨X5, p5⟩, rfl⟩ := (list_end rp5).resolve_left ne5
          refine sc_bind (sc_modify (sc_bind (sc_modify (sc_pure ?_))))
          have lo6 : ∀ pw : Nat, (runsL (a5 ++ [(X5, pw)])).length = lo := fun pw => by
            rw [← lo5, runsL_app, runsL_app, runsL_cons, runsL_cons]
          exact ⟨_, _, _, rfl, (ri5.powered _).pushed (lo6 _) hR1 (by omega) hR2, by rw [runsL_app, List.length_append, lo6, runsL_cons]; simp [runsL, hR1], by omega, by omega⟩
  · rintro x st1 ⟨rp, rest, lo, rfl, ri, hlo, hjl, hls⟩
    have s1 := ri.size
    have er : rest = [] := by
      have := congrArg List.length ri.arr
      rw [List.length_append, Array.length_toList, s1, hlo] at this
      exact List.length_eq_zero_iff.mp (by omega)
    subst er
    exact ⟨rp, lo, rfl, ri⟩
  · rintro x st1 ⟨rp, lo, rfl, ri⟩
    dsimp only
    have few : ∀ (rp : List (List Keyed × Nat)), (∀ r ∈ rp, r.1 ≠ [] ∧ Srt N r.1) → rp.length ≤ (runsL rp).length := by
      intro rp
      induction rp with
      | nil => intro _; exact Nat.zero_le _
      | cons r t ih =>
        intro hr
        rw [runsL_cons, List.length_cons, List.length_append]
        have := List.length_pos_iff.mpr (hr r (by simp)).1
        have := ih fun q hq => hr q (by simp [hq])
        omega
    have l1 : rp.length ≤ (arrOf st).size := by
      have a1 := few rp ri.runs
      have a2 := congrArg List.length ri.arr
      rw [List.append_nil, Array.length_toList, ri.size] at a2
      omega
    refine sc_bind (sc_mono (sc_range (Q := fun x st' => x = (none, ()) ∧ ∃ rp, RI N st st' rp [] ∧ rp.length ≤ 1) (fun j x st' => x = (none, ()) ∧ ∃ rp, RI N st st' rp [] ∧ rp.length ≤ max 1 ((arrOf st).size - j)) (Nat.zero_le _) ⟨rfl, rp, ri, by omega⟩ ?_ ?_) ?_)
    · rintro j x st2 _ hj ⟨rfl, rp, ri, hl⟩
      refine sc_bind (sc_get ?_)
      by_cases hz : (pendingOf st2).size ≤ 1
      · rw [if_pos hz]
        exact sc_pure ⟨rfl, rp, ri, by rw [← ri.psize]; exact hz⟩
      rw [if_neg hz]
      have hz2 : 1 < rp.length := by rw [← ri.psize]; omega
      have e2 : (pendingOf st2).size = rp.length := ri.psize
      generalize hi0 : (if Option.any _ _ = true then (pendingOf st2).size - 2 - 1 else (pendingOf st2).size - 2) = i
      have hi : i + 1 < rp.length := by
        have pick : ∀ (c : Prop) [Decidable c] (n : Nat), 2 ≤ n → (if c then n - 2 - 1 else n - 2) + 1 < n := fun c _ n hn => by split <;> omega
        rw [← hi0, ← e2]
        exact pick _ _ (by omega)
      clear hi0
      obtain ⟨a, X, p, Y, q, b, rfl, hl2⟩ : ∃ a X p Y q b, rp = a ++ (X, p) :: (Y, q) :: b ∧ i = a.length := by
        refine ⟨rp.take i, rp[i].1, rp[i].2, rp[i + 1].1, rp[i + 1].2, rp.drop (i + 2), ?_, by rw [List.length_take]; omega⟩
        have t1 := (List.take_append_drop i rp).symm
        rw [List.drop_eq_getElem_cons (by omega), List.drop_eq_getElem_cons (by omega)] at t1
        exact t1
      refine sc_bind (sc_mergeRuns c d ri hl2 fun Z st3 ri3 zl => ?_)
      rw [if_neg (by simp)]
      refine sc_pure ⟨rfl, _, ri3, ?_⟩
      simp only [List.length_append, List.length_cons] at hl hi ⊢
      omega
    · rintro x st2 ⟨rfl, rp, ri, hl⟩
      exact ⟨rfl, rp, ri, by omega⟩
    · rintro x st2 ⟨rfl, rp, ri, hl⟩
      refine sc_pure (h st2 ri.perm ?_ ri.fail)
      rw [ri.arr, List.append_nil]
      match rp, hl, ri.runs with
      | [], _, _ => exact List.Pairwise.nil
      | [r], _, hr =>
        rw [runsL_cons]
        simp only [runsL, List.map_nil, List.flatten_nil, List.append_nil]
        exact (hr r (by simp)).2
end
end SBig
namespace STab
open PySem PySem.SetTable
theorem five_pow : ∀ k : Nat, ∃ q, 5 ^ (2 ^ k) = 1 + 2 ^ (k + 2) * (2 * q + 1)
  | 0 => ⟨0, rfl⟩
  | k + 1 => by
    obtain ⟨q, e⟩ := five_pow k
    refine ⟨q + 2 ^ k * (2 * q + 1) * (2 * q + 1), ?_⟩
    rw [Nat.pow_succ 2 k, Nat.pow_mul, e]
    generalize hr : 2 * q + 1 = r
    have h2 : 2 ^ (k + 2) = 4 * 2 ^ k := by rw [Nat.pow_add]; omega
    have h3 : 2 ^ (k + 1 + 2) = 8 * 2 ^ k := by rw [show k + 1 + 2 = k + 3 by omega, Nat.pow_add]; omega
    rw [h2, h3]
    generalize 2 ^ k = p
    have e1 : 2 * (q + p * r * r) + 1 = r + 2 * (p * r * r) := by omega
    rw [e1, Nat.mul_assoc 4 p r, Nat.mul_assoc 8 p]
    generalize hs : p * r = t
    have m1 : p * (r + 2 * (t * r)) = t + 2 * (t * t) := by
      rw [Nat.mul_add, hs]
      have : p * (2 * (t * r)) = 2 * (t * t) := by
        rw [Nat.mul_left_comm, Nat.mul_left_comm p t r, hs]
      omega
    rw [m1, Nat.pow_two, Nat.add_mul, Nat.one_mul, Nat.mul_add, Nat.mul_one]
    have m2 : 4 * t * (4 * t) = 16 * (t * t) := by rw [Nat.mul_mul_mul_comm]
    rw [m2]
    omega
noncomputable def step (M i : Nat) : Nat := (i * 5 + 1) % M
noncomputable def iter (M : Nat) : Nat → Nat → Nat
  | 0, i => i
  | n + 1, i => step M (iter M n i)
/-- the sum of powers of five -/
noncomputable def geo : Nat → Nat
  | 0 => 0
  | n + 1 => geo n * 5 + 1
theorem geo_eq : ∀ n, 4 * geo n + 1 = 5 ^ n
  | 0 => rfl
  | n + 1 => by
    have := geo_eq n
    rw [Nat.pow_succ, ← this, geo]
    omega
theorem iter_eq (M : Nat) (i : Nat) : ∀ n, iter M n i % M = (5 ^ n * i + geo n) % M
  | 0 => by simp [iter, geo]
  | n + 1 => by
    have ih := iter_eq M i n
    rw [iter, step, Nat.mod_mod, geo, Nat.pow_succ]
    rw [Nat.add_mod, Nat.mul_mod, ih, ← Nat.mul_mod, ← Nat.add_mod]
    congr 1
    rw [Nat.add_mul]
    have : 5 ^ n * 5 * i = 5 ^ n * i * 5 := by rw [Nat.mul_right_comm]
    omega
/-- in 2 ^ k steps every place is come to -/
theorem goes_round : ∀ (k i e : Nat), e < 2 ^ k → ∃ n, n < 2 ^ k ∧ iter (2 ^ k) n i % 2 ^ k = e
  | 0, i, e, he => ⟨0, by decide, by simp at he; subst he; simp [Nat.mod_one]⟩
  | k + 1, i, e, he => by
    obtain ⟨n, hn, hq⟩ := goes_round k i (e % 2 ^ k) (Nat.mod_lt _ (Nat.two_pow_pos k))
    have low : ∀ n, iter (2 ^ (k + 1)) n i % 2 ^ (k + 1) % 2 ^ k = iter (2 ^ k) n i % 2 ^ k := fun n => by
      rw [Nat.mod_mod_of_dvd _ (Nat.pow_dvd_pow 2 (Nat.le_succ k)), ← Nat.mod_mod_of_dvd _ (Nat.pow_dvd_pow 2 (Nat.le_succ k)), iter_eq, Nat.mod_mod_of_dvd _ (Nat.pow_dvd_pow 2 (Nat.le_succ k)), iter_eq]
    obtain ⟨q, hq5⟩ := five_pow k
    have gk : geo (2 ^ k) = 2 ^ k * (2 * q + 1) := by
      have g := geo_eq (2 ^ k)
      rw [hq5, Nat.pow_add] at g
      have : 2 ^ k * 2 ^ 2 * (2 * q + 1) = 4 * (2 ^ k * (2 * q + 1)) := by
        rw [Nat.mul_right_comm]; omega
      omega
    have far : ∀ n, iter (2 ^ (k + 1)) (n + 2 ^ k) i % 2 ^ (k + 1) = (iter (2 ^ (k + 1)) n i + 2 ^ k) % 2 ^ (k + 1) := fun n => by
      rw [iter_eq]
      have e1 : 5 ^ (n + 2 ^ k) * i + geo (n + 2 ^ k) = 5 ^ (2 ^ k) * (5 ^ n * i + geo n) + geo (2 ^ k) := by
        have g1 := geo_eq (n + 2 ^ k)
        have g2 := geo_eq n
        have g3 := geo_eq (2 ^ k)
        rw [Nat.pow_add] at g1 ⊢
        rw [← g3, ← g2] at g1
        rw [← g3, ← g2]
        generalize geo (n + 2 ^ k) = x at g1 ⊢
        generalize geo n = y at g1 ⊢
        generalize geo (2 ^ k) = z at g1 ⊢
        have m1 : (4 * y + 1) * (4 * z + 1) = 16 * (y * z) + 4 * y + 4 * z + 1 := by
          rw [Nat.add_mul, Nat.mul_add]
          have : 4 * y * (4 * z) = 16 * (y * z) := by rw [Nat.mul_mul_mul_comm]
          omega
        have hx : x = 4 * (y * z) + y + z := by omega
        have m2 : (4 * y + 1) * (4 * z + 1) * i = (4 * z + 1) * ((4 * y + 1) * i) := by rw [Nat.mul_comm (4 * y + 1), Nat.mul_assoc]
        rw [m2, Nat.mul_add (4 * z + 1), hx]
        have m3 : (4 * z + 1) * y = 4 * (y * z) + y := by rw [Nat.add_mul, Nat.mul_assoc, Nat.mul_comm z y]; omega
        omega
      rw [e1, hq5, gk]
      have hM : 2 ^ (k + 1) = 2 * 2 ^ k := by rw [Nat.pow_succ]; omega
      have hM2 : 2 ^ (k + 2) = 2 * 2 ^ (k + 1) := by rw [Nat.pow_succ]; omega
      have e2 := iter_eq (2 ^ (k + 1)) i n
      generalize 5 ^ n * i + geo n = v at e2 ⊢
      have e3 : (1 + 2 ^ (k + 2) * (2 * q + 1)) * v + 2 ^ k * (2 * q + 1) = v + 2 ^ k + 2 ^ (k + 1) * (2 * ((2 * q + 1) * v) + q) := by
        rw [Nat.add_mul, Nat.one_mul, hM2]
        have p1 : 2 * 2 ^ (k + 1) * (2 * q + 1) * v = 2 ^ (k + 1) * (2 * ((2 * q + 1) * v)) := by
          simp only [Nat.mul_assoc, Nat.mul_left_comm]
        have p2 : 2 ^ k * (2 * q + 1) = 2 ^ k + 2 ^ (k + 1) * q := by
          rw [hM, Nat.mul_add, Nat.mul_one]
          have : 2 ^ k * (2 * q) = 2 * 2 ^ k * q := by simp only [Nat.mul_assoc, Nat.mul_left_comm]
          omega
        rw [p1, p2, Nat.mul_add]
        omega
      rw [e3, Nat.add_mul_mod_self_left, Nat.add_mod, ← e2, ← Nat.add_mod]
    have hM : 2 ^ (k + 1) = 2 * 2 ^ k := by rw [Nat.pow_succ]; omega
    have l1 := low n
    rw [hq] at l1
    have b1 : iter (2 ^ (k + 1)) n i % 2 ^ (k + 1) < 2 ^ (k + 1) := Nat.mod_lt _ (Nat.two_pow_pos _)
    have p : 0 < 2 ^ k := Nat.two_pow_pos k
    have f1 := far n
    rw [Nat.add_mod, Nat.mod_eq_of_lt (by omega : 2 ^ k < 2 ^ (k + 1))] at f1
    obtain ⟨a, ha⟩ : ∃ a, a = iter (2 ^ (k + 1)) n i % 2 ^ (k + 1) := ⟨_, rfl⟩
    rw [← ha] at l1 b1 f1
    have key : a = e ∨ (a + 2 ^ k) % 2 ^ (k + 1) = e := by
      have d1 := Nat.div_add_mod a (2 ^ k)
      have d2 := Nat.div_add_mod e (2 ^ k)
      have q1 : a / 2 ^ k < 2 := Nat.div_lt_of_lt_mul (by omega)
      have q2 : e / 2 ^ k < 2 := Nat.div_lt_of_lt_mul (by omega)
      rw [l1] at d1
      generalize a / 2 ^ k = u at d1 q1
      generalize e / 2 ^ k = v at d2 q2
      generalize e % 2 ^ k = r at d1 d2
      have hu : u = 0 ∨ u = 1 := by omega
      have hv : v = 0 ∨ v = 1 := by omega
      rcases hu with rfl | rfl <;> rcases hv with rfl | rfl
      · left; omega
      · right
        rw [Nat.mod_eq_of_lt (by omega)]
        omega
      · right
        rw [show a + 2 ^ k = e + 2 ^ (k + 1) by omega, Nat.add_mod_right, Nat.mod_eq_of_lt he]
      · left; omega
    rcases key with h | h
    · exact ⟨n, by omega, by rw [← ha, h]⟩
    · exact ⟨n + 2 ^ k, by omega, by rw [f1, h]⟩
end STab
namespace STab
open PySem PySem.SetTable
/-- the n-th stand of the probing, the slots it comes to -/
noncomputable def stand (t : SetTable) (h : Int) : Nat → Probe
  | 0 => t.probeStart h
  | n + 1 => t.advance (stand t h n)
noncomputable def way (t : SetTable) (h : Int) (n : Nat) : Nat := (stand t h n).j
/-- where the runs begin -/
noncomputable def runAt (t : SetTable) (h : Int) : Nat → Nat × Nat
  | 0 => (bits h % (t.mask + 1), bits h)
  | r + 1 => leap t.mask (runAt t h r).1 (runAt t h r).2
theorem stand_dummy (t : SetTable) (h : Int) : ∀ n, (stand t h n).dummy = none
  | 0 => rfl
  | n + 1 => by
    have := stand_dummy t h n
    show (t.advance (stand t h n)).dummy = none
    unfold advance
    split
    · exact this
    · exact this
theorem run_len (m i : Nat) : runEnd m i - i ≤ 9 := by
  unfold runEnd
  split <;> omega
/-- run r is begun by the 10 r-th stand at the latest, and gone along -/
theorem run_stand (t : SetTable) (h : Int) : ∀ r, ∃ n, n ≤ 10 * r ∧ ∀ d, d ≤ runEnd t.mask (runAt t h r).1 - (runAt t h r).1 →
    stand t h (n + d) = ⟨(runAt t h r).1 + d, runEnd t.mask (runAt t h r).1 - (runAt t h r).1 - d, (runAt t h r).1, (runAt t h r).2, none⟩ := by
  have along : ∀ (n i pb : Nat), stand t h n = ⟨i, runEnd t.mask i - i, i, pb, none⟩ → ∀ d, d ≤ runEnd t.mask i - i → stand t h (n + d) = ⟨i + d, runEnd t.mask i - i - d, i, pb, none⟩ := by
    intro n i pb e d
    induction d with
    | zero => intro _; rw [Nat.add_zero, e]; rfl
    | succ d ih =>
      intro hd
      show t.advance (stand t h (n + d)) = _
      rw [ih (by omega)]
      unfold advance
      rw [if_pos (by dsimp only; omega)]
      simp only [Probe.mk.injEq, and_true]
      omega
  intro r
  induction r with
  | zero => exact ⟨0, Nat.zero_le _, along 0 _ _ rfl⟩
  | succ r ih =>
    obtain ⟨n, hn, e⟩ := ih
    have hl := run_len t.mask (runAt t h r).1
    refine ⟨n + (runEnd t.mask (runAt t h r).1 - (runAt t h r).1) + 1, by omega, along _ _ (runAt t h (r + 1)).2 ?_⟩
    show t.advance (stand t h _) = _
    rw [e _ (Nat.le_refl _)]
    unfold advance
    rw [if_neg (by dsimp only; omega)]
    rfl
theorem bits_lt (h : Int) : bits h < 2 ^ 64 := by
  unfold bits
  have h1 := Int.emod_nonneg h (by decide : (2 ^ 64 : Int) ≠ 0)
  have h2 := Int.emod_lt_of_pos h (by decide : (0 : Int) < 2 ^ 64)
  omega
theorem runAt_pert (t : SetTable) (h : Int) : ∀ r, (runAt t h r).2 = bits h / 32 ^ r
  | 0 => by simp [runAt]
  | r + 1 => by
    show (runAt t h r).2 / 32 = _
    rw [runAt_pert t h r, Nat.div_div_eq_div_mul, Nat.pow_succ]
theorem runAt_lt (t : SetTable) (h : Int) : ∀ r, (runAt t h r).1 < t.mask + 1
  | 0 => Nat.mod_lt _ (Nat.succ_pos _)
  | r + 1 => Nat.mod_lt _ (Nat.succ_pos _)
theorem runAt_iter (t : SetTable) (h : Int) : ∀ m, (runAt t h (12 + m)).1 = iter (t.mask + 1) m (runAt t h 12).1
  | 0 => rfl
  | m + 1 => by
    show ((runAt t h (12 + m)).1 * 5 + 1 + (runAt t h (12 + m)).2 / 32) % (t.mask + 1) = step (t.mask + 1) (iter (t.mask + 1) m (runAt t h 12).1)
    rw [runAt_iter t h m, runAt_pert, Nat.div_div_eq_div_mul, ← Nat.pow_succ]
    have hz : bits h / 32 ^ (12 + m + 1) = 0 := by
      refine Nat.div_eq_of_lt (Nat.lt_of_lt_of_le (bits_lt h) ?_)
      exact Nat.le_trans (by decide : 2 ^ 64 ≤ 32 ^ 13) (Nat.pow_le_pow_right (by decide) (by omega))
    rw [hz, Nat.add_zero]
    rfl
/-- a run begins at each slot -/
theorem run_covers {t : SetTable} {k : Nat} (hm : t.mask + 1 = 2 ^ k) (h : Int) (e : Nat) (he : e ≤ t.mask) : ∃ r, r < turns t.mask ∧ (runAt t h r).1 = e := by
  obtain ⟨n, hn, hq⟩ := goes_round k (runAt t h 12).1 e (by omega)
  refine ⟨12 + n, by unfold turns; omega, ?_⟩
  rw [runAt_iter, hm]
  rw [← hm] at hq
  have : iter (t.mask + 1) n (runAt t h 12).1 < t.mask + 1 := by rw [← runAt_iter]; exact runAt_lt t h _
  rw [Nat.mod_eq_of_lt this] at hq
  rw [← hm]
  exact hq
theorem way_covers {t : SetTable} {k : Nat} (hm : t.mask + 1 = 2 ^ k) (h : Int) (e : Nat) (he : e ≤ t.mask) : ∃ n, n + 10 ≤ 10 * turns t.mask ∧ way t h n = e := by
  obtain ⟨r, hr, hq⟩ := run_covers hm h e he
  obtain ⟨n, hn, hs⟩ := run_stand t h r
  refine ⟨n, by omega, ?_⟩
  have := hs 0 (Nat.zero_le _)
  unfold way
  rw [Nat.add_zero] at this
  rw [this]
  exact hq
theorem go_meets {t : SetTable} (hd : t.dummies = #[]) {hashAt : Nat → Int} {h : Int} : ∀ (fuel n m : Nat), n ≤ m → m < n + fuel → t.slot (way t h m) = .empty →
    ∃ q, n ≤ q ∧ q ≤ m ∧ (∀ j, n ≤ j → j < q → ∃ i, t.slot (way t h j) = .live i ∧ hashAt i ≠ h) ∧
      ((t.slot (way t h q) = .empty ∧ probe.go t hashAt h fuel (stand t h n) = some (.empty (way t h q) none)) ∨
       ∃ i, t.slot (way t h q) = .live i ∧ hashAt i = h ∧ probe.go t hashAt h fuel (stand t h n) = some (.candidate (way t h q) i (stand t h (q + 1))))
  | 0, n, m, h1, h2, _ => by omega
  | fuel + 1, n, m, h1, h2, he => by
    have unf : probe.go t hashAt h (fuel + 1) (stand t h n) = (match t.slot (stand t h n).j with
      | .empty => some (.empty (stand t h n).j (stand t h n).dummy)
      | .dummy => probe.go t hashAt h fuel (t.advance { stand t h n with dummy := some (stand t h n).j })
      | .live i => if hashAt i == h then some (.candidate (stand t h n).j i (t.advance (stand t h n))) else probe.go t hashAt h fuel (t.advance (stand t h n))) := rfl
    have ej : (stand t h n).j = way t h n := rfl
    cases hs : t.slot (way t h n) with
    | empty =>
      refine ⟨n, Nat.le_refl _, h1, fun j a b => by omega, .inl ⟨hs, ?_⟩⟩
      rw [unf, ej, hs, stand_dummy]
    | dummy =>
      exfalso
      unfold slot at hs
      dsimp only at hs
      split at hs
      · cases hs
      · split at hs
        · rename_i q
          rw [hd] at q
          simp [has] at q
        · cases hs
    | live i =>
      by_cases hq : hashAt i = h
      · refine ⟨n, Nat.le_refl _, h1, fun j a b => by omega, .inr ⟨i, hs, hq, ?_⟩⟩
        rw [unf, ej, hs]
        dsimp only
        rw [if_pos (by simp [hq])]
        rfl
      · have hnm : n ≠ m := fun q => by rw [q, he] at hs; cases hs
        obtain ⟨q, q1, q2, q3, q4⟩ := go_meets hd fuel (n + 1) m (by omega) (by omega) he
        have e2 : probe.go t hashAt h (fuel + 1) (stand t h n) = probe.go t hashAt h fuel (stand t h (n + 1)) := by
          rw [unf, ej, hs]
          dsimp only
          rw [if_neg (by simp [hq])]
          rfl
        refine ⟨q, by omega, q2, fun j a b => ?_, ?_⟩
        · by_cases e : j = n
          · rw [e]; exact ⟨i, hs, hq⟩
          · exact q3 j (by omega) b
        · rw [e2]; exact q4
end STab
namespace STab
open PySem PySem.SetTable
theorem below_go (xs : Array Nat) (j : Nat) (hs : ∀ a b (ha : a < xs.size) (hb : b < xs.size), a < b → xs[a] < xs[b]) : ∀ (fuel lo hi : Nat), hi - lo ≤ fuel → lo ≤ hi → hi ≤ xs.size → (∀ i (h : i < xs.size), i < lo → xs[i] < j) → (∀ i (h : i < xs.size), hi ≤ i → j ≤ xs[i]) →
    below.go xs j fuel lo hi ≤ xs.size ∧ (∀ i (h : i < xs.size), i < below.go xs j fuel lo hi → xs[i] < j) ∧ (∀ i (h : i < xs.size), below.go xs j fuel lo hi ≤ i → j ≤ xs[i])
  | 0, lo, hi, h1, h2, h3, h4, h5 => by
    have e : lo = hi := by omega
    subst e
    exact ⟨h3, h4, h5⟩
  | fuel + 1, lo, hi, h1, h2, h3, h4, h5 => by
    rw [below.go]
    by_cases hlt : lo < hi
    · rw [if_pos hlt]
      dsimp only
      have hm : (lo + hi) / 2 < xs.size := by omega
      have eg : xs.getD ((lo + hi) / 2) j = xs[(lo + hi) / 2] := by simp [Array.getD, hm]
      rw [eg]
      by_cases hx : xs[(lo + hi) / 2] < j
      · rw [if_pos hx]
        refine below_go xs j hs fuel _ hi (by omega) (by omega) h3 (fun i h hi' => ?_) h5
        by_cases e : i = (lo + hi) / 2
        · subst e; exact hx
        · exact Nat.lt_trans (hs i _ h hm (by omega)) hx
      · rw [if_neg hx]
        refine below_go xs j hs fuel lo _ (by omega) (by omega) (by omega) h4 (fun i h hi' => ?_)
        by_cases e : i = (lo + hi) / 2
        · subst e; omega
        · have := hs _ i hm h (by omega)
          omega
    · rw [if_neg hlt]
      have e : lo = hi := by omega
      subst e
      exact ⟨h3, h4, h5⟩
/-- rising -/
noncomputable def Rise (xs : Array Nat) : Prop := ∀ a b (ha : a < xs.size) (hb : b < xs.size), a < b → xs[a] < xs[b]
theorem below_spec {xs : Array Nat} (hs : Rise xs) (j : Nat) : below xs j ≤ xs.size ∧ (∀ i (h : i < xs.size), i < below xs j → xs[i] < j) ∧ (∀ i (h : i < xs.size), below xs j ≤ i → j ≤ xs[i]) :=
  below_go xs j hs xs.size 0 xs.size (by omega) (Nat.zero_le _) (Nat.le_refl _) (fun i h q => absurd q (Nat.not_lt_zero _)) (fun i h q => by omega)
theorem below_at {xs : Array Nat} (hs : Rise xs) {i j : Nat} (h : xs[i]? = some j) : below xs j = i := by
  obtain ⟨b0, b1, b2⟩ := below_spec hs j
  obtain ⟨hi, e⟩ := Array.getElem?_eq_some_iff.mp h
  rcases Nat.lt_trichotomy i (below xs j) with q | q | q
  · have := b1 i hi q
    omega
  · exact q.symm
  · have h1 : below xs j < xs.size := by omega
    have := b2 (below xs j) h1 (Nat.le_refl _)
    have := hs _ i h1 hi q
    omega
theorem slot_live {t : SetTable} (hs : Rise t.place) {i j : Nat} (h : t.place[i]? = some j) : t.slot j = .live i := by
  unfold slot
  dsimp only
  rw [below_at hs h, h]
  simp
theorem slot_cases {t : SetTable} (hs : Rise t.place) (hd : t.dummies = #[]) (j : Nat) : (∃ i, t.place[i]? = some j ∧ t.slot j = .live i) ∨ (j ∉ t.place.toList ∧ t.slot j = .empty) := by
  by_cases h : j ∈ t.place.toList
  · obtain ⟨i, hi⟩ := List.getElem?_of_mem h
    have hi : t.place[i]? = some j := by simpa using hi
    exact .inl ⟨i, hi, slot_live hs hi⟩
  · refine .inr ⟨h, ?_⟩
    unfold slot
    dsimp only
    rw [if_neg, if_neg]
    · rw [hd]; simp [has]
    · intro q
      have q : t.place[below t.place j]? = some j := by simpa using q
      exact h (Array.mem_toList_iff.mpr (Array.mem_of_getElem? q))
theorem way_mask {t t' : SetTable} (h : t.mask = t'.mask) (x : Int) : ∀ n, stand t x n = stand t' x n
  | 0 => by
    show t.probeStart x = t'.probeStart x
    unfold probeStart
    rw [h]
  | n + 1 => by
    show t.advance (stand t x n) = t'.advance (stand t' x n)
    rw [way_mask h x n]
    unfold advance
    rw [h]
theorem way_mask' {t t' : SetTable} (h : t.mask = t'.mask) (x : Int) (n : Nat) : way t x n = way t' x n := by unfold way; rw [way_mask h]
/-- the elements lie so that each is met by its probing -/
structure WF (t : SetTable) (es : Array (Int × Value)) : Prop where
  pow : ∃ k, t.mask + 1 = 2 ^ k
  big : 7 ≤ t.mask
  dum : t.dummies = #[]
  rise : Rise t.place
  inb : ∀ j ∈ t.place.toList, j ≤ t.mask
  size : t.place.size = es.size
  chain : ∀ (i j : Nat) (h : Int) (x : Value), t.place[i]? = some j → es[i]? = some (h, x) → ∃ n, way t h n = j ∧ ∀ m, m < n → way t h m ∈ t.place.toList
theorem nodup_sub {α : Type} [DecidableEq α] : ∀ {l m : List α}, l.Nodup → (∀ x ∈ l, x ∈ m) → l.length ≤ m.length
  | [], _, _, _ => Nat.zero_le _
  | x :: l, m, hn, hs => by
    obtain ⟨h1, h2⟩ := List.nodup_cons.mp hn
    have hx : x ∈ m := hs x List.mem_cons_self
    have ih := nodup_sub (m := m.erase x) h2 fun y hy => (List.mem_erase_of_ne (fun e : y = x => h1 (by rw [← e]; exact hy))).mpr (hs y (List.mem_cons_of_mem _ hy))
    rw [List.length_erase_of_mem hx] at ih
    have : 0 < m.length := List.length_pos_of_mem hx
    rw [List.length_cons]
    omega
/-- there is a first free slot on each way -/
theorem first_free {t : SetTable} {es : Array (Int × Value)} (W : WF t es) (R : t.place.size ≤ t.mask) (h : Int) : ∃ m, m + 10 ≤ 10 * turns t.mask ∧ way t h m ∉ t.place.toList ∧ (∀ q, q < m → way t h q ∈ t.place.toList) := by
  obtain ⟨k, hk⟩ := W.pow
  have ex : ∃ e, e ≤ t.mask ∧ e ∉ t.place.toList := by
    refine Classical.byContradiction fun hno => ?_
    have all : ∀ e, e ≤ t.mask → e ∈ t.place.toList := fun e he => Classical.byContradiction fun q => hno ⟨e, he, q⟩
    have : (List.range (t.mask + 1)).length ≤ t.place.toList.length := nodup_sub List.nodup_range fun x hx => all x (by have := List.mem_range.mp hx; omega)
    rw [List.length_range, Array.length_toList] at this
    omega
  obtain ⟨e, he, hne⟩ := ex
  obtain ⟨n, hn, hw⟩ := way_covers hk h e he
  have : ∀ d, ∀ n, n ≤ d → n + 10 ≤ 10 * turns t.mask → way t h n ∉ t.place.toList → ∃ m, m + 10 ≤ 10 * turns t.mask ∧ way t h m ∉ t.place.toList ∧ (∀ q, q < m → way t h q ∈ t.place.toList) := by
    intro d
    induction d with
    | zero =>
      intro n h0 h1 h2
      have : n = 0 := by omega
      subst this
      exact ⟨0, h1, h2, fun q hq => absurd hq (Nat.not_lt_zero _)⟩
    | succ d ih =>
      intro n h0 h1 h2
      by_cases hall : ∀ q, q < n → way t h q ∈ t.place.toList
      · exact ⟨n, h1, h2, hall⟩
      · obtain ⟨q, hq⟩ := Classical.not_forall.mp hall
        obtain ⟨q1, q2⟩ := Classical.not_imp.mp hq
        exact ih q (by omega) (by omega) q2
  exact this n n (Nat.le_refl _) hn (by rw [hw]; exact hne)
end STab
namespace STab
open PySem PySem.SetTable
theorem ins_list {α : Type} (xs : Array α) (p : Nat) (x : α) (hp : p ≤ xs.size) : (insertAt xs p x).toList = xs.toList.take p ++ x :: xs.toList.drop p := by
  unfold insertAt
  rw [Array.toList_append, Array.toList_push, Array.toList_extract, Array.toList_extract, List.extract_eq_take_drop, List.extract_eq_take_drop]
  rw [List.drop_zero, Nat.sub_zero, List.take_of_length_le (l := xs.toList.drop p) (by rw [List.length_drop, Array.length_toList]; exact Nat.le_refl _)]
  simp
theorem ins_at {α : Type} (xs : Array α) {p : Nat} (x : α) (hp : p ≤ xs.size) (i : Nat) : (insertAt xs p x)[i]? = if i < p then xs[i]? else if i = p then some x else xs[i - 1]? := by
  have e : (insertAt xs p x)[i]? = (insertAt xs p x).toList[i]? := by simp
  rw [e, ins_list xs p x hp]
  have hl : (xs.toList.take p).length = p := by rw [List.length_take, Array.length_toList]; omega
  by_cases h1 : i < p
  · rw [if_pos h1, List.getElem?_append_left (by omega), List.getElem?_take, if_pos h1]
    simp
  · rw [if_neg h1, List.getElem?_append_right (by omega), hl]
    by_cases h2 : i = p
    · rw [if_pos h2, h2, Nat.sub_self]; rfl
    · rw [if_neg h2]
      obtain ⟨d, hd⟩ : ∃ d, i - p = d + 1 := ⟨i - p - 1, by omega⟩
      rw [hd, List.getElem?_cons_succ, List.getElem?_drop]
      rw [show p + d = i - 1 by omega]
      simp
theorem ins_size {α : Type} (xs : Array α) (p : Nat) (x : α) (hp : p ≤ xs.size) : (insertAt xs p x).size = xs.size + 1 := by
  rw [← Array.length_toList, ins_list xs p x hp, List.length_append, List.length_cons, List.length_take, List.length_drop, Array.length_toList]
  omega
theorem way_le (t : SetTable) (h : Int) : ∀ n, (stand t h n).j + (stand t h n).more ≤ t.mask
  | 0 => by
    show bits h % (t.mask + 1) + (runEnd t.mask (bits h % (t.mask + 1)) - bits h % (t.mask + 1)) ≤ t.mask
    have := Nat.mod_lt (bits h) (show 0 < t.mask + 1 from Nat.succ_pos _)
    unfold runEnd
    split <;> omega
  | n + 1 => by
    have ih := way_le t h n
    show (t.advance (stand t h n)).j + (t.advance (stand t h n)).more ≤ t.mask
    unfold advance
    split
    · dsimp only; omega
    · dsimp only [leap]
      have := Nat.mod_lt ((stand t h n).i * 5 + 1 + (stand t h n).perturb / 32) (show 0 < t.mask + 1 from Nat.succ_pos _)
      unfold runEnd
      split <;> omega
theorem way_le' (t : SetTable) (h : Int) (n : Nat) : way t h n ≤ t.mask := by
  have := way_le t h n
  unfold way
  omega
/-- an element laid at the first free slot -/
theorem WF.put {t : SetTable} {es : Array (Int × Value)} (W : WF t es) {h : Int} {x : Value} {m : Nat} (hf : way t h m ∉ t.place.toList) (hb : ∀ q, q < m → way t h q ∈ t.place.toList) (b1 b2 : Bool) :
    (t.put (way t h m)).2 = below t.place (way t h m) ∧ (t.put (way t h m)).1.mask = t.mask ∧ (t.put (way t h m)).1.place.size = t.place.size + 1 ∧ (t.put (way t h m)).1.led = t.led ∧ (t.put (way t h m)).1.plain = t.plain ∧ (t.put (way t h m)).1.moves = t.moves ∧
      WF { (t.put (way t h m)).1 with led := b1, plain := b2 } (insertAt es (t.put (way t h m)).2 (h, x)) := by
  have hd : has t.dummies (way t h m) = false := by rw [W.dum]; simp [has]
  have ep : t.put (way t h m) = ({ t with place := insertAt t.place (below t.place (way t h m)) (way t h m) }, below t.place (way t h m)) := by
    unfold SetTable.put
    dsimp only
    rw [hd]
    rfl
  rw [ep]
  obtain ⟨s0, s1, s2⟩ := below_spec W.rise (way t h m)
  generalize hp : below t.place (way t h m) = p at s0 s1 s2
  have hpe : p ≤ es.size := by rw [← W.size]; exact s0
  have s3 : ∀ i (hi : i < t.place.size), p ≤ i → way t h m < t.place[i] := fun i hi q => by
    have := s2 i hi q
    rcases Nat.eq_or_lt_of_le this with e | e
    · exact absurd (by rw [e]; simp) hf
    · exact e
  have memp : ∀ y, y ∈ (insertAt t.place p (way t h m)).toList ↔ y = way t h m ∨ y ∈ t.place.toList := fun y => by
    rw [ins_list _ _ _ s0, List.mem_append, List.mem_cons]
    have := List.take_append_drop p t.place.toList
    constructor
    · rintro (q | q | q)
      · exact .inr (List.mem_of_mem_take q)
      · exact .inl q
      · exact .inr (List.mem_of_mem_drop q)
    · rintro (q | q)
      · exact .inr (.inl q)
      · rw [← this] at q
        rcases List.mem_append.mp q with q | q
        · exact .inl q
        · exact .inr (.inr q)
  refine ⟨rfl, rfl, ins_size _ _ _ s0, rfl, rfl, rfl, ⟨W.pow, W.big, W.dum, ?_, ?_, ?_, ?_⟩⟩
  · intro a b ha hb' hab
    have sz := ins_size t.place p (way t h m) s0
    have ga : (insertAt t.place p (way t h m))[a]? = some (insertAt t.place p (way t h m))[a] := by simp [ha]
    have gb : (insertAt t.place p (way t h m))[b]? = some (insertAt t.place p (way t h m))[b] := by simp [hb']
    show (insertAt t.place p (way t h m))[a] < (insertAt t.place p (way t h m))[b]
    rw [ins_at _ _ s0] at ga gb
    have hb2 : b < t.place.size + 1 := by rw [← sz]; exact hb'
    by_cases a1 : a < p
    · rw [if_pos a1] at ga
      obtain ⟨a2, a3⟩ := Array.getElem?_eq_some_iff.mp ga
      rw [← a3]
      by_cases b1 : b < p
      · rw [if_pos b1] at gb
        obtain ⟨b2, b3⟩ := Array.getElem?_eq_some_iff.mp gb
        rw [← b3]
        exact W.rise a b a2 b2 hab
      · rw [if_neg b1] at gb
        by_cases b2 : b = p
        · rw [if_pos b2] at gb
          rw [← Option.some.inj gb]
          exact s1 a a2 a1
        · rw [if_neg b2] at gb
          obtain ⟨b3, b4⟩ := Array.getElem?_eq_some_iff.mp gb
          rw [← b4]
          exact W.rise a (b - 1) a2 b3 (by omega)
    · rw [if_neg a1] at ga
      have b1 : ¬ b < p := by omega
      have b2 : ¬ b = p := by omega
      rw [if_neg b1, if_neg b2] at gb
      obtain ⟨b3, b4⟩ := Array.getElem?_eq_some_iff.mp gb
      rw [← b4]
      by_cases a2 : a = p
      · rw [if_pos a2] at ga
        rw [← Option.some.inj ga]
        exact s3 (b - 1) b3 (by omega)
      · rw [if_neg a2] at ga
        obtain ⟨a3, a4⟩ := Array.getElem?_eq_some_iff.mp ga
        rw [← a4]
        exact W.rise (a - 1) (b - 1) a3 b3 (by omega)
  · intro y hy
    rcases (memp y).mp hy with q | q
    · rw [q]; exact way_le' t h m
    · exact W.inb y q
  · show (insertAt t.place p (way t h m)).size = (insertAt es p (h, x)).size
    rw [ins_size _ _ _ s0, ins_size _ _ _ hpe, W.size]
  · intro i j h' x' hi he
    have wm : ∀ n, way { t with place := insertAt t.place p (way t h m), led := b1, plain := b2 } h' n = way t h' n := fun n => way_mask' (t' := t) (by rfl) h' n
    have key : ∃ n, way t h' n = j ∧ ∀ q, q < n → way t h' q ∈ (insertAt t.place p (way t h m)).toList := by
      have hi : (insertAt t.place p (way t h m))[i]? = some j := hi
      rw [ins_at _ _ s0] at hi
      rw [ins_at _ _ hpe] at he
      by_cases i1 : i < p
      · rw [if_pos i1] at hi he
        obtain ⟨n, n1, n2⟩ := W.chain i j h' x' hi he
        exact ⟨n, n1, fun q hq => (memp _).mpr (.inr (n2 q hq))⟩
      · rw [if_neg i1] at hi he
        by_cases i2 : i = p
        · rw [if_pos i2] at hi he
          cases hi
          cases he
          exact ⟨m, rfl, fun q hq => (memp _).mpr (.inr (hb q hq))⟩
        · rw [if_neg i2] at hi he
          obtain ⟨n, n1, n2⟩ := W.chain (i - 1) j h' x' hi he
          exact ⟨n, n1, fun q hq => (memp _).mpr (.inr (n2 q hq))⟩
    obtain ⟨n, n1, n2⟩ := key
    exact ⟨n, by rw [wm]; exact n1, fun q hq => by rw [wm]; exact n2 q hq⟩
end STab
namespace STab
open PySem PySem.SetTable
/-- at which stand a run begins -/
noncomputable def nb (t : SetTable) (h : Int) : Nat → Nat
  | 0 => 0
  | r + 1 => nb t h r + (runEnd t.mask (runAt t h r).1 - (runAt t h r).1) + 1
theorem nb_stand (t : SetTable) (h : Int) : ∀ r d, d ≤ runEnd t.mask (runAt t h r).1 - (runAt t h r).1 →
    stand t h (nb t h r + d) = ⟨(runAt t h r).1 + d, runEnd t.mask (runAt t h r).1 - (runAt t h r).1 - d, (runAt t h r).1, (runAt t h r).2, none⟩ := by
  have along : ∀ (n i pb : Nat), stand t h n = ⟨i, runEnd t.mask i - i, i, pb, none⟩ → ∀ d, d ≤ runEnd t.mask i - i → stand t h (n + d) = ⟨i + d, runEnd t.mask i - i - d, i, pb, none⟩ := by
    intro n i pb e d
    induction d with
    | zero => intro _; rw [Nat.add_zero, e]; rfl
    | succ d ih =>
      intro hd
      show t.advance (stand t h (n + d)) = _
      rw [ih (by omega)]
      unfold advance
      rw [if_pos (by dsimp only; omega)]
      simp only [Probe.mk.injEq, and_true]
      omega
  intro r
  induction r with
  | zero => exact along 0 _ _ rfl
  | succ r ih =>
    refine along _ _ (runAt t h (r + 1)).2 ?_
    show t.advance (stand t h _) = _
    rw [ih _ (Nat.le_refl _)]
    unfold advance
    rw [if_neg (by dsimp only; omega)]
    rfl
theorem nb_way (t : SetTable) (h : Int) (r d : Nat) (hd : d ≤ runEnd t.mask (runAt t h r).1 - (runAt t h r).1) : way t h (nb t h r + d) = (runAt t h r).1 + d := by
  unfold way
  rw [nb_stand t h r d hd]
noncomputable def taken (owner : Array (Option Nat)) (j : Nat) : Bool := (owner.getD j (some 0)).isSome
theorem free_spec (t : SetTable) (h : Int) (owner : Array (Option Nat)) : ∀ (fuel r : Nat), (∃ r', r ≤ r' ∧ r' < r + fuel ∧ taken owner (runAt t h r').1 = false) → (∀ m, m < nb t h r → taken owner (way t h m) = true) →
    ∃ j n, layClean.free t.mask owner fuel (runAt t h r).1 (runAt t h r).2 = some j ∧ way t h n = j ∧ taken owner j = false ∧ ∀ m, m < n → taken owner (way t h m) = true
  | 0, r, ⟨r', h1, h2, _⟩, _ => by omega
  | fuel + 1, r, ⟨r', h1, h2, h3⟩, hb => by
    rw [layClean.free]
    have hle : runEnd t.mask (runAt t h r).1 ≥ (runAt t h r).1 := by unfold runEnd; split <;> omega
    have tk : ∀ k, (owner.getD ((runAt t h r).1 + k) (some 0)).isNone = !taken owner ((runAt t h r).1 + k) := fun k => by
      unfold taken
      cases owner.getD ((runAt t h r).1 + k) (some 0) <;> rfl
    cases hf : (List.range (runEnd t.mask (runAt t h r).1 + 1 - (runAt t h r).1)).find? fun k => (owner.getD ((runAt t h r).1 + k) (some 0)).isNone with
    | some k =>
      obtain ⟨p1, as, bs, p2, p3⟩ := List.find?_eq_some_iff_append.mp hf
      have hk : k ∈ List.range (runEnd t.mask (runAt t h r).1 + 1 - (runAt t h r).1) := by rw [p2]; simp
      have hk := List.mem_range.mp hk
      have ek : as = List.range k := by
        have e1 : as.length = k := by
          have : (List.range (runEnd t.mask (runAt t h r).1 + 1 - (runAt t h r).1))[as.length]? = some k := by rw [p2]; simp
          rw [List.getElem?_range (by have := (List.getElem?_eq_some_iff.mp this).1; simpa using this)] at this
          exact Option.some.inj this
        have e2 : as = (List.range (runEnd t.mask (runAt t h r).1 + 1 - (runAt t h r).1)).take k := by
          rw [p2, ← e1]; simp
        rw [e2, List.take_range, Nat.min_eq_left (by omega)]
      dsimp only
      refine ⟨_, nb t h r + k, rfl, nb_way t h r k (by omega), ?_, fun m hm => ?_⟩
      · rw [tk] at p1
        simpa using p1
      · by_cases q : m < nb t h r
        · exact hb m q
        · have := p3 (m - nb t h r) (by rw [ek]; exact List.mem_range.mpr (by omega))
          rw [tk] at this
          rw [show m = nb t h r + (m - nb t h r) by omega, nb_way t h r _ (by omega)]
          simpa using this
    | none =>
      have hno := List.find?_eq_none.mp hf
      have all : ∀ k, k ≤ runEnd t.mask (runAt t h r).1 - (runAt t h r).1 → taken owner ((runAt t h r).1 + k) = true := fun k hk => by
        have := hno k (List.mem_range.mpr (by omega))
        rw [tk] at this
        simpa using this
      have hne : r ≠ r' := fun e => by
        have := all 0 (Nat.zero_le _)
        rw [Nat.add_zero, e, h3] at this
        cases this
      dsimp only
      exact free_spec t h owner fuel (r + 1) ⟨r', by omega, by omega, h3⟩ fun m hm => by
        by_cases q : m < nb t h r
        · exact hb m q
        · have hm : m < nb t h r + (runEnd t.mask (runAt t h r).1 - (runAt t h r).1) + 1 := hm
          rw [show m = nb t h r + (m - nb t h r) by omega, nb_way t h r _ (by omega)]
          exact all _ (by omega)
/-- elements by their numbers in slots -/
structure LO (t : SetTable) (hs : List Int) (owner : Array (Option Nat)) : Prop where
  size : owner.size = t.mask + 1
  own : ∀ (j q : Nat), owner[j]? = some (some q) → ∃ h, hs[q]? = some h ∧ ∃ n, way t h n = j ∧ ∀ m, m < n → taken owner (way t h m) = true
  all : ∀ q : Nat, q < hs.length → ∃ j : Nat, owner[j]? = some (some q)
  one : ∀ (j j' q : Nat), owner[j]? = some (some q) → owner[j']? = some (some q) → j = j'
theorem taken_iff {owner : Array (Option Nat)} {j : Nat} (hj : j < owner.size) : taken owner j = true ↔ ∃ q, owner[j]? = some (some q) := by
  unfold taken
  have e : owner.getD j (some 0) = owner[j] := by simp [Array.getD, hj]
  rw [e]
  have e2 : owner[j]? = some owner[j] := by simp [hj]
  rw [e2]
  cases owner[j] with
  | none => simp
  | some q => simp
theorem LO.step {t : SetTable} {hs : List Int} {owner : Array (Option Nat)} (L : LO t hs owner) {k : Nat} (hp : t.mask + 1 = 2 ^ k) (room : hs.length ≤ t.mask) (h : Int) :
    ∃ j, layClean.free t.mask owner (turns t.mask) (bits h % (t.mask + 1)) (bits h) = some j ∧ LO t (hs ++ [h]) (owner.setIfInBounds j (some hs.length)) := by
  have wlt : ∀ h n, way t h n < owner.size := fun h n => by rw [L.size]; have := way_le' t h n; omega
  have ex : ∃ e, e ≤ t.mask ∧ taken owner e = false := by
    refine Classical.byContradiction fun hno => ?_
    have all : ∀ e, e < t.mask + 1 → taken owner e = true := fun e he => by
      cases q : taken owner e with
      | true => rfl
      | false => exact absurd ⟨e, by omega, q⟩ hno
    have f : ∀ e, e < t.mask + 1 → ∃ q, owner[e]? = some (some q) := fun e he => (taken_iff (by rw [L.size]; exact he)).mp (all e he)
    let g : Nat → Nat := fun e => ((owner[e]?).getD none).getD 0
    have hg : ∀ e, e < t.mask + 1 → owner[e]? = some (some (g e)) := fun e he => by
      obtain ⟨q, hq⟩ := f e he
      show owner[e]? = some (some (((owner[e]?).getD none).getD 0))
      rw [hq]
      rfl
    have nd : ((List.range (t.mask + 1)).map g).Nodup := by
      rw [List.nodup_iff_pairwise_ne, List.pairwise_map]
      refine List.Pairwise.imp_of_mem (R := fun a b => a ≠ b) (fun {a b} ha hb hab q => hab ?_) (List.nodup_iff_pairwise_ne.mp List.nodup_range)
      have h1 := hg a (List.mem_range.mp ha)
      have h2 := hg b (List.mem_range.mp hb)
      rw [← q] at h2
      exact L.one a b (g a) h1 h2
    have := nodup_sub nd (m := List.range hs.length) fun y hy => by
      obtain ⟨e, he, rfl⟩ := List.mem_map.mp hy
      obtain ⟨h', e1, _⟩ := L.own e (g e) (hg e (List.mem_range.mp he))
      exact List.mem_range.mpr (List.getElem?_eq_some_iff.mp e1).1
    rw [List.length_map, List.length_range, List.length_range] at this
    omega
  obtain ⟨e, he, hne⟩ := ex
  obtain ⟨r, hr, hq⟩ := run_covers hp h e he
  obtain ⟨j, n, f1, f2, f3, f4⟩ := free_spec t h owner (turns t.mask) 0 ⟨r, Nat.zero_le _, by omega, by rw [hq]; exact hne⟩ (fun m hm => absurd hm (Nat.not_lt_zero _))
  refine ⟨j, f1, ?_⟩
  have hj : j < owner.size := by rw [← f2]; exact wlt h n
  have nj : ∀ q, owner[j]? ≠ some (some q) := fun q e => by
    have := (taken_iff hj).mpr ⟨q, e⟩
    rw [f3] at this
    cases this
  have get : ∀ i, (owner.setIfInBounds j (some hs.length))[i]? = if j = i then some (some hs.length) else owner[i]? := fun i => by
    rw [Array.getElem?_setIfInBounds]
    split
    · first | rfl | rw [if_pos hj]
    · rfl
  have keep : ∀ i, taken owner i = true → i < owner.size → taken (owner.setIfInBounds j (some hs.length)) i = true := fun i hi hl => by
    obtain ⟨q, e⟩ := (taken_iff hl).mp hi
    refine (taken_iff (by rw [Array.size_setIfInBounds]; exact hl)).mpr ?_
    rw [get]
    split
    · exact ⟨_, rfl⟩
    · exact ⟨q, e⟩
  refine ⟨by rw [Array.size_setIfInBounds]; exact L.size, fun i q e => ?_, fun q hq => ?_, fun i i' q e e' => ?_⟩
  · rw [get] at e
    split at e
    · rename_i ij
      cases e
      refine ⟨h, by simp, n, by rw [f2, ij], fun m hm => keep _ (f4 m hm) (wlt h m)⟩
    · obtain ⟨h', e1, n', e2, e3⟩ := L.own i q e
      exact ⟨h', by rw [List.getElem?_append_left (List.getElem?_eq_some_iff.mp e1).1]; exact e1, n', e2, fun m hm => keep _ (e3 m hm) (wlt h' m)⟩
  · rw [List.length_append, List.length_singleton] at hq
    by_cases e : q = hs.length
    · exact ⟨j, by rw [get, if_pos rfl, e]⟩
    · obtain ⟨i, hi⟩ := L.all q (by omega)
      refine ⟨i, ?_⟩
      rw [get, if_neg]
      · exact hi
      · intro ij
        rw [← ij] at hi
        exact nj q hi
  · have old : ∀ i, owner[i]? = some (some hs.length) → False := fun i e => by
      obtain ⟨h', e1, _⟩ := L.own i _ e
      have := (List.getElem?_eq_some_iff.mp e1).1
      omega
    rw [get] at e e'
    split at e <;> split at e'
    · omega
    · cases e
      exact absurd e' (fun z => old i' z)
    · cases e'
      exact absurd e (fun z => old i z)
    · exact L.one i i' q e e'
theorem layClean_ok {t : SetTable} {k : Nat} (hp : t.mask + 1 = 2 ^ k) (hashes : Array Int) (room : hashes.size ≤ t.mask + 1) : ∃ owner, layClean t.mask hashes = some owner ∧ LO t hashes.toList owner := by
  have go : ∀ (rest done : List Int) (owner : Array (Option Nat)), LO t done owner → (done ++ rest).length ≤ t.mask + 1 →
      ∃ owner', rest.foldl (fun acc h => do
        let (owner, k) ← acc
        let j ← layClean.free t.mask owner (turns t.mask) (bits h % (t.mask + 1)) (bits h)
        pure (owner.setIfInBounds j (some k), k + 1)) (some (owner, done.length)) = some (owner', (done ++ rest).length) ∧ LO t (done ++ rest) owner' := by
    intro rest
    induction rest with
    | nil => intro done owner L _; exact ⟨owner, by simp, by simpa using L⟩
    | cons h rest ih =>
      intro done owner L hl
      simp only [List.length_append, List.length_cons] at hl
      obtain ⟨j, f, L'⟩ := L.step hp (by omega) h
      obtain ⟨owner', e, L2⟩ := ih (done ++ [h]) _ L' (by simp only [List.length_append, List.length_cons, List.length_nil]; omega)
      refine ⟨owner', ?_, by simpa using L2⟩
      rw [List.foldl_cons]
      have e0 : (do
        let (owner, k) ← (some (owner, done.length) : Option (Array (Option Nat) × Nat))
        let j ← layClean.free t.mask owner (turns t.mask) (bits h % (t.mask + 1)) (bits h)
        pure (owner.setIfInBounds j (some k), k + 1)) = some (owner.setIfInBounds j (some done.length), (done ++ [h]).length) := by
        show (layClean.free t.mask owner (turns t.mask) (bits h % (t.mask + 1)) (bits h)).bind _ = _
        rw [f]
        simp
      rw [e0, e]
      simp
  have L0 : LO t [] (Array.replicate (t.mask + 1) none) := ⟨by simp, fun j q e => by
    rw [Array.getElem?_replicate] at e
    split at e <;> simp at e, fun q hq => absurd hq (Nat.not_lt_zero _), fun j j' q e _ => by
    rw [Array.getElem?_replicate] at e
    split at e <;> simp at e⟩
  obtain ⟨owner, e, L⟩ := go hashes.toList [] _ L0 (by simpa using room)
  refine ⟨owner, ?_, by simpa using L⟩
  unfold layClean
  rw [← Array.foldl_toList]
  rw [show (0 : Nat) = ([] : List Int).length from rfl, e]
  rfl
end STab
namespace STab
open PySem PySem.SetTable
theorem above_go (n : Nat) : ∀ (fuel k : Nat), 3 ≤ k → n < 2 ^ (k + fuel) → (2 ^ k ≤ 2 * n ∨ k = 3) → ∃ k', 3 ≤ k' ∧ sizeAbove.go n fuel (2 ^ k) = 2 ^ k' ∧ n < 2 ^ k' ∧ (2 ^ k' ≤ 2 * n ∨ k' = 3)
  | 0, k, h3, hn, hs => ⟨k, h3, rfl, by simpa using hn, hs⟩
  | fuel + 1, k, h3, hn, hs => by
    rw [sizeAbove.go]
    by_cases h : 2 ^ k ≤ n
    · rw [if_pos h]
      have e : 2 ^ k * 2 = 2 ^ (k + 1) := by rw [Nat.pow_succ]
      rw [e]
      exact above_go n fuel (k + 1) (by omega) (by rw [show k + 1 + fuel = k + (fuel + 1) by omega]; exact hn) (.inl (by omega))
    · rw [if_neg h]
      exact ⟨k, h3, rfl, by omega, hs⟩
theorem above_spec {n : Nat} (hn : n < 2 ^ 60) : ∃ k, 3 ≤ k ∧ sizeAbove n = 2 ^ k ∧ n < 2 ^ k ∧ (2 ^ k ≤ 2 * n ∨ k = 3) :=
  above_go n 64 3 (Nat.le_refl _) (Nat.lt_of_lt_of_le hn (Nat.pow_le_pow_right (by decide) (by decide))) (.inr rfl)
theorem perm_nodup {α : Type} [DecidableEq α] : ∀ {l m : List α}, l.Nodup → m.Nodup → (∀ x, x ∈ l ↔ x ∈ m) → l.Perm m
  | [], m, _, _, h => by
    cases m with
    | nil => exact List.Perm.refl _
    | cons x m => exact absurd ((h x).mpr List.mem_cons_self) (by simp)
  | x :: l, m, hl, hm, h => by
    obtain ⟨h1, h2⟩ := List.nodup_cons.mp hl
    have hx : x ∈ m := (h x).mp List.mem_cons_self
    have p := List.perm_cons_erase hx
    refine List.Perm.trans (List.Perm.cons x (perm_nodup h2 (hm.erase x) fun y => ?_)) p.symm
    constructor
    · intro hy
      exact (List.mem_erase_of_ne (fun e : y = x => h1 (by rw [← e]; exact hy))).mpr ((h y).mp (List.mem_cons_of_mem _ hy))
    · intro hy
      have hne : y ≠ x := fun e => by rw [e] at hy; exact hm.not_mem_erase hy
      rcases List.mem_cons.mp ((h y).mpr (List.mem_of_mem_erase hy)) with q | q
      · exact absurd q hne
      · exact q
theorem laid_ok {t : SetTable} {k : Nat} (hp : t.mask + 1 = 2 ^ k) (hb : 7 ≤ t.mask) (es : Array (Int × Value)) (room : es.size ≤ t.mask) (finger moves : Nat) (led plain : Bool) :
    ∃ t' order, laid t.mask finger moves led plain (es.map (·.1)) = some (t', order) ∧ t'.mask = t.mask ∧ t'.led = led ∧ t'.plain = plain ∧ t'.moves = moves ∧ WF t' (order.filterMap (es[·]?)) ∧ (order.filterMap (es[·]?)).toList.Perm es.toList := by
  obtain ⟨owner, e, L⟩ := layClean_ok hp (es.map (·.1)) (by rw [Array.size_map]; omega)
  have hsz : (es.map (·.1)).toList.length = es.size := by simp
  obtain ⟨live, hlv⟩ : ∃ live, (List.range (t.mask + 1)).filterMap (fun j => (owner.getD j none).map (fun q => (j, q))) = live := ⟨_, rfl⟩
  refine ⟨⟨t.mask, (live.map (·.1)).toArray, #[], finger, led, moves, plain⟩, (live.map (·.2)).toArray, by unfold laid; rw [e, ← hlv]; rfl, rfl, rfl, rfl, rfl, ?_⟩
  have gd : ∀ j q, owner.getD j none = some q ↔ owner[j]? = some (some q) := fun j q => by
    rw [Array.getD_eq_getD_getElem?]
    cases owner[j]? with
    | none => simp
    | some o => simp
  have mem : ∀ j q, (j, q) ∈ live ↔ owner[j]? = some (some q) := fun j q => by
    rw [← hlv, List.mem_filterMap]
    constructor
    · rintro ⟨j', hj', e'⟩
      obtain ⟨q', e1, e2⟩ := Option.map_eq_some_iff.mp e'
      cases e2
      exact (gd j q).mp e1
    · intro ho
      have : j < owner.size := by
        obtain ⟨h1, _⟩ := Array.getElem?_eq_some_iff.mp ho
        exact h1
      refine ⟨j, List.mem_range.mpr (by rw [L.size] at this; exact this), ?_⟩
      rw [(gd j q).mpr ho]
      rfl
  have rise : (live.map (·.1)).Pairwise (· < ·) := by
    rw [← hlv, List.pairwise_map, List.pairwise_filterMap]
    refine List.Pairwise.imp (fun {a b} hab x hx y hy => ?_) List.pairwise_lt_range
    obtain ⟨_, _, rfl⟩ := Option.map_eq_some_iff.mp hx
    obtain ⟨_, _, rfl⟩ := Option.map_eq_some_iff.mp hy
    exact hab
  have qlt : ∀ j q, (j, q) ∈ live → q < es.size := fun j q h => by
    obtain ⟨h', e1, _⟩ := L.own j q ((mem j q).mp h)
    have := (List.getElem?_eq_some_iff.mp e1).1
    omega
  have ordn : (live.map (·.2)).Nodup := by
    rw [List.nodup_iff_pairwise_ne, List.pairwise_map]
    have nd : live.Pairwise fun a b => a.1 < b.1 := by rw [List.pairwise_map] at rise; exact rise
    refine List.Pairwise.imp_of_mem (fun {a b} ha hb hab hq => ?_) nd
    have h1 := (mem a.1 a.2).mp ha
    have h2 := (mem b.1 b.2).mp hb
    rw [← hq] at h2
    have := L.one _ _ _ h1 h2
    omega
  have ordp : (live.map (·.2)).Perm (List.range es.size) := perm_nodup ordn List.nodup_range fun q => by
    constructor
    · intro hq
      obtain ⟨⟨j, q'⟩, h1, rfl⟩ := List.mem_map.mp hq
      exact List.mem_range.mpr (qlt j q' h1)
    · intro hq
      obtain ⟨j, hj⟩ := L.all q (by rw [hsz]; exact List.mem_range.mp hq)
      exact List.mem_map.mpr ⟨(j, q), (mem j q).mpr hj, rfl⟩
  have fm : ∀ (l : List Nat), (∀ q ∈ l, q < es.size) → l.filterMap (es[·]?) = l.map (fun q => es.getD q (0, Value.none)) := by
    intro l
    induction l with
    | nil => intro _; rfl
    | cons q l ih =>
      intro hq
      have h1 := hq q List.mem_cons_self
      have e1 : es[q]? = some (es.getD q (0, Value.none)) := by simp [Array.getD, h1]
      rw [List.filterMap_cons, e1, List.map_cons, ih fun y hy => hq y (List.mem_cons_of_mem _ hy)]
  have el : ((live.map (·.2)).toArray.filterMap (es[·]?)).toList = (live.map (·.2)).map (fun q => es.getD q (0, Value.none)) := by
    rw [Array.toList_filterMap, List.toList_toArray]
    exact fm _ fun q hq => by
      obtain ⟨⟨j, q'⟩, h1, rfl⟩ := List.mem_map.mp hq
      exact qlt j q' h1
  have er : es.toList = (List.range es.size).map (fun q => es.getD q (0, Value.none)) := by
    apply List.ext_getElem
    · simp
    · intro i h1 h2
      have h1 : i < es.size := by simpa using h1
      simp [Array.getD, h1]
  refine ⟨⟨⟨k, hp⟩, hb, rfl, ?_, fun j hj => ?_, ?_, fun i j h x hi he => ?_⟩, ?_⟩
  · intro a b ha hb' hab
    have := List.pairwise_iff_getElem.mp rise a b (by simpa using ha) (by simpa using hb') hab
    simpa using this
  · have hj : j ∈ live.map (·.1) := by simpa using hj
    obtain ⟨⟨j', q⟩, h1, rfl⟩ := List.mem_map.mp hj
    have := (Array.getElem?_eq_some_iff.mp ((mem j' q).mp h1)).1
    rw [L.size] at this
    show j' ≤ t.mask
    omega
  · show (live.map (·.1)).toArray.size = _
    rw [← Array.length_toList (xs := Array.filterMap _ _), el]
    simp
  · have hi : (live.map (·.1))[i]? = some j := by simpa using hi
    have he : ((live.map (·.2)).toArray.filterMap (es[·]?)).toList[i]? = some (h, x) := by simpa using he
    rw [el, List.map_map, List.getElem?_map] at he
    rw [List.getElem?_map] at hi
    cases hl : live[i]? with
    | none => rw [hl] at hi; cases hi
    | some p =>
      obtain ⟨j', q⟩ := p
      rw [hl] at hi he
      cases hi
      have hm := List.mem_of_getElem? hl
      obtain ⟨h', e1, n, n1, n2⟩ := L.own _ q ((mem _ q).mp hm)
      have hq := qlt _ q hm
      have eh : h' = h := by
        have e2 : (es.map (·.1)).toList[q]? = some (es[q]).1 := by simp [hq]
        rw [e2] at e1
        have e3 : es.getD q (0, Value.none) = es[q] := by simp [Array.getD, hq]
        simp only [Function.comp, Option.map_some, e3, Option.some.injEq] at he
        rw [he] at e1
        exact (Option.some.inj e1).symm
      subst eh
      have wm : ∀ n, way { mask := t.mask, place := (live.map (·.1)).toArray, dummies := #[], finger := finger, led := led, moves := moves, plain := plain } h' n = way t h' n := fun n => way_mask' (t' := t) (by rfl) h' n
      refine ⟨n, by rw [wm]; exact n1, fun m hm' => ?_⟩
      rw [wm]
      have hw : way t h' m < owner.size := by rw [L.size]; have := way_le' t h' m; omega
      obtain ⟨q', e'⟩ := (taken_iff hw).mp (n2 m hm')
      show way t h' m ∈ (live.map (·.1)).toArray.toList
      rw [List.toList_toArray]
      exact List.mem_map.mpr ⟨(way t h' m, q'), (mem _ _).mpr e', rfl⟩
  · rw [el, er]
    exact ordp.map _
end STab
namespace STab
open PySem PySem.SetTable
section
variable {prog : Program} {w : World} {K : Type} [DecidableEq K] {knd : KeyKind prog w K} {A : Around} {E : Value → Shared → Prop} {s : Shared}
/-- the elements are tuples -/
noncomputable def EL (knd : KeyKind prog w K) (h : Heap) (es : Array (Int × Value)) : Prop := ∀ (i : Nat) e, es[i]? = some e → ∃ r k, e = (tupleKeyHash knd k, Value.ref r) ∧ IsTupleKey knd h k r
theorem quiet_class {ks : List K} {r : Addr} {Q : Bool → Shared → Prop} (hk : IsTupleKey knd s.heap ks r) (h : Q false s) : wpAny (model prog w) A (ofAClassStatement 8 (.ref r)) Q E s := by
  have hT := hk.typeIs
  obtain ⟨o, items, n, ho, _, hd, hi⟩ := hk
  unfold ofAClassStatement
  refine wpAny_bind (wpAny_typeOf hT ?_)
  dsimp only
  rw [if_pos (by simp)]
  refine wpAny_bind (wpAny_pure ?_)
  simp only [Bool.not_true, Bool.false_eq_true, if_false]
  refine wpAny_bind (wpAny_seqItems ho hd ?_)
  dsimp only
  refine wpAny_bind ?_
  rw [← Array.forIn_toList]
  refine wpAny_forIn_list _ (fun rest r s' => r = (none, ()) ∧ s' = s ∧ ∃ x', ItemsAre knd x' rest) _ ?_ ?_ _ _ ⟨rfl, rfl, ks, hi⟩
  · rintro x rest r s' ⟨rfl, rfl, x', hx'⟩
    cases hx' with
    | @cons k1 u' x'' xs'' h1 hx'' =>
      have hb := knd.byValue _ _ h1
      have e : ofAClassStatement 7 x = pure false := by
        cases x with
        | ref a => simp [carriedByValue] at hb
        | _ => first | rfl | simp [ofAClassStatement] | (unfold ofAClassStatement; rfl)
      refine wpAny_bind ?_
      rw [e]
      refine wpAny_pure ?_
      simp only [Bool.false_eq_true, if_false]
      exact wpAny_pure ⟨rfl, rfl, x'', hx''⟩
  · rintro r s' ⟨rfl, rfl, _⟩
    exact wpAny_pure h
theorem seen_quiet {ks : List K} {r : Addr} (hk : IsTupleKey knd s.heap ks r) : ∀ (l : List Value), (∀ y ∈ l, ∃ r' k', y = Value.ref r' ∧ IsTupleKey knd s.heap k' r') → ∀ {Q : Bool → Shared → Prop}, Q false s → wpAny (model prog w) A (searchCouldBeSeen (.ref r) l) Q E s := by
  intro l hl Q h
  unfold searchCouldBeSeen
  refine wpAny_bind ?_
  refine wpAny_forIn_list _ (fun rest x s' => x = (none, ()) ∧ s' = s ∧ ∀ y ∈ rest, ∃ r' k', y = Value.ref r' ∧ IsTupleKey knd s.heap k' r') _ ?_ ?_ _ _ ⟨rfl, rfl, hl⟩
  · rintro y rest x s' ⟨rfl, rfl, hr⟩
    obtain ⟨r', k', rfl, hk'⟩ := hr y List.mem_cons_self
    have go : ∀ y ∈ rest, ∃ r' k', y = Value.ref r' ∧ IsTupleKey knd s'.heap k' r' := fun y hy => hr y (List.mem_cons_of_mem _ hy)
    dsimp only
    split
    · exact wpAny_pure ⟨rfl, rfl, go⟩
    · refine wpAny_bind (wpAny_eqIsQuiet_tuple hk ?_)
      simp only [Bool.not_true, Bool.false_eq_true, if_false]
      refine wpAny_bind (wpAny_eqIsQuiet_tuple hk' ?_)
      simp only [Bool.not_true, Bool.false_eq_true, if_false]
      refine wpAny_bind (quiet_class hk ?_)
      simp only [Bool.false_eq_true, if_false]
      refine wpAny_bind (quiet_class hk' ?_)
      simp only [Bool.false_eq_true, if_false]
      exact wpAny_pure ⟨rfl, rfl, go⟩
  · rintro x s' ⟨rfl, rfl, _⟩
    exact wpAny_pure h
theorem search_tuple {a r : Addr} {k : List K} {o : Obj} {es : Array (Int × Value)} {ep : Nat} {t : SetTable} {Q : SetFound → Shared → Prop} (hu : A.units < cLine) (ho : s.heap.get? a = some o) (hd : o.data = .set es ep t) (W : WF t es) (room : t.place.size ≤ t.mask) (small : t.mask ≤ 9000)
    (el : EL knd s.heap es) (hk : IsTupleKey knd s.heap k r)
    (h1 : (∃ (i : Nat) (r' : Addr), es[i]? = some (tupleKeyHash knd k, Value.ref r') ∧ IsTupleKey knd s.heap k r') → Q (.there none) s)
    (h2 : ∀ m, way t (tupleKeyHash knd k) m ∉ t.place.toList → (∀ q, q < m → way t (tupleKeyHash knd k) q ∈ t.place.toList) → (∀ (i : Nat) r' k', es[i]? = some (tupleKeyHash knd k', Value.ref r') → IsTupleKey knd s.heap k' r' → k' ≠ k) → Q (.free (way t (tupleKeyHash knd k) m) false) s) :
    wpAny (model prog w) A (setSearch a (.ref r) (tupleKeyHash knd k) true) Q E s := by
  generalize hh : tupleKeyHash knd k = h at h1 h2
  have hf : t.fits es.size = true := by
    unfold fits fill
    rw [W.dum]
    simp [W.size]
    rw [← W.size]; exact room
  obtain ⟨m0, m1, m2, m3⟩ := first_free W room h
  have me : t.slot (way t h m0) = .empty := by
    rcases slot_cases W.rise W.dum (way t h m0) with ⟨i, e, _⟩ | ⟨_, e⟩
    · exact absurd (Array.mem_toList_iff.mpr (Array.mem_of_getElem? e)) m2
    · exact e
  have odd : t.gaveWay = false := by
    obtain ⟨c, hc⟩ := W.pow
    have hb := W.big
    have c0 : c ≠ 0 := fun q => by rw [q] at hc; omega
    obtain ⟨c', rfl⟩ := Nat.exists_eq_succ_of_ne_zero c0
    rw [Nat.pow_succ] at hc
    unfold gaveWay
    have : t.mask % 2 = 1 := by omega
    simp [this]
  have main : ∀ (fuel n : Nat) (st : Option Probe), st.getD (t.probeStart h) = stand t h n → n ≤ m0 → m0 < n + fuel → (∀ j, j < n → ∀ (i : Nat) r' k', t.slot (way t h j) = .live i → es[i]? = some (tupleKeyHash knd k', Value.ref r') → IsTupleKey knd s.heap k' r' → k' ≠ k) →
      wpAny (model prog w) A (setSearchFrom a (.ref r) h true fuel st) Q E s := by
    intro fuel
    induction fuel with
    | zero => intro n st _ a1 a2; omega
    | succ fuel ih =>
      intro n st hst hn hfu old
      unfold setSearchFrom
      refine wpAny_bind (wpAny_setState_of ho hd hf ?_)
      dsimp only
      rw [odd]
      simp only [Bool.false_eq_true, if_false]
      rw [hst]
      generalize hpr : SetTable.probe t _ h (stand t h n) = pr
      have hpr' : SetTable.probe.go t (fun i => ((es[i]?).map (·.1)).getD 0) h (10 * turns t.mask) (stand t h n) = pr := hpr
      obtain ⟨q, q1, q2, q3, q4⟩ := go_meets (t := t) W.dum (hashAt := fun i => ((es[i]?).map (·.1)).getD 0) (h := h) (10 * turns t.mask) n m0 hn (by omega) me
      rcases q4 with ⟨e1, e2⟩ | ⟨i, e1, e2, e3⟩
      · rw [e2] at hpr'
        subst hpr'
        have hq : q = m0 := by
          rcases Nat.eq_or_lt_of_le q2 with z | z
          · exact z
          · have := m3 q z
            rcases slot_cases W.rise W.dum (way t h q) with ⟨i, _, e'⟩ | ⟨z2, _⟩
            · rw [e1] at e'; cases e'
            · exact absurd this z2
        subst hq
        dsimp only
        refine wpAny_pure (h2 q m2 m3 fun i r' k' he hk' hkk => ?_)
        subst hkk
        rw [hh] at he
        have hi : i < es.size := (Array.getElem?_eq_some_iff.mp he).1
        have hp : t.place[i]? = some (t.place[i]'(by rw [W.size]; exact hi)) := by simp [W.size, hi]
        obtain ⟨nn, c1, c2⟩ := W.chain i _ h _ hp he
        have hlv := slot_live W.rise hp
        have hnn : nn < q := by
          rcases Nat.lt_trichotomy nn q with z | z | z
          · exact z
          · rw [z, ] at c1
            rw [← c1, me] at hlv
            cases hlv
          · exact absurd (c2 q z) m2
        rw [← c1] at hlv
        by_cases hold : nn < n
        · exact old nn hold i r' k' hlv (by rw [hh]; exact he) hk' rfl
        · obtain ⟨i', e', ne'⟩ := q3 nn (by omega) hnn
          rw [hlv] at e'
          cases e'
          rw [he] at ne'
          exact ne' rfl
      · rw [e3] at hpr'
        subst hpr'
        obtain ⟨x0, he⟩ : ∃ e, es[i]? = some e := by
          have hsl : t.place[i]? = some (way t h q) := by
            rcases slot_cases W.rise W.dum (way t h q) with ⟨i', p1, p2⟩ | ⟨_, p2⟩
            · rw [e1] at p2; cases p2; exact p1
            · rw [e1] at p2; cases p2
          have := (Array.getElem?_eq_some_iff.mp hsl).1
          exact ⟨es[i]'(by rw [← W.size]; exact this), by simp [← W.size, this]⟩
        obtain ⟨r', k', rfl, hk'⟩ := el i x0 he
        have eh : tupleKeyHash knd k' = h := by rw [he] at e2; exact e2
        have hqm : q < m0 := Nat.lt_of_le_of_ne q2 fun z => by rw [z, me] at e1; cases e1
        have body : wpAny (model prog w) A (do
            let equal ← holding [Value.ref r'] (eqBool (Value.ref r') (Value.ref r))
            let x ← setState a
            if (true && equal) = true then pure (SetFound.there none)
            else match x.2.snd.sameMemory t.moves t.mask with
              | some same =>
                match if same = true then x.2.snd.slot (way t h q) else Slot.empty with
                | Slot.live i' =>
                  match x.fst[i']? with
                  | some (_, y') => do
                    let b ← isSame y' (Value.ref r')
                    let still ← pure (if b = true then some i' else none)
                    match still with
                      | none => do
                        rule "set.search.anew"
                        setSearchFrom a (Value.ref r) h true fuel none
                      | some i' =>
                        if equal = true then pure (SetFound.there (some i'))
                        else setSearchFrom a (Value.ref r) h true fuel (some (stand t h (q + 1)))
                  | none => do
                    let still ← pure none
                    match still with
                      | none => do
                        rule "set.search.anew"
                        setSearchFrom a (Value.ref r) h true fuel none
                      | some i' =>
                        if equal = true then pure (SetFound.there (some i'))
                        else setSearchFrom a (Value.ref r) h true fuel (some (stand t h (q + 1)))
                | x => do
                  let still ← pure none
                  match still with
                    | none => do
                      rule "set.search.anew"
                      setSearchFrom a (Value.ref r) h true fuel none
                    | some i' =>
                      if equal = true then pure (SetFound.there (some i'))
                      else setSearchFrom a (Value.ref r) h true fuel (some (stand t h (q + 1)))
              | x => unsupported "set.changed-during-lookup:is-the-new-block-at-the-old-address") Q E s := by
          refine wpAny_bind (wpAny_holding (wpAny_eqBool_tuple hu hk' hk ?_))
          refine wpAny_bind (wpAny_setState_of ho hd hf ?_)
          dsimp only
          by_cases hkk : k' = k
          · subst hkk
            rw [decide_eq_true rfl]
            simp only [Bool.and_self, if_true]
            exact wpAny_pure (h1 ⟨i, r', by rw [← eh]; exact he, hk'⟩)
          · rw [decide_eq_false hkk]
            simp only [Bool.and_false, Bool.false_eq_true, if_false]
            have sm : t.sameMemory t.moves t.mask = some true := by unfold sameMemory; rw [if_pos (by simp)]
            rw [sm]
            simp only [if_true]
            rw [e1]
            dsimp only
            rw [he]
            dsimp only
            have same : isSame (Value.ref r') (Value.ref r') = pure true := by
              unfold isSame
              simp
            refine wpAny_bind ?_
            rw [same]
            refine wpAny_pure ?_
            simp only [if_true]
            refine wpAny_bind (wpAny_pure ?_)
            dsimp only
            refine ih (q + 1) _ rfl (by omega) (by omega) fun j hj i2 r2 k2 s2 g2 t2 => ?_
            by_cases hjn : j < n
            · exact old j hjn i2 r2 k2 s2 g2 t2
            · by_cases hjq : j = q
              · subst hjq
                rw [e1] at s2
                cases s2
                rw [he] at g2
                have : r' = r2 := by
                  have := Option.some.inj g2
                  injection this with _ z
                  injection z
                subst this
                rw [← hk'.inj t2]
                exact hkk
              · obtain ⟨i3, p1, p2⟩ := q3 j (by omega) (by omega)
                rw [s2] at p1
                cases p1
                rw [g2] at p2
                intro z
                rw [z] at p2
                exact p2 hh
        dsimp only
        rw [he]
        dsimp only
        by_cases hled : (!t.led) = true
        · rw [if_pos hled]
          refine wpAny_bind (seen_quiet hk _ (fun y hy => ?_) ?_)
          · obtain ⟨e, he1, rfl⟩ := List.mem_map.mp hy
            have he2 := (Array.mem_filter.mp (Array.mem_toList_iff.mp he1)).1
            obtain ⟨i2, hi2⟩ := Array.getElem?_of_mem he2
            obtain ⟨r2, k2, rfl, hk2⟩ := el i2 e hi2
            exact ⟨r2, k2, rfl, hk2⟩
          · simp only [Bool.false_eq_true, if_false]
            exact body
        · rw [if_neg hled]
          exact body
  exact main 100000 0 none rfl (Nat.zero_le _) (by unfold turns at m1; omega) (fun j hj => absurd hj (Nat.not_lt_zero _))
end
end STab
namespace STab
open PySem PySem.SetTable
/-- a set's inside: laid well, not too full, not too great -/
structure IN (es : Array (Int × Value)) (t : SetTable) (led : Bool) : Prop where
  wf : WF t es
  roomy : t.place.size * 5 < t.mask * 3
  small : t.mask ≤ 7 ∨ t.mask + 1 ≤ 8 * es.size
  led : t.led = led
  plain : es.size ≠ 0 → t.plain = false
theorem IN.fits {es : Array (Int × Value)} {t : SetTable} {led : Bool} (I : IN es t led) : t.fits es.size = true := by
  unfold SetTable.fits fill
  rw [I.wf.dum]
  have := I.roomy
  simp [I.wf.size]
  rw [← I.wf.size]
  omega
theorem IN.fresh (finger moves : Nat) (led : Bool) : IN #[] (SetTable.fresh finger moves led) led :=
  ⟨⟨⟨3, rfl⟩, Nat.le_refl _, rfl, fun a b ha => absurd ha (by simp [SetTable.fresh]), fun j hj => by simp [SetTable.fresh] at hj, rfl, fun i j h x hi => by simp [SetTable.fresh] at hi⟩, show 0 * 5 < 7 * 3 from by decide, .inl (Nat.le_refl _), rfl, fun q => absurd rfl q⟩
section
variable {prog : Program} {w : World} {K : Type} [DecidableEq K] {knd : KeyKind prog w K} {A : Around} {E : Value → Shared → Prop} {s : Shared}
theorem relay_ok {a : Addr} {o : Obj} {es : Array (Int × Value)} {ep : Nat} {t : SetTable} {Q : Unit → Shared → Prop} (ho : s.heap.get? a = some o) (hd : o.data = .set es ep t) (hf : t.fits es.size = true) (hn : es.size ≤ 1000) (h0 : es.size ≠ 0) (hp : t.plain = false)
    (h : ∀ es' t', es'.toList.Perm es.toList → IN es' t' t.led → t'.plain = false → Q () { s with heap := s.heap.update a (Obj.putSet es' t') }) :
    wpAny (model prog w) A (setRelay a (grown es.size)) Q E s := by
  have hg : grown es.size = es.size * 4 := by unfold grown; rw [if_neg (by omega)]
  rw [hg]
  obtain ⟨k, k3, ek, lt, le⟩ := above_spec (n := es.size * 4) (by omega)
  have k8 : 8 ≤ 2 ^ k := Nat.le_trans (by decide : 8 ≤ 2 ^ 3) (Nat.pow_le_pow_right (by decide) k3)
  have hb : 2 ^ k ≤ 8 * es.size ∨ 2 ^ k = 8 := by
    rcases le with q | q
    · exact .inl (by omega)
    · exact .inr (by rw [q])
  have hle : 2 ^ k ≤ 8000 := by rcases hb with q | q <;> omega
  let tm : SetTable := { t with mask := 2 ^ k - 1 }
  obtain ⟨t', order, e1, e2, e3, e4, e5, W, P⟩ := laid_ok (t := tm) (k := k) (by show 2 ^ k - 1 + 1 = 2 ^ k; omega) (by show 7 ≤ 2 ^ k - 1; omega) es (by show es.size ≤ 2 ^ k - 1; omega) t.finger (t.movedTo (2 ^ k - 1)) t.led t.plain
  have er : t.relaid (es.map (·.1)) (es.size * 4) = some (t', order) := by
    unfold relaid
    rw [ek]
    exact e1
  have sz : (order.filterMap (es[·]?)).size = es.size := by rw [← Array.length_toList, P.length_eq, Array.length_toList]
  unfold setRelay
  refine wpAny_bind (wpAny_setState_of ho hd hf ?_)
  dsimp only
  rw [ek, if_neg (by rw [PySem.sizeLine_eq]; omega)]
  rw [er]
  have em : t'.mask = 2 ^ k - 1 := e2
  have fin := h (order.filterMap (es[·]?)) t' P ⟨W, by rw [em, W.size, sz]; omega, by rw [em, sz]; rcases hb with q | q <;> omega, e3, fun _ => by rw [e4]; exact hp⟩ (by rw [e4]; exact hp)
  refine wpAny_bind ?_
  show wpAny (model prog w) A (if ((order.filterMap (es[·]?)).size != es.size) = true then _ else pure (order.filterMap (es[·]?), t')) _ E s
  rw [if_neg (by simp [sz])]
  refine wpAny_pure ?_
  exact wpAny_storeSet_of ho hd fin (by rw [sz]; exact Nat.le_trans hn (by decide))
/-- adding a tuple -/
theorem add_tuple {a r : Addr} {k : List K} {o : Obj} {es : Array (Int × Value)} {ep : Nat} {t : SetTable} {led : Bool} {Q : Bool → Shared → Prop} (hu : A.units < cLine) (ho : s.heap.get? a = some o) (hd : o.data = .set es ep t) (I : IN es t led) (hn : es.size + 1 ≤ 1000)
    (el : EL knd s.heap es) (hk : IsTupleKey knd s.heap k r) (hv : ∀ (s' : Shared) (Q' : Bool → Shared → Prop), IsTupleKey knd s'.heap k r → Q' false s' → wpAny (model prog w) A (hashByValue 8 (.ref r)) Q' E s')
    (h1 : (∃ (i : Nat) (r' : Addr), es[i]? = some (tupleKeyHash knd k, Value.ref r') ∧ IsTupleKey knd s.heap k r') → Q false { s with toks := s.toks + (k.length + 1) })
    (h2 : (∀ (i : Nat) (r' : Addr) (k' : List K), es[i]? = some (tupleKeyHash knd k', Value.ref r') → IsTupleKey knd s.heap k' r' → k' ≠ k) → ∀ es' t' ep' h', h'.get? a = some { o with data := .set es' ep' t' } → Heap.SameBut a s.heap h' → es'.toList.Perm (es.toList ++ [(tupleKeyHash knd k, Value.ref r)]) → IN es' t' led → Q true { s with heap := h', toks := s.toks + (k.length + 1) }) :
    wpAny (model prog w) A (setAdd a (.ref r)) Q E s := by
  unfold setAdd
  refine wpAny_holding (wpAny_bind (wpAny_pyHash_tuple hu hk ?_))
  unfold setAddHashed
  refine wpAny_holding ?_
  unfold setAddHashedIn
  refine wpAny_bind (wpAny_setState_of (s := { s with toks := s.toks + (k.length + 1) }) ho hd I.fits ?_)
  dsimp only
  have ns : byScan (Value.ref r) es = false := by unfold byScan; simp [Value.scannable]
  rw [ns]
  simp only [Bool.false_eq_true, if_false]
  have sm : t.mask ≤ 9000 := by rcases I.small with q | q <;> omega
  have rm := I.roomy
  refine wpAny_bind (search_tuple (s := { s with toks := s.toks + (k.length + 1) }) hu ho hd I.wf (by omega) sm el hk (fun q => ?_) fun m m1 m2 m3 => ?_)
  · exact wpAny_pure (h1 q)
  · dsimp only
    refine wpAny_bind (wpAny_setState_of (s := { s with toks := s.toks + (k.length + 1) }) ho hd I.fits ?_)
    dsimp only
    have W0 := I.wf
    obtain ⟨p1, p2, p3, p4, p5, p6, Wp⟩ := W0.put (x := Value.ref r) m1 m2 t.led false
    obtain ⟨_, _, _, _, _, _, Wq⟩ := W0.put (x := Value.ref r) m1 m2 (t.put (way t (tupleKeyHash knd k) m)).1.led (t.put (way t (tupleKeyHash knd k) m)).1.plain
    have hpe : (t.put (way t (tupleKeyHash knd k) m)).2 ≤ es.size := by
      rw [p1, ← W0.size]
      exact (below_spec W0.rise _).1
    have sz1 : (insertAt es (t.put (way t (tupleKeyHash knd k) m)).2 (tupleKeyHash knd k, Value.ref r)).size = es.size + 1 := ins_size _ _ _ hpe
    have pm1 : (insertAt es (t.put (way t (tupleKeyHash knd k) m)).2 (tupleKeyHash knd k, Value.ref r)).toList.Perm (es.toList ++ [(tupleKeyHash knd k, Value.ref r)]) := by
      rw [ins_list _ _ _ hpe]
      have q := List.take_append_drop (t.put (way t (tupleKeyHash knd k) m)).2 es.toList
      refine List.Perm.trans List.perm_middle ?_
      rw [q]
      exact List.perm_append_comm (l₁ := [_])
    generalize hes : insertAt es (t.put (way t (tupleKeyHash knd k) m)).2 (tupleKeyHash knd k, Value.ref r) = es1 at Wp Wq sz1 pm1
    have tail : ∀ t2 : SetTable, WF t2 es1 → t2.mask = t.mask → t2.place.size = t.place.size + 1 → t2.led = led → t2.plain = false →
        wpAny (model prog w) A (do storeSet a es1 t2; if (!false && t2.tooFull) = true then do setRelay a (grown (es.size + 1)); pure true else pure true) Q E { s with toks := s.toks + (k.length + 1) } := fun t2 W2 e1 e2 e3 e4 => by
      have g1 : (s.heap.update a (Obj.putSet es1 t2)).get? a = some { o with data := .set es1 (ep + 1) t2 } := by
        have q := Heap.get?_update_self (Obj.putSet es1 t2) ho (by rw [putSet_of es1 t2 hd]; rfl)
        rwa [putSet_of es1 t2 hd] at q
      have b1 := Heap.SameBut.update s.heap a (Obj.putSet es1 t2)
      refine wpAny_bind (wpAny_storeSet_of (s := { s with toks := s.toks + (k.length + 1) }) ho hd ?_ (by rw [sz1]; exact Nat.le_trans hn (by decide)))
      have hfull : t2.tooFull = true ↔ t2.mask * 3 ≤ t2.place.size * 5 := by
        unfold tooFull fill
        rw [W2.dum]
        simp
      have hroom : t2.place.size ≤ t2.mask := by rw [e1, e2]; have := W0.big; omega
      by_cases hf : t2.tooFull = true
      · rw [if_pos (by simp [hf])]
        have hfit : t2.fits es1.size = true := by
          unfold SetTable.fits fill
          rw [W2.dum]
          simp [W2.size]
          rw [← W2.size]; exact hroom
        rw [← sz1]
        refine wpAny_bind (relay_ok (s := { s with heap := s.heap.update a (Obj.putSet es1 t2), toks := s.toks + (k.length + 1) }) g1 rfl hfit (by omega) (by omega) e4 fun es2 t3 P3 I3 _ => wpAny_pure ?_)
        have g2 : ((s.heap.update a (Obj.putSet es1 t2)).update a (Obj.putSet es2 t3)).get? a = some { o with data := .set es2 (ep + 1 + 1) t3 } := by
          have q := Heap.get?_update_self (Obj.putSet es2 t3) g1 (by rw [putSet_of es2 t3 rfl]; rfl)
          rwa [putSet_of es2 t3 rfl] at q
        exact h2 m3 es2 t3 _ _ g2 (b1.trans (Heap.SameBut.update _ a _)) (P3.trans pm1) (by rw [e3] at I3; exact I3)
      · rw [if_neg (by simp [hf])]
        have hnf : ¬ t2.mask * 3 ≤ t2.place.size * 5 := fun q => hf (hfull.mpr q)
        refine wpAny_pure (h2 m3 es1 t2 _ _ g1 b1 pm1 ⟨W2, by omega, ?_, e3, fun _ => e4⟩)
        rw [e1, sz1]
        rcases I.small with q | q
        · exact .inl q
        · exact .inr (by omega)
    by_cases hpl : (t.put (way t (tupleKeyHash knd k) m)).1.plain = true
    · rw [if_pos hpl]
      refine wpAny_bind (hv _ _ hk ?_)
      simp only [Bool.false_eq_true, if_false]
      exact tail _ Wp p2 p3 I.led rfl
    · rw [if_neg hpl]
      refine wpAny_bind (wpAny_pure ?_)
      simp only [if_true]
      exact tail _ Wq p2 p3 (p4.trans I.led) (by simpa using hpl)
end
end STab
namespace L2
open PySem PySem.Spec PyProof.Rows
section
variable {prog : Program} {w : World} {A : Around} {E : Value → Shared → Prop} {s : Shared} {I S T : Addr}
/-- the iterator comes -/
theorem iter_setG {o : Obj} {es : Array (Int × Value)} {ep : Nat} {t : SetTable} {Q : Value → Shared → Prop} (ho : s.heap.get? S = some o) (hex : o.ExactSet) (hd : o.data = .set es ep t) (hb : es.size < scanBound) (hf : t.fits es.size = true) (hpl : es.size ≠ 0 → t.plain = false) (hled : t.led = !byText w)
    (hQ : ∀ (I T : Addr) (ord : List Value) (h' : Heap) d, (∀ b o, s.heap.get? b = some o → h'.get? b = some o) → s.heap.objs.size ≤ I → S ≠ I → (T = S ∨ s.heap.objs.size ≤ T) → T < h'.objs.size → I < h'.objs.size → ord.length = es.size →
      SIt w I S T o es ep t ord 0 h' → ord.Perm (es.toList.map (·.2)) → Q (.ref I) { s with heap := h', drawn := d }) : wpAny (model prog w) A (pyIter (.ref S)) Q E s := by
  have hT : s.TypeIs (.ref S) "set" := ⟨o, ho, hex.1⟩
  have slt : S < s.heap.objs.size := Heap.lt_size ho
  refine wpAny_pyIter_slot hT F.slot_set_iter (wpAny_call_entry F.slot_set_iter hT entry_setIter ?_ (F.args_set_iter_1 _))
  unfold Builtin.«frozenset.__iter__»
  refine wpAny_bind (m := Builtin.Frozenset.slot0 _ _) (wpAny_bind (m := slotArgs _ _ _) (wpAny_pure (wpAny_pure ?_)))
  refine wpAny_bind (m := Builtin.Frozenset.sizeOf S) (wpAny_bind (wpAny_setEntries_of ho hd hf (wpAny_pure ?_)))
  refine wpAny_bind (m := setDrawn S) ?_
  unfold setDrawn
  refine wpAny_bind (wpAny_setState_of ho hd hf (wpAny_bind (wpAny_bind (wpAny_askSetting (wpAny_pure (wpAny_pure ?_))))))
  have fin : ∀ (first : Value) (s1 : Shared) (T : Addr) (ord : List Value), s1.heap.get? S = some o → (∃ d h1, s1 = { s with heap := h1, drawn := d }) → (∀ b o, s.heap.get? b = some o → s1.heap.get? b = some o) → T < s1.heap.objs.size → s.heap.objs.size ≤ s1.heap.objs.size → (T = S ∨ s.heap.objs.size ≤ T) → ord.Perm (es.toList.map (·.2)) →
      ((byText w = true ∧ first = rawInt 0 ∧ ord = (pickOrder (w.params.setOrder S ep) es).toList.map (·.2)) ∨ (byText w = false ∧ first = .ref T ∧ ∃ ps : List Nat, s1.heap.get? T = some { cls := .type "tuple", data := .seq (ps.map fun (i : Nat) => rawInt i).toArray } ∧ ps.length = ord.length ∧ ∀ (j p : Nat), ps[j]? = some p → ∃ e, es[p]? = some e ∧ ord[j]? = some e.2) ∨ (byText w = false ∧ es.size ≤ 1 ∧ ord = es.toList.map (·.2) ∧ first = rawInt 0)) → ord.length = es.size →
      wpAny (model prog w) A.in1 (do ret (← newFields "set_iterator" [first, rawInt 0, .ref S, rawInt es.size, rawInt (← setEpoch S)])) (fun fin s' => ∃ v, fin = Fin.done (Flow.ret v) ∧ ∃ T' r, s'.TypeIs v T' ∧ typeLookup (.type T') "__next__" = pure (some r) ∧ Q v s') (fun e s' => E e s') s1 := by
    intro first s1 T ord h1 ⟨d, g1, e1⟩ k1 tl sl hTT q1 m hn
    subst e1
    refine wpAny_bind (wpAny_setEpoch_of h1 hd hf (wpAny_bind (wpAny_newObj_type ?_)))
    have gI : (g1.push { cls := .type "set_iterator", data := .fields #[first, rawInt 0, .ref S, rawInt es.size, rawInt ep] }).get? g1.objs.size = some _ := Heap.get?_push_size _ rfl
    refine wpAny_pure ⟨_, rfl, "set_iterator", _, ⟨_, gI, rfl⟩, slot_setit_next.lookup, hQ g1.objs.size T ord _ d (fun b o' e => Heap.get?_push_of_some _ (k1 b o' e)) sl (Nat.ne_of_lt (Heap.lt_size h1)) hTT (by rw [Heap.size_push]; exact Nat.lt_succ_of_lt tl) (by rw [Heap.size_push]; exact Nat.lt_succ_self _) hn ?_ q1⟩
    refine ⟨Heap.get?_push_of_some _ h1, first, gI, ?_⟩
    rcases m with m | ⟨bt, e, ps, hTt, r⟩ | ⟨bt, h1', eo, e⟩
    · exact .inl m
    · exact .inr (.inl ⟨bt, e, Nat.ne_of_lt tl, ps, Heap.get?_push_of_some _ hTt, r⟩)
    · exact .inr (.inr ⟨bt, h1', eo, fun _ => e, fun q => absurd q (by decide)⟩)
  have lst : (es.toList.map (·.2)).length = es.size := by rw [List.length_map, Array.length_toList]
  by_cases bt : byText w = true
  · show wpAny _ _ (if (!byText w && _) = true then _ else _) _ _ _
    rw [bt, Bool.not_true, Bool.false_and, if_neg (by decide)]
    refine wpAny_bind (wpAny_pure ?_)
    have pp := (pick_perm (w.params.setOrder S ep) es).map (·.2)
    exact fin (rawInt 0) s S _ ho ⟨s.drawn, s.heap, rfl⟩ (fun _ _ e => e) slt (Nat.le_refl _) (.inl rfl) pp (.inl ⟨bt, rfl, rfl⟩) (by rw [pp.length_eq, lst])
  · have bf : byText w = false := by simpa using bt
    show wpAny _ _ (if (!byText w && (!t.plain && decide (es.size > 1))) = true then _ else _) _ _ _
    by_cases h1 : es.size > 1
    · rw [bf, hpl (by omega), decide_eq_true h1]
      simp only [Bool.not_false, Bool.and_self, ↓reduceIte]
      refine wpAny_bind (draw_ok es.size (List.range es.size) _ _ (by simp) fun ps d pps => wpAny_bind ?_)
      refine wpAny_newTuple ?_ (by rw [List.length_map, pps.length_eq, List.length_range]; exact fits_of_scanBound hb)
      have lt : ∀ p ∈ ps, p < es.size := fun p q => List.mem_range.mp (pps.mem_iff.mp q)
      have er : (List.range es.size).map (fun p => ((es[p]?).map (·.2)).getD .none) = es.toList.map (·.2) := by
        apply List.ext_getElem
        · simp
        · intro i q1 q2
          simp at q1
          simp [q1]
      have pp : (ps.map (fun p => ((es[p]?).map (·.2)).getD .none)).Perm (es.toList.map (·.2)) := by rw [← er]; exact pps.map _
      refine fin (.ref s.heap.objs.size) { s with heap := _, drawn := d } s.heap.objs.size (ps.map (fun p => ((es[p]?).map (·.2)).getD .none)) (Heap.get?_push_of_some _ ho) ⟨d, _, rfl⟩ (fun b o' e => Heap.get?_push_of_some _ e) (by show _ < (Heap.push _ _).objs.size; rw [Heap.size_push]; exact Nat.lt_succ_self _) (by show _ ≤ (Heap.push _ _).objs.size; rw [Heap.size_push]; exact Nat.le_succ _) (.inr (Nat.le_refl _)) pp
        (.inr (.inl ⟨bf, rfl, ps, Heap.get?_push_size _ rfl, by rw [List.length_map], fun j p q => ?_⟩)) (by rw [pp.length_eq, lst])
      have hlt := lt p (List.mem_of_getElem? q)
      exact ⟨es[p], by simp [hlt], by simp [q, hlt]⟩
    · rw [bf, decide_eq_false h1]
      simp only [Bool.and_false, Bool.false_eq_true, ↓reduceIte]
      refine wpAny_bind (wpAny_pure ?_)
      exact fin (rawInt 0) s S _ ho ⟨s.drawn, s.heap, rfl⟩ (fun _ _ e => e) slt (Nat.le_refl _) (.inl rfl) (List.Perm.refl _) (.inr (.inr ⟨bf, by omega, rfl, rfl⟩)) lst
/-- all that a set has, collected into a list -/
theorem collect_setG {o0 : Obj} {es0 : Array (Int × Value)} {ep0 : Nat} {t0 : SetTable} {Q : List Value → Shared → Prop} (hh : A.handled = none) (ho0 : s.heap.get? S = some o0) (hex0 : o0.ExactSet) (hd0 : o0.data = .set es0 ep0 t0) (hb0 : es0.size < scanBound) (hf0 : t0.fits es0.size = true) (hpl0 : es0.size ≠ 0 → t0.plain = false) (hled0 : t0.led = !byText w)
    (hQ : ∀ s' vs, vs.Perm (es0.toList.map (·.2)) → (∀ b o, s.heap.get? b = some o → s'.heap.get? b = some o) → s'.gens = s.gens → s'.os = s.os → s.heap.objs.size ≤ s'.heap.objs.size → Q vs s') : wpAny (model prog w) A (collect (.ref S)) Q E s := by
  unfold collect
  refine wpAny_bind (wpAny_runValue (codeAny_builtin F.entry_proto_collect ?_))
  rw [Around.under_plainId F.plain_proto_collect _]
  show wpAny _ A.in1 (newList [] >>= fun l => again (.builtin "list.__iadd__" ⟨[l, .ref S], []⟩)) _ _ s
  refine wpAny_bind (wpAny_newObj_type (wpAny_pure ⟨plainId_quiet F.plain_list_iadd _, codeAny_builtin F.entry_list_iadd ?_⟩))
  rw [Around.under_plainId F.plain_list_iadd _]
  have slt : S < s.heap.objs.size := Heap.lt_size ho0
  show wpAny _ A.in1 (Builtin.List.listExtendWith (.ref s.heap.objs.size) (.ref S) (.ref s.heap.objs.size)) _ _ _
  unfold Builtin.List.listExtendWith
  generalize hG : s.heap.push { cls := .type "list", data := .seq ([] : List Value).toArray } = G
  have gS : G.get? S = some o0 := by rw [← hG]; exact Heap.get?_push_of_some _ ho0
  have gz : G.objs.size = s.heap.objs.size + 1 := by rw [← hG, Heap.size_push]
  have gL : G.get? s.heap.objs.size = some { cls := .type "list", data := .seq ([] : List Value).toArray } := by rw [← hG]; exact Heap.get?_push_size _ rfl
  have tS : Shared.TypeIs { s with heap := G } (.ref S) "set" := ⟨o0, gS, hex0.1⟩
  refine wpAny_bind (wpAny_typeOf (T := "set") tS ?_)
  have n1 : Builtin.List.listSameRef (.ref s.heap.objs.size) (.ref S) = false := by
    show (s.heap.objs.size == S) = false
    exact beq_eq_false_iff_ne.mpr (Nat.ne_of_gt slt)
  have n2 : (Value.type "set" == Value.type "list") = false := by decide
  have n3 : (Value.type "set" == Value.type "tuple") = false := by decide
  simp only [n1, n2, n3, Bool.or_false, Bool.false_eq_true, if_false]
  refine wpAny_bind (iter_setG (s := { s with heap := G }) gS hex0 hd0 hb0 hf0 hpl0 hled0 fun I T ord h1 d k1 hI hSI hTT hTl hIl hn st q1 => ?_)
  replace k1 : ∀ b o, G.get? b = some o → h1.get? b = some o := k1
  replace hI : G.objs.size ≤ I := hI
  have gS1 : h1.get? S = some o0 := k1 _ _ gS
  refine wpAny_bind (wpAny_holding ?_)
  unfold Builtin.List.listLengthHint
  have tS1 : Shared.TypeIs { s with heap := h1, drawn := d } (.ref S) "set" := ⟨o0, gS1, hex0.1⟩
  refine wpAny_bind (wpAny_specialOf (T := "set") tS1 set_len_look ?_)
  wp_delta
  refine wpAny_bind (wpAny_isInstance (T := "set") (b := true) tS1 (by rw [isSubtype_type]; kernel_rfl) ?_)
  show wpAny _ A.in1 (typeOf (.ref S) >>= _) _ _ _
  refine wpAny_bind (wpAny_typeOf (T := "set") tS1 (wpAny_pure ?_))
  rw [if_pos (by decide)]
  refine wpAny_bind (wpAny_rule ?_)
  have gL1 : h1.get? s.heap.objs.size = some { cls := .type "list", data := .seq ([] : List Value).toArray } := k1 _ _ gL
  refine wpAny_bind ?_
  unfold Builtin.List.listTouch
  refine wpAny_bind (listUpdate_at (s := { s with heap := h1, drawn := d }) gL1 rfl ?_ (Nat.zero_le _) (by show 1 ≤ sizeLine + 1; omega))
  have gL2 := Heap.get?_update_self (Obj.mapSeq (·.push Value.none)) gL1 rfl
  refine listUpdate_at (xs := #[Value.none]) (n := 1) (s := { s with heap := h1.update s.heap.objs.size (Obj.mapSeq (·.push Value.none)), drawn := d }) gL2 rfl ?_ (by show 1 ≤ sizeLine; decide) (by show 0 ≤ sizeLine + 1; omega)
  have gL3 := Heap.get?_update_self (Obj.mapSeq (·.pop)) gL2 rfl
  have oth : ∀ b o, b ≠ s.heap.objs.size → h1.get? b = some o → ((h1.update s.heap.objs.size (Obj.mapSeq (·.push Value.none))).update s.heap.objs.size (Obj.mapSeq (·.pop))).get? b = some o := fun b o hb e => (Heap.get?_update_other _ _ (Ne.symm hb)).trans ((Heap.get?_update_other _ _ (Ne.symm hb)).trans e)
  have neI : s.heap.objs.size ≠ I := Nat.ne_of_lt (Nat.lt_of_lt_of_le (by rw [gz]; exact Nat.lt_succ_self _) hI)
  have neT : s.heap.objs.size ≠ T := by
    rcases hTT with e | e
    · rw [e]; exact Nat.ne_of_gt slt
    · exact Nat.ne_of_lt (Nat.lt_of_lt_of_le (by show s.heap.objs.size < G.objs.size; rw [gz]; exact Nat.lt_succ_self _) e)
  have nfp : s.heap.objs.size ∉ [I, S, T] := by
    simp only [List.mem_cons, List.not_mem_nil, or_false, not_or]
    exact ⟨neI, Nat.ne_of_gt slt, neT⟩
  have hbn : ord.length ≤ sizeLine := by rw [hn]; exact fits_of_scanBound hb0
  have W := walks_set (prog := prog) (A := A.in1) (T := T) (show A.in1.handled = none from hh) hd0 hf0 hled0 hSI hn
  have st2 := W.frame 0 h1 ((h1.update s.heap.objs.size (Obj.mapSeq (·.push Value.none))).update s.heap.objs.size (Obj.mapSeq (·.pop))) st fun b hb o' e => oth b o' (fun q => nfp (q ▸ hb)) e
  refine wpAny_pure ⟨plainId_quiet F.plain_extend_loop _, codeAny_extend_loopS W.toS hbn _ nfp _ ord.length 0 _ _ _ rfl (Nat.zero_le _) st2 gL3 (ItemsOf.nil _) fun s5 acc c5 m5 gL5 hacc => ?_⟩
  show wpAny _ A (load s.heap.objs.size >>= _) _ _ s5
  refine wpAny_bind (wpAny_load gL5 (wpAny_pure ?_))
  have ea : acc.toList = ord := by
    apply List.ext_getElem?
    intro j
    by_cases hj : j < ord.length
    · have hj' : j < acc.size := by rw [hacc.1]; exact hj
      have := hacc.2 j acc[j] (by simp [hj'])
      rw [this]
      simp [hj']
    · have l1 : acc.toList.length = ord.length := by rw [Array.length_toList]; exact hacc.1
      rw [List.getElem?_eq_none (l := acc.toList) (by omega), List.getElem?_eq_none (l := ord) (by omega)]
  rw [ea]
  refine hQ s5 ord q1 (fun b o' e => ?_) m5.gens m5.os (Nat.le_of_lt (Heap.lt_size gL5))
  have blt := Heap.lt_size e
  refine m5.heap b o' ?_ (oth b o' (Nat.ne_of_lt blt) (k1 b o' (by rw [← hG]; exact Heap.get?_push_of_some _ e)))
  simp only [List.mem_cons, List.not_mem_nil, or_false, not_or]
  exact ⟨Nat.ne_of_lt blt, Nat.ne_of_lt (Nat.lt_of_lt_of_le blt (Nat.le_trans (by rw [gz]; exact Nat.le_succ _) hI))⟩
end
end L2
namespace L2
open PySem PySem.Spec PyProof.Rows STab
noncomputable def addT {κ : Type} [DecidableEq κ] (ps : List (Addr × κ)) (p : Addr × κ) : List (Addr × κ) := if p.2 ∈ ps.map (·.2) then ps else ps ++ [p]
noncomputable def firstsT {κ : Type} [DecidableEq κ] (l : List (Addr × κ)) : List (Addr × κ) := l.foldl addT []
section
variable {κ : Type} [DecidableEq κ]
theorem addT_mem {ps : List (Addr × κ)} {p q : Addr × κ} (h : q ∈ addT ps p) : q ∈ ps ∨ q = p := by
  unfold addT at h
  split at h
  · exact .inl h
  · rcases List.mem_append.mp h with h | h
    · exact .inl h
    · exact .inr (List.mem_singleton.mp h)
theorem addT_keys {ps : List (Addr × κ)} {p : Addr × κ} {k : κ} : k ∈ (addT ps p).map (·.2) ↔ k ∈ ps.map (·.2) ∨ k = p.2 := by
  unfold addT
  by_cases h : p.2 ∈ ps.map (·.2)
  · rw [if_pos h]
    exact ⟨.inl, fun q => q.elim id fun e => e ▸ h⟩
  · rw [if_neg h, List.map_append, List.mem_append]
    simp
theorem addT_nodup {ps : List (Addr × κ)} {p : Addr × κ} (h : (ps.map (·.2)).Nodup) : ((addT ps p).map (·.2)).Nodup := by
  unfold addT
  split
  · exact h
  · rename_i hn
    rw [List.map_append]
    exact nd_snoc h hn
theorem foldT : ∀ (l ps : List (Addr × κ)), (ps.map (·.2)).Nodup → ((l.foldl addT ps).map (·.2)).Nodup ∧ (∀ k, k ∈ (l.foldl addT ps).map (·.2) ↔ k ∈ ps.map (·.2) ∨ k ∈ l.map (·.2)) ∧ (∀ q ∈ l.foldl addT ps, q ∈ ps ∨ q ∈ l)
  | [], ps, h => ⟨h, fun k => by simp, fun q hq => .inl hq⟩
  | p :: l, ps, h => by
    obtain ⟨h1, h2, h3⟩ := foldT l (addT ps p) (addT_nodup h)
    rw [List.foldl_cons]
    refine ⟨h1, fun k => ?_, fun q hq => ?_⟩
    · rw [h2, addT_keys, List.map_cons, List.mem_cons]
      exact ⟨fun h => h.elim (fun h => h.elim .inl fun e => .inr (.inl e)) fun h => .inr (.inr h), fun h => h.elim (fun h => .inl (.inl h)) fun h => h.elim (fun e => .inl (.inr e)) .inr⟩
    · rcases h3 q hq with z | z
      · rcases addT_mem z with z | z
        · exact .inl z
        · exact .inr (by rw [z]; exact List.mem_cons_self)
      · exact .inr (List.mem_cons_of_mem _ z)
theorem firstsT_nodup (l : List (Addr × κ)) : ((firstsT l).map (·.2)).Nodup := (foldT l [] List.nodup_nil).1
theorem firstsT_keys (l : List (Addr × κ)) (k : κ) : k ∈ (firstsT l).map (·.2) ↔ k ∈ l.map (·.2) := by
  have := (foldT l [] List.nodup_nil).2.1 k
  simpa [firstsT] using this
theorem firstsT_sub (l : List (Addr × κ)) : ∀ q ∈ firstsT l, q ∈ l := fun q hq => by
  rcases (foldT l [] List.nodup_nil).2.2 q hq with z | z
  · cases z
  · exact z
theorem firstsT_succ (val : Nat → Addr × κ) (i : Nat) : firstsT ((List.range (i + 1)).map val) = addT (firstsT ((List.range i).map val)) (val i) := by
  unfold firstsT
  rw [List.range_succ, List.map_append, List.foldl_append]
  rfl
end
section
variable {prog : Program} {w : World} {κ : Type} [DecidableEq κ] {knd : PySem.KeyKind prog w κ} {A : Around} {E : Value → Shared → Prop} {s : Shared} {a : Addr}
/-- the set at a has just these tuples -/
noncomputable def SetT (w : World) (knd : PySem.KeyKind prog w κ) (a : Addr) (ps : List (Addr × List κ)) (h : Heap) : Prop :=
  ∃ o es ep t, h.get? a = some o ∧ o.ExactSet ∧ o.data = .set es ep t ∧ IN es t (!byText w) ∧ es.toList.Perm (ps.map fun p => (tupleKeyHash knd p.2, Value.ref p.1))
theorem SetT.keep {ps : List (Addr × List κ)} {h h' : Heap} (S : SetT w knd a ps h) (k : ∀ o, h.get? a = some o → h'.get? a = some o) : SetT w knd a ps h' := by
  obtain ⟨o, es, ep, t, ho, r⟩ := S
  exact ⟨o, es, ep, t, k o ho, r⟩
theorem tk_keep {h h' : Heap} {k : List κ} {r : Addr} (x : IsTupleKey knd h k r) (q : ∀ o, h.get? r = some o → h'.get? r = some o) : IsTupleKey knd h' k r := by
  obtain ⟨o, items, n, ho, z⟩ := x
  exact ⟨o, items, n, q o ho, z⟩
theorem setT_add {ps : List (Addr × List κ)} {p : Addr × List κ} {Q : Bool → Shared → Prop} (hu : A.units < cLine) (hS : SetT w knd a ps s.heap) (tk : ∀ q ∈ ps, IsTupleKey knd s.heap q.2 q.1) (hk : IsTupleKey knd s.heap p.2 p.1) (room : ps.length + 1 ≤ 1000)
    (hv : ∀ (s' : Shared) (Q' : Bool → Shared → Prop), IsTupleKey knd s'.heap p.2 p.1 → Q' false s' → wpAny (model prog w) A (hashByValue 8 (.ref p.1)) Q' E s')
    (hQ : ∀ h' b tk, Heap.SameBut a s.heap h' → SetT w knd a (addT ps p) h' → s.toks ≤ tk → Q b { s with heap := h', toks := tk }) : wpAny (model prog w) A (setAdd a (.ref p.1)) Q E s := by
  obtain ⟨o, es, ep, t, ho, hex, hd, I, P⟩ := hS
  have hn : es.size = ps.length := by
    have := P.length_eq
    rw [List.length_map, Array.length_toList] at this
    exact this
  have mem : ∀ (i : Nat) e, es[i]? = some e → ∃ q ∈ ps, e = (tupleKeyHash knd q.2, Value.ref q.1) := fun i e he => by
    have : e ∈ es.toList := Array.mem_toList_iff.mpr (Array.mem_of_getElem? he)
    obtain ⟨q, hq, rfl⟩ := List.mem_map.mp (P.mem_iff.mp this)
    exact ⟨q, hq, rfl⟩
  have el : EL knd s.heap es := fun i e he => by
    obtain ⟨q, hq, rfl⟩ := mem i e he
    exact ⟨q.1, q.2, rfl, tk q hq⟩
  refine add_tuple hu ho hd I (by omega) el hk hv (fun ⟨i, r', e, k'⟩ => ?_) fun hnone es' t' ep' h' g' sb P' I' => ?_
  · obtain ⟨q, hq, eq⟩ := mem i _ e
    have er : r' = q.1 := by injection eq with _ z; injection z
    subst er
    have ek : p.2 = q.2 := k'.inj (tk q hq)
    refine hQ s.heap false _ (Heap.SameBut.refl a s.heap) ?_ (Nat.le_add_right _ _)
    unfold addT
    rw [if_pos (List.mem_map.mpr ⟨q, hq, ek.symm⟩)]
    exact ⟨o, es, ep, t, ho, hex, hd, I, P⟩
  · refine hQ h' true _ sb ?_ (Nat.le_add_right _ _)
    unfold addT
    rw [if_neg]
    · refine ⟨_, es', ep', t', g', hex, rfl, I', P'.trans ?_⟩
      rw [List.map_append]
      exact P.append_right _
    · intro hm
      obtain ⟨q, hq, e⟩ := List.mem_map.mp hm
      have : (tupleKeyHash knd q.2, Value.ref q.1) ∈ es.toList := P.mem_iff.mpr (List.mem_map.mpr ⟨q, hq, rfl⟩)
      obtain ⟨i, hi⟩ := List.getElem?_of_mem this
      exact hnone i q.1 q.2 (by simpa using hi) (tk q hq) e
end
section
variable {prog : Program} {w : World} {κ : Type} [DecidableEq κ] {knd : PySem.KeyKind prog w κ} {A : Around} {R : Result → Shared → Prop} {I : Addr} {fp wr : List Addr} {G : Array GenState → Array GenState → Prop} {n : Nat} {P : Nat → Value → Prop} {St : Nat → Shared → Prop}
theorem set_loop_tups (W : WalksS prog w A.in1 I fp wr G n P St) (S : Addr) (hSf : S ∉ fp) (hu : A.in1.units < cLine) (val : Nat → Addr × List κ) (hval : ∀ i v, i < n → P i v → v = .ref (val i).1) (U : List (List κ)) (hU : U.length ≤ 999) (hkU : ∀ i, i < n → (val i).2 ∈ U) (hout : ∀ i, i < n → (val i).1 ≠ S ∧ (val i).1 ∉ wr)
    (hv : ∀ i, i < n → ∀ (s' : Shared) (Q' : Bool → Shared → Prop) (E' : Value → Shared → Prop), IsTupleKey knd s'.heap (val i).2 (val i).1 → Q' false s' → wpAny (model prog w) A.in1 (hashByValue 8 (.ref (val i).1)) Q' E' s') :
    ∀ (k i : Nat) (s : Shared), n - i = k → i ≤ n → St i s → SetT w knd S (firstsT ((List.range i).map val)) s.heap → (∀ j, j < n → IsTupleKey knd s.heap (val j).2 (val j).1) →
      (∀ s', Moved (S :: wr) G s s' → SetT w knd S (firstsT ((List.range n).map val)) s'.heap → R (.ok (.ret .none)) s') → codeAny (model prog w) A (.builtin "set.update.loop" ⟨[.ref S, .ref I], []⟩) R s := by
  have out : S ∉ wr := fun h => hSf (W.sub _ h)
  have more : ∀ b ∈ wr, b ∈ S :: wr := fun b hb => List.mem_cons_of_mem _ hb
  intro k
  induction k with
  | zero =>
    intro i s hk hi st hS tk fin
    have e : i = n := by omega
    subst e
    refine codeAny_builtin F.entry_set_update_loop ?_
    rw [Around.under_plainId F.plain_set_update_loop _]
    show wpAny _ A.in1 (pyNext (.ref I) >>= _) _ _ s
    refine wpAny_bind (W.done s _ _ st fun s1 m1 => ?_)
    show wpAny _ A.in1 (ret Value.none) _ _ s1
    exact wpAny_pure (fin s1 (m1.mono more) (hS.keep fun o e => m1.heap S o out e))
  | succ k ih =>
    intro i s hk hi st hS tk fin
    have lt : i < n := by omega
    refine codeAny_builtin F.entry_set_update_loop ?_
    rw [Around.under_plainId F.plain_set_update_loop _]
    show wpAny _ A.in1 (pyNext (.ref I) >>= _) _ _ s
    refine wpAny_bind (W.item i s _ _ lt st fun v s1 pv st1 m1 => ?_)
    obtain rfl := hval i v lt pv
    have hS1 := hS.keep (h' := s1.heap) fun o e => m1.heap S o out e
    have tk1 : ∀ j, j < n → IsTupleKey knd s1.heap (val j).2 (val j).1 := fun j hj => tk_keep (tk j hj) fun o e => m1.heap _ o (hout j hj).2 e
    have tkf : ∀ q ∈ firstsT ((List.range i).map val), IsTupleKey knd s1.heap q.2 q.1 := fun q hq => by
      obtain ⟨j, hj, rfl⟩ := List.mem_map.mp (firstsT_sub _ q hq)
      exact tk1 j (by have := List.mem_range.mp hj; omega)
    have room : (firstsT ((List.range i).map val)).length + 1 ≤ 1000 := by
      have q := nodup_sub (firstsT_nodup ((List.range i).map val)) (m := U) fun k hk => by
        obtain ⟨p, hp, rfl⟩ := List.mem_map.mp ((firstsT_keys _ k).mp hk)
        obtain ⟨j, hj, rfl⟩ := List.mem_map.mp hp
        exact hkU j (by have := List.mem_range.mp hj; omega)
      rw [List.length_map] at q
      omega
    show wpAny _ A.in1 (holding [Value.ref (val i).1] (setAdd S (.ref (val i).1)) >>= _) _ _ s1
    refine wpAny_bind (wpAny_holding (setT_add (p := val i) hu hS1 tkf (tk1 i lt) room (fun s' Q' => hv i lt s' Q' _) fun h2 b tk2 sb hS2 htk => ?_))
    have hS2' : SetT w knd S (firstsT ((List.range (i + 1)).map val)) h2 := by rw [firstsT_succ]; exact hS2
    refine wpAny_pure ⟨plainId_quiet F.plain_set_update_loop _, ih (i + 1) _ (by omega) lt (W.frame _ s1 _ _ st1 htk fun b hb o e => ?_) hS2' (fun j hj => tk_keep (tk1 j hj) fun o e => by rw [sb.2 _ (hout j hj).1]; exact e) fun s3 m3 hS3 => ?_⟩
    · rw [sb.2 b (fun q : b = S => hSf (q ▸ hb))]; exact e
    · refine fin s3 (Moved.trans W.gtrans ((m1.mono more).then_heap htk fun b o hb e => ?_) m3) hS3
      rw [sb.2 b (fun q : b = S => hb (by rw [q]; exact List.mem_cons_self))]; exact e
end
end L2
namespace L2
open PySem PySem.Spec PyProof.Rows STab
section
variable {prog : Program} {w : World} {κ : Type} [DecidableEq κ] {knd : PySem.KeyKind prog w κ} {A : Around} {E : Value → Shared → Prop} {s : Shared}
set_option maxHeartbeats 4000000 in
theorem call_set_tups {l : Addr} {items : Array Value} {ps : List (Addr × List κ)} {Q : Value → Shared → Prop} (hh : A.handled = none) (hu : A.units + 16 < cLine) (hl : s.heap.IsList l items) (hi : items.toList = ps.map fun p => Value.ref p.1) (tk : ∀ p ∈ ps, IsTupleKey knd s.heap p.2 p.1) (U : List (List κ)) (hU : U.length ≤ 999) (hkU : ∀ p ∈ ps, p.2 ∈ U)
    (hv : ∀ p ∈ ps, ∀ (B : Around) (s' : Shared) (Q' : Bool → Shared → Prop) (E' : Value → Shared → Prop), IsTupleKey knd s'.heap p.2 p.1 → Q' false s' → wpAny (model prog w) B (hashByValue 8 (.ref p.1)) Q' E' s')
    (hQ : ∀ (h' : Heap) (tk : Nat), SetT w knd s.heap.objs.size (firstsT ps) h' → (∀ b o, s.heap.get? b = some o → h'.get? b = some o) → Q (.ref s.heap.objs.size) { s with heap := h', toks := tk }) :
    wpAny (model prog w) A (call (.type "set") [.ref l]) Q E s := by
  obtain ⟨c, tl, hmro⟩ := PySem.F.called_set.mro
  have hmade := PySem.F.called_set.made
  have hsub := PySem.F.called_set.sub
  refine wpAny_call (codeAny_of_tree ?_)
  show wpAny _ _ (callAny (.type "set") _) _ _ _
  refine wpAny_pure ⟨Code.quiet_builtin _ (by decide +kernel), codeAny_builtin F.entry_type_call ?_⟩
  rw [Around.under_plain (weight_type_call_type "set" [.ref l] []) rfl]
  have ht1 := PySem.F.called_set.notType
  have ht2 := PySem.F.called_set.canCreate
  have ht3 := PySem.F.typeCall_set_1 (.ref l)
  repeat any_goals first | assumption | wp_step
  refine codeAny_mono (set_new1 (.ref l) (E := E) (Q₁ := fun obj s₁ => obj = .ref s.heap.objs.size ∧ s₁ = { s with heap := s.heap.push (newSetO w) }) ⟨rfl, rfl⟩) fun r s₁ hr => ?_
  cases r with
  | error e => exact hr
  | ok fl =>
    cases fl with
    | ret obj =>
      obtain ⟨rfl, rfl⟩ := hr
      have gS : (s.heap.push (newSetO w)).get? s.heap.objs.size = some (newSetO w) := Heap.get?_push_size _ rfl
      have tS : Shared.TypeIs { s with heap := s.heap.push (newSetO w) } (.ref s.heap.objs.size) "set" := ⟨_, gS, rfl⟩
      have hli := PySem.F.called_set.init.lookup
      have hbi := PySem.F.called_set.init.bind (.ref s.heap.objs.size)
      repeat any_goals first | assumption | wp_step
      refine codeAny_mono (codeAny_call_builtin (R := wants (fun r s₂ => r = .none ∧ ∃ h' tk, s₂ = { s with heap := h', toks := tk } ∧ SetT w knd s.heap.objs.size (firstsT ps) h' ∧ (∀ b o, s.heap.get? b = some o → h'.get? b = some o)) E) PySem.F.called_set.init.plain F.entry_set_init (check_set_init_1 tS ?_)) fun r₂ s₂ hr₂ => ?_
      · obtain ⟨ol, gl, cl, nl, dl⟩ := hl
        obtain ⟨ocls, odict, odata, oslots⟩ := ol
        simp only at cl dl
        subst cl; subst dl
        have gl' : (s.heap.push (newSetO w)).get? l = some { cls := .type "list", dict := odict, data := .seq items nl, slots := oslots } := Heap.get?_push_of_some _ gl
        have no1 := PySem.F.sub_list_set
        have no2 := PySem.F.sub_list_frozenset
        have no3 : (Value.type "list" == Value.type "dict") = false := by decide
        have isl : (s.heap.push (newSetO w)).IsList l items := ⟨_, gl', rfl, nl, rfl⟩
        unfold Builtin.«set.__init__»
        unfold noKeywords
        unfold Builtin.Frozenset.updateFrom
        generalize hPI : pyIter = PI
        wp_walk
        subst hPI
        refine wpAny_pyIter_list isl (wpAny_bind (wpAny_runValue ?_))
        have llt : l < s.heap.objs.size := Heap.lt_size gl
        have h3 : A.in1.in1.in1.handled = none := by simp [hh]
        have nz : (s.heap.push (newSetO w)).objs.size = s.heap.objs.size + 1 := Heap.size_push ..
        have ne1 : l ≠ (s.heap.push (newSetO w)).objs.size := by rw [nz]; exact Nat.ne_of_lt (Nat.lt_succ_of_lt llt)
        have ne2 : s.heap.objs.size ∉ [(s.heap.push (newSetO w)).objs.size, l] := by
          rw [nz]
          simp only [List.mem_cons, List.not_mem_nil, or_false, not_or]
          exact ⟨Nat.ne_of_lt (Nat.lt_succ_self _), Nat.ne_of_gt llt⟩
        have hlen : items.size = ps.length := by rw [← Array.length_toList, hi, List.length_map]
        have hun : A.in1.in1.in1.units < cLine := by simp only [Around.in1]; omega
        have vat : ∀ i, i < items.size → ∃ p ∈ ps, ps[i]? = some p ∧ ps.getD i (0, []) = p := fun i h => by
          have h' : i < ps.length := by omega
          exact ⟨ps[i], List.getElem_mem h', by simp [h'], by simp [List.getD_eq_getElem?_getD, h']⟩
        refine set_loop_tups (knd := knd) ((Walks.list h3 _ l ne1 items).toS) s.heap.objs.size ne2 hun (fun i => ps.getD i (0, [])) (fun i v hlt hv' => ?_) U hU (fun i hlt => ?_) (fun i hlt => ?_) (fun i hlt => ?_) (items.size - 0) 0 _ (by omega) (Nat.zero_le _)
          ⟨⟨_, Heap.get?_push_size _ rfl, rfl, rfl⟩, isl.push _⟩ ⟨_, #[], 0, _, Heap.get?_push_of_some _ gS, ⟨rfl, rfl, rfl⟩, rfl, IN.fresh 0 0 _, List.Perm.refl _⟩ (fun j hlt => ?_) ?_
        · obtain ⟨p, hp, e1, e2⟩ := vat i hlt
          have : items.toList[i]? = some v := by rw [Array.getElem?_toList]; exact hv'
          rw [hi, List.getElem?_map, e1] at this
          show v = .ref (ps.getD i (0, [])).1
          rw [e2]
          exact (Option.some.inj this).symm
        · obtain ⟨p, hp, e1, e2⟩ := vat i hlt
          show (ps.getD i (0, [])).2 ∈ U
          rw [e2]
          exact hkU p hp
        · obtain ⟨p, hp, e1, e2⟩ := vat i hlt
          obtain ⟨po, _, _, pg, _⟩ := tk p hp
          have plt := Heap.lt_size pg
          show (ps.getD i (0, [])).1 ≠ _ ∧ (ps.getD i (0, [])).1 ∉ _
          rw [e2]
          refine ⟨Nat.ne_of_lt plt, ?_⟩
          simp only [List.mem_cons, List.not_mem_nil, or_false, nz]
          exact Nat.ne_of_lt (Nat.lt_succ_of_lt plt)
        · obtain ⟨p, hp, e1, e2⟩ := vat i hlt
          intro s' Q' E'
          show IsTupleKey knd s'.heap (ps.getD i (0, [])).2 (ps.getD i (0, [])).1 → _ → wpAny _ _ (hashByValue 8 (.ref (ps.getD i (0, [])).1)) _ _ _
          rw [e2]
          exact hv p hp _ s' Q' E'
        · obtain ⟨p, hp, e1, e2⟩ := vat j hlt
          show IsTupleKey knd _ (ps.getD j (0, [])).2 (ps.getD j (0, [])).1
          rw [e2]
          exact tk_keep (tk p hp) fun o e => Heap.get?_push_of_some _ (Heap.get?_push_of_some _ e)
        intro s3 m3 S3
        have hr : (List.range items.size).map (fun i => ps.getD i (0, [])) = ps := by
          rw [hlen]
          apply List.ext_getElem
          · simp
          · intro i h1 h2
            simp [List.getD_eq_getElem?_getD, h2]
        rw [hr] at S3
        obtain ⟨h', g', d', tk', os'⟩ := s3
        have eg : g' = s.gens := m3.gens
        have ed : d' = s.drawn := m3.drawn
        have eo : os' = s.os := m3.os
        subst eg; subst ed; subst eo
        refine wpAny_pure ?_
        show wpAny _ _ (ret Value.none) _ _ _
        refine wpAny_pure ⟨rfl, h', tk', rfl, S3, fun b o e => ?_⟩
        have blt := Heap.lt_size e
        refine m3.heap b o ?_ (Heap.get?_push_of_some _ (Heap.get?_push_of_some _ e))
        simp only [List.mem_cons, List.not_mem_nil, or_false, not_or, nz]
        exact ⟨Nat.ne_of_lt blt, Nat.ne_of_lt (Nat.lt_succ_of_lt blt)⟩
      · cases r₂ with
        | error e => exact hr₂
        | ok fl₂ =>
          cases fl₂ with
          | ret r =>
            obtain ⟨rfl, h', tk, rfl, S3, k3⟩ := hr₂
            repeat any_goals first | assumption | wp_step
            exact hQ _ _ S3 k3
          | _ => exact hr₂.elim
    | _ => exact hr.elim
end
end L2
namespace L2
open PySem PySem.Spec PyProof.Rows
section
variable {prog : Program} {w : World} {A : Around} {s : Shared}
theorem list_sort_big {a : Addr} {vs : List Value} {n : Nat} {kd : SortKind} {Nv : Value → Nat} {P : Fin → Shared → Prop} {E : Value → Shared → Prop} (ho : s.heap.get? a = some (seqObj "list" vs.toArray n)) (hsz : vs.length ≤ 100000)
    (hkk : ∀ h6 : Heap, (∀ b o, b ≠ a → s.heap.get? b = some o → h6.get? b = some o) → 2 ≤ vs.length → ∀ Q : SortKind → Shared → Prop, Q kd { s with heap := h6 } → wpAny (model prog w) A (keyKind' vs.toArray) Q E { s with heap := h6 })
    (hc : ∀ h6 : Heap, (∀ b o, b ≠ a → s.heap.get? b = some o → h6.get? b = some o) → SBig.Cmp prog w A (fun s' => s' = { s with heap := h6 }) kd (fun x => x.1 ∈ vs) (fun x => Nv x.1))
    (h : ∀ out : List Value, out.Perm vs → out.Pairwise (fun x y => Nv x ≤ Nv y) → P (.done (.ret .none)) { s with heap := sortedHeap s.heap a vs out.toArray }) :
    wpAny (model prog w) A (Builtin.«list.sort» ⟨[.ref a], []⟩) P E s := by
  rw [list_sort_plain]
  have ha : a < s.heap.objs.size := Heap.lt_size ho
  have hsl : vs.length ≤ sizeLine := Nat.le_trans hsz (by decide)
  refine wpAny_bind (listItems_at ho rfl ?_)
  refine wpAny_bind (listUpdate_at ho rfl ?_ (by simpa using hsl))
  obtain ⟨e1, ho1⟩ : ∃ e1, (s.heap.update a (Obj.mapSeq fun _ => #[])).get? a = some (seqObj "list" #[] e1) := ⟨_, get?_update_seq ho (fun _ => #[])⟩
  refine wpAny_bind (seqEpoch_at ho1 rfl ?_)
  refine wpAny_bind (wpAny_newTuple ?_ (by simpa using hsl))
  refine wpAny_bind (wpAny_newList ?_)
  refine wpAny_holding ?_
  have keep : ∀ b o, b ≠ a → s.heap.get? b = some o → (((s.heap.update a (Obj.mapSeq fun _ => #[])).push (seqObj "tuple" vs.toArray 0)).push (seqObj "list" #[] 0)).get? b = some o := fun b o hb e =>
    Heap.get?_push_of_some _ (Heap.get?_push_of_some _ ((Heap.get?_update_other _ _ (Ne.symm hb)).trans e))
  have ho6 : (((s.heap.update a (Obj.mapSeq fun _ => #[])).push (seqObj "tuple" vs.toArray 0)).push (seqObj "list" #[] 0)).get? a = some (seqObj "list" #[] e1) := by
    rw [Heap.get?_push_ne _ _ _ (by rw [size_push', Heap.size_update]; exact Nat.ne_of_lt (Nat.lt_succ_of_lt ha)), Heap.get?_push_ne _ _ _ (by rw [Heap.size_update]; exact Nat.ne_of_lt ha)]
    exact ho1
  have hkk := hkk _ keep
  have hc := hc _ keep
  show wpAny (model prog w) A _ P E { s with heap := ((s.heap.update a (Obj.mapSeq fun _ => #[])).push (seqObj "tuple" vs.toArray 0)).push (seqObj "list" #[] 0) }
  dsimp only
  have hvs : vs.toArray.size = vs.length := by simp
  have zp : (vs.toArray.zip vs.toArray).toList = vs.map fun v => (v, v) := by
    rw [Array.toList_zip, List.toList_toArray]
    apply List.ext_getElem
    · simp
    · intro i h1 h2
      simp
  have fin : ∀ st' : SortSt, (arrOf st').toList.Perm (vs.map fun v => (v, v)) → SBig.Srt (fun x => Nv x.1) (arrOf st').toList → P (.done (.ret .none)) { s with heap := sortedHeap s.heap a vs ((arrOf st').map (·.2)) } := by
    intro st' hp hs
    have eq : ∀ x ∈ (arrOf st').toList, x.1 = x.2 := fun x hx => by
      obtain ⟨v, _, rfl⟩ := List.mem_map.mp (hp.mem_iff.mp hx)
      rfl
    have e : (arrOf st').map (·.2) = ((arrOf st').toList.map (·.2)).toArray := by
      apply Array.ext'
      simp
    rw [e]
    refine h _ ?_ ?_
    · have := hp.map (·.2)
      rwa [List.map_map, show ((fun x : Keyed => x.2) ∘ fun v : Value => (v, v)) = id from rfl, List.map_id] at this
    · rw [List.pairwise_map]
      exact List.Pairwise.imp_of_mem (fun {x y} hx hy q => by rw [← eq x hx, ← eq y hy]; exact q) hs
  by_cases h2 : vs.toArray.size < 2
  · rw [if_pos h2, if_pos h2]
    refine wpAny_bind (wpAny_pure ?_)
    rw [StateT.run_pure]
    refine wpAny_bind (wpAny_pure ?_)
    dsimp only
    refine wpAny_bind (seqEpoch_at ho6 rfl ?_)
    refine wpAny_bind (listUpdate_at ho6 rfl ?_ (hsz2 := by rw [Array.size_map]; show (pairsOf vs).size ≤ _; rw [pairsOf_size, sizeLine_eq]; omega))
    simp only [bne_self_eq_false, Bool.false_eq_true, if_false]
    refine wpAny_pure (fin (SortSt.mk' general' (vs.toArray.zip vs.toArray) #[] 7 none) (by show (vs.toArray.zip vs.toArray).toList.Perm _; rw [zp]) ?_)
    show List.Pairwise _ (vs.toArray.zip vs.toArray).toList
    rw [zp]
    match vs, hvs, h2 with
    | [], _, _ => exact List.Pairwise.nil
    | [v], _, _ => exact List.pairwise_singleton _ _
    | v1 :: v2 :: r, h3, h4 => simp at h4; omega
  · rw [if_neg h2, if_neg h2]
    refine wpAny_bind (hkk (by omega) _ ?_)
    refine wpAny_bind (wpAny_mono (SBig.sc_sortRuns (D := fun x => x.1 ∈ vs) (st := SortSt.mk' kd (vs.toArray.zip vs.toArray) #[] 7 none) hc (fun x hx => ?_) ?_ rfl rfl
      (Q := fun _ st' => (arrOf st').toList.Perm (vs.map fun v => (v, v)) ∧ failedOf st' = none ∧ SBig.Srt (fun x => Nv x.1) (arrOf st').toList) (fun st' a1 a2 a3 => ⟨?_, a3, a2⟩) _ rfl) ?_ fun _ _ e => e.elim)
    · have hx : x ∈ (vs.toArray.zip vs.toArray).toList := hx
      rw [zp] at hx
      obtain ⟨v, hv, rfl⟩ := List.mem_map.mp hx
      exact hv
    · show 1 ≤ (vs.toArray.zip vs.toArray).size
      rw [← Array.length_toList, zp, List.length_map]
      omega
    · have a1 : (arrOf st').toList.Perm (vs.toArray.zip vs.toArray).toList := a1
      rwa [zp] at a1
    · rintro ⟨⟨⟩, st'⟩ s' ⟨rfl, hp, hf, hs⟩
      dsimp only at hp hf hs ⊢
      refine wpAny_bind (seqEpoch_at ho6 rfl ?_)
      refine wpAny_bind (listUpdate_at ho6 rfl ?_ (hsz2 := ?_))
      · rw [hf]
        simp only [bne_self_eq_false, Bool.false_eq_true, if_false]
        exact wpAny_pure (fin st' hp hs)
      · rw [Array.size_map, ← Array.length_toList, hp.length_eq, List.length_map]
        exact Nat.le_succ_of_le hsl
end
noncomputable def sltB (x y : Str) : Bool := decide (x.cps.toList < y.cps.toList)
noncomputable def lexB : List Str → List Str → Bool
  | [], [] => false
  | [], _ :: _ => true
  | _ :: _, [] => false
  | x :: xs, y :: ys => if x = y then lexB xs ys else sltB x y
theorem slt_irr (x : Str) : sltB x x = false := decide_eq_false (List.lt_irrefl _)
theorem str_eq {x y : Str} (h : x.cps.toList = y.cps.toList) : x = y := by
  obtain ⟨⟨l⟩⟩ := x
  obtain ⟨⟨m⟩⟩ := y
  simp at h
  rw [h]
theorem slt_trans {x y z : Str} (h1 : sltB x y = true) (h2 : sltB y z = true) : sltB x z = true := decide_eq_true (List.lt_trans (of_decide_eq_true h1) (of_decide_eq_true h2))
theorem slt_total {x y : Str} (h : sltB x y = false) (hn : x ≠ y) : sltB y x = true := by
  have h1 : ¬ x.cps.toList < y.cps.toList := of_decide_eq_false h
  have h2 : y.cps.toList ≤ x.cps.toList := h1
  refine decide_eq_true (Classical.byContradiction fun h3 => hn (str_eq ?_))
  exact List.le_antisymm h3 h2
theorem lex_irr : ∀ x : List Str, lexB x x = false
  | [] => rfl
  | x :: xs => by rw [lexB, if_pos rfl]; exact lex_irr xs
theorem lex_trans : ∀ {x y z : List Str}, lexB x y = true → lexB y z = true → lexB x z = true
  | [], [], z, h1, h2 => by cases h1
  | [], y :: ys, [], h1, h2 => by cases h2
  | [], y :: ys, z :: zs, h1, h2 => rfl
  | x :: xs, [], z, h1, h2 => by cases h1
  | x :: xs, y :: ys, [], h1, h2 => by cases h2
  | x :: xs, y :: ys, z :: zs, h1, h2 => by
    rw [lexB] at h1 h2 ⊢
    by_cases e1 : x = y
    · rw [if_pos e1] at h1
      subst e1
      by_cases e2 : x = z
      · rw [if_pos e2] at h2 ⊢
        exact lex_trans h1 h2
      · rw [if_neg e2] at h2 ⊢
        exact h2
    · rw [if_neg e1] at h1
      by_cases e2 : y = z
      · rw [if_pos e2] at h2
        subst e2
        rw [if_neg e1]
        exact h1
      · rw [if_neg e2] at h2
        have h3 := slt_trans h1 h2
        have e3 : x ≠ z := fun e => by rw [e, slt_irr] at h3; cases h3
        rw [if_neg e3]
        exact h3
theorem lex_total : ∀ {x y : List Str}, lexB x y = false → x ≠ y → lexB y x = true
  | [], [], h1, h2 => absurd rfl h2
  | [], y :: ys, h1, h2 => by cases h1
  | x :: xs, [], h1, h2 => rfl
  | x :: xs, y :: ys, h1, h2 => by
    rw [lexB] at h1 ⊢
    by_cases e1 : x = y
    · rw [if_pos e1] at h1
      rw [if_pos e1.symm]
      exact lex_total h1 fun e => h2 (by rw [e1, e])
    · rw [if_neg e1] at h1
      rw [if_neg (Ne.symm e1)]
      exact slt_total h1 e1
/-- how many are ahead -/
noncomputable def rankK (ks : List (List Str)) (k : List Str) : Nat := ks.countP fun u => lexB u k
theorem rank_lt {ks : List (List Str)} {x y : List Str} (hx : x ∈ ks) : lexB x y = decide (rankK ks x < rankK ks y) := by
  have up : ∀ (l : List (List Str)) (p q : List Str → Bool), (∀ u ∈ l, p u = true → q u = true) → l.countP p ≤ l.countP q := fun l p q h => List.countP_mono_left h
  cases h : lexB x y with
  | true =>
    symm
    refine decide_eq_true ?_
    have gen : ∀ l : List (List Str), x ∈ l → l.countP (fun u => lexB u x) < l.countP (fun u => lexB u y) := by
      intro l
      induction l with
      | nil => intro hx; cases hx
      | cons u l ih =>
        intro hx
        rw [List.countP_cons, List.countP_cons]
        have le := up l (fun u => lexB u x) (fun u => lexB u y) fun u _ hu => lex_trans hu h
        rcases List.mem_cons.mp hx with e | e
        · subst e
          rw [if_neg (by rw [lex_irr]; simp), if_pos h]
          omega
        · have := ih e
          by_cases hu : lexB u x = true
          · rw [if_pos hu, if_pos (lex_trans hu h)]
            omega
          · rw [if_neg hu]
            split <;> omega
    exact gen ks hx
  | false =>
    symm
    refine decide_eq_false (Nat.not_lt.mpr ?_)
    refine up ks _ _ fun u _ hu => ?_
    by_cases e : x = y
    · rw [e]; exact hu
    · exact lex_trans hu (lex_total h e)
section
variable {prog : Program} {w : World} {A : Around} {s : Shared} {E : Value → Shared → Prop}
/-- a tuple of texts -/
noncomputable abbrev TupS (prog : Program) (w : World) (h : Heap) (zs : List Str) (r : Addr) : Prop := IsTupleKey (mixKind prog w) h (zs.map Sum.inr) r
theorem items_str : ∀ {zs : List Str} {vs : List Value}, ItemsAre (mixKind prog w) (zs.map Sum.inr) vs → StrsAre vs zs
  | [], _, h => by cases h; exact .nil
  | z :: zs, _, h => by
    cases h with
    | cons h1 h2 =>
      have h1 : keyIs (Sum.inr z) _ = true := h1
      rcases keyIs_shape h1 with ⟨i, t, q1, q2⟩ | ⟨y, t, q1, q2⟩
      · cases q1
      · cases q1
        subst q2
        exact .cons z t (items_str h2)
theorem lt_go {b fin : Bool} {Q : Bool → Shared → Prop} : ∀ (x y : List Str) (vs us : List Value) (i : Nat), StrsAre vs x → StrsAre us y → (x.length = y.length) → fin = false → Q (lexB x y) s → PySem.W.KatLex prog w A b fin Q (vs.zip us) i s
  | [], [], _, _, i, .nil, .nil, _, hf, h => by rw [hf]; exact h
  | x :: xs, y :: ys, _, _, i, .cons _ t hx, .cons _ u hy, hl, hf, h => by
    rw [List.zip_cons_cons]
    refine PySem.W.kat_cons (eqBool_str ?_)
    rw [lexB] at h
    by_cases e : x = y
    · subst e
      rw [if_pos rfl] at h
      rw [beq_self_eq_true]
      exact PySem.W.kat_yes (lt_go xs ys _ _ (i + 1) hx hy (by simpa using hl) hf h)
    · rw [if_neg e] at h
      rw [beq_eq_false_iff_ne.mpr e]
      refine PySem.W.kat_no ?_
      cases hb : (b && i == 0) with
      | true => exact oneLt_str h
      | false => exact PySem.W.kat_one _ _ (lt_str h)
theorem lt_tups {x y : List Str} {r q : Addr} {Q : Bool → Shared → Prop} {b : Bool} (hx : TupS prog w s.heap x r) (hy : TupS prog w s.heap y q) (hl : x.length = y.length) (h : Q (lexB x y) s) : wpAny (model prog w) A (keyLt' (tuples' b) (.ref r) (.ref q)) Q E s := by
  obtain ⟨ox, xs, nx, gx, _, dx, ix⟩ := hx
  obtain ⟨oy, ys, ny, gy, _, dy, iy⟩ := hy
  have sx := items_str ix
  have sy := items_str iy
  refine PySem.W.kat_lt gx dx gy dy (lt_go x y _ _ 0 sx sy hl ?_ h)
  have l1 := strsAre_len sx
  have l2 := strsAre_len sy
  rw [Array.length_toList] at l1 l2
  exact decide_eq_false (by omega)
end
end L2
namespace L2
open PySem PySem.Spec PyProof.Rows STab
theorem firstsT_map {κ μ : Type} [DecidableEq κ] [DecidableEq μ] (g : κ → μ) (hg : ∀ a b, g a = g b → a = b) (l : List (Addr × κ)) : firstsT (l.map fun p => (p.1, g p.2)) = (firstsT l).map fun p => (p.1, g p.2) := by
  have go : ∀ (l ps : List (Addr × κ)), (l.map fun p => (p.1, g p.2)).foldl addT (ps.map fun p => (p.1, g p.2)) = (l.foldl addT ps).map fun p => (p.1, g p.2) := by
    intro l
    induction l with
    | nil => intro ps; rfl
    | cons p l ih =>
      intro ps
      rw [List.map_cons, List.foldl_cons, List.foldl_cons]
      have e : addT (ps.map fun p => (p.1, g p.2)) (p.1, g p.2) = (addT ps p).map fun p => (p.1, g p.2) := by
        unfold addT
        have hm : (g p.2 ∈ (ps.map fun p => (p.1, g p.2)).map (·.2)) ↔ p.2 ∈ ps.map (·.2) := by
          rw [List.map_map]
          constructor
          · intro h
            obtain ⟨q, hq, e⟩ := List.mem_map.mp h
            exact List.mem_map.mpr ⟨q, hq, hg _ _ e⟩
          · intro h
            obtain ⟨q, hq, e⟩ := List.mem_map.mp h
            exact List.mem_map.mpr ⟨q, hq, by show g q.2 = g p.2; rw [e]⟩
        by_cases h : p.2 ∈ ps.map (·.2)
        · rw [if_pos h, if_pos (hm.mpr h)]
        · rw [if_neg h, if_neg (fun z => h (hm.mp z)), List.map_append]
          rfl
      rw [e]
      exact ih _
  exact go l []
noncomputable abbrev inrs (p : Addr × List Str) : Addr × List Key := (p.1, p.2.map Sum.inr)
theorem inr_inj : ∀ a b : List Str, a.map (Sum.inr : Str → Key) = b.map Sum.inr → a = b
  | [], [], _ => rfl
  | [], _ :: _, h => by cases h
  | _ :: _, [], h => by cases h
  | x :: xs, y :: ys, h => by
    rw [List.map_cons, List.map_cons] at h
    injection h with h1 h2
    injection h1 with h3
    rw [h3, inr_inj xs ys h2]
section
variable {prog : Program} {w : World} {A : Around} {E : Value → Shared → Prop} {s : Shared} {S : Addr}
theorem strs_items : ∀ {vs : List Value} {zs : List Str}, StrsAre vs zs → ItemsAre (mixKind prog w) (zs.map Sum.inr) vs
  | _, _, .nil => .nil
  | _, _, .cons x t h => .cons (keyIs_str x t) (strs_items h)
theorem hv_text {zs : List Str} {r : Addr} {Q : Bool → Shared → Prop} (hz : zs ≠ []) (hk : TupS prog w s.heap zs r) (h : Q false s) : wpAny (model prog w) A (hashByValue 8 (.ref r)) Q E s := by
  have hT := hk.typeIs
  obtain ⟨o, items, n, ho, _, hd, hi⟩ := hk
  have hs := items_str hi
  unfold hashByValue
  refine wpAny_bind (wpAny_specialOf hT F.slot_tuple_hash.lookup ?_)
  dsimp only
  refine wpAny_bind (wpAny_seqItems ho hd ?_)
  refine wpAny_bind ?_
  simp only [Option.getD_some]
  rw [← Array.forIn_toList]
  match zs, items.toList, hs, hz with
  | z :: zs, _, .cons _ t hr, _ =>
    rw [List.forIn_cons]
    refine wpAny_bind ?_
    refine wpAny_bind ?_
    rw [show hashByValue 7 (Value.str z t) = pure false from rfl]
    refine wpAny_pure ?_
    simp only [Bool.not_false, if_true]
    refine wpAny_pure ?_
    exact wpAny_pure (wpAny_pure h)
noncomputable def kOf (ps : List (Addr × List Str)) : Value → List Str
  | .ref r => ((ps.find? fun p => p.1 == r).map (·.2)).getD []
  | _ => []
noncomputable def aOf : Value → Addr
  | .ref r => r
  | _ => 0
set_option maxHeartbeats 4000000 in
theorem sorted_setT {ps : List (Addr × List Str)} {m : Nat} {Q : Value → Shared → Prop} (hh : A.handled = none) (hS : SetT w (mixKind prog w) S (ps.map inrs) s.heap) (tk : ∀ p ∈ ps, TupS prog w s.heap p.2 p.1) (hm : ∀ p ∈ ps, p.2.length = m) (m0 : m ≠ 0) (few : ps.length ≤ 1000)
    (hQ : ∀ (s' : Shared) (l : Addr) (ss : List (Addr × List Str)) (n : Nat), ss.Perm ps → ss.Pairwise (fun a b => lexB b.2 a.2 = false) → (∀ b o, s.heap.get? b = some o → s'.heap.get? b = some o) → s'.gens = s.gens → s'.os = s.os → s.heap.objs.size ≤ l → s'.heap.get? l = some { cls := .type "list", data := .seq (ss.map fun p => Value.ref p.1).toArray n } → Q (.ref l) s') :
    wpAny (model prog w) A (call (.builtin "sorted") [.ref S]) Q E s := by
  obtain ⟨o, es, ep, t, ho, hex, hd, I, P⟩ := hS
  have hn : es.size = ps.length := by
    have := P.length_eq
    rw [List.length_map, List.length_map, Array.length_toList] at this
    exact this
  have pv : (es.toList.map (·.2)).Perm (ps.map fun p => Value.ref p.1) := by
    have := P.map (·.2)
    rw [List.map_map, List.map_map] at this
    exact this
  have key : ∀ p ∈ ps, kOf ps (.ref p.1) = p.2 := fun p hp => by
    show ((ps.find? fun q => q.1 == p.1).map (·.2)).getD [] = p.2
    cases hf : ps.find? fun q => q.1 == p.1 with
    | none =>
      have := List.find?_eq_none.mp hf p hp
      simp at this
    | some q =>
      have hq := List.mem_of_find?_eq_some hf
      have e : q.1 = p.1 := by have := List.find?_some hf; simpa using this
      show q.2 = p.2
      have t1 := tk q hq
      rw [e] at t1
      exact inr_inj _ _ (t1.inj (tk p hp))
  refine Calls.call_function_entry kind_sorted plain_sorted entry_sorted (args_sorted1 _) ?_
  unfold Builtin.«sorted»
  refine wpAny_bind (m := checkCount "sorted" 1 1 _) (wpAny_pure ?_)
  refine wpAny_bind (collect_setG (show A.in1.handled = none from hh) ho hex hd (by show es.size < 4096; omega) I.fits I.plain I.led fun s1 vs q1 k1 g1 o1 sle => ?_)
  have q2 : vs.Perm (ps.map fun p => Value.ref p.1) := q1.trans pv
  have hl : vs.length = ps.length := by rw [q2.length_eq, List.length_map]
  have mem : ∀ v ∈ vs, ∃ p ∈ ps, v = Value.ref p.1 := fun v hv => by
    obtain ⟨p, hp, rfl⟩ := List.mem_map.mp (q2.mem_iff.mp hv)
    exact ⟨p, hp, rfl⟩
  refine wpAny_bind (wpAny_newList ?_ (by rw [sizeLine_eq]; omega))
  have gL : (s1.heap.push (seqObj "list" vs.toArray 0)).get? s1.heap.objs.size = some (seqObj "list" vs.toArray 0) := Heap.get?_push_size _ rfl
  have tk1 : ∀ p ∈ ps, ∀ h6 : Heap, (∀ b o, b ≠ s1.heap.objs.size → (s1.heap.push (seqObj "list" vs.toArray 0)).get? b = some o → h6.get? b = some o) → TupS prog w h6 p.2 p.1 := fun p hp h6 k6 => by
    refine tk_keep (tk p hp) fun o e => ?_
    have e1 := k1 _ _ e
    exact k6 _ _ (Nat.ne_of_lt (Heap.lt_size e1)) (Heap.get?_push_of_some _ e1)
  refine wpAny_bind (wpAny_holding (wpAny_call_entry slot_list_sort ⟨_, gL, rfl⟩ entry_list_sort (list_sort_big (s := { s1 with heap := s1.heap.push (seqObj "list" vs.toArray 0) }) (kd := tuples' true) (Nv := fun v => rankK (ps.map (·.2)) (kOf ps v)) gL (by omega) (fun h6 k6 hv2 Q6 hq6 => ?_) (fun h6 k6 => ?_) fun out p1 p2 => ⟨_, rfl, ?_⟩) (args_list_sort _)))
  · have tups : ∀ l : List Value, (∀ v ∈ l, ∃ p ∈ ps, v = Value.ref p.1) → ∃ fs : List Value, PySem.W.KatTups h6 l fs ∧ fs.length = l.length ∧ ∀ f ∈ fs, ∃ z t, f = Value.str z t := by
      intro l
      induction l with
      | nil => intro _; exact ⟨[], PySem.W.KatTups.nil, rfl, fun f hf => by cases hf⟩
      | cons v l ih =>
        intro hv
        obtain ⟨fs, f1, f2, f3⟩ := ih fun u hu => hv u (List.mem_cons_of_mem _ hu)
        obtain ⟨p, hp, rfl⟩ := hv v List.mem_cons_self
        obtain ⟨o', items, n', g', c', d', i'⟩ := tk1 p hp h6 k6
        have hs' := items_str i'
        have hne : p.2 ≠ [] := fun e => by have := hm p hp; rw [e] at this; exact m0 this.symm
        obtain ⟨z, zs, ez⟩ : ∃ z zs, p.2 = z :: zs := by
          cases hp2 : p.2 with
          | nil => exact absurd hp2 hne
          | cons z zs => exact ⟨z, zs, rfl⟩
        rw [ez] at hs'
        obtain ⟨t', vr, ev⟩ : ∃ t' vr, items.toList = Value.str z t' :: vr := by
          cases hit : items.toList with
          | nil => rw [hit] at hs'; cases hs'
          | cons a b =>
            rw [hit] at hs'
            cases hs' with
            | cons _ t' _ => exact ⟨t', b, rfl⟩
        have e0 : items[0]? = some (Value.str z t') := by
          have : items.toList[0]? = some (Value.str z t') := by rw [ev]; rfl
          simpa using this
        exact ⟨Value.str z t' :: fs, PySem.W.KatTups.cons g' c' d' e0 f1, by simp [f2], fun f hf => by
          rcases List.mem_cons.mp hf with e | e
          · exact ⟨z, t', e⟩
          · exact f3 f e⟩
    obtain ⟨fs, f1, f2, f3⟩ := tups vs mem
    refine PySem.W.kat_kind (T := .type "str") f1 (by omega) (fun f hf => ?_) (by decide) hq6
    obtain ⟨z, t', rfl⟩ := f3 f hf
    exact PySem.W.Looks.of_pure rfl
  · intro x y s' hx hy hs'
    subst hs'
    obtain ⟨p, hp, ep'⟩ := mem _ hx
    obtain ⟨q, hq, eq'⟩ := mem _ hy
    obtain ⟨x1, x2⟩ := x
    obtain ⟨y1, y2⟩ := y
    obtain rfl : x1 = Value.ref p.1 := ep'
    obtain rfl : y1 = Value.ref q.1 := eq'
    show wpAny (model prog w) A.in1.in1 (keyLt' (tuples' true) (Value.ref p.1) (Value.ref q.1)) (fun b s' => b = decide (rankK (ps.map (·.2)) (kOf ps (Value.ref p.1)) < rankK (ps.map (·.2)) (kOf ps (Value.ref q.1))) ∧ s' = { s1 with heap := h6 }) (fun _ _ => False) { s1 with heap := h6 }
    rw [key p hp, key q hq]
    refine lt_tups (s := { s1 with heap := h6 }) (tk1 p hp h6 k6) (tk1 q hq h6 k6) (by rw [hm p hp, hm q hq]) ⟨?_, rfl⟩
    exact rank_lt (List.mem_map.mpr ⟨p, hp, rfl⟩)
  · have p3 : out.Perm (ps.map fun p => Value.ref p.1) := p1.trans q2
    have oe : out = (out.map fun v => (aOf v, kOf ps v)).map fun p => Value.ref p.1 := by
      rw [List.map_map]
      refine (List.map_id out).symm.trans (List.map_congr_left fun v hv => ?_)
      obtain ⟨p, hp, rfl⟩ := List.mem_map.mp (p3.mem_iff.mp hv)
      rfl
    obtain ⟨n, gl⟩ : ∃ n, (sortedHeap (s1.heap.push (seqObj "list" vs.toArray 0)) s1.heap.objs.size vs out.toArray).get? s1.heap.objs.size = some (seqObj "list" out.toArray n) := sortedHeap_at gL
    refine wpAny_pure ⟨_, rfl, hQ _ s1.heap.objs.size (out.map fun v => (aOf v, kOf ps v)) n ?_ ?_ (fun b o' e => ?_) g1 o1 sle ?_⟩
    · have := p3.map fun v => (aOf v, kOf ps v)
      rw [List.map_map] at this
      refine this.trans ?_
      have : (ps.map ((fun v => (aOf v, kOf ps v)) ∘ fun p => Value.ref p.1)) = ps := by
        refine (List.map_congr_left fun p hp => ?_).trans (List.map_id ps)
        show (p.1, kOf ps (.ref p.1)) = p
        rw [key p hp]
      rw [this]
    · rw [List.pairwise_map]
      refine List.Pairwise.imp_of_mem (fun {u v} hu hv huv => ?_) p2
      obtain ⟨p, hp, rfl⟩ := List.mem_map.mp (p3.mem_iff.mp hu)
      obtain ⟨q, hq, rfl⟩ := List.mem_map.mp (p3.mem_iff.mp hv)
      show lexB (kOf ps (.ref q.1)) (kOf ps (.ref p.1)) = false
      have huv : rankK (ps.map (·.2)) (kOf ps (.ref p.1)) ≤ rankK (ps.map (·.2)) (kOf ps (.ref q.1)) := huv
      rw [key p hp, key q hq] at huv ⊢
      rw [rank_lt (ks := ps.map (·.2)) (List.mem_map.mpr ⟨q, hq, rfl⟩)]
      exact decide_eq_false (by omega)
    · have e1 := k1 b o' e
      have blt := Heap.lt_size e1
      show (sortedHeap _ _ _ _).get? b = _
      rw [sortedHeap_old (Nat.ne_of_lt blt) (by rw [Heap.size_push]; exact Nat.lt_succ_of_lt blt)]
      exact Heap.get?_push_of_some _ e1
    · have e2 : ((out.map fun v => (aOf v, kOf ps v)).map fun p => Value.ref p.1).toArray = out.toArray := congrArg List.toArray oe.symm
      have e3 : (seqObj "list" out.toArray n) = ({ cls := .type "list", data := .seq ((out.map fun v => (aOf v, kOf ps v)).map fun p => Value.ref p.1).toArray n } : Obj) := by
        rw [e2]
      exact gl.trans (congrArg some e3)
end
section
variable {X : Cx} {K : PySem.W.Frag}
/-- a set of tuples of texts, as a thing of the heap -/
noncomputable def SetTO (P : Program) (w : World) (a : Addr) (ps : List (Addr × List Str)) : HO := .ext (SetT w (mixKind P w) a (ps.map inrs))
/-- tuples of texts -/
noncomputable def TupsAt (H : Hp) (ps : List (Addr × List Str)) : Prop := ∀ p ∈ ps, p.2 ≠ [] ∧ H p.1 = some (.tup (p.2.map V.str))
theorem tups_in {pins : List (Addr × Obj)} {σ : St} {H : Hp} {s : Shared} (I : Inv X pins σ H s) {ps : List (Addr × List Str)} (h : TupsAt H ps) : ∀ p ∈ ps, TupS X.prog X.w s.heap p.2 p.1 := fun p hp => by
  obtain ⟨_, its, rv, o, ho, hc, n, hd⟩ := I.hok p.1 _ (h p hp).2
  exact ⟨o, its.toArray, n, ho, hc, hd, by simpa using strs_items (strsAre_of rv)⟩
theorem refs_of : ∀ {ps : List (Addr × List Str)} {us : List Value}, Vals (ps.map fun p => V.ref p.1) us → us = ps.map fun p => Value.ref p.1
  | [], _, .nil => rfl
  | _ :: _, _, .cons r t => by
    cases r
    rw [refs_of t]; rfl
theorem vals_of : ∀ (ps : List (Addr × List Str)), Vals (ps.map fun p => V.ref p.1) (ps.map fun p => Value.ref p.1)
  | [] => .nil
  | _ :: ps => .cons rfl (vals_of ps)
theorem call_setT (hc : X.calm = true) (hu : X.A.units + 64 < cLine) : CallR X (.type "set") (fun xs H Q => ∃ p ps, xs = [.ref p] ∧ SqL X.K H p (ps.map fun q => V.ref q.1) ∧ TupsAt H ps ∧ (∃ U : List (List Str), U.length ≤ 999 ∧ ∀ q ∈ ps, q.2 ∈ U) ∧ ∀ l, H l = none → Q (.ref l) (upd H l (SetTO X.prog X.w l (firstsT ps)))) := by
  intro pins s σ H xs us Q I r h
  obtain ⟨p, ps, rfl, hq, ht, ⟨U, hU, hkU⟩, q⟩ := h
  obtain ⟨u, rfl, ru⟩ := vals1 r
  cases ru
  obtain ⟨its, rv, pl, hz⟩ := I.list hq
  have hit := refs_of rv
  have tk := tups_in I ht
  refine call_set_tups (knd := mixKind X.prog X.w) (I.ok.hd hc) (by omega) pl.isList (ps := ps.map inrs) (by simp [hit, Function.comp]) (fun p' hp' => ?_) (U.map fun z => z.map Sum.inr) (by rw [List.length_map]; exact hU) (fun p' hp' => ?_) (fun p' hp' B s' Q' E' hk' hq' => ?_) fun h' tk' S k => ?_
  · obtain ⟨p0, h0, rfl⟩ := List.mem_map.mp hp'
    exact tk p0 h0
  · obtain ⟨p0, h0, rfl⟩ := List.mem_map.mp hp'
    exact List.mem_map.mpr ⟨p0.2, hkU p0 h0, rfl⟩
  · obtain ⟨p0, h0, rfl⟩ := List.mem_map.mp hp'
    exact hv_text (ht p0 h0).1 hk' hq'
  · have e : firstsT (ps.map inrs) = (firstsT ps).map inrs := firstsT_map (fun z : List Str => z.map Sum.inr) inr_inj ps
    rw [e] at S
    refine ⟨.ref s.heap.objs.size, _, I.laid (o := SetTO X.prog X.w s.heap.objs.size (firstsT ps)) (t' := tk') k (Nat.le_refl _) ⟨S, ?_, fun h1 h2 S1 k1 => SetT.keep S1 k1⟩, rfl, q _ I.fresh⟩
    obtain ⟨o, _, _, _, ho, _⟩ := S
    exact ⟨o, ho⟩
theorem call_sortedT (hc : X.calm = true) : CallR X (.builtin "sorted") (fun xs H Q => ∃ a ps m, xs = [.ref a] ∧ H a = some (SetTO X.prog X.w a ps) ∧ TupsAt H ps ∧ (∀ p ∈ ps, p.2.length = m) ∧ m ≠ 0 ∧ ps.length ≤ 1000 ∧
    ∀ (l : Addr) (ss : List (Addr × List Str)), H l = none → ss.Perm ps → ss.Pairwise (fun a b => lexB b.2 a.2 = false) → Q (.ref l) (upd H l (.lst (ss.map fun p => V.ref p.1)))) := by
  intro pins s σ H xs us Q I r h
  obtain ⟨a, ps, m, rfl, ha, ht, hm, m0, few, q⟩ := h
  obtain ⟨u, rfl, ru⟩ := vals1 r
  cases ru
  obtain ⟨S, _, _⟩ := (show ObjOk X.prog X.w H s.heap a (SetTO X.prog X.w a ps) from I.hok a _ ha)
  refine sorted_setT (I.ok.hd hc) S (tups_in I ht) hm m0 few fun s' l ss n p1 p2 k g o hle gl => ?_
  have hfree : H l = none := I.hok.fresh hle
  have J : Inv X pins σ H s' := I.keptS k g o
  refine ⟨.ref l, _, I.stoodS (o := .lst (ss.map fun p => V.ref p.1)) J hle ⟨?_, ss.map (fun p => Value.ref p.1), n, vals_of ss, gl⟩, rfl, q l ss hfree p1 p2⟩
  rw [List.length_map, p1.length_eq, sizeLine_eq]
  omega
theorem k_setT {k : Nat} {P : Program} {w : World} (h : X.K = K) (hp : X.prog = P) (hw : X.w = w) (hc : X.calm = true) (hr : Room k X.A) : CallQ X (.type "set") (fun xs H Q => ∃ p ps, xs = [.ref p] ∧ SqL K H p (ps.map fun q => V.ref q.1) ∧ TupsAt H ps ∧ (∃ U : List (List Str), U.length ≤ 999 ∧ ∀ q ∈ ps, q.2 ∈ U) ∧ ∀ l, H l = none → Q (.ref l) (upd H l (SetTO P w l (firstsT ps)))) := by
  subst h; subst hp; subst hw; exact ⟨call_setT hc hr.units⟩
theorem k_sortedT {P : Program} {w : World} (hp : X.prog = P) (hw : X.w = w) (hc : X.calm = true) : CallQ X (.builtin "sorted") (fun xs H Q => ∃ a ps m, xs = [.ref a] ∧ H a = some (SetTO P w a ps) ∧ TupsAt H ps ∧ (∀ p ∈ ps, p.2.length = m) ∧ m ≠ 0 ∧ ps.length ≤ 1000 ∧
    ∀ (l : Addr) (ss : List (Addr × List Str)), H l = none → ss.Perm ps → ss.Pairwise (fun a b => lexB b.2 a.2 = false) → Q (.ref l) (upd H l (.lst (ss.map fun p => V.ref p.1)))) := by
  subst hp; subst hw; exact ⟨call_sortedT hc⟩
end
end L2
namespace L2
open PySem PySem.Spec PyProof.Rows
noncomputable def Itzl (K : PySem.W.Frag) (a b : Addr) : It := ⟨fun i H => ∃ xs ys x y, SqL K H a xs ∧ SqL K H b ys ∧ xs[i]? = some x ∧ ys[i]? = some y,
  fun i H v H' => ∃ T x y, H T = none ∧ v = .ref T ∧ H' = upd H T (.tup [x, y]) ∧ (∀ xs, SqL K H a xs → xs[i]? = some x) ∧ (∀ ys, SqL K H b ys → ys[i]? = some y),
  fun i H => ∃ xs ys, SqL K H a xs ∧ SqL K H b ys ∧ i ≤ xs.length ∧ i ≤ ys.length ∧ (i = xs.length ∨ i = ys.length)⟩
theorem turn_zipL {P : Program} {w : World} {K : PySem.W.Frag} {elts : List Expr} {kt : Nat} {tp : Pos} (z TI TO i1 i2 l1 l2 : Addr) (D : ZipApart z TI TO i1 i2 l1 l2) :
    Turn P w K (.Tuple elts kt tp) (Itzl K l1 l2) [z, TI, TO, i1, i2] z (ZSt z TI TO i1 i2 (fun i h => h.IsListIter i1 l1 i) (fun i h => h.IsListIter i2 l2 i)) where
  mem := by simp
  obj := fun i h st b hb => by
    obtain ⟨hz, hTI, ⟨a, c, hTO⟩, ⟨o1, e1, _, d1⟩, ⟨o2, e2, _, d2⟩⟩ := st
    simp only [List.mem_cons, List.not_mem_nil, or_false] at hb
    rcases hb with rfl | rfl | rfl | rfl | rfl
    · exact ⟨_, hz, fun v q => nomatch q⟩
    · exact ⟨_, hTI, fun v q => nomatch q⟩
    · exact ⟨_, hTO, fun v q => nomatch q⟩
    · exact ⟨o1, e1, fun v q => by rw [d1] at q; cases q⟩
    · exact ⟨o2, e2, fun v q => by rw [d2] at q; cases q⟩
  keep := fun i h h' st k => by
    obtain ⟨hz, hTI, ⟨a, c, hTO⟩, ⟨o1, e1, r1⟩, ⟨o2, e2, r2⟩⟩ := st
    exact ⟨k z (by simp) _ hz, k TI (by simp) _ hTI, ⟨a, c, k TO (by simp) _ hTO⟩, ⟨o1, k i1 (by simp) _ e1, r1⟩, ⟨o2, k i2 (by simp) _ e2, r2⟩⟩
  item := by
    intro X hP hw hK hc i pins s σ H E I hf st hg
    subst hP hw hK
    obtain ⟨hz, hTI, ⟨a, c, hTO⟩, h1, h2⟩ := st
    obtain ⟨xs, ys, x, y, hq1, hq2, hx, hy⟩ := hg
    obtain ⟨its1, rv1, pl1, hz1⟩ := I.list hq1
    obtain ⟨its2, rv2, pl2, hz2⟩ := I.list hq2
    obtain ⟨u1, hu1, ru1⟩ := rv1.get hx
    obtain ⟨u2, hu2, ru2⟩ := rv2.get hy
    refine wpAny_pyNext_zip_item D hz hTI hTO h1 h2 pl1.isList pl2.isList (x := u1) (y := u2) (by simpa using hu1) (by simpa using hu2) fun h' a1 a2 a3 a4 a5 a6 hk => ?_
    refine ⟨_, rfl, wpAny_letOwnedTupleGo_zip (s := { s with heap := h' }) a1 fun h'' hz'' sb => ?_⟩
    replace sb : Heap.SameBut z h' h'' := sb
    have zlt : z < s.heap.objs.size := Heap.lt_size hz
    have Tne : s.heap.objs.size ≠ z := Nat.ne_of_gt zlt
    have hT2 : h''.get? s.heap.objs.size = some { cls := .type "tuple", data := .seq #[u1, u2] } := (sb.2 _ Tne).trans a5
    -- the four records that turn are our own
    have turn1 : Inv X pins σ H { s with heap := h'' } := by
      have nit : ∀ b v, H b = some v → b ∉ [z, TI, TO, i1, i2] := fun b v e hb => by rw [(hf b hb).1] at e; cases e
      have kk : ∀ b o, b ∉ [z, TI, TO, i1, i2] → s.heap.get? b = some o → h''.get? b = some o := fun b o hb e => by
        simp only [List.mem_cons, List.not_mem_nil, or_false, not_or] at hb
        exact (sb.2 b hb.1).trans (hk b o hb.1 hb.2.2.1 hb.2.2.2.1 hb.2.2.2.2 e)
      refine I.step (g' := s.gens) (d' := s.drawn) (ch := [z, TI, TO, i1, i2]) (fun b hb => ⟨(hf b hb).2.2.2.1, (hf b hb).2.1, (hf b hb).2.2.2.2.1, (hf b hb).2.2.2.2.2⟩) (fun b o _ _ hc e _ => kk b o hc e) (fun b o _ _ hc e _ => ⟨o.slots, kk b o hc e⟩) (fun _ _ _ _ n => n)
        (fun b o hc e => ⟨o, kk b o hc e⟩) (fun _ _ e => e) (fun _ _ _ e => e) (fun b ps e => ⟨#[], by rw [e]; simp⟩) (fun m hm => ?_) (fun b v e => ?_) I.bare
      · obtain ⟨o, es, ep, ho, r⟩ := hm
        exact ⟨o, es, ep, kk _ o (fun hb => (hf _ hb).2.1 rfl) ho, r⟩
      · refine (I.hok b v e).stay (fun c' v' hc' q => kk c' v' ?_ q) (fun _ q => q) fun _ _ q => q
        rcases hc' with q' | q'
        · rw [q']; exact nit b v e
        · exact nit c' _ q'
    have Hn : H s.heap.objs.size = none := I.fresh
    have I2 : Inv X pins σ (upd H s.heap.objs.size (.tup [x, y])) { s with heap := h'' } := by
      have nf : s.heap.objs.size ∉ X.fs := I.nofs (Nat.le_refl _)
      refine ⟨turn1.ok, turn1.os, turn1.bare, ?_, turn1.loc, turn1.cell, ?_, ?_, ?_, ?_, turn1.len⟩
      · have lt0 : ∀ b o, X.s₀.heap.get? b = some o → b ≠ s.heap.objs.size := fun b o e => Nat.ne_of_lt (Nat.lt_of_lt_of_le (Heap.lt_size e) I.sz)
        refine ⟨turn1.base.keep, turn1.base.slot, fun b o e n hx => ?_, turn1.base.there, fun b xs e => ?_, fun b o v e => ?_, fun b ps e => ?_⟩
        · rw [upd_ne (lt0 b o e)]; exact turn1.base.free b o e n hx
        · rw [upd_ne (ne_of_none (turn1.base.tups b xs e) Hn)]; exact turn1.base.tups b xs e
        · rw [upd_ne (ne_of_none (turn1.base.frzs b o v e) Hn)]; exact turn1.base.frzs b o v e
        · obtain ⟨m, q⟩ := turn1.base.tbls b ps e
          exact ⟨m, by rw [upd_ne (ne_of_none q Hn)]; exact q⟩
      · rw [upd_ne (Nat.ne_of_lt I.lt)]; exact turn1.free
      · intro x' c' e
        obtain ⟨v', q⟩ := I.cell x' c' e
        rw [upd_ne (Nat.ne_of_lt q.lt)]; exact turn1.freeC x' c' e
      · intro p hp
        obtain ⟨e, n, r⟩ := turn1.pin p hp
        refine ⟨e, ?_, r⟩
        rw [upd_ne (Nat.ne_of_lt (Heap.lt_size (I.pin p hp).1))]; exact n
      · intro b v e
        by_cases hb : b = s.heap.objs.size
        · subst hb
          rw [upd_same] at e
          cases e
          exact ⟨by show 2 ≤ sizeLine; decide, [u1, u2], .cons ru1 (.cons ru2 .nil), _, hT2, rfl, _, rfl⟩
        · rw [upd_ne hb] at e
          refine (turn1.hok b v e).stay (fun _ _ _ q => q) (fun c' q => ?_) fun c' xs q => ?_
          · rw [upd_ne (ne_of_none q Hn)]; exact q
          · rw [upd_ne (ne_of_none q Hn)]; exact q
    refine ⟨.ref s.heap.objs.size, _, I2, rfl, ⟨_, x, y, Hn, rfl, rfl, fun zs hzs => by rw [I.list_inj hzs hq1]; exact hx, fun zs hzs => by rw [I.list_inj hzs hq2]; exact hy⟩, ⟨hz'', (sb.2 _ D.TIz).trans (hk _ _ D.TIz D.TITO D.TIi1 D.TIi2 hTI), ⟨_, _, (sb.2 _ D.TOz).trans a2⟩, ?_, ?_⟩, fun b hb => ?_⟩
    · obtain ⟨o, e, r⟩ := a3; exact ⟨o, (sb.2 _ D.i1z).trans e, r⟩
    · obtain ⟨o, e, r⟩ := a4; exact ⟨o, (sb.2 _ D.i2z).trans e, r⟩
    · have : b < s.heap.objs.size := by
        simp only [List.mem_cons, List.not_mem_nil, or_false] at hb
        obtain ⟨o1, q1, _⟩ := h1
        obtain ⟨o2, q2, _⟩ := h2
        rcases hb with rfl | rfl | rfl | rfl | rfl
        · exact Heap.lt_size hz
        · exact Heap.lt_size hTI
        · exact Heap.lt_size hTO
        · exact Heap.lt_size q1
        · exact Heap.lt_size q2
      rw [upd_ne (Nat.ne_of_lt this)]; exact (hf b hb).1
  done := by
    intro X hP hw hK hc i pins s σ H E I hf st hg
    subst hP hw hK
    obtain ⟨hz, hTI, ⟨a, c, hTO⟩, h1, h2⟩ := st
    obtain ⟨xs, ys, hq1, hq2, g1, g2, g3⟩ := hg
    obtain ⟨its1, rv1, pl1, hz1⟩ := I.list hq1
    obtain ⟨its2, rv2, pl2, hz2⟩ := I.list hq2
    have n1 := rv1.length
    have n2 := rv2.length
    refine wpAny_pyNext_zip_end (I.ok.hd hc) D hz hTI hTO h1 h2 pl1.isList pl2.isList (by
      rcases g3 with q | q
      · exact .inl (by simp; omega)
      · exact .inr (by simp; omega)) fun h' hk => ⟨rfl, ?_⟩
    have nit : ∀ b v, H b = some v → b ∉ [z, TI, TO, i1, i2] := fun b v e hb => by rw [(hf b hb).1] at e; cases e
    have kk : ∀ b o, b ∉ [z, TI, TO, i1, i2] → s.heap.get? b = some o → h'.get? b = some o := fun b o hb e => by
      simp only [List.mem_cons, List.not_mem_nil, or_false, not_or] at hb
      exact hk b o hb.1 hb.2.2.1 hb.2.2.2.1 hb.2.2.2.2 e
    refine I.step (g' := s.gens) (d' := s.drawn) (ch := [z, TI, TO, i1, i2]) (fun b hb => ⟨(hf b hb).2.2.2.1, (hf b hb).2.1, (hf b hb).2.2.2.2.1, (hf b hb).2.2.2.2.2⟩) (fun b o _ _ hc e _ => kk b o hc e) (fun b o _ _ hc e _ => ⟨o.slots, kk b o hc e⟩) (fun _ _ _ _ n => n)
      (fun b o hc e => ⟨o, kk b o hc e⟩) (fun _ _ e => e) (fun _ _ _ e => e) (fun b ps e => ⟨#[], by rw [e]; simp⟩) (fun m hm => ?_) (fun b v e => ?_) I.bare
    · obtain ⟨o', es, ep, ho', r⟩ := hm
      exact ⟨o', es, ep, kk _ o' (fun hb => (hf _ hb).2.1 rfl) ho', r⟩
    · refine (I.hok b v e).stay (fun c' v' hc' q => kk c' v' ?_ q) (fun _ q => q) fun _ _ q => q
      rcases hc' with q' | q'
      · rw [q']; exact nit b v e
      · exact nit c' _ q'
  self := fun _ _ _ _ _ st h => wpAny_pyIter_zip st.1 h
noncomputable def iZipL (K : PySem.W.Frag) (ta : TA) : TI := fun σ H R => ta σ H fun vs H1 => ∃ a b, vs = [.ref a, .ref b] ∧ (∃ xs, SqL K H1 a xs) ∧ (∃ ys, SqL K H1 b ys) ∧ R (Itzl K a b) H1
section
variable {X : Cx} {K : PySem.W.Frag} {pos : Pos}
theorem zipLI (h0 : X.K = K) {elts : List Expr} {kt : Nat} {tp p : Pos} {a b : Expr} {ta : TA} (hg : Gl X "zip") (hm : X.mg "zip" = none) (hs : isStar a = false) (hs2 : isStar b = false) (ha : QA X [a, b] ta) :
    QI X (.Tuple elts kt tp) (.Call (.Name "zip" p) [a, b] [] pos) (iZipL K ta) := by
  subst h0
  constructor
  intro pins s σ H R I h
  refine Call_ (ld_blt I hg hm boot_zip (PyProof.Rows.callWith_type1 (thn (ha.h pos pins s σ H _ I h) fun us s1 ⟨vs, H1, I1, r1, q1⟩ => ?_) (starEach_plain hs) (by rw [starEach_plain hs2]; rfl)))
  obtain ⟨a', b', e, ⟨xs, hq1⟩, ⟨ys, hq2⟩, q⟩ := q1
  subst e
  obtain ⟨u1, u2, rfl, e1, e2⟩ := vals2 r1
  cases e1
  cases e2
  obtain ⟨its1, rv1, pl1, hz1⟩ := I1.list hq1
  obtain ⟨its2, rv2, pl2, hz2⟩ := I1.list hq2
  have la : a' < s1.heap.objs.size := by obtain ⟨o, ho, _⟩ := pl1.isList; exact Heap.lt_size ho
  have lb : b' < s1.heap.objs.size := by obtain ⟨o, ho, _⟩ := pl2.isList; exact Heap.lt_size ho
  refine call_zip_2 pl1.isList pl2.isList fun h1 hz hTI hTO hi1 hi2 _ hk => wpAny_pyIter_zip (s := { s1 with heap := h1 }) hz ?_
  have J : Inv X pins σ H1 { s1 with heap := h1 } := I1.kept (t' := s1.toks) hk
  have ne : ∀ i j : Nat, i ≠ j → s1.heap.objs.size + i ≠ s1.heap.objs.size + j := fun i j h e => h (Nat.add_left_cancel e)
  have na : ∀ i : Nat, a' ≠ s1.heap.objs.size + i := fun i => Nat.ne_of_lt (Nat.lt_of_lt_of_le la (Nat.le_add_right _ _))
  have nb : ∀ i : Nat, b' ≠ s1.heap.objs.size + i := fun i => Nat.ne_of_lt (Nat.lt_of_lt_of_le lb (Nat.le_add_right _ _))
  refine ⟨s1.heap.objs.size + 4, [s1.heap.objs.size + 4, s1.heap.objs.size + 2, s1.heap.objs.size + 3, s1.heap.objs.size + 0, s1.heap.objs.size + 1], _, Itzl X.K a' b', H1, rfl, J,
    turn_zipL _ _ _ _ _ a' b' ⟨ne 2 4 (by decide), ne 3 4 (by decide), ne 0 4 (by decide), ne 1 4 (by decide), ne 2 3 (by decide), ne 2 0 (by decide), ne 2 1 (by decide), ne 3 0 (by decide), ne 3 1 (by decide), ne 0 1 (by decide), na 4, na 3, na 0, na 1, nb 4, nb 3, nb 0, nb 1⟩,
    ⟨hz, hTI, ⟨_, _, hTO⟩, hi1, hi2⟩, fun b hb => ?_, q⟩
  have hb' : s1.heap.objs.size ≤ b := by
    simp only [List.mem_cons, List.not_mem_nil, or_false] at hb
    rcases hb with rfl | rfl | rfl | rfl | rfl <;> exact Nat.le_add_right _ _
  exact I1.fpOk hb' (I1.hok.fresh hb')

end
end L2
namespace L2
open PySem PySem.Spec PySem.Calls PyProof.Rows PyProof.V PySem.W
/-- a dict as it lies -/
noncomputable def Raw (h : Heap) (d : Addr) (es : Array DictEntry) (ep : Nat) : Prop := ∃ o, h.get? d = some o ∧ o.ExactDict ∧ o.data = .dict es ep
section
variable {prog : Program} {w : World} {A : Around} {E : Value → Shared → Prop} {s : Shared} {d it : Addr} {es : Array DictEntry} {ep i : Nat}
theorem Raw.ty (h : Raw s.heap d es ep) : s.TypeIs (.ref d) "dict" := ⟨h.choose, h.choose_spec.1, h.choose_spec.2.1.1⟩
theorem Raw.lt {h : Heap} (r : Raw h d es ep) : d < h.objs.size := Heap.lt_size r.choose_spec.1
theorem Raw.up {h h' : Heap} (r : Raw h d es ep) (e : ∀ o, h.get? d = some o → h'.get? d = some o) : Raw h' d es ep := ⟨r.choose, e _ r.choose_spec.1, r.choose_spec.2⟩
theorem raw_iter {Q : Value → Shared → Prop} (lo : (d == sysModules) = false) (r : Raw s.heap d es ep)
    (h : Q (.ref s.heap.objs.size) { s with heap := s.heap.push { cls := .type "dict_keyiterator", data := .fields #[.ref d, .int 0 0, .int es.size 0, .int ep 0] } }) : wpAny (model prog w) A (pyIter (.ref d)) Q E s := by
  have ty := r.ty
  obtain ⟨o, g, _, dt⟩ := r
  refine wpAny_pyIter_slot ty F.slot_dict_iter (wpAny_call_entry F.slot_dict_iter ty F.entry_dict_iter ?_ (F.args_dict_iter_1 _))
  unfold Builtin.«dict.__iter__» Builtin.Dict.dictSlotNone
  refine wpAny_bind (wpAny_bind (wpAny_notOrdered_dict ty ?_))
  show wpAny _ _ (pure (Value.ref d)) _ _ s
  refine wpAny_pure ?_
  show wpAny _ _ (Builtin.Dict.showsAll d >>= _) _ _ s
  unfold Builtin.Dict.showsAll
  rw [if_neg (by rw [lo]; exact Bool.false_ne_true)]
  refine wpAny_bind (wpAny_pure (wpAny_bind (wpAny_dictEntries g dt (wpAny_bind (wpAny_dictEpoch g dt ?_)))))
  refine wpAny_bind (wpAny_newObj_type (wpAny_pure ⟨_, rfl, "dict_keyiterator", _, ⟨_, Heap.get?_push_size _ rfl, rfl⟩, F.slot_dict_keyiterator_next.lookup, ?_⟩))
  simpa [rawInt] using h
theorem raw_item {Q : Option Value → Shared → Prop} (k : s.heap.IsKeyIter it d i es.size ep) (r : Raw s.heap d es ep) (hi : i < es.size)
    (h : ∀ h', h'.IsKeyIter it d (i + 1) es.size ep → Heap.SameBut it s.heap h' → Q (some es[i].key) { s with heap := h' }) : wpAny (model prog w) A (pyNext (.ref it)) Q E s := by
  obtain ⟨o, go, hc, hd⟩ := id k
  obtain ⟨od, gd, _, dd⟩ := r
  unfold pyNext
  refine wpAny_bind (wpAny_attempt (wpAny_callSpecial?_slot (name := Str.ofString "__next__") k.typeIs F.slot_dict_keyiterator_next (wpAny_call_entry F.slot_dict_keyiterator_next k.typeIs F.entry_dict_keyiterator_next ?_ (F.args_dict_keyiterator_next_1 _))))
  refine wpAny_bind (wpAny_pure (wpAny_bind (wpAny_bind ?_)))
  refine wpAny_bind (wpAny_typeNameOfWhole_keyiter k.typeIs (wpAny_pure (wpAny_bind (wpAny_fieldsOf go hd ?_))))
  simp only [show Builtin.Dict_items.ownsTuple "dict_keyiterator" = false by decide, Bool.false_eq_true, if_false]
  show wpAny _ _ (if (Value.ref d == Value.none) = true then _ else _) _ _ s
  rw [if_neg (by exact Bool.false_ne_true)]
  refine wpAny_bind (wpAny_pure (wpAny_bind (wpAny_dictEntries gd dd ?_)))
  rw [if_neg (by simp)]
  refine wpAny_bind (wpAny_pure (wpAny_bind (wpAny_dictEpoch gd dd ?_)))
  rw [if_neg (by simp)]
  refine wpAny_pure ?_
  simp only [show ¬ ((i : Int) < 0) from by omega, if_false, Int.toNat_natCast, Array.getElem?_eq_getElem hi]
  refine wpAny_bind (wpAny_bind (wpAny_typeNameOfWhole_keyiter k.typeIs (wpAny_pure (wpAny_bind (wpAny_isOneOf_keyiter k.typeIs ?_)))))
  show wpAny _ _ (setField (.ref it) 1 (rawInt ((i : Int) + 1)) >>= _) _ _ s
  refine wpAny_bind (wpAny_setField go hd (by simp) ?_)
  have k2 : (s.heap.update it (Obj.mapFields (·.setIfInBounds 1 (rawInt ((i : Int) + 1))))).IsKeyIter it d (i + 1) es.size ep :=
    ⟨_, Heap.get?_update_self _ go (Obj.isFreed_of_fields (Obj.data_mapFields hd _)), (Obj.cls_mapFields ..).trans hc, by rw [Obj.data_mapFields hd]; simp [rawInt]⟩
  refine wpAny_bind (wpAny_holding (wpAny_bind (wpAny_isOneOf_keyiter (s := { s with heap := s.heap.update it (Obj.mapFields (·.setIfInBounds 1 (rawInt ((i : Int) + 1)))) }) k2.typeIs ?_)))
  show wpAny _ _ (pure es[i].key) _ _ _
  exact wpAny_pure (wpAny_pure ⟨_, rfl, wpAny_pure (h _ k2 (Heap.SameBut.update ..))⟩)
theorem raw_end {Q : Option Value → Shared → Prop} (hh : A.handled = none) (k : s.heap.IsKeyIter it d i es.size ep) (r : Raw s.heap d es ep) (hi : es.size ≤ i)
    (h : ∀ h', Heap.ExtBut it s.heap h' → Q none { s with heap := h' }) : wpAny (model prog w) A (pyNext (.ref it)) Q E s := by
  obtain ⟨o, go, hc, hd⟩ := id k
  obtain ⟨od, gd, _, dd⟩ := r
  unfold pyNext
  refine wpAny_bind (wpAny_attempt (wpAny_callSpecial?_slot (name := Str.ofString "__next__") k.typeIs F.slot_dict_keyiterator_next (wpAny_call_entry F.slot_dict_keyiterator_next k.typeIs F.entry_dict_keyiterator_next ?_ (F.args_dict_keyiterator_next_1 _))))
  refine wpAny_bind (wpAny_pure (wpAny_bind (wpAny_bind ?_)))
  refine wpAny_bind (wpAny_typeNameOfWhole_keyiter k.typeIs (wpAny_pure (wpAny_bind (wpAny_fieldsOf go hd ?_))))
  simp only [show Builtin.Dict_items.ownsTuple "dict_keyiterator" = false by decide, Bool.false_eq_true, if_false]
  show wpAny _ _ (if (Value.ref d == Value.none) = true then _ else _) _ _ s
  rw [if_neg (by exact Bool.false_ne_true)]
  refine wpAny_bind (wpAny_pure (wpAny_bind (wpAny_dictEntries gd dd ?_)))
  rw [if_neg (by simp)]
  refine wpAny_bind (wpAny_pure (wpAny_bind (wpAny_dictEpoch gd dd ?_)))
  rw [if_neg (by simp)]
  refine wpAny_pure ?_
  simp only [show ¬ ((i : Int) < 0) from by omega, if_false, Int.toNat_natCast, Array.getElem?_eq_none hi]
  refine wpAny_bind (wpAny_bind (wpAny_typeNameOfWhole_keyiter k.typeIs (wpAny_pure ?_)))
  show wpAny _ _ (setField (.ref it) 0 .none >>= _) _ _ s
  refine wpAny_bind (wpAny_setField go hd (by simp) ?_)
  show wpAny _ _ (newExc (.type "StopIteration") [] >>= _) _ _ _
  refine wpAny_bind ?_
  simp only [newExc, newTuple]
  refine wpAny_bind (wpAny_newObj_type ?_ (by size_fits))
  refine wpAny_bind (m := firstArgMember _ _) (wpAny_of_eq (a := Value.none) (by first | rfl | (simp only [firstArgMember]; rfl)) ?_)
  refine wpAny_newObj_type ?_ (by size_fits)
  simp only [raiseNew]
  refine wpAny_bind (wpAny_handled ?_)
  rw [show A.in1.handled = none from hh]
  refine wpAny_bind (wpAny_pure (wpAny_throw ?_))
  refine wpAny_bind (wpAny_isInstance (T := "StopIteration") (b := true) ⟨_, Heap.get?_push_size _ rfl, rfl⟩ isSubtype_stop ?_)
  exact wpAny_pure (h _ (((Heap.SameBut.update ..).extBut.push _).push _))
theorem raw_src (lo : (d == sysModules) = false) : KdlSrc prog w "dict" d d es.size (fun i v => ∃ h : i < es.size, v = es[i].key) (fun h => Raw h d es ep) where
  type := fun _ r => r.ty
  there := fun _ r => ⟨r.lt, r.lt⟩
  keep := fun _ _ r hk => r.up fun o e => hk d (.inl rfl) o e
  notList := by decide
  notTuple := by decide
  hint := fun _ _ _ _ r hq => kdl_hint_dict r.ty hq
  iter := fun A s hh r => ⟨_, fun i h => h.IsKeyIter s.heap.objs.size d i es.size ep ∧ Raw h d es ep, (fun _ _ hq => raw_iter lo r hq), {
      sub := fun b hb => by simp at hb; simp [hb]
      frame := fun _ _ _ st hk => ⟨st.1.at fun o e => hk _ (by simp) o e, st.2.up fun o e => hk d (by simp) o e⟩
      item := fun i s' Q E hi st hQ => raw_item st.1 st.2 hi fun h' k' hs' => hQ _ h' s'.toks ⟨hi, rfl⟩ ⟨k', st.2.up fun o e => hs'.extBut d o (Nat.ne_of_lt r.lt) e⟩ fun b o hb e => hs'.extBut b o (fun h => hb (by simp [h])) e
      done := fun s' Q E st hQ => raw_end hh st.1 st.2 (Nat.le_refl _) fun h' he' => hQ h' s'.toks fun b o hb e => he' b o (fun h => hb (by simp [h])) e
      self := fun _ _ _ _ st hQ => wpAny_pyIter_keyiter st.1 hQ }, ⟨⟨_, Heap.get?_push_size _ rfl, rfl, rfl⟩, r.up fun o e => Heap.get?_push_of_some _ e⟩⟩
theorem src_collect {T : String} {r d : Addr} {n : Nat} {P : Nat → Value → Prop} {OK : Heap → Prop} {R : List Value → Shared → Prop} (K : KdlSrc prog w T r d n P OK) (hh : A.handled = none) (ok : OK s.heap) (hn : n ≤ sizeLine)
    (h : ∀ (h' : Heap) (tk : Nat) (acc : Array Value), (∀ b o, s.heap.get? b = some o → h'.get? b = some o) → s.heap.objs.size ≤ h'.objs.size → ItemsOf P acc n → R acc.toList { s with heap := h', toks := tk }) : wpAny (model prog w) A (collect (.ref r)) R E s := by
  have lt := K.there _ ok
  unfold collect
  refine wpAny_bind (wpAny_runValue (codeAny_builtin entry_proto_collect' ?_))
  rw [Around.under_plainId F.plain_proto_collect _]
  show wpAny _ A.in1 (newList [] >>= fun l => again (.builtin "list.__iadd__" ⟨[l, .ref r], []⟩)) _ _ s
  refine wpAny_bind (wpAny_newObj_type (wpAny_pure ⟨plainId_quiet F.plain_list_iadd _, codeAny_builtin entry_list_iadd' ?_⟩))
  rw [Around.under_plainId F.plain_list_iadd _]
  have gS : (s.heap.push { cls := .type "list", data := .seq ([] : List Value).toArray }).get? s.heap.objs.size = some { cls := .type "list", data := .seq #[] } := Heap.get?_push_size _ rfl
  show wpAny _ A.in1 (Builtin.List.listExtendWith (.ref s.heap.objs.size) (.ref r) (.ref s.heap.objs.size)) _ _ _
  have main := kdl_extend (A := A) (s := { s with heap := s.heap.push { cls := .type "list", data := .seq ([] : List Value).toArray } })
    (R := fun (q : Result) (s' : Shared) => ∃ (h' : Heap) (tk : Nat) (acc : Array Value) (c : Nat), q = .ok (.ret (.ref s.heap.objs.size)) ∧ s' = { s with heap := h', toks := tk } ∧ (∀ b o, s.heap.get? b = some o → h'.get? b = some o) ∧ h'.get? s.heap.objs.size = some { cls := .type "list", dict := none, data := .seq acc c, slots := #[] } ∧ ItemsOf P acc n)
    K hh (K.keep _ _ ok fun b _ o e => Heap.get?_push_of_some _ e) s.heap.objs.size (Nat.ne_of_gt lt.1) (Nat.ne_of_gt lt.2) (.ref s.heap.objs.size) 0 gS
    (fun h' tk acc c hk g' it => ⟨h', tk, acc, c, rfl, rfl, fun b o e => hk b o (Nat.ne_of_lt (Heap.lt_size e)) (Heap.get?_push_of_some _ e), g', it⟩) hn
  refine wpAny_mono main (fun fin s' x => ?_) fun e s' x => ?_
  · cases fin with
    | done f =>
      obtain ⟨h', tk, acc, c, e, rfl, hk, g', it⟩ := x
      cases e
      show wpAny _ A (load s.heap.objs.size >>= _) _ _ _
      exact wpAny_bind (wpAny_load g' (wpAny_pure (h h' tk acc hk (Nat.le_of_lt (Heap.lt_size g')) it)))
    | again c1 =>
      refine ⟨x.1, codeAny_mono x.2 fun q s2 y => ?_⟩
      obtain ⟨h', tk, acc, c, rfl, rfl, hk, g', it⟩ := y
      show wpAny _ A (load s.heap.objs.size >>= _) _ _ _
      exact wpAny_bind (wpAny_load g' (wpAny_pure (h h' tk acc hk (Nat.le_of_lt (Heap.lt_size g')) it)))
  · obtain ⟨_, _, _, _, e', _⟩ := x
    cases e'
theorem raw_collect {R : List Value → Shared → Prop} (lo : (d == sysModules) = false) (hh : A.handled = none) (r : Raw s.heap d es ep) (hn : es.size ≤ sizeLine)
    (h : ∀ (h' : Heap) (tk : Nat), (∀ b o, s.heap.get? b = some o → h'.get? b = some o) → s.heap.objs.size ≤ h'.objs.size → R (es.toList.map (·.key)) { s with heap := h', toks := tk }) : wpAny (model prog w) A (collect (.ref d)) R E s := by
  refine src_collect (raw_src lo) hh r hn fun h' tk acc hk sle hacc => ?_
  have e : acc.toList = es.toList.map (·.key) := by
    apply List.ext_getElem?
    intro j
    rw [List.getElem?_map, Array.getElem?_toList, Array.getElem?_toList]
    by_cases hj : j < es.size
    · have hj2 : j < acc.size := by rw [hacc.1]; exact hj
      obtain ⟨_, q⟩ := hacc.2 j acc[j] (by simp [hj2])
      rw [Array.getElem?_eq_getElem hj2, Array.getElem?_eq_getElem hj, q]
      rfl
    · rw [Array.getElem?_eq_none (by rw [hacc.1]; omega), Array.getElem?_eq_none (by omega)]
      rfl
  rw [e]
  exact h h' tk hk sle
end
end L2
namespace L2
open PySem PySem.Spec PyProof.Rows STab
section
variable {prog : Program} {w : World} {A : Around} {E : Value → Shared → Prop} {s : Shared} {S : Addr}
set_option maxHeartbeats 4000000 in
/-- sorted of what is collected so: tuples of texts of one length -/
theorem sorted_col {ps : List (Addr × List Str)} {m : Nat} {Q : Value → Shared → Prop} (hcol : ∀ (E1 : Value → Shared → Prop) (R : List Value → Shared → Prop), (∀ s1 vs, vs.Perm (ps.map fun p => Value.ref p.1) → (∀ b o, s.heap.get? b = some o → s1.heap.get? b = some o) → s1.gens = s.gens → s1.os = s.os → s.heap.objs.size ≤ s1.heap.objs.size → R vs s1) → wpAny (model prog w) A.in1 (collect (.ref S)) R E1 s) (tk : ∀ p ∈ ps, TupS prog w s.heap p.2 p.1) (hm : ∀ p ∈ ps, p.2.length = m) (m0 : m ≠ 0) (few : ps.length ≤ 1000)
    (hQ : ∀ (s' : Shared) (l : Addr) (ss : List (Addr × List Str)) (n : Nat), ss.Perm ps → ss.Pairwise (fun a b => lexB b.2 a.2 = false) → (∀ b o, s.heap.get? b = some o → s'.heap.get? b = some o) → s'.gens = s.gens → s'.os = s.os → s.heap.objs.size ≤ l → s'.heap.get? l = some { cls := .type "list", data := .seq (ss.map fun p => Value.ref p.1).toArray n } → Q (.ref l) s') :
    wpAny (model prog w) A (call (.builtin "sorted") [.ref S]) Q E s := by
  have key : ∀ p ∈ ps, kOf ps (.ref p.1) = p.2 := fun p hp => by
    show ((ps.find? fun q => q.1 == p.1).map (·.2)).getD [] = p.2
    cases hf : ps.find? fun q => q.1 == p.1 with
    | none =>
      have := List.find?_eq_none.mp hf p hp
      simp at this
    | some q =>
      have hq := List.mem_of_find?_eq_some hf
      have e : q.1 = p.1 := by have := List.find?_some hf; simpa using this
      show q.2 = p.2
      have t1 := tk q hq
      rw [e] at t1
      exact inr_inj _ _ (t1.inj (tk p hp))
  refine Calls.call_function_entry kind_sorted plain_sorted entry_sorted (args_sorted1 _) ?_
  unfold Builtin.«sorted»
  refine wpAny_bind (m := checkCount "sorted" 1 1 _) (wpAny_pure ?_)
  refine wpAny_bind (hcol _ _ fun s1 vs q2 k1 g1 o1 sle => ?_)
  have hl : vs.length = ps.length := by rw [q2.length_eq, List.length_map]
  have mem : ∀ v ∈ vs, ∃ p ∈ ps, v = Value.ref p.1 := fun v hv => by
    obtain ⟨p, hp, rfl⟩ := List.mem_map.mp (q2.mem_iff.mp hv)
    exact ⟨p, hp, rfl⟩
  refine wpAny_bind (wpAny_newList ?_ (by rw [sizeLine_eq]; omega))
  have gL : (s1.heap.push (seqObj "list" vs.toArray 0)).get? s1.heap.objs.size = some (seqObj "list" vs.toArray 0) := Heap.get?_push_size _ rfl
  have tk1 : ∀ p ∈ ps, ∀ h6 : Heap, (∀ b o, b ≠ s1.heap.objs.size → (s1.heap.push (seqObj "list" vs.toArray 0)).get? b = some o → h6.get? b = some o) → TupS prog w h6 p.2 p.1 := fun p hp h6 k6 => by
    refine tk_keep (tk p hp) fun o e => ?_
    have e1 := k1 _ _ e
    exact k6 _ _ (Nat.ne_of_lt (Heap.lt_size e1)) (Heap.get?_push_of_some _ e1)
  refine wpAny_bind (wpAny_holding (wpAny_call_entry slot_list_sort ⟨_, gL, rfl⟩ entry_list_sort (list_sort_big (s := { s1 with heap := s1.heap.push (seqObj "list" vs.toArray 0) }) (kd := tuples' true) (Nv := fun v => rankK (ps.map (·.2)) (kOf ps v)) gL (by omega) (fun h6 k6 hv2 Q6 hq6 => ?_) (fun h6 k6 => ?_) fun out p1 p2 => ⟨_, rfl, ?_⟩) (args_list_sort _)))
  · have tups : ∀ l : List Value, (∀ v ∈ l, ∃ p ∈ ps, v = Value.ref p.1) → ∃ fs : List Value, PySem.W.KatTups h6 l fs ∧ fs.length = l.length ∧ ∀ f ∈ fs, ∃ z t, f = Value.str z t := by
      intro l
      induction l with
      | nil => intro _; exact ⟨[], PySem.W.KatTups.nil, rfl, fun f hf => by cases hf⟩
      | cons v l ih =>
        intro hv
        obtain ⟨fs, f1, f2, f3⟩ := ih fun u hu => hv u (List.mem_cons_of_mem _ hu)
        obtain ⟨p, hp, rfl⟩ := hv v List.mem_cons_self
        obtain ⟨o', items, n', g', c', d', i'⟩ := tk1 p hp h6 k6
        have hs' := items_str i'
        have hne : p.2 ≠ [] := fun e => by have := hm p hp; rw [e] at this; exact m0 this.symm
        obtain ⟨z, zs, ez⟩ : ∃ z zs, p.2 = z :: zs := by
          cases hp2 : p.2 with
          | nil => exact absurd hp2 hne
          | cons z zs => exact ⟨z, zs, rfl⟩
        rw [ez] at hs'
        obtain ⟨t', vr, ev⟩ : ∃ t' vr, items.toList = Value.str z t' :: vr := by
          cases hit : items.toList with
          | nil => rw [hit] at hs'; cases hs'
          | cons a b =>
            rw [hit] at hs'
            cases hs' with
            | cons _ t' _ => exact ⟨t', b, rfl⟩
        have e0 : items[0]? = some (Value.str z t') := by
          have : items.toList[0]? = some (Value.str z t') := by rw [ev]; rfl
          simpa using this
        exact ⟨Value.str z t' :: fs, PySem.W.KatTups.cons g' c' d' e0 f1, by simp [f2], fun f hf => by
          rcases List.mem_cons.mp hf with e | e
          · exact ⟨z, t', e⟩
          · exact f3 f e⟩
    obtain ⟨fs, f1, f2, f3⟩ := tups vs mem
    refine PySem.W.kat_kind (T := .type "str") f1 (by omega) (fun f hf => ?_) (by decide) hq6
    obtain ⟨z, t', rfl⟩ := f3 f hf
    exact PySem.W.Looks.of_pure rfl
  · intro x y s' hx hy hs'
    subst hs'
    obtain ⟨p, hp, ep'⟩ := mem _ hx
    obtain ⟨q, hq, eq'⟩ := mem _ hy
    obtain ⟨x1, x2⟩ := x
    obtain ⟨y1, y2⟩ := y
    obtain rfl : x1 = Value.ref p.1 := ep'
    obtain rfl : y1 = Value.ref q.1 := eq'
    show wpAny (model prog w) A.in1.in1 (keyLt' (tuples' true) (Value.ref p.1) (Value.ref q.1)) (fun b s' => b = decide (rankK (ps.map (·.2)) (kOf ps (Value.ref p.1)) < rankK (ps.map (·.2)) (kOf ps (Value.ref q.1))) ∧ s' = { s1 with heap := h6 }) (fun _ _ => False) { s1 with heap := h6 }
    rw [key p hp, key q hq]
    refine lt_tups (s := { s1 with heap := h6 }) (tk1 p hp h6 k6) (tk1 q hq h6 k6) (by rw [hm p hp, hm q hq]) ⟨?_, rfl⟩
    exact rank_lt (List.mem_map.mpr ⟨p, hp, rfl⟩)
  · have p3 : out.Perm (ps.map fun p => Value.ref p.1) := p1.trans q2
    have oe : out = (out.map fun v => (aOf v, kOf ps v)).map fun p => Value.ref p.1 := by
      rw [List.map_map]
      refine (List.map_id out).symm.trans (List.map_congr_left fun v hv => ?_)
      obtain ⟨p, hp, rfl⟩ := List.mem_map.mp (p3.mem_iff.mp hv)
      rfl
    obtain ⟨n, gl⟩ : ∃ n, (sortedHeap (s1.heap.push (seqObj "list" vs.toArray 0)) s1.heap.objs.size vs out.toArray).get? s1.heap.objs.size = some (seqObj "list" out.toArray n) := sortedHeap_at gL
    refine wpAny_pure ⟨_, rfl, hQ _ s1.heap.objs.size (out.map fun v => (aOf v, kOf ps v)) n ?_ ?_ (fun b o' e => ?_) g1 o1 sle ?_⟩
    · have := p3.map fun v => (aOf v, kOf ps v)
      rw [List.map_map] at this
      refine this.trans ?_
      have : (ps.map ((fun v => (aOf v, kOf ps v)) ∘ fun p => Value.ref p.1)) = ps := by
        refine (List.map_congr_left fun p hp => ?_).trans (List.map_id ps)
        show (p.1, kOf ps (.ref p.1)) = p
        rw [key p hp]
      rw [this]
    · rw [List.pairwise_map]
      refine List.Pairwise.imp_of_mem (fun {u v} hu hv huv => ?_) p2
      obtain ⟨p, hp, rfl⟩ := List.mem_map.mp (p3.mem_iff.mp hu)
      obtain ⟨q, hq, rfl⟩ := List.mem_map.mp (p3.mem_iff.mp hv)
      show lexB (kOf ps (.ref q.1)) (kOf ps (.ref p.1)) = false
      have huv : rankK (ps.map (·.2)) (kOf ps (.ref p.1)) ≤ rankK (ps.map (·.2)) (kOf ps (.ref q.1)) := huv
      rw [key p hp, key q hq] at huv ⊢
      rw [rank_lt (ks := ps.map (·.2)) (List.mem_map.mpr ⟨q, hq, rfl⟩)]
      exact decide_eq_false (by omega)
    · have e1 := k1 b o' e
      have blt := Heap.lt_size e1
      show (sortedHeap _ _ _ _).get? b = _
      rw [sortedHeap_old (Nat.ne_of_lt blt) (by rw [Heap.size_push]; exact Nat.lt_succ_of_lt blt)]
      exact Heap.get?_push_of_some _ e1
    · have e2 : ((out.map fun v => (aOf v, kOf ps v)).map fun p => Value.ref p.1).toArray = out.toArray := congrArg List.toArray oe.symm
      have e3 : (seqObj "list" out.toArray n) = ({ cls := .type "list", data := .seq ((out.map fun v => (aOf v, kOf ps v)).map fun p => Value.ref p.1).toArray n } : Obj) := by
        rw [e2]
      exact gl.trans (congrArg some e3)
end
section
variable {X : Cx} {K : PySem.W.Frag}
theorem call_sortedD (hc : X.calm = true) : CallR X (.builtin "sorted") (fun xs H Q => ∃ a kvs ks m, xs = [.ref a] ∧ H a = some (.dT kvs) ∧ kvs.map (·.1) = ks.map (fun k : List Str => k.map Sum.inr) ∧ (∀ k ∈ ks, k.length = m) ∧ m ≠ 0 ∧ ks.length ≤ 1000 ∧
    ∀ (l : Addr) (ss : List (Addr × List Str)), H l = none → TupsAt H ss → (ss.map (·.2)).Perm ks → (ss.map (·.2)).Pairwise (fun a b => lexB b a = false) → Q (.ref l) (upd H l (.lst (ss.map fun p => V.ref p.1)))) := by
  intro pins s σ H xs us Q I r h
  obtain ⟨a, kvs, ks, m, rfl, ha, hks, hm, m0, few, q⟩ := h
  obtain ⟨u, rfl, ru⟩ := vals1 r
  cases ru
  obtain ⟨_, lo, xs, kt, o, es, ep, g, ex, dt, he, _, _⟩ := dt_of I.hok ha
  have aux : ∀ {kvs : List (List Key × V)} {xs : List (List Key × Addr × Value)}, KT H kvs xs → ∀ ks : List (List Str), kvs.map (·.1) = ks.map (fun k : List Str => k.map Sum.inr) → ∃ ps : List (Addr × List Str), ps.map (·.2) = ks ∧ (xs.map fun x => Value.ref x.2.1) = (ps.map fun p => Value.ref p.1) ∧ ∀ p ∈ ps, H p.1 = some (.tup (p.2.map V.str)) := by
    intro kvs xs kt
    induction kt with
    | nil =>
      intro ks hks
      cases ks with
      | nil => exact ⟨[], rfl, rfl, fun p hp => by cases hp⟩
      | cons _ _ => cases hks
    | @cons kv x kvs xs hx t ih =>
      intro ks hks
      cases ks with
      | nil => cases hks
      | cons k ks =>
        rw [List.map_cons, List.map_cons] at hks
        injection hks with h1 h2
        obtain ⟨ps, p1, p2, p3⟩ := ih ks h2
        refine ⟨(x.2.1, k) :: ps, by rw [List.map_cons, p1], by rw [List.map_cons, List.map_cons, p2], fun p hp => ?_⟩
        rcases List.mem_cons.mp hp with e | e
        · rw [e]
          have := hx.2.1
          rw [h1, List.map_map] at this
          exact this
        · exact p3 p e
  obtain ⟨ps, p1, p2, p3⟩ := aux kt ks hks
  have hps : ∀ p ∈ ps, p.2 ∈ ks := fun p hp => by rw [← p1]; exact List.mem_map.mpr ⟨p, hp, rfl⟩
  have ta : TupsAt H ps := fun p hp => ⟨fun e => m0 (by rw [← hm _ (hps p hp), e]; rfl), p3 p hp⟩
  have few2 : ps.length ≤ 1000 := by rw [← List.length_map (f := (·.2)), p1]; exact few
  have raw : Raw s.heap a es ep := ⟨o, g, ex, dt⟩
  have hes : es.toList.map (·.key) = ps.map fun p => Value.ref p.1 := by
    rw [he, List.map_map, ← p2]
    rfl
  have esz : es.size ≤ sizeLine := by
    have : (es.toList.map (·.key)).length = (ps.map fun p => Value.ref p.1).length := by rw [hes]
    rw [List.length_map, List.length_map, Array.length_toList] at this
    rw [sizeLine_eq]; omega
  refine sorted_col (fun E1 R hR => raw_collect lo (show X.A.in1.handled = none from I.ok.hd hc) raw esz fun h' tk k sle => ?_) (tups_in I ta) (fun p hp => hm _ (hps p hp)) m0 few2 fun s' l ss n q1 q2 k g o hle gl => ?_
  · rw [hes]
    exact hR _ _ (List.Perm.refl _) k rfl rfl sle
  · have hfree : H l = none := I.hok.fresh hle
    have J : Inv X pins σ H s' := I.keptS k g o
    refine ⟨.ref l, _, I.stoodS (o := .lst (ss.map fun p => V.ref p.1)) J hle ⟨?_, ss.map (fun p => Value.ref p.1), n, vals_of ss, gl⟩, rfl, q l ss hfree (fun p hp => ta p (q1.mem_iff.mp hp)) (by rw [← p1]; exact q1.map _) (by rw [List.pairwise_map]; exact q2)⟩
    rw [List.length_map, q1.length_eq, sizeLine_eq]
    omega
theorem k_sortedD (hc : X.calm = true) : CallQ X (.builtin "sorted") (fun xs H Q => ∃ a kvs ks m, xs = [.ref a] ∧ H a = some (.dT kvs) ∧ kvs.map (·.1) = ks.map (fun k : List Str => k.map Sum.inr) ∧ (∀ k ∈ ks, k.length = m) ∧ m ≠ 0 ∧ ks.length ≤ 1000 ∧
    ∀ (l : Addr) (ss : List (Addr × List Str)), H l = none → TupsAt H ss → (ss.map (·.2)).Perm ks → (ss.map (·.2)).Pairwise (fun a b => lexB b a = false) → Q (.ref l) (upd H l (.lst (ss.map fun p => V.ref p.1)))) := ⟨call_sortedD hc⟩
end
end L2
namespace L2
open PySem PySem.Spec PyProof.Rows
section
variable {X : Cx}
theorem dnewTE {pos : Pos} : QE X (.Dict [] [] pos) tDNewT := ⟨pe_dnewT⟩
theorem dputS {k : Nat} {o i value : Expr} {pos pos' : Pos} {td ty tv : TE} (hr : Room k X.A) (hs : swapsWith value (some (.Subscript o i pos')) pos.line X.env = pure false) (hv : QE X value tv) (ho : QE X o td) (hi : QE X i ty) : QS X (.Assign [.Subscript o i pos'] value pos) (sDPut td ty tv) :=
  ⟨ps_dput (by have := hr.units; omega) ho.h hi.h hv.h hs⟩
/-- a key more, or the same keys -/
theorem putK_keys {κ : Type} [DecidableEq κ] (kvs : List (κ × V)) (k : κ) (v : V) : (putK kvs k v).map (·.1) = if k ∈ kvs.map (·.1) then kvs.map (·.1) else kvs.map (·.1) ++ [k] := by
  unfold putK
  have e : (kvs.any fun kv => decide (kv.1 = k)) = true ↔ k ∈ kvs.map (·.1) := by
    rw [List.any_eq_true, List.mem_map]
    constructor
    · rintro ⟨kv, h1, h2⟩
      exact ⟨kv, h1, of_decide_eq_true h2⟩
    · rintro ⟨kv, h1, h2⟩
      exact ⟨kv, h1, decide_eq_true h2⟩
  by_cases h : k ∈ kvs.map (·.1)
  · rw [if_pos (e.mpr h), if_pos h, List.map_map]
    refine List.map_congr_left fun kv _ => ?_
    show (if kv.1 = k then (kv.1, v) else kv).1 = kv.1
    split <;> rfl
  · rw [if_neg (fun z => h (e.mp z)), if_neg h, List.map_append]
    rfl
end
end L2
namespace Cut
open PySem L2
theorem sorted_one {α : Type} (lt : α → α → Bool) (total : ∀ x y, lt x y = false → x ≠ y → lt y x = true) : ∀ {l m : List α}, l.Pairwise (fun a b => lt b a = false) → m.Pairwise (fun a b => lt b a = false) → l.Nodup → m.Nodup → (∀ x, x ∈ l ↔ x ∈ m) → l = m
  | [], [], _, _, _, _, _ => rfl
  | [], y :: m, _, _, _, _, h => absurd ((h y).mpr List.mem_cons_self) (by simp)
  | x :: l, [], _, _, _, _, h => absurd ((h x).mp List.mem_cons_self) (by simp)
  | x :: l, y :: m, hl, hm, nl, nm, h => by
    obtain ⟨hl1, hl2⟩ := List.pairwise_cons.mp hl
    obtain ⟨hm1, hm2⟩ := List.pairwise_cons.mp hm
    obtain ⟨nl1, nl2⟩ := List.nodup_cons.mp nl
    obtain ⟨nm1, nm2⟩ := List.nodup_cons.mp nm
    have e : x = y := Classical.byContradiction fun hne => by
      have hx : x ∈ m := (List.mem_cons.mp ((h x).mp List.mem_cons_self)).resolve_left hne
      have hy : y ∈ l := (List.mem_cons.mp ((h y).mpr List.mem_cons_self)).resolve_left (Ne.symm hne)
      have q1 := hm1 x hx
      have q2 := hl1 y hy
      rw [total x y q1 hne] at q2
      cases q2
    subst e
    rw [sorted_one lt total hl2 hm2 nl2 nm2 fun z => ?_]
    constructor
    · intro hz
      rcases List.mem_cons.mp ((h z).mp (List.mem_cons_of_mem _ hz)) with e | e
      · rw [e] at hz; exact absurd hz nl1
      · exact e
    · intro hz
      rcases List.mem_cons.mp ((h z).mpr (List.mem_cons_of_mem _ hz)) with e | e
      · rw [e] at hz; exact absurd hz nm1
      · exact e
noncomputable def Let (rows : List Str) (c : Nat) : Prop := c ≠ 46 ∧ ∃ r ∈ rows, c ∈ r.cps.toList
noncomputable def Meet (rows : List Str) (a b : Nat) : Prop := a ≠ 46 ∧ a ≠ b ∧ ∃ (i j : Nat) (r r' : Str), rows[i]? = some r ∧ rows[i + 1]? = some r' ∧ r.cps[j]? = some a ∧ r'.cps[j]? = some b
theorem signs_iff {rows : List Str} {c : Nat} : c ∈ signsOf rows ↔ Let rows c := by
  unfold signsOf Let
  rw [List.mem_filter, join0, List.mem_flatten, decide_eq_true_eq]
  constructor
  · rintro ⟨⟨l, hl, hc⟩, hne⟩
    obtain ⟨r, hr, rfl⟩ := List.mem_map.mp hl
    exact ⟨hne, r, hr, hc⟩
  · rintro ⟨hne, r, hr, hc⟩
    exact ⟨⟨_, List.mem_map.mpr ⟨r, hr, rfl⟩, hc⟩, hne⟩
theorem sgn_inj {a b : Nat} (h : sgn a = sgn b) : a = b := by
  have : (#[a] : Array Nat) = #[b] := by injection h
  simpa using this
/-- alike: the same letters, the same meetings -/
noncomputable def Alike (rows rows' : List Str) : Prop := (∀ c, Let rows c ↔ Let rows' c) ∧ ∀ a b, Meet rows a b ↔ Meet rows' a b
end Cut
namespace K04
open PySem L2 Cut
local macro_rules | `(tactic| walk_at "rd") => `(tactic| simp only [tSeq, tNext, tIfS, tRet, tRetN, tDrop, tAsg, gName, tTest, tB, tAnd, tOr, tNot, tAndV, tOrV, tNotV, tIf, tOp, tUn, tC, tVar, tCB, tCall, tNil, tCons, tTup, tLst, tChain, tBM, tBM0, tSl, tPart, tNoPart, tYes, rI, rI0, rU, rEqA, rNeA, rEq, rNe, rAddA, rAddS, rMulA, rCat, rRep, rIx, rIxL, rIxT, rIxS, rInA, rInS, rNotInA, rNotInS, rEqB, rNeB, rEqL, rNeL, rEqT, rNeT, rMulS, rSplit, rClear, rExtend, rSetL, gSub, gTup, gCons, gNil, iEnum, iZipS, iZipL, rIn, rSlA, rSlL, rSlT, rSlS, rAppend, rJoin, LenV, TruV, iRng1, iRng2, iAny, scal, tyV,
  List.getElem?_cons_zero, List.getElem?_cons_succ, List.set_cons_zero, List.set_cons_succ, Option.some.injEq, V.int.injEq, V.str.injEq, V.bl.injEq, V.ref.injEq, V.ty.injEq, List.cons.injEq, reduceCtorEq, and_true, true_and, and_false, false_and, or_false, false_or, or_true, true_or, exists_false, exists_eq_left', exists_eq_left, exists_eq_right, exists_eq_right', exists_and_left, exists_and_right, exists_eq, List.cons_append, List.nil_append, List.append_nil, exists_const, and_assoc, Int.zero_add, Bool.not_true, Bool.not_false, Bool.false_eq_true, if_true, if_false, eq_self])

noncomputable def top (i : Nat) : Stmt := PySem.Challenge.pw_digbook_k04_letters_and_meetings.main.body.getD i (.Pass ⟨0, 0, 0, 0⟩)
noncomputable abbrev s_rows_of : Stmt := top 8
theorem sc_rows_of : FnScope ["text", "rows", "number", "row"] ["text"] (defScope s_rows_of) := ⟨rfl, rfl, rfl, by decide +kernel, rfl, by decide +kernel, by decide +kernel⟩
noncomputable abbrev s_is_row : Stmt := top 9
theorem sc_is_row : FnScope ["row"] ["row"] (defScope s_is_row) := ⟨rfl, rfl, rfl, by decide +kernel, rfl, by decide +kernel, by decide +kernel⟩
noncomputable abbrev s_lies_beneath : Stmt := top 10
theorem sc_lies_beneath : FnScope ["row", "above"] ["row", "above"] (defScope s_lies_beneath) := ⟨rfl, rfl, rfl, by decide +kernel, rfl, by decide +kernel, by decide +kernel⟩
noncomputable abbrev s_letters_in : Stmt := top 11
theorem sc_letters_in : FnScope ["rows"] ["rows"] (defScope s_letters_in) := ⟨rfl, rfl, rfl, by decide +kernel, rfl, by decide +kernel, by decide +kernel⟩
noncomputable abbrev s_letters : Stmt := top 12
theorem sc_letters : FnScope ["text"] ["text"] (defScope s_letters) := ⟨rfl, rfl, rfl, by decide +kernel, rfl, by decide +kernel, by decide +kernel⟩
noncomputable abbrev s_meetings : Stmt := top 13
theorem sc_meetings : FnScope ["text", "rows", "pairs", "above", "row"] ["text"] (defScope s_meetings) := ⟨rfl, rfl, rfl, by decide +kernel, rfl, by decide +kernel, by decide +kernel⟩
noncomputable abbrev s_meetings_between : Stmt := top 14
theorem sc_meetings_between : FnScope ["above", "row"] ["above", "row"] (defScope s_meetings_between) := ⟨rfl, rfl, rfl, by decide +kernel, rfl, by decide +kernel, by decide +kernel⟩
noncomputable abbrev s_law_cell_at : Stmt := top 16
theorem sc_law_cell_at : FnScope ["_law_script", "_law_k"] ["_law_script", "_law_k"] (defScope s_law_cell_at) := ⟨rfl, rfl, rfl, by decide +kernel, rfl, by decide +kernel, by decide +kernel⟩
noncomputable abbrev s_law_mixed : Stmt := top 17
theorem sc_law_mixed : FnScope ["_law_cell", "_law_k", "_law_one", "_law_two"] ["_law_cell", "_law_k"] (defScope s_law_mixed) := ⟨rfl, rfl, rfl, by decide +kernel, rfl, by decide +kernel, by decide +kernel⟩
noncomputable abbrev s_law_row : Stmt := top 18
theorem sc_law_row : FnScope ["_law_script", "_law_many", "_law_found", "_law_number", "_law_k"] ["_law_script", "_law_many"] (defScope s_law_row) := ⟨rfl, rfl, rfl, by decide +kernel, rfl, by decide +kernel, by decide +kernel⟩
noncomputable abbrev s_law_signs : Stmt := top 19
theorem sc_law_signs : FnScope ["_law_number", "_law_wild"] ["_law_number", "_law_wild"] (defScope s_law_signs) := ⟨rfl, rfl, rfl, by decide +kernel, rfl, by decide +kernel, by decide +kernel⟩
noncomputable abbrev s_law_drawn : Stmt := top 20
theorem sc_law_drawn : FnScope ["_law_row_here", "_law_wide", "_law_high", "_law_rows", "_law_tops", "_law_k", "_law_signs_here", "_law_j", "_law_number"] ["_law_row_here"] (defScope s_law_drawn) := ⟨rfl, rfl, rfl, by decide +kernel, rfl, by decide +kernel, by decide +kernel⟩
noncomputable abbrev s_law_letters : Stmt := top 21
theorem sc_law_letters : FnScope ["_law_rows", "_law_found", "_law_letter"] ["_law_rows"] (defScope s_law_letters) := ⟨rfl, rfl, rfl, by decide +kernel, rfl, by decide +kernel, by decide +kernel⟩
noncomputable abbrev s_law_meetings : Stmt := top 22
theorem sc_law_meetings : FnScope ["_law_rows", "_law_found", "_law_k", "_law_at"] ["_law_rows"] (defScope s_law_meetings) := ⟨rfl, rfl, rfl, by decide +kernel, rfl, by decide +kernel, by decide +kernel⟩
noncomputable abbrev s_law_right : Stmt := top 23
theorem sc_law_right : FnScope ["_law_rows", "_law_beside", "_law_text", "_law_some", "_law_pairs"] ["_law_rows", "_law_beside"] (defScope s_law_right) := ⟨rfl, rfl, rfl, by decide +kernel, rfl, by decide +kernel, by decide +kernel⟩
noncomputable abbrev s_law : Stmt := top 24
theorem sc_law : FnScope ["_law_script", "_law_rows", "_law_other"] ["_law_script"] (defScope s_law) := ⟨rfl, rfl, rfl, by decide +kernel, rfl, by decide +kernel, by decide +kernel⟩
noncomputable def sp_cell_at (K : PySem.W.Frag) : Sp := fun vs H Q _ => ∃ (a : Addr) (ns : List Int) (k : Int), vs = [.ref a, .int k] ∧ SqL K H a (ns.map V.int) ∧ 0 ≤ k ∧ Q (.int (ns.getD k.toNat 0)) H
noncomputable def sp_mixed : Sp := fun vs H Q _ => ∃ c k : Int, vs = [.int c, .int k] ∧ 0 ≤ k ∧ k ≤ 1000 ∧ ∀ r : Int, 0 ≤ r → r < 2147483563 → Q (.int r) H
noncomputable def sp_row (K : PySem.W.Frag) : Sp := fun vs H Q _ => ∃ (a : Addr) (ns : List Int) (m : Int), vs = [.ref a, .int m] ∧ SqL K H a (ns.map V.int) ∧ ns.length ≤ 1000 ∧ 0 ≤ m ∧ m ≤ 100 ∧ ∀ l H' (xs : List Int), Same H H' → H l = none → H' l = some (.lst (xs.map V.int)) → xs.length = m.toNat → (∀ x ∈ xs, 0 ≤ x ∧ x < 9973) → Q (.ref l) H'
noncomputable def sp_signs : Sp := fun vs H Q _ => ∃ n wd : Int, vs = [.int n, .int wd] ∧ 0 ≤ n ∧ 0 ≤ wd ∧ ∀ c, isLet c = true → Q (.str ⟨#[c]⟩) H
noncomputable def sp_drawn (K : PySem.W.Frag) : Sp := fun vs H Q _ => ∃ (a : Addr) (xs : List Int), vs = [.ref a] ∧ SqL K H a (xs.map V.int) ∧ 40 ≤ xs.length ∧ (∀ x ∈ xs, 0 ≤ x ∧ x < 9973) ∧ ∀ l H' rows, Same H H' → H l = none → H' l = some (.lst (rows.map V.str)) → IsCut rows → Q (.ref l) H'
structure Txt (K : PySem.W.Frag) (mg : Str → Option Value) : Prop where
  b_len : mg "len" = none
  b_enumerate : mg "enumerate" = none
  b_str : mg "str" = none
  b_isinstance : mg "isinstance" = none
  b_all : mg "all" = none
  b_zip : mg "zip" = none
  b_set : mg "set" = none
  b_sorted : mg "sorted" = none
  b_range : mg "range" = none
  b_max : mg "max" = none
  b_int : mg "int" = none
  b_tuple : mg "tuple" = none
  b_list : mg "list" = none
  g_MOST_ROWS : Gv mg "MOST_ROWS" (.int 40)
  g_MOST_SIGNS : Gv mg "MOST_SIGNS" (.int 40)
  g_AIR : Gv mg "AIR" (.str ".")
  g_LETTERS : Gv mg "LETTERS" (.str "abcdefghijklmnopqrstuvwxyz")
  d_rows_of : DefOk K mg "rows_of" s_rows_of ["text"]
  d_is_row : DefOk K mg "is_row" s_is_row ["row"]
  d_lies_beneath : DefOk K mg "lies_beneath" s_lies_beneath ["row", "above"]
  d_letters_in : DefOk K mg "letters_in" s_letters_in ["rows"]
  d_letters : DefOk K mg "letters" s_letters ["text"]
  d_meetings : DefOk K mg "meetings" s_meetings ["text"]
  d_meetings_between : DefOk K mg "meetings_between" s_meetings_between ["above", "row"]
  d_law_cell_at : DefOk K mg "_law_cell_at" s_law_cell_at ["_law_script", "_law_k"]
  d_law_mixed : DefOk K mg "_law_mixed" s_law_mixed ["_law_cell", "_law_k"]
  d_law_row : DefOk K mg "_law_row" s_law_row ["_law_script", "_law_many"]
  d_law_signs : DefOk K mg "_law_signs" s_law_signs ["_law_number", "_law_wild"]
  d_law_drawn : DefOk K mg "_law_drawn" s_law_drawn ["_law_row_here"]
  d_law_letters : DefOk K mg "_law_letters" s_law_letters ["_law_rows"]
  d_law_meetings : DefOk K mg "_law_meetings" s_law_meetings ["_law_rows"]
  d_law_right : DefOk K mg "_law_right" s_law_right ["_law_rows", "_law_beside"]
section
variable {P : Program} {w : World} {K : PySem.W.Frag} {mg : Str → Option Value} {base : Heap}
theorem big_line {n : Nat} (h : n ≤ 5000) : n ≤ sizeLine := Nat.le_trans h (by decide)
theorem big_lt {n : Nat} (h : n ≤ 5000) : n < sizeLine := Nat.lt_of_le_of_lt h (by decide)
theorem Same.upd {H : Hp} {p : Addr} {o : HO} (h : H p = none) : Same H (upd H p o) := fun b u e => by rw [upd_ne (ne_of_none e h)]; exact e
/-- a new thing changed again -/
theorem Same.set {H H' : Hp} {p : Addr} {o : HO} (sm : Same H H') (h : H p = none) : Same H (L2.upd H' p o) := fun b u e => by rw [upd_ne (ne_of_none e h)]; exact sm b u e
theorem atI_some {α : Type} (xs : List α) {i : Int} (h0 : 0 ≤ i) (h1 : i < (xs.length : Int)) : ∃ c, atI xs i = some c ∧ c ∈ xs := by
  obtain ⟨j, rfl⟩ := Int.eq_ofNat_of_zero_le h0
  have hj : j < xs.length := by omega
  exact ⟨xs[j], atI_nat (by simp [hj]), List.getElem_mem hj⟩
theorem atI_ints (xs : List Int) {i : Int} (h0 : 0 ≤ i) (h1 : i < (xs.length : Int)) : ∃ c, atI (xs.map V.int) i = some (V.int c) ∧ c ∈ xs := by
  obtain ⟨j, rfl⟩ := Int.eq_ofNat_of_zero_le h0
  have hj : j < xs.length := by omega
  exact ⟨xs[j], atI_nat (by simp [hj]), List.getElem_mem hj⟩
theorem letters_len : (letters.cps.toList.length : Int) = 26 := by decide +kernel
set_option maxHeartbeats 4000000 in
theorem C_law_cell_at (T : Txt K mg) : Cal P w K mg base 1 "_law_cell_at" ["_law_script", "_law_k"] (sp_cell_at K) := by
  refine T.d_law_cell_at.cal sc_law_cell_at (fun vs H Q E h => ?_) (fun f cdv A outer s H vs Q E hr h => ?_)
  · obtain ⟨a, ns, k, rfl, _⟩ := h
    rfl
  · obtain ⟨a, ns, k, rfl, hs, h0, q⟩ := h
    refine ⟨_, (QSs.h (ssCons (ifS (cmpT q_lt rfl (vn 1 rfl (Or.inl rfl) rfl rfl) (cbE (k_len (K := K) rfl) rfl T.b_len PySem.boot_len rfl rfl rfl (paE rfl (vn 0 rfl (Or.inl rfl) rfl rfl) aNil)))
      (ssOne (retS (ixLE (K := K) rfl (fun _ _ => rfl) (vn 0 rfl (Or.inl rfl) rfl rfl) (vn 1 rfl (Or.inl rfl) rfl rfl))))
      ssNil)
      (ssOne (retS eInt)))), ?_⟩
    show tSeq _ _ _ [some (.ref a), some (.int k)] H
    walk_at "rd"
    refine ⟨_, .inl ⟨_, hs, rfl⟩, ite2 (fun hk => ?_) fun hk => ?_⟩
    · have hk := of_decide_eq_true hk
      rw [List.length_map] at hk
      refine ⟨_, hs, .int (ns.getD k.toNat 0), ?_, q⟩
      obtain ⟨j, rfl⟩ := Int.eq_ofNat_of_zero_le h0
      have hj : j < ns.length := by omega
      exact atI_nat (by simp [hj])
    · have hk : ¬ k < ((ns.map V.int).length : Int) := by simpa using hk
      rw [List.length_map] at hk
      have e : ns.getD k.toNat 0 = 0 := by
        rw [List.getD_eq_getElem?_getD, List.getElem?_eq_none (by omega)]
        rfl
      rw [e] at q
      exact q
set_option maxHeartbeats 4000000 in
theorem C_law_mixed (T : Txt K mg) : Cal P w K mg base 1 "_law_mixed" ["_law_cell", "_law_k"] sp_mixed := by
  refine T.d_law_mixed.cal sc_law_mixed (fun vs H Q E h => ?_) (fun f cdv A outer s H vs Q E hr h => ?_)
  · obtain ⟨c, k, rfl, _⟩ := h
    rfl
  · obtain ⟨c, k, rfl, h0, h1, kk⟩ := h
    refine ⟨_, (QSs.h (ssCons (setE 2 sc_law_mixed.nd rfl (Or.inl rfl) (Or.inr rfl) rfl (opE q_mod (opE q_mulI (opE q_addI (opE q_addI (opE q_mod (vn 0 rfl (Or.inl rfl) rfl rfl) eInt) (opE q_mulI eInt (vn 1 rfl (Or.inl rfl) rfl rfl))) eInt) eInt) eInt))
      (ssCons (setE 3 sc_law_mixed.nd rfl (Or.inl rfl) (Or.inr rfl) rfl (opE q_mod (opE q_addI (opE q_mulA (vn 2 rfl (Or.inl rfl) rfl rfl) (vn 2 rfl (Or.inl rfl) rfl rfl)) (opE q_mulI (opE q_mulI eInt (vn 1 rfl (Or.inl rfl) rfl rfl)) (vn 1 rfl (Or.inl rfl) rfl rfl))) eInt))
      (ssOne (retS (opE q_mod (opE q_mulA (vn 3 rfl (Or.inl rfl) rfl rfl) (vn 3 rfl (Or.inl rfl) rfl rfl)) eInt)))))), ?_⟩
    show tSeq _ _ _ [some (.int c), some (.int k), none, none] H
    refine seq_split fun nx hn => ?_
    walk_at "rd"
    refine ⟨by decide, .inl ⟨by decide, by decide⟩, .inr ⟨by decide, by decide⟩, by decide, hn _ _ ?_⟩
    have b1 := Int.emod_nonneg ((c % 1000003 + 7919 * k + 1) * 48271) (by decide : (2147483629 : Int) ≠ 0)
    have b2 := Int.emod_lt_of_pos ((c % 1000003 + 7919 * k + 1) * 48271) (by decide : (0 : Int) < 2147483629)
    generalize (c % 1000003 + 7919 * k + 1) * 48271 % 2147483629 = one at b1 b2
    refine seq_split fun nx hn => ?_
    walk_at "rd"
    refine ⟨.inl ⟨by omega, by omega⟩, .inl ⟨by decide, by decide⟩, .inr ⟨by omega, by omega⟩, by decide, hn _ _ ?_⟩
    have b3 := Int.emod_nonneg (one * one + 104729 * k * k) (by decide : (2147483587 : Int) ≠ 0)
    have b4 := Int.emod_lt_of_pos (one * one + 104729 * k * k) (by decide : (0 : Int) < 2147483587)
    generalize (one * one + 104729 * k * k) % 2147483587 = two at b3 b4
    walk_at "rd"
    exact ⟨.inl ⟨by omega, by omega⟩, by decide, kk _ (Int.emod_nonneg _ (by decide)) (Int.emod_lt_of_pos _ (by decide))⟩
set_option maxHeartbeats 4000000 in
theorem C_law_signs (T : Txt K mg) : Cal P w K mg base 1 "_law_signs" ["_law_number", "_law_wild"] sp_signs := by
  refine T.d_law_signs.cal sc_law_signs (fun vs H Q E h => ?_) (fun f cdv A outer s H vs Q E hr h => ?_)
  · obtain ⟨c, k, rfl, _⟩ := h
    rfl
  · obtain ⟨n, wd, rfl, h0, h1, kk⟩ := h
    refine ⟨_, (QSs.h (ssCons (ifS (cmpT q_eqA rfl (opE q_mod (vn 0 rfl (Or.inl rfl) rfl rfl) eInt) eInt)
      (ssOne (retS (ixSE (fun _ _ => rfl) eStr (opE q_mod (opE q_fdiv (vn 0 rfl (Or.inl rfl) rfl rfl) eInt) eInt))))
      ssNil)
      (ssOne (retS (ixSE (fun _ _ => rfl) eStr (opE q_mod (opE q_addI (opE q_mod (opE q_fdiv (vn 0 rfl (Or.inl rfl) rfl rfl) eInt) eInt) (vn 1 rfl (Or.inl rfl) rfl rfl)) eInt)))))), ?_⟩
    show tSeq _ _ _ [some (.int n), some (.int wd)] H
    walk_at "rd"
    refine ⟨by decide, ite2 (fun _ => ?_) fun _ => ?_⟩
    · obtain ⟨c, hc, hm⟩ := atI_some letters.cps.toList (i := n / 5 % 26) (by omega) (by rw [letters_len]; omega)
      exact ⟨⟨by decide, by decide⟩, by decide, (show 26 ≤ sizeLine by decide), c, hc, kk c (decide_eq_true hm)⟩
    · obtain ⟨c, hc, hm⟩ := atI_some letters.cps.toList (i := (n / 5 % 4 + wd) % 26) (by omega) (by rw [letters_len]; omega)
      exact ⟨⟨by decide, by decide⟩, by decide, by decide, (show 26 ≤ sizeLine by decide), c, hc, kk c (decide_eq_true hm)⟩
end

section
variable {P : Program} {w : World} {K : PySem.W.Frag} {mg : Str → Option Value} {base : Heap}
set_option maxHeartbeats 4000000 in
theorem C_law_row (T : Txt K mg) : Cal P w K mg base 2 "_law_row" ["_law_script", "_law_many"] (sp_row K) := by
  have C_law_cell_at : Cal P w K mg base 1 "_law_cell_at" ["_law_script", "_law_k"] (sp_cell_at K) := C_law_cell_at T
  have C_law_mixed : Cal P w K mg base 1 "_law_mixed" ["_law_cell", "_law_k"] sp_mixed := C_law_mixed T
  refine T.d_law_row.cal sc_law_row (fun vs H Q E h => ?_) (fun f cdv A outer s H vs Q E hr h => ?_)
  · obtain ⟨a, ns, m, rfl, _⟩ := h
    rfl
  · obtain ⟨a, ns, m, rfl, hs, hn, h0, h1, q⟩ := h
    refine ⟨_, (QSs.h (ssCons (setE 2 sc_law_row.nd rfl (Or.inl rfl) (Or.inr rfl) rfl (lstE aNil))
      (ssCons (setE 3 sc_law_row.nd rfl (Or.inl rfl) (Or.inr rfl) rfl eInt)
      (ssCons (forE PassesOwn.never rfl rfl (rng1E rfl T.b_range rfl (paE rfl (vn 1 rfl (Or.inl rfl) rfl rfl) aNil)) (nameG 4 sc_law_row.nd rfl (Or.inl rfl) (Or.inr rfl))
      (ssCons (ifS (cmpT q_eqA rfl (opE q_mod (vn 4 rfl (Or.inl rfl) rfl rfl) eInt) eInt)
        (ssOne (setE 3 sc_law_row.nd rfl (Or.inl rfl) (Or.inr rfl) rfl (calE C_law_cell_at hr rfl rfl rfl rfl (paE rfl (vn 0 rfl (Or.inl rfl) rfl rfl) (paE rfl (opE q_addI eInt (opE q_fdiv (vn 4 rfl (Or.inl rfl) rfl rfl) eInt)) aNil)))))
        ssNil)
        (ssOne (ifS (wT (andW (cmpT q_eqA rfl (opE q_mod (calE C_law_cell_at hr rfl rfl rfl rfl (paE rfl (vn 0 rfl (Or.inl rfl) rfl rfl) (paE rfl eInt aNil))) eInt) eInt) (and1W (cmpT q_gt rfl (vn 3 rfl (Or.inl rfl) rfl rfl) eInt))))
        (ssCons (exprE rfl (bmE (K := K) rfl PySem.F.plainAttrs_list PySem.F.slot_list_append PySem.F.type_list_append m_append rfl rfl rfl rfl (vn 2 rfl (Or.inl rfl) rfl rfl) (paE rfl (opE q_mod (vn 3 rfl (Or.inl rfl) rfl rfl) eInt) aNil)))
          (ssOne (setE 3 sc_law_row.nd rfl (Or.inl rfl) (Or.inr rfl) rfl (opE q_fdiv (vn 3 rfl (Or.inl rfl) rfl rfl) eInt))))
        (ssOne (exprE rfl (bmE (K := K) rfl PySem.F.plainAttrs_list PySem.F.slot_list_append PySem.F.type_list_append m_append rfl rfl rfl rfl (vn 2 rfl (Or.inl rfl) rfl rfl) (paE rfl (opE q_mod (calE C_law_mixed hr rfl rfl rfl rfl (paE rfl (calE C_law_cell_at hr rfl rfl rfl rfl (paE rfl (vn 0 rfl (Or.inl rfl) rfl rfl) (paE rfl (opE q_addI eInt (opE q_mod (vn 4 rfl (Or.inl rfl) rfl rfl) (cbE (k_max rfl) rfl T.b_max PyProof.Rows.boot_max rfl rfl rfl (paE rfl eInt (paE rfl (opE q_sub (cbE (k_len (K := K) rfl) rfl T.b_len PySem.boot_len rfl rfl rfl (paE rfl (vn 0 rfl (Or.inl rfl) rfl rfl) aNil)) eInt) aNil))))) aNil))) (paE rfl (vn 4 rfl (Or.inl rfl) rfl rfl) aNil))) eInt) aNil))))))))
      (ssOne (retS (vn 2 rfl (Or.inl rfl) rfl rfl))))))), ?_⟩
    show tSeq _ _ _ [some (.ref a), some (.int m), none, none, none] H
    refine seq_split fun n1 c1 => ?_
    walk_at "rd"
    refine ⟨Nat.zero_le _, fun l hl => c1 _ _ (seq_split fun n2 c2 => ?_)⟩
    walk_at "rd"
    refine c2 _ _ (seq_split fun n3 c3 => for_split fun Kont hK => ?_)
    walk_at "rd"
    refine ⟨by omega, by omega, hK _ _ (for_range (fun i σ H' => ∃ (n : Int) (o : Option V) (xs : List Int), σ = [some (.ref a), some (.int m), some (.ref l), some (.int n), o] ∧ Same H H' ∧ H' l = some (.lst (xs.map V.int)) ∧ xs.length = i ∧ ∀ x ∈ xs, 0 ≤ x ∧ x < 9973)
      ⟨0, none, [], rfl, Same.upd hl, upd_same, rfl, fun _ h => nomatch h⟩ ?_ ?_)⟩
    · rintro i σ H' hi ⟨n, o, xs, rfl, sm, hl', hx, hall⟩
      have hi' : i < 100 := by omega
      have hs' := sm.seq hs
      show tSeq _ _ _ [some (.ref a), some (.int m), some (.ref l), some (.int n), some (.int (0 + i))] H'
      rw [Int.zero_add]
      refine seq_split fun nx hnx => ?_
      have go : ∀ n : Int, nx [some (.ref a), some (.int m), some (.ref l), some (.int n), some (.int i)] H' := by
        intro n
        refine hnx _ _ ?_
        have put : ∀ v : Int, 0 ≤ v → v < 9973 → Same H (upd H' l (.lst (xs.map V.int ++ [.int v]))) ∧ ∃ xs2 : List Int, upd H' l (.lst (xs.map V.int ++ [.int v])) l = some (.lst (xs2.map V.int)) ∧ xs2.length = i + 1 ∧ ∀ x ∈ xs2, 0 ≤ x ∧ x < 9973 := fun v v0 v1 =>
          ⟨Same.set sm hl, xs ++ [v], by rw [upd_same, List.map_append]; rfl, by rw [List.length_append, hx]; rfl, fun y hy => by
            rcases List.mem_append.mp hy with q | q
            · exact hall y q
            · rw [List.mem_singleton.mp q]; exact ⟨v0, v1⟩⟩
        have len : (xs.map V.int).length < sizeLine := by rw [List.length_map, hx]; exact big_lt (by omega)
        have mx : ∀ x : Nat, (0 : Int) < (if (x : Int) - 1 > 1 then (x : Int) - 1 else 1) := fun x => by split <;> omega
        walk_at "rd"
        refine ⟨a, ns, 0, rfl, hs', by decide, _, rfl, by decide, ite2 (fun _ => ite2 (fun hp => ?_) fun _ => ?_) fun _ => ?_⟩
        · refine ⟨.inl ⟨_, SqL.of hl'⟩, by decide, _, hl', len, ⟨by decide, by decide⟩, ?_⟩
          exact put _ (by omega) (by omega)
        · refine ⟨.inl ⟨_, SqL.of hl'⟩, _, .inl ⟨_, hs', rfl⟩, mx _, a, ns, _, rfl, hs', ?_, ns.getD _ 0, i, rfl, by omega, by omega, fun r r0 r1 => ⟨r, rfl, by decide, _, hl', len, put _ (by omega) (by omega)⟩⟩
          have := Int.emod_nonneg (i : Int) (Int.ne_of_gt (mx (ns.map V.int).length))
          omega
        · refine ⟨.inl ⟨_, SqL.of hl'⟩, _, .inl ⟨_, hs', rfl⟩, mx _, a, ns, _, rfl, hs', ?_, ns.getD _ 0, i, rfl, by omega, by omega, fun r r0 r1 => ⟨r, rfl, by decide, _, hl', len, put _ (by omega) (by omega)⟩⟩
          have := Int.emod_nonneg (i : Int) (Int.ne_of_gt (mx (ns.map V.int).length))
          omega
      walk_at "rd"
      refine ⟨by decide, ite2 (fun _ => ?_) fun _ => go n⟩
      exact ⟨⟨by decide, by decide⟩, a, ns, _, rfl, hs', by omega, go _⟩
    · rintro σ H' ⟨n, o, xs, rfl, sm, hl', hx, hall⟩
      refine c3 _ _ ?_
      walk_at "rd"
      exact q l H' xs sm hl hl' hx hall
end

section
variable {P : Program} {w : World} {K : PySem.W.Frag} {mg : Str → Option Value} {base : Heap}
set_option maxHeartbeats 4000000 in
theorem C_law_drawn (T : Txt K mg) : Cal P w K mg base 2 "_law_drawn" ["_law_row_here"] (sp_drawn K) := by
  have C_law_signs : Cal P w K mg base 1 "_law_signs" ["_law_number", "_law_wild"] sp_signs := C_law_signs T
  refine T.d_law_drawn.cal sc_law_drawn (fun vs H Q E h => ?_) (fun f cdv A outer s H vs Q E hr h => ?_)
  · obtain ⟨a, xs, rfl, _⟩ := h
    rfl
  · obtain ⟨a, xs, rfl, hs, hx, hb, q⟩ := h
    have get : ∀ i : Int, 0 ≤ i → i < 40 → ∃ c, atI (xs.map V.int) i = some (V.int c) ∧ 0 ≤ c ∧ c < 9973 := fun i h0 h1 => by
      obtain ⟨c, e, hm⟩ := atI_ints xs h0 (by omega)
      exact ⟨c, e, hb c hm⟩
    obtain ⟨c0, g0, l0, u0⟩ := get 0 (by decide) (by decide)
    obtain ⟨c1, g1, l1, u1⟩ := get 1 (by decide) (by decide)
    refine ⟨_, (QSs.h (ssCons (setE 1 sc_law_drawn.nd rfl (Or.inl rfl) (Or.inr rfl) rfl (opE q_addI eInt (opE q_mod (ixLE (K := K) rfl (fun _ _ => rfl) (vn 0 rfl (Or.inr (Or.inl rfl)) rfl rfl) eInt) eInt)))
      (ssCons (setE 2 sc_law_drawn.nd rfl (Or.inr rfl) (Or.inl rfl) rfl (opE q_addI eInt (opE q_mod (opE q_fdiv (ixLE (K := K) rfl (fun _ _ => rfl) (vn 0 rfl (Or.inr (Or.inl rfl)) rfl rfl) eInt) eInt) eInt)))
      (ssCons (ifS (cmpT q_eqA rfl (opE q_mod (opE q_fdiv (ixLE (K := K) rfl (fun _ _ => rfl) (vn 0 rfl (Or.inr (Or.inl rfl)) rfl rfl) eInt) eInt) eInt) eInt)
      (ssCons (setE 1 sc_law_drawn.nd rfl (Or.inl rfl) (Or.inr rfl) rfl (opE q_addI eInt (opE q_mod (ixLE (K := K) rfl (fun _ _ => rfl) (vn 0 rfl (Or.inr (Or.inl rfl)) rfl rfl) eInt) eInt)))
        (ssOne (setE 2 sc_law_drawn.nd rfl (Or.inr rfl) (Or.inl rfl) rfl (opE q_addI eInt (opE q_mod (opE q_fdiv (ixLE (K := K) rfl (fun _ _ => rfl) (vn 0 rfl (Or.inr (Or.inl rfl)) rfl rfl) eInt) eInt) eInt)))))
      ssNil)
      (ssCons (setE 3 sc_law_drawn.nd rfl (Or.inl rfl) (Or.inr rfl) rfl (lstE aNil))
      (ssCons (setCompE 4 sc_law_drawn.nd rfl (Or.inl rfl) (Or.inr rfl) rfl (CompScope.of (show compOk (defScope s_law_drawn) ["_law_row_here", "_law_wide", "_law_high", "_law_rows", "_law_tops", "_law_k", "_law_signs_here", "_law_j", "_law_number"] _ ["_law_k", "_law_row_here", "_law_high"] [(1, 0), (2, 2)] = true from by decide +kernel)) rfl rfl (rng1E rfl T.b_range rfl (paE rfl (vn 1 rfl (Or.inl rfl) rfl rfl) aNil)) (fun _ _ _ => (nameG 0 (show (["_law_k", "_law_row_here", "_law_high"] : List Str).Nodup from by decide +kernel) rfl (Or.inl rfl) (Or.inr rfl))) (fun _ _ _ => noTs) (fun _ _ _ => (cbE (k_max rfl) rfl T.b_max PyProof.Rows.boot_max rfl rfl rfl (paE rfl eInt (paE rfl (opE q_sub (opE q_mod (ixLE (K := K) rfl (fun _ _ => rfl) (vn 1 rfl (Or.inr (Or.inl rfl)) rfl rfl) (opE q_addI eInt (opE q_mod (vn 0 rfl (Or.inl rfl) rfl rfl) eInt))) (opE q_addI (vn 2 rfl (Or.inr (Or.inl rfl)) rfl rfl) eInt)) eInt) aNil)))))
      (ssCons (asgE rfl rfl rfl eInt (subG rfl (vn 4 rfl (Or.inl rfl) rfl rfl) (opE q_mod (opE q_fdiv (ixLE (K := K) rfl (fun _ _ => rfl) (vn 0 rfl (Or.inr (Or.inl rfl)) rfl rfl) eInt) eInt) (vn 1 rfl (Or.inl rfl) rfl rfl))))
      (ssCons (forE PassesOwn.never rfl rfl (rng1E rfl T.b_range rfl (paE rfl (vn 2 rfl (Or.inr (Or.inl rfl)) rfl rfl) aNil)) (nameG 5 sc_law_drawn.nd rfl (Or.inl rfl) (Or.inr rfl))
      (ssCons (setE 6 sc_law_drawn.nd rfl (Or.inl rfl) (Or.inr rfl) rfl (lstE aNil))
        (ssCons (forE PassesOwn.never rfl rfl (rng1E rfl T.b_range rfl (paE rfl (vn 1 rfl (Or.inl rfl) rfl rfl) aNil)) (nameG 7 sc_law_drawn.nd rfl (Or.inl rfl) (Or.inr rfl))
        (ssCons (setE 8 sc_law_drawn.nd rfl (Or.inl rfl) (Or.inr rfl) rfl (opE q_addI (opE q_addI (opE q_fdiv (ixLE (K := K) rfl (fun _ _ => rfl) (vn 0 rfl (Or.inr (Or.inl rfl)) rfl rfl) (opE q_addI eInt (opE q_mod (opE q_addI (vn 7 rfl (Or.inl rfl) rfl rfl) (opE q_mulI eInt (vn 5 rfl (Or.inl rfl) rfl rfl))) eInt))) (opE q_addI eInt (opE q_mod (vn 5 rfl (Or.inl rfl) rfl rfl) eInt))) (vn 5 rfl (Or.inl rfl) rfl rfl)) (vn 7 rfl (Or.inl rfl) rfl rfl)))
          (ssOne (exprE rfl (bmE (K := K) rfl PySem.F.plainAttrs_list PySem.F.slot_list_append PySem.F.type_list_append m_append rfl rfl rfl rfl (vn 6 rfl (Or.inl rfl) rfl rfl) (paE rfl (ixLE (K := K) rfl (fun _ _ => rfl) (lstE (paE rfl eStr (paE rfl (calE C_law_signs hr rfl rfl rfl rfl (paE rfl (vn 8 rfl (Or.inl rfl) rfl rfl) (paE rfl (opE q_mod (ixLE (K := K) rfl (fun _ _ => rfl) (vn 0 rfl (Or.inr (Or.inl rfl)) rfl rfl) eInt) eInt) aNil))) aNil))) (ctE k_int rfl T.b_int PyProof.Rows.boot_int rfl rfl rfl (paE rfl (cmpE q_ge rfl (vn 5 rfl (Or.inl rfl) rfl rfl) (ixLE (K := K) rfl (fun _ _ => rfl) (vn 4 rfl (Or.inl rfl) rfl rfl) (vn 7 rfl (Or.inl rfl) rfl rfl))) aNil))) aNil))))))
        (ssOne (exprE rfl (bmE (K := K) rfl PySem.F.plainAttrs_list PySem.F.slot_list_append PySem.F.type_list_append m_append rfl rfl rfl rfl (vn 3 rfl (Or.inl rfl) rfl rfl) (paE rfl (bmE (K := K) rfl PySem.F.plainAttrs_str PySem.F.slot_str_join PySem.F.type_str_join (m_join (K := K) rfl) rfl rfl rfl rfl eStr (paE rfl (vn 6 rfl (Or.inl rfl) rfl rfl) aNil)) aNil)))))))
      (ssOne (retS (vn 3 rfl (Or.inl rfl) rfl rfl))))))))))), ?_⟩
    show tSeq _ _ _ [some (.ref a), none, none, none, none, none, none, none, none] H
    refine seq_split fun n1 k1 => ?_
    walk_at "rd"
    refine ⟨_, hs, _, g0, c0, rfl, by decide, k1 _ _ (seq_split fun n2 k2 => ?_)⟩
    walk_at "rd"
    refine ⟨_, hs, _, g0, c0, rfl, ⟨by decide, by decide⟩, by decide, k2 _ _ (seq_split fun n3 k3 => ?_)⟩
    have main : ∀ wd hi : Int, 1 ≤ wd → wd ≤ 40 → 1 ≤ hi → hi ≤ 40 → n3 [some (.ref a), some (.int wd), some (.int hi), none, none, none, none, none, none] H := by
      intro wd hi w0 w1 i0 i1
      refine k3 _ _ (seq_split fun n4 k4 => ?_)
      walk_at "rd"
      refine ⟨Nat.zero_le _, fun R hR => k4 _ _ (seq_split fun n5 k5 => ?_)⟩
      have smR : Same H (upd H R (.lst [])) := Same.upd hR
      have hsR := smR.seq hs
      refine comp_split fun Kont hK => ?_
      walk_at "rd"
      refine ⟨by omega, by omega, hK _ _ fun D hD => ?_⟩
      have hDH : H D = none := smR.free hD
      refine comp_by (n := wd.toNat) (D := D) (fun i ys σ H' => (∃ o, σ = [o, some (.ref a), some (.int hi)]) ∧ Same (upd H R (.lst [])) H' ∧ H' D = some (.lst ys) ∧ ∃ ts : List Int, ys = ts.map V.int ∧ ts.length = i ∧ ∀ t ∈ ts, 0 ≤ t)
        ⟨⟨none, rfl⟩, Same.upd hD, upd_same, [], rfl, rfl, fun _ h => nomatch h⟩ (fun i _ _ _ hi _ => hi) (fun _ _ _ _ => Nat.le_refl _) ?_ ?_
      · rintro i ys σ H' hi' ⟨⟨o, rfl⟩, sm, hD', ts, rfl, hts, htp⟩ x H2 ⟨e2, e3⟩
        subst e2 e3
        obtain ⟨cv, gv, lv, uv⟩ := get (2 + (i : Int) % 38) (by omega) (by omega)
        walk_at "rd"
        refine ⟨by decide, ⟨_, (smR.trans sm).seq hs, _, gv, cv, rfl, by omega, CK.mk hi' hD' (by rw [List.length_map, hts]; exact big_lt (by omega)) ⟨⟨_, rfl⟩, Same.set sm hD, upd_same, ts ++ [if cv % (hi + 3) - 2 > 0 then cv % (hi + 3) - 2 else 0], ?_, by rw [List.length_append, hts]; rfl, fun t ht => ?_⟩⟩⟩
        · rw [List.map_append]; rfl
        · rcases List.mem_append.mp ht with q | q
          · exact htp t q
          · rw [List.mem_singleton.mp q]
            split <;> omega
      · rintro ys σ H' ⟨_, sm, hD', ts, rfl, hts, htp⟩
        refine k5 _ _ (seq_split fun n6 k6 => ?_)
        have smH := smR.trans sm
        walk_at "rd"
        have hp0 : 0 ≤ c0 / 216 % wd := Int.emod_nonneg _ (by omega)
        have hp1 : c0 / 216 % wd < wd := Int.emod_lt_of_pos _ (by omega)
        obtain ⟨p, hp⟩ := Int.eq_ofNat_of_zero_le hp0
        have hpl : p < ts.length := by omega
        have hix : ixN (ts.map V.int).length (c0 / 216 % wd) = some p := by
          rw [hp]
          unfold ixN
          rw [if_pos (by omega), if_pos (by rw [List.length_map]; omega)]
          rfl
        refine ⟨_, smH.seq hs, _, g0, c0, rfl, ⟨by decide, by decide⟩, by omega, _, hD', p, hix, k6 _ _ ?_⟩
        rw [show (V.int 0) = V.int (0 : Int) from rfl, ← List.map_set]
        have hlen : (ts.set p 0).length = wd.toNat := by rw [List.length_set]; exact hts
        have hts0 : (ts.set p 0)[p]? = some 0 := by simp [hpl]
        generalize ts.set p 0 = tt at hlen hts0
        have RD : R ≠ D := fun e => by rw [← e, upd_same] at hD; cases hD
        have h6R : upd H' D (.lst (tt.map V.int)) R = some (.lst (([] : List Str).map V.str)) := by rw [upd_ne RD]; exact sm R _ upd_same
        have sm6 : Same H (upd H' D (.lst (tt.map V.int))) := Same.set smH hDH
        have h6D : upd H' D (.lst (tt.map V.int)) D = some (.lst (tt.map V.int)) := upd_same
        generalize upd H' D (.lst (tt.map V.int)) = H6 at h6R sm6 h6D
        refine seq_split fun n7 k7 => for_split fun Kont hK => ?_
        walk_at "rd"
        refine ⟨by omega, by omega, hK _ _ (for_range (fun i σ H' => ∃ (o5 o6 o7 o8 : Option V) (rows : List Str), σ = [some (.ref a), some (.int wd), some (.int hi), some (.ref R), some (.ref D), o5, o6, o7, o8] ∧ Same H H' ∧ H' D = some (.lst (tt.map V.int)) ∧ H' R = some (.lst (rows.map V.str)) ∧ rows.length = i ∧
            ∀ (r : Nat) (z : Str), rows[r]? = some z → z.cps.size = wd.toNat ∧ ∀ (j c : Nat), z.cps[j]? = some c → ∃ t, tt[j]? = some t ∧ ((((r : Int) < t) ∧ c = 46) ∨ (¬ ((r : Int) < t) ∧ isLet c = true)))
          ⟨none, none, none, none, [], rfl, sm6, h6D, h6R, rfl, fun r z e => by simp at e⟩ ?_ ?_)⟩
        · rintro k σ H7 hk ⟨o5, o6, o7, o8, rows, rfl, sm7, h7D, h7R, hrl, hrows⟩
          show tSeq _ _ _ [some (.ref a), some (.int wd), some (.int hi), some (.ref R), some (.ref D), some (.int (0 + k)), o6, o7, o8] H7
          rw [Int.zero_add]
          refine seq_split fun n8 k8 => ?_
          walk_at "rd"
          refine ⟨Nat.zero_le _, fun L hL => k8 _ _ (seq_split fun n9 k9 => for_split fun Kont hK => ?_)⟩
          walk_at "rd"
          refine ⟨by omega, by omega, hK _ _ (for_range (fun j σ H' => ∃ (o7 o8 : Option V) (cs : List Nat), σ = [some (.ref a), some (.int wd), some (.int hi), some (.ref R), some (.ref D), some (.int k), some (.ref L), o7, o8] ∧ Same H7 H' ∧ H' L = some (.lst ((cs.map sgn).map V.str)) ∧ cs.length = j ∧
              ∀ (j' c : Nat), cs[j']? = some c → ∃ t, tt[j']? = some t ∧ ((((k : Int) < t) ∧ c = 46) ∨ (¬ ((k : Int) < t) ∧ isLet c = true)))
            ⟨_, _, [], rfl, Same.upd hL, upd_same, rfl, fun r z e => by simp at e⟩ ?_ ?_)⟩
          · rintro j σ H8 hj ⟨o7, o8, cs, rfl, sm8, h8L, hcl, hcs⟩
            show tSeq _ _ _ [some (.ref a), some (.int wd), some (.int hi), some (.ref R), some (.ref D), some (.int k), some (.ref L), some (.int (0 + j)), o8] H8
            rw [Int.zero_add]
            have hs8 := (sm7.trans sm8).seq hs
            obtain ⟨cv, gv, lv, uv⟩ := get (2 + ((j : Int) + 5 * k) % 38) (by omega) (by omega)
            have hjt : j < tt.length := by omega
            have gt : atI (tt.map V.int) (j : Int) = some (V.int tt[j]) := atI_nat (by simp [hjt])
            have nn : 0 ≤ cv / (7 + (k : Int) % 3) := Int.ediv_nonneg lv (by omega)
            refine seq_op fun D1 k10 _ => ?_
            walk_at "rd"
            refine ⟨.inl ⟨by decide, by decide⟩, by decide, _, hs8, _, gv, by decide, cv, rfl, ⟨by omega, by omega⟩, k10 _ _ (ends_op fun D2 k11 _ => ?_)⟩
            walk_at "rd"
            have dn : ∀ (c : Nat) (p : Addr) (HH : Hp), Same H7 HH → HH L = some (.lst ((cs.map sgn).map V.str)) → ((((k : Int) < tt[j]) ∧ c = 46) ∨ (¬ ((k : Int) < tt[j]) ∧ isLet c = true)) →
                D2.nx [some (.ref a), some (.int wd), some (.int hi), some (.ref R), some (.ref D), some (.int k), some (.ref L), some (.int j), some (.int (cv / (7 + (k : Int) % 3) + k + j))] (upd HH L (.lst ((cs.map sgn).map V.str ++ [.str ⟨#[c]⟩]))) := fun c p HH smh hHL hc =>
              k11 _ _ ⟨_, _, cs ++ [c], rfl, Same.set smh hL, by rw [upd_same, List.map_append, List.map_append]; rfl, by rw [List.length_append, hcl]; rfl, fun j' c' e => by
                by_cases hj' : j' < cs.length
                · rw [List.getElem?_append_left hj'] at e
                  exact hcs j' c' e
                · have ej : j' = j := by
                    have := (List.getElem?_eq_some_iff.mp e).1
                    rw [List.length_append] at this
                    simp only [List.length_cons, List.length_nil] at this
                    omega
                  subst ej
                  rw [List.getElem?_append_right (by omega), hcl, Nat.sub_self] at e
                  cases e
                  exact ⟨tt[j'], by simp [hjt], hc⟩⟩
            refine ⟨.inl ⟨_, SqL.of h8L⟩, _, hs8, _, g1, c1, rfl, by decide, _, _, rfl, by omega, by omega, fun c hc => ⟨(show 2 ≤ sizeLine by decide), fun p hp => ?_⟩⟩
            have smp : Same H8 (upd H8 p (.lst [.str (Str.ofString "."), .str ⟨#[c]⟩])) := Same.upd hp
            have pl : (((cs.map sgn).map V.str)).length < sizeLine := by rw [List.length_map, List.length_map, hcl]; exact big_lt (by omega)
            refine ⟨_, SqL.of (smp D _ (sm8 D _ h7D)), _, gt, tt[j], rfl, _, SqL.of upd_same, ?_⟩
            by_cases ht : tt[j] ≤ (k : Int)
            · rw [decide_eq_true ht]
              exact ⟨.str ⟨#[c]⟩, rfl, _, smp L _ h8L, pl, dn c p _ (sm8.trans smp) (smp L _ h8L) (.inr ⟨by omega, hc⟩)⟩
            · rw [decide_eq_false ht]
              exact ⟨.str (Str.ofString "."), rfl, _, smp L _ h8L, pl, dn 46 p _ (sm8.trans smp) (smp L _ h8L) (.inl ⟨by omega, rfl⟩)⟩
          · rintro σ H8 ⟨o7, o8, cs, rfl, sm8, h8L, hcl, hcs⟩
            refine k9 _ _ ?_
            walk_at "rd"
            have sm78 := sm7.trans sm8
            refine ⟨.inl ⟨_, SqL.of (sm8 R _ h7R)⟩, cs.map sgn, SqL.of h8L, ?_, _, sm8 R _ h7R, by rw [List.length_map, hrl]; exact big_lt (by omega), Same.set sm78 hR, ?_, rows ++ [⟨cs.toArray⟩], ?_, by rw [List.length_append, hrl]; rfl, ?_⟩
            · rw [sgn_sum, List.length_map, show (Str.ofString "").length = 0 from rfl]
              omega
            · rw [upd_ne (Ne.symm RD)]
              exact sm8 D _ h7D
            · rw [upd_same, List.map_append, show Txt.join (Str.ofString "") (cs.map sgn) = Str.join (Str.ofString "") (cs.map sgn) from StrLaws.glued_eq_join _ _, join_signs]
              rfl
            · intro r z e
              by_cases hr' : r < rows.length
              · rw [List.getElem?_append_left hr'] at e
                exact hrows r z e
              · have er : r = k := by
                  have := (List.getElem?_eq_some_iff.mp e).1
                  rw [List.length_append] at this
                  simp only [List.length_cons, List.length_nil] at this
                  omega
                subst er
                rw [List.getElem?_append_right (by omega), hrl, Nat.sub_self] at e
                cases e
                refine ⟨by simp [hcl], fun j c hc => hcs j c (by simpa using hc)⟩
        · rintro σ H7 ⟨o5, o6, o7, o8, rows, rfl, sm7, h7D, h7R, hrl, hrows⟩
          refine k7 _ _ ?_
          walk_at "rd"
          exact q R H7 rows sm7 hR h7R (cut_of (hi := hi.toNat) (wd := wd.toNat) (p := p) (by omega) (by omega) (by omega) (by omega) hrl (by omega) hts0 hrows)
    walk_at "rd"
    refine ⟨_, hs, _, g0, c0, rfl, ⟨by decide, by decide⟩, by decide, ite2 (fun _ => ?_) fun _ => ?_⟩
    · refine ⟨_, hs, _, g1, c1, rfl, by decide, ⟨_, hs, _, g1, c1, rfl, ⟨by decide, by decide⟩, by decide, ?_⟩⟩
      exact main _ _ (by omega) (by omega) (by omega) (by omega)
    · exact main _ _ (by omega) (by omega) (by omega) (by omega)
end

noncomputable def sp_is_row : Sp := fun vs H Q _ => ∃ z : Str, vs = [.str z] ∧ z.length ≤ 1000 ∧ ∀ H', Same H H' → Q (.bl (rowB z)) H'
noncomputable def sp_beneath : Sp := fun vs H Q _ => ∃ row above : Str, vs = [.str row, .str above] ∧ row.length ≤ 1000 ∧ above.length ≤ 1000 ∧ ∀ H', Same H H' → Q (.bl (beneathB row above)) H'
noncomputable def sp_letters_in (K : PySem.W.Frag) : Sp := fun vs H Q _ => ∃ (a : Addr) (rows : List Str), vs = [.ref a] ∧ SqL K H a (rows.map V.str) ∧ (rows.map (·.length)).sum ≤ 3000 ∧ (∀ r ∈ rows, r.cps.toList.all okc = true) ∧
  ∀ l H' ss, Same H H' → H l = none → H' l = some (.lst (ss.map V.str)) → ss.Perm (firstsOf ((signsOf rows).map sgn)) → PyProof.Rows.sortedS ss = true → Q (.ref l) H'
/-- of a cut -/
noncomputable def sp_rows_of : Sp := fun vs H Q _ => ∃ rows : List Str, vs = [.str (Str.join nl rows)] ∧ IsCut rows ∧ ∀ l H', Same H H' → H l = none → H' l = some (.lst (rows.map V.str)) → Q (.ref l) H'
section
variable {P : Program} {w : World} {K : PySem.W.Frag} {mg : Str → Option Value} {base : Heap}
theorem signs_all (z : Str) (i : Nat) (c : Nat) (h : z.cps[i]? = some c) : (z.cps.toList.take i ++ [c]) = z.cps.toList.take (i + 1) := by
  have h' : z.cps.toList[i]? = some c := by simpa using h
  obtain ⟨hlt, e⟩ := List.getElem?_eq_some_iff.mp h'
  rw [List.take_succ_eq_append_getElem hlt, e]
theorem sgn_eq (c d : Nat) : ((⟨#[c]⟩ : Str) = ⟨#[d]⟩) ↔ c = d := by
  constructor
  · intro h
    have : (#[c] : Array Nat) = #[d] := by injection h
    simpa using this
  · intro h; rw [h]
theorem dot_eq (c : Nat) : ((⟨#[c]⟩ : Str) = Str.ofString ".") ↔ c = 46 := sgn_eq c 46
set_option maxHeartbeats 4000000 in
theorem C_is_row (T : Txt K mg) : Cal P w K mg base 1 "is_row" ["row"] sp_is_row := by
  refine T.d_is_row.cal sc_is_row (fun vs H Q E h => ?_) (fun f cdv A outer s H vs Q E hr h => ?_)
  · obtain ⟨z, rfl, _⟩ := h
    rfl
  · obtain ⟨z, rfl, hz, k⟩ := h
    refine ⟨_, (QSs.h (ssOne (retS (andV (chainE q_le q_le rfl eInt (cbE (k_len (K := K) rfl) rfl T.b_len PySem.boot_len rfl rfl rfl (paE rfl (vn 0 rfl (Or.inl rfl) rfl rfl) aNil)) (gvE T.g_MOST_SIGNS rfl rfl)) (oneV (cbE (k_all (K := K) rfl rfl) rfl T.b_all PyProof.Rows.boot_all rfl rfl rfl (paE rfl (compE (CompScope.of (show compOk (defScope s_is_row) ["row"] _ ["sign"] [] = true from by decide +kernel)) rfl rfl (anyI (K := K) rfl (vn 0 rfl (Or.inl rfl) rfl rfl)) (fun _ _ _ => (nameG 0 (show (["sign"] : List Str).Nodup from by decide +kernel) rfl (Or.inl rfl) (Or.inr rfl))) (fun _ _ _ => noTs) (fun _ _ _ => (orV (cmpE q_eqA rfl (vn 0 rfl (Or.inl rfl) rfl rfl) (gvE T.g_AIR rfl rfl)) (oneV (cmpE (q_in (K := K) rfl) rfl (vn 0 rfl (Or.inl rfl) rfl rfl) (gvE T.g_LETTERS rfl rfl)))))) aNil))))))), ?_⟩
    show tRet _ _ [some (.str z)] H
    walk_at "rd"
    refine ⟨big_line (by omega), ite2 (fun h1 => ite2 (fun h8 => ?_) fun h8 => ?_) fun h1 => ?_⟩
    · refine comp_split fun Kont hK => ?_
      walk_at "rd"
      refine hK _ _ fun D hD => ?_
      refine comp_by (J := Its z) (n := z.cps.size) (D := D) (fun i ys σ H' => (∃ o, σ = [o]) ∧ Same H H' ∧ H' D = some (.lst ys) ∧ ys = (z.cps.toList.take i).map (fun c => V.bl (okc c))) ⟨⟨none, rfl⟩, Same.upd hD, upd_same, rfl⟩
        (fun i _ _ _ hi _ => hi) (fun _ _ _ _ => Nat.le_refl _) ?_ ?_
      · rintro i ys σ H' hi ⟨⟨o, rfl⟩, sm, hl, hy⟩ x H2 ⟨e2, c, hc, rfl⟩
        subst e2
        have hlen : ys.length = i := by
          rw [hy, List.length_map, List.length_take]
          have : z.cps.toList.length = z.cps.size := by simp
          omega
        have hi8 : i < 1000 := by
          have : z.length = z.cps.size := rfl
          omega
        have put : ∀ b : Bool, b = okc c → CK D z.cps.size i (fun i ys σ H' => (∃ o, σ = [o]) ∧ Same H H' ∧ H' D = some (.lst ys) ∧ ys = (z.cps.toList.take i).map (fun c => V.bl (okc c))) ys [some (.str ⟨#[c]⟩)] (.bl b) H2 := fun b eb =>
          CK.mk hi hl (by rw [hlen]; exact big_lt (by omega)) ⟨⟨_, rfl⟩, Same.set sm hD, upd_same, by rw [eb, hy, ← signs_all z i c hc, List.map_append]; rfl⟩
        walk_at "rd"
        refine ite2 (fun hd => put true ?_) fun hd => put _ ?_
        · have := (dot_eq c).mp (of_decide_eq_true hd)
          unfold okc
          rw [decide_eq_true this, Bool.true_or]
        · have hd : ¬ (⟨#[c]⟩ : Str) = Str.ofString "." := fun e => hd (decide_eq_true e)
          have : ¬ c = 46 := fun e => hd ((dot_eq c).mpr e)
          unfold okc
          rw [decide_eq_false this, Bool.false_or, in_one]
          rfl
      · rintro ys σ H' ⟨_, sm, hl, hy⟩
        walk_at "rd"
        refine ⟨z.cps.toList.map okc, ?_, ?_⟩
        · have e : z.cps.toList.take z.cps.size = z.cps.toList := by
            apply List.take_of_length_le
            simp
          rw [e] at hy
          have : (z.cps.toList.map okc).map V.bl = ys := by rw [hy, List.map_map]; rfl
          rw [this]
          exact SqL.of hl
        · have e : rowB z = (z.cps.toList.map okc).all id := by
            unfold rowB
            rw [h1, h8, List.all_map]
            all_goals rfl
          rw [← e]
          exact k H' sm
    · rw [Bool.not_eq_true] at h8
      have e : rowB z = false := by unfold rowB; rw [h8, Bool.and_false, Bool.false_and]
      rw [e] at k
      exact k H (Same.refl H)
    · rw [Bool.not_eq_true] at h1
      have e : rowB z = false := by unfold rowB; rw [h1, Bool.false_and, Bool.false_and]
      rw [e] at k
      exact k H (Same.refl H)
end

section
variable {P : Program} {w : World} {K : PySem.W.Frag} {mg : Str → Option Value} {base : Heap}
noncomputable def bothB (p : Nat × Nat) : Bool := !decide (p.2 = 46) || decide (p.1 = 46)
theorem zip_next (x y : Str) (i c d : Nat) (h1 : x.cps[i]? = some c) (h2 : y.cps[i]? = some d) : ((List.zip x.cps.toList y.cps.toList).take i ++ [(c, d)]) = (List.zip x.cps.toList y.cps.toList).take (i + 1) := by
  have h : (List.zip x.cps.toList y.cps.toList)[i]? = some (c, d) := List.getElem?_zip_eq_some.mpr ⟨by simpa using h1, by simpa using h2⟩
  obtain ⟨hlt, e⟩ := List.getElem?_eq_some_iff.mp h
  rw [List.take_succ_eq_append_getElem hlt, e]
set_option maxHeartbeats 4000000 in
theorem C_lies_beneath (T : Txt K mg) : Cal P w K mg base 1 "lies_beneath" ["row", "above"] sp_beneath := by
  refine T.d_lies_beneath.cal sc_lies_beneath (fun vs H Q E h => ?_) (fun f cdv A outer s H vs Q E hr h => ?_)
  · obtain ⟨row, above, rfl, _⟩ := h
    rfl
  · obtain ⟨row, above, rfl, hz1, hz2, k⟩ := h
    refine ⟨_, (QSs.h (ssCons (ifS (cmpT q_neA rfl (cbE (k_len (K := K) rfl) rfl T.b_len PySem.boot_len rfl rfl rfl (paE rfl (vn 0 rfl (Or.inl rfl) rfl rfl) aNil)) (cbE (k_len (K := K) rfl) rfl T.b_len PySem.boot_len rfl rfl rfl (paE rfl (vn 1 rfl (Or.inl rfl) rfl rfl) aNil)))
      (ssOne (retS eBl))
      ssNil)
      (ssOne (retS (cbE (k_all (K := K) rfl rfl) rfl T.b_all PyProof.Rows.boot_all rfl rfl rfl (paE rfl (compE (CompScope.of (show compOk (defScope s_lies_beneath) ["row", "above"] _ ["high", "low"] [] = true from by decide +kernel)) rfl rfl (zipSI rfl T.b_zip rfl rfl (paE rfl (vn 1 rfl (Or.inl rfl) rfl rfl) (paE rfl (vn 0 rfl (Or.inl rfl) rfl rfl) aNil))) (fun _ _ _ => (tupG (K := K) rfl rfl rfl (gsE rfl (nameG 0 (show (["high", "low"] : List Str).Nodup from by decide +kernel) rfl (Or.inl rfl) (Or.inr rfl)) (gsE rfl (nameG 1 (show (["high", "low"] : List Str).Nodup from by decide +kernel) rfl (Or.inl rfl) (Or.inr rfl)) gsNil)))) (fun _ _ _ => noTs) (fun _ _ _ => (orV (cmpE q_neA rfl (vn 1 rfl (Or.inl rfl) rfl rfl) (gvE T.g_AIR rfl rfl)) (oneV (cmpE q_eqA rfl (vn 0 rfl (Or.inl rfl) rfl rfl) (gvE T.g_AIR rfl rfl)))))) aNil)))))), ?_⟩
    show tSeq _ _ _ [some (.str row), some (.str above)] H
    refine seq_op fun D1 k1 r1 => ?_
    walk_at "rd"
    refine ⟨big_line (by omega), big_line (by omega), ite2 (fun h1 => ?_) fun h1 => ?_⟩
    · have h1 : ¬ ((row.length : Int) = above.length) := by simpa using h1
      have e : beneathB row above = false := by
        unfold beneathB
        rw [decide_eq_false (by omega), Bool.false_and]
      rw [e] at k
      exact r1 _ _ (k H (Same.refl H))
    · have h1 : row.length = above.length := by
        have : (row.length : Int) = above.length := by simpa using h1
        omega
      refine k1 _ _ ?_
      have hsz : row.cps.size = above.cps.size := h1
      have hzl : (List.zip above.cps.toList row.cps.toList).length = above.cps.size := by rw [List.length_zip]; simp [hsz]
      walk_at "rd"
      refine comp_split fun Kont hK => ?_
      walk_at "rd"
      refine hK _ _ fun D hD => ?_
      refine comp_by (J := Itz above row) (n := above.cps.size) (D := D) (fun i ys σ H' => (∃ o1 o2, σ = [o1, o2]) ∧ Same H H' ∧ H' D = some (.lst ys) ∧ ys = ((List.zip above.cps.toList row.cps.toList).take i).map (fun p => V.bl (bothB p))) ⟨⟨none, none, rfl⟩, Same.upd hD, upd_same, rfl⟩
        (fun i _ _ _ hi _ => ⟨hi, by omega⟩) (fun _ _ _ _ => ⟨Nat.le_refl _, by omega, .inl rfl⟩) ?_ ?_
      · rintro i ys σ H' hi ⟨⟨o1, o2, rfl⟩, sm, hl, hy⟩ x H2 ⟨c, d, TT, hc, hd, hT, rfl, rfl⟩
        have hlen : ys.length = i := by rw [hy, List.length_map, List.length_take, hzl]; omega
        have hi8 : i < 1000 := by
          have : above.length = above.cps.size := rfl
          omega
        have smT : Same H (upd H' TT (.tup [.str ⟨#[c]⟩, .str ⟨#[d]⟩])) := sm.trans (Same.upd hT)
        have hl2 : upd H' TT (.tup [.str ⟨#[c]⟩, .str ⟨#[d]⟩]) D = some (.lst ys) := Same.upd hT _ _ hl
        have put : ∀ b : Bool, b = bothB (c, d) → CK D above.cps.size i (fun i ys σ H' => (∃ o1 o2, σ = [o1, o2]) ∧ Same H H' ∧ H' D = some (.lst ys) ∧ ys = ((List.zip above.cps.toList row.cps.toList).take i).map (fun p => V.bl (bothB p))) ys [some (.str ⟨#[c]⟩), some (.str ⟨#[d]⟩)] (.bl b) (upd H' TT (.tup [.str ⟨#[c]⟩, .str ⟨#[d]⟩])) := fun b eb =>
          CK.mk hi hl2 (by rw [hlen]; exact big_lt (by omega)) ⟨⟨_, _, rfl⟩, Same.set smT hD, upd_same, by rw [eb, hy, ← zip_next above row i c d hc hd, List.map_append]; rfl⟩
        walk_at "rd"
        refine ⟨_, SqT.of upd_same, rfl, _, _, rfl, _, _, rfl, rfl, rfl, ?_⟩
        simp only [V.str.injEq, dot_eq]
        refine ite2 (fun h => put true ?_) fun h => ⟨trivial, put _ ?_⟩
        · unfold bothB
          rw [h, Bool.true_or]
        · unfold bothB
          rw [Bool.not_eq_true] at h
          rw [h, Bool.false_or]
      · rintro ys σ H' ⟨_, sm, hl, hy⟩
        walk_at "rd"
        refine ⟨(List.zip above.cps.toList row.cps.toList).map bothB, ?_, ?_⟩
        · have e : (List.zip above.cps.toList row.cps.toList).take above.cps.size = List.zip above.cps.toList row.cps.toList := List.take_of_length_le (by omega)
          rw [e] at hy
          have : ((List.zip above.cps.toList row.cps.toList).map bothB).map V.bl = ys := by rw [hy, List.map_map]; rfl
          rw [this]
          exact SqL.of hl
        · have e : beneathB row above = ((List.zip above.cps.toList row.cps.toList).map bothB).all id := by
            unfold beneathB
            rw [decide_eq_true h1, List.all_map, Bool.true_and]
            rfl
          rw [← e]
          exact k H' sm

theorem few_signs {rows : List Str} (h : (rows.map (·.length)).sum ≤ 3000) : (Str.join (Str.ofString "") rows).length ≤ 3000 := by
  have := StrLaws.join_length_le (Str.ofString "") rows
  rw [show (Str.ofString "").length = 0 from rfl] at this
  omega
set_option maxHeartbeats 4000000 in
theorem C_letters_in (T : Txt K mg) : Cal P w K mg base 1 "letters_in" ["rows"] (sp_letters_in K) := by
  refine T.d_letters_in.cal sc_letters_in (fun vs H Q E h => ?_) (fun f cdv A outer s H vs Q E hr h => ?_)
  · obtain ⟨a, rows, rfl, _⟩ := h
    rfl
  · obtain ⟨a, rows, rfl, hs, hsum, hok, k⟩ := h
    refine ⟨_, (QSs.h (ssOne (retS (cbE (k_sortedS (w := w) rfl rfl) rfl T.b_sorted PyProof.Rows.boot_sorted rfl rfl rfl (paE rfl (ctE (k_set (K := K) (w := w) rfl rfl rfl) rfl T.b_set PyProof.Rows.boot_set rfl rfl rfl (paE rfl (compE (CompScope.of (show compOk (defScope s_letters_in) ["rows"] _ ["sign"] [] = true from by decide +kernel)) rfl rfl (anyI (K := K) rfl (bmE (K := K) rfl PySem.F.plainAttrs_str PySem.F.slot_str_join PySem.F.type_str_join (m_join (K := K) rfl) rfl rfl rfl rfl eStr (paE rfl (vn 0 rfl (Or.inl rfl) rfl rfl) aNil))) (fun _ _ _ => (nameG 0 (show (["sign"] : List Str).Nodup from by decide +kernel) rfl (Or.inl rfl) (Or.inr rfl))) (fun _ _ _ => (oneTs (cmpT q_neA rfl (vn 0 rfl (Or.inl rfl) rfl rfl) (gvE T.g_AIR rfl rfl)))) (fun _ _ _ => (vn 0 rfl (Or.inl rfl) rfl rfl))) aNil)) aNil))))), ?_⟩
    show tRet _ _ [some (.ref a)] H
    walk_at "rd"
    refine comp_split fun Kont hK => ?_
    walk_at "rd"
    refine ⟨rows, hs, by rw [show (Str.ofString "").length = 0 from rfl]; omega, ?_⟩
    rw [show Txt.join (Str.ofString "") rows = Str.join (Str.ofString "") rows from StrLaws.glued_eq_join _ _]
    have hfew := few_signs hsum
    have hlet := signs_let hok
    unfold signsOf at hlet k
    generalize Str.join (Str.ofString "") rows = z at hfew hlet k ⊢
    refine hK _ _ fun D hD => ?_
    refine comp_by (J := Its z) (n := z.cps.size) (D := D) (fun i ys σ H' => (∃ o, σ = [o]) ∧ Same H H' ∧ H' D = some (.lst ys) ∧ ys = ((z.cps.toList.take i).filter (fun c => decide (c ≠ 46))).map (fun c => V.str (sgn c))) ⟨⟨none, rfl⟩, Same.upd hD, upd_same, rfl⟩
      (fun i _ _ _ hi _ => hi) (fun _ _ _ _ => Nat.le_refl _) ?_ ?_
    · rintro i ys σ H' hi ⟨⟨o, rfl⟩, sm, hl, hy⟩ x H2 ⟨e2, c, hc, rfl⟩
      subst e2
      have hlen : ys.length ≤ i := by
        rw [hy, List.length_map]
        have := List.length_filter_le (fun c => decide (c ≠ 46)) (z.cps.toList.take i)
        rw [List.length_take] at this
        omega
      have hi8 : i < 3000 := by
        have : z.length = z.cps.size := rfl
        omega
      walk_at "rd"
      simp only [dot_eq]
      refine ite2 (fun hd => ?_) fun hd => ?_
      · refine CK.mk hi hl (big_lt (by omega)) ⟨⟨_, rfl⟩, Same.set sm hD, upd_same, ?_⟩
        rw [← signs_all z i c hc, List.filter_append, List.map_append, hy]
        have : decide (c ≠ 46) = true := by simpa using hd
        rw [List.filter_cons, this]
        rfl
      · refine CN.mk hi ⟨⟨_, rfl⟩, sm, hl, ?_⟩
        rw [← signs_all z i c hc, List.filter_append, List.map_append, hy]
        have : decide (c ≠ 46) = false := by simpa using hd
        rw [List.filter_cons, this]
        simp
    · rintro ys σ H' ⟨_, sm, hl, hy⟩
      have e : z.cps.toList.take z.cps.size = z.cps.toList := by
        apply List.take_of_length_le
        simp
      rw [e] at hy
      walk_at "rd"
      have hfl := List.length_filter_le (fun c => decide (c ≠ 46)) z.cps.toList
      have hzz : z.cps.toList.length = z.length := by simp [Str.length]
      refine ⟨(z.cps.toList.filter (fun c => decide (c ≠ 46))).map sgn, ?_, by rw [List.length_map]; omega, fun S hS => ⟨_, upd_same, ?_, fun l ss hl' hp hst => ?_⟩⟩
      · rw [List.map_map]
        have : (z.cps.toList.filter (fun c => decide (c ≠ 46))).map (V.str ∘ sgn) = ys := by rw [hy]; rfl
        rw [this]
        exact SqL.of hl
      · have := firsts_few hlet
        omega
      · have smS : Same H (upd H' S (SetO w S (firstsOf ((z.cps.toList.filter (fun c => decide (c ≠ 46))).map sgn)))) := sm.trans (Same.upd hS)
        exact k l _ ss (smS.trans (Same.upd hl')) (smS.free hl') upd_same hp hst
end

section
variable {P : Program} {w : World} {K : PySem.W.Frag} {mg : Str → Option Value} {base : Heap}
set_option maxHeartbeats 4000000 in
theorem C_rows_of (T : Txt K mg) : Cal P w K mg base 2 "rows_of" ["text"] sp_rows_of := by
  have C_is_row : Cal P w K mg base 1 "is_row" ["row"] sp_is_row := C_is_row T
  have C_lies_beneath : Cal P w K mg base 1 "lies_beneath" ["row", "above"] sp_beneath := C_lies_beneath T
  have C_letters_in : Cal P w K mg base 1 "letters_in" ["rows"] (sp_letters_in K) := C_letters_in T
  refine T.d_rows_of.cal sc_rows_of (fun vs H Q E h => ?_) (fun f cdv A outer s H vs Q E hr h => ?_)
  · obtain ⟨rows, rfl, _⟩ := h
    rfl
  · obtain ⟨rows, rfl, hcut, k⟩ := h
    obtain ⟨wd, w1, w2, hw⟩ := hcut.wide
    have htl := hcut.text
    have hsp := hcut.split
    refine ⟨_, (QSs.h (ssCons (ifS (notT (truT (K := K) rfl (fun _ => rfl) (cbE (k_isi (K := K) rfl) rfl T.b_isinstance PyProof.Rows.boot_isinstance rfl rfl rfl (paE rfl (vn 0 rfl (Or.inl rfl) rfl rfl) (paE rfl (blE (v := .ty "str") rfl T.b_str PyProof.Rows.boot_str rfl rfl rfl) aNil)))))
      (ssOne neverS)
      ssNil)
      (ssCons (setE 1 sc_rows_of.nd rfl (Or.inl rfl) (Or.inr rfl) rfl (bmE (K := K) rfl PySem.F.plainAttrs_str PySem.F.slot_str_split PySem.F.type_str_split m_split rfl rfl rfl rfl (vn 0 rfl (Or.inl rfl) rfl rfl) (paE rfl eStr aNil)))
      (ssCons (forE PassesOwn.never rfl rfl (enumI (K := K) rfl rfl T.b_enumerate rfl (paE rfl (vn 1 rfl (Or.inl rfl) rfl rfl) aNil)) (tupG (K := K) rfl rfl rfl (gsE rfl (nameG 2 sc_rows_of.nd rfl (Or.inl rfl) (Or.inr rfl)) (gsE rfl (nameG 3 sc_rows_of.nd rfl (Or.inl rfl) (Or.inr rfl)) gsNil)))
      (ssCons (ifS (wT (orW (cmpT q_eqA rfl (vn 2 rfl (Or.inl rfl) rfl rfl) (gvE T.g_MOST_ROWS rfl rfl)) (or1W (notT (truT (K := K) rfl (fun _ => rfl) (calE C_is_row hr rfl rfl rfl rfl (paE rfl (vn 3 rfl (Or.inl rfl) rfl rfl) aNil)))))))
        (ssOne neverS)
        ssNil)
        (ssOne (ifS (wT (andW (cmpT q_gt rfl (vn 2 rfl (Or.inl rfl) rfl rfl) eInt) (and1W (notT (truT (K := K) rfl (fun _ => rfl) (calE C_lies_beneath hr rfl rfl rfl rfl (paE rfl (vn 3 rfl (Or.inl rfl) rfl rfl) (paE rfl (ixLE (K := K) rfl (fun _ _ => rfl) (vn 1 rfl (Or.inl rfl) rfl rfl) (opE q_sub (vn 2 rfl (Or.inl rfl) rfl rfl) eInt)) aNil))))))))
        (ssOne neverS)
        ssNil))))
      (ssCons (ifS (cmpT q_eqA rfl (cbE (k_len (K := K) rfl) rfl T.b_len PySem.boot_len rfl rfl rfl (paE rfl (calE C_letters_in hr rfl rfl rfl rfl (paE rfl (vn 1 rfl (Or.inl rfl) rfl rfl) aNil)) aNil)) eInt)
      (ssOne neverS)
      ssNil)
      (ssOne (retS (vn 1 rfl (Or.inl rfl) rfl rfl)))))))), ?_⟩
    generalize Str.join nl rows = z at htl hsp
    show tSeq _ _ _ [some (.str z), none, none, none] H
    refine seq_op fun D1 k1 _ => ?_
    walk_at "rd"
    refine ⟨.type "str", .str z, true, by rfl, iteF (k1 _ _ (seq_op fun D2 k2 _ => ?_))⟩
    walk_at "rd"
    refine ⟨by decide, Nat.le_trans (by omega : z.length + 2 ≤ 5000) (by decide), fun l hl => k2 _ _ ?_⟩
    rw [show (Str.ofString "\n") = nl from rfl, hsp]
    refine seq_op fun D3 k3 _ => for_split fun Kont hK => ?_
    walk_at "rd"
    have sml : Same H (upd H l (.lst (rows.map V.str))) := Same.upd hl
    refine ⟨_, SqL.of upd_same, hK _ _ (for_enum (fun i σ H' => ∃ o2 o3, σ = [some (.str z), some (.ref l), o2, o3] ∧ Same H H' ∧ H' l = some (.lst (rows.map V.str))) ⟨none, none, rfl, sml, upd_same⟩ (fun i σ H' _ ⟨_, _, _, _, q⟩ => SqL.of q) ?_ ?_)⟩
    · rintro i x TT σ H' hx ⟨o2, o3, rfl, sm, hl'⟩ hT
      obtain ⟨r, hr1, rfl⟩ : ∃ r, rows[i]? = some r ∧ x = V.str r := by
        rw [List.getElem?_map] at hx
        cases e : rows[i]? with
        | none => rw [e] at hx; cases hx
        | some r => rw [e] at hx; exact ⟨r, rfl, (Option.some.inj hx).symm⟩
      have hilt : i < rows.length := (List.getElem?_eq_some_iff.mp hr1).1
      have hi40 := hcut.high
      have smT : Same H (upd H' TT (.tup [.int i, .str r])) := sm.trans (Same.upd hT)
      have hlT : upd H' TT (.tup [.int i, .str r]) l = some (.lst (rows.map V.str)) := Same.upd hT _ _ hl'
      have hgT : upd H' TT (.tup [.int i, .str r]) TT = some (.tup [.int i, .str r]) := upd_same
      generalize upd H' TT (.tup [.int i, .str r]) = HT at smT hlT hgT
      have hrl : r.length ≤ 1000 := by
        have : r.length = wd := hw r (List.mem_of_getElem? hr1)
        omega
      refine ⟨TT, _, rfl, SqT.of hgT, rfl, ⟨_, _, rfl, ⟨_, _, rfl, ⟨rfl, ?_⟩⟩⟩⟩
      show tSeq _ _ _ [some (.str z), some (.ref l), some (.int i), some (.str r)] HT
      refine seq_op fun D4 k4 _ => ?_
      have go : ∀ H2, Same HT H2 → D4.nx [some (.str z), some (.ref l), some (.int i), some (.str r)] H2 := by
        intro H2 sm2
        refine k4 _ _ (ends_op fun D5 k5 _ => ?_)
        have fin : ∀ H3, Same HT H3 → D5.nx [some (.str z), some (.ref l), some (.int i), some (.str r)] H3 := fun H3 sm3 => k5 _ _ ⟨_, _, rfl, smT.trans sm3, sm3 l _ hlT⟩
        walk_at "rd"
        refine ite2 (fun hp => ?_) fun _ => fin _ sm2
        have hp : 0 < (i : Int) := of_decide_eq_true hp
        obtain ⟨i', rfl⟩ : ∃ i', i = i' + 1 := ⟨i - 1, by omega⟩
        have hi' : i' < rows.length := by omega
        have hr0 : rows[i']? = some rows[i'] := by simp [hi']
        have e1 : (((i' + 1 : Nat) : Int) - 1) = (i' : Int) := by omega
        refine ⟨_, SqL.of (sm2 l _ hlT), .str rows[i'], by rw [e1]; exact atI_nat (by simp [hi']), r, rows[i'], rfl, hrl, ?_, fun H3 sm3 => ⟨_, rfl, ?_⟩⟩
        · have : rows[i'].length = wd := hw _ (List.getElem_mem hi')
          omega
        · rw [hcut.beneath hr0 hr1]
          exact iteF (fin _ (sm2.trans sm3))
      walk_at "rd"
      rw [if_neg (by simp; omega)]
      refine ⟨r, rfl, hrl, fun H2 sm2 => ⟨_, rfl, ?_⟩⟩
      rw [hcut.row (List.mem_of_getElem? hr1)]
      exact iteF (go H2 sm2)
    · rintro σ H' ⟨o2, o3, rfl, sm, hl'⟩
      refine k3 _ _ ?_
      walk_at "rd"
      refine ⟨l, rows, rfl, SqL.of hl', by have := hcut.sum; omega, hcut.sign, fun l2 H2 ss sm2 hf2 hl2 hp hst => ⟨_, .inl ⟨_, SqL.of hl2, rfl⟩, ?_⟩⟩
      rw [if_neg]
      · exact k l H2 (sm.trans sm2) hl (sm2 l _ hl')
      · intro h0
        have h0 := of_decide_eq_true h0
        rw [List.length_map] at h0
        have : ss = [] := List.length_eq_zero_iff.mp (by omega)
        rw [this] at hp
        have hm := hp.symm.eq_nil
        obtain ⟨c, hc⟩ := List.exists_mem_of_ne_nil _ hcut.signs_ne
        have : sgn c ∈ firstsOf ((signsOf rows).map sgn) := firstsOf_mem.mpr (List.mem_map.mpr ⟨c, hc, rfl⟩)
        rw [hm] at this
        cases this
end

noncomputable def pairF (p : Nat × Nat) : Option (List Str) := if p.1 ≠ 46 ∧ p.1 ≠ p.2 then some [sgn p.1, sgn p.2] else none
noncomputable def pairUR (u r : Str) : List (List Str) := (List.zip u.cps.toList r.cps.toList).filterMap pairF
theorem tups_nil (H : Hp) : TupsAt H [] := fun p hp => by cases hp
theorem tups_keep {H H' : Hp} {ps : List (Addr × List Str)} (h : TupsAt H ps) (s : ∀ b z, H b = some (.tup z) → H' b = some (.tup z)) : TupsAt H' ps := fun p hp => ⟨(h p hp).1, s _ _ (h p hp).2⟩
theorem tups_snoc {H : Hp} {ps : List (Addr × List Str)} {q : Addr × List Str} (h : TupsAt H ps) (h1 : q.2 ≠ []) (h2 : H q.1 = some (.tup (q.2.map V.str))) : TupsAt H (ps ++ [q]) := fun p hp => by
  rcases List.mem_append.mp hp with z | z
  · exact h p z
  · rw [List.mem_singleton.mp z]; exact ⟨h1, h2⟩
theorem tups_app {H : Hp} {ps qs : List (Addr × List Str)} (h1 : TupsAt H ps) (h2 : TupsAt H qs) : TupsAt H (ps ++ qs) := fun p hp => (List.mem_append.mp hp).elim (h1 p) (h2 p)
noncomputable def sp_mb : Sp := fun vs H Q _ => ∃ u r : Str, vs = [.str u, .str r] ∧ u.length ≤ 40 ∧ r.length = u.length ∧ ∀ l H' ps, Same H H' → H l = none → H' l = some (.lst (ps.map fun p : Addr × List Str => V.ref p.1)) → TupsAt H' ps → ps.map (·.2) = pairUR u r → Q (.ref l) H'
noncomputable def sp_lets : Sp := fun vs H Q _ => ∃ rows : List Str, vs = [.str (Str.join nl rows)] ∧ IsCut rows ∧ ∀ l H' ss, Same H H' → H l = none → H' l = some (.lst (ss.map V.str)) → ss.Perm (firstsOf ((signsOf rows).map sgn)) → PyProof.Rows.sortedS ss = true → Q (.ref l) H'
section
variable {P : Program} {w : World} {K : PySem.W.Frag} {mg : Str → Option Value} {base : Heap}
set_option maxHeartbeats 4000000 in
theorem C_letters (T : Txt K mg) : Cal P w K mg base 3 "letters" ["text"] sp_lets := by
  have C_rows_of : Cal P w K mg base 2 "rows_of" ["text"] sp_rows_of := C_rows_of T
  have C_letters_in : Cal P w K mg base 1 "letters_in" ["rows"] (sp_letters_in K) := C_letters_in T
  refine T.d_letters.cal sc_letters (fun vs H Q E h => ?_) (fun f cdv A outer s H vs Q E hr h => ?_)
  · obtain ⟨rows, rfl, _⟩ := h
    rfl
  · obtain ⟨rows, rfl, hcut, kk⟩ := h
    refine ⟨_, (QSs.h (ssOne (retS (calE C_letters_in hr rfl rfl rfl rfl (paE rfl (calE C_rows_of hr rfl rfl rfl rfl (paE rfl (vn 0 rfl (Or.inl rfl) rfl rfl) aNil)) aNil))))), ?_⟩
    show tRet _ _ [some (.str (Str.join nl rows))] H
    walk_at "rd"
    refine ⟨rows, rfl, hcut, fun l H1 s1 f1 h1 => ⟨l, rows, rfl, SqL.of h1, by have := hcut.sum; omega, hcut.sign, fun l2 H2 ss s2 f2 h2 p2 q2 => kk l2 H2 ss (s1.trans s2) (s1.free f2) h2 p2 q2⟩⟩
set_option maxHeartbeats 4000000 in
theorem C_meetings_between (T : Txt K mg) : Cal P w K mg base 1 "meetings_between" ["above", "row"] sp_mb := by
  refine T.d_meetings_between.cal sc_meetings_between (fun vs H Q E h => ?_) (fun f cdv A outer s H vs Q E hr h => ?_)
  · obtain ⟨u, r, rfl, _⟩ := h
    rfl
  · obtain ⟨u, r, rfl, hu, hru, kk⟩ := h
    have hus : u.length = u.cps.size := rfl
    have hrs : r.length = r.cps.size := rfl
    refine ⟨_, (QSs.h (ssOne (retS (compE (CompScope.of (show compOk (defScope s_meetings_between) ["above", "row"] _ ["high", "low"] [] = true from by decide +kernel)) rfl rfl (zipSI rfl T.b_zip rfl rfl (paE rfl (vn 0 rfl (Or.inl rfl) rfl rfl) (paE rfl (vn 1 rfl (Or.inl rfl) rfl rfl) aNil))) (fun _ _ _ => (tupG (K := K) rfl rfl rfl (gsE rfl (nameG 0 (show (["high", "low"] : List Str).Nodup from by decide +kernel) rfl (Or.inl rfl) (Or.inr rfl)) (gsE rfl (nameG 1 (show (["high", "low"] : List Str).Nodup from by decide +kernel) rfl (Or.inl rfl) (Or.inr rfl)) gsNil)))) (fun _ _ _ => (oneTs (wT (andW (cmpT q_neA rfl (vn 0 rfl (Or.inl rfl) rfl rfl) (gvE T.g_AIR rfl rfl)) (and1W (cmpT q_neA rfl (vn 0 rfl (Or.inl rfl) rfl rfl) (vn 1 rfl (Or.inl rfl) rfl rfl))))))) (fun _ _ _ => (tupE (paE rfl (vn 0 rfl (Or.inl rfl) rfl rfl) (paE rfl (vn 1 rfl (Or.inl rfl) rfl rfl) aNil)))))))), ?_⟩
    show tRet _ _ [some (.str u), some (.str r)] H
    walk_at "rd"
    refine comp_split fun Kont hK => ?_
    walk_at "rd"
    refine hK _ _ fun D hD => ?_
    refine comp_by (J := Itz u r) (n := u.cps.size) (D := D) (fun i ys σ H' => (∃ o1 o2, σ = [o1, o2]) ∧ Same H H' ∧ H' D = some (.lst ys) ∧ ys.length ≤ i ∧ ∃ ps : List (Addr × List Str), ys = ps.map (fun p => V.ref p.1) ∧ TupsAt H' ps ∧ ps.map (·.2) = ((List.zip u.cps.toList r.cps.toList).take i).filterMap pairF)
      ⟨⟨none, none, rfl⟩, Same.upd hD, upd_same, Nat.le_refl _, [], rfl, tups_nil _, rfl⟩ (fun i _ _ _ hi _ => ⟨hi, by omega⟩) (fun _ _ _ _ => ⟨Nat.le_refl _, by omega, .inl rfl⟩) ?_ ?_
    · rintro i ys σ H' hi ⟨⟨o1, o2, rfl⟩, sm, hl, hlen, ps, hy, tps, hks⟩ x H2 ⟨c, d, TT, hc, hd, hT, rfl, rfl⟩
      have smT := Same.upd (o := .tup [.str ⟨#[c]⟩, .str ⟨#[d]⟩]) hT
      have nx := zip_next u r i c d hc hd
      have hl2 := smT _ _ hl
      have hgT : upd H' TT (.tup [.str ⟨#[c]⟩, .str ⟨#[d]⟩]) TT = some (.tup [.str ⟨#[c]⟩, .str ⟨#[d]⟩]) := upd_same
      have tps2 : TupsAt (upd H' TT (.tup [.str ⟨#[c]⟩, .str ⟨#[d]⟩])) ps := fun p hp => ⟨(tps p hp).1, smT _ _ (tps p hp).2⟩
      have sm2 := sm.trans smT
      generalize upd H' TT (.tup [.str ⟨#[c]⟩, .str ⟨#[d]⟩]) = HT at smT hl2 hgT tps2 sm2
      refine ⟨TT, _, rfl, SqT.of hgT, rfl, ⟨_, _, rfl, ⟨_, _, rfl, ⟨rfl, ?_⟩⟩⟩⟩
      show tAnd _ _ [some (.str ⟨#[c]⟩), some (.str ⟨#[d]⟩)] HT _
      walk_at "rd"
      simp only [dot_eq, sgn_eq]
      have hDT : D ≠ TT := fun e => by rw [e, hgT] at hl2; cases hl2
      refine ite2 (fun h1 => ite2 (fun h2 => ?_) fun h2 => ?_) fun h1 => ?_
      · have h1 : c ≠ 46 := by simpa using h1
        have h2 : c ≠ d := by simpa using h2
        refine ⟨show 2 ≤ sizeLine from by decide, fun p hp => ?_⟩
        have smp := Same.upd (o := .tup [V.str ⟨#[c]⟩, V.str ⟨#[d]⟩]) hp
        have hDp : p ≠ D := fun e => by rw [e, hl2] at hp; cases hp
        refine CK.mk hi (smp _ _ hl2) (big_lt (by omega)) ⟨⟨_, _, rfl⟩, Same.set (sm2.trans smp) hD, upd_same, by rw [List.length_append, List.length_singleton]; omega, ps ++ [(p, [sgn c, sgn d])], by rw [hy, List.map_append]; rfl, ?_, ?_⟩
        · have keep : ∀ b z, upd HT p (.tup [V.str ⟨#[c]⟩, V.str ⟨#[d]⟩]) b = some (.tup z) → upd (upd HT p (.tup [V.str ⟨#[c]⟩, V.str ⟨#[d]⟩])) D (.lst (ys ++ [V.ref p])) b = some (.tup z) := fun b z e => by
            have : b ≠ D := fun e2 => by rw [e2, smp _ _ hl2] at e; cases e
            rw [upd_ne this]; exact e
          exact tups_keep (tups_snoc (tups_keep tps2 fun b z e => smp _ _ e) (by simp) (by rw [upd_same]; rfl)) keep
        · rw [List.map_append, hks, ← nx, List.filterMap_append]
          have : pairF (c, d) = some [sgn c, sgn d] := if_pos ⟨h1, h2⟩
          rw [List.filterMap_cons, this]
          rfl
      · have h2 : c = d := by simpa using h2
        refine CN.mk hi ⟨⟨_, _, rfl⟩, sm2, hl2, by omega, ps, hy, tps2, ?_⟩
        rw [hks, ← nx, List.filterMap_append]
        have : pairF (c, d) = none := if_neg fun q => q.2 h2
        rw [List.filterMap_cons, this]
        simp
      · have h1 : c = 46 := by simpa using h1
        refine CN.mk hi ⟨⟨_, _, rfl⟩, sm2, hl2, by omega, ps, hy, tps2, ?_⟩
        rw [hks, ← nx, List.filterMap_append]
        have : pairF (c, d) = none := if_neg fun q => q.1 h1
        rw [List.filterMap_cons, this]
        simp
    · rintro ys σ H' ⟨_, sm, hl, hlen, ps, hy, tps, hks⟩
      rw [List.take_of_length_le (by rw [List.length_zip]; simp; omega)] at hks
      exact kk D H' ps sm hD (by rw [hl, hy]) tps hks
end

theorem for_zipL {K : PySem.W.Frag} {a b : Addr} {xs ys : List V} {g : TG} {tb : TS} {D : Ends} {σ : St} {H : Hp} (Pv : Nat → St → Hp → Prop) (h0 : Pv 0 σ H) (hle : ys.length ≤ xs.length) (hl : ∀ i σ H, i ≤ ys.length → Pv i σ H → SqL K H a xs ∧ SqL K H b ys)
    (hs : ∀ i x y T σ H, xs[i]? = some x → ys[i]? = some y → Pv i σ H → H T = none → g (.ref T) σ (upd H T (.tup [x, y])) fun σ2 H2 => tb { D with nx := Pv (i + 1), ct := Pv (i + 1), bk := D.nx } σ2 H2) (hd : ∀ σ H, Pv ys.length σ H → D.nx σ H) :
    ∃ W : Nat → Nat → St → Hp → Prop, (∃ m, W 0 m σ H) ∧ ∀ i m σ H, W i m σ H →
      ((Itzl K a b).stop i H ∧ D.nx σ H) ∨ ((Itzl K a b).go i H ∧ ∃ N : St → Hp → Prop, (∀ σ' H', N σ' H' → ∃ m', m' < m ∧ W (i + 1) m' σ' H') ∧ ∀ x H', (Itzl K a b).yld i H x H' → g x σ H' fun σ2 H2 => tb { D with nx := N, ct := N, bk := D.nx } σ2 H2) := by
  refine ⟨fun i m σ H => m = ys.length - i ∧ i ≤ ys.length ∧ Pv i σ H, ⟨ys.length, by simp, Nat.zero_le _, h0⟩, ?_⟩
  rintro i m σ H ⟨rfl, hi, p⟩
  obtain ⟨q1, q2⟩ := hl i σ H hi p
  by_cases hlt : i < ys.length
  · have hx : xs[i]? = some xs[i] := by simp [show i < xs.length by omega]
    have hy : ys[i]? = some ys[i] := by simp [hlt]
    refine .inr ⟨⟨xs, ys, _, _, q1, q2, hx, hy⟩, Pv (i + 1), fun σ' H' p' => ⟨ys.length - (i + 1), by omega, rfl, hlt, p'⟩, fun v H' y => ?_⟩
    obtain ⟨T, x', y', hT, rfl, rfl, e1, e2⟩ := y
    have e1 := e1 xs q1
    have e2 := e2 ys q2
    exact hs i x' y' T σ H e1 e2 p hT
  · have e : i = ys.length := by omega
    subst e
    exact .inl ⟨⟨xs, ys, q1, q2, by omega, Nat.le_refl _, .inr rfl⟩, hd σ H p⟩
noncomputable def pairsTo (rows : List Str) (i : Nat) : List (List Str) := (List.range i).flatMap fun j => pairUR (rows.getD j ⟨#[]⟩) (rows.getD (j + 1) ⟨#[]⟩)
theorem pairsTo_succ (rows : List Str) (i : Nat) : pairsTo rows (i + 1) = pairsTo rows i ++ pairUR (rows.getD i ⟨#[]⟩) (rows.getD (i + 1) ⟨#[]⟩) := by
  unfold pairsTo
  rw [List.range_succ, List.flatMap_append]
  simp
theorem pairUR_len (u r : Str) : (pairUR u r).length ≤ u.length := by
  unfold pairUR
  refine Nat.le_trans (List.length_filterMap_le _ _) ?_
  rw [List.length_zip]
  have : u.cps.toList.length = u.length := by simp [Str.length]
  omega
theorem mem_pairUR {u r : Str} {k : List Str} : k ∈ pairUR u r ↔ ∃ (a b j : Nat), k = [sgn a, sgn b] ∧ a ≠ 46 ∧ a ≠ b ∧ u.cps[j]? = some a ∧ r.cps[j]? = some b := by
  unfold pairUR
  rw [List.mem_filterMap]
  constructor
  · rintro ⟨⟨a, b⟩, hp, e⟩
    unfold pairF at e
    split at e
    · rename_i h
      obtain ⟨j, hj⟩ := List.getElem?_of_mem hp
      rw [List.getElem?_zip_eq_some] at hj
      exact ⟨a, b, j, (Option.some.inj e).symm, h.1, h.2, by simpa using hj.1, by simpa using hj.2⟩
    · cases e
  · rintro ⟨a, b, j, rfl, h1, h2, h3, h4⟩
    refine ⟨(a, b), List.mem_of_getElem? (i := j) ?_, if_pos ⟨h1, h2⟩⟩
    rw [List.getElem?_zip_eq_some]
    exact ⟨by simpa using h3, by simpa using h4⟩
theorem mem_pairs {rows : List Str} {k : List Str} : k ∈ pairsTo rows (rows.length - 1) ↔ ∃ a b, k = [sgn a, sgn b] ∧ Meet rows a b := by
  unfold pairsTo
  rw [List.mem_flatMap]
  have gd : ∀ j (h : j < rows.length), rows.getD j ⟨#[]⟩ = rows[j] := fun j h => by simp [List.getD_eq_getElem?_getD, h]
  constructor
  · rintro ⟨j, hj, hk⟩
    have hj := List.mem_range.mp hj
    obtain ⟨a, b, q, e, h1, h2, h3, h4⟩ := mem_pairUR.mp hk
    rw [gd j (by omega)] at h3
    rw [gd (j + 1) (by omega)] at h4
    exact ⟨a, b, e, h1, h2, j, q, _, _, by simp [show j < rows.length by omega], by simp [show j + 1 < rows.length by omega], h3, h4⟩
  · rintro ⟨a, b, e, h1, h2, i, q, r, r', e1, e2, h3, h4⟩
    obtain ⟨l2, g2⟩ := List.getElem?_eq_some_iff.mp e2
    obtain ⟨l1, g1⟩ := List.getElem?_eq_some_iff.mp e1
    refine ⟨i, List.mem_range.mpr (by omega), mem_pairUR.mpr ⟨a, b, q, e, h1, h2, ?_, ?_⟩⟩
    · rw [gd i l1, g1]; exact h3
    · rw [gd (i + 1) l2, g2]; exact h4
noncomputable def signs27 : List Nat := letters.cps.toList ++ [46]
noncomputable def allPairs : List (List Str) := signs27.flatMap fun a => signs27.map fun b => [sgn a, sgn b]
theorem okc27 {c : Nat} (h : okc c = true) : c ∈ signs27 := by
  unfold okc at h
  unfold signs27
  rcases (Bool.or_eq_true _ _).mp h with q | q
  · rw [of_decide_eq_true q]; simp
  · exact List.mem_append_left _ (of_decide_eq_true q)
theorem all_len : allPairs.length = 729 := by
  unfold allPairs
  rw [List.length_flatMap]
  have : signs27.length = 27 := by decide +kernel
  simp only [List.length_map, this]
  rw [List.map_const', List.sum_replicate_nat, this]
theorem meet_in {rows : List Str} (hc : IsCut rows) {k : List Str} (h : k ∈ pairsTo rows (rows.length - 1)) : k ∈ allPairs ∧ k.length = 2 ∧ k ≠ [] := by
  obtain ⟨a, b, rfl, _, _, i, j, r, r', e1, e2, g1, g2⟩ := mem_pairs.mp h
  have ka := List.all_eq_true.mp (hc.sign r (List.mem_of_getElem? e1)) a (List.mem_of_getElem? (i := j) (by simpa using g1))
  have kb := List.all_eq_true.mp (hc.sign r' (List.mem_of_getElem? e2)) b (List.mem_of_getElem? (i := j) (by simpa using g2))
  refine ⟨?_, rfl, by simp⟩
  unfold allPairs
  exact List.mem_flatMap.mpr ⟨a, okc27 ka, List.mem_map.mpr ⟨b, okc27 kb, rfl⟩⟩
theorem cutV_tail (rows : List Str) (h : rows ≠ []) : cutV (rows.map V.str) (some 1) none = (rows.drop 1).map V.str := by
  unfold cutV
  have h1 : 1 ≤ rows.length := List.length_pos_iff.mpr h
  rw [HT.sIx_none, show (some (1 : Int)) = some ((1 : Nat) : Int) from rfl, HT.sIx_nat, List.length_map, Nat.min_eq_left h1, ← List.map_drop, ← List.map_take]
  congr 1
  rw [List.take_of_length_le (by rw [List.length_drop]; exact Nat.le_refl _)]
noncomputable def sp_meet : Sp := fun vs H Q _ => ∃ rows : List Str, vs = [.str (Str.join nl rows)] ∧ IsCut rows ∧ ∀ l H' (ss : List (Addr × List Str)), Same H H' → H l = none → H' l = some (.lst (ss.map fun p => V.ref p.1)) → TupsAt H' ss → (ss.map (·.2)).Nodup → (ss.map (·.2)).Pairwise (fun a b => lexB b a = false) →
  (∀ k, k ∈ ss.map (·.2) ↔ ∃ a b, k = [sgn a, sgn b] ∧ Meet rows a b) → Q (.ref l) H'
section
variable {P : Program} {w : World} {K : PySem.W.Frag} {mg : Str → Option Value} {base : Heap}
set_option maxHeartbeats 4000000 in
theorem C_meetings (T : Txt K mg) : Cal P w K mg base 3 "meetings" ["text"] sp_meet := by
  have C_rows_of : Cal P w K mg base 2 "rows_of" ["text"] sp_rows_of := C_rows_of T
  have C_meetings_between : Cal P w K mg base 1 "meetings_between" ["above", "row"] sp_mb := C_meetings_between T
  refine T.d_meetings.cal sc_meetings (fun vs H Q E h => ?_) (fun f cdv A outer s H vs Q E hr h => ?_)
  · obtain ⟨rows, rfl, _⟩ := h
    rfl
  · obtain ⟨rows, rfl, hcut, kk⟩ := h
    obtain ⟨wd, w1, w2, hwd⟩ := hcut.wide
    have hp : 1 ≤ rows.length := hcut.pos
    have hi40 := hcut.high
    have hne : rows ≠ [] := List.length_pos_iff.mp hp
    refine ⟨_, (QSs.h (ssCons (setE 1 sc_meetings.nd rfl (Or.inl rfl) (Or.inr rfl) rfl (calE C_rows_of hr rfl rfl rfl rfl (paE rfl (vn 0 rfl (Or.inl rfl) rfl rfl) aNil)))
      (ssCons (setE 2 sc_meetings.nd rfl (Or.inl rfl) (Or.inr rfl) rfl (lstE aNil))
      (ssCons (forE PassesOwn.never rfl rfl (zipLI (K := K) rfl rfl T.b_zip rfl rfl (paE rfl (vn 1 rfl (Or.inl rfl) rfl rfl) (paE rfl (slE (K := K) rfl (vn 1 rfl (Or.inl rfl) rfl rfl) (someO eInt) noO) aNil))) (tupG (K := K) rfl rfl rfl (gsE rfl (nameG 3 sc_meetings.nd rfl (Or.inl rfl) (Or.inr rfl)) (gsE rfl (nameG 4 sc_meetings.nd rfl (Or.inl rfl) (Or.inr rfl)) gsNil)))
      (ssOne (exprE rfl (bmE (K := K) rfl PySem.F.plainAttrs_list PySem.F.slot_list_extend PySem.F.type_list_extend m_extend rfl rfl rfl rfl (vn 2 rfl (Or.inl rfl) rfl rfl) (paE rfl (calE C_meetings_between hr rfl rfl rfl rfl (paE rfl (vn 3 rfl (Or.inl rfl) rfl rfl) (paE rfl (vn 4 rfl (Or.inl rfl) rfl rfl) aNil))) aNil)))))
      (ssOne (retS (cbE (k_sortedT (P := P) (w := w) rfl rfl rfl) rfl T.b_sorted PyProof.Rows.boot_sorted rfl rfl rfl (paE rfl (ctE (k_setT (K := K) (P := P) (w := w) rfl rfl rfl rfl hr) rfl T.b_set PyProof.Rows.boot_set rfl rfl rfl (paE rfl (vn 2 rfl (Or.inl rfl) rfl rfl) aNil)) aNil)))))))), ?_⟩
    show tSeq _ _ _ [some (.str (Str.join nl rows)), none, none, none, none] H
    refine seq_op fun D1 k1 r1 => ?_
    walk_at "rd"
    refine ⟨rows, rfl, hcut, fun R H1 s1 f1 hR => k1 _ _ (seq_op fun D2 k2 r2 => ?_)⟩
    walk_at "rd"
    refine ⟨Nat.zero_le _, fun L hL => k2 _ _ (seq_op fun D3 k3 r3 => for_split fun Kont hK => ?_)⟩
    have s2 := Same.upd (o := .lst []) hL
    have hR2 := s2 _ _ hR
    have hLz : upd H1 L (.lst []) L = some (.lst []) := upd_same
    have fL : H L = none := s1.free hL
    have s12 := s1.trans s2
    generalize upd H1 L (.lst []) = H2 at s2 hR2 hLz s12
    walk_at "rd"
    refine .inl ⟨_, SqL.of hR2, fun p hp => ?_⟩
    rw [cutV_tail rows hne]
    have s3 := Same.upd (o := .lst ((rows.drop 1).map V.str)) hp
    have hR3 := s3 _ _ hR2
    have hL3 := s3 _ _ hLz
    have hP3 : upd H2 p (.lst ((rows.drop 1).map V.str)) p = some (.lst ((rows.drop 1).map V.str)) := upd_same
    have s13 := s12.trans s3
    have hLR : L ≠ R := fun e => by rw [e, hR] at hL; cases hL
    have hpL : p ≠ L := fun e => by rw [e, hLz] at hp; cases hp
    generalize upd H2 p (.lst ((rows.drop 1).map V.str)) = H3 at s3 hR3 hL3 hP3 s13
    refine ⟨⟨_, SqL.of hR3⟩, ⟨_, SqL.of hP3⟩, hK _ _ (for_zipL (xs := rows.map V.str) (ys := (rows.drop 1).map V.str) (fun i σ H' => (∃ o3 o4, σ = [some (.str (Str.join nl rows)), some (.ref R), some (.ref L), o3, o4]) ∧ Same H H' ∧ H' R = some (.lst (rows.map V.str)) ∧ H' p = some (.lst ((rows.drop 1).map V.str)) ∧
      ∃ ps : List (Addr × List Str), H' L = some (.lst (ps.map fun q => V.ref q.1)) ∧ TupsAt H' ps ∧ ps.map (·.2) = pairsTo rows i ∧ ps.length ≤ 40 * i) ⟨⟨none, none, rfl⟩, s13, hR3, hP3, [], hL3, tups_nil _, rfl, Nat.zero_le _⟩ (by rw [List.length_map, List.length_map, List.length_drop]; omega) (fun i σ H' _ q => ⟨SqL.of q.2.2.1, SqL.of q.2.2.2.1⟩) ?_ ?_)⟩
    · rintro i x y TT σ H' hx hy ⟨⟨o3, o4, rfl⟩, sm, hR', hP', ps, hL', tps, hks, hlen⟩ hT
      rw [List.getElem?_map] at hx hy
      obtain ⟨u, hu, rfl⟩ := Option.map_eq_some_iff.mp hx
      obtain ⟨r, hr', rfl⟩ := Option.map_eq_some_iff.mp hy
      rw [List.getElem?_drop, Nat.add_comm] at hr'
      have hil : i + 1 < rows.length := (List.getElem?_eq_some_iff.mp hr').1
      have ul : u.length = wd := hwd u (List.mem_of_getElem? hu)
      have rl : r.length = wd := hwd r (List.mem_of_getElem? hr')
      have smT := Same.upd (o := .tup [V.str u, V.str r]) hT
      have hgT : upd H' TT (.tup [V.str u, V.str r]) TT = some (.tup [V.str u, V.str r]) := upd_same
      have hRT := smT _ _ hR'
      have hPT := smT _ _ hP'
      have hLT := smT _ _ hL'
      have tpsT : TupsAt (upd H' TT (.tup [V.str u, V.str r])) ps := tups_keep tps fun b z e => smT _ _ e
      have smH := sm.trans smT
      generalize upd H' TT (.tup [V.str u, V.str r]) = HT at smT hgT hRT hPT hLT tpsT smH
      refine ⟨TT, _, rfl, SqT.of hgT, rfl, ⟨_, _, rfl, ⟨_, _, rfl, ⟨rfl, ?_⟩⟩⟩⟩
      refine ends_op fun D4 k4 r4 => ?_
      walk_at "rd"
      refine ⟨.inl ⟨_, SqL.of hLT⟩, u, r, rfl, by omega, by omega, fun l4 H4 ps4 s4 f4 h4 tps4 e4 => ?_⟩
      have l4L : l4 ≠ L := fun e => by rw [e, hLT] at f4; cases f4
      have len4 : ps4.length ≤ 40 := by
        have : (ps4.map (·.2)).length = (pairUR u r).length := by rw [e4]
        rw [List.length_map] at this
        have := pairUR_len u r
        omega
      refine ⟨_, rfl, _, s4 _ _ hLT, _, h4, by rw [List.length_map, List.length_map]; exact big_line (by omega), k4 _ _ ?_⟩
      have keepT : ∀ b z, H4 b = some (.tup z) → upd H4 L (.lst ((ps.map fun q => V.ref q.1) ++ ps4.map fun q => V.ref q.1)) b = some (.tup z) := fun b z e => by
        have : b ≠ L := fun e2 => by rw [e2, s4 _ _ hLT] at e; cases e
        rw [upd_ne this]; exact e
      have hRL : R ≠ L := Ne.symm hLR
      refine ⟨⟨_, _, rfl⟩, fun b u' e => ?_, by rw [upd_ne hRL]; exact s4 _ _ hRT, by rw [upd_ne hpL]; exact s4 _ _ hPT, ps ++ ps4, by rw [upd_same, List.map_append], tups_keep (tups_app (tups_keep tpsT fun b z e => s4 _ _ e) tps4) keepT, ?_, by rw [List.length_append]; omega⟩
      · rw [upd_ne (ne_of_none e fL)]
        exact s4 _ _ (smH _ _ e)
      · rw [List.map_append, hks, e4, pairsTo_succ]
        have g1 : rows.getD i ⟨#[]⟩ = u := by rw [List.getD_eq_getElem?_getD, hu]; rfl
        have g2 : rows.getD (i + 1) ⟨#[]⟩ = r := by rw [List.getD_eq_getElem?_getD, hr']; rfl
        rw [g1, g2]
    · rintro σ H' ⟨⟨o3, o4, rfl⟩, sm, hR', hP', ps, hL', tps, hks, hlen⟩
      rw [List.length_map, List.length_drop] at hks
      refine k3 _ _ ?_
      walk_at "rd"
      have inU : ∀ q ∈ ps, q.2 ∈ allPairs ∧ q.2.length = 2 ∧ q.2 ≠ [] := fun q hq => meet_in hcut (by rw [← hks]; exact List.mem_map.mpr ⟨q, hq, rfl⟩)
      refine ⟨ps, SqL.of hL', tps, ⟨allPairs, by rw [all_len]; decide, fun q hq => (inU q hq).1⟩, fun l5 hl5 => ?_⟩
      have s5 := Same.upd (o := SetTO P w l5 (firstsT ps)) hl5
      have fU : ∀ q ∈ firstsT ps, q.2 ∈ allPairs ∧ q.2.length = 2 ∧ q.2 ≠ [] := fun q hq => inU q (firstsT_sub ps q hq)
      have few : (firstsT ps).length ≤ 1000 := by
        have := STab.nodup_sub (firstsT_nodup ps) (m := allPairs) fun k hk => by
          obtain ⟨q, hq, rfl⟩ := List.mem_map.mp hk
          exact (fU q hq).1
        rw [List.length_map, all_len] at this
        omega
      refine ⟨firstsT ps, upd_same, fun q hq => ⟨(tps q (firstsT_sub ps q hq)).1, s5 _ _ (tps q (firstsT_sub ps q hq)).2⟩, 2, fun q hq => (fU q hq).2.1, by decide, few, fun l6 ss hl6 pm so => ?_⟩
      have s6 := Same.upd (o := .lst (ss.map fun q => V.ref q.1)) hl6
      have sall := (sm.trans s5).trans s6
      have pk : (ss.map (·.2)).Perm ((firstsT ps).map (·.2)) := pm.map _
      refine kk l6 _ ss sall ((sm.trans s5).free hl6) upd_same (fun q hq => ?_) (pk.nodup_iff.mpr (firstsT_nodup ps)) (by rw [List.pairwise_map]; exact so) fun k => ?_
      · have hq' := pm.mem_iff.mp hq
        have := tps q (firstsT_sub ps q hq')
        exact ⟨this.1, s6 _ _ (s5 _ _ this.2)⟩
      · rw [pk.mem_iff, firstsT_keys, hks]
        exact mem_pairs
end

theorem for_text {z : Str} {g : TG} {tb : TS} {D : Ends} {σ : St} {H : Hp} (Pv : Nat → St → Hp → Prop) (h0 : Pv 0 σ H)
    (hs : ∀ i c σ H, z.cps[i]? = some c → Pv i σ H → g (.str ⟨#[c]⟩) σ H fun σ2 H2 => tb { D with nx := Pv (i + 1), ct := Pv (i + 1), bk := D.nx } σ2 H2) (hd : ∀ σ H, Pv z.cps.size σ H → D.nx σ H) :
    ∃ W : Nat → Nat → St → Hp → Prop, (∃ m, W 0 m σ H) ∧ ∀ i m σ H, W i m σ H →
      ((Its z).stop i H ∧ D.nx σ H) ∨ ((Its z).go i H ∧ ∃ N : St → Hp → Prop, (∀ σ' H', N σ' H' → ∃ m', m' < m ∧ W (i + 1) m' σ' H') ∧ ∀ x H', (Its z).yld i H x H' → g x σ H' fun σ2 H2 => tb { D with nx := N, ct := N, bk := D.nx } σ2 H2) := by
  refine ⟨fun i m σ H => m = z.cps.size - i ∧ i ≤ z.cps.size ∧ Pv i σ H, ⟨z.cps.size, by simp, Nat.zero_le _, h0⟩, ?_⟩
  rintro i m σ H ⟨rfl, hi, p⟩
  by_cases hlt : i < z.cps.size
  · refine .inr ⟨hlt, Pv (i + 1), fun σ' H' p' => ⟨z.cps.size - (i + 1), by omega, rfl, hlt, p'⟩, fun x H' y => ?_⟩
    obtain ⟨e, c, hc, rfl⟩ := y
    subst e
    exact hs i c σ _ hc p
  · have e : i = z.cps.size := by omega
    subst e
    exact .inl ⟨Nat.le_refl _, hd σ H p⟩
noncomputable def hasB (rows : List Str) (c : Nat) : Bool := rows.any fun r => decide (c ∈ r.cps.toList)
theorem inV_true (p : Str → Bool) (rows : List Str) : inV (V.bl true) (rows.map fun r => V.bl (p r)) = rows.any p := by
  unfold inV
  rw [List.any_map]
  congr 1
  funext r
  show eqV (V.bl (p r)) (V.bl true) = p r
  cases p r <;> rfl
theorem filt_next {cs : List Nat} {i c : Nat} (h : cs[i]? = some c) (p : Nat → Bool) : (cs.take (i + 1)).filter p = (cs.take i).filter p ++ if p c = true then [c] else [] := by
  rw [List.take_add_one, h, List.filter_append]
  congr 1
  show List.filter p [c] = _
  cases hp : p c <;> simp [hp]
noncomputable def sp_ll (K : PySem.W.Frag) : Sp := fun vs H Q _ => ∃ (a : Addr) (rows : List Str), vs = [.ref a] ∧ SqL K H a (rows.map V.str) ∧ rows.length ≤ 40 ∧ (∀ H', Same H H' → SqL K H' a (rows.map V.str)) ∧ ∀ l H', Same H H' → H l = none → H' l = some (.lst (((letters.cps.toList.filter (hasB rows)).map sgn).map V.str)) → Q (.ref l) H'
section
variable {P : Program} {w : World} {K : PySem.W.Frag} {mg : Str → Option Value} {base : Heap}
set_option maxHeartbeats 4000000 in
theorem C_law_letters (T : Txt K mg) : Cal P w K mg base 1 "_law_letters" ["_law_rows"] (sp_ll K) := by
  refine T.d_law_letters.cal sc_law_letters (fun vs H Q E h => ?_) (fun f cdv A outer s H vs Q E hr h => ?_)
  · obtain ⟨a, rows, rfl, _⟩ := h
    rfl
  · obtain ⟨a, rows, rfl, hs, hn, keep, kk⟩ := h
    refine ⟨_, (QSs.h (ssCons (setE 1 sc_law_letters.nd rfl (Or.inl rfl) (Or.inr rfl) rfl (lstE aNil))
      (ssCons (forE PassesOwn.never rfl rfl (anyI (K := K) rfl eStr) (nameG 2 sc_law_letters.nd rfl (Or.inr rfl) (Or.inl rfl))
      (ssOne (ifS (cmpT (q_in (K := K) rfl) rfl eBl (compE (CompScope.of (show compOk (defScope s_law_letters) ["_law_rows", "_law_found", "_law_letter"] _ ["_law_row_here", "_law_letter"] [(1, 2)] = true from by decide +kernel)) rfl rfl (anyI (K := K) rfl (vn 0 rfl (Or.inl rfl) rfl rfl)) (fun _ _ _ => (nameG 0 (show (["_law_row_here", "_law_letter"] : List Str).Nodup from by decide +kernel) rfl (Or.inl rfl) (Or.inr rfl))) (fun _ _ _ => noTs) (fun _ _ _ => (cmpE (q_in (K := K) rfl) rfl (vn 1 rfl (Or.inr (Or.inl rfl)) rfl rfl) (vn 0 rfl (Or.inl rfl) rfl rfl)))))
        (ssOne (exprE rfl (bmE (K := K) rfl PySem.F.plainAttrs_list PySem.F.slot_list_append PySem.F.type_list_append m_append rfl rfl rfl rfl (vn 1 rfl (Or.inl rfl) rfl rfl) (paE rfl (vn 2 rfl (Or.inr (Or.inl rfl)) rfl rfl) aNil))))
        ssNil)))
      (ssOne (retS (vn 1 rfl (Or.inl rfl) rfl rfl)))))), ?_⟩
    show tSeq _ _ _ [some (.ref a), none, none] H
    refine seq_op fun D1 k1 r1 => ?_
    walk_at "rd"
    refine ⟨Nat.zero_le _, fun L hL => k1 _ _ (seq_op fun D2 k2 r2 => for_split fun Kont hK => ?_)⟩
    walk_at "rd"
    have s1 := Same.upd (o := .lst []) hL
    refine hK _ _ (for_text (fun i σ H' => (∃ o, σ = [some (.ref a), some (.ref L), o]) ∧ Same H H' ∧ H' L = some (.lst ((((letters.cps.toList.take i).filter (hasB rows)).map sgn).map V.str))) ⟨⟨none, rfl⟩, s1, upd_same⟩ ?_ ?_)
    · rintro i c σ H' hc ⟨⟨o, rfl⟩, sm, hLv⟩
      refine ends_op fun D3 k3 r3 => ?_
      show tIfS _ _ _ _ [some (.ref a), some (.ref L), some (.str ⟨#[c]⟩)] H'
      walk_at "rd"
      refine comp_split fun Kont hK => ?_
      walk_at "rd"
      refine .inl ⟨⟨_, keep _ sm⟩, hK _ _ fun D hD => ?_⟩
      have hDL : D ≠ L := fun e => by rw [e, hLv] at hD; cases hD
      refine comp_by (J := Itl K a) (n := rows.length) (D := D) (fun q ys σ H2 => (∃ o, σ = [o, some (.str ⟨#[c]⟩)]) ∧ Same H' H2 ∧ H2 D = some (.lst ys) ∧ ys = (rows.take q).map (fun r => V.bl (decide (c ∈ r.cps.toList)))) ⟨⟨none, rfl⟩, Same.upd hD, upd_same, rfl⟩
        (fun q _ _ H2 hq ⟨_, s2, _⟩ => ⟨_, V.str rows[q], keep _ (sm.trans s2), by simp [hq]⟩) (fun _ _ H2 ⟨_, s2, _⟩ => ⟨_, keep _ (sm.trans s2), by simp⟩) ?_ ?_
      · rintro q ys σ H4 hq ⟨⟨o, rfl⟩, s4, hd, hy⟩ x H5 ⟨e5, hx⟩
        subst e5
        have hxi := hx _ (keep _ (sm.trans s4))
        rw [List.getElem?_map, List.getElem?_eq_getElem hq] at hxi
        obtain rfl : x = V.str rows[q] := (Option.some.inj hxi).symm
        walk_at "rd"
        rw [in_one]
        refine CK.mk hq hd ?_ ⟨⟨_, rfl⟩, ?_, upd_same, ?_⟩
        · rw [hy, List.length_map, List.length_take, PySem.sizeLine_eq]; omega
        · exact fun b u e => by rw [upd_ne (ne_of_none e hD)]; exact s4 _ _ e
        · rw [hy, List.take_add_one, List.map_append, List.getElem?_eq_getElem hq]; rfl
      · rintro ys σ H4 ⟨_, s4, hd, hy⟩
        rw [List.take_of_length_le (Nat.le_refl _)] at hy
        have hL4 := s4 _ _ hLv
        have hci : letters.cps.toList[i]? = some c := by rw [Array.getElem?_toList]; exact hc
        have nx := filt_next hci (hasB rows)
        have s14 := sm.trans s4
        walk_at "rd"
        refine ⟨_, .inl (SqL.of hd), rfl, by rw [hy]; simp [flatV], ?_⟩
        rw [hy, inV_true]
        refine ite2 (fun hb => ?_) fun hb => ?_
        · have hb : hasB rows c = true := hb
          refine ⟨.inl ⟨_, SqL.of hL4⟩, _, hL4, ?_, k3 _ _ ⟨⟨_, rfl⟩, fun b u e => by rw [upd_ne (ne_of_none e hL)]; exact s14 _ _ e, ?_⟩⟩
          · rw [List.length_map, List.length_map, PySem.sizeLine_eq]
            have := List.length_filter_le (hasB rows) (letters.cps.toList.take i)
            have l26 : letters.cps.toList.length = 26 := by decide +kernel
            rw [List.length_take] at this
            omega
          · rw [upd_same, nx, if_pos hb, List.map_append, List.map_append]
            rfl
        · have hb : ¬ hasB rows c = true := hb
          refine k3 _ _ ⟨⟨_, rfl⟩, s14, ?_⟩
          rw [nx, if_neg hb, List.append_nil]
          exact hL4
    · rintro σ H' ⟨⟨o, rfl⟩, sm, hLv⟩
      refine k2 _ _ ?_
      walk_at "rd"
      rw [List.take_of_length_le (by simp [letters])] at hLv
      exact kk L H' sm hL hLv
end

noncomputable def KeysAre (kvs : List (List Key × V)) (m : List Str → Prop) : Prop := ∃ ks : List (List Str), kvs.map (·.1) = ks.map (fun k => k.map Sum.inr) ∧ ks.Nodup ∧ ∀ k, k ∈ ks ↔ m k
theorem keys_put {kvs : List (List Key × V)} {m : List Str → Prop} (h : KeysAre kvs m) (k : List Str) (v : V) : KeysAre (putK kvs (k.map Sum.inr) v) fun z => m z ∨ z = k := by
  obtain ⟨ks, h1, h2, h3⟩ := h
  have hm : (k.map (Sum.inr : Str → Key)) ∈ kvs.map (·.1) ↔ k ∈ ks := by
    rw [h1, List.mem_map]
    constructor
    · rintro ⟨z, hz, e⟩
      rw [← inr_inj _ _ e]; exact hz
    · intro hk
      exact ⟨k, hk, rfl⟩
  by_cases hk : k ∈ ks
  · refine ⟨ks, by rw [putK_keys, if_pos (hm.mpr hk)]; exact h1, h2, fun z => ?_⟩
    rw [h3]
    constructor
    · exact .inl
    · rintro (e | e)
      · exact e
      · rw [e]; exact (h3 k).mp hk
  · refine ⟨ks ++ [k], by rw [putK_keys, if_neg (fun q => hk (hm.mp q)), h1, List.map_append]; rfl, ?_, fun z => ?_⟩
    · rw [List.nodup_append]
      exact ⟨h2, by simp, fun a ha b hb e => by rw [List.mem_singleton.mp hb] at e; rw [e] at ha; exact hk ha⟩
    · rw [List.mem_append, h3, List.mem_singleton]
theorem keys_same {kvs : List (List Key × V)} {m m' : List Str → Prop} (h : KeysAre kvs m) (e : ∀ k, m k ↔ m' k) : KeysAre kvs m' := by
  obtain ⟨ks, h1, h2, h3⟩ := h
  exact ⟨ks, h1, h2, fun k => (h3 k).trans (e k)⟩
theorem pairs_up {rows : List Str} {i n : Nat} (h : i ≤ n) {k : List Str} (hk : k ∈ pairsTo rows i) : k ∈ pairsTo rows n := by
  unfold pairsTo at hk ⊢
  obtain ⟨j, hj, e⟩ := List.mem_flatMap.mp hk
  exact List.mem_flatMap.mpr ⟨j, List.mem_range.mpr (Nat.lt_of_lt_of_le (List.mem_range.mp hj) h), e⟩
theorem take_fm {l : List (Nat × Nat)} {j : Nat} {k : List Str} (h : k ∈ (l.take j).filterMap pairF) : k ∈ l.filterMap pairF := by
  obtain ⟨p, hp, e⟩ := List.mem_filterMap.mp h
  exact List.mem_filterMap.mpr ⟨p, List.mem_of_mem_take hp, e⟩
noncomputable def sp_lm (K : PySem.W.Frag) : Sp := fun vs H Q _ => ∃ (a : Addr) (rows : List Str), vs = [.ref a] ∧ (∀ H', Same H H' → SqL K H' a (rows.map V.str)) ∧ IsCut rows ∧ ∀ l H' (ss : List (Addr × List Str)), Same H H' → H l = none → H' l = some (.lst (ss.map fun p => V.ref p.1)) → TupsAt H' ss → (ss.map (·.2)).Nodup → (ss.map (·.2)).Pairwise (fun a b => lexB b a = false) →
  (∀ k, k ∈ ss.map (·.2) ↔ ∃ a b, k = [sgn a, sgn b] ∧ Meet rows a b) → Q (.ref l) H'
section
variable {P : Program} {w : World} {K : PySem.W.Frag} {mg : Str → Option Value} {base : Heap}
set_option maxHeartbeats 4000000 in
theorem C_law_meetings (T : Txt K mg) : Cal P w K mg base 1 "_law_meetings" ["_law_rows"] (sp_lm K) := by
  refine T.d_law_meetings.cal sc_law_meetings (fun vs H Q E h => ?_) (fun f cdv A outer s H vs Q E hr h => ?_)
  · obtain ⟨a, rows, rfl, _⟩ := h
    rfl
  · obtain ⟨a, rows, rfl, keep, hcut, kk⟩ := h
    obtain ⟨wd, w1, w2, hwd⟩ := hcut.wide
    have hp : 1 ≤ rows.length := hcut.pos
    have hi40 := hcut.high
    refine ⟨_, (QSs.h (ssCons (setE 1 sc_law_meetings.nd rfl (Or.inl rfl) (Or.inr rfl) rfl dnewTE)
      (ssCons (forE PassesOwn.never rfl rfl (rng2E rfl T.b_range rfl rfl (paE rfl eInt (paE rfl (cbE (k_len (K := K) rfl) rfl T.b_len PySem.boot_len rfl rfl rfl (paE rfl (vn 0 rfl (Or.inl rfl) rfl rfl) aNil)) aNil))) (nameG 2 sc_law_meetings.nd rfl (Or.inl rfl) (Or.inr rfl))
      (ssOne (forE PassesOwn.never rfl rfl (rng1E rfl T.b_range rfl (paE rfl (cbE (k_len (K := K) rfl) rfl T.b_len PySem.boot_len rfl rfl rfl (paE rfl (ixLE (K := K) rfl (fun _ _ => rfl) (vn 0 rfl (Or.inl rfl) rfl rfl) (vn 2 rfl (Or.inl rfl) rfl rfl)) aNil)) aNil)) (nameG 3 sc_law_meetings.nd rfl (Or.inl rfl) (Or.inr rfl))
        (ssOne (ifS (wT (andW (cmpT q_neA rfl (ixSE (fun _ _ => rfl) (ixLE (K := K) rfl (fun _ _ => rfl) (vn 0 rfl (Or.inl rfl) rfl rfl) (opE q_sub (vn 2 rfl (Or.inl rfl) rfl rfl) eInt)) (vn 3 rfl (Or.inl rfl) rfl rfl)) eStr) (and1W (cmpT q_neA rfl (ixSE (fun _ _ => rfl) (ixLE (K := K) rfl (fun _ _ => rfl) (vn 0 rfl (Or.inl rfl) rfl rfl) (opE q_sub (vn 2 rfl (Or.inl rfl) rfl rfl) eInt)) (vn 3 rfl (Or.inl rfl) rfl rfl)) (ixSE (fun _ _ => rfl) (ixLE (K := K) rfl (fun _ _ => rfl) (vn 0 rfl (Or.inl rfl) rfl rfl) (vn 2 rfl (Or.inl rfl) rfl rfl)) (vn 3 rfl (Or.inl rfl) rfl rfl))))))
          (ssOne (dputS hr rfl eBl (vn 1 rfl (Or.inl rfl) rfl rfl) (tupE (paE rfl (ixSE (fun _ _ => rfl) (ixLE (K := K) rfl (fun _ _ => rfl) (vn 0 rfl (Or.inl rfl) rfl rfl) (opE q_sub (vn 2 rfl (Or.inl rfl) rfl rfl) eInt)) (vn 3 rfl (Or.inl rfl) rfl rfl)) (paE rfl (ixSE (fun _ _ => rfl) (ixLE (K := K) rfl (fun _ _ => rfl) (vn 0 rfl (Or.inl rfl) rfl rfl) (vn 2 rfl (Or.inl rfl) rfl rfl)) (vn 3 rfl (Or.inl rfl) rfl rfl)) aNil)))))
          ssNil)))))
      (ssOne (retS (cbE (k_sortedD rfl) rfl T.b_sorted PyProof.Rows.boot_sorted rfl rfl rfl (paE rfl (vn 1 rfl (Or.inl rfl) rfl rfl) aNil))))))), ?_⟩
    show tSeq _ _ _ [some (.ref a), none, none, none] H
    refine seq_op fun D1 k1 r1 => ?_
    walk_at "rd"
    simp only [tDNewT]
    intro L hL
    refine k1 _ _ (seq_op fun D2 k2 r2 => for_split fun Kont hK => ?_)
    walk_at "rd"
    have s1 := Same.upd (o := .dT []) hL
    have en : ((rows.length : Int) - 1).toNat = rows.length - 1 := by omega
    refine ⟨rows.length, .inl ⟨_, keep _ s1, by simp⟩, by decide, by decide, by omega, by omega, ?_⟩
    rw [en]
    refine hK _ _ (for_range (fun i σ H' => (∃ o1 o2, σ = [some (.ref a), some (.ref L), o1, o2]) ∧ Same H H' ∧ ∃ kvs, H' L = some (.dT kvs) ∧ KeysAre kvs fun k => k ∈ pairsTo rows i) ⟨⟨none, none, rfl⟩, s1, [], upd_same, ⟨[], rfl, List.nodup_nil, fun k => by simp [pairsTo]⟩⟩ ?_ ?_)
    · rintro i σ H' hi ⟨⟨o1, o2, rfl⟩, sm, kvs, hLv, hks⟩
      have ei : (1 : Int) + (i : Int) = ((i + 1 : Nat) : Int) := by omega
      show tFor _ _ _ _ [some (.ref a), some (.ref L), some (.int ((1 : Int) + (i : Int))), o2] H'
      rw [ei]
      refine ends_op fun D3 k3 r3 => ?_
      show tFor _ _ _ _ [some (.ref a), some (.ref L), some (.int ((i + 1 : Nat) : Int)), o2] H'
      refine for_split fun Kont hK => ?_
      walk_at "rd"
      have hi1 : i + 1 < rows.length := by have : i < rows.length - 1 := hi; omega
      obtain ⟨u, hu⟩ : ∃ u, rows[i]? = some u := ⟨rows[i], by simp [show i < rows.length by omega]⟩
      obtain ⟨r, hr'⟩ : ∃ r, rows[i + 1]? = some r := ⟨rows[i + 1], by simp [hi1]⟩
      have ul : u.cps.size = wd := hwd u (List.mem_of_getElem? hu)
      have rl : r.cps.size = wd := hwd r (List.mem_of_getElem? hr')
      have aR : atI (rows.map V.str) ((i + 1 : Nat) : Int) = some (.str r) := atI_nat (by rw [List.getElem?_map, hr']; rfl)
      have aU : atI (rows.map V.str) (((i + 1 : Nat) : Int) - 1) = some (.str u) := by
        rw [show ((i + 1 : Nat) : Int) - 1 = (i : Int) by omega]
        exact atI_nat (by rw [List.getElem?_map, hu]; rfl)
      refine ⟨_, keep _ sm, .str r, aR, r.length, ⟨by rw [PySem.sizeLine_eq]; show r.cps.size ≤ _; omega, rfl⟩, by omega, by show ((r.cps.size : Nat) : Int) < _; omega, ?_⟩
      rw [Int.toNat_natCast]
      refine hK _ _ (for_range (fun j σ H'' => (∃ o2, σ = [some (.ref a), some (.ref L), some (.int ((i + 1 : Nat) : Int)), o2]) ∧ Same H H'' ∧ ∃ kvs, H'' L = some (.dT kvs) ∧ KeysAre kvs fun k => k ∈ pairsTo rows i ∨ k ∈ ((List.zip u.cps.toList r.cps.toList).take j).filterMap pairF) ⟨⟨o2, rfl⟩, sm, kvs, hLv, keys_same hks fun k => by simp⟩ ?_ ?_)
      · rintro j σ H2 hj ⟨⟨o, rfl⟩, sm2, kvs2, hL2, hk2⟩
        have hj : j < r.length := hj
        show tIfS _ _ _ _ [some (.ref a), some (.ref L), some (.int ((i + 1 : Nat) : Int)), some (.int ((0 : Int) + (j : Int)))] H2
        rw [Int.zero_add]
        refine ends_op fun D4 k4 r4 => ?_
        show tIfS _ _ _ _ [some (.ref a), some (.ref L), some (.int ((i + 1 : Nat) : Int)), some (.int (j : Int))] H2
        have hjr : j < r.cps.size := hj
        obtain ⟨c, hc⟩ : ∃ c, u.cps[j]? = some c := ⟨u.cps[j]'(by omega), by simp [show j < u.cps.size by omega]⟩
        obtain ⟨d, hd⟩ : ∃ d, r.cps[j]? = some d := ⟨r.cps[j], by simp [hjr]⟩
        have aC : atI u.cps.toList (j : Int) = some c := atI_nat (by rw [Array.getElem?_toList]; exact hc)
        have aD : atI r.cps.toList (j : Int) = some d := atI_nat (by rw [Array.getElem?_toList]; exact hd)
        have uz : u.length ≤ sizeLine := by rw [PySem.sizeLine_eq]; show u.cps.size ≤ _; omega
        have rz : r.length ≤ sizeLine := by rw [PySem.sizeLine_eq]; show r.cps.size ≤ _; omega
        have nx := zip_next u r j c d hc hd
        have kH := keep _ sm2
        have stay : pairF (c, d) = none → KeysAre kvs2 fun k => k ∈ pairsTo rows i ∨ k ∈ ((List.zip u.cps.toList r.cps.toList).take (j + 1)).filterMap pairF := fun e => keys_same hk2 fun k => by
          rw [← nx, List.filterMap_append, List.filterMap_cons, e]
          simp
        walk_at "rd"
        simp only [dot_eq, sgn_eq]
        refine ⟨_, kH, _, aU, u, rfl, uz, c, aC, ite2 (fun h1 => ?_) fun h1 => ?_⟩
        · have h1 : c ≠ 46 := by simpa using h1
          refine ⟨_, kH, _, aU, u, rfl, uz, c, aC, _, kH, _, aR, r, rfl, rz, d, aD, ite2 (fun h2 => ?_) fun h2 => ?_⟩
          · have h2 : c ≠ d := by simpa using h2
            simp only [sDPut]
            walk_at "rd"
            refine ⟨_, kH, _, aU, u, rfl, uz, c, aC, _, kH, _, aR, r, rfl, rz, d, aD, show 2 ≤ sizeLine from by decide, fun p hp => ?_⟩
            have sp := Same.upd (o := .tup [V.str ⟨#[c]⟩, V.str ⟨#[d]⟩]) hp
            have g1 : rows.getD i ⟨#[]⟩ = u := by rw [List.getD_eq_getElem?_getD, hu]; rfl
            have g2 : rows.getD (i + 1) ⟨#[]⟩ = r := by rw [List.getD_eq_getElem?_getD, hr']; rfl
            have bnd : kvs2.length ≤ 729 := by
              obtain ⟨ks, q1, q2, q3⟩ := hk2
              have hlt := STab.nodup_sub q2 (m := allPairs) fun k hk => by
                have hin : k ∈ pairsTo rows (rows.length - 1) := by
                  rcases (q3 k).mp hk with e | e
                  · exact pairs_up (by omega) e
                  · refine pairs_up (i := i + 1) (by omega) ?_
                    rw [pairsTo_succ, g1, g2]
                    exact List.mem_append_right _ (take_fm e)
                exact (meet_in hcut hin).1
              have l := congrArg List.length q1
              rw [List.length_map, List.length_map] at l
              rw [all_len] at hlt
              omega
            have pf : pairF (c, d) = some [sgn c, sgn d] := if_pos ⟨h1, h2⟩
            refine ⟨_, DPut.t (k := [sgn c, sgn d].map Sum.inr) (sp _ _ hL2) (by rw [upd_same]; rfl) (by rw [PySem.sizeLine_eq]; omega), k4 _ _ ⟨⟨_, rfl⟩, fun b u' e => by rw [upd_ne (ne_of_none e hL)]; exact sp _ _ (sm2 _ _ e), _, upd_same, keys_same (keys_put hk2 [sgn c, sgn d] (.bl true)) fun k => ?_⟩⟩
            rw [← nx, List.filterMap_append, List.filterMap_cons, pf, List.mem_append, or_assoc]
            simp
          · have h2 : c = d := by simpa using h2
            exact k4 _ _ ⟨⟨_, rfl⟩, sm2, kvs2, hL2, stay (if_neg fun q => q.2 h2)⟩
        · have h1 : c = 46 := by simpa using h1
          exact k4 _ _ ⟨⟨_, rfl⟩, sm2, kvs2, hL2, stay (if_neg fun q => q.1 h1)⟩
      · rintro σ H2 ⟨⟨o, rfl⟩, sm2, kvs2, hL2, hk2⟩
        refine k3 _ _ ⟨⟨_, _, rfl⟩, sm2, kvs2, hL2, keys_same hk2 fun k => ?_⟩
        rw [List.take_of_length_le (by rw [List.length_zip]; simp; show min u.cps.size r.cps.size ≤ r.cps.size; omega), pairsTo_succ, List.mem_append]
        have g1 : rows.getD i ⟨#[]⟩ = u := by rw [List.getD_eq_getElem?_getD, hu]; rfl
        have g2 : rows.getD (i + 1) ⟨#[]⟩ = r := by rw [List.getD_eq_getElem?_getD, hr']; rfl
        rw [g1, g2]
        exact Iff.rfl
    · rintro σ H' ⟨⟨o1, o2, rfl⟩, sm, kvs, hLv, hks⟩
      refine k2 _ _ ?_
      walk_at "rd"
      obtain ⟨ks, q1, q2, q3⟩ := hks
      have inU : ∀ k ∈ ks, k ∈ allPairs ∧ k.length = 2 ∧ k ≠ [] := fun k hk => meet_in hcut ((q3 k).mp hk)
      have few : ks.length ≤ 1000 := by
        have := STab.nodup_sub q2 (m := allPairs) fun k hk => (inU k hk).1
        rw [all_len] at this
        omega
      refine ⟨kvs, hLv, ks, q1, 2, fun k hk => (inU k hk).2.1, by decide, few, fun l ss hl ta pm so => ?_⟩
      have s2 := Same.upd (o := .lst (ss.map fun p => V.ref p.1)) hl
      refine kk l _ ss (sm.trans s2) (sm.free hl) upd_same (fun p hp => ⟨(ta p hp).1, s2 _ _ (ta p hp).2⟩) (pm.nodup_iff.mpr q2) so fun k => ?_
      rw [pm.mem_iff, q3]
      exact mem_pairs
end

theorem pair_of_sorted : ∀ {ss : List Str}, PyProof.Rows.sortedS ss = true → ss.Pairwise (fun a b => sltB b a = false)
  | [], _ => List.Pairwise.nil
  | x :: r, h => by
    have : ∀ (l : List Str) (p : Str), PyProof.Rows.risingS p l = true → (p :: l).Pairwise (fun a b => sltB b a = false) := by
      intro l
      induction l with
      | nil => intro p _; simp
      | cons y t ih =>
        intro p hq
        rw [PyProof.Rows.risingS, Bool.and_eq_true, PyProof.Rows.ltCps_eq] at hq
        have q := ih y hq.2
        refine List.pairwise_cons.mpr ⟨fun b hb => ?_, q⟩
        have hyp : sltB y p = false := by simpa [sltB] using hq.1
        rcases List.mem_cons.mp hb with e | e
        · rw [e]; exact hyp
        · have hby := (List.pairwise_cons.mp q).1 b e
          cases hbp : sltB b p with
          | false => rfl
          | true =>
            by_cases hpy : p = y
            · rw [← hpy] at hby; rw [hby] at hbp; cases hbp
            · have h1 : sltB p y = true := slt_total hyp (Ne.symm hpy)
              have := slt_trans hbp h1
              rw [hby] at this; cases this
    exact this r x h
theorem meets_one {rows rows' : List Str} (h : Alike rows rows') {ks ks' : List (List Str)} (n : ks.Nodup) (o : ks.Pairwise (fun a b => lexB b a = false)) (m : ∀ k, k ∈ ks ↔ ∃ a b, k = [sgn a, sgn b] ∧ Meet rows a b)
    (n' : ks'.Nodup) (o' : ks'.Pairwise (fun a b => lexB b a = false)) (m' : ∀ k, k ∈ ks' ↔ ∃ a b, k = [sgn a, sgn b] ∧ Meet rows' a b) : ks = ks' := by
  refine sorted_one lexB (fun x y h1 h2 => lex_total h1 h2) o o' n n' fun z => ?_
  rw [m, m']
  constructor
  · rintro ⟨a, b, e, hc⟩
    exact ⟨a, b, e, (h.2 a b).mp hc⟩
  · rintro ⟨a, b, e, hc⟩
    exact ⟨a, b, e, (h.2 a b).mpr hc⟩
noncomputable def dPair (k : List Str) : D := .tup (k.map D.str)
theorem hasL_tups {K : PySem.W.Frag} {H : Hp} : ∀ {ss : List (Addr × List Str)}, TupsAt H ss → HasL K H (ss.map fun p => dPair p.2) (ss.map fun p => V.ref p.1)
  | [], _ => by simp only [List.map_nil, HasL]
  | p :: r, h => by
    simp only [List.map_cons, HasL]
    refine ⟨_, _, rfl, ?_, hasL_tups fun q hq => h q (List.mem_cons_of_mem _ hq)⟩
    unfold dPair
    simp only [Has]
    exact ⟨p.1, _, rfl, SqT.of (h p List.mem_cons_self).2, HasL.strs _⟩
theorem deps_pairs : ∀ (ks : List (List Str)), D.deps (ks.map dPair) ≤ 1
  | [] => by simp [D.deps]
  | k :: r => by
    have := deps_pairs r
    simp only [List.map_cons, D.deps, dPair, D.dep, deps_strs]
    show max (0 + 1) (D.deps (r.map dPair)) ≤ 1
    omega
theorem let_in {rows : List Str} (h : IsCut rows) {c : Nat} (hl : Let rows c) : c ∈ letters.cps.toList := by
  obtain ⟨hne, r, hr, hc⟩ := hl
  have := List.all_eq_true.mp (h.sign r hr) c hc
  unfold okc at this
  rcases (Bool.or_eq_true _ _).mp this with q | q
  · exact absurd (of_decide_eq_true q) hne
  · exact of_decide_eq_true q
theorem hasB_let {rows : List Str} {c : Nat} (h : c ∈ letters.cps.toList) : hasB rows c = true ↔ Let rows c := by
  have hne : c ≠ 46 := fun e => by rw [e] at h; revert h; decide +kernel
  unfold hasB Let
  rw [List.any_eq_true]
  constructor
  · rintro ⟨r, hr, e⟩
    exact ⟨hne, r, hr, of_decide_eq_true e⟩
  · rintro ⟨_, r, hr, e⟩
    exact ⟨r, hr, decide_eq_true e⟩
theorem lets_ll {rows : List Str} (h : IsCut rows) {ss : List Str} (p : ss.Perm (firstsOf ((signsOf rows).map sgn))) (q : PyProof.Rows.sortedS ss = true) : ss = (letters.cps.toList.filter (hasB rows)).map sgn := by
  have srt : letters.cps.toList.Pairwise (· < ·) := by decide +kernel
  have sf : (letters.cps.toList.filter (hasB rows)).Pairwise (· < ·) := srt.filter _
  refine sorted_one sltB (fun x y h1 h2 => slt_total h1 h2) (pair_of_sorted q) ?_ (p.nodup_iff.mpr (firstsOf_nodup _)) ?_ fun z => ?_
  · rw [List.pairwise_map]
    refine sf.imp fun {a b} hab => ?_
    unfold sltB
    refine decide_eq_false fun hlt => ?_
    have : ([b] : List Nat) < [a] := hlt
    have hba : b < a := by
      rcases List.cons_lt_cons_iff.mp this with z | z
      · exact z
      · exact absurd z.2 (List.lt_irrefl _)
    omega
  · rw [List.nodup_iff_pairwise_ne, List.pairwise_map]
    exact sf.imp fun {a b} hab e => by have := sgn_inj e; omega
  · rw [p.mem_iff, firstsOf_mem, List.mem_map, List.mem_map]
    constructor
    · rintro ⟨c, hc, rfl⟩
      have hl := signs_iff.mp hc
      exact ⟨c, List.mem_filter.mpr ⟨let_in h hl, (hasB_let (let_in h hl)).mpr hl⟩, rfl⟩
    · rintro ⟨c, hc, rfl⟩
      obtain ⟨h1, h2⟩ := List.mem_filter.mp hc
      exact ⟨c, signs_iff.mpr ((hasB_let h1).mp h2), rfl⟩
theorem alike_self (rows : List Str) : Alike rows rows := ⟨fun _ => Iff.rfl, fun _ _ => Iff.rfl⟩
theorem has_tups {K : PySem.W.Frag} {H : Hp} {l : Addr} {ss : List (Addr × List Str)} (h : H l = some (.lst (ss.map fun p => V.ref p.1))) (t : TupsAt H ss) : Has K H (.lst (ss.map fun p => dPair p.2)) (.ref l) := by
  simp only [Has]
  exact ⟨l, _, rfl, SqL.of h, hasL_tups t⟩
theorem deps_tups (ss : List (Addr × List Str)) : D.deps (ss.map fun p => dPair p.2) ≤ 40 := by
  have := deps_pairs (ss.map (·.2))
  rw [List.map_map] at this
  exact Nat.le_trans this (by decide)
theorem beqs_tups {s3 s4 : List (Addr × List Str)} (e : s3.map (·.2) = s4.map (·.2)) : D.beqs (s3.map fun p => dPair p.2) (s4.map fun p => dPair p.2) = true := by
  have e3 : s3.map (fun p => dPair p.2) = (s3.map (·.2)).map dPair := by rw [List.map_map]; rfl
  have e4 : s4.map (fun p => dPair p.2) = (s4.map (·.2)).map dPair := by rw [List.map_map]; rfl
  rw [e3, e4, e, D.beqs_refl]

noncomputable def sp_right (K : PySem.W.Frag) : Sp := fun vs H Q _ => ∃ (a b : Addr) (rows beside : List Str), vs = [.ref a, .ref b] ∧ (∀ H', Same H H' → SqL K H' a (rows.map V.str)) ∧ (∀ H', Same H H' → SqL K H' b (beside.map V.str)) ∧ IsCut rows ∧ IsCut beside ∧ ∀ H', Same H H' → Q (.bl true) H'
section
variable {P : Program} {w : World} {K : PySem.W.Frag} {mg : Str → Option Value} {base : Heap}
set_option maxHeartbeats 4000000 in
theorem C_law_right (T : Txt K mg) : Cal P w K mg base 4 "_law_right" ["_law_rows", "_law_beside"] (sp_right K) := by
  have C_letters : Cal P w K mg base 3 "letters" ["text"] sp_lets := C_letters T
  have C_meetings : Cal P w K mg base 3 "meetings" ["text"] sp_meet := C_meetings T
  have C_law_letters : Cal P w K mg base 1 "_law_letters" ["_law_rows"] (sp_ll K) := C_law_letters T
  have C_law_meetings : Cal P w K mg base 1 "_law_meetings" ["_law_rows"] (sp_lm K) := C_law_meetings T
  refine T.d_law_right.cal sc_law_right (fun vs H Q E h => ?_) (fun f cdv A outer s H vs Q E hr h => ?_)
  · obtain ⟨a, b, rows, beside, rfl, _⟩ := h
    rfl
  · obtain ⟨a, b, rows, beside, rfl, kA, kB, hc, hb, kk⟩ := h
    have jn : ∀ rows : List Str, Txt.join (Str.ofString "\n") rows = Str.join nl rows := fun rows => StrLaws.glued_eq_join _ _
    have jl : ∀ rows : List Str, IsCut rows → (rows.map (fun x => x.length)).sum + rows.length * (Str.ofString "\n").length ≤ 16777216 := fun rows c => by
      have := c.sum
      have := c.high
      rw [show (Str.ofString "\n").length = 1 from rfl]
      have e : (rows.map (fun x : Str => x.length)).sum = (rows.map (·.length)).sum := rfl
      omega
    refine ⟨_, (QSs.h (ssCons (setE 2 sc_law_right.nd rfl (Or.inl rfl) (Or.inr rfl) rfl (bmE (K := K) rfl PySem.F.plainAttrs_str PySem.F.slot_str_join PySem.F.type_str_join (m_join (K := K) rfl) rfl rfl rfl rfl eStr (paE rfl (vn 0 rfl (Or.inl rfl) rfl rfl) aNil)))
      (ssCons (setE 3 sc_law_right.nd rfl (Or.inl rfl) (Or.inr rfl) rfl (calE C_letters hr rfl rfl rfl rfl (paE rfl (vn 2 rfl (Or.inl rfl) rfl rfl) aNil)))
      (ssCons (setE 4 sc_law_right.nd rfl (Or.inl rfl) (Or.inr rfl) rfl (calE C_meetings hr rfl rfl rfl rfl (paE rfl (vn 2 rfl (Or.inl rfl) rfl rfl) aNil)))
      (ssCons (ifS (wT (orW (cmpT (q_neB (K := K) rfl hr) rfl (calE C_letters hr rfl rfl rfl rfl (paE rfl (bmE (K := K) rfl PySem.F.plainAttrs_str PySem.F.slot_str_join PySem.F.type_str_join (m_join (K := K) rfl) rfl rfl rfl rfl eStr (paE rfl (vn 1 rfl (Or.inl rfl) rfl rfl) aNil)) aNil)) (calE C_law_letters hr rfl rfl rfl rfl (paE rfl (vn 1 rfl (Or.inl rfl) rfl rfl) aNil))) (or1W (cmpT (q_neB (K := K) rfl hr) rfl (calE C_meetings hr rfl rfl rfl rfl (paE rfl (bmE (K := K) rfl PySem.F.plainAttrs_str PySem.F.slot_str_join PySem.F.type_str_join (m_join (K := K) rfl) rfl rfl rfl rfl eStr (paE rfl (vn 1 rfl (Or.inl rfl) rfl rfl) aNil)) aNil)) (calE C_law_meetings hr rfl rfl rfl rfl (paE rfl (vn 1 rfl (Or.inl rfl) rfl rfl) aNil))))))
      (ssOne (retS eBl))
      ssNil)
      (ssCons (ifS (wT (orW (notT (truT (K := K) rfl (fun _ => rfl) (cbE (k_isi (K := K) rfl) rfl T.b_isinstance PyProof.Rows.boot_isinstance rfl rfl rfl (paE rfl (vn 3 rfl (Or.inl rfl) rfl rfl) (paE rfl (blE (v := .ty "list") rfl T.b_list PyProof.Rows.boot_list rfl rfl rfl) aNil))))) (orW (notT (truT (K := K) rfl (fun _ => rfl) (cbE (k_isi (K := K) rfl) rfl T.b_isinstance PyProof.Rows.boot_isinstance rfl rfl rfl (paE rfl (vn 4 rfl (Or.inl rfl) rfl rfl) (paE rfl (blE (v := .ty "list") rfl T.b_list PyProof.Rows.boot_list rfl rfl rfl) aNil))))) (or1W (cmpT (q_neB (K := K) rfl hr) rfl (vn 3 rfl (Or.inl rfl) rfl rfl) (calE C_law_letters hr rfl rfl rfl rfl (paE rfl (vn 0 rfl (Or.inl rfl) rfl rfl) aNil)))))))
      (ssOne (retS eBl))
      ssNil)
      (ssCons (ifS (wT (orW (cmpT (q_neB (K := K) rfl hr) rfl (vn 4 rfl (Or.inl rfl) rfl rfl) (calE C_law_meetings hr rfl rfl rfl rfl (paE rfl (vn 0 rfl (Or.inl rfl) rfl rfl) aNil))) (or1W (cmpT (q_neB (K := K) rfl hr) rfl (compE (CompScope.of (show compOk (defScope s_law_right) ["_law_rows", "_law_beside", "_law_text", "_law_some", "_law_pairs"] _ ["_law_pair"] [] = true from by decide +kernel)) rfl rfl (anyI (K := K) rfl (vn 4 rfl (Or.inl rfl) rfl rfl)) (fun _ _ _ => (nameG 0 (show (["_law_pair"] : List Str).Nodup from by decide +kernel) rfl (Or.inl rfl) (Or.inr rfl))) (fun _ _ _ => (oneTs (notT (truT (K := K) rfl (fun _ => rfl) (cbE (k_isi (K := K) rfl) rfl T.b_isinstance PyProof.Rows.boot_isinstance rfl rfl rfl (paE rfl (vn 0 rfl (Or.inl rfl) rfl rfl) (paE rfl (blE (v := .ty "tuple") rfl T.b_tuple PyProof.Rows.boot_tuple rfl rfl rfl) aNil))))))) (fun _ _ _ => (vn 0 rfl (Or.inl rfl) rfl rfl))) (lstE aNil)))))
      (ssOne (retS eBl))
      ssNil)
      (ssCons (exprE rfl (bm0E (K := K) rfl PySem.F.plainAttrs_list PySem.F.slot_list_clear PySem.F.type_list_clear m_clear rfl rfl (vn 3 rfl (Or.inl rfl) rfl rfl)))
      (ssCons (exprE rfl (bmE (K := K) rfl PySem.F.plainAttrs_list PySem.F.slot_list_append PySem.F.type_list_append m_append rfl rfl rfl rfl (vn 4 rfl (Or.inl rfl) rfl rfl) (paE rfl (tupE (paE rfl eStr (paE rfl eStr aNil))) aNil)))
      (ssOne (retS (andV (cmpE (q_eqB (K := K) rfl hr) rfl (calE C_letters hr rfl rfl rfl rfl (paE rfl (vn 2 rfl (Or.inl rfl) rfl rfl) aNil)) (calE C_law_letters hr rfl rfl rfl rfl (paE rfl (vn 0 rfl (Or.inl rfl) rfl rfl) aNil))) (oneV (cmpE (q_eqB (K := K) rfl hr) rfl (calE C_meetings hr rfl rfl rfl rfl (paE rfl (vn 2 rfl (Or.inl rfl) rfl rfl) aNil)) (calE C_law_meetings hr rfl rfl rfl rfl (paE rfl (vn 0 rfl (Or.inl rfl) rfl rfl) aNil)))))))))))))))), ?_⟩
    show tSeq _ _ _ [some (.ref a), some (.ref b), none, none, none] H
    refine seq_op fun D1 k1 r1 => ?_
    walk_at "rd"
    refine ⟨rows, kA _ (Same.refl _), jl rows hc, k1 _ _ (seq_op fun D2 k2 r2 => ?_)⟩
    rw [jn]
    walk_at "rd"
    refine ⟨rows, rfl, hc, fun l1 H1 ss1 s1 f1 h1 p1 q1 => k2 _ _ (seq_op fun D3 k3 r3 => ?_)⟩
    have e1 := lets_ll hc p1 q1
    walk_at "rd"
    refine ⟨rows, rfl, hc, fun l2 H2 ss2 s2 f2 h2 t2 n2 o2 m2 => k3 _ _ (seq_op fun D4 k4 r4 => ?_)⟩
    have S2 := s1.trans s2
    walk_at "rd"
    refine ⟨beside, kB _ S2, jl beside hb, ?_⟩
    rw [jn]
    refine ⟨beside, rfl, hb, fun l3 H3 ss3 s3 f3 h3 p3 q3 => ⟨b, beside, rfl, kB _ (S2.trans s3), hb.high, fun H' s' => kB _ ((S2.trans s3).trans s'), fun l4 H4 s4 f4 h4 => .inr (.inl ⟨ss3.map D.str, Has.strs (SqL.of (s4 _ _ h3)), _, Has.strs (SqL.of h4), by rw [deps_strs]; exact Nat.zero_le _, ?_⟩)⟩⟩
    rw [lets_ll hb p3 q3, D.beqs_refl, if_neg (by simp)]
    have S4 := (S2.trans s3).trans s4
    refine ⟨beside, kB _ S4, jl beside hb, ?_⟩
    rw [jn]
    refine ⟨beside, rfl, hb, fun l5 H5 ss5 s5 f5 h5 t5 n5 o5 m5 => ⟨b, beside, rfl, fun H' s' => kB _ ((S4.trans s5).trans s'), hb, fun l6 H6 ss6 s6 f6 h6 t6 n6 o6 m6 => .inr (.inl ⟨_, has_tups (s6 _ _ h5) (tups_keep t5 fun b z e => s6 _ _ e), _, has_tups h6 t6, deps_tups _, ?_⟩)⟩⟩
    rw [beqs_tups (meets_one (alike_self beside) n5 o5 m5 n6 o6 m6), if_neg (by simp)]
    have S6 := (S4.trans s5).trans s6
    have R6 : Same H2 H6 := ((s3.trans s4).trans s5).trans s6
    have h16 := R6 _ _ (s2 _ _ h1)
    have h26 := R6 _ _ h2
    refine k4 _ _ (seq_op fun D5 k5 r5 => ?_)
    have S6a := S6
    walk_at "rd"
    refine ⟨_, .lst h16, true, by rfl, iteF ?_⟩
    refine ⟨_, .lst h26, true, by rfl, iteF ?_⟩
    refine ⟨a, rows, rfl, kA _ S6, hc.high, fun H' s' => kA _ (S6.trans s'), fun l7 H7 s7 f7 h7 => .inl ⟨ss1.map D.str, Has.strs (SqL.of (s7 _ _ h16)), _, Has.strs (SqL.of h7), by rw [deps_strs]; exact Nat.zero_le _, ?_⟩⟩
    rw [e1, D.beqs_refl, if_neg (by simp)]
    have S7 := S6.trans s7
    refine k5 _ _ (seq_op fun D6 k6 r6 => ?_)
    walk_at "rd"
    refine ⟨a, rows, rfl, fun H' s' => kA _ (S7.trans s'), hc, fun l8 H8 ss8 s8 f8 h8 t8 n8 o8 m8 => .inl ⟨_, has_tups (s8 _ _ (s7 _ _ h26)) (tups_keep t2 fun b z e => s8 _ _ (s7 _ _ (R6 _ _ e))), _, has_tups h8 t8, deps_tups _, ?_⟩⟩
    rw [beqs_tups (meets_one (alike_self rows) n2 o2 m2 n8 o8 m8), if_neg (by simp)]
    have S8 := S7.trans s8
    have h18 := s8 _ _ (s7 _ _ h16)
    have h28 := s8 _ _ (s7 _ _ h26)
    have t28 : TupsAt H8 ss2 := tups_keep t2 fun b z e => s8 _ _ (s7 _ _ (R6 _ _ e))
    refine comp_split fun Kont hK => ?_
    walk_at "rd"
    have hlr : ∀ H', Same H8 H' → SqL K H' l2 (ss2.map fun p => V.ref p.1) := fun H' s' => SqL.of (s' _ _ h28)
    refine .inl ⟨⟨_, hlr _ (Same.refl _)⟩, hK _ _ fun D hD => ?_⟩
    refine comp_by (J := Itl K l2) (n := ss2.length) (D := D) (fun q ys σ H' => (∃ o, σ = [o]) ∧ Same H8 H' ∧ H' D = some (.lst ys) ∧ ys = []) ⟨⟨none, rfl⟩, Same.upd hD, upd_same, rfl⟩
      (fun q _ _ H' hq ⟨_, s', _⟩ => ⟨_, V.ref ss2[q].1, hlr _ s', by simp [hq]⟩) (fun _ _ H' ⟨_, s', _⟩ => ⟨_, hlr _ s', by simp⟩) ?_ ?_
    · rintro q ys σ H9 hq ⟨⟨o, rfl⟩, s9, hd, hy⟩ x H10 ⟨e10, hx⟩
      subst e10
      have hxi := hx _ (hlr _ s9)
      rw [List.getElem?_map, List.getElem?_eq_getElem hq] at hxi
      obtain rfl : x = V.ref ss2[q].1 := (Option.some.inj hxi).symm
      have tq := (t28 ss2[q] (List.getElem_mem hq)).2
      walk_at "rd"
      refine ⟨_, .tup (s9 _ _ tq), true, by rfl, ?_⟩
      rw [if_neg (by simp)]
      exact CN.mk hq ⟨⟨_, rfl⟩, s9, hd, hy⟩
    · rintro ys σ H9 ⟨_, s9, hd, hy⟩
      subst hy
      refine ⟨Nat.zero_le _, fun p hp => .inl ⟨[], ?_, [], ?_, Nat.zero_le _, ?_⟩⟩
      · exact Has.strs (ss := []) (SqL.of ((Same.upd hp) _ _ hd))
      · exact Has.strs (ss := []) (SqL.of upd_same)
      · rw [L2.D.beqs_refl, if_neg (by simp)]
        have s10 := s9.trans (Same.upd (o := .lst []) hp)
        have S10 := S8.trans s10
        have h110 := s10 _ _ h18
        have h210 := s10 _ _ h28
        generalize upd H9 p (.lst []) = H10 at s10 S10 h110 h210
        refine k6 _ _ (seq_op fun D7 k7 r7 => ?_)
        walk_at "rd"
        have hne : l2 ≠ l1 := fun e => by rw [e, h1] at f2; cases f2
        refine ⟨.inl ⟨_, SqL.of h110⟩, ⟨_, h110⟩, k7 _ _ (seq_op fun D8 k8 r8 => ?_)⟩
        have S11 : Same H (upd H10 l1 (.lst [])) := fun b' u e => by rw [upd_ne (ne_of_none e f1)]; exact S10 _ _ e
        have h211 : upd H10 l1 (.lst []) l2 = some (.lst (ss2.map fun p => V.ref p.1)) := by rw [upd_ne hne]; exact h210
        have fl2 : H l2 = none := s1.free f2
        generalize upd H10 l1 (.lst []) = H11 at S11 h211
        walk_at "rd"
        have few2 : ss2.length ≤ 729 := by
          have := STab.nodup_sub n2 (m := allPairs) fun k hk => (meet_in hc (mem_pairs.mpr ((m2 k).mp hk))).1
          rw [List.length_map, all_len] at this
          exact this
        refine ⟨.inl ⟨_, SqL.of h211⟩, show 2 ≤ sizeLine from by decide, fun p2 hp2 => ?_⟩
        have sp2 := Same.upd (o := .tup [V.str (Str.ofString "a"), V.str (Str.ofString "a")]) hp2
        refine ⟨_, sp2 _ _ h211, by rw [List.length_map, PySem.sizeLine_eq]; omega, k8 _ _ ?_⟩
        have S12 : Same H (upd (upd H11 p2 (.tup [V.str (Str.ofString "a"), V.str (Str.ofString "a")])) l2 (.lst ((ss2.map fun p => V.ref p.1) ++ [V.ref p2]))) := fun b' u e => by rw [upd_ne (ne_of_none e fl2)]; exact sp2 _ _ (S11 _ _ e)
        generalize upd (upd H11 p2 (.tup [V.str (Str.ofString "a"), V.str (Str.ofString "a")])) l2 (.lst ((ss2.map fun p => V.ref p.1) ++ [V.ref p2])) = H12 at S12
        walk_at "rd"
        refine ⟨rows, rfl, hc, fun l13 H13 ss13 s13 f13 h13 p13 q13 => ⟨a, rows, rfl, kA _ (S12.trans s13), hc.high, fun H' s' => kA _ ((S12.trans s13).trans s'), fun l14 H14 s14 f14 h14 => .inr (.inl ⟨ss13.map L2.D.str, Has.strs (SqL.of (s14 _ _ h13)), _, Has.strs (SqL.of h14), by rw [deps_strs]; exact Nat.zero_le _, ?_⟩)⟩⟩
        rw [lets_ll hc p13 q13, L2.D.beqs_refl, if_pos rfl]
        have S14 := (S12.trans s13).trans s14
        refine ⟨rows, rfl, hc, fun l15 H15 ss15 s15 f15 h15 t15 n15 o15 m15 => ⟨a, rows, rfl, fun H' s' => kA _ ((S14.trans s15).trans s'), hc, fun l16 H16 ss16 s16 f16 h16' t16 n16 o16 m16 => .inr (.inl ⟨_, has_tups (s16 _ _ h15) (tups_keep t15 fun b z e => s16 _ _ e), _, has_tups h16' t16, deps_tups _, ?_⟩)⟩⟩
        rw [beqs_tups (meets_one (alike_self rows) n15 o15 m15 n16 o16 m16)]
        exact kk _ ((S14.trans s15).trans s16)
end

theorem cut_ba : IsCut [Str.ofString "b", Str.ofString "a"] := by
  refine ⟨by decide, by decide, ⟨1, by decide, by decide, fun r hr => ?_⟩, fun r hr => ?_, fun i r r' e1 e2 j c c' g1 g2 hc => ?_, ?_⟩
  · rcases List.mem_cons.mp hr with e | e
    · rw [e]; rfl
    · rw [List.mem_singleton.mp e]; rfl
  · rcases List.mem_cons.mp hr with e | e
    · rw [e]; decide +kernel
    · rw [List.mem_singleton.mp e]; decide +kernel
  · match i, e2 with
    | 0, e2 =>
      obtain rfl : Str.ofString "a" = r' := Option.some.inj e2
      match j, g2 with
      | 0, g2 =>
        have : (97 : Nat) = c' := Option.some.inj g2
        omega
      | j + 1, g2 => cases g2
    | i + 1, e2 => cases e2
  · exact ⟨_, List.mem_cons_self, 98, by decide +kernel, by decide⟩
theorem cut_a : IsCut [Str.ofString "a"] := by
  refine ⟨by decide, by decide, ⟨1, by decide, by decide, fun r hr => ?_⟩, fun r hr => ?_, fun i r r' e1 e2 j c c' g1 g2 hc => ?_, ?_⟩
  · rw [List.mem_singleton.mp hr]; rfl
  · rw [List.mem_singleton.mp hr]; decide +kernel
  · cases e2
  · exact ⟨_, List.mem_cons_self, 97, by decide +kernel, by decide⟩
theorem cut_ints (ns : List Int) (lo hi : Option Int) : ∃ ms : List Int, cutV (ns.map V.int) lo hi = ms.map V.int ∧ ms.length ≤ ns.length := by
  unfold cutV
  rw [← List.map_drop, ← List.map_take]
  refine ⟨_, rfl, ?_⟩
  rw [List.length_take, List.length_drop]
  omega
noncomputable def sp_law (K : PySem.W.Frag) : Sp := fun vs H Q _ => ∃ (a : Addr) (ns : List Int), vs = [.ref a] ∧ SqL K H a (ns.map V.int) ∧ Only H ∧ ns.length ≤ 63 ∧ ∀ H', Q (.bl true) H'
section
variable {P : Program} {w : World} {K : PySem.W.Frag} {mg : Str → Option Value} {base : Heap}
set_option maxHeartbeats 4000000 in
theorem ok_law {f : Addr} {fd : FuncData} (F : Fun K "law" "law" s_law f fd) (T : Txt K mg) : FnOk P w K mg base CX0 5 f fd ["_law_script"] (sp_law K) := by
  have C_law_row : Cal P w K mg base 2 "_law_row" ["_law_script", "_law_many"] (sp_row K) := C_law_row T
  have C_law_drawn : Cal P w K mg base 2 "_law_drawn" ["_law_row_here"] (sp_drawn K) := C_law_drawn T
  have C_law_right : Cal P w K mg base 4 "_law_right" ["_law_rows", "_law_beside"] (sp_right K) := C_law_right T
  refine F.ok sc_law (fun vs H Q E h => ?_) (fun cdv A outer s H vs Q E hr h => ?_)
  · obtain ⟨a, ns, rfl, _⟩ := h
    rfl
  · obtain ⟨a, ns, rfl, hs, ho, hn, kk⟩ := h
    refine ⟨_, (QSs.h (ssCons (setE 1 sc_law.nd rfl (Or.inl rfl) (Or.inr rfl) rfl (calE C_law_drawn hr rfl rfl rfl rfl (paE rfl (calE C_law_row hr rfl rfl rfl rfl (paE rfl (vn 0 rfl (Or.inl rfl) rfl rfl) (paE rfl eInt aNil))) aNil)))
      (ssCons (setE 2 sc_law.nd rfl (Or.inl rfl) (Or.inr rfl) rfl (calE C_law_drawn hr rfl rfl rfl rfl (paE rfl (calE C_law_row hr rfl rfl rfl rfl (paE rfl (opE q_addA (slE (K := K) rfl (vn 0 rfl (Or.inl rfl) rfl rfl) noO (someO eInt)) (slE (K := K) rfl (vn 0 rfl (Or.inl rfl) rfl rfl) (someO eInt) noO)) (paE rfl eInt aNil))) aNil)))
      (ssCons (ifS (wT (orW (notT (truT (K := K) rfl (fun _ => rfl) (calE C_law_right hr rfl rfl rfl rfl (paE rfl (vn 1 rfl (Or.inl rfl) rfl rfl) (paE rfl (vn 2 rfl (Or.inl rfl) rfl rfl) aNil))))) (or1W (notT (truT (K := K) rfl (fun _ => rfl) (calE C_law_right hr rfl rfl rfl rfl (paE rfl (vn 2 rfl (Or.inl rfl) rfl rfl) (paE rfl (vn 1 rfl (Or.inl rfl) rfl rfl) aNil))))))))
      (ssOne (retS eBl))
      ssNil)
      (ssOne (retS (andV (calE C_law_right hr rfl rfl rfl rfl (paE rfl (vn 1 rfl (Or.inl rfl) rfl rfl) (paE rfl (lstE (paE rfl eStr (paE rfl eStr aNil))) aNil))) (oneV (calE C_law_right hr rfl rfl rfl rfl (paE rfl (lstE (paE rfl eStr aNil)) (paE rfl (vn 1 rfl (Or.inl rfl) rfl rfl) aNil))))))))))), ?_⟩
    show tSeq _ _ _ [some (.ref a), none, none] H
    refine seq_op fun D1 k1 r1 => ?_
    walk_at "rd"
    refine ⟨a, ns, 40, rfl, hs, by omega, by decide, by decide, fun l1 H1 xs1 sm1 hl1 hx1 hxl1 hxb1 => ⟨l1, xs1, rfl, SqL.of hx1, by rw [hxl1]; decide, hxb1, fun R H2 rows sm2 hR1 hR hcut => k1 _ _ (seq_op fun D2 k2 r2 => ?_)⟩⟩
    have s2 := sm1.trans sm2
    have hs2 : ∀ H', Same H2 H' → SqL K H' a (ns.map V.int) := fun H' s' => (s2.trans s').seq hs
    obtain ⟨m1, c1, d1⟩ := cut_ints ns none (some 1)
    obtain ⟨m2, c2, d2⟩ := cut_ints ns (some 2) none
    walk_at "rd"
    refine .inl ⟨_, hs2 _ (Same.refl _), fun p1 hp1 => .inl ⟨_, hs2 _ (Same.upd hp1), fun p2 hp2 => ?_⟩⟩
    rw [c1] at hp2 ⊢
    rw [c2]
    have a1 := Same.upd (o := .lst (m1.map V.int)) hp1
    have a2 := Same.upd (o := .lst (m2.map V.int)) hp2
    have g1 := a2 _ _ (upd_same (H := H2) (a := p1) (o := .lst (m1.map V.int)))
    have g2 : upd (upd H2 p1 (.lst (m1.map V.int))) p2 (.lst (m2.map V.int)) p2 = some (.lst (m2.map V.int)) := upd_same
    have a12 := a1.trans a2
    generalize upd (upd H2 p1 (.lst (m1.map V.int))) p2 (.lst (m2.map V.int)) = H3 at g1 g2 a12
    refine ⟨_, g1, _, g2, by rw [List.length_map, List.length_map, PySem.sizeLine_eq]; omega, fun p3 hp3 => ?_⟩
    have a3 := a12.trans (Same.upd (o := .lst (m1.map V.int ++ m2.map V.int)) hp3)
    have g3 : upd H3 p3 (.lst (m1.map V.int ++ m2.map V.int)) p3 = some (.lst ((m1 ++ m2).map V.int)) := by rw [upd_same, List.map_append]
    generalize upd H3 p3 (.lst (m1.map V.int ++ m2.map V.int)) = H4 at a3 g3
    refine ⟨p3, m1 ++ m2, 40, rfl, SqL.of g3, by rw [List.length_append]; omega, by decide, by decide, fun l5 H5 xs5 sm5 hl5 hx5 hxl5 hxb5 => ⟨l5, xs5, rfl, SqL.of hx5, by rw [hxl5]; decide, hxb5, fun R' H6 other sm6 hR6 hR' hoth => k2 _ _ (seq_op fun D3 k3 r3 => ?_)⟩⟩
    have S6 := (a3.trans sm5).trans sm6
    have hR2 := S6 _ _ hR
    have kR : ∀ H', Same H6 H' → SqL K H' R (rows.map V.str) := fun H' s' => SqL.of (s' _ _ hR2)
    have kO : ∀ H', Same H6 H' → SqL K H' R' (other.map V.str) := fun H' s' => SqL.of (s' _ _ hR')
    walk_at "rd"
    refine ⟨R, R', rows, other, rfl, kR, kO, hcut, hoth, fun H7 s7 => ⟨true, rfl, ?_⟩⟩
    rw [if_neg (by simp)]
    refine ⟨R', R, other, rows, rfl, fun H' s' => kO _ (s7.trans s'), fun H' s' => kR _ (s7.trans s'), hoth, hcut, fun H8 s8 => ⟨true, rfl, ?_⟩⟩
    rw [if_neg (by simp)]
    have s78 := s7.trans s8
    refine k3 _ _ ?_
    walk_at "rd"
    refine ⟨show 2 ≤ sizeLine from by decide, fun p9 hp9 => ?_⟩
    have b9 := Same.upd (o := .lst [V.str (Str.ofString "b"), V.str (Str.ofString "a")]) hp9
    have g9 : upd H8 p9 (.lst [V.str (Str.ofString "b"), V.str (Str.ofString "a")]) p9 = some (.lst ([Str.ofString "b", Str.ofString "a"].map V.str)) := upd_same
    generalize upd H8 p9 (.lst [V.str (Str.ofString "b"), V.str (Str.ofString "a")]) = H9 at b9 g9
    have s79 := s78.trans b9
    refine ⟨R, p9, rows, _, rfl, fun H' s' => kR _ (s79.trans s'), fun H' s' => SqL.of (s' _ _ g9), hcut, cut_ba, fun H10 s10 => ⟨true, rfl, ?_⟩⟩
    rw [if_pos rfl]
    refine ⟨show 1 ≤ sizeLine from by decide, fun p11 hp11 => ?_⟩
    have b11 := Same.upd (o := .lst [V.str (Str.ofString "a")]) hp11
    have g11 : upd H10 p11 (.lst [V.str (Str.ofString "a")]) p11 = some (.lst ([Str.ofString "a"].map V.str)) := upd_same
    generalize upd H10 p11 (.lst [V.str (Str.ofString "a")]) = H11 at b11 g11
    exact ⟨p11, R, _, rows, rfl, fun H' s' => SqL.of (s' _ _ g11), fun H' s' => kR _ (((s79.trans s10).trans b11).trans s'), cut_a, hcut, fun H12 _ => kk H12⟩
end
theorem all_mk {l : PySem.W.OpenLaw} {w : World} {K : PySem.W.Frag} {h : Heap} {mg : Str → Option Value} {fa f1 f2 f3 f4 f5 f6 f7 f8 f9 f10 f11 f12 f13 f14 f15 f16 : Addr} (X : K.In h) (G : h.Ns mainGlobals mg) (hfa : mg "law" = some (.ref fa))
    {od1 an1 od2 an2 od3 an3 od4 an4 od5 an5 od6 an6 od7 an7 od8 an8 od9 an9 od10 an10 od11 an11 od12 an12 od13 an13 od14 an14 od15 an15 od16 an16 : Option Addr} {sl1 sl2 sl3 sl4 sl5 sl6 sl7 sl8 sl9 sl10 sl11 sl12 sl13 sl14 sl15 sl16 : Array (Option Value)} {oc1 kV1 dc1 pm1 cd1 ct1 oc2 kV2 dc2 pm2 cd2 ct2 oc3 kV3 dc3 pm3 cd3 ct3 oc4 kV4 dc4 pm4 cd4 ct4 oc5 kV5 dc5 pm5 cd5 ct5 oc6 kV6 dc6 pm6 cd6 ct6 oc7 kV7 dc7 pm7 cd7 ct7 oc8 kV8 dc8 pm8 cd8 ct8 oc9 kV9 dc9 pm9 cd9 ct9 oc10 kV10 dc10 pm10 cd10 ct10 oc11 kV11 dc11 pm11 cd11 ct11 oc12 kV12 dc12 pm12 cd12 ct12 oc13 kV13 dc13 pm13 cd13 ct13 oc14 kV14 dc14 pm14 cd14 ct14 oc15 kV15 dc15 pm15 cd15 ct15 oc16 kV16 dc16 pm16 cd16 ct16 : Value}
    (a1 : PySem.W.nsIn K mainGlobals "rows_of" = some (some (.ref f1))) (l1 : K.lookup f1 = some ⟨oc1, od1, .func (PySem.W.fnOf "rows_of" "rows_of" (defArgs s_rows_of) (defBody s_rows_of) (defScope s_rows_of) .none kV1 dc1 pm1 an1 cd1 ct1), sl1⟩) (c1 : PySem.W.codeIn K cd1 "rows_of" = true) (k1 : PySem.W.keepIn K (.ref f1) = true)
    (a2 : PySem.W.nsIn K mainGlobals "is_row" = some (some (.ref f2))) (l2 : K.lookup f2 = some ⟨oc2, od2, .func (PySem.W.fnOf "is_row" "is_row" (defArgs s_is_row) (defBody s_is_row) (defScope s_is_row) .none kV2 dc2 pm2 an2 cd2 ct2), sl2⟩) (c2 : PySem.W.codeIn K cd2 "is_row" = true) (k2 : PySem.W.keepIn K (.ref f2) = true)
    (a3 : PySem.W.nsIn K mainGlobals "lies_beneath" = some (some (.ref f3))) (l3 : K.lookup f3 = some ⟨oc3, od3, .func (PySem.W.fnOf "lies_beneath" "lies_beneath" (defArgs s_lies_beneath) (defBody s_lies_beneath) (defScope s_lies_beneath) .none kV3 dc3 pm3 an3 cd3 ct3), sl3⟩) (c3 : PySem.W.codeIn K cd3 "lies_beneath" = true) (k3 : PySem.W.keepIn K (.ref f3) = true)
    (a4 : PySem.W.nsIn K mainGlobals "letters_in" = some (some (.ref f4))) (l4 : K.lookup f4 = some ⟨oc4, od4, .func (PySem.W.fnOf "letters_in" "letters_in" (defArgs s_letters_in) (defBody s_letters_in) (defScope s_letters_in) .none kV4 dc4 pm4 an4 cd4 ct4), sl4⟩) (c4 : PySem.W.codeIn K cd4 "letters_in" = true) (k4 : PySem.W.keepIn K (.ref f4) = true)
    (a5 : PySem.W.nsIn K mainGlobals "letters" = some (some (.ref f5))) (l5 : K.lookup f5 = some ⟨oc5, od5, .func (PySem.W.fnOf "letters" "letters" (defArgs s_letters) (defBody s_letters) (defScope s_letters) .none kV5 dc5 pm5 an5 cd5 ct5), sl5⟩) (c5 : PySem.W.codeIn K cd5 "letters" = true) (k5 : PySem.W.keepIn K (.ref f5) = true)
    (a6 : PySem.W.nsIn K mainGlobals "meetings" = some (some (.ref f6))) (l6 : K.lookup f6 = some ⟨oc6, od6, .func (PySem.W.fnOf "meetings" "meetings" (defArgs s_meetings) (defBody s_meetings) (defScope s_meetings) .none kV6 dc6 pm6 an6 cd6 ct6), sl6⟩) (c6 : PySem.W.codeIn K cd6 "meetings" = true) (k6 : PySem.W.keepIn K (.ref f6) = true)
    (a7 : PySem.W.nsIn K mainGlobals "meetings_between" = some (some (.ref f7))) (l7 : K.lookup f7 = some ⟨oc7, od7, .func (PySem.W.fnOf "meetings_between" "meetings_between" (defArgs s_meetings_between) (defBody s_meetings_between) (defScope s_meetings_between) .none kV7 dc7 pm7 an7 cd7 ct7), sl7⟩) (c7 : PySem.W.codeIn K cd7 "meetings_between" = true) (k7 : PySem.W.keepIn K (.ref f7) = true)
    (a8 : PySem.W.nsIn K mainGlobals "_law_cell_at" = some (some (.ref f8))) (l8 : K.lookup f8 = some ⟨oc8, od8, .func (PySem.W.fnOf "_law_cell_at" "_law_cell_at" (defArgs s_law_cell_at) (defBody s_law_cell_at) (defScope s_law_cell_at) .none kV8 dc8 pm8 an8 cd8 ct8), sl8⟩) (c8 : PySem.W.codeIn K cd8 "_law_cell_at" = true) (k8 : PySem.W.keepIn K (.ref f8) = true)
    (a9 : PySem.W.nsIn K mainGlobals "_law_mixed" = some (some (.ref f9))) (l9 : K.lookup f9 = some ⟨oc9, od9, .func (PySem.W.fnOf "_law_mixed" "_law_mixed" (defArgs s_law_mixed) (defBody s_law_mixed) (defScope s_law_mixed) .none kV9 dc9 pm9 an9 cd9 ct9), sl9⟩) (c9 : PySem.W.codeIn K cd9 "_law_mixed" = true) (k9 : PySem.W.keepIn K (.ref f9) = true)
    (a10 : PySem.W.nsIn K mainGlobals "_law_row" = some (some (.ref f10))) (l10 : K.lookup f10 = some ⟨oc10, od10, .func (PySem.W.fnOf "_law_row" "_law_row" (defArgs s_law_row) (defBody s_law_row) (defScope s_law_row) .none kV10 dc10 pm10 an10 cd10 ct10), sl10⟩) (c10 : PySem.W.codeIn K cd10 "_law_row" = true) (k10 : PySem.W.keepIn K (.ref f10) = true)
    (a11 : PySem.W.nsIn K mainGlobals "_law_signs" = some (some (.ref f11))) (l11 : K.lookup f11 = some ⟨oc11, od11, .func (PySem.W.fnOf "_law_signs" "_law_signs" (defArgs s_law_signs) (defBody s_law_signs) (defScope s_law_signs) .none kV11 dc11 pm11 an11 cd11 ct11), sl11⟩) (c11 : PySem.W.codeIn K cd11 "_law_signs" = true) (k11 : PySem.W.keepIn K (.ref f11) = true)
    (a12 : PySem.W.nsIn K mainGlobals "_law_drawn" = some (some (.ref f12))) (l12 : K.lookup f12 = some ⟨oc12, od12, .func (PySem.W.fnOf "_law_drawn" "_law_drawn" (defArgs s_law_drawn) (defBody s_law_drawn) (defScope s_law_drawn) .none kV12 dc12 pm12 an12 cd12 ct12), sl12⟩) (c12 : PySem.W.codeIn K cd12 "_law_drawn" = true) (k12 : PySem.W.keepIn K (.ref f12) = true)
    (a13 : PySem.W.nsIn K mainGlobals "_law_letters" = some (some (.ref f13))) (l13 : K.lookup f13 = some ⟨oc13, od13, .func (PySem.W.fnOf "_law_letters" "_law_letters" (defArgs s_law_letters) (defBody s_law_letters) (defScope s_law_letters) .none kV13 dc13 pm13 an13 cd13 ct13), sl13⟩) (c13 : PySem.W.codeIn K cd13 "_law_letters" = true) (k13 : PySem.W.keepIn K (.ref f13) = true)
    (a14 : PySem.W.nsIn K mainGlobals "_law_meetings" = some (some (.ref f14))) (l14 : K.lookup f14 = some ⟨oc14, od14, .func (PySem.W.fnOf "_law_meetings" "_law_meetings" (defArgs s_law_meetings) (defBody s_law_meetings) (defScope s_law_meetings) .none kV14 dc14 pm14 an14 cd14 ct14), sl14⟩) (c14 : PySem.W.codeIn K cd14 "_law_meetings" = true) (k14 : PySem.W.keepIn K (.ref f14) = true)
    (a15 : PySem.W.nsIn K mainGlobals "_law_right" = some (some (.ref f15))) (l15 : K.lookup f15 = some ⟨oc15, od15, .func (PySem.W.fnOf "_law_right" "_law_right" (defArgs s_law_right) (defBody s_law_right) (defScope s_law_right) .none kV15 dc15 pm15 an15 cd15 ct15), sl15⟩) (c15 : PySem.W.codeIn K cd15 "_law_right" = true) (k15 : PySem.W.keepIn K (.ref f15) = true)
    (a16 : PySem.W.nsIn K mainGlobals "law" = some (some (.ref f16))) (l16 : K.lookup f16 = some ⟨oc16, od16, .func (PySem.W.fnOf "law" "law" (defArgs s_law) (defBody s_law) (defScope s_law) .none kV16 dc16 pm16 an16 cd16 ct16), sl16⟩) (c16 : PySem.W.codeIn K cd16 "law" = true) (k16 : PySem.W.keepIn K (.ref f16) = true)
    {u_MOST_ROWS u_MOST_SIGNS u_AIR u_LETTERS : Value}
    (zb_len : PySem.W.nsIn K mainGlobals "len" = some none)
    (zb_enumerate : PySem.W.nsIn K mainGlobals "enumerate" = some none)
    (zb_str : PySem.W.nsIn K mainGlobals "str" = some none)
    (zb_isinstance : PySem.W.nsIn K mainGlobals "isinstance" = some none)
    (zb_all : PySem.W.nsIn K mainGlobals "all" = some none)
    (zb_zip : PySem.W.nsIn K mainGlobals "zip" = some none)
    (zb_set : PySem.W.nsIn K mainGlobals "set" = some none)
    (zb_sorted : PySem.W.nsIn K mainGlobals "sorted" = some none)
    (zb_range : PySem.W.nsIn K mainGlobals "range" = some none)
    (zb_max : PySem.W.nsIn K mainGlobals "max" = some none)
    (zb_int : PySem.W.nsIn K mainGlobals "int" = some none)
    (zb_tuple : PySem.W.nsIn K mainGlobals "tuple" = some none)
    (zb_list : PySem.W.nsIn K mainGlobals "list" = some none)
    (zg_MOST_ROWS : PySem.W.nsIn K mainGlobals "MOST_ROWS" = some (some u_MOST_ROWS)) (rg_MOST_ROWS : RelV (.int 40) u_MOST_ROWS)
    (zg_MOST_SIGNS : PySem.W.nsIn K mainGlobals "MOST_SIGNS" = some (some u_MOST_SIGNS)) (rg_MOST_SIGNS : RelV (.int 40) u_MOST_SIGNS)
    (zg_AIR : PySem.W.nsIn K mainGlobals "AIR" = some (some u_AIR)) (rg_AIR : RelV (.str ".") u_AIR)
    (zg_LETTERS : PySem.W.nsIn K mainGlobals "LETTERS" = some (some u_LETTERS)) (rg_LETTERS : RelV (.str "abcdefghijklmnopqrstuvwxyz") u_LETTERS)
    : ∃ fd : FuncData, (∀ (s : Shared) (v : Value), BindsTo s fd ⟨[v], []⟩ [("_law_script", v)]) ∧ ∀ base : Heap, K.In base → base.Ns mainGlobals mg → FnOk l.prog w K mg base CX0 5 fa fd ["_law_script"] (sp_law K) := by
  have e := hfa.symm.trans (PySem.W.mg_of X G a16)
  cases e
  have T : Txt K mg := ⟨PySem.W.mg_none_of X G zb_len,
    PySem.W.mg_none_of X G zb_enumerate,
    PySem.W.mg_none_of X G zb_str,
    PySem.W.mg_none_of X G zb_isinstance,
    PySem.W.mg_none_of X G zb_all,
    PySem.W.mg_none_of X G zb_zip,
    PySem.W.mg_none_of X G zb_set,
    PySem.W.mg_none_of X G zb_sorted,
    PySem.W.mg_none_of X G zb_range,
    PySem.W.mg_none_of X G zb_max,
    PySem.W.mg_none_of X G zb_int,
    PySem.W.mg_none_of X G zb_tuple,
    PySem.W.mg_none_of X G zb_list,
    gv_mk X G zg_MOST_ROWS rg_MOST_ROWS,
    gv_mk X G zg_MOST_SIGNS rg_MOST_SIGNS,
    gv_mk X G zg_AIR rg_AIR,
    gv_mk X G zg_LETTERS rg_LETTERS,
    def_mk X G a1 l1 c1 k1 (fun _ _ _ _ _ _ us hl => match us, hl with | [_], _ => rfl),
    def_mk X G a2 l2 c2 k2 (fun _ _ _ _ _ _ us hl => match us, hl with | [_], _ => rfl),
    def_mk X G a3 l3 c3 k3 (fun _ _ _ _ _ _ us hl => match us, hl with | [_, _], _ => rfl),
    def_mk X G a4 l4 c4 k4 (fun _ _ _ _ _ _ us hl => match us, hl with | [_], _ => rfl),
    def_mk X G a5 l5 c5 k5 (fun _ _ _ _ _ _ us hl => match us, hl with | [_], _ => rfl),
    def_mk X G a6 l6 c6 k6 (fun _ _ _ _ _ _ us hl => match us, hl with | [_], _ => rfl),
    def_mk X G a7 l7 c7 k7 (fun _ _ _ _ _ _ us hl => match us, hl with | [_, _], _ => rfl),
    def_mk X G a8 l8 c8 k8 (fun _ _ _ _ _ _ us hl => match us, hl with | [_, _], _ => rfl),
    def_mk X G a9 l9 c9 k9 (fun _ _ _ _ _ _ us hl => match us, hl with | [_, _], _ => rfl),
    def_mk X G a10 l10 c10 k10 (fun _ _ _ _ _ _ us hl => match us, hl with | [_, _], _ => rfl),
    def_mk X G a11 l11 c11 k11 (fun _ _ _ _ _ _ us hl => match us, hl with | [_, _], _ => rfl),
    def_mk X G a12 l12 c12 k12 (fun _ _ _ _ _ _ us hl => match us, hl with | [_], _ => rfl),
    def_mk X G a13 l13 c13 k13 (fun _ _ _ _ _ _ us hl => match us, hl with | [_], _ => rfl),
    def_mk X G a14 l14 c14 k14 (fun _ _ _ _ _ _ us hl => match us, hl with | [_], _ => rfl),
    def_mk X G a15 l15 c15 k15 (fun _ _ _ _ _ _ us hl => match us, hl with | [_, _], _ => rfl)⟩
  exact ⟨PySem.W.fnOf "law" "law" (defArgs s_law) (defBody s_law) (defScope s_law) .none kV16 dc16 pm16 an16 cd16 ct16, fun s v => .of_eq rfl, fun base _ _ => ok_law (fun_mk (st := s_law) l16 c16 k16) T⟩
theorem walk {l : PySem.W.OpenLaw} {q : Program} {loose : List Str} {XP : (Str → Option Value) → Heap → Prop} {YP : World → Heap → Prop} {d : DefRec} {K : Params → PySem.W.Frag} (hn : l.most = some 63) (hdf : d.params.defaults = [])
    (hY : ∀ (w : World) (h : Heap), YP w h → (K w.params).In h)
    (F : ∀ (w : World) (mg : Str → Option Value) (fa : Addr) (h : Heap), (K w.params).In h → h.Ns mainGlobals mg → mg d.name = some (.ref fa) →
      ∃ fd : FuncData, (∀ (s : Shared) (u : Value), BindsTo s fd ⟨[u], []⟩ [("_law_script", u)]) ∧ ∀ base : Heap, (K w.params).In base → base.Ns mainGlobals mg → FnOk l.prog w (K w.params) mg base CX0 5 fa fd ["_law_script"] (sp_law (K w.params))) :
    PySem.W.WalkO q loose XP YP l.row.toRowW d [] (fun f vs => PySem.call f vs) :=
  L2.walk_of (n := 63) (k := 5) (x := "_law_script") (CX := fun _ => CX0) (sp := fun w => sp_law (K w.params)) hn (by decide) hdf ⟨rfl, by decide, by decide⟩ hY F (fun _ _ a ns hl hO hS => ⟨a, ns, rfl, hS, hO, hl, fun _ => rfl⟩) fun _ _ _ _ _ z => z
end K04
open PySem PySem.W PyProof.Rows
set_option maxRecDepth 100000 in
set_option maxHeartbeats 0 in
theorem PySem.Challenge.cw_digbook_k04_letters_and_meetings_holds : PySem.Challenge.rw_digbook_k04_letters_and_meetings.Holds := by
  w_on; o_law; k_head; (case hw => w_witness2)
  k_fill
  refine K04.walk (l := PySem.Challenge.rw_digbook_k04_letters_and_meetings) rfl rfl (fun w h Y => PySem.W.kIn_of Y) ?F
  case F =>
    intro w mg fa h KX G hmg
    refine' K04.all_mk KX G hmg ?a1 ?l1 ?c1 ?k1 ?a2 ?l2 ?c2 ?k2 ?a3 ?l3 ?c3 ?k3 ?a4 ?l4 ?c4 ?k4 ?a5 ?l5 ?c5 ?k5 ?a6 ?l6 ?c6 ?k6 ?a7 ?l7 ?c7 ?k7 ?a8 ?l8 ?c8 ?k8 ?a9 ?l9 ?c9 ?k9 ?a10 ?l10 ?c10 ?k10 ?a11 ?l11 ?c11 ?k11 ?a12 ?l12 ?c12 ?k12 ?a13 ?l13 ?c13 ?k13 ?a14 ?l14 ?c14 ?k14 ?a15 ?l15 ?c15 ?k15 ?a16 ?l16 ?c16 ?k16 ?zb_len ?zb_enumerate ?zb_str ?zb_isinstance ?zb_all ?zb_zip ?zb_set ?zb_sorted ?zb_range ?zb_max ?zb_int ?zb_tuple ?zb_list ?zg_MOST_ROWS ?rg_MOST_ROWS ?zg_MOST_SIGNS ?rg_MOST_SIGNS ?zg_AIR ?rg_AIR ?zg_LETTERS ?rg_LETTERS
    (case a1 => k_is)
    (case l1 => k_is)
    (case c1 => k_is)
    (case k1 => k_is)
    (case a2 => k_is)
    (case l2 => k_is)
    (case c2 => k_is)
    (case k2 => k_is)
    (case a3 => k_is)
    (case l3 => k_is)
    (case c3 => k_is)
    (case k3 => k_is)
    (case a4 => k_is)
    (case l4 => k_is)
    (case c4 => k_is)
    (case k4 => k_is)
    (case a5 => k_is)
    (case l5 => k_is)
    (case c5 => k_is)
    (case k5 => k_is)
    (case a6 => k_is)
    (case l6 => k_is)
    (case c6 => k_is)
    (case k6 => k_is)
    (case a7 => k_is)
    (case l7 => k_is)
    (case c7 => k_is)
    (case k7 => k_is)
    (case a8 => k_is)
    (case l8 => k_is)
    (case c8 => k_is)
    (case k8 => k_is)
    (case a9 => k_is)
    (case l9 => k_is)
    (case c9 => k_is)
    (case k9 => k_is)
    (case a10 => k_is)
    (case l10 => k_is)
    (case c10 => k_is)
    (case k10 => k_is)
    (case a11 => k_is)
    (case l11 => k_is)
    (case c11 => k_is)
    (case k11 => k_is)
    (case a12 => k_is)
    (case l12 => k_is)
    (case c12 => k_is)
    (case k12 => k_is)
    (case a13 => k_is)
    (case l13 => k_is)
    (case c13 => k_is)
    (case k13 => k_is)
    (case a14 => k_is)
    (case l14 => k_is)
    (case c14 => k_is)
    (case k14 => k_is)
    (case a15 => k_is)
    (case l15 => k_is)
    (case c15 => k_is)
    (case k15 => k_is)
    (case a16 => k_is)
    (case l16 => k_is)
    (case c16 => k_is)
    (case k16 => k_is)
    (case zb_len => k_is)
    (case zb_enumerate => k_is)
    (case zb_str => k_is)
    (case zb_isinstance => k_is)
    (case zb_all => k_is)
    (case zb_zip => k_is)
    (case zb_set => k_is)
    (case zb_sorted => k_is)
    (case zb_range => k_is)
    (case zb_max => k_is)
    (case zb_int => k_is)
    (case zb_tuple => k_is)
    (case zb_list => k_is)
    (case zg_MOST_ROWS => k_is)
    (case rg_MOST_ROWS => exact ⟨_, rfl⟩)
    (case zg_MOST_SIGNS => k_is)
    (case rg_MOST_SIGNS => exact ⟨_, rfl⟩)
    (case zg_AIR => k_is)
    (case rg_AIR => exact ⟨_, rfl⟩)
    (case zg_LETTERS => k_is)
    (case rg_LETTERS => exact ⟨_, rfl⟩)
