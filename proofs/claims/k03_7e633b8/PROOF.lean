import PyProof.Rows.All
import Wide.All
import OpenK.AllK
import Wide.FinOn
import Lean
import PyProof.EqAt
import PyProof.EqKinds
import PyProof.TupleCall
import PyProof.ExcInit
import PyProof.ExcClass2
import PyProof.InstStoreFacts
import OpenK.KOwn
import PyProof.RulesAs
import PyProof.ExcAttrAll.ValueError
import KE.KIsAll
import PySem.Challenge.RW_digbook_k03_no_cut
set_option Elab.async false
set_option linter.all false
set_option maxRecDepth 100000
namespace L2
open PySem PySem.Spec PyProof.Rows

/-- a key: an int or a str -/
abbrev Key := Sum Int Str
def keyIs : Key → Value → Bool
  | .inl k, v => Value.isInt k v
  | .inr x, v => Value.isStrOf x v
def keyH (w : World) : Key → Int
  | .inl k => hashInt k
  | .inr x => hashStr w x
theorem keyIs_shape : ∀ {k : Key} {v : Value}, keyIs k v = true → (∃ i t, k = Sum.inl i ∧ v = Value.int i t) ∨ (∃ x t, k = Sum.inr x ∧ v = Value.str x t)
  | .inl i, v, h => by
    obtain ⟨t, e⟩ := Value.isInt_shape (k := i) (v := v) h
    exact .inl ⟨i, t, rfl, e⟩
  | .inr x, v, h => by
    obtain ⟨t, e⟩ := Value.isStrOf_shape (x := x) (v := v) h
    exact .inr ⟨x, t, rfl, e⟩
theorem keyIs_str (x : Str) (t : Tok) : keyIs (.inr x) (.str x t) = true := by simp [keyIs, Value.isStrOf]
theorem key_ll (a b : Int) : decide ((Sum.inl a : Key) = Sum.inl b) = (a == b) := by
  by_cases e : a = b
  · subst e; simp
  · have h : ¬ (Sum.inl a : Key) = Sum.inl b := fun q => e (Sum.inl.inj q)
    rw [decide_eq_false h]
    exact (beq_eq_false_iff_ne.mpr e).symm
theorem key_rr (a b : Str) : decide ((Sum.inr a : Key) = Sum.inr b) = decide (a = b) := by
  by_cases e : a = b
  · subst e; simp
  · have h : ¬ (Sum.inr a : Key) = Sum.inr b := fun q => e (Sum.inr.inj q)
    rw [decide_eq_false h, decide_eq_false e]
theorem key_lr (a : Int) (b : Str) : decide ((Sum.inl a : Key) = Sum.inr b) = false := decide_eq_false (fun q => nomatch q)
theorem key_rl (a : Str) (b : Int) : decide ((Sum.inr a : Key) = Sum.inl b) = false := decide_eq_false (fun q => nomatch q)

def mixKind (prog : Program) (w : World) : PySem.KeyKind prog w Key where
  is := keyIs
  hash := keyH w
  inj := fun v a b ha hb => by
    rcases keyIs_shape ha with ⟨i, t, rfl, rfl⟩ | ⟨x, t, rfl, rfl⟩
    · rcases keyIs_shape hb with ⟨j, u, rfl, e⟩ | ⟨y, u, rfl, e⟩
      · injection e with e1 _; rw [e1]
      · exact nomatch e
    · rcases keyIs_shape hb with ⟨j, u, rfl, e⟩ | ⟨y, u, rfl, e⟩
      · exact nomatch e
      · injection e with e1 _; rw [e1]
  byValue := fun k v h => by
    rcases keyIs_shape h with ⟨i, t, rfl, rfl⟩ | ⟨x, t, rfl, rfl⟩ <;> rfl
  pyHash := fun hv h => by
    rcases keyIs_shape hv with ⟨i, t, rfl, rfl⟩ | ⟨x, t, rfl, rfl⟩
    · exact wpAny_pyHash_int h
    · exact wpAny_pyHash_str h
  eqBool := fun hu hv h => by
    rcases keyIs_shape hu with ⟨i, t, rfl, rfl⟩ | ⟨x, t, rfl, rfl⟩
    · rcases keyIs_shape hv with ⟨j, u, rfl, rfl⟩ | ⟨y, u, rfl, rfl⟩
      · rw [key_ll] at h; exact wpAny_eqBool_int h
      · rw [key_lr] at h; exact SeqAt.EqAt.int_str i t y u _ _ _ _ h
    · rcases keyIs_shape hv with ⟨j, u, rfl, rfl⟩ | ⟨y, u, rfl, rfl⟩
      · rw [key_rl] at h; exact SeqAt.EqAt.str_int x t j u _ _ _ _ h
      · rw [key_rr] at h; exact wpAny_eqBool_str h
  «strs» := fun k x t v h => by
    rcases keyIs_shape h with ⟨i, u, rfl, e⟩ | ⟨y, u, rfl, e⟩
    · exact nomatch e
    · injection e with e1 _
      subst e1
      cases v <;> rfl

end L2

namespace L2
open PySem PySem.Spec PyProof.Rows

/-- a value, without the heap -/
inductive V where
  | non | bl (b : Bool) | int (i : Int) | str (x : Str) | byt (b : Array UInt8) | flt (b : UInt64) | ref (a : Addr) | ty (n : String)
  deriving DecidableEq

def RelV : V → Value → Prop
  | .non, u => u = Value.none
  | .bl b, u => u = Value.bool b
  | .int i, u => ∃ t, u = Value.int i t
  | .str x, u => ∃ t, u = Value.str x t
  | .byt b, u => ∃ t, u = Value.bytes b t
  | .flt b, u => ∃ t, u = Value.float b t
  | .ref a, u => u = Value.ref a
  | .ty n, u => u = Value.type n

abbrev Vals : List V → List Value → Prop := Paired RelV
theorem Vals.length {xs : List V} {us : List Value} (r : Vals xs us) : xs.length = us.length := Paired.length r
theorem Vals.get : ∀ {xs : List V} {us : List Value} {i : Nat} {x : V}, Vals xs us → xs[i]? = some x → ∃ u, us[i]? = some u ∧ RelV x u
  | _, _, _, _, .nil, e => by simp at e
  | _, _, 0, _, .cons r _, e => by simp at e; subst e; exact ⟨_, rfl, r⟩
  | _, _, i + 1, x, .cons _ t, e => by
    obtain ⟨u, h1, h2⟩ := Vals.get (i := i) (x := x) t (by simpa using e)
    exact ⟨u, by simpa using h1, h2⟩
theorem Vals.set {x : V} {u : Value} (r : RelV x u) : ∀ {xs : List V} {us : List Value} (i : Nat), Vals xs us → Vals (xs.set i x) (us.set i u)
  | _, _, _, .nil => .nil
  | _, _, 0, .cons _ t => .cons r t
  | _, _, i + 1, .cons q t => .cons q (Vals.set r i t)
theorem Vals.append : ∀ {xs ys : List V} {us ws : List Value}, Vals xs us → Vals ys ws → Vals (xs ++ ys) (us ++ ws)
  | _, _, _, _, .nil, s => s
  | _, _, _, _, .cons r t, s => .cons r (Vals.append t s)
theorem Vals.take : ∀ {xs : List V} {us : List Value} (n : Nat), Vals xs us → Vals (xs.take n) (us.take n)
  | _, _, 0, _ => .nil
  | _, _, _ + 1, .nil => .nil
  | _, _, n + 1, .cons r t => .cons r (Vals.take n t)
theorem Vals.drop : ∀ {xs : List V} {us : List Value} (n : Nat), Vals xs us → Vals (xs.drop n) (us.drop n)
  | _, _, 0, r => r
  | _, _, _ + 1, .nil => .nil
  | _, _, n + 1, .cons _ t => Vals.drop n t
def RelO : Option V → Option Value → Prop
  | some v, some u => RelV v u
  | none, none => True
  | _, _ => False
def KV {κ : Type} : List (κ × V) → List (κ × Value) → Prop := Paired fun (p : κ × V) (q : κ × Value) => p.1 = q.1 ∧ RelV p.2 q.2

/-- a key of a dict (00_mix): an int or a text -/
def kV : Key → V
  | .inl i => .int i
  | .inr x => .str x

/-- what stands at a tracked address -/
inductive HO where
  /-- a list -/
  | lst (xs : List V)
  /-- a tuple (never changes) -/
  | tup (xs : List V)
  /-- a dict whose keys are ints and texts; one whose keys are tuples of ints and texts (the empty one is both) -/
  | dK (kvs : List (Key × V)) | dT (kvs : List (List Key × V))
  /-- a set of ints: its members, its size -/
  | set (S : Int → Bool) (n : Nat)
  /-- an instance of the class at C, its dict at dx, its attributes -/
  | ins (C dx : Addr) (fs : List (Str × V))
  /-- the dict of the instance at x -/
  | own (x : Addr)
  /-- the dict of an exception -/
  | xd (fs : List (Str × V))
  /-- a bound method, f of x -/
  | met (f x : Addr)
  /-- a range object lo, lo + 1, .. below hi -/
  | rng (lo hi : Int)
  /-- a thing that is known to the object (the script; a dict while a loop walks it): read, never written while it is so -/
  | frz (o : Obj) (u : HO)
  /-- a code object's table -/
  | tbl (ps : Array Value)
  /-- any other thing, by what is true of its one object (a def of one's own: SetO a S n := HO.ext fun h => ..) -/
  | ext (φ : Heap → Prop)

abbrev Hp := Addr → Option HO
def upd (H : Hp) (a : Addr) (o : HO) : Hp := fun b => if b = a then some o else H b
theorem upd_same {H : Hp} {a : Addr} {o : HO} : upd H a o a = some o := by unfold upd; rw [if_pos rfl]
theorem upd_ne {H : Hp} {a b : Addr} {o : HO} (h : b ≠ a) : upd H a o b = H b := by unfold upd; rw [if_neg h]
theorem upd_upd {H : Hp} {a : Addr} {o u : HO} : upd (upd H a o) a u = upd H a u := by
  funext b; unfold upd; split <;> rfl
/-- two objects of different content stand apart -/
theorem ne_of {H : Hp} {a b : Addr} {o u : HO} (h : H a = some o) (h' : H b = some u) (d : o ≠ u) : a ≠ b := by
  intro e; subst e; rw [h] at h'; exact d (Option.some.inj h')
theorem ne_of_none {H : Hp} {a b : Addr} {o : HO} (h : H a = some o) (h' : H b = none) : a ≠ b := by
  intro e; subst e; rw [h] at h'; cases h'

section
variable (P : Program) (w : World)
def ObjOk (H : Hp) (h : Heap) (a : Addr) : HO → Prop
  | .lst xs => xs.length ≤ sizeLine ∧ ∃ (its : List Value) (n : Nat), Vals xs its ∧ h.get? a = some { cls := .type "list", data := .seq its.toArray n }
  | .tup xs => xs.length ≤ sizeLine ∧ ∃ its : List Value, Vals xs its ∧ IsTup h a its.toArray
  | .dK kvs => kvs.length ≤ sizeLine ∧ (a == sysModules) = false ∧ ∃ vs, KV kvs vs ∧ h.DictOf (mixKind P w) a vs
  | .dT kvs => kvs.length ≤ sizeLine ∧ (a == sysModules) = false ∧ ∃ xs : List (List Key × Addr × Value),
      Paired (fun (p : List Key × V) (q : List Key × Addr × Value) => p.1 = q.1 ∧ H q.2.1 = some (.tup (p.1.map kV)) ∧ RelV p.2 q.2.2) kvs xs ∧
      ∃ o es ep, h.get? a = some o ∧ o.ExactDict ∧ o.data = .dict es ep ∧ es.toList = xs.map (entryOfKey (tupleKind (mixKind P w))) ∧ (xs.map (·.1)).Nodup
  | .set S n => h.SetOf (intKind P w) a S n
  | .ins C dx fs => H dx = some (.own a) ∧ fs.length ≤ 1000 ∧ dx ≠ a ∧ h.get? a = some (PySem.W.instObj C dx) ∧
      ∃ mA, h.Ns1 dx mA ∧ (∀ f, RelO (fs.lookup f) (mA f)) ∧ PySem.Within mA (fs.map (·.1))
  | .own _ => ∃ o, h.get? a = some o
  | .xd fs => ∃ mA, h.Ns1 a mA ∧ ∀ f, RelO (fs.lookup f) (mA f)
  | .rng lo hi => ∃ t u v, h.get? a = some { cls := .type "range", data := .fields #[.int lo t, .int hi u, .int 1 v] }
  | .frz o u => h.get? a = some o ∧ ObjOk H h a u
  | .tbl ps => h.get? a = some { cls := .none, data := .fields ps }
  | .met f x => h.get? a = some (PySem.W.methodObj (.ref f) (.ref x))
  | .ext φ => φ h ∧ (∃ o, h.get? a = some o) ∧ ∀ h1 h2 : Heap, φ h1 → (∀ o, h1.get? a = some o → h2.get? a = some o) → φ h2
/-- the abstract heap is held -/
def HOk (H : Hp) (h : Heap) : Prop := ∀ a o, H a = some o → ObjOk P w H h a o
end

section
variable {P : Program} {w : World} {H H' : Hp} {h h' : Heap} {a : Addr} {o : HO}
theorem ObjOk.lt (x : ObjOk P w H h a o) : a < h.objs.size := by
  cases o with
  | lst xs => obtain ⟨_, _, _, _, e⟩ := x; exact Heap.lt_size e
  | tup xs => obtain ⟨_, _, _, p⟩ := x; exact p.lt
  | dK kvs => obtain ⟨_, _, _, _, o, _, _, e, _⟩ := x; exact Heap.lt_size e
  | dT kvs => obtain ⟨_, _, _, _, o, _, _, e, _⟩ := x; exact Heap.lt_size e
  | set S n => obtain ⟨o, _, _, _, e, _⟩ := x; exact Heap.lt_size e
  | ins C dx fs => obtain ⟨_, _, _, e, _⟩ := x; exact Heap.lt_size e
  | own y => obtain ⟨_, e⟩ := x; exact Heap.lt_size e
  | xd fs => obtain ⟨_, ⟨_, _, _, e, _⟩, _⟩ := x; exact Heap.lt_size e
  | rng lo hi => obtain ⟨_, _, _, e⟩ := x; exact Heap.lt_size e
  | frz ob u => obtain ⟨e, _⟩ := x; exact Heap.lt_size e
  | tbl ps => exact Heap.lt_size (show h.get? a = some _ from x)
  | met f y => exact Heap.lt_size (show h.get? a = some _ from x)
  | ext φ => obtain ⟨_, ⟨_, e⟩, _⟩ := x; exact Heap.lt_size e
theorem Paired.mapP {α β : Type} {F G : α → β → Prop} : ∀ {l₁ : List α} {l₂ : List β}, Paired F l₁ l₂ → (∀ a b, F a b → G a b) → Paired G l₁ l₂
  | _, _, .nil, _ => .nil
  | _, _, .cons r t, f => .cons (f _ _ r) (Paired.mapP t f)
/-- what an object's description leans on: its own object, its own dict, the tuples -/
theorem ObjOk.stay (x : ObjOk P w H h a o) (k : ∀ b u, (b = a ∨ H b = some (.own a)) → h.get? b = some u → h'.get? b = some u)
    (ho : ∀ b, H b = some (.own a) → H' b = some (.own a)) (ht : ∀ b xs, H b = some (.tup xs) → H' b = some (.tup xs)) : ObjOk P w H' h' a o := by
  induction o with
  | lst xs => obtain ⟨z, its, n, r, e⟩ := x; exact ⟨z, its, n, r, k _ _ (.inl rfl) e⟩
  | tup xs => obtain ⟨z, its, r, ob, e, c⟩ := x; exact ⟨z, its, r, ob, k _ _ (.inl rfl) e, c⟩
  | dK kvs => obtain ⟨z, y, vs, r, ob, es, ep, e, c⟩ := x; exact ⟨z, y, vs, r, ob, es, ep, k _ _ (.inl rfl) e, c⟩
  | dT kvs =>
    obtain ⟨z, y, xs, r, ob, es, ep, e, c⟩ := x
    exact ⟨z, y, xs, Paired.mapP r fun p q z => ⟨z.1, ht _ _ z.2.1, z.2.2⟩, ob, es, ep, k _ _ (.inl rfl) e, c⟩
  | set S n => obtain ⟨ob, es, ep, t, e, c⟩ := x; exact ⟨ob, es, ep, t, k _ _ (.inl rfl) e, c⟩
  | ins C dx fs =>
    obtain ⟨d, z, ne, e, mA, ⟨od, es, ep, e2, c⟩, r⟩ := x
    exact ⟨ho _ d, z, ne, k _ _ (.inl rfl) e, mA, ⟨od, es, ep, k _ _ (.inr d) e2, c⟩, r⟩
  | own y => obtain ⟨ob, e⟩ := x; exact ⟨ob, k _ _ (.inl rfl) e⟩
  | xd fs => obtain ⟨mA, ⟨od, es, ep, e, c⟩, r⟩ := x; exact ⟨mA, ⟨od, es, ep, k _ _ (.inl rfl) e, c⟩, r⟩
  | rng lo hi => obtain ⟨t, u, v, e⟩ := x; exact ⟨t, u, v, k _ _ (.inl rfl) e⟩
  | frz ob u ih => obtain ⟨e, q⟩ := x; exact ⟨k _ _ (.inl rfl) e, ih q⟩
  | tbl ps =>
    have e : h.get? a = some { cls := .none, data := .fields ps } := x
    show h'.get? a = some { cls := .none, data := .fields ps }
    exact k a _ (.inl rfl) e
  | met f y =>
    have e : h.get? a = some (PySem.W.methodObj (.ref f) (.ref y)) := x
    show h'.get? a = some (PySem.W.methodObj (.ref f) (.ref y))
    exact k a _ (.inl rfl) e
  | ext φ => obtain ⟨p, ⟨o, e⟩, st⟩ := x; exact ⟨st _ _ p fun o q => k _ _ (.inl rfl) q, ⟨o, k _ _ (.inl rfl) e⟩, st⟩
theorem HOk.lt (x : HOk P w H h) (e : H a = some o) : a < h.objs.size := (x a o e).lt
theorem HOk.fresh (x : HOk P w H h) (e : h.objs.size ≤ a) : H a = none := by
  cases q : H a with
  | none => rfl
  | some u => exact absurd (Nat.lt_of_lt_of_le (x.lt q) e) (Nat.lt_irrefl _)
/-- every object of the heap is kept -/
theorem HOk.kept (x : HOk P w H h) (k : ∀ b u, h.get? b = some u → h'.get? b = some u) : HOk P w H h' := fun a o e =>
  (x a o e).stay (fun b u _ q => k b u q) (fun _ q => q) fun _ _ q => q
/-- a new object is laid and tracked -/
theorem HOk.laid (x : HOk P w H h) (k : ∀ b u, h.get? b = some u → h'.get? b = some u) (hp : h.objs.size ≤ a) (new : ObjOk P w (upd H a o) h' a o) : HOk P w (upd H a o) h' := fun b u e => by
  have hn := x.fresh hp
  by_cases hb : b = a
  · subst hb; rw [upd_same] at e; cases e; exact new
  · rw [upd_ne hb] at e
    exact (x b u e).stay (fun c v _ q => k c v q) (fun c q => by rw [upd_ne (ne_of_none q hn)]; exact q) fun c xs q => by rw [upd_ne (ne_of_none q hn)]; exact q
end

/-- what may be read as u: it is u, or a known u -/
def Rd (H : Hp) (a : Addr) (u : HO) : Prop := H a = some u ∨ ∃ o, H a = some (.frz o u)
theorem Rd.of {H : Hp} {a : Addr} {u : HO} (h : H a = some u) : Rd H a u := .inl h
theorem Rd.ok {P : Program} {w : World} {H : Hp} {h : Heap} {a : Addr} {u : HO} (r : Rd H a u) (x : HOk P w H h) : ObjOk P w H h a u := by
  rcases r with r | ⟨o, r⟩
  · exact x a u r
  · obtain ⟨_, q⟩ := x a _ r
    exact q
/-- what may be written -/
def Mut : Option HO → Prop
  | some (.lst _) => True
  | some (.dK _) => True
  | some (.dT _) => True
  | some (.set _ _) => True
  | some (.ins _ _ _) => True
  | some (.ext _) => True
  | _ => False
section
variable {P : Program} {w : World} {H : Hp} {h h' : Heap} {x e : Addr} {o' : HO}
/-- the object at e is changed: x itself, or the dict of the instance x -/
theorem HOk.write (ok : HOk P w H h) (mu : Mut (H x)) (he : e = x ∨ H e = some (.own x)) (k : ∀ b u, b ≠ e → h.get? b = some u → h'.get? b = some u) (heo : ∃ u, h'.get? e = some u)
    (new : ObjOk P w (upd H x o') h' x o') : HOk P w (upd H x o') h' := fun b u q => by
  have nown : ∀ c y, H c = some (.own y) → c ≠ x := fun c y r z => by subst z; rw [r] at mu; exact mu
  have ntup : ∀ c xs, H c = some (.tup xs) → c ≠ x := fun c xs r z => by subst z; rw [r] at mu; exact mu
  by_cases hb : b = x
  · subst hb; rw [upd_same] at q; cases q; exact new
  · rw [upd_ne hb] at q
    by_cases hbe : b = e
    · have q' : H b = some (.own x) := by
        rcases he with z | z
        · exact absurd (hbe.trans z) hb
        · rw [hbe]; exact z
      rw [q] at q'; cases q'
      obtain ⟨v, hv⟩ := heo
      exact ⟨v, by rw [hbe]; exact hv⟩
    · refine (ok b u q).stay (fun c v hc r => k c v ?_ r) (fun c r => by rw [upd_ne (nown c b r)]; exact r) fun c xs r => by rw [upd_ne (ntup c xs r)]; exact r
      rcases hc with rfl | hc
      · exact hbe
      · rintro rfl
        rcases he with z | z
        · exact nown c b hc z
        · rw [hc] at z; cases z; exact hb rfl
end

structure Un (fs ex : List Addr) (H H' : Hp) (h h' : Heap) : Prop where
  keep : ∀ b o, h.get? b = some o → H b = none → b ∉ fs → b ∉ ex → h'.get? b = some o
  slot : ∀ b o, h.get? b = some o → H b = none → b ∈ fs → b ∉ ex → ∃ sl, h'.get? b = some { o with slots := sl }
  free : ∀ b o, h.get? b = some o → H b = none → b ∉ ex → H' b = none
  there : ∀ b o, h.get? b = some o → b ∉ ex → ∃ o', h'.get? b = some o'
  tups : ∀ b xs, H b = some (.tup xs) → H' b = some (.tup xs)
  frzs : ∀ b o u, H b = some (.frz o u) → H' b = some (.frz o u)
  tbls : ∀ b ps, H b = some (.tbl ps) → ∃ more, H' b = some (.tbl (ps ++ more))
section
variable {fs fs' ex ex' : List Addr} {H H1 H2 : Hp} {h h1 h2 h' : Heap} {a x e : Addr} {o : HO}
theorem Un.any (u : Un fs ex H H1 h h1) {b : Addr} {ob : Obj} (q : h.get? b = some ob) (n : H b = none) (hx : b ∉ ex) : ∃ sl, h1.get? b = some { ob with slots := sl } := by
  by_cases hb : b ∈ fs
  · exact u.slot b ob q n hb hx
  · exact ⟨ob.slots, u.keep b ob q n hb hx⟩
theorem Un.trans (a : Un fs ex H H1 h h1) (b : Un fs ex H1 H2 h1 h2) : Un fs ex H H2 h h2 where
  keep := fun c ob q n hc hx => b.keep c ob (a.keep c ob q n hc hx) (a.free c ob q n hx) hc hx
  slot := fun c ob q n hc hx => by
    obtain ⟨sl, e1⟩ := a.slot c ob q n hc hx
    obtain ⟨sl', e2⟩ := b.slot c _ e1 (a.free c ob q n hx) hc hx
    exact ⟨sl', e2⟩
  free := fun c ob q n hx => by
    obtain ⟨o', e1⟩ := a.there c ob q hx
    exact b.free c o' e1 (a.free c ob q n hx) hx
  there := fun c ob q hx => by
    obtain ⟨o', e1⟩ := a.there c ob q hx
    exact b.there c o' e1 hx
  tups := fun c xs q => b.tups c xs (a.tups c xs q)
  frzs := fun c ob xs q => b.frzs c ob xs (a.frzs c ob xs q)
  tbls := fun c ps q => by
    obtain ⟨m1, e1⟩ := a.tbls c ps q
    obtain ⟨m2, e2⟩ := b.tbls c _ e1
    exact ⟨m1 ++ m2, by rw [e2, Array.append_assoc]⟩
theorem Un.kept (k : ∀ b u, h.get? b = some u → h'.get? b = some u) : Un fs ex H H h h' :=
  ⟨fun b ob q _ _ _ => k b ob q, fun b ob q _ _ _ => ⟨ob.slots, k b ob q⟩, fun _ _ _ n _ => n, fun b ob q _ => ⟨ob, k b ob q⟩, fun _ _ q => q, fun _ _ _ q => q, fun _ ps q => ⟨#[], by rw [q]; simp⟩⟩
theorem Un.refl : Un fs ex H H h h := Un.kept fun _ _ q => q
theorem Un.laid (k : ∀ b u, h.get? b = some u → h'.get? b = some u) (hp : h.objs.size ≤ a) (hn : H a = none) : Un fs ex H (upd H a o) h h' where
  keep := fun b u q _ _ _ => k b u q
  slot := fun b u q _ _ _ => ⟨u.slots, k b u q⟩
  free := fun b u q n _ => by rw [upd_ne (Nat.ne_of_lt (Nat.lt_of_lt_of_le (Heap.lt_size q) hp))]; exact n
  there := fun b u q _ => ⟨u, k b u q⟩
  tups := fun b xs q => by rw [upd_ne (ne_of_none q hn)]; exact q
  frzs := fun b u xs q => by rw [upd_ne (ne_of_none q hn)]; exact q
  tbls := fun b ps q => ⟨#[], by rw [upd_ne (ne_of_none q hn), q]; simp⟩
theorem Un.write (mu : Mut (H x)) (he : e = x ∨ H e = some (.own x)) (k : ∀ b u, b ≠ e → h.get? b = some u → h'.get? b = some u) (heo : ∃ u, h'.get? e = some u) : Un fs ex H (upd H x o) h h' := by
  have hx : ∀ b, H b = none → b ≠ x := fun b n z => by subst z; rw [n] at mu; exact mu
  have hb : ∀ b, H b = none → b ≠ e := fun b n z => by
    subst z
    rcases he with r | r
    · exact hx b n r
    · rw [n] at r; cases r
  have hm : ∀ b u, H b = some u → ¬ Mut (some u) → b ≠ x := fun b u q nm z => by subst z; rw [q] at mu; exact nm mu
  refine ⟨fun b u q n _ _ => k b u (hb b n) q, fun b u q n _ _ => ⟨u.slots, k b u (hb b n) q⟩, fun b u q n _ => by rw [upd_ne (hx b n)]; exact n, fun b u q _ => ?_,
    fun b xs q => by rw [upd_ne (hm b _ q fun z => z)]; exact q, fun b u xs q => by rw [upd_ne (hm b _ q fun z => z)]; exact q, fun b ps q => ⟨#[], by rw [upd_ne (hm b _ q fun z => z), q]; simp⟩⟩
  by_cases hbe : b = e
  · subst hbe; exact heo
  · exact ⟨u, k b u hbe q⟩
theorem Un.mono (u : Un fs ex H H1 h h1) (hs : ∀ b ∈ fs, b ∈ fs') (hx : ∀ b ∈ ex, b ∈ ex') : Un fs' ex' H H1 h h1 :=
  ⟨fun b ob q n hb he => u.keep b ob q n (fun z => hb (hs b z)) fun z => he (hx b z), fun _ _ q n _ he => u.any q n fun z => he (hx _ z), fun b ob q n he => u.free b ob q n fun z => he (hx b z), fun b ob q he => u.there b ob q fun z => he (hx b z), u.tups, u.frzs, u.tbls⟩
end

def trk (h : Heap) (H : Hp) : List Addr := (List.range h.objs.size).filter fun a => (H a).isSome
def hidT (h : Heap) (H : Hp) : Heap := PySem.W.hideAll h (trk h H)
theorem hidT_size (h : Heap) (H : Hp) : (hidT h H).objs.size = h.objs.size := PySem.W.hideAll_size _ _
theorem hidT_get {h : Heap} {H : Hp} {b : Addr} {o : Obj} (e : h.get? b = some o) (n : H b = none) : (hidT h H).get? b = some o :=
  PySem.W.hideAll_get _ e fun hm => by
    have q : (H b).isSome = true := (List.mem_filter.mp hm).2
    rw [n] at q; simp at q
theorem of_hidT {h : Heap} {H : Hp} {b : Addr} {o : Obj} (e : (hidT h H).get? b = some o) : h.get? b = some o ∧ H b = none := by
  have e' : h.get? b = some o := PySem.W.of_hideAll (trk h H) e
  refine ⟨e', ?_⟩
  cases q : H b with
  | none => rfl
  | some x =>
    have hm : b ∈ trk h H := List.mem_filter.mpr ⟨List.mem_range.mpr (Heap.lt_size e'), by simp [q]⟩
    have z : (hidT h H).get? b = none := PySem.W.hideAll_none (trk h H) hm
    rw [z] at e; cases e

def allNews (g h : Heap) (L : Addr) : List (Addr × Obj) := (List.range h.objs.size).filterMap fun a => if a = L ∨ (g.get? a).isSome = true then none else (h.get? a).map fun o => (a, o)
def rest (g h : Heap) (L d : Addr) : List (Addr × Obj) := (allNews g h L).filter fun p => decide (p.1 ≠ d)
end L2

namespace L2
open PySem PySem.Spec PyProof.Rows

/-- the module's facts, over the base: the heap at the law's entry without what is tracked there -/
structure Mod (K : PySem.W.Frag) (mg : Str → Option Value) (base : Heap) : Prop where
  kin : K.In base
  glob : base.Ns mainGlobals mg
  blt : ∃ mb, base.Ns builtinsNs mb ∧ ∀ x : Str, x ≠ "__name__" → mb x = bootBuiltins x
  nolimit : base.NoLimit

/-- the context: a def's body (or a comprehension's block) running. base: fixed through the whole law; s₀, H₀: the entry; outer: the frames whose slots others may change (a def's callers); stack: all frames that run;
   ex: iterators that were made ahead of the entry and are walked here (a comprehension's); fn: the names whose cells were made at the entry (a def: all; a comprehension's block: its own); calm: not within an except suite; pn: pins that every state bears; xe: what is wanted of an exception that leaves the code -/
structure Cx where
  prog : Program
  w : World
  K : PySem.W.Frag
  mg : Str → Option Value
  base : Heap
  A : Around
  N : List Str
  s₀ : Shared
  H₀ : Hp
  env : Env
  outer : List Env
  stack : List Env
  ex : List Addr
  fn : Str → Bool
  calm : Bool
  pn : List (Addr × Obj)
  xe : Value → Shared → Prop
/-- the callers' frames -/
def frs (l : List Env) : List Addr := l.filterMap (·.frame)
abbrev Cx.fs (X : Cx) : List Addr := frs X.outer

def Vis (sc : Scope) (x : Str) : Prop := sc.names.lookup x = some .local ∨ sc.names.lookup x = some .cell ∨ sc.names.lookup x = some .free
def Loc (sc : Scope) (x : Str) : Prop := sc.names.lookup x = some .local ∨ sc.names.lookup x = some .cell
def Look (env : Env) (h : Heap) (m : Str → Option Value) (x : Str) (u : Value) : Prop :=
  (env.kindOf x = some .local ∧ m x = some u) ∨ ((env.kindOf x = some .cell ∨ env.kindOf x = some .free) ∧ ∃ c, env.cells.lookup x = some c ∧ h.IsCell c (some u))

structure Cx.Ok (X : Cx) : Prop where
  mod : Mod X.K X.mg X.base
  kind : X.env.scope.kind = .function
  glob : X.env.globals = mainGlobals
  blt : X.env.builtins = builtinsNs
  above : X.s₀.heap.objs.size ≤ X.env.locals
  inj : ∀ x y c, X.env.cells.lookup x = some c → X.env.cells.lookup y = some c → x = y
  has : ∀ x, (X.env.kindOf x = some .cell ∨ X.env.kindOf x = some .free) → ∃ c, X.env.cells.lookup x = some c
  cab : ∀ x c, X.fn x = true → X.env.cells.lookup x = some c → X.s₀.heap.objs.size ≤ c
  hd : X.calm = true → X.A.handled = none
  frames : X.A.frames = some X.stack
  stk : X.stack = X.outer ∨ (X.stack = X.env :: X.outer ∧ X.env.frame = some X.env.locals)
  exf : ∀ b ∈ X.ex, b ≠ X.env.locals ∧ ∀ x c, X.env.cells.lookup x = some c → c ≠ b
  bs : ∀ b o, X.base.get? b = some o → X.s₀.heap.get? b = some o ∧ X.H₀ b = none
  bsz : X.base.objs.size ≤ X.s₀.heap.objs.size
  noex : ∀ b o, X.base.get? b = some o → b ∉ X.ex
  exfs : ∀ b ∈ X.ex, b ∉ X.fs
  funs : X.s₀.heap.FunFrames X.base X.outer
  frf : ∀ b ∈ X.fs, X.H₀ b = none

structure Inv (X : Cx) (pins : List (Addr × Obj)) (σ : List (Option V)) (H : Hp) (s : Shared) : Prop where
  ok : X.Ok
  os : s.os = X.s₀.os
  bare : AllBare s.gens
  base : Un X.fs X.ex X.H₀ H X.s₀.heap s.heap
  loc : ∃ m, s.heap.Ns X.env.locals m ∧ ∀ (i : Nat) (x : Str) (v : V), X.N[i]? = some x → σ[i]? = some (some v) → Vis X.env.scope x → ∃ u, RelV v u ∧ Look X.env s.heap m x u
  cell : ∀ x c, X.env.cells.lookup x = some c → ∃ v, s.heap.IsCell c v
  free : H X.env.locals = none
  freeC : ∀ x c, X.env.cells.lookup x = some c → H c = none
  pin : ∀ p ∈ X.pn ++ pins, s.heap.get? p.1 = some p.2 ∧ H p.1 = none ∧ p.1 ≠ X.env.locals ∧ p.1 ∉ X.fs ∧ ∀ v, p.2.data ≠ .cell v
  hok : HOk X.prog X.w H s.heap
  len : σ.length = X.N.length

section
variable {X : Cx} {pins : List (Addr × Obj)} {σ : List (Option V)} {H H' : Hp} {s : Shared} {h' : Heap}

theorem Cx.Ok.nofr (ok : X.Ok) {b : Addr} {o : Obj} (e : X.base.get? b = some o) : b ∉ X.fs := fun hb => by
  have := (ok.funs.mem hb).1
  rw [e] at this; cases this
theorem Inv.bs (I : Inv X pins σ H s) : ∀ b o, X.base.get? b = some o → s.heap.get? b = some o ∧ H b = none := fun b o e =>
  ⟨I.base.keep b o (I.ok.bs b o e).1 (I.ok.bs b o e).2 (I.ok.nofr e) (I.ok.noex b o e), I.base.free b o (I.ok.bs b o e).1 (I.ok.bs b o e).2 (I.ok.noex b o e)⟩
theorem Inv.bk (I : Inv X pins σ H s) : ∀ b o, X.base.get? b = some o → s.heap.get? b = some o := fun b o e => (I.bs b o e).1
theorem Inv.mod (I : Inv X pins σ H s) : Mod X.K X.mg X.base := I.ok.mod
theorem Inv.kIn (I : Inv X pins σ H s) : X.K.In s.heap := I.ok.mod.kin.keeps I.bk
theorem Inv.nolimit (I : Inv X pins σ H s) : s.heap.NoLimit := I.ok.mod.nolimit.keeps I.bk
/-- the frame over the base: for OpenK's rules (K.In X.base is I.mod.kin) -/
theorem Inv.fr (I : Inv X pins σ H s) : ∃ m, Fr X.base X.env.locals s.heap m :=
  let ⟨m, hn, _⟩ := I.loc
  ⟨m, hn, I.bk, Nat.le_trans I.ok.bsz I.ok.above⟩
theorem Inv.lt (I : Inv X pins σ H s) : X.env.locals < s.heap.objs.size := let ⟨_, hn, _⟩ := I.loc; hn.lt
theorem Inv.sz (I : Inv X pins σ H s) : X.s₀.heap.objs.size ≤ s.heap.objs.size := Nat.le_trans I.ok.above (Nat.le_of_lt I.lt)
theorem Inv.nofs (I : Inv X pins σ H s) {a : Addr} (h : s.heap.objs.size ≤ a) : a ∉ X.fs := fun hb => by
  obtain ⟨_, o, ho, _⟩ := I.ok.funs.mem hb
  exact absurd (Nat.lt_of_lt_of_le (Heap.lt_size ho) (Nat.le_trans I.sz h)) (Nat.lt_irrefl _)
theorem Inv.cne (I : Inv X pins σ H s) : ∀ x c, X.env.cells.lookup x = some c → c ≠ X.env.locals := fun x c e z => by
  obtain ⟨v, o, ho, hd⟩ := I.cell x c e
  obtain ⟨m, ⟨o', es, ep, ho', hd', _⟩, _⟩ := I.loc
  rw [z, ho'] at ho; cases ho; rw [hd'] at hd; cases hd
theorem Inv.funs (I : Inv X pins σ H s) : s.heap.FunFrames X.base X.outer := by
  have all : ∀ (l : List Env), (∀ b ∈ frs l, b ∈ X.fs) → X.s₀.heap.FunFrames X.base l → s.heap.FunFrames X.base l := by
    intro l
    induction l with
    | nil => intro _ _; trivial
    | cons env r ih =>
      intro hs hl
      obtain ⟨hk, ⟨L, o, hf, hn, ho, hd⟩, hr⟩ := hl
      have hL : L ∈ X.fs := hs L (by unfold frs; rw [List.filterMap_cons, hf]; exact List.mem_cons_self)
      obtain ⟨sl, e⟩ := I.base.slot L o ho (I.ok.frf L hL) hL fun z => I.ok.exfs L z hL
      exact ⟨hk, ⟨L, _, hf, hn, e, hd⟩, ih (fun b hb => hs b (by unfold frs; rw [List.filterMap_cons, hf]; exact List.mem_cons_of_mem _ hb)) hr⟩
  exact all X.outer (fun _ hb => hb) I.ok.funs

/-- the frames that run, for a call -/
theorem Inv.stack (I : Inv X pins σ H s) : s.heap.FunFrames X.base X.stack := by
  rcases I.ok.stk with e | ⟨e, hf⟩
  · rw [e]; exact I.funs
  · rw [e]
    obtain ⟨m, hn, _⟩ := I.loc
    refine .cons (by rw [I.ok.kind]; decide) hf hn ?_ I.funs
    exact Heap.get?_none_of_le (Nat.le_trans I.ok.bsz I.ok.above)
theorem Inv.stkSub (I : Inv X pins σ H s) : ∀ b ∈ frs X.stack, b ∈ X.env.locals :: X.fs := fun b hb => by
  rcases I.ok.stk with e | ⟨e, hf⟩
  · rw [e] at hb; exact List.mem_cons_of_mem _ hb
  · rw [e] at hb
    unfold frs at hb
    rw [List.filterMap_cons, hf] at hb
    exact hb
theorem Inv.stkFree (I : Inv X pins σ H s) : ∀ b ∈ frs X.stack, H b = none := fun b hb => by
  rcases List.mem_cons.mp (I.stkSub b hb) with e | hb
  · rw [e]; exact I.free
  · obtain ⟨_, o, ho, _⟩ := I.ok.funs.mem hb
    exact I.base.free b o ho (I.ok.frf b hb) fun z => I.ok.exfs b z hb

/-- THE STEP: the untracked objects but the frame and the records at ch are kept (the callers' frames up to slots), the frame's map is kept, the new abstract heap is held -/
theorem Inv.step {g' : Array GenState} {t' : Nat} {d' : Drawn} {ch : List Addr} (I : Inv X pins σ H s)
    (hch : ∀ b ∈ ch, (b ∈ X.ex ∨ X.s₀.heap.objs.size ≤ b) ∧ b ≠ X.env.locals ∧ (∀ x c, X.env.cells.lookup x = some c → c ≠ b) ∧ ∀ p ∈ X.pn ++ pins, p.1 ≠ b)
    (keep : ∀ b o, b ≠ X.env.locals → b ∉ X.fs → b ∉ ch → s.heap.get? b = some o → H b = none → h'.get? b = some o)
    (slot : ∀ b o, b ≠ X.env.locals → b ∈ X.fs → b ∉ ch → s.heap.get? b = some o → H b = none → ∃ sl, h'.get? b = some { o with slots := sl }) (free : ∀ b o, b ∉ ch → s.heap.get? b = some o → H b = none → H' b = none)
    (there : ∀ b o, b ∉ ch → s.heap.get? b = some o → ∃ o', h'.get? b = some o')
    (tups : ∀ b xs, H b = some (.tup xs) → H' b = some (.tup xs)) (frzs : ∀ b o u, H b = some (.frz o u) → H' b = some (.frz o u)) (tbls : ∀ b ps, H b = some (.tbl ps) → ∃ more, H' b = some (.tbl (ps ++ more)))
    (ns : ∀ m, s.heap.Ns X.env.locals m → h'.Ns X.env.locals m) (hok : HOk X.prog X.w H' h') (hg : AllBare g') :
    Inv X pins σ H' { s with heap := h', gens := g', drawn := d', toks := t' } := by
  have neL : ∀ b o, X.s₀.heap.get? b = some o → b ≠ X.env.locals := fun b o e => Nat.ne_of_lt (Nat.lt_of_lt_of_le (Heap.lt_size e) I.ok.above)
  have neC : ∀ b o, X.s₀.heap.get? b = some o → b ∉ X.ex → b ∉ ch := fun b o e hx hb => by
    rcases (hch b hb).1 with z | z
    · exact hx z
    · exact absurd (Nat.lt_of_lt_of_le (Heap.lt_size e) z) (Nat.lt_irrefl _)
  have cellK : ∀ x c, X.env.cells.lookup x = some c → ∀ v, s.heap.IsCell c v → h'.IsCell c v := fun x c e v ⟨o, ho, hd⟩ => by
    have nch : c ∉ ch := fun z => (hch c z).2.2.1 x c e rfl
    by_cases hc : c ∈ X.fs
    · obtain ⟨sl, q⟩ := slot c o (I.cne x c e) hc nch ho (I.freeC x c e)
      exact ⟨_, q, hd⟩
    · exact ⟨o, keep c o (I.cne x c e) hc nch ho (I.freeC x c e), hd⟩
  refine ⟨I.ok, I.os, hg, ⟨fun b o e n hb hx => ?_, fun b o e n hb hx => ?_, fun b o e n hx => ?_, fun b o e hx => ?_, fun b xs e => tups b xs (I.base.tups b xs e), fun b o xs e => frzs b o xs (I.base.frzs b o xs e), fun b ps e => ?_⟩, ?_, fun x c e => ?_, ?_, fun x c e => ?_, fun p hp => ?_, hok, I.len⟩
  · exact keep b o (neL b o e) hb (neC b o e hx) (I.base.keep b o e n hb hx) (I.base.free b o e n hx)
  · obtain ⟨sl, e1⟩ := I.base.slot b o e n hb hx
    obtain ⟨sl', e2⟩ := slot b _ (neL b o e) hb (neC b o e hx) e1 (I.base.free b o e n hx)
    exact ⟨sl', e2⟩
  · obtain ⟨o', e1⟩ := I.base.there b o e hx
    exact free b o' (neC b o e hx) e1 (I.base.free b o e n hx)
  · obtain ⟨o', e1⟩ := I.base.there b o e hx
    exact there b o' (neC b o e hx) e1
  · obtain ⟨m1, e1⟩ := I.base.tbls b ps e
    obtain ⟨m2, e2⟩ := tbls b _ e1
    exact ⟨m1 ++ m2, by rw [e2, Array.append_assoc]⟩
  · obtain ⟨m, hn, hl⟩ := I.loc
    refine ⟨m, ns m hn, fun i x v e1 e2 e3 => ?_⟩
    obtain ⟨u, r, l⟩ := hl i x v e1 e2 e3
    refine ⟨u, r, ?_⟩
    rcases l with l | ⟨k, c, e, z⟩
    · exact .inl l
    · exact .inr ⟨k, c, e, cellK x c e _ z⟩
  · obtain ⟨v, z⟩ := I.cell x c e
    exact ⟨v, cellK x c e v z⟩
  · obtain ⟨m, ⟨o, _, _, ho, _⟩, _⟩ := I.loc
    exact free _ o (fun z => (hch _ z).2.1 rfl) ho I.free
  · obtain ⟨v, o, ho, hd⟩ := I.cell x c e
    exact free c o (fun z => (hch c z).2.2.1 x c e rfl) ho (I.freeC x c e)
  · obtain ⟨e, n, ne, nf, d⟩ := I.pin p hp
    have nch : p.1 ∉ ch := fun z => (hch p.1 z).2.2.2 p hp rfl
    exact ⟨keep p.1 p.2 ne nf nch e n, free p.1 p.2 nch e n, ne, nf, d⟩
/-- .. where the frame's own object is kept too -/
theorem Inv.un {t' : Nat} (I : Inv X pins σ H s) (u : Un X.fs [] H H' s.heap h') (hok : HOk X.prog X.w H' h') : Inv X pins σ H' { s with heap := h', toks := t' } := by
  obtain ⟨m, ⟨o, es, ep, ho, r⟩, _⟩ := id I.loc
  obtain ⟨sl, hL⟩ := u.any ho I.free (by simp)
  exact I.step (g' := s.gens) (d' := s.drawn) (ch := []) (fun _ z => nomatch z) (fun b o _ hb _ e n => u.keep b o e n hb (by simp)) (fun b o _ hb _ e n => u.slot b o e n hb (by simp)) (fun b o _ e n => u.free b o e n (by simp)) (fun b o _ e => u.there b o e (by simp)) u.tups u.frzs u.tbls (fun m' hm => by
    obtain ⟨o', es', ep', ho', r'⟩ := hm
    rw [ho] at ho'; cases ho'
    exact ⟨_, es', ep', hL, r'⟩) hok I.bare
/-- behind a call (or a comprehension's block): the slots of this frame may have changed too, the records at ch may have turned -/
theorem Inv.call {g' : Array GenState} {t' : Nat} {d' : Drawn} {ch : List Addr} (I : Inv X pins σ H s) (u : Un (frs X.stack) ch H H' s.heap h') (hok : HOk X.prog X.w H' h') (hg : AllBare g')
    (hch : ∀ b ∈ ch, (b ∈ X.ex ∨ X.s₀.heap.objs.size ≤ b) ∧ b ≠ X.env.locals ∧ (∀ x c, X.env.cells.lookup x = some c → c ≠ b) ∧ ∀ p ∈ X.pn ++ pins, p.1 ≠ b) :
    Inv X pins σ H' { s with heap := h', gens := g', drawn := d', toks := t' } := by
  obtain ⟨m, ⟨o, es, ep, ho, r⟩, _⟩ := id I.loc
  obtain ⟨sl, hL⟩ := u.any ho I.free fun z => (hch _ z).2.1 rfl
  exact I.step (ch := ch) hch (fun b o hL hb hc e n => u.keep b o e n (fun z => (List.mem_cons.mp (I.stkSub b z)).elim hL hb) hc) (fun b o _ _ hc e n => u.any e n hc) (fun b o hc e n => u.free b o e n hc) (fun b o hc e => u.there b o e hc) u.tups u.frzs u.tbls (fun m' hm => by
    obtain ⟨o', es', ep', ho', r'⟩ := hm
    rw [ho] at ho'; cases ho'
    exact ⟨_, es', ep', hL, r'⟩) hok hg
/-- an untracked record of ours (an iterator) has turned -/
theorem Inv.turned {t' : Nat} {it : Addr} (I : Inv X pins σ H s) (k : ∀ b o, b ≠ it → s.heap.get? b = some o → h'.get? b = some o) (hn : H it = none) (hL : it ≠ X.env.locals)
    (h1 : it ∈ X.ex ∨ X.s₀.heap.objs.size ≤ it) (h2 : ∀ x c, X.env.cells.lookup x = some c → c ≠ it) (h3 : ∀ p ∈ X.pn ++ pins, p.1 ≠ it) : Inv X pins σ H { s with heap := h', toks := t' } := by
  have nit : ∀ b u, H b = some u → b ≠ it := fun b u e z => by rw [z, hn] at e; cases e
  refine I.step (g' := s.gens) (d' := s.drawn) (ch := [it]) (fun b hb => ?_) (fun b o _ _ hc e _ => k b o (fun z => hc (by simp [z])) e) (fun b o _ _ hc e _ => ⟨o.slots, k b o (fun z => hc (by simp [z])) e⟩) (fun _ _ _ _ n => n)
    (fun b o hc e => ⟨o, k b o (fun z => hc (by simp [z])) e⟩) (fun _ _ e => e) (fun _ _ _ e => e) (fun b ps e => ⟨#[], by rw [e]; simp⟩) (fun m hm => ?_) (fun b u e => ?_) I.bare
  · have e : b = it := by simpa using hb
    subst e
    exact ⟨h1, hL, h2, h3⟩
  · obtain ⟨o, es, ep, ho, r⟩ := hm
    exact ⟨o, es, ep, k _ o (Ne.symm hL) ho, r⟩
  · refine (I.hok b u e).stay (fun c v hc q => k c v ?_ q) (fun _ q => q) fun _ _ q => q
    rcases hc with z | z
    · rw [z]; exact nit b u e
    · exact nit c _ z
theorem Inv.tok (I : Inv X pins σ H s) (t : Nat) : Inv X pins σ H { s with toks := t } := I.un (h' := s.heap) (t' := t) Un.refl I.hok
/-- all objects kept -/
theorem Inv.kept {t' : Nat} (I : Inv X pins σ H s) (k : ∀ b u, s.heap.get? b = some u → h'.get? b = some u) : Inv X pins σ H { s with heap := h', toks := t' } := I.un (Un.kept k) (I.hok.kept k)
/-- a new object laid and tracked -/
theorem Inv.laid {a : Addr} {o : HO} {t' : Nat} (I : Inv X pins σ H s) (k : ∀ b u, s.heap.get? b = some u → h'.get? b = some u) (hp : s.heap.objs.size ≤ a) (new : ObjOk X.prog X.w (upd H a o) h' a o) :
    Inv X pins σ (upd H a o) { s with heap := h', toks := t' } := I.un (Un.laid k hp (I.hok.fresh hp)) (I.hok.laid k hp new)
/-- an object written -/
theorem Inv.write {x e : Addr} {o : HO} {t' : Nat} (I : Inv X pins σ H s) (mu : Mut (H x)) (he : e = x ∨ H e = some (.own x)) (k : ∀ b u, b ≠ e → s.heap.get? b = some u → h'.get? b = some u) (heo : ∃ u, h'.get? e = some u)
    (new : ObjOk X.prog X.w (upd H x o) h' x o) : Inv X pins σ (upd H x o) { s with heap := h', toks := t' } := I.un (Un.write mu he k heo) (I.hok.write mu he k heo new)
theorem Inv.pins_of {pins' : List (Addr × Obj)} (I : Inv X pins σ H s) (h : ∀ p ∈ pins', s.heap.get? p.1 = some p.2 ∧ H p.1 = none ∧ p.1 ≠ X.env.locals ∧ p.1 ∉ X.fs ∧ ∀ v, p.2.data ≠ .cell v) : Inv X pins' σ H s :=
  ⟨I.ok, I.os, I.bare, I.base, I.loc, I.cell, I.free, I.freeC, fun p hp => (List.mem_append.mp hp).elim (fun z => I.pin p (List.mem_append_left _ z)) (h p), I.hok, I.len⟩

theorem nodup_ix {N : List Str} (hN : N.Nodup) {i j : Nat} {x : Str} (a : N[i]? = some x) (b : N[j]? = some x) : i = j := by
  obtain ⟨h1, e1⟩ := List.getElem?_eq_some_iff.mp a
  obtain ⟨h2, e2⟩ := List.getElem?_eq_some_iff.mp b
  exact (List.getElem_inj hN).mp (e1.trans e2.symm)

/-- a name is stored; what changed -/
theorem store_ok2 {M : Model} {A : Around} {E : Value → Shared → Prop} {i : Nat} {x : Str} {v : V} {u : Value} {Q : Unit → Shared → Prop} (I : Inv X pins σ H s) (hN : X.N.Nodup) (hi : X.N[i]? = some x) (hx : Loc X.env.scope x) (r : RelV v u)
    (h : ∀ s', Inv X pins (σ.set i (some v)) H s' → (∃ a, Heap.SameBut a s.heap s'.heap ∧ (a = X.env.locals ∨ X.env.cells.lookup x = some a)) → Q () s') (hf : X.fn x = true ∨ X.env.scope.names.lookup x = some .local := by first | exact .inl rfl | exact .inr rfl | assumption) : wpAny M A (storeName X.env x u) Q E s := by
  obtain ⟨m, hn, hl⟩ := id I.loc
  have hcls : (X.env.scope.kind == .class || (X.env.scope.kind == .module && X.env.locals != X.env.globals)) = false := by rw [I.ok.kind]; rfl
  have hiσ : i < σ.length := by rw [I.len]; exact (List.getElem?_eq_some_iff.mp hi).1
  have cne := I.cne
  have tracked : ∀ {a : Addr} {h' : Heap}, (∃ o, s.heap.get? a = some o ∧ H a = none) → Heap.SameBut a s.heap h' → HOk X.prog X.w H h' := fun {a h'} ha hs b ob e => by
    obtain ⟨_, _, hfree⟩ := ha
    refine (I.hok b ob e).stay (fun c w' hc q => (hs.2 c ?_).trans q) (fun _ q => q) fun _ _ q => q
    rintro rfl
    rcases hc with rfl | hc
    · rw [hfree] at e; cases e
    · rw [hfree] at hc; cases hc
  rcases hx with hk | hk
  · refine wpAny_storeName_local hk hn (fun h' hn' hs => ?_) hcls
    obtain ⟨oL, _, _, hoL, _⟩ := id hn
    refine h _ ⟨I.ok, I.os, I.bare, ⟨fun b o e n hb hx => ?_, fun b o e n hb hx => ?_, I.base.free, fun b o e hx => ?_, I.base.tups, I.base.frzs, I.base.tbls⟩, ⟨_, hn', fun j y v' e1 e2 e3 => ?_⟩, fun y c e => ?_, I.free, I.freeC, fun p hp => ?_, tracked ⟨oL, hoL, I.free⟩ hs, by simpa using I.len⟩ ⟨_, hs, .inl rfl⟩
    · exact (hs.2 b (Nat.ne_of_lt (Nat.lt_of_lt_of_le (Heap.lt_size e) I.ok.above))).trans (I.base.keep b o e n hb hx)
    · obtain ⟨sl, e1⟩ := I.base.slot b o e n hb hx
      exact ⟨sl, (hs.2 b (Nat.ne_of_lt (Nat.lt_of_lt_of_le (Heap.lt_size e) I.ok.above))).trans e1⟩
    · obtain ⟨o', e1⟩ := I.base.there b o e hx
      exact ⟨o', (hs.2 b (Nat.ne_of_lt (Nat.lt_of_lt_of_le (Heap.lt_size e) I.ok.above))).trans e1⟩
    · by_cases hj : j = i
      · subst hj
        rw [hi] at e1; cases e1
        rw [List.getElem?_set_self hiσ] at e2
        cases e2
        exact ⟨u, r, .inl ⟨hk, by simp⟩⟩
      · rw [List.getElem?_set_ne (Ne.symm hj)] at e2
        obtain ⟨u', r', q⟩ := hl j y v' e1 e2 e3
        refine ⟨u', r', ?_⟩
        rcases q with ⟨k, e⟩ | ⟨k, c, e, z⟩
        · refine .inl ⟨k, ?_⟩
          have : y ≠ x := fun e => hj (nodup_ix hN e1 (e ▸ hi))
          simp [this, e]
        · exact .inr ⟨k, c, e, z.sameBut hs (cne y c e)⟩
    · obtain ⟨w', z⟩ := I.cell y c e
      exact ⟨w', z.sameBut hs (cne y c e)⟩
    · obtain ⟨e, n, ne, nf, d⟩ := I.pin p hp
      exact ⟨(hs.2 p.1 ne).trans e, n, ne, nf, d⟩
  · have hfn : X.fn x = true := by
      rcases hf with z | z
      · exact z
      · rw [z] at hk; cases hk
    obtain ⟨c, hc⟩ := I.ok.has x (.inl hk)
    obtain ⟨w', z⟩ := I.cell x c hc
    refine wpAny_storeName_cell I.ok.kind hk hc z (fun h' hc' hs => ?_)
    obtain ⟨oc, hoc, hocd⟩ := id z
    refine h { s with heap := h' } ⟨I.ok, I.os, I.bare, ⟨fun b o e n hb hx => ?_, fun b o e n hb hx => ?_, I.base.free, fun b o e hx => ?_, I.base.tups, I.base.frzs, I.base.tbls⟩, ⟨m, hn.sameBut hs (Ne.symm (cne x c hc)), fun j y v' e1 e2 e3 => ?_⟩, fun y c' e => ?_, I.free, I.freeC, fun p hp => ?_, tracked ⟨oc, hoc, I.freeC x c hc⟩ hs, by simpa using I.len⟩ ⟨c, hs, .inr hc⟩
    · exact (hs.2 b (Nat.ne_of_lt (Nat.lt_of_lt_of_le (Heap.lt_size e) (I.ok.cab x c hfn hc)))).trans (I.base.keep b o e n hb hx)
    · obtain ⟨sl, e1⟩ := I.base.slot b o e n hb hx
      exact ⟨sl, (hs.2 b (Nat.ne_of_lt (Nat.lt_of_lt_of_le (Heap.lt_size e) (I.ok.cab x c hfn hc)))).trans e1⟩
    · obtain ⟨o', e1⟩ := I.base.there b o e hx
      exact ⟨o', (hs.2 b (Nat.ne_of_lt (Nat.lt_of_lt_of_le (Heap.lt_size e) (I.ok.cab x c hfn hc)))).trans e1⟩
    · by_cases hj : j = i
      · subst hj
        rw [hi] at e1; cases e1
        rw [List.getElem?_set_self hiσ] at e2
        cases e2
        exact ⟨u, r, .inr ⟨.inl hk, c, hc, hc'⟩⟩
      · rw [List.getElem?_set_ne (Ne.symm hj)] at e2
        obtain ⟨u', r', q⟩ := hl j y v' e1 e2 e3
        refine ⟨u', r', ?_⟩
        rcases q with q | ⟨k, c', e, z'⟩
        · exact .inl q
        · refine .inr ⟨k, c', e, z'.sameBut hs ?_⟩
          rintro rfl
          exact hj (nodup_ix hN e1 (I.ok.inj _ _ _ e hc ▸ hi))
    · by_cases hcc : c' = c
      · subst hcc; exact ⟨_, hc'⟩
      · obtain ⟨w2, z2⟩ := I.cell y c' e
        exact ⟨w2, z2.sameBut hs hcc⟩
    · obtain ⟨e, n, ne, nf, d⟩ := I.pin p hp
      refine ⟨(hs.2 p.1 ?_).trans e, n, ne, nf, d⟩
      intro q
      rw [q, hoc] at e
      have q' : oc = p.2 := Option.some.inj e
      exact d w' (by rw [← q']; exact hocd)
theorem store_ok {M : Model} {A : Around} {E : Value → Shared → Prop} {i : Nat} {x : Str} {v : V} {u : Value} {Q : Unit → Shared → Prop} (I : Inv X pins σ H s) (hN : X.N.Nodup) (hi : X.N[i]? = some x) (hx : Loc X.env.scope x) (r : RelV v u)
    (h : ∀ s', Inv X pins (σ.set i (some v)) H s' → Q () s') (hf : X.fn x = true ∨ X.env.scope.names.lookup x = some .local := by first | exact .inl rfl | exact .inr rfl | assumption) : wpAny M A (storeName X.env x u) Q E s :=
  store_ok2 I hN hi hx r (fun s' I' _ => h s' I') hf
/-- behind a call or a block, the state as it is -/
theorem Inv.call' {s' : Shared} {ch : List Addr} (I : Inv X pins σ H s) (ho : s'.os = s.os) (u : Un (frs X.stack) ch H H' s.heap s'.heap) (hok : HOk X.prog X.w H' s'.heap) (hg : AllBare s'.gens)
    (hch : ∀ b ∈ ch, (b ∈ X.ex ∨ X.s₀.heap.objs.size ≤ b) ∧ b ≠ X.env.locals ∧ (∀ x c, X.env.cells.lookup x = some c → c ≠ b) ∧ ∀ p ∈ X.pn ++ pins, p.1 ≠ b) : Inv X pins σ H' s' := by
  obtain ⟨h', g', d', t', o'⟩ := s'
  have e : o' = s.os := ho
  subst e
  exact I.call (g' := g') (t' := t') (d' := d') u hok hg hch
end

/-- an exception: its class, its own dict's address (where it has one), the abstract heap behind it -/
abbrev XK := Value → Option Addr → Hp → Prop
abbrev St := List (Option V)
abbrev VK := V → Hp → Prop
/-- an expression's reading; a test's; an argument list's -/
abbrev TE := St → Hp → VK → Prop
abbrev TT := St → Hp → (Bool → Hp → Prop) → Prop
abbrev TA := St → Hp → (List V → Hp → Prop) → Prop
/-- what is wanted behind a statement -/
structure Ends where
  nx : St → Hp → Prop
  rt : VK
  bk : St → Hp → Prop := fun _ _ => False
  ct : St → Hp → Prop := fun _ _ => False
abbrev TS := Ends → St → Hp → Prop

def EP (X : Cx) (pins : List (Addr × Obj)) (σ : St) (Q : VK) (u : Value) (s' : Shared) : Prop := ∃ v H', Inv X pins σ H' s' ∧ RelV v u ∧ Q v H'
def TP (X : Cx) (pins : List (Addr × Obj)) (σ : St) (Q : Bool → Hp → Prop) (b : Bool) (s' : Shared) : Prop := ∃ H', Inv X pins σ H' s' ∧ Q b H'
def AP (X : Cx) (pins : List (Addr × Obj)) (σ : St) (Q : List V → Hp → Prop) (us : List Value) (s' : Shared) : Prop := ∃ vs H', Inv X pins σ H' s' ∧ Vals vs us ∧ Q vs H'
def SP (X : Cx) (pins : List (Addr × Obj)) (D : Ends) (f : Flow) (s' : Shared) : Prop :=
  match f with
  | .next => ∃ σ' H', Inv X pins σ' H' s' ∧ D.nx σ' H'
  | .brk => ∃ σ' H', Inv X pins σ' H' s' ∧ D.bk σ' H'
  | .cont => ∃ σ' H', Inv X pins σ' H' s' ∧ D.ct σ' H'
  | .ret u => ∃ v σ' H', Inv X pins σ' H' s' ∧ RelV v u ∧ D.rt v H'

def PE (X : Cx) (e : Expr) (t : TE) : Prop :=
  ∀ (pins : List (Addr × Obj)) (s : Shared) (σ : St) (H : Hp) (Q : VK), Inv X pins σ H s → t σ H Q → wpAny (model X.prog X.w) X.A (eval e X.env) (EP X pins σ Q) X.xe s
def PT (X : Cx) (e : Expr) (t : TT) : Prop :=
  ∀ (pins : List (Addr × Obj)) (s : Shared) (σ : St) (H : Hp) (Q : Bool → Hp → Prop), Inv X pins σ H s → t σ H Q → wpAny (model X.prog X.w) X.A (isTrue e X.env (eval e X.env)) (TP X pins σ Q) X.xe s
/-- a test whatever its 'whole' is (and, or) -/
def PW (X : Cx) (e : Expr) (t : TT) : Prop :=
  ∀ (whole : Sem Value) (pins : List (Addr × Obj)) (s : Shared) (σ : St) (H : Hp) (Q : Bool → Hp → Prop), Inv X pins σ H s → t σ H Q → wpAny (model X.prog X.w) X.A (isTrue e X.env whole) (TP X pins σ Q) X.xe s
theorem PW.pt {X : Cx} {e : Expr} {t : TT} (h : PW X e t) : PT X e t := h _
/-- an argument list (no star), from the left -/
def PA (X : Cx) (es : List Expr) (t : TA) : Prop :=
  ∀ (pos : Pos) (pins : List (Addr × Obj)) (s : Shared) (σ : St) (H : Hp) (Q : List V → Hp → Prop), Inv X pins σ H s → t σ H Q → wpAny (model X.prog X.w) X.A (spliced (backTo pos (starEach es X.env))) (AP X pins σ Q) X.xe s
def PS (X : Cx) (st : Stmt) (t : TS) : Prop :=
  ∀ (pins : List (Addr × Obj)) (s : Shared) (σ : St) (H : Hp) (D : Ends), Inv X pins σ H s → t D σ H → wpAny (model X.prog X.w) X.A (exec st X.env) (SP X pins D) X.xe s
def PSs (X : Cx) (st : List Stmt) (t : TS) : Prop :=
  ∀ (pins : List (Addr × Obj)) (s : Shared) (σ : St) (H : Hp) (D : Ends), Inv X pins σ H s → t D σ H → wpAny (model X.prog X.w) X.A (execs st X.env) (SP X pins D) X.xe s
/-- weaken the end -/
theorem thn {α : Type} {t : Sem α} {Q Q' : α → Shared → Prop} {M : Model} {A : Around} {E : Value → Shared → Prop} {s : Shared} (h : wpAny M A t Q E s) (hQ : ∀ a s, Q a s → Q' a s) : wpAny M A t Q' E s := wpAny_mono h hQ fun _ _ x => x
end L2

namespace L2
open PySem PySem.Spec PyProof.Rows
section
variable {X : Cx}

def tVar (i : Nat) : TE := fun σ H Q => ∃ v, σ[i]? = some (some v) ∧ Q v H
def tC (v : V) : TE := fun _ H Q => Q v H
theorem pe_var {i : Nat} {x : Str} {pos : Pos} (hN : X.N[i]? = some x) (hv : Vis X.env.scope x) (hd : (x == ("__debug__" : Str)) = false := by decide) (hcd : (x == ("__classdict__" : Str)) = false := by decide) : PE X (.Name x pos) (tVar i) := by
  intro pins s σ H Q I h
  obtain ⟨v, e, h⟩ := h
  obtain ⟨m, hn, hl⟩ := I.loc
  obtain ⟨u, r, l⟩ := hl i x v hN e hv
  have fin : EP X pins σ Q u s := ⟨v, H, I, r, h⟩
  rcases l with ⟨hk, hm⟩ | ⟨hk, c, hc, hcell⟩
  · exact wpAny_Name (wpAny_loadName_local I.ok.kind hk hn hm fin) hd
  · rcases hk with hk | hk
    · exact wpAny_Name (wpAny_loadName_cell I.ok.kind hk hc hcell fin) hd
    · exact wpAny_Name (wpAny_loadName_free I.ok.kind hk hc hcell fin hcd) hd
theorem pe_int {i j pos} : PE X (.Constant (.int i) j pos) (tC (.int i)) := fun _ _ _ H _ I h => wpAny_Constant_int ⟨.int i, H, I.tok _, ⟨_, rfl⟩, h⟩
theorem pe_bl {b j pos} : PE X (.Constant (.bool b) j pos) (tC (.bl b)) := fun _ _ _ H _ I h => Constant_bool ⟨.bl b, H, I, rfl, h⟩
theorem pe_non {j pos} : PE X (.Constant .none j pos) (tC .non) := fun _ _ _ H _ I h => Constant_none ⟨.non, H, I, rfl, h⟩
theorem pe_str {x j pos} : PE X (.Constant (.str x) j pos) (tC (.str x)) := fun _ _ _ H _ I h => Calls.Constant_str ⟨.str x, H, I.tok _, ⟨_, rfl⟩, h⟩

/-- a global name of the def -/
def Gl (X : Cx) (x : Str) : Prop := X.env.kindOf x = some .globalImplicit
theorem ld_glob {E : Value → Shared → Prop} {pins : List (Addr × Obj)} {s : Shared} {σ : St} {H : Hp} {x : Str} {u : Value} {pos : Pos} {Q : Value → Shared → Prop} (I : Inv X pins σ H s) (hg : Gl X x) (hm : X.mg x = some u) (h : Q u s)
    (hd : (x == ("__debug__" : Str)) = false := by decide) : wpAny (model X.prog X.w) X.A (eval (.Name x pos) X.env) Q E s :=
  Calls.Name_function_global I.ok.kind hg (Calls.loadGlobal_global (by rw [I.ok.glob]; exact I.mod.glob.keeps I.bk) hm h) hd
theorem ld_blt {E : Value → Shared → Prop} {pins : List (Addr × Obj)} {s : Shared} {σ : St} {H : Hp} {x : Str} {u : Value} {pos : Pos} {Q : Value → Shared → Prop} (I : Inv X pins σ H s) (hg : Gl X x) (hm : X.mg x = none) (hv : bootBuiltins x = some u) (h : Q u s)
    (hn : x ≠ "__name__" := by decide) (hd : (x == ("__debug__" : Str)) = false := by decide) : wpAny (model X.prog X.w) X.A (eval (.Name x pos) X.env) Q E s := by
  obtain ⟨mb, h1, h2⟩ := I.mod.blt
  exact Calls.Name_function_global I.ok.kind hg (Calls.loadGlobal_builtin (by rw [I.ok.glob]; exact I.mod.glob.keeps I.bk) hm (by rw [I.ok.blt]; exact h1.keeps I.bk) ((h2 x hn).trans hv) h) hd
/-- a module's constant, a class, a function, as a value -/
theorem pe_glob {x : Str} {v : V} {u : Value} {pos : Pos} (hg : Gl X x) (hm : X.mg x = some u) (r : RelV v u) (hd : (x == ("__debug__" : Str)) = false := by decide) : PE X (.Name x pos) (tC v) :=
  fun _ _ _ H _ I h => ld_glob I hg hm ⟨v, H, I, r, h⟩ hd
theorem pe_bltn {x : Str} {v : V} {u : Value} {pos : Pos} (hg : Gl X x) (hm : X.mg x = none) (hv : bootBuiltins x = some u) (r : RelV v u) (hn : x ≠ "__name__" := by decide) (hd : (x == ("__debug__" : Str)) = false := by decide) : PE X (.Name x pos) (tC v) :=
  fun _ _ _ H _ I h => ld_blt I hg hm hv ⟨v, H, I, r, h⟩ hn hd

variable {a b : Expr} {ta tb : TE} {pos : Pos}
/-- a comparison as a value, as a test -/
def tB (t : TE) : TT := fun σ H Q => t σ H fun x H1 => ∃ c, x = .bl c ∧ Q c H1
variable {tA tB' : TT} {rest : List Expr}
def tAnd (t u : TT) : TT := fun σ H Q => t σ H fun c H1 => if c = true then u σ H1 Q else Q false H1
def tOr (t u : TT) : TT := fun σ H Q => t σ H fun c H1 => if c = true then Q true H1 else u σ H1 Q
def tNot (t : TT) : TT := fun σ H Q => t σ H fun c H1 => Q (!c) H1
theorem pw_and1 (ha : PT X a tA) : PW X (.BoolOp .And [a] pos) tA := by
  intro wh pins s σ H Q I h
  refine isTrue_and (thn (ha pins s σ H Q I h) fun c s1 e => ?_)
  cases c with
  | true => exact isTrue_and_nil e
  | false => exact e
theorem pw_or1 (ha : PT X a tA) : PW X (.BoolOp .Or [a] pos) tA := by
  intro wh pins s σ H Q I h
  refine isTrue_or (thn (ha pins s σ H Q I h) fun c s1 e => ?_)
  cases c with
  | false => exact isTrue_or_nil e
  | true => exact e
theorem pw_and (ha : PT X a tA) (hb : PW X (.BoolOp .And (b :: rest) pos) tB') : PW X (.BoolOp .And (a :: b :: rest) pos) (tAnd tA tB') := by
  intro wh pins s σ H Q I h
  refine isTrue_and (thn (ha pins s σ H _ I h) fun c s1 ⟨H1, I1, q1⟩ => ?_)
  cases c with
  | true => exact hb wh pins s1 σ H1 Q I1 q1
  | false => exact ⟨H1, I1, q1⟩
theorem pw_or (ha : PT X a tA) (hb : PW X (.BoolOp .Or (b :: rest) pos) tB') : PW X (.BoolOp .Or (a :: b :: rest) pos) (tOr tA tB') := by
  intro wh pins s σ H Q I h
  refine isTrue_or (thn (ha pins s σ H _ I h) fun c s1 ⟨H1, I1, q1⟩ => ?_)
  cases c with
  | true => exact ⟨H1, I1, q1⟩
  | false => exact hb wh pins s1 σ H1 Q I1 q1
theorem pt_not (ha : PT X a tA) : PT X (.UnaryOp .Not a pos) (tNot tA) := by
  intro pins s σ H Q I h
  exact isTrue_not (ha pins s σ H (fun c H1 => Q (!c) H1) I h)
/-- .. as values (bools) -/
def tAndV (ta tb : TE) : TE := fun σ H Q => ta σ H fun x H1 => ∃ c, x = .bl c ∧ if c = true then tb σ H1 Q else Q (.bl false) H1
def tOrV (ta tb : TE) : TE := fun σ H Q => ta σ H fun x H1 => ∃ c, x = .bl c ∧ if c = true then Q (.bl true) H1 else tb σ H1 Q
def tNotV (ta : TE) : TE := fun σ H Q => ta σ H fun x H1 => ∃ c, x = .bl c ∧ Q (.bl (!c)) H1
theorem pe_one {op} {t : TE} (h : PE X a t) : PE X (.BoolOp op [a] pos) t := fun pins s σ H Q I hw => BoolOp_one (h pins s σ H Q I hw)
theorem pe_and (ha : PE X a ta) (hb : PE X (.BoolOp .And (b :: rest) pos) tb) : PE X (.BoolOp .And (a :: b :: rest) pos) (tAndV ta tb) := by
  intro pins s σ H Q I h
  refine BoolOp_and (thn (ha pins s σ H _ I h) fun v s1 ⟨x, H1, I1, r1, q1⟩ => ?_)
  obtain ⟨c, rfl, q1⟩ := q1
  cases r1
  refine wpAny_truthy_bool ?_
  cases c with
  | true => exact hb pins s1 σ H1 Q I1 q1
  | false => exact ⟨.bl false, H1, I1, rfl, q1⟩
theorem pe_or (ha : PE X a ta) (hb : PE X (.BoolOp .Or (b :: rest) pos) tb) : PE X (.BoolOp .Or (a :: b :: rest) pos) (tOrV ta tb) := by
  intro pins s σ H Q I h
  refine BoolOp_or (thn (ha pins s σ H _ I h) fun v s1 ⟨x, H1, I1, r1, q1⟩ => ?_)
  obtain ⟨c, rfl, q1⟩ := q1
  cases r1
  refine wpAny_truthy_bool ?_
  cases c with
  | false => exact hb pins s1 σ H1 Q I1 q1
  | true => exact ⟨.bl true, H1, I1, rfl, q1⟩
/-- a if t else b -/
def tIf (t : TT) (ta tb : TE) : TE := fun σ H Q => t σ H fun c H1 => if c = true then ta σ H1 Q else tb σ H1 Q
end
end L2

namespace L2
open PySem PySem.Spec PyProof.Rows

def SqL (K : PySem.W.Frag) (H : Hp) (a : Addr) (xs : List V) : Prop :=
  Rd H a (.lst xs) ∨
    ∃ (o : Obj) (its : Array Value) (n : Nat), K.lookup a = some o ∧ o.cls = .type "list" ∧ o.dict = none ∧ o.data = .seq its n ∧ its.size ≤ sizeLine ∧ Vals xs its.toList
def SqT (K : PySem.W.Frag) (H : Hp) (a : Addr) (xs : List V) : Prop :=
  Rd H a (.tup xs) ∨
    ∃ (o : Obj) (its : Array Value) (n : Nat), K.lookup a = some o ∧ o.cls = .type "tuple" ∧ o.data = .seq its n ∧ its.size ≤ sizeLine ∧ Vals xs its.toList
def absV : Value → Option V
  | .none => some .non
  | .bool b => some (.bl b)
  | .int i _ => some (.int i)
  | .str x _ => some (.str x)
  | .bytes b _ => some (.byt b)
  | .float b _ => some (.flt b)
  | .ref a => some (.ref a)
  | .type n => some (.ty n)
  | _ => none
theorem RelV.abs {x : V} {u : Value} (r : RelV x u) : absV u = some x := by
  cases x with
  | non => cases r; rfl
  | bl _ => cases r; rfl
  | int _ => obtain ⟨t, rfl⟩ := r; rfl
  | str _ => obtain ⟨t, rfl⟩ := r; rfl
  | byt _ => obtain ⟨t, rfl⟩ := r; rfl
  | flt _ => obtain ⟨t, rfl⟩ := r; rfl
  | ref _ => cases r; rfl
  | ty _ => cases r; rfl
theorem RelV.inj {x y : V} {u : Value} (r : RelV x u) (q : RelV y u) : x = y := Option.some.inj (r.abs.symm.trans q.abs)
theorem Vals.inj : ∀ {xs ys : List V} {us : List Value}, Vals xs us → Vals ys us → xs = ys
  | _, _, _, .nil, .nil => rfl
  | _, _, _, .cons r t, .cons r' t' => by rw [r.inj r', Vals.inj t t']
section
variable {X : Cx} {pins : List (Addr × Obj)} {σ : St} {H : Hp} {s : Shared} {a : Addr} {xs ys : List V}
theorem SqL.of {K : PySem.W.Frag} (h : H a = some (.lst xs)) : SqL K H a xs := .inl (.inl h)
theorem SqT.of {K : PySem.W.Frag} (h : H a = some (.tup xs)) : SqT K H a xs := .inl (.inl h)
theorem Inv.list (I : Inv X pins σ H s) (h : SqL X.K H a xs) : ∃ its : List Value, Vals xs its ∧ PlainL s.heap a its.toArray ∧ xs.length ≤ sizeLine := by
  rcases h with h | ⟨o, its, n, hk, hc, hd, hs, hz, r⟩
  · obtain ⟨z, its, n, r, e⟩ := h.ok I.hok
    exact ⟨its, r, ⟨_, n, e, rfl, rfl, rfl⟩, z⟩
  · refine ⟨its.toList, r, ⟨o, n, I.kIn a o hk, hc, hd, by simpa using hs⟩, ?_⟩
    have e := r.length
    simp only [Array.length_toList] at e
    omega
theorem Inv.tuple (I : Inv X pins σ H s) (h : SqT X.K H a xs) : ∃ its : List Value, Vals xs its ∧ IsTup s.heap a its.toArray ∧ xs.length ≤ sizeLine := by
  rcases h with h | ⟨o, its, n, hk, hc, hs, hz, r⟩
  · obtain ⟨z, its, r, p⟩ := h.ok I.hok
    exact ⟨its, r, p, z⟩
  · refine ⟨its.toList, r, ⟨o, I.kIn a o hk, hc, n, by simpa using hs⟩, ?_⟩
    have e := r.length
    simp only [Array.length_toList] at e
    omega
theorem Inv.list_inj (I : Inv X pins σ H s) (h : SqL X.K H a xs) (h' : SqL X.K H a ys) : xs = ys := by
  obtain ⟨its, r, ⟨o, n, e, _, _, d⟩, _⟩ := I.list h
  obtain ⟨its', r', ⟨o', n', e', _, _, d'⟩, _⟩ := I.list h'
  rw [e] at e'; cases e'
  rw [d] at d'
  injection d' with d1 _
  have : its = its' := by simpa using congrArg Array.toList d1
  subst this
  exact r.inj r'
theorem Inv.tuple_inj (I : Inv X pins σ H s) (h : SqT X.K H a xs) (h' : SqT X.K H a ys) : xs = ys := by
  obtain ⟨its, r, ⟨o, e, _, n, d⟩, _⟩ := I.tuple h
  obtain ⟨its', r', ⟨o', e', _, n', d'⟩, _⟩ := I.tuple h'
  rw [e] at e'; cases e'
  rw [d] at d'
  injection d' with d1 _
  have : its = its' := by simpa using congrArg Array.toList d1
  subst this
  exact r.inj r'
end

abbrev Cx.wish (X : Cx) (E : Value → Shared → Prop) : Cx := { X with xe := E }
/-- no exception leaves -/
abbrev Cx.nox (X : Cx) : Cx := X.wish fun _ _ => False
theorem Cx.Ok.wish {X : Cx} (ok : X.Ok) (E : Value → Shared → Prop) : (X.wish E).Ok :=
  ⟨ok.mod, ok.kind, ok.glob, ok.blt, ok.above, ok.inj, ok.has, ok.cab, ok.hd, ok.frames, ok.stk, ok.exf, ok.bs, ok.bsz, ok.noex, ok.exfs, ok.funs, ok.frf⟩
theorem Cx.Ok.unwish {X : Cx} {E : Value → Shared → Prop} (ok : (X.wish E).Ok) : X.Ok :=
  ⟨ok.mod, ok.kind, ok.glob, ok.blt, ok.above, ok.inj, ok.has, ok.cab, ok.hd, ok.frames, ok.stk, ok.exf, ok.bs, ok.bsz, ok.noex, ok.exfs, ok.funs, ok.frf⟩
section
variable {X : Cx} {pins : List (Addr × Obj)} {σ : St} {H : Hp} {s : Shared} {E : Value → Shared → Prop}
theorem Inv.wish (I : Inv X pins σ H s) (E : Value → Shared → Prop) : Inv (X.wish E) pins σ H s := ⟨I.ok.wish E, I.os, I.bare, I.base, I.loc, I.cell, I.free, I.freeC, I.pin, I.hok, I.len⟩
theorem Inv.unwish (I : Inv (X.wish E) pins σ H s) : Inv X pins σ H s := ⟨I.ok.unwish, I.os, I.bare, I.base, I.loc, I.cell, I.free, I.freeC, I.pin, I.hok, I.len⟩
theorem SP.unwish {D : Ends} {f : Flow} {s' : Shared} (h : SP (X.wish E) pins D f s') : SP X pins D f s' := by
  cases f with
  | next => obtain ⟨σ', H', I, q⟩ := h; exact ⟨σ', H', I.unwish, q⟩
  | brk => obtain ⟨σ', H', I, q⟩ := h; exact ⟨σ', H', I.unwish, q⟩
  | cont => obtain ⟨σ', H', I, q⟩ := h; exact ⟨σ', H', I.unwish, q⟩
  | ret u => obtain ⟨v, σ', H', I, r, q⟩ := h; exact ⟨v, σ', H', I.unwish, r, q⟩
theorem PE.nox {e : Expr} {t : TE} (h : PE X.nox e t) : PE X e t := fun pins s σ H Q I hw =>
  wpAny_mono (h pins s σ H Q (I.wish _) hw) (fun _ _ ⟨v, H', I', r, q⟩ => ⟨v, H', I'.unwish, r, q⟩) fun _ _ z => False.elim z
theorem PT.nox {e : Expr} {t : TT} (h : PT X.nox e t) : PT X e t := fun pins s σ H Q I hw =>
  wpAny_mono (h pins s σ H Q (I.wish _) hw) (fun _ _ ⟨H', I', q⟩ => ⟨H', I'.unwish, q⟩) fun _ _ z => False.elim z
theorem PSs.nox {st : List Stmt} {t : TS} (h : PSs X.nox st t) : PSs X st t := fun pins s σ H D I hw =>
  wpAny_mono (h pins s σ H D (I.wish _) hw) (fun _ _ q => q.unwish) fun _ _ z => False.elim z
end

section
variable {X : Cx} {st : Stmt} {rest : List Stmt} {t u : TS} {e : Expr} {te : TE} {pos : Pos}
def tNext : TS := fun D σ H => D.nx σ H
def tSeq (t u : TS) : TS := fun D σ H => t { D with nx := u D } σ H
theorem pss_nil : PSs X [] tNext := fun _ _ σ H _ I h => wpAny_execs_nil ⟨σ, H, I, h⟩
theorem pss_cons (h1 : PS X st t) (h2 : PSs X rest u) : PSs X (st :: rest) (tSeq t u) := by
  intro pins s σ H D I h
  refine wpAny_execs_cons (thn (h1 pins s σ H { D with nx := u D } I h) fun f s1 q => ?_)
  cases f with
  | next =>
    obtain ⟨σ', H', I', q⟩ := q
    exact h2 pins s1 σ' H' D I' q
  | ret v => exact q
  | brk => exact q
  | cont => exact q
theorem pss_one (h1 : PS X st t) : PSs X [st] t := by
  intro pins s σ H D I h
  refine wpAny_execs_cons (thn (h1 pins s σ H D I h) fun f s1 q => ?_)
  cases f with
  | next => exact wpAny_execs_nil q
  | ret v => exact q
  | brk => exact q
  | cont => exact q
/-- in a def's body nothing is shown -/
theorem Inv.quiet {pins : List (Addr × Obj)} {σ : St} {H : Hp} {s : Shared} (I : Inv X pins σ H s) : interactive X.env = false := by simp [interactive, I.ok.kind]
/-- an expression whose value is dropped -/
def tDrop (te : TE) : TS := fun D σ H => te σ H fun _ H1 => D.nx σ H1
theorem ps_expr (he : PE X e te) (hs : swapsWith e none pos.line X.env = pure false := by rfl) : PS X (.Expr e pos) (tDrop te) := by
  intro pins s σ H D I h
  exact wpAny_Expr_any (thn (he pins s σ H _ I h) fun v s1 ⟨x, H1, I1, r1, q1⟩ => ⟨σ, H1, I1, q1⟩) I.quiet hs
def tRet (te : TE) : TS := fun D σ H => te σ H D.rt
theorem ps_ret (he : PE X e te) : PS X (.Return (some e) pos) (tRet te) := by
  intro pins s σ H D I h
  exact wpAny_Return_some (thn (he pins s σ H _ I h) fun v s1 ⟨x, H1, I1, r1, q1⟩ => ⟨x, σ, H1, I1, r1, q1⟩)
def tRetN : TS := fun D _ H => D.rt .non H
def tIfS (c : TT) (t u : TS) : TS := fun D σ H => c σ H fun b H1 => if b = true then t D σ H1 else u D σ H1
theorem ps_if {c : Expr} {a b : List Stmt} {tc : TT} (hc : PT X c tc) (ha : PSs X a t) (hb : PSs X b u) : PS X (.If c a b pos) (tIfS tc t u) := by
  intro pins s σ H D I h
  refine wpAny_If (thn (hc pins s σ H _ I h) fun d s1 ⟨H1, I1, q1⟩ => ?_)
  cases d with
  | true => exact ha pins s1 σ H1 D I1 q1
  | false => exact hb pins s1 σ H1 D I1 q1
/-- code that the proof never comes to -/
def tNever : TS := fun _ _ _ => False
theorem ps_never : PS X st tNever := fun _ _ _ _ _ _ h => h.elim
end

abbrev TG := V → St → Hp → (St → Hp → Prop) → Prop
abbrev TGs := List V → St → Hp → (St → Hp → Prop) → Prop
def PG (X : Cx) (target : Expr) (t : TG) : Prop :=
  ∀ (pins : List (Addr × Obj)) (s : Shared) (σ : St) (H : Hp) (v : V) (u : Value) (Q : St → Hp → Prop), Inv X pins σ H s → RelV v u → t v σ H Q →
    wpAny (model X.prog X.w) X.A (assign target X.env u) (fun _ s' => ∃ σ' H', Inv X pins σ' H' s' ∧ Q σ' H') X.xe s
/-- several targets, one after another -/
def PGs (X : Cx) (ts : List Expr) (t : TGs) : Prop :=
  ∀ (pins : List (Addr × Obj)) (s : Shared) (σ : St) (H : Hp) (vs : List V) (us : List Value) (Q : St → Hp → Prop), Inv X pins σ H s → Vals vs us → t vs σ H Q →
    wpAny (model X.prog X.w) X.A (assignInOrder ((assignEach ts X.env).map (·.2)) us) (fun _ s' => ∃ σ' H', Inv X pins σ' H' s' ∧ Q σ' H') X.xe s
/-- o[i] = v, by values -/
abbrev TSet := V → V → V → Hp → (Hp → Prop) → Prop
def PSet (X : Cx) (t : TSet) : Prop :=
  ∀ (pins : List (Addr × Obj)) (s : Shared) (σ : St) (H : Hp) (o i v : V) (ov iv u : Value) (Q : Hp → Prop), Inv X pins σ H s → RelV o ov → RelV i iv → RelV v u → t o i v H Q →
    wpAny (model X.prog X.w) X.A (setItem ov iv u) (fun _ s' => ∃ H', Inv X pins σ H' s' ∧ Q H') X.xe s
section
variable {X : Cx} {pos : Pos}
def gName (i : Nat) : TG := fun v σ H Q => Q (σ.set i (some v)) H
theorem pg_name {i : Nat} {x : Str} (hN : X.N.Nodup) (hi : X.N[i]? = some x) (hx : Loc X.env.scope x) (hf : X.fn x = true ∨ X.env.scope.names.lookup x = some .local := by first | exact .inl rfl | exact .inr rfl | assumption) : PG X (.Name x pos) (gName i) := by
  intro pins s σ H v u Q I r h
  exact wpAny_assign_Name (store_ok I hN hi hx r (fun s' I' => ⟨_, H, I', h⟩) hf)
def gNil : TGs := fun vs σ H Q => vs = [] ∧ Q σ H
def gCons (t : TG) (u : TGs) : TGs := fun vs σ H Q => ∃ v r, vs = v :: r ∧ t v σ H fun σ' H' => u r σ' H' Q
theorem pgs_nil : PGs X [] gNil := by
  intro pins s σ H vs us Q I r h
  obtain ⟨e, h⟩ := h
  subst e
  cases r
  exact assignInOrder_nil ⟨σ, H, I, h⟩
theorem pgs_cons {e : Expr} {es : List Expr} {t : TG} {u : TGs} (h1 : PG X e t) (h2 : PGs X es u)
    (hs : (assignEach (e :: es) X.env).map (·.2) = assign e X.env :: (assignEach es X.env).map (·.2) := by rfl) : PGs X (e :: es) (gCons t u) := by
  intro pins s σ H vs us Q I r h
  obtain ⟨v, vr, e1, h⟩ := h
  subst e1
  cases r with
  | cons r rr =>
    rw [hs]
    refine assignInOrder_cons (thn (h1 pins s σ H _ _ _ I r h) fun _ s1 ⟨σ1, H1, I1, q1⟩ => ?_)
    exact h2 pins s1 σ1 H1 _ _ Q I1 rr q1
/-- (a, b, ..) = a tuple of that length -/
def gTup (K : PySem.W.Frag) (n : Nat) (t : TGs) : TG := fun v σ H Q => ∃ a xs, v = .ref a ∧ SqT K H a xs ∧ xs.length = n ∧ t xs σ H Q
theorem pg_tup {es : List Expr} {k : Nat} {t : TGs} {n : Nat} (hc : X.calm = true) (h : PGs X es t)
    (hn : (assignEach es X.env).length = n := by rfl) (hst : (assignEach es X.env).findIdx? (·.1) = none := by rfl) : PG X (.Tuple es k pos) (gTup X.K n t) := by
  intro pins s σ H v u Q I r hw
  obtain ⟨a, xs, e1, hq, hl, hw⟩ := hw
  subst e1
  cases r
  obtain ⟨its, rv, ht, hz⟩ := I.tuple hq
  refine assign_Tuple_tuple (I.ok.hd hc) ht (by simp [hn, ← hl, rv.length]) hst fun h' hx => ?_
  have I1 : Inv X pins σ H { s with heap := h' } := I.kept (t' := s.toks) fun b o e => hx b o (Nat.ne_of_lt (Heap.lt_size e)) e
  exact h pins _ σ H xs _ Q I1 (by simpa using rv) hw
/-- o[i] = .. -/
def gSub (to ti : TE) (t : TSet) : TG := fun v σ H Q => to σ H fun o H1 => ti σ H1 fun i H2 => t o i v H2 fun H3 => Q σ H3
theorem pg_sub {o i : Expr} {to ti : TE} {t : TSet} (ho : PE X o to) (hi : PE X i ti) (hs : PSet X t)
    (ha : ∀ v, assign (.Subscript o i pos) X.env v = (do
      let ov ← holding [v] (eval o X.env)
      let iv ← holding [v, ov] (eval i X.env)
      standAt pos
      holding [v, ov, iv] (setItem ov iv v)
      release [v, ov, iv] []) := by intro _; rfl) : PG X (.Subscript o i pos) (gSub to ti t) := by
  intro pins s σ H v u Q I r h
  rw [ha]
  refine wpAny_bind (wpAny_holding (thn (ho pins s σ H _ I h) fun ov s1 ⟨x, H1, I1, r1, q1⟩ => ?_))
  refine wpAny_bind (wpAny_holding (thn (hi pins s1 σ H1 _ I1 q1) fun iv s2 ⟨y, H2, I2, r2, q2⟩ => ?_))
  refine wpAny_bind (wpAny_standAt (wpAny_bind (wpAny_holding (thn (hs pins s2 σ H2 x y v ov iv u _ I2 r1 r2 r q2) fun _ s3 ⟨H3, I3, q3⟩ => ?_))))
  exact wpAny_release ⟨σ, H3, I3, q3⟩
/-- target = value -/
def tAsg (te : TE) (g : TG) : TS := fun D σ H => te σ H fun x H1 => g x σ H1 D.nx
theorem ps_asg {tg e : Expr} {te : TE} {g : TG} (he : PE X e te) (hg : PG X tg g) (hs : swapsWithSole [tg] e pos.line X.env = pure false := by rfl) (hw : swappedStores [tg] e X.env = pure none := by rfl)
    (h1 : (assignEach [tg] X.env).map (·.2) = [assign tg X.env] := by rfl) : PS X (.Assign [tg] e pos) (tAsg te g) := by
  intro pins s σ H D I h
  refine wpAny_Assign_stores (thn (he pins s σ H _ I h) fun v s1 ⟨x, H1, I1, r1, q1⟩ => ?_) hs hw
  rw [h1]
  exact thn (hg pins s1 σ H1 x v _ I1 r1 q1) fun _ s2 q => q
/-- name = value -/
theorem ps_set {i : Nat} {x : Str} {e : Expr} {te : TE} {pos' : Pos} (hN : X.N.Nodup) (hi : X.N[i]? = some x) (hx : Loc X.env.scope x) (he : PE X e te) (hs : swapsWith e (some (.Name x pos')) pos.line X.env = pure false := by rfl) (hf : X.fn x = true ∨ X.env.scope.names.lookup x = some .local := by first | exact .inl rfl | exact .inr rfl | assumption) :
    PS X (.Assign [.Name x pos'] e pos) (tAsg te (gName i)) := by
  intro pins s σ H D I h
  refine wpAny_Assign_Name (thn (he pins s σ H _ I h) fun v s1 ⟨y, H1, I1, r1, q1⟩ => ?_) hs
  exact store_ok I1 hN hi hx r1 (fun s2 I2 => ⟨_, H1, I2, q1⟩) hf
end

section
variable {X : Cx} {pos : Pos}
end

/-- at turn i: it yields x (the heap may grow), or it stops -/
structure It where
  go : Nat → Hp → Prop
  yld : Nat → Hp → V → Hp → Prop
  stop : Nat → Hp → Prop
/-- the iterator's own objects may turn: they are not the frame's, not pinned, younger than the entry (or a comprehension's own) -/
def FpOk (X : Cx) (pins : List (Addr × Obj)) (H : Hp) (b : Addr) : Prop :=
  H b = none ∧ b ≠ X.env.locals ∧ b ∉ X.fs ∧ (b ∈ X.ex ∨ X.s₀.heap.objs.size ≤ b) ∧ (∀ x c, X.env.cells.lookup x = some c → c ≠ b) ∧ ∀ p ∈ X.pn ++ pins, p.1 ≠ b
theorem Inv.fpOk {X : Cx} {pins : List (Addr × Obj)} {σ : St} {H H' : Hp} {s : Shared} {b : Addr} (I : Inv X pins σ H s) (hb : s.heap.objs.size ≤ b) (hn : H' b = none) : FpOk X pins H' b := by
  refine ⟨hn, Nat.ne_of_gt (Nat.lt_of_lt_of_le I.lt hb), I.nofs hb, .inr (Nat.le_trans I.sz hb), fun x c e z => ?_, fun p hp z => ?_⟩
  · obtain ⟨v, q⟩ := I.cell x c e
    exact absurd (Nat.lt_of_lt_of_le q.lt (by rw [z]; exact hb)) (Nat.lt_irrefl _)
  · exact absurd (Nat.lt_of_lt_of_le (Heap.lt_size (I.pin p hp).1) (by rw [z]; exact hb)) (Nat.lt_irrefl _)
structure Turn (P : Program) (w : World) (K : PySem.W.Frag) (tg : Expr) (J : It) (fp : List Addr) (it : Addr) (tn : Nat → Heap → Prop) : Prop where
  mem : it ∈ fp
  obj : ∀ i h, tn i h → ∀ b ∈ fp, ∃ o, h.get? b = some o ∧ ∀ v, o.data ≠ .cell v
  keep : ∀ i h h', tn i h → (∀ b ∈ fp, ∀ o, h.get? b = some o → h'.get? b = some o) → tn i h'
  item : ∀ (X : Cx), X.prog = P → X.w = w → X.K = K → X.calm = true → ∀ (i : Nat) (pins : List (Addr × Obj)) (s : Shared) (σ : St) (H : Hp) (E : Value → Shared → Prop), Inv X pins σ H s → (∀ b ∈ fp, FpOk X pins H b) → tn i s.heap → J.go i H →
    wpAny (model P w) X.A (pyNext (.ref it)) (fun r s1 => ∃ u, r = some u ∧
      wpAny (model P w) X.A (letOwnedTupleGo tg (.ref it) u) (fun _ s2 => ∃ x H', Inv X pins σ H' s2 ∧ RelV x u ∧ J.yld i H x H' ∧ tn (i + 1) s2.heap ∧ ∀ b ∈ fp, H' b = none) E s1) E s
  done : ∀ (X : Cx), X.prog = P → X.w = w → X.K = K → X.calm = true → ∀ (i : Nat) (pins : List (Addr × Obj)) (s : Shared) (σ : St) (H : Hp) (E : Value → Shared → Prop), Inv X pins σ H s → (∀ b ∈ fp, FpOk X pins H b) → tn i s.heap → J.stop i H →
    wpAny (model P w) X.A (pyNext (.ref it)) (fun r s1 => r = none ∧ Inv X pins σ H s1) E s
  self : ∀ (A : Around) (i : Nat) (s : Shared) (Q : Value → Shared → Prop) (E : Value → Shared → Prop), tn i s.heap → Q (.ref it) s → wpAny (model P w) A (pyIter (.ref it)) Q E s
abbrev TI := St → Hp → (It → Hp → Prop) → Prop
/-- an iterator has come -/
def PIE (X : Cx) (pins : List (Addr × Obj)) (σ : St) (tg : Expr) (R : It → Hp → Prop) (itv : Value) (s2 : Shared) : Prop :=
  ∃ (it : Addr) (fp : List Addr) (tn : Nat → Heap → Prop) (J : It) (H' : Hp), itv = .ref it ∧ Inv X pins σ H' s2 ∧ Turn X.prog X.w X.K tg J fp it tn ∧ tn 0 s2.heap ∧ (∀ b ∈ fp, FpOk X pins H' b) ∧ R J H'
def PI (X : Cx) (tg iter : Expr) (wi : TI) : Prop :=
  ∀ (pins : List (Addr × Obj)) (s : Shared) (σ : St) (H : Hp) (R : It → Hp → Prop), Inv X pins σ H s → wi σ H R →
    wpAny (model X.prog X.w) X.A (eval iter X.env) (fun v s1 => wpAny (model X.prog X.w) X.A (pyIter v) (PIE X pins σ tg R) X.xe s1) X.xe s

/-- the step ahead of the store is nothing for an iterator that keeps no tuple -/
theorem go_of {M : Model} {A : Around} {E : Value → Shared → Prop} {s : Shared} {tg : Expr} {it : Addr} {u : Value} {o : Obj} {n : String} {vs : Array Value} {Q : Unit → Shared → Prop} (ho : s.heap.get? it = some o) (hc : o.cls = .type n) (hd : o.data = .fields vs)
    (hn : ["enumerate", "zip", "dict_itemiterator", "dict_reverseitemiterator", "odict_iterator", "itertools.zip_longest", "itertools.pairwise"].contains n = false) (hQ : Q () s) : wpAny M A (letOwnedTupleGo tg (.ref it) u) Q E s := by
  unfold letOwnedTupleGo
  cases tg <;> first
    | exact wpAny_pure hQ
    | (cases u <;> first
        | exact wpAny_pure hQ
        | (refine wpAny_bind (wpAny_load ho ?_)
           rw [hc, hd]
           show wpAny M A (if (["enumerate", "zip", "dict_itemiterator", "dict_reverseitemiterator", "odict_iterator", "itertools.zip_longest", "itertools.pairwise"].contains n && vs[0]? == some (rawInt _)) = true then _ else _) Q E s
           rw [if_neg (by intro h; rw [hn, Bool.false_and] at h; cases h)]
           exact wpAny_pure hQ))

/-- the list at a, as it stands at each turn (a loop may append to it) -/
def Itl (K : PySem.W.Frag) (a : Addr) : It :=
  ⟨fun i H => ∃ xs x, SqL K H a xs ∧ xs[i]? = some x, fun i H x H' => H' = H ∧ ∀ xs, SqL K H a xs → xs[i]? = some x, fun i H => ∃ xs, SqL K H a xs ∧ xs.length ≤ i⟩
def Itt (K : PySem.W.Frag) (a : Addr) : It :=
  ⟨fun i H => ∃ xs x, SqT K H a xs ∧ xs[i]? = some x, fun i H x H' => H' = H ∧ ∀ xs, SqT K H a xs → xs[i]? = some x, fun i H => ∃ xs, SqT K H a xs ∧ xs.length ≤ i⟩
/-- lo, lo + 1, .. (n of them) -/
def Itr (lo : Int) (n : Nat) : It := ⟨fun i _ => i < n, fun i H x H' => H' = H ∧ x = .int (lo + i), fun i _ => n ≤ i⟩
theorem turn_list {P : Program} {w : World} {K : PySem.W.Frag} {tg : Expr} (a it : Addr) : Turn P w K tg (Itl K a) [it] it (fun i h => h.IsListIter it a i) where
  mem := by simp
  obj := fun i h st b hb => by
    have e : b = it := by simpa using hb
    subst e
    obtain ⟨o, e, c, d⟩ := st
    exact ⟨o, e, fun v z => by rw [d] at z; cases z⟩
  keep := fun i h h' st k => st.at fun o e => k it (by simp) o e
  item := by
    intro X hP hw hK hc i pins s σ H E I hf st hg
    subst hP hw hK
    obtain ⟨xs, x, hq, hx⟩ := hg
    obtain ⟨its, rv, p, hz⟩ := I.list hq
    obtain ⟨u, hu, ru⟩ := rv.get hx
    obtain ⟨f0, f1, f2, f3, f4, f5⟩ := hf it (by simp)
    refine wpAny_pyNext_list_item st p.isList (x := u) (by simpa using hu) fun h' st' sb => ?_
    have I1 : Inv X pins σ H { s with heap := h' } := I.turned (t' := s.toks) (fun b o hb e => (sb.2 b hb).trans e) f0 f1 f3 f4 f5
    obtain ⟨o, e, c, d⟩ := id st'
    exact ⟨u, rfl, go_of (s := { s with heap := h' }) e c d (by decide) ⟨x, H, I1, ru, ⟨rfl, fun ys hy => by rw [I.list_inj hy hq]; exact hx⟩, st', fun b hb => (hf b hb).1⟩⟩
  done := by
    intro X hP hw hK hc i pins s σ H E I hf st hg
    subst hP hw hK
    obtain ⟨xs, hq, hx⟩ := hg
    obtain ⟨its, rv, p, hz⟩ := I.list hq
    obtain ⟨f0, f1, f2, f3, f4, f5⟩ := hf it (by simp)
    have hl := rv.length
    exact wpAny_pyNext_list_end (I.ok.hd hc) st p.isList (by simp; omega) fun h' eb => ⟨rfl, I.turned (t' := s.toks) (fun b o hb e => eb b o hb e) f0 f1 f3 f4 f5⟩
  self := fun _ _ _ _ _ st h => wpAny_pyIter_listiter st h
theorem turn_tuple {P : Program} {w : World} {K : PySem.W.Frag} {tg : Expr} (a it : Addr) : Turn P w K tg (Itt K a) [it] it (fun i h => h.IsTupleIter it a i) where
  mem := by simp
  obj := fun i h st b hb => by
    have e : b = it := by simpa using hb
    subst e
    obtain ⟨o, e, c, d⟩ := st
    exact ⟨o, e, fun v z => by rw [d] at z; cases z⟩
  keep := fun i h h' st k => st.at fun o e => k it (by simp) o e
  item := by
    intro X hP hw hK hc i pins s σ H E I hf st hg
    subst hP hw hK
    obtain ⟨xs, x, hq, hx⟩ := hg
    obtain ⟨its, rv, p, hz⟩ := I.tuple hq
    obtain ⟨u, hu, ru⟩ := rv.get hx
    obtain ⟨f0, f1, f2, f3, f4, f5⟩ := hf it (by simp)
    refine wpAny_pyNext_tuple_item st (show s.heap.IsTuple a its.toArray from p) (x := u) (by simpa using hu) fun h' st' sb => ?_
    have I1 : Inv X pins σ H { s with heap := h' } := I.turned (t' := s.toks) (fun b o hb e => (sb.2 b hb).trans e) f0 f1 f3 f4 f5
    obtain ⟨o, e, c, d⟩ := id st'
    exact ⟨u, rfl, go_of (s := { s with heap := h' }) e c d (by decide) ⟨x, H, I1, ru, ⟨rfl, fun ys hy => by rw [I.tuple_inj hy hq]; exact hx⟩, st', fun b hb => (hf b hb).1⟩⟩
  done := by
    intro X hP hw hK hc i pins s σ H E I hf st hg
    subst hP hw hK
    obtain ⟨xs, hq, hx⟩ := hg
    obtain ⟨its, rv, p, hz⟩ := I.tuple hq
    obtain ⟨f0, f1, f2, f3, f4, f5⟩ := hf it (by simp)
    have hl := rv.length
    exact wpAny_pyNext_tuple_end (I.ok.hd hc) st (show s.heap.IsTuple a its.toArray from p) (by simp; omega) fun h' eb => ⟨rfl, I.turned (t' := s.toks) (fun b o hb e => eb b o hb e) f0 f1 f3 f4 f5⟩
  self := fun _ _ _ _ _ st h => wpAny_pyIter_tupleiter st h
theorem turn_range {P : Program} {w : World} {K : PySem.W.Frag} {tg : Expr} (it : Addr) (lo : Int) (n : Nat) : Turn P w K tg (Itr lo n) [it] it (fun i h => IsRangeIter h it (lo + (i : Nat) * 1) ((n : Int) - (i : Nat)) 1) where
  mem := by simp
  obj := fun i h st b hb => by
    have e : b = it := by simpa using hb
    subst e
    exact ⟨_, st, fun v z => by
      have z' : Data.fields _ = Data.cell v := z
      cases z'⟩
  keep := fun i h h' st k => k it (by simp) _ st
  item := by
    intro X hP hw hK hc i pins s σ H E I hf st hg
    subst hP hw hK
    obtain ⟨f0, f1, f2, f3, f4, f5⟩ := hf it (by simp)
    have W := Walks.range (prog := X.prog) (w := X.w) (I.ok.hd hc) it lo 1 n
    refine W.item i s _ _ hg st fun v h' tk hv st' kk => ?_
    obtain ⟨t, rfl⟩ := hv
    have I1 : Inv X pins σ H { s with heap := h', toks := tk } := I.turned (fun b o hb e => kk b o (by simpa using hb) e) f0 f1 f3 f4 f5
    refine ⟨_, rfl, go_of (s := { s with heap := h', toks := tk }) (n := "range_iterator") st' rfl rfl (by decide) ⟨.int (lo + i), H, I1, ⟨t, ?_⟩, ⟨rfl, rfl⟩, st', fun b hb => (hf b hb).1⟩⟩
    rw [Int.mul_one]
  done := by
    intro X hP hw hK hc i pins s σ H E I hf st hg
    subst hP hw hK
    obtain ⟨f0, f1, f2, f3, f4, f5⟩ := hf it (by simp)
    exact wpAny_pyNext_range_end (I.ok.hd hc) st (by have : n ≤ i := hg; omega) fun h' eb => ⟨rfl, I.turned (t' := s.toks) (fun b o hb e => eb b o hb e) f0 f1 f3 f4 f5⟩
  self := fun _ _ _ _ _ st h => wpAny_pyIter_rangeiter st h
end L2

namespace L2
open PySem PySem.Spec PyProof.Rows
section
variable {X : Cx} {tg : Expr}
/-- a range object just made, walked -/
theorem range_it {pins : List (Addr × Obj)} {σ : St} {H : Hp} {s : Shared} {R : It → Hp → Prop} {E : Value → Shared → Prop} {lo hi : Int} {t u v : Tok} {tk : Nat} (I : Inv X pins σ H s) (h1 : -(2 ^ 62) ≤ lo) (h2 : lo < 2 ^ 62) (h3 : -(2 ^ 62) ≤ hi) (h4 : hi < 2 ^ 62)
    (q : R (Itr lo (hi - lo).toNat) H) : wpAny (model X.prog X.w) X.A (pyIter (.ref s.heap.objs.size)) (PIE X pins σ tg R) E { s with heap := s.heap.push { cls := .type "range", data := .fields #[.int lo t, .int hi u, .int 1 v] }, toks := tk } := by
  refine wpAny_pyIter_range (IsRange.new ..) (small_one h1 h2 h3 h4) ?_
  have I1 : Inv X pins σ H { s with heap := s.heap.push { cls := .type "range", data := .fields #[.int lo t, .int hi u, .int 1 v] }, toks := tk } := I.kept fun b o e => Heap.get?_push_of_some _ e
  refine ⟨(s.heap.push { cls := .type "range", data := .fields #[.int lo t, .int hi u, .int 1 v] }).objs.size, [(s.heap.push { cls := .type "range", data := .fields #[.int lo t, .int hi u, .int 1 v] }).objs.size], _, _, H, rfl,
    I1.kept (t' := tk) fun b o e => Heap.get?_push_of_some _ e, turn_range _ lo (hi - lo).toNat, ?_, fun b hb => ?_, q⟩
  · have e1 : lo + ((0 : Nat) : Int) * 1 = lo := by simp
    have e2 : (((hi - lo).toNat : Nat) : Int) - ((0 : Nat) : Int) = Builtin.Range.rangeSize lo hi 1 := by rw [rangeSize_one]; split <;> omega
    show IsRangeIter _ _ (lo + ((0 : Nat) : Int) * 1) ((((hi - lo).toNat : Nat) : Int) - ((0 : Nat) : Int)) 1
    rw [e1, e2]
    exact Heap.get?_push_size _ rfl
  · have e : b = (s.heap.push { cls := .type "range", data := .fields #[.int lo t, .int hi u, .int 1 v] }).objs.size := by simpa using hb
    subst e
    exact I1.fpOk (Nat.le_refl _) (I1.hok.fresh (Nat.le_refl _))
def iRng1 (ta : TA) : TI := fun σ H R => ta σ H fun vs H1 => ∃ j : Int, vs = [.int j] ∧ -(2 ^ 62) ≤ j ∧ j < 2 ^ 62 ∧ R (Itr 0 j.toNat) H1
def iRng2 (ta : TA) : TI := fun σ H R => ta σ H fun vs H1 => ∃ i j : Int, vs = [.int i, .int j] ∧ (-(2 ^ 62) ≤ i ∧ i < 2 ^ 62 ∧ -(2 ^ 62) ≤ j ∧ j < 2 ^ 62) ∧ R (Itr i (j - i).toNat) H1
theorem pi_range1 {a : Expr} {ta : TA} {p pos : Pos} (hg : Gl X "range") (hm : X.mg "range" = none) (ha : PA X [a] ta) (hs : starEach [a] X.env = [(false, eval a X.env)] := by rfl) : PI X tg (.Call (.Name "range" p) [a] [] pos) (iRng1 ta) := by
  intro pins s σ H R I h
  refine Call_ (ld_blt I hg hm boot_range (PyProof.Rows.callWith_type1 (thn (ha pos pins s σ H _ I h) fun us s1 ⟨vs, H1, I1, r1, q1⟩ => ?_) hs rfl))
  obtain ⟨j, e, q1, q2, q⟩ := q1
  subst e
  cases r1 with
  | cons r rr =>
    cases rr
    obtain ⟨t, rfl⟩ := r
    exact call_range_1 (range_it I1 (by omega) (by omega) q1 q2 (by simpa using q))
/-- W: the invariant by the turn and a measure; N: what the body is to reach -/
def tFor (wi : TI) (g : TG) (tb : TS) : TS := fun D σ H => wi σ H fun J H1 => ∃ W : Nat → Nat → St → Hp → Prop, (∃ m, W 0 m σ H1) ∧ ∀ i m σ H, W i m σ H →
  (J.stop i H ∧ D.nx σ H) ∨ (J.go i H ∧ ∃ N : St → Hp → Prop, (∀ σ' H', N σ' H' → ∃ m', m' < m ∧ W (i + 1) m' σ' H') ∧ ∀ x H', J.yld i H x H' → g x σ H' fun σ2 H2 => tb { D with nx := N, ct := N, bk := D.nx } σ2 H2)
/-- the records at fp as they stand -/
def pinsAt (fp : List Addr) (h : Heap) : List (Addr × Obj) := fp.filterMap fun b => (h.get? b).map fun o => (b, o)
theorem mem_pinsAt {fp : List Addr} {h : Heap} {b : Addr} {o : Obj} (hb : b ∈ fp) (e : h.get? b = some o) : (b, o) ∈ pinsAt fp h := List.mem_filterMap.mpr ⟨b, hb, by rw [e]; rfl⟩
theorem of_pinsAt {fp : List Addr} {h : Heap} {p : Addr × Obj} (hp : p ∈ pinsAt fp h) : p.1 ∈ fp ∧ h.get? p.1 = some p.2 := by
  obtain ⟨b, hb, e⟩ := List.mem_filterMap.mp hp
  cases q : h.get? b with
  | none => rw [q] at e; cases e
  | some o =>
    rw [q] at e
    have e' : (b, o) = p := Option.some.inj e
    subst e'
    exact ⟨hb, q⟩
theorem Inv.pinned {pins : List (Addr × Obj)} {σ : St} {H : Hp} {s : Shared} {fp : List Addr} (I : Inv X pins σ H s) (hf : ∀ b ∈ fp, FpOk X pins H b) (ho : ∀ b ∈ fp, ∃ o, s.heap.get? b = some o ∧ ∀ v, o.data ≠ .cell v) : Inv X (pins ++ pinsAt fp s.heap) σ H s :=
  I.pins_of fun p hp => (List.mem_append.mp hp).elim (fun z => I.pin p (List.mem_append_right _ z)) fun z => by
    obtain ⟨hb, e⟩ := of_pinsAt z
    obtain ⟨f0, f1, f2, _⟩ := hf p.1 hb
    obtain ⟨o, e', d⟩ := ho p.1 hb
    rw [e] at e'; cases e'
    exact ⟨e, f0, f1, f2, d⟩
theorem Inv.unpinned {pins pl : List (Addr × Obj)} {σ : St} {H : Hp} {s : Shared} (I : Inv X (pins ++ pl) σ H s) : Inv X pins σ H s := I.pins_of fun p hp => I.pin p (List.mem_append_right _ (List.mem_append_left _ hp))
theorem ps_for {iter : Expr} {body : List Stmt} {wi : TI} {g : TG} {tb : TS} {pos : Pos} (hp : PassesOwn (model X.prog X.w) X.A X.env X.xe) (hc : X.calm = true) (hi : PI X tg iter wi) (hg : PG X tg g) (hb : PSs X body tb)
    (hs : ∀ x, foldedSetIterable iter X.env x = pure x := by intro _; rfl) : PS X (.For tg iter body [] pos) (tFor wi g tb) := by
  intro pins s σ H D I h
  refine wpAny_For (thn (hi pins s σ H _ I h) fun v s1 h1 => thn h1 fun itv s2 h2 => ?_) hs
  obtain ⟨it, fp, tn, J, H2, e, I2, T, st2, f2, W, ⟨m0, w0⟩, turn⟩ := h2
  subst e
  -- what stays true of the iterator's objects through the loop
  have stat : ∀ {H' : Hp}, (∀ b ∈ fp, H' b = none) → ∀ b ∈ fp, FpOk X pins H' b := fun hn b hb => ⟨hn b hb, (f2 b hb).2⟩
  refine codeAny_forLoop_any (fun n s' => ∃ i σ' H', Inv X pins σ' H' s' ∧ tn i s'.heap ∧ (∀ b ∈ fp, H' b = none) ∧ W i n σ' H') ?_ m0 ⟨0, σ, H2, I2, st2, fun b hb => (f2 b hb).1, w0⟩
  rintro n s3 ⟨i, σ3, H3, I3, st3, fr3, w3⟩
  rcases turn i n σ3 H3 w3 with ⟨stop, qn⟩ | ⟨go, N, hN, step⟩
  · refine wpAny_passesOwn hp (thn (T.done X rfl rfl rfl hc i pins s3 σ3 H3 X.xe I3 (stat fr3) st3 stop) fun r s4 ⟨hr, I4⟩ => ?_)
    subst hr
    exact wpAny_execs_nil ⟨σ3, H3, I4, qn⟩
  · refine wpAny_passesOwn hp (thn (T.item X rfl rfl rfl hc i pins s3 σ3 H3 X.xe I3 (stat fr3) st3 go) fun r s4 ⟨u, hr, h4⟩ => ?_)
    subst hr
    refine wpAny_passesOwn hp (thn h4 fun _ s5 ⟨x, H5, I5, r5, y5, st5, fr5⟩ => ?_)
    have I5' := I5.pinned (stat fr5) (T.obj _ _ st5)
    refine wpAny_passesOwn hp (thn (hg _ s5 σ3 H5 x u _ I5' r5 (step x H5 y5)) fun _ s6 ⟨σ6, H6, I6, q6⟩ => ?_)
    refine wpAny_passesOwn hp (thn (hb _ s6 σ6 H6 _ I6 q6) fun f s7 q7 => ?_)
    have again : ∀ {σ7 : St} {H7 : Hp}, Inv X (pins ++ pinsAt fp s5.heap) σ7 H7 s7 → N σ7 H7 → ∃ m, m < n ∧ ∃ i σ' H', Inv X pins σ' H' s7 ∧ tn i s7.heap ∧ (∀ b ∈ fp, H' b = none) ∧ W i m σ' H' := fun {σ7 H7} I7 n7 => by
      obtain ⟨m', hm, w7⟩ := hN σ7 H7 n7
      refine ⟨m', hm, i + 1, σ7, H7, I7.unpinned, T.keep _ _ _ st5 fun b hb o e => (I7.pin (b, o) (List.mem_append_right _ (List.mem_append_right _ (mem_pinsAt hb e)))).1, fun b hb => ?_, w7⟩
      obtain ⟨o, e, d⟩ := T.obj _ _ st5 b hb
      exact (I7.pin (b, o) (List.mem_append_right _ (List.mem_append_right _ (mem_pinsAt hb e)))).2.1
    cases f with
    | next => obtain ⟨σ7, H7, I7, n7⟩ := q7; exact again I7 n7
    | cont => obtain ⟨σ7, H7, I7, n7⟩ := q7; exact again I7 n7
    | brk => obtain ⟨σ7, H7, I7, q7⟩ := q7; exact ⟨σ7, H7, I7.unpinned, q7⟩
    | ret v => obtain ⟨x7, σ7, H7, I7, r7, q7⟩ := q7; exact ⟨x7, σ7, H7, I7.unpinned, r7, q7⟩
end

theorem for_range {lo : Int} {n : Nat} {g : TG} {tb : TS} {D : Ends} {σ : St} {H : Hp} (Pv : Nat → St → Hp → Prop) (h0 : Pv 0 σ H)
    (hs : ∀ i σ H, i < n → Pv i σ H → g (.int (lo + i)) σ H fun σ2 H2 => tb { D with nx := Pv (i + 1), ct := Pv (i + 1), bk := D.nx } σ2 H2) (hd : ∀ σ H, Pv n σ H → D.nx σ H) :
    ∃ W : Nat → Nat → St → Hp → Prop, (∃ m, W 0 m σ H) ∧ ∀ i m σ H, W i m σ H →
      ((Itr lo n).stop i H ∧ D.nx σ H) ∨ ((Itr lo n).go i H ∧ ∃ N : St → Hp → Prop, (∀ σ' H', N σ' H' → ∃ m', m' < m ∧ W (i + 1) m' σ' H') ∧ ∀ x H', (Itr lo n).yld i H x H' → g x σ H' fun σ2 H2 => tb { D with nx := N, ct := N, bk := D.nx } σ2 H2) := by
  refine ⟨fun i m σ H => m = n - i ∧ i ≤ n ∧ Pv i σ H, ⟨n, by simp, Nat.zero_le _, h0⟩, ?_⟩
  rintro i m σ H ⟨rfl, hi, p⟩
  by_cases hlt : i < n
  · refine .inr ⟨hlt, Pv (i + 1), fun σ' H' p' => ⟨n - (i + 1), by omega, rfl, hlt, p'⟩, fun x H' y => ?_⟩
    obtain ⟨e, y⟩ := y
    subst e y
    exact hs i σ _ hlt p
  · have e : i = n := by omega
    subst e
    exact .inl ⟨Nat.le_refl _, hd σ H p⟩
end L2

namespace L2
open PySem PySem.Spec PyProof.Rows

abbrev R2 := V → V → Hp → VK → Prop
/-- a two-place operation on values: f is binaryOp op, inplaceOp op or compareOp op -/
def OpR (X : Cx) (f : Value → Value → Sem Value) (r : R2) : Prop :=
  ∀ (pins : List (Addr × Obj)) (s : Shared) (σ : St) (H : Hp) (x y : V) (v u : Value) (Q : VK), Inv X pins σ H s → RelV x v → RelV y u → r x y H Q →
    wpAny (model X.prog X.w) X.A (f v u) (EP X pins σ Q) X.xe s
/-- a one-place operation -/
def UnR (X : Cx) (f : Value → Sem Value) (r : V → Hp → VK → Prop) : Prop :=
  ∀ (pins : List (Addr × Obj)) (s : Shared) (σ : St) (H : Hp) (x : V) (v : Value) (Q : VK), Inv X pins σ H s → RelV x v → r x H Q →
    wpAny (model X.prog X.w) X.A (f v) (EP X pins σ Q) X.xe s
/-- a call of a value that is known (a builtin, a type) with values -/
def CallR (X : Cx) (f : Value) (r : List V → Hp → VK → Prop) : Prop :=
  ∀ (pins : List (Addr × Obj)) (s : Shared) (σ : St) (H : Hp) (xs : List V) (us : List Value) (Q : VK), Inv X pins σ H s → Vals xs us → r xs H Q →
    wpAny (model X.prog X.w) X.A (call f us) (EP X pins σ Q) X.xe s
/-- a value's truth -/
def TruR (X : Cx) (r : V → Hp → (Bool → Hp → Prop) → Prop) : Prop :=
  ∀ (pins : List (Addr × Obj)) (s : Shared) (σ : St) (H : Hp) (x : V) (v : Value) (Q : Bool → Hp → Prop), Inv X pins σ H s → RelV x v → r x H Q →
    wpAny (model X.prog X.w) X.A (truthy v) (TP X pins σ Q) X.xe s

def tOp (r : R2) (ta tb : TE) : TE := fun σ H Q => ta σ H fun x H1 => tb σ H1 fun y H2 => r x y H2 Q
def tUn (r : V → Hp → VK → Prop) (ta : TE) : TE := fun σ H Q => ta σ H fun x H1 => r x H1 Q
/-- ints in, under C, and a value out -/
def rI (C : Int → Int → Prop) (g : Int → Int → V) : R2 := fun x y H Q => ∃ i j, x = .int i ∧ y = .int j ∧ C i j ∧ Q (g i j) H
def rI0 (g : Int → Int → V) : R2 := fun x y H Q => ∃ i j, x = .int i ∧ y = .int j ∧ Q (g i j) H
def rU (g : Int → V) : V → Hp → VK → Prop := fun x H Q => ∃ i, x = .int i ∧ Q (g i) H

section
variable {X : Cx} {a b c : Expr} {ta tb tc : TE} {pos : Pos}

theorem binT (ha : PE X a ta) (hb : PE X b tb) {pins : List (Addr × Obj)} {s : Shared} {σ : St} {H : Hp} {R : V → V → Hp → Prop} (I : Inv X pins σ H s)
    (h : ta σ H fun x H1 => tb σ H1 fun y H2 => R x y H2) {Q : Value → Shared → Prop} {f : Value → Value → Sem Value}
    (hf : ∀ v u s2 x y H2, Inv X pins σ H2 s2 → RelV x v → RelV y u → R x y H2 → wpAny (model X.prog X.w) X.A (f v u) Q X.xe s2) :
    wpAny (model X.prog X.w) X.A (eval a X.env) (fun v s₁ => wpAny (model X.prog X.w) X.A (eval b X.env) (fun u s₂ => wpAny (model X.prog X.w) X.A (f v u) Q X.xe s₂) X.xe s₁) X.xe s := by
  refine thn (ha pins s σ H _ I h) fun v s1 ⟨x, H1, I1, r1, q1⟩ => ?_
  refine thn (hb pins s1 σ H1 _ I1 q1) fun u s2 ⟨y, H2, I2, r2, q2⟩ => ?_
  exact hf v u s2 x y H2 I2 r1 r2 q2

theorem pe_op {op : Operator} {r : R2} (ho : OpR X (binaryOp op) r) (ha : PE X a ta) (hb : PE X b tb) : PE X (.BinOp a op b pos) (tOp r ta tb) := by
  intro pins s σ H Q I h
  exact wpAny_BinOp (binT ha hb I h fun v u s2 x y H2 I2 rx ry q => ho pins s2 σ H2 x y v u Q I2 rx ry q)
theorem pe_un {op : UnaryOp} {r : V → Hp → VK → Prop} (ho : UnR X (unaryOp op) r) (ha : PE X a ta) : PE X (.UnaryOp op a pos) (tUn r ta) := by
  intro pins s σ H Q I h
  exact UnaryOp_ (thn (ha pins s σ H _ I h) fun v s1 ⟨x, H1, I1, r1, q1⟩ => ho pins s1 σ H1 x v Q I1 r1 q1)
theorem opI {f : Value → Value → Sem Value} {C : Int → Int → Prop} {g : Int → Int → Int}
    (rule : ∀ (i j : Int) (t u : Tok) (s : Shared) (Q : Value → Shared → Prop) (E : Value → Shared → Prop), C i j → Q (.int (g i j) s.toks) { s with toks := s.toks + 1 } → wpAny (model X.prog X.w) X.A (f (.int i t) (.int j u)) Q E s) :
    OpR X f (rI C fun i j => .int (g i j)) := by
  intro pins s σ H x y v u Q I rx ry h
  obtain ⟨i, j, rfl, rfl, hc, q⟩ := h
  obtain ⟨t, rfl⟩ := rx
  obtain ⟨t', rfl⟩ := ry
  exact rule i j t t' s _ _ hc ⟨.int (g i j), H, I.tok _, ⟨_, rfl⟩, q⟩
theorem opI0 {f : Value → Value → Sem Value} {g : Int → Int → Int}
    (rule : ∀ (i j : Int) (t u : Tok) (s : Shared) (Q : Value → Shared → Prop) (E : Value → Shared → Prop), Q (.int (g i j) s.toks) { s with toks := s.toks + 1 } → wpAny (model X.prog X.w) X.A (f (.int i t) (.int j u)) Q E s) :
    OpR X f (rI0 fun i j => .int (g i j)) := by
  intro pins s σ H x y v u Q I rx ry h
  obtain ⟨i, j, rfl, rfl, q⟩ := h
  obtain ⟨t, rfl⟩ := rx
  obtain ⟨t', rfl⟩ := ry
  exact rule i j t t' s _ _ ⟨.int (g i j), H, I.tok _, ⟨_, rfl⟩, q⟩
theorem opB0 {f : Value → Value → Sem Value} {g : Int → Int → Bool}
    (rule : ∀ (i j : Int) (t u : Tok) (s : Shared) (Q : Value → Shared → Prop) (E : Value → Shared → Prop), Q (.bool (g i j)) s → wpAny (model X.prog X.w) X.A (f (.int i t) (.int j u)) Q E s) :
    OpR X f (rI0 fun i j => .bl (g i j)) := by
  intro pins s σ H x y v u Q I rx ry h
  obtain ⟨i, j, rfl, rfl, q⟩ := h
  obtain ⟨t, rfl⟩ := rx
  obtain ⟨t', rfl⟩ := ry
  exact rule i j t t' s _ _ ⟨.bl (g i j), H, I, rfl, q⟩

def CDiv (i j : Int) : Prop := 0 < j ∧ j < 1073741824
def CMul (i j : Int) : Prop := (-(2 ^ 64) < i ∧ i < 2 ^ 64) ∨ (-(2 ^ 64) < j ∧ j < 2 ^ 64)
theorem CMul.ok {i j : Int} (h : CMul i j) : IntMulOk i j := by
  rcases h with ⟨h1, h2⟩ | ⟨h1, h2⟩
  · exact .of_left (intBits_le_64 h1 h2)
  · exact .of_right (intBits_le_64 h1 h2)
theorem op_add : OpR X (binaryOp .Add) (rI0 fun i j => .int (i + j)) := opI0 fun _ _ _ _ _ _ _ q => add_int q
theorem op_sub : OpR X (binaryOp .Sub) (rI0 fun i j => .int (i - j)) := opI0 fun _ _ _ _ _ _ _ q => sub_int q
theorem op_mul : OpR X (binaryOp .Mult) (rI CMul fun i j => .int (i * j)) := opI fun _ _ _ _ _ _ _ hc q => mul_int q hc.ok
/-- // by a positive divisor -/
theorem op_fdiv : OpR X (binaryOp .FloorDiv) (rI CDiv fun i j => .int (i / j)) := opI fun i j _ _ _ _ _ hc q => by
  have h1 : (0 : Int) < j := hc.1
  have h2 : j < 1073741824 := hc.2
  exact floordiv_int (by omega) (by rw [Int.fdiv_eq_ediv_of_nonneg i (by omega)]; exact q) (.inl (PyProof.noPylong_small (by omega)))
/-- % by a positive divisor of any size -/
theorem op_mod : OpR X (binaryOp .Mod) (rI (fun _ j => 0 < j) fun i j => .int (i % j)) := opI fun i j _ _ _ _ _ hc q => by
  have h1 : (0 : Int) < j := hc
  exact mod_int' (by omega) (by rw [Int.fmod_eq_emod_of_nonneg i (by omega)]; exact q)
theorem unI {f : Value → Sem Value} {g : Int → Int}
    (rule : ∀ (i : Int) (t : Tok) (s : Shared) (Q : Value → Shared → Prop) (E : Value → Shared → Prop), Q (.int (g i) s.toks) { s with toks := s.toks + 1 } → wpAny (model X.prog X.w) X.A (f (.int i t)) Q E s) :
    UnR X f (rU fun i => .int (g i)) := by
  intro pins s σ H x v Q I rx h
  obtain ⟨i, rfl, q⟩ := h
  obtain ⟨t, rfl⟩ := rx
  exact rule i t s _ _ ⟨.int (g i), H, I.tok _, ⟨_, rfl⟩, q⟩
theorem un_neg : UnR X (unaryOp .USub) (rU fun i => .int (-i)) := unI fun _ _ _ _ _ q => neg_int q
end

/-- the scalars that == tells apart as data does -/
def scal : V → V → Bool
  | .non, .non => true | .non, .int _ => true | .int _, .non => true | .non, .bl _ => true | .bl _, .non => true | .non, .str _ => true | .str _, .non => true
  | .int _, .int _ => true | .bl _, .bl _ => true | .str _, .str _ => true | .byt _, .byt _ => true
  | .int _, .str _ => true | .str _, .int _ => true | .bl _, .str _ => true | .str _, .bl _ => true
  | _, _ => false
def rEq : R2 := fun x y H Q => scal x y = true ∧ Q (.bl (decide (x = y))) H
def rNe : R2 := fun x y H Q => scal x y = true ∧ Q (.bl (!decide (x = y))) H

theorem dec_int {i j : Int} : decide (V.int i = V.int j) = (i == j) := by
  rw [Bool.eq_iff_iff]
  simp
theorem dec_bl {i j : Bool} : decide (V.bl i = V.bl j) = (i == j) := by
  rw [Bool.eq_iff_iff]
  simp
theorem dec_str {i j : Str} : decide (V.str i = V.str j) = (i == j) := by
  rw [Bool.eq_iff_iff]
  simp
theorem dec_byt {i j : Array UInt8} : decide (V.byt i = V.byt j) = (i.toList == j.toList) := by
  rw [Bool.eq_iff_iff]
  cases i
  cases j
  simp

section
variable {X : Cx} {a b c : Expr} {ta tb tc : TE} {pos : Pos}
theorem fin_bl {pins : List (Addr × Obj)} {σ : St} {H : Hp} {s : Shared} {Q : VK} {k k' : Bool} (I : Inv X pins σ H s) (q : Q (.bl k) H) (e : k = k') : EP X pins σ Q (.bool k') s := by
  subst e
  exact ⟨.bl k, H, I, rfl, q⟩
theorem op_eq : OpR X (compareOp .Eq) rEq := by
  intro pins s σ H x y v u Q I rx ry h
  obtain ⟨hs, q⟩ := h
  cases x with
  | non =>
    cases rx
    cases y with
    | non => cases ry; exact PySem.EqNone.eq_none_none (fin_bl I q (by simp))
    | bl j => cases ry; exact PySem.EqNone.eq_none_bool (fin_bl I q (by simp))
    | int j => obtain ⟨t', rfl⟩ := ry; exact PySem.EqNone.eq_none_int (fin_bl I q (by simp))
    | str j => obtain ⟨t', rfl⟩ := ry; exact PySem.EqNone.eq_none_str (fin_bl I q (by simp))
    | _ => exact absurd (show false = true from hs) Bool.false_ne_true
  | bl i =>
    cases rx
    cases y with
    | non => cases ry; exact PySem.EqNone.eq_bool_none (fin_bl I q (by simp))
    | bl j => cases ry; exact eq_bool (fin_bl I q dec_bl)
    | str j => obtain ⟨t', rfl⟩ := ry; exact PySem.EqMixed.eq_bool_str (fin_bl I q (by simp))
    | _ => exact absurd (show false = true from hs) Bool.false_ne_true
  | int i =>
    obtain ⟨t, rfl⟩ := rx
    cases y with
    | non => cases ry; exact PySem.EqNone.eq_int_none (fin_bl I q (by simp))
    | int j => obtain ⟨t', rfl⟩ := ry; exact eq_int (fin_bl I q dec_int)
    | str j => obtain ⟨t', rfl⟩ := ry; exact PySem.EqMixed.eq_int_str (fin_bl I q (by simp))
    | _ => exact absurd (show false = true from hs) Bool.false_ne_true
  | str i =>
    obtain ⟨t, rfl⟩ := rx
    cases y with
    | non => cases ry; exact PySem.EqNone.eq_str_none (fin_bl I q (by simp))
    | bl j => cases ry; exact PySem.EqMixed.eq_str_bool (fin_bl I q (by simp))
    | int j => obtain ⟨t', rfl⟩ := ry; exact PySem.EqMixed.eq_str_int (fin_bl I q (by simp))
    | str j => obtain ⟨t', rfl⟩ := ry; exact eq_str (fin_bl I q dec_str)
    | _ => exact absurd (show false = true from hs) Bool.false_ne_true
  | byt i =>
    obtain ⟨t, rfl⟩ := rx
    cases y with
    | byt j => obtain ⟨t', rfl⟩ := ry; exact PySem.W.eq_bytes (fin_bl I q dec_byt)
    | _ => exact absurd (show false = true from hs) Bool.false_ne_true
  | _ => cases y <;> exact absurd (show false = true from hs) Bool.false_ne_true
theorem op_ne : OpR X (compareOp .NotEq) rNe := by
  intro pins s σ H x y v u Q I rx ry h
  obtain ⟨hs, q⟩ := h
  cases x with
  | non =>
    cases rx
    cases y with
    | non => cases ry; exact PySem.EqNone.ne_none_none (fin_bl I q (by simp))
    | bl j => cases ry; exact PySem.EqNone.ne_none_bool (fin_bl I q (by simp))
    | int j => obtain ⟨t', rfl⟩ := ry; exact PySem.EqNone.ne_none_int (fin_bl I q (by simp))
    | str j => obtain ⟨t', rfl⟩ := ry; exact PySem.EqNone.ne_none_str (fin_bl I q (by simp))
    | _ => exact absurd (show false = true from hs) Bool.false_ne_true
  | bl i =>
    cases rx
    cases y with
    | non => cases ry; exact PySem.EqNone.ne_bool_none (fin_bl I q (by simp))
    | bl j => cases ry; exact ne_bool (fin_bl I q (congrArg not dec_bl))
    | str j => obtain ⟨t', rfl⟩ := ry; exact PySem.EqMixed.ne_bool_str (fin_bl I q (by simp))
    | _ => exact absurd (show false = true from hs) Bool.false_ne_true
  | int i =>
    obtain ⟨t, rfl⟩ := rx
    cases y with
    | non => cases ry; exact PySem.EqNone.ne_int_none (fin_bl I q (by simp))
    | int j => obtain ⟨t', rfl⟩ := ry; exact ne_int (fin_bl I q (congrArg not dec_int))
    | str j => obtain ⟨t', rfl⟩ := ry; exact PySem.EqMixed.ne_int_str (fin_bl I q (by simp))
    | _ => exact absurd (show false = true from hs) Bool.false_ne_true
  | str i =>
    obtain ⟨t, rfl⟩ := rx
    cases y with
    | non => cases ry; exact PySem.EqNone.ne_str_none (fin_bl I q (by simp))
    | bl j => cases ry; exact PySem.EqMixed.ne_str_bool (fin_bl I q (by simp))
    | int j => obtain ⟨t', rfl⟩ := ry; exact PySem.EqMixed.ne_str_int (fin_bl I q (by simp))
    | str j => obtain ⟨t', rfl⟩ := ry; exact ne_str (fin_bl I q (congrArg not dec_str))
    | _ => exact absurd (show false = true from hs) Bool.false_ne_true
  | byt i =>
    obtain ⟨t, rfl⟩ := rx
    cases y with
    | byt j => obtain ⟨t', rfl⟩ := ry; exact PySem.W.ne_bytes (fin_bl I q (congrArg not dec_byt))
    | _ => exact absurd (show false = true from hs) Bool.false_ne_true
  | _ => cases y <;> exact absurd (show false = true from hs) Bool.false_ne_true

theorem op_lt : OpR X (compareOp .Lt) (rI0 fun i j => .bl (decide (i < j))) := opB0 fun _ _ _ _ _ _ _ q => lt_int q
theorem op_le : OpR X (compareOp .LtE) (rI0 fun i j => .bl (decide (i ≤ j))) := opB0 fun _ _ _ _ _ _ _ q => le_int q
theorem op_gt : OpR X (compareOp .Gt) (rI0 fun i j => .bl (decide (j < i))) := opB0 fun _ _ _ _ _ _ _ q => gt_int q
theorem op_ge : OpR X (compareOp .GtE) (rI0 fun i j => .bl (decide (j ≤ i))) := opB0 fun _ _ _ _ _ _ _ q => ge_int q
/-- the one string within the other -/
theorem op_in_str : OpR X (compareOp .In) (fun x y H Q => ∃ i j, x = .str i ∧ y = .str j ∧ Q (.bl (!(Builtin.Str.occurrences j i 0 j.length 1).isEmpty)) H) := by
  intro pins s σ H x y v u Q I rx ry h
  obtain ⟨i, j, rfl, rfl, q⟩ := h
  obtain ⟨t, rfl⟩ := rx
  obtain ⟨t', rfl⟩ := ry
  exact in_str (fin_bl I q rfl)

/-- is None, is not None: the right side a value none -/
theorem op_isN : OpR X (compareOp .Is) (fun x y H Q => y = .non ∧ Q (.bl (decide (x = .non))) H) := by
  intro pins s σ H x y v u Q I rx ry h
  obtain ⟨rfl, q⟩ := h
  cases ry
  refine is_none_gen (fin_bl I q ?_)
  cases x <;> first
    | (cases rx; rfl)
    | (obtain ⟨t, rfl⟩ := rx; rfl)
/-- two rules for one operation: by cases -/
theorem OpR.or {f : Value → Value → Sem Value} {r r' : R2} (h : OpR X f r) (h' : OpR X f r') : OpR X f (fun x y H Q => r x y H Q ∨ r' x y H Q) := by
  intro pins s σ H x y v u Q I rx ry q
  rcases q with q | q
  · exact h pins s σ H x y v u Q I rx ry q
  · exact h' pins s σ H x y v u Q I rx ry q

theorem nomark (b : Expr) {op : CmpOp} (h : op ≠ .In := by decide) (h2 : op ≠ .NotIn := by decide) : behindInMarks op b = false := by
  have e1 : (op == CmpOp.In) = false := by cases op <;> first | rfl | exact absurd rfl h
  have e2 : (op == CmpOp.NotIn) = false := by cases op <;> first | rfl | exact absurd rfl h2
  cases b <;> simp [behindInMarks, e1, e2]
/-- a comparison as a value; hm: nomark b, or (for in, not in) by with_unfolding_all rfl -/
theorem pe_cmpR {op : CmpOp} {r : R2} (ho : OpR X (compareOp op) r) (ha : PE X a ta) (hb : PE X b tb) (hm : behindInMarks op b = false) : PE X (.Compare a [op] [b] pos) (tOp r ta tb) := by
  intro pins s σ H Q I h
  exact wpAny_Compare1 (binT ha hb I h fun v u s2 x y H2 I2 rx ry q => ho pins s2 σ H2 x y v u Q I2 rx ry q) hm
/-- a reading of a value as a test -/
def tTest (t : TE) : TT := fun σ H Q => t σ H fun x H' => ∃ k, x = .bl k ∧ Q k H'
theorem pt_cmpR {op : CmpOp} {r : R2} (ho : OpR X (compareOp op) r) (ha : PE X a ta) (hb : PE X b tb) (hm : behindInMarks op b = false) : PT X (.Compare a [op] [b] pos) (tTest (tOp r ta tb)) := by
  intro pins s σ H Q I h
  refine wpAny_isTrue_Compare1 (thn (ha pins s σ H _ I h) fun v s1 ⟨x, H1, I1, r1, q1⟩ => thn (hb pins s1 σ H1 _ I1 q1) fun u s2 ⟨y, H2, I2, r2, q2⟩ =>
    thn (ho pins s2 σ H2 x y v u _ I2 r1 r2 q2) fun c s3 ⟨z, H3, I3, r3, k, e, q3⟩ => ?_) hm
  subst e
  cases r3
  exact wpAny_truthy_bool ⟨H3, I3, q3⟩
/-- a op1 b op2 c -/
def tChain (r r' : R2) (ta tb tc : TE) : TE := fun σ H Q => ta σ H fun x H1 => tb σ H1 fun y H2 => r x y H2 fun z H3 => ∃ k, z = .bl k ∧
  (if k = true then tc σ H3 fun w' H4 => r' y w' H4 Q else Q (.bl false) H3)
theorem pe_chain {op op' : CmpOp} {r r' : R2} (ho : OpR X (compareOp op) r) (ho' : OpR X (compareOp op') r') (ha : PE X a ta) (hb : PE X b tb) (hc : PE X c tc)
    (hm : lastMarks [op, op'] [b, c] = false := by with_unfolding_all rfl) : PE X (.Compare a [op, op'] [b, c] pos) (tChain r r' ta tb tc) := by
  intro pins s σ H Q I h
  refine Compare_chain (thn (ha pins s σ H _ I h) fun v s1 ⟨x, H1, I1, r1, q1⟩ => chain_link (thn (hb pins s1 σ H1 _ I1 q1) fun u s2 ⟨y, H2, I2, r2, q2⟩ =>
    thn (ho pins s2 σ H2 x y v u _ I2 r1 r2 q2) fun d s3 ⟨z, H3, I3, r3, k, e, q3⟩ => ?_)) hm
  subst e
  cases r3
  refine wpAny_truthy_bool ?_
  cases k with
  | false => exact ite_ff ⟨.bl false, H3, I3, rfl, q3⟩
  | true => exact ite_tt (chain_last (thn (hc pins s3 σ H3 _ I3 q3) fun w' s4 ⟨z', H4, I4, r4, q4⟩ => ho' pins s4 σ H4 y z' u w' Q I4 r2 r4 q4))
/-- a value's truth by the abstract heap -/
def TruV (K : PySem.W.Frag) (x : V) (H : Hp) (k : Bool) : Prop :=
  match x with
  | .non => k = false
  | .bl b => k = b
  | .int i => k = (i != 0)
  | .str y => y.length ≤ sizeLine ∧ k = ((y.length : Int) != 0)
  | .byt y => y.size ≤ sizeLine ∧ k = ((y.size : Int) != 0)
  | .ref p => (∃ xs, SqL K H p xs ∧ k = !xs.isEmpty) ∨ (∃ xs, SqT K H p xs ∧ k = !xs.isEmpty) ∨ ∃ kvs, H p = some (.dK kvs) ∧ k = !kvs.isEmpty
  | _ => False
theorem isEmpty_kv {κ : Type} {kvs : List (κ × V)} {vs : List (κ × Value)} (r : KV kvs vs) : (!vs.isEmpty) = !kvs.isEmpty := by
  cases r <;> rfl
theorem isEmpty_of {xs : List V} {its : List Value} (r : Vals xs its) : (!its.toArray.isEmpty) = !xs.isEmpty := by
  cases r <;> simp
theorem line63 : (sizeLine : Nat) < 2 ^ 63 := by rw [sizeLine_eq]; decide
theorem tru_ok : TruR X (fun x H Q => ∃ k, TruV X.K x H k ∧ Q k H) := by
  intro pins s σ H x v Q I rx h
  obtain ⟨k, e, q⟩ := h
  have hl := line63
  have hs : sizeLine = 16777216 := sizeLine_eq
  cases x with
  | non =>
    cases rx
    have e' : k = false := e
    subst e'
    exact truthy_none ⟨H, I, q⟩
  | bl b =>
    cases rx
    have e' : k = b := e
    subst e'
    exact wpAny_truthy_bool ⟨H, I, q⟩
  | int i =>
    obtain ⟨t, rfl⟩ := rx
    have e' : k = (i != 0) := e
    subst e'
    exact PySem.P.truthy_int ⟨H, I, q⟩
  | str y =>
    obtain ⟨t, rfl⟩ := rx
    obtain ⟨hy, e'⟩ : y.length ≤ sizeLine ∧ k = ((y.length : Int) != 0) := e
    subst e'
    exact PySem.P.truthy_str (by omega) ⟨H, I.tok _, q⟩
  | byt y =>
    obtain ⟨t, rfl⟩ := rx
    obtain ⟨hy, e'⟩ : y.size ≤ sizeLine ∧ k = ((y.size : Int) != 0) := e
    subst e'
    exact PySem.W.truthy_bytes (by omega) ⟨H, I.tok _, q⟩
  | ref p =>
    cases rx
    have e' : (∃ xs, SqL X.K H p xs ∧ k = !xs.isEmpty) ∨ (∃ xs, SqT X.K H p xs ∧ k = !xs.isEmpty) ∨ ∃ kvs, H p = some (.dK kvs) ∧ k = !kvs.isEmpty := e
    rcases e' with ⟨xs, hx, e'⟩ | ⟨xs, hx, e'⟩ | ⟨kvs, hx, e'⟩
    · subst e'
      obtain ⟨its, r, pl, hz⟩ := I.list hx
      have hlen := r.length
      exact wpAny_truthy_list pl.isList (by simp only [List.size_toArray]; omega) ⟨H, I.tok _, by rw [isEmpty_of r]; exact q⟩
    · subst e'
      obtain ⟨its, r, pl, hz⟩ := I.tuple hx
      have hlen := r.length
      exact truthy_tuple pl (by simp only [List.size_toArray]; omega) ⟨H, I.tok _, by rw [isEmpty_of r]; exact q⟩
    · subst e'
      obtain ⟨hz, hS, vs, r, m⟩ : kvs.length ≤ sizeLine ∧ (p == sysModules) = false ∧ ∃ vs, KV kvs vs ∧ s.heap.DictOf (mixKind X.prog X.w) p vs := I.hok p _ hx
      have hlen : kvs.length = vs.length := Paired.length r
      exact wpAny_truthy_dict hS m (by omega) ⟨H, I.tok _, by rw [isEmpty_kv r]; exact q⟩
  | _ => exact (show False from e).elim
/-- any expression whose test is its value's truth (a name, a call, a subscript, a field ..: he by fun _ => rfl) -/
theorem pt_truth (ha : PE X a ta) (he : ∀ whole, isTrue a X.env whole = (do let v ← whole; standAt a.pos; holding [v] (truthy v))) :
    PT X a (fun σ H Q => ta σ H fun x H' => ∃ k, TruV X.K x H' k ∧ Q k H') := by
  intro pins s σ H Q I h
  exact isTrue_plain (thn (ha pins s σ H _ I h) fun v s1 ⟨x, H1, I1, r1, q1⟩ => tru_ok pins s1 σ H1 x v Q I1 r1 q1) (he _)

theorem op_add_str : OpR X (binaryOp .Add) (fun x y H Q => ∃ i j, x = .str i ∧ y = .str j ∧ i.length + j.length ≤ sizeLine ∧ Q (.str (i ++ j)) H) := by
  intro pins s σ H x y v u Q I rx ry h
  obtain ⟨i, j, rfl, rfl, hz, q⟩ := h
  obtain ⟨t, rfl⟩ := rx
  obtain ⟨t', rfl⟩ := ry
  exact add_str (fun t' tk => ⟨.str (i ++ j), H, I.tok _, ⟨_, rfl⟩, q⟩) hz
theorem vals1 {x : V} {us : List Value} (r : Vals [x] us) : ∃ u, us = [u] ∧ RelV x u := by
  cases r with
  | cons r1 r2 => cases r2; exact ⟨_, rfl, r1⟩
theorem vals2 {x y : V} {us : List Value} (r : Vals [x, y] us) : ∃ u w', us = [u, w'] ∧ RelV x u ∧ RelV y w' := by
  cases r with
  | cons r1 r2 =>
    cases r2 with
    | cons r3 r4 => cases r4; exact ⟨_, _, rfl, r1, r3⟩
theorem call_max2 (hc : X.calm = true) : CallR X (.builtin "max") (fun xs H Q => ∃ i j, xs = [.int i, .int j] ∧ Q (.int (if j > i then j else i)) H) := by
  intro pins s σ H xs us Q I r h
  obtain ⟨i, j, rfl, q⟩ := h
  obtain ⟨u, w', rfl, ⟨t, rfl⟩, ⟨t', rfl⟩⟩ := vals2 r
  refine max_two_ints (I.ok.hd hc) fun h' tk k => ⟨_, H, I.kept k, ?_, q⟩
  by_cases hj : j > i
  · rw [if_pos hj, if_pos hj]; exact ⟨_, rfl⟩
  · rw [if_neg hj, if_neg hj]; exact ⟨_, rfl⟩
theorem call_int1 : CallR X (.type "int") (fun xs H Q => (∃ i, xs = [.int i] ∧ Q (.int i) H) ∨ ∃ k, xs = [.bl k] ∧ Q (.int (if k then 1 else 0)) H) := by
  intro pins s σ H xs us Q I r h
  rcases h with ⟨i, rfl, q⟩ | ⟨k, rfl, q⟩
  · obtain ⟨u, rfl, t, rfl⟩ := vals1 r
    exact call_int_int ⟨.int i, H, I, ⟨_, rfl⟩, q⟩
  · obtain ⟨u, rfl, r1⟩ := vals1 r
    cases r1
    exact call_int_bool ⟨.int (if k then 1 else 0), H, I.tok _, ⟨_, rfl⟩, q⟩
/-- len of a str, a bytes, a list, a tuple -/
def LenV (K : PySem.W.Frag) (x : V) (H : Hp) (n : Nat) : Prop :=
  match x with
  | .str y => y.length ≤ sizeLine ∧ n = y.length
  | .byt y => y.size ≤ sizeLine ∧ n = y.size
  | .ref p => (∃ xs, SqL K H p xs ∧ n = xs.length) ∨ ∃ xs, SqT K H p xs ∧ n = xs.length
  | _ => False
theorem call_len : CallR X (.builtin "len") (fun xs H Q => ∃ x n, xs = [x] ∧ LenV X.K x H n ∧ Q (.int n) H) := by
  intro pins s σ H xs us Q I r h
  obtain ⟨x, n, rfl, e, q⟩ := h
  obtain ⟨u, rfl, rx⟩ := vals1 r
  have hl := line63
  have hs : sizeLine = 16777216 := sizeLine_eq
  cases x with
  | str y =>
    obtain ⟨t, rfl⟩ := rx
    obtain ⟨hy, e'⟩ : y.length ≤ sizeLine ∧ n = y.length := e
    subst e'
    exact len_str (by omega) ⟨.int _, H, I.tok _, ⟨_, rfl⟩, q⟩
  | byt y =>
    obtain ⟨t, rfl⟩ := rx
    obtain ⟨hy, e'⟩ : y.size ≤ sizeLine ∧ n = y.size := e
    subst e'
    exact PySem.W.len_bytes (by omega) ⟨.int _, H, I.tok _, ⟨_, rfl⟩, q⟩
  | ref p =>
    cases rx
    have e' : (∃ xs, SqL X.K H p xs ∧ n = xs.length) ∨ ∃ xs, SqT X.K H p xs ∧ n = xs.length := e
    rcases e' with ⟨xs, hx, e'⟩ | ⟨xs, hx, e'⟩
    · subst e'
      obtain ⟨its, r', pl, hz⟩ := I.list hx
      have hlen := r'.length
      exact Calls.call_len_list pl.isList (by simp only [List.size_toArray]; omega) ⟨.int xs.length, H, I.tok _, ⟨_, by simp only [List.size_toArray]; rw [hlen]⟩, q⟩
    · subst e'
      obtain ⟨its, r', pl, hz⟩ := I.tuple hx
      have hlen := r'.length
      exact len_tuple pl (by simp only [List.size_toArray]; omega) ⟨.int xs.length, H, I.tok _, ⟨_, by simp only [List.size_toArray]; rw [hlen]⟩, q⟩
  | _ => exact (show False from e).elim
end
end L2

namespace L2
open PySem PySem.Spec PyProof.Rows

structure ObjM (h : Heap) (x dx C : Addr) (mA : Str → Option Value) : Prop where
  obj : h.get? x = some (PySem.W.instObj C dx)
  ns : h.Ns1 dx mA
  ne : dx ≠ x

theorem lookIn_ns {h : Heap} {dx : Addr} {mA : Str → Option Value} (n : h.Ns1 dx mA) : ∃ od, h.get? dx = some od ∧ ∀ name, PySem.W.lookIn name od = some (mA name) := by
  obtain ⟨o, es, ep, ho, hd, hk, _, hm⟩ := n
  refine ⟨o, ho, fun name => ?_⟩
  have e := hm name
  unfold nsFind findBy at e
  rw [← Array.find?_toList] at e
  unfold PySem.W.lookIn
  rw [hd]
  dsimp only
  split
  · rename_i y q
    rw [q] at e
    exact congrArg some e
  · rename_i q
    rw [q] at e
    have a : es.toList.any (·.refKey) = false := by
      rw [List.any_eq_false]
      intro y hy
      obtain ⟨z, t, hkey⟩ := hk y (Array.mem_toList_iff.mp hy)
      simp [DictEntry.refKey, hkey]
    have a' : ¬ es.toList.any (·.refKey) = true := by rw [a]; exact Bool.false_ne_true
    rw [if_neg a']
    exact congrArg some e

theorem ObjM.look {h : Heap} {x dx C : Addr} {mA : Str → Option Value} (I : ObjM h x dx C mA) : ∃ od, PySem.W.InstAt h x (PySem.W.instObj C dx) C (some od) ∧ ∀ name, PySem.W.lookIn name od = some (mA name) :=
  let ⟨od, ho, hl⟩ := lookIn_ns I.ns
  ⟨od, ⟨I.obj, rfl, rfl, ho⟩, hl⟩

section
variable {prog : Program} {w : World} {A : Around} {E : Value → Shared → Prop} {s : Shared} {K : PySem.W.Frag} {x dx C f : Addr} {mA : Str → Option Value} {name : Str} {v : Value}

end

theorem RelO.some_of {v : V} {o : Option Value} (r : RelO (some v) o) : ∃ u, o = some u ∧ RelV v u := by
  cases o with
  | none => exact (show False from r).elim
  | some u => exact ⟨u, rfl, r⟩
theorem handed_of {v : V} {u : Value} (r : RelV v u) : PySem.W.handedIn u = true := by
  cases v with
  | non => cases (show u = Value.none from r); rfl
  | bl b => cases (show u = Value.bool b from r); rfl
  | int i => obtain ⟨t, e⟩ := (show ∃ t, u = Value.int i t from r); cases e; rfl
  | str x => obtain ⟨t, e⟩ := (show ∃ t, u = Value.str x t from r); cases e; rfl
  | byt b => obtain ⟨t, e⟩ := (show ∃ t, u = Value.bytes b t from r); cases e; rfl
  | flt b => obtain ⟨t, e⟩ := (show ∃ t, u = Value.float b t from r); cases e; rfl
  | ref a => cases (show u = Value.ref a from r); rfl
  | ty n => cases (show u = Value.type n from r); rfl

section
variable {P : Program} {w : World} {H H' : Hp} {h h' : Heap} {a C dx : Addr} {fs fs' : List (Str × V)}
theorem ins_get (hok : HOk P w H h) (e : H a = some (.ins C dx fs)) : ∃ mA, ObjM h a dx C mA ∧ (∀ f, RelO (fs.lookup f) (mA f)) ∧ PySem.Within mA (fs.map (·.1)) ∧ fs.length ≤ 1000 ∧ H dx = some (.own a) := by
  obtain ⟨d, z, ne, ob, mA, n, r, q⟩ := (show ObjOk P w H h a (.ins C dx fs) from hok a _ e)
  exact ⟨mA, ⟨ob, n, ne⟩, r, q, z, d⟩
end

structure Cls (K : PySem.W.Frag) (C : Addr) : Prop where
  pg : PySem.W.plainGet K C Str.empty = true
  hd : PySem.W.hasDictIn K C = true
  po : PySem.W.plainOver K C = true
  sa : PySem.W.findIn K (.ref C) "__setattr__" = some (some (.builtin "object.__setattr__"))
theorem Cls.get {K : PySem.W.Frag} {C : Addr} (c : Cls K C) (f : Str) : PySem.W.plainGet K C f = true := c.pg
/-- a constant of the class -/
structure Con (K : PySem.W.Frag) (C : Addr) (f : Str) (v : V) (u : Value) : Prop where
  at_ : PySem.W.findIn K (.ref C) f = some (some u)
  rel : RelV v u
  get : PySem.W.specialIn K u "__get__" = some none
  cp : PySem.W.copiedNames.contains f = false
/-- a method: a plain def of the class or of one above it -/
structure Meth (K : PySem.W.Frag) (C : Addr) (m : Str) (f : Addr) : Prop where
  at_ : PySem.W.findIn K (.ref C) m = some (some (.ref f))
  fn : PySem.W.isFn K (.ref f) = true
  kp : PySem.W.keepIn K (.ref f) = true

section
variable {X : Cx} {pins : List (Addr × Obj)} {σ : St} {H : Hp} {s : Shared} {a C dx : Addr} {fs : List (Str × V)} {f : Str} {v : V} {A : Around} {E : Value → Shared → Prop}

/-- a new instance, tracked, without attributes -/
theorem Inv.made (I : Inv X pins σ H s) : Inv X pins σ (upd (upd H s.heap.objs.size (.own (s.heap.objs.size + 1))) (s.heap.objs.size + 1) (.ins C s.heap.objs.size []))
    { s with heap := (s.heap.push PySem.W.emptyDict).push (PySem.W.instObj C s.heap.objs.size) } := by
  have e1 : (s.heap.push PySem.W.emptyDict).get? s.heap.objs.size = some PySem.W.emptyDict := Heap.get?_push_size s.heap rfl
  have e2 : ((s.heap.push PySem.W.emptyDict).push (PySem.W.instObj C s.heap.objs.size)).get? (s.heap.objs.size + 1) = some (PySem.W.instObj C s.heap.objs.size) := by
    have := Heap.get?_push_size (s.heap.push PySem.W.emptyDict) (o := PySem.W.instObj C s.heap.objs.size) rfl
    rwa [Heap.size_push] at this
  have e3 : (s.heap.push PySem.W.emptyDict).Ns s.heap.objs.size (fun _ => none) := ⟨PySem.W.emptyDict, #[], _, e1, rfl, (fun e he => absurd he (by simp)), fun _ => rfl⟩
  have I1 := I.laid (a := s.heap.objs.size) (o := .own (s.heap.objs.size + 1)) (h' := s.heap.push PySem.W.emptyDict) (t' := s.toks) (fun b u q => Heap.get?_push_of_some _ q) (Nat.le_refl _) ⟨_, e1⟩
  refine I1.laid (a := s.heap.objs.size + 1) (o := .ins C s.heap.objs.size []) (t' := s.toks) (fun b u q => Heap.get?_push_of_some _ q) (Nat.le_of_eq (Heap.size_push _ _)) ?_
  have ne : s.heap.objs.size ≠ s.heap.objs.size + 1 := Nat.ne_of_lt (Nat.lt_succ_self _)
  refine ⟨by rw [upd_ne ne, upd_same], Nat.zero_le _, ne, e2, fun _ => none, (Heap.Ns1.of_empty e3).at fun o q => Heap.get?_push_of_some _ q, fun _ => True.intro, fun y hy => absurd rfl hy⟩

/-- e.f where nothing but the object is asked: through attributeBase (super) and the last hold -/
theorem attr_of {prog : Program} {w : World} {env : Env} {e : Expr} {f : Str} {pos : Pos} {s : Shared} {Q : Value → Shared → Prop} (hb : attributeBase e f env (eval e env) = eval e env)
    (h : wpAny (model prog w) A (eval e env) (fun o s₁ => wpAny (model prog w) A (getAttr o f true) Q E s₁) E s) : wpAny (model prog w) A (eval (.Attribute e f pos) env) Q E s :=
  Attribute_any_ h (by rw [arm_eval_Attribute, hb])
end

section
variable {X : Cx} {o e value : Expr} {f : Str} {pos pos' tpos : Pos} {ta tv : TE}
end

section
variable {X : Cx} {pins : List (Addr × Obj)} {σ : St} {H : Hp} {s : Shared} {A : Around} {E : Value → Shared → Prop} {Q : Value → Shared → Prop} {c : Value} {b : Bool}
/-- the type of a value, as the fragment's deciders take it; for an instance its class -/
inductive TyOf (K : PySem.W.Frag) (H : Hp) : V → Value → Prop where
  | non : TyOf K H .non (.type "NoneType")
  | bl (x : Bool) : TyOf K H (.bl x) (.type "bool")
  | int (i : Int) : TyOf K H (.int i) (.type "int")
  | str (x : Str) : TyOf K H (.str x) (.type "str")
  | flt (x : UInt64) : TyOf K H (.flt x) (.type "float")
  | lst {a : Addr} {xs : List V} (e : H a = some (.lst xs)) : TyOf K H (.ref a) (.type "list")
  | frz {a : Addr} {o : Obj} {xs : List V} (e : H a = some (.frz o (.lst xs))) : TyOf K H (.ref a) (.type "list")
  | tup {a : Addr} {xs : List V} (e : H a = some (.tup xs)) : TyOf K H (.ref a) (.type "tuple")
  | dK {a : Addr} {kvs : List (Key × V)} (e : H a = some (.dK kvs)) : TyOf K H (.ref a) (.type "dict")
  | dT {a : Addr} {kvs : List (List Key × V)} (e : H a = some (.dT kvs)) : TyOf K H (.ref a) (.type "dict")
  | ins {a C dx : Addr} {fs : List (Str × V)} (e : H a = some (.ins C dx fs)) (cl : Cls K C) (ha : PySem.W.findIn K (.ref C) "__class__" = some (some (.builtin "object.__class__")))
      (hn : PySem.W.specialIn K (.builtin "object.__class__") "__get__" = some (some (.builtin "getset_descriptor.__get__"))) (htk : PySem.W.takesIn K (.builtin "object.__class__") = some true)
      (hm : PySem.W.mroIn K C (.type "object") = some true) : TyOf K H (.ref a) (.ref C)
/-- isinstance(x, c) for one class c, a built-in or an own one: kitOne's answer -/
theorem isinst_ok {x : V} {u t : Value} (I : Inv X pins σ H s) (rx : RelV x u) (ty : TyOf X.K H x t) (e : PySem.W.kitOne X.K t c = some b) (h : ∀ tk, Q (.bool b) { s with toks := tk }) :
    wpAny (model X.prog X.w) A (call (.builtin "isinstance") [u, c]) Q E s := by
  cases ty with
  | non => cases (show u = Value.none from rx); exact PySem.W.kia_one PySem.W.kitx_none I.kIn True.intro e (fun z => nomatch z) h
  | bl y => cases (show u = Value.bool y from rx); exact PySem.W.kia_one PySem.W.kitx_bool I.kIn True.intro e (fun z => nomatch z) h
  | int i => obtain ⟨t, q⟩ := (show ∃ t, u = Value.int i t from rx); cases q; exact PySem.W.kia_one PySem.W.kitx_int I.kIn True.intro e (fun z => nomatch z) h
  | str y => obtain ⟨t, q⟩ := (show ∃ t, u = Value.str y t from rx); cases q; exact PySem.W.kia_one PySem.W.kitx_str I.kIn True.intro e (fun z => nomatch z) h
  | flt y => obtain ⟨t, q⟩ := (show ∃ t, u = Value.float y t from rx); cases q; exact PySem.W.kia_one PySem.W.kitx_float I.kIn True.intro e (fun z => nomatch z) h
  | @lst a xs ea =>
    cases (show u = Value.ref a from rx)
    obtain ⟨_, _, n, _, h1⟩ := (show ObjOk X.prog X.w H s.heap a (.lst xs) from I.hok a _ ea)
    exact PySem.W.kia_one PySem.W.kitx_list I.kIn ⟨_, h1, rfl⟩ e (fun z => nomatch z) h
  | @frz a ob xs ea =>
    cases (show u = Value.ref a from rx)
    obtain ⟨_, _, _, n, _, h1⟩ := (show ObjOk X.prog X.w H s.heap a (.frz ob (.lst xs)) from I.hok a _ ea)
    exact PySem.W.kia_one PySem.W.kitx_list I.kIn ⟨_, h1, rfl⟩ e (fun z => nomatch z) h
  | @tup a xs ea =>
    cases (show u = Value.ref a from rx)
    obtain ⟨_, _, _, p⟩ := (show ObjOk X.prog X.w H s.heap a (.tup xs) from I.hok a _ ea)
    obtain ⟨o, h1, h2, _⟩ := p
    exact PySem.W.kia_one PySem.W.kitx_tuple I.kIn ⟨o, h1, h2⟩ e (fun z => nomatch z) h
  | @dK a kvs ea =>
    cases (show u = Value.ref a from rx)
    obtain ⟨_, _, vs, _, p⟩ := (show ObjOk X.prog X.w H s.heap a (.dK kvs) from I.hok a _ ea)
    obtain ⟨o, es, ep, h1, h2, _⟩ := p
    exact PySem.W.kia_one PySem.W.kitx_dict I.kIn ⟨o, h1, h2.1⟩ e (fun z => nomatch z) h
  | @dT a kvs ea =>
    cases (show u = Value.ref a from rx)
    obtain ⟨_, _, xs, _, o, es, ep, h1, h2, _⟩ := (show ObjOk X.prog X.w H s.heap a (.dT kvs) from I.hok a _ ea)
    exact PySem.W.kia_one PySem.W.kitx_dict I.kIn ⟨o, h1, h2.1⟩ e (fun z => nomatch z) h
  | @ins a C dx fs ea cl ha hn htk hm =>
    cases (show u = Value.ref a from rx)
    obtain ⟨mA, O, _⟩ := ins_get I.hok ea
    obtain ⟨od, J, _⟩ := O.look
    exact PySem.W.kia_one (PySem.W.kitx_own (cl.get _) cl.hd ha hn htk hm) I.kIn J e (fun z => nomatch z) h
end
end L2

namespace L2
open PySem PySem.Spec PyProof.Rows

structure Room (k : Nat) (A : Around) : Prop where
  hd : A.handled = none
  dp : A.depth + 3 * k + 5 < recursionLimit
  un : A.units + 16 * k + 200 < cLine
theorem Room.mono {j k : Nat} {A : Around} (r : Room k A) (h : j ≤ k) : Room j A := ⟨r.hd, by have := r.dp; omega, by have := r.un; omega⟩
theorem Room.deeper {k : Nat} {A : Around} (r : Room (k + 1) A) (env : Env) : Room k (A.deeper env) :=
  ⟨r.hd, by have := r.dp; show A.depth + 1 + 3 * k + 5 < _; omega, by have := r.un; show A.units + 3 + 16 * k + 200 < _; omega⟩
theorem Room.in1 {k : Nat} {A : Around} (r : Room (k + 1) A) : Room k A.in1 :=
  ⟨r.hd, by have := r.dp; show A.depth + 3 * k + 5 < _; omega, by have := r.un; show A.units + 1 + 16 * k + 200 < _; omega⟩
theorem make_depth {A : Around} {C : Addr} {us : List Value} {kw : List (Str × Value)} : (A.under (.builtin "type.__call__" ⟨.ref C :: us, kw⟩)).depth = A.depth + 1 := by
  first | rfl | simp [Around.under, Code.weight, Code.isCreation, Code.isGuard, Code.isCaller, Code.frames, Code.isFrame, guardIds]
theorem make_units {A : Around} {C : Addr} {us : List Value} {kw : List (Str × Value)} : (A.under (.builtin "type.__call__" ⟨.ref C :: us, kw⟩)).units = A.units + 1 := by
  first | rfl | simp [Around.under, Code.cUnits, Code.frames, Code.isFrame]
theorem Room.make {k : Nat} {A : Around} (r : Room (k + 1) A) (C : Addr) (us : List Value) (kw : List (Str × Value)) : Room k (A.under (.builtin "type.__call__" ⟨.ref C :: us, kw⟩)) :=
  ⟨r.hd, by have := r.dp; rw [make_depth]; omega, by have := r.un; rw [make_units]; omega⟩
theorem Room.depth {k : Nat} {A : Around} (r : Room k A) : A.depth < recursionLimit := by have := r.dp; omega
theorem Room.units {k : Nat} {A : Around} (r : Room k A) : A.units + 64 < cLine := by have := r.un; omega
def tNil : TA := fun _ H Q => Q [] H
def tCons (ta : TE) (tr : TA) : TA := fun σ H Q => ta σ H fun x H1 => tr σ H1 fun xs H2 => Q (x :: xs) H2
section
variable {X : Cx} {e : Expr} {es : List Expr} {te : TE} {t : TA} {pos : Pos}
theorem pa_nil : PA X [] tNil := fun _ _ _ _ H Q I h => Calls.spliced_nil ⟨[], H, I, .nil, h⟩
theorem pa_cons (ha : PE X e te) (hr : PA X es t) (hs : starEach (e :: es) X.env = (false, eval e X.env) :: starEach es X.env := by rfl) : PA X (e :: es) (tCons te t) := by
  intro pos pins s σ H Q I h
  rw [hs]
  show wpAny _ _ (spliced ((false, eval e X.env) :: backTo pos (starEach es X.env))) _ _ s
  refine Calls.spliced_cons (thn (ha pins s σ H _ I h) fun u s1 ⟨x, H1, I1, r1, q1⟩ => ?_)
  exact thn (hr pos pins s1 σ H1 _ I1 q1) fun us s2 ⟨xs, H2, I2, r2, q2⟩ => ⟨x :: xs, H2, I2, .cons r1 r2, q2⟩

/-- a tuple, a list of written items -/
def tTup (t : TA) : TE := fun σ H Q => t σ H fun xs H1 => xs.length ≤ sizeLine ∧ ∀ p, H1 p = none → Q (.ref p) (upd H1 p (.tup xs))
def tLst (t : TA) : TE := fun σ H Q => t σ H fun xs H1 => xs.length ≤ sizeLine ∧ ∀ p, H1 p = none → Q (.ref p) (upd H1 p (.lst xs))
theorem pe_tup {x1} (h : PA X es t) : PE X (.Tuple es x1 pos) (tTup t) := by
  intro pins s σ H Q I hq
  refine wpAny_Tuple_spliced (thn (h pos pins s σ H _ I hq) fun us s1 ⟨xs, H1, I1, r, z, q⟩ => ⟨by rw [← r.length]; exact z, ?_⟩)
  have hf : H1 s1.heap.objs.size = none := I1.hok.fresh (Nat.le_refl _)
  refine ⟨.ref s1.heap.objs.size, upd H1 s1.heap.objs.size (.tup xs), I1.laid (t' := s1.toks) (fun b u e => Heap.get?_push_of_some _ e) (Nat.le_refl _) ?_, rfl, q _ hf⟩
  exact ⟨z, us, r, ⟨_, Heap.get?_push_size _ rfl, rfl, _, rfl⟩⟩
theorem pe_lst (h : PA X es t) : PE X (.List es pos) (tLst t) := by
  intro pins s σ H Q I hq
  refine wpAny_List_spliced (thn (h pos pins s σ H _ I hq) fun us s1 ⟨xs, H1, I1, r, z, q⟩ => ⟨by rw [← r.length]; exact z, ?_⟩)
  have hf : H1 s1.heap.objs.size = none := I1.hok.fresh (Nat.le_refl _)
  refine ⟨.ref s1.heap.objs.size, upd H1 s1.heap.objs.size (.lst xs), I1.laid (t' := s1.toks) (fun b u e => Heap.get?_push_of_some _ e) (Nat.le_refl _) ?_, rfl, q _ hf⟩
  exact ⟨z, us, 0, r, Heap.get?_push_size _ rfl⟩
end

/-- a def's promise: the bound arguments in the parameters' order, the heap, the wanted end, the wanted exception -/
abbrev Sp := List V → Hp → VK → XK → Prop
/-- how an exception lies behind a call (file 08 gives it): the callers' frames, abstract heap and state ahead of the call, the wish, the exception, the state -/
abbrev CXT := List Env → Hp → Shared → XK → Value → Shared → Prop

/-- the state at a call -/
structure Env0 (P : Program) (w : World) (K : PySem.W.Frag) (mg : Str → Option Value) (base : Heap) (A : Around) (outer : List Env) (s : Shared) (H : Hp) : Prop where
  frames : A.frames = some outer
  mod : Mod K mg base
  bs : ∀ b o, base.get? b = some o → s.heap.get? b = some o ∧ H b = none
  bsz : base.objs.size ≤ s.heap.objs.size
  funs : s.heap.FunFrames base outer
  frf : ∀ b ∈ frs outer, H b = none
  hok : HOk P w H s.heap
  bare : AllBare s.gens
/-- a call's end -/
def CE (outer : List Env) (P : Program) (w : World) (H : Hp) (s : Shared) (Q : VK) (u : Value) (s' : Shared) : Prop :=
  ∃ v H', s'.os = s.os ∧ AllBare s'.gens ∧ Un (frs outer) [] H H' s.heap s'.heap ∧ HOk P w H' s'.heap ∧ RelV v u ∧ Q v H'
def CR (CX : CXT) (outer : List Env) (P : Program) (w : World) (H : Hp) (s : Shared) (Q : VK) (E : XK) (r : Result) (s' : Shared) : Prop :=
  match r with
  | .ok (.ret u) => CE outer P w H s Q u s'
  | .ok _ => False
  | .error e => CX outer H s E e s'
structure FnOk (P : Program) (w : World) (K : PySem.W.Frag) (mg : Str → Option Value) (base : Heap) (CX : CXT) (k : Nat) (f : Addr) (fd : FuncData) (ps : List Str) (sp : Sp) : Prop where
  len : ∀ vs H Q E, sp vs H Q E → vs.length = ps.length
  run : ∀ (A : Around) (outer : List Env) (s : Shared) (H : Hp) (args : Args) (us : List Value) (vs : List V) (Q : VK) (E : XK), Room k A → Env0 P w K mg base A outer s H → BindsTo s fd args (ps.zip us) → Vals vs us → sp vs H Q E →
    codeAny (model P w) A (.call (.ref f) args) (CR CX outer P w H s Q E) s
theorem FnOk.mono {P : Program} {w : World} {K : PySem.W.Frag} {mg : Str → Option Value} {base : Heap} {CX : CXT} {j k : Nat} {f : Addr} {fd : FuncData} {ps : List Str} {sp : Sp} (F : FnOk P w K mg base CX j f fd ps sp) (h : j ≤ k) :
    FnOk P w K mg base CX k f fd ps sp := ⟨F.len, fun A outer s H args us vs Q E hr => F.run A outer s H args us vs Q E (hr.mono h)⟩
/-- a weaker promise -/
theorem FnOk.imp {P : Program} {w : World} {K : PySem.W.Frag} {mg : Str → Option Value} {base : Heap} {CX : CXT} {k : Nat} {f : Addr} {fd : FuncData} {ps : List Str} {sp sp' : Sp} (F : FnOk P w K mg base CX k f fd ps sp)
    (h : ∀ vs H Q E, sp' vs H Q E → sp vs H Q E) : FnOk P w K mg base CX k f fd ps sp' :=
  ⟨fun vs H Q E q => F.len vs H Q E (h _ _ _ _ q), fun A outer s H args us vs Q E hr he hb hv hs => F.run A outer s H args us vs Q E hr he hb hv (h _ _ _ _ hs)⟩

theorem Env0.make {P : Program} {w : World} {K : PySem.W.Frag} {mg : Str → Option Value} {base : Heap} {A : Around} {outer : List Env} {s : Shared} {H : Hp} (e : Env0 P w K mg base A outer s H) (C : Addr) (us : List Value) (kw : List (Str × Value)) :
    Env0 P w K mg base (A.under (.builtin "type.__call__" ⟨.ref C :: us, kw⟩)) outer s H := ⟨by first | exact e.frames | (simpa [Around.under, Code.envs, Code.isFrame, pushEnvs] using e.frames), e.mod, e.bs, e.bsz, e.funs, e.frf, e.hok, e.bare⟩
theorem Env0.in1 {P : Program} {w : World} {K : PySem.W.Frag} {mg : Str → Option Value} {base : Heap} {A : Around} {outer : List Env} {s : Shared} {H : Hp} (e : Env0 P w K mg base A outer s H) :
    Env0 P w K mg base A.in1 outer s H := ⟨e.frames, e.mod, e.bs, e.bsz, e.funs, e.frf, e.hok, e.bare⟩

section
variable {X : Cx} {pins : List (Addr × Obj)} {σ : St} {H : Hp} {s s' : Shared}
/-- from a body: what a callee wants -/
theorem Inv.env0 (I : Inv X pins σ H s) : Env0 X.prog X.w X.K X.mg X.base X.A X.stack s H :=
  ⟨I.ok.frames, I.ok.mod, I.bs, Nat.le_trans I.ok.bsz I.sz, I.stack, I.stkFree, I.hok, I.bare⟩
/-- behind a call -/
theorem Inv.after {Q : VK} {u : Value} (I : Inv X pins σ H s) (h : CE X.stack X.prog X.w H s Q u s') : EP X pins σ Q u s' := by
  obtain ⟨v, H', os, bare, un, hok, r, q⟩ := h
  obtain ⟨hh, g, d, t, os'⟩ := s'
  obtain rfl : os' = s.os := os
  exact ⟨v, H', I.call (h' := hh) (g' := g) (d' := d) (t' := t) (ch := []) un hok bare (fun b z => absurd z (by simp)), r, q⟩
end

/-- f(..): the written arguments, then the defaults dvs; E: what is wanted of an exception -/
def tCall (sp : Sp) (dvs : List V) (E : XK) (t : TA) : TE := fun σ H Q => t σ H fun vs H1 => sp (vs ++ dvs) H1 Q E
/-- how the parameters are bound: us the positional arguments, kw the keywords' values by name, ds the defaults that fill up -/
def Binds (K : PySem.W.Frag) (fd : FuncData) (ps : List Str) (ds : List Value) : Prop :=
  ∀ (s : Shared) (us : List Value), K.In s.heap → (us ++ ds).length = ps.length → BindsTo s fd ⟨us, []⟩ (ps.zip (us ++ ds))
/-- every parameter is given -/
theorem Binds.all {K : PySem.W.Frag} {fd : FuncData} {ps : List Str} (h : ∀ us : List Value, us.length = ps.length → bindArgs fd ⟨us, []⟩ = pure (ps.zip us)) : Binds K fd ps [] := fun s us _ hl => by
  rw [List.append_nil] at hl ⊢
  exact .of_eq (h us hl)

/-- an exception of a callee reaches what this body wants of exceptions -/
def Passes (CX : CXT) (X : Cx) (E : XK) : Prop := ∀ (pins : List (Addr × Obj)) (σ : St) (H : Hp) (s : Shared) (e : Value) (s' : Shared), Inv X pins σ H s → CX X.stack H s E e s' → X.xe e s'

section
variable {X : Cx} {CX : CXT} {k : Nat} {f C : Addr} {fd : FuncData} {ps : List Str} {sp : Sp} {dvs : List V} {ds : List Value} {E : XK} {x m : Str} {p pos apos : Pos} {e o : Expr} {es : List Expr} {ta : TE} {t : TA}

/-- the callee runs -/
theorem run_fn {pins : List (Addr × Obj)} {σ : St} {H : Hp} {s : Shared} {Q : VK} {us : List Value} {vs : List V} (F : FnOk X.prog X.w X.K X.mg X.base CX k f fd ps sp) (hr : Room k X.A) (hb : Binds X.K fd ps ds) (hd : Vals dvs ds) (hx : Passes CX X E)
    (I : Inv X pins σ H s) (r : Vals vs us) (h : sp (vs ++ dvs) H Q E) : wpAny (model X.prog X.w) X.A (call (.ref f) us) (EP X pins σ Q) X.xe s := by
  have r2 : Vals (vs ++ dvs) (us ++ ds) := r.append hd
  have hl : (us ++ ds).length = ps.length := by rw [← r2.length]; exact F.len _ _ _ _ h
  refine wpAny_call (codeAny_mono (F.run X.A X.stack s H ⟨us, []⟩ (us ++ ds) (vs ++ dvs) Q E hr I.env0 (hb s us I.kIn hl) r2 h) fun r s' hq => ?_)
  cases r with
  | error e => exact hx pins σ H s e s' I hq
  | ok fl =>
    cases fl with
    | ret u => exact I.after hq
    | next => exact False.elim hq
    | brk => exact False.elim hq
    | cont => exact False.elim hq

theorem pe_call (F : FnOk X.prog X.w X.K X.mg X.base CX k f fd ps sp) (hr : Room k X.A) (hg : Gl X x) (hm : X.mg x = some (.ref f)) (hk : PySem.W.keepIn X.K (.ref f) = true) (hb : Binds X.K fd ps ds) (hd : Vals dvs ds) (hx : Passes CX X E)
    (ha : PA X (e :: es) t) (hdb : (x == ("__debug__" : Str)) = false := by decide) (he : starEach (e :: es) X.env = (false, eval e X.env) :: starEach es X.env := by rfl) (hpl : (backTo pos (starEach es X.env)).any (·.1) = false := by rfl) :
    PE X (.Call (.Name x p) (e :: es) [] pos) (tCall sp dvs E t) := by
  intro pins s σ H Q I h
  refine wpAny_Call_Name_kw (ld_glob I hg hm ?_ hdb)
  refine PySem.W.callWith_K (h₀ := X.base) I.ok.mod.kin hk (thn (ha pos pins s σ H _ I h) fun us s1 ⟨vs, H1, I1, r, q⟩ => ⟨I1.kIn, ?_⟩) he hpl
  exact run_fn F hr hb hd hx I1 r q
/-- what a class must have to be made -/
structure Mk (K : PySem.W.Frag) (C f : Addr) : Prop where
  makes : PySem.W.makesIn K C = true
  init : PySem.W.findIn K (.ref C) "__init__" = some (some (.ref f))
  fn : PySem.W.isFn K (.ref f) = true
  kp : PySem.W.keepIn K (.ref C) = true

end

section
variable {X : Cx} {CX : CXT} {k : Nat} {f C : Addr} {fd : FuncData} {ps ks : List Str} {sp : Sp} {E : XK} {x m : Str} {p pos apos kpos : Pos} {e o : Expr} {es : List Expr} {kws : List Keyword} {te ta : TE} {t tk : TA} {nm : Option Str}
/-- how a call with keywords binds: g puts the positional values us and the keywords' values ws (names ks) in the parameters' order, defaults among them -/
structure KBinds (K : PySem.W.Frag) (fd : FuncData) (ps ks : List Str) (g : List Value → List Value → List Value) (gV : List V → List V → List V) : Prop where
  to : ∀ (s : Shared) (us ws : List Value), K.In s.heap → (g us ws).length = ps.length → BindsTo s fd ⟨us, ks.zip ws⟩ (ps.zip (g us ws))
  rel : ∀ {vs : List V} {us : List Value} {zs : List V} {ws : List Value}, Vals vs us → Vals zs ws → Vals (gV vs zs) (g us ws)
variable {g : List Value → List Value → List Value} {gV : List V → List V → List V}
end

/-- names: the parameters first -/
structure FnScope (N P : List Str) (sc : Scope) : Prop where
  kind : sc.kind = .function
  co : sc.isCoroutine = false
  gen : sc.isGenerator = false
  nd : N.Nodup
  pre : N.take P.length = P
  par : ∀ x ∈ P, sc.names.lookup x = some .local ∨ sc.names.lookup x = some .cell
  nofree : ∀ y ∈ sc.names, y.2 ≠ .free

theorem bindL_out {kindOf : Str → Option NameKind} {x : Str} : ∀ {binds : List (Str × Value)} {m : Str → Option Value}, (∀ v, (x, v) ∉ binds) → bindL kindOf binds m x = m x
  | [], _, _ => rfl
  | (n, v) :: r, m, h => by
    unfold bindL
    rw [bindL_out fun w hw => h w (List.mem_cons_of_mem _ hw)]
    split
    · have : x ≠ n := by rintro rfl; exact h v List.mem_cons_self
      simp [this]
    · rfl
theorem bindC_out {kindOf : Str → Option NameKind} {x : Str} : ∀ {binds : List (Str × Value)} {m : Str → Option Value}, (∀ v, (x, v) ∉ binds) → bindC kindOf binds m x = m x
  | [], _, _ => rfl
  | (n, v) :: r, m, h => by
    unfold bindC
    rw [bindC_out fun w hw => h w (List.mem_cons_of_mem _ hw)]
    split
    · rfl
    · have : x ≠ n := by rintro rfl; exact h v List.mem_cons_self
      simp [this]
theorem bindL_get {kindOf : Str → Option NameKind} {x : Str} {v : Value} : ∀ {P : List Str} {vs : List Value} {i : Nat} {m : Str → Option Value}, P.Nodup → P[i]? = some x → vs[i]? = some v → kindOf x = some .local →
    bindL kindOf (P.zip vs) m x = some v
  | [], _, _, _, _, h, _, _ => by simp at h
  | _ :: _, [], _, _, _, _, h, _ => by simp at h
  | p :: P, w :: vs, 0, m, nd, h1, h2, hk => by
    simp at h1 h2; subst h1; subst h2
    show bindL kindOf ((p, w) :: P.zip vs) m p = _
    unfold bindL
    rw [bindL_out fun v hv => (List.nodup_cons.mp nd).1 (List.of_mem_zip hv).1, if_pos hk]
    simp
  | p :: P, w :: vs, i + 1, m, nd, h1, h2, hk => by
    show bindL kindOf ((p, w) :: P.zip vs) m x = _
    unfold bindL
    exact bindL_get (i := i) (List.nodup_cons.mp nd).2 (by simpa using h1) (by simpa using h2) hk
theorem bindC_get {kindOf : Str → Option NameKind} {x : Str} {v : Value} : ∀ {P : List Str} {vs : List Value} {i : Nat} {m : Str → Option Value}, P.Nodup → P[i]? = some x → vs[i]? = some v → kindOf x ≠ some .local →
    bindC kindOf (P.zip vs) m x = some v
  | [], _, _, _, _, h, _, _ => by simp at h
  | _ :: _, [], _, _, _, _, h, _ => by simp at h
  | p :: P, w :: vs, 0, m, nd, h1, h2, hk => by
    simp at h1 h2; subst h1; subst h2
    show bindC kindOf ((p, w) :: P.zip vs) m p = _
    unfold bindC
    rw [bindC_out fun v hv => (List.nodup_cons.mp nd).1 (List.of_mem_zip hv).1, if_neg hk]
    simp
  | p :: P, w :: vs, i + 1, m, nd, h1, h2, hk => by
    show bindC kindOf ((p, w) :: P.zip vs) m x = _
    unfold bindC
    exact bindC_get (i := i) (List.nodup_cons.mp nd).2 (by simpa using h1) (by simpa using h2) hk

/-- the names' values at the entry -/
def start (N : List Str) (vs : List V) : St := vs.map some ++ List.replicate (N.length - vs.length) none

/-- the context of a def's body, at its entry; an exception leaves the frame, then lies as CX says -/
def cxOf (CX : CXT) (P : Program) (w : World) (K : PySem.W.Frag) (mg : Str → Option Value) (base : Heap) (N : List Str) (qual : Str) (scope : Scope) (f : Addr) (cd : Value) (A : Around) (outer : List Env) (s : Shared) (H : Hp) (E : XK) : Cx where
  prog := P
  w := w
  K := K
  mg := mg
  base := base
  A := A.deeper (envOfC qual scope s.heap.objs.size f cd)
  N := N
  s₀ := s
  H₀ := H
  env := envOfC qual scope s.heap.objs.size f cd
  outer := outer
  stack := envOfC qual scope s.heap.objs.size f cd :: outer
  ex := []
  calm := true
  fn := fun _ => true
  pn := []
  xe := fun e s' => wpAny (model P w) (A.deeper (envOfC qual scope s.heap.objs.size f cd)) (leaving (envOfC qual scope s.heap.objs.size f cd) e) (fun _ s'' => CX outer H s E e s'') (fun e' s'' => CX outer H s E e' s'') s'

theorem cell_has {sc : Scope} {n : Nat} {x : Str} (h : sc.names.lookup x = some .cell) : ∃ c, (cellsFrom n sc.names []).lookup x = some c := by
  have q := PySem.W.cellsFrom_some sc.names n [] (.inl h)
  exact Option.isSome_iff_exists.mp q

theorem inv_start {CX : CXT} {P : Program} {w : World} {K : PySem.W.Frag} {mg : Str → Option Value} {base : Heap} {N ps : List Str} {qual : Str} {scope : Scope} {f : Addr} {cd : Value} {A : Around} {outer : List Env} {s s1 : Shared} {H : Hp} {E : XK} {us : List Value} {vs : List V}
    (S : FnScope N ps scope) (hd : A.handled = none) (e0 : Env0 P w K mg base A outer s H) (hl : vs.length = ps.length) (r : Vals vs us)
    (x : InCallC s s.heap.objs.size (bindL (envOfC qual scope s.heap.objs.size f cd).kindOf (ps.zip us) fun _ => none) (cellsFrom (s.heap.objs.size + 1) scope.names []) (bindC (envOfC qual scope s.heap.objs.size f cd).kindOf (ps.zip us) fun _ => none) s1) :
    Inv (cxOf CX P w K mg base N qual scope f cd A outer s H E) [] (start N vs) H s1 := by
  have hpl : ps.length ≤ N.length := by have := congrArg List.length S.pre; rw [List.length_take] at this; omega
  obtain ⟨h1, tk, rfl, hk⟩ := x.done
  have noA : ∀ b : Addr, b ∉ (cxOf CX P w K mg base N qual scope f cd A outer s H E).ex := fun b z => absurd (show b ∈ ([] : List Addr) from z) (by simp)
  refine ⟨⟨e0.mod, S.kind, rfl, rfl, Nat.le_refl _, fun y z c h1 h2 => ?_, fun y hy => ?_, fun y c _ h => ?_, fun _ => hd, Around.frames_deeper e0.frames, .inr ⟨rfl, rfl⟩, fun b z => absurd z (noA b), e0.bs, e0.bsz, fun b _ _ => noA b, fun b z => absurd z (noA b), e0.funs, e0.frf⟩,
    rfl, e0.bare, Un.kept hk, ⟨_, x.toInCall.ns, fun i y v h1 h2 h3 => ?_⟩, fun y c h => ⟨_, x.cell y c h⟩, e0.hok.fresh (Nat.le_refl _), fun y c h => ?_, fun p hp => absurd (show p ∈ ([] : List (Addr × Obj)) from hp) (by simp), e0.hok.kept hk, ?_⟩
  · exact name_of_addr x.apart (PySem.mem_of_lookup h1) (PySem.mem_of_lookup h2)
  · have hy : scope.names.lookup y = some .cell ∨ scope.names.lookup y = some .free := hy
    rcases hy with hy | hy
    · exact cell_has hy
    · exact absurd rfl (S.nofree _ (PySem.mem_of_lookup hy))
  · exact Nat.le_of_lt (x.above y c (PySem.mem_of_lookup h))
  · have hi : i < vs.length := by
      unfold start at h2
      by_cases hi : i < vs.length
      · exact hi
      · rw [List.getElem?_append_right (by simpa using hi)] at h2
        rw [List.getElem?_replicate] at h2
        split at h2 <;> cases h2
    have ha : vs[i]? = some v := by
      unfold start at h2
      rw [List.getElem?_append_left (by simpa using hi), List.getElem?_map] at h2
      cases e : vs[i]? with
      | none => rw [e] at h2; cases h2
      | some a => rw [e] at h2; cases h2; rfl
    obtain ⟨u, hu, rv⟩ := r.get ha
    have hp : ps[i]? = some y := by
      rw [← S.pre, List.getElem?_take_of_lt (by omega)]; exact h1
    have ndP : ps.Nodup := by rw [← S.pre]; exact S.nd.sublist (List.take_sublist _ _)
    refine ⟨u, rv, ?_⟩
    rcases S.par y (List.mem_of_getElem? hp) with k | k
    · exact .inl ⟨k, bindL_get ndP hp hu k⟩
    · obtain ⟨c, e⟩ := cell_has (n := s.heap.objs.size + 1) k
      refine .inr ⟨.inl k, c, e, ?_⟩
      have q := x.cell y c e
      rw [bindC_get ndP hp hu (by show scope.names.lookup y ≠ _; rw [k]; decide)] at q
      exact q
  · exact e0.hok.fresh (Nat.le_of_lt (x.above y c (PySem.mem_of_lookup h)))
  · unfold start
    show _ = N.length
    rw [List.length_append, List.length_map, List.length_replicate]
    omega

/-- THE RULE: a def (or a method) of the text, by its body. The body's reading t is chosen for each entry; it is run at the parameters' values -/
theorem fn_of {CX : CXT} {P : Program} {w : World} {K : PySem.W.Frag} {mg : Str → Option Value} {base : Heap} {k : Nat} {f : Addr} {name qual : Str} {params : Arguments} {body : List Stmt} {scope : Scope} {dV kV doc pm cdv ct oc : Value} {an od : Option Addr}
    {osl : Array (Option Value)} {N ps : List Str} {sp : Sp} (lk : K.lookup f = some ⟨oc, od, .func (PySem.W.fnOf name qual params body scope dV kV doc pm an cdv ct), osl⟩) (hcd : PySem.W.codeIn K cdv qual = true) (S : FnScope N ps scope)
    (len : ∀ vs H Q E, sp vs H Q E → vs.length = ps.length)
    (hbody : ∀ (A : Around) (outer : List Env) (s : Shared) (H : Hp) (vs : List V) (Q : VK) (E : XK), Room k (A.deeper (envOfC qual scope s.heap.objs.size f cdv)) → sp vs H Q E →
      ∃ t, PSs (cxOf CX P w K mg base N qual scope f cdv A outer s H E) body t ∧ t { nx := fun _ H' => Q .non H', rt := Q } (start N vs) H) :
    FnOk P w K mg base CX (k + 1) f (PySem.W.fnOf name qual params body scope dV kV doc pm an cdv ct) ps sp := by
  refine ⟨len, fun A outer s H args us vs Q E hr e0 hb r hsp => ?_⟩
  have hl := len _ _ _ _ hsp
  have KX : K.In s.heap := e0.mod.kin.keeps fun b o e => (e0.bs b o e).1
  have lim : s.heap.NoLimit := e0.mod.nolimit.keeps fun b o e => (e0.bs b o e).1
  have hkind : ∀ y ∈ ps.zip us, scope.names.lookup y.1 = some .local ∨ (scope.names.lookup y.1 = some .cell ∧ ((cellsFrom (s.heap.objs.size + 1) scope.names []).lookup y.1).isSome = true) := fun ⟨n, v⟩ hy => by
    rcases S.par n (List.of_mem_zip hy).1 with q | q
    · exact .inl q
    · exact .inr ⟨q, PySem.W.cellsFrom_some _ _ _ (.inl q)⟩
  refine codeAny_call_function hr.depth (KX _ _ lk) rfl S.co S.gen rfl (PySem.W.codeRec_of KX hcd) (hb _ _ _ _ ?_)
  refine wpAny_newFunctionEnv_cells S.kind hkind fun env he s1 x => ?_
  subst he
  refine ⟨lim.keeps x.toInCall.keep, codeAny_func ?_⟩
  obtain ⟨t, ht, hq⟩ := hbody A outer s H vs Q E (hr.deeper _) hsp
  have I : Inv (cxOf CX P w K mg base N qual scope f cdv A outer s H E) [] (start N vs) H s1 := inv_start S hr.hd e0 hl r x
  refine wpAny_mono (ht [] s1 (start N vs) H _ I hq) (fun fl s' hs => ?_) fun e s' hs => hs
  have fin : ∀ {σ' : St} {H' : Hp} {v : V} {u : Value}, Inv (cxOf CX P w K mg base N qual scope f cdv A outer s H E) [] σ' H' s' → RelV v u → Q v H' → CE outer P w H s Q u s' :=
    fun {σ' H' v u} J rv q => ⟨v, H', J.os, J.bare, J.base, J.hok, rv, q⟩
  cases fl with
  | ret u =>
    obtain ⟨v, σ', H', J, rv, q⟩ := hs
    exact fin J rv q
  | next =>
    obtain ⟨σ', H', J, q⟩ := hs
    exact fin (v := V.non) (u := Value.none) J rfl q
  | brk =>
    obtain ⟨_, _, _, q⟩ := hs
    exact False.elim q
  | cont =>
    obtain ⟨_, _, _, q⟩ := hs
    exact False.elim q
end L2

namespace L2
open PySem PySem.Spec PyProof.Rows
section
variable {X : Cx} {x : Str} {p pos : Pos} {e : Expr} {es : List Expr} {t : TA} {id T : String} {r : List V → Hp → VK → Prop}

def tCB (r : List V → Hp → VK → Prop) (t : TA) : TE := fun σ H Q => t σ H fun vs H1 => r vs H1 Q
/-- f(e, ..), f a built-in function -/
theorem pe_callB (hc : CallR X (.builtin id) r) (hg : Gl X x) (hm : X.mg x = none) (hv : bootBuiltins x = some (.builtin id)) (ha : PA X (e :: es) t) (hn : x ≠ "__name__" := by decide) (hdb : (x == ("__debug__" : Str)) = false := by decide)
    (he : starEach (e :: es) X.env = (false, eval e X.env) :: starEach es X.env := by rfl) (hpl : (backTo pos (starEach es X.env)).any (·.1) = false := by rfl) : PE X (.Call (.Name x p) (e :: es) [] pos) (tCB r t) := by
  intro pins s σ H Q I h
  refine wpAny_Call_Name_kw (ld_blt I hg hm hv ?_ hn hdb)
  exact PyProof.Rows.callWith_builtin1 (thn (ha pos pins s σ H _ I h) fun us s1 ⟨vs, H1, I1, r1, q1⟩ => hc pins s1 σ H1 vs us Q I1 r1 q1) he hpl
/-- T(e, ..), T a built-in type -/
theorem pe_callTy (hc : CallR X (.type T) r) (hg : Gl X x) (hm : X.mg x = none) (hv : bootBuiltins x = some (.type T)) (ha : PA X (e :: es) t) (hn : x ≠ "__name__" := by decide) (hdb : (x == ("__debug__" : Str)) = false := by decide)
    (he : starEach (e :: es) X.env = (false, eval e X.env) :: starEach es X.env := by rfl) (hpl : (backTo pos (starEach es X.env)).any (·.1) = false := by rfl) : PE X (.Call (.Name x p) (e :: es) [] pos) (tCB r t) := by
  intro pins s σ H Q I h
  refine wpAny_Call_Name_kw (ld_blt I hg hm hv ?_ hn hdb)
  exact PyProof.Rows.callWith_type1 (thn (ha pos pins s σ H _ I h) fun us s1 ⟨vs, H1, I1, r1, q1⟩ => hc pins s1 σ H1 vs us Q I1 r1 q1) he hpl
end
end L2

namespace HT
open PySem PyProof.Rows

section
open PySem.SeqAt
open PySem.AutoSeq1 (wpAny_loadPart')
open PySem.MeetsSeq PySem.MeetsSeq2 PySem.MeetsSeq3

end

section
variable {prog : Program} {w : World} {A : Around} {E : Value → Shared → Prop} {s : Shared}

/-- a slice's bound as a place among n (d where it is left out) -/
def sIx (n d : Nat) : Option Int → Nat
  | none => d
  | some v => if v < 0 then (v + (n : Int)).toNat else min v.toNat n
theorem sIx_none (n d : Nat) : sIx n d none = d := rfl
theorem sIx_nat (n d k : Nat) : sIx n d (some (k : Int)) = min k n := by
  show (if (k : Int) < 0 then ((k : Int) + (n : Int)).toNat else min (k : Int).toNat n) = min k n
  rw [if_neg (by omega), Int.toNat_natCast]
theorem sIx_le (n d : Nat) (hd : d ≤ n) (o : Option Int) : sIx n d o ≤ n := by
  cases o with
  | none => exact hd
  | some v =>
    show (if v < 0 then (v + (n : Int)).toNat else min v.toNat n) ≤ n
    by_cases hv : v < 0
    · rw [if_pos hv]; omega
    · rw [if_neg hv]; exact Nat.min_le_right _ _
theorem clip_eq (v : Int) (n d : Nat) : (if v < 0 then max (v + (n : Int)) 0 else min v (n : Int)) = ((sIx n d (some v) : Nat) : Int) := by
  show (if v < 0 then max (v + (n : Int)) 0 else min v (n : Int)) = (((if v < 0 then (v + (n : Int)).toNat else min v.toNat n) : Nat) : Int)
  by_cases hv : v < 0
  · simp only [if_pos hv]; omega
  · simp only [if_neg hv]; omega
theorem adjust_gen (lo hi : Option Int) (n : Nat) : Builtin.Slice.sliceAdjust lo hi 1 (n : Int) = (((sIx n 0 lo : Nat) : Int), ((sIx n n hi : Nat) : Int)) := by
  have h1 : ¬ ((1 : Int) < 0) := by omega
  unfold Builtin.Slice.sliceAdjust
  simp only [h1, if_false]
  refine Prod.ext ?_ ?_
  · cases lo with
    | none => rfl
    | some v => exact clip_eq v n 0
  · cases hi with
    | none => rfl
    | some v => exact clip_eq v n n
theorem places_gen (i j : Nat) : Builtin.Slice.slicePlaces (i : Int) (j : Int) 1 = j - i := by
  unfold Builtin.Slice.slicePlaces
  have h1 : (1 : Int) > 0 := by omega
  simp only [h1, if_true, Int.ediv_one]
  split <;> omega
theorem slicePart_ {v : Value} {o : Option Int} {Q : Option Int → Shared → Prop} (p : IsPart v o) (h : Q o s) : wpAny (model prog w) A (Builtin.Slice.slicePartIndex v) Q E s := by
  cases p with
  | none => exact slicePart_none h
  | int i t => exact slicePart_int h
theorem sliceApplied_gen {sl : Addr} {vl vu : Value} {lo hi : Option Int} {n : Nat} {Q : Int × Int × Nat → Shared → Prop} (hs : s.heap.IsSliceOf sl vl vu .none) (pl : IsPart vl lo) (pu : IsPart vu hi)
    (h : Q (((sIx n 0 lo : Nat) : Int), 1, sIx n n hi - sIx n 0 lo) s) : wpAny (model prog w) A (Builtin.Slice.sliceApplied (.ref sl) (pure (n : Int))) Q E s := by
  obtain ⟨os, hos, hcs, hds⟩ := id hs
  unfold Builtin.Slice.sliceApplied Builtin.Slice.sliceFields
  refine wpAny_bind (wpAny_bind (wpAny_field hos hds (x := vl) rfl (wpAny_bind (wpAny_field hos hds (x := vu) rfl (wpAny_bind (wpAny_field hos hds (x := .none) rfl (wpAny_pure ?_)))))))
  refine wpAny_bind (slicePart_none ?_)
  show wpAny _ _ (if ((1 : Int) == 0) = true then _ else _) _ _ s
  rw [if_neg (by decide)]
  refine wpAny_bind (slicePart_ pl (wpAny_bind (slicePart_ pu (wpAny_bind (wpAny_pure ?_)))))
  show wpAny _ _ (match Builtin.Slice.sliceAdjust lo hi 1 (n : Int) with | (lo, hi) => pure (lo, (1 : Int), Builtin.Slice.slicePlaces lo hi 1)) _ _ s
  rw [adjust_gen lo hi n]
  show wpAny _ _ (pure (((sIx n 0 lo : Nat) : Int), (1 : Int), Builtin.Slice.slicePlaces ((sIx n 0 lo : Nat) : Int) ((sIx n n hi : Nat) : Int) 1)) _ _ s
  rw [places_gen]
  exact wpAny_pure h
theorem pick_gen (xs : Array Value) (i k : Nat) : ((List.range k).filterMap fun (m : Nat) => xs[((i : Int) + (m : Int) * 1).toNat]?).toArray = ((xs.toList.drop i).take k).toArray := by
  have e : (fun (m : Nat) => xs[((i : Int) + (m : Int) * 1).toNat]?) = fun m => xs[i + m]? := by
    funext m
    have : ((i : Int) + (m : Int) * 1).toNat = i + m := by omega
    rw [this]
  rw [e]
  have := pick_run xs i k
  rw [List.filterMap_map] at this
  have e2 : ((fun x => xs[x]?) ∘ fun x => i + x) = fun m => xs[i + m]? := rfl
  rw [e2] at this
  rw [this]

theorem getItem_tuple_cut {t sl : Addr} {items : Array Value} {vl vu : Value} {lo hi : Option Int} {Q : Value → Shared → Prop} (ht : IsTup s.heap t items) (hs : s.heap.IsSliceOf sl vl vu .none) (pl : IsPart vl lo) (pu : IsPart vu hi)
    (hw : ¬ (sIx items.size 0 lo = 0 ∧ sIx items.size items.size hi = items.size))
    (h : Q (.ref s.heap.objs.size) { s with heap := s.heap.push { cls := .type "tuple", data := .seq ((items.toList.drop (sIx items.size 0 lo)).take (sIx items.size items.size hi - sIx items.size 0 lo)).toArray } })
    (hsz : items.size ≤ sizeLine) : wpAny (model prog w) A (getItem (.ref t) (.ref sl)) Q E s := by
  have htake : sizeOk (.seq ((items.toList.drop (sIx items.size 0 lo)).take (sIx items.size items.size hi - sIx items.size 0 lo)).toArray) := by
    show ((items.toList.drop (sIx items.size 0 lo)).take (sIx items.size items.size hi - sIx items.size 0 lo)).toArray.size ≤ sizeLine
    rw [List.size_toArray, List.length_take, List.length_drop, Array.length_toList]
    omega
  have hj : sIx items.size items.size hi ≤ items.size := sIx_le _ _ (Nat.le_refl _) hi
  obtain ⟨os, hos, hcs, hds⟩ := id hs
  have hTs : s.TypeIs (.ref sl) "slice" := ⟨os, hos, hcs⟩
  unfold getItem
  try with_reducible refine wpAny_holding ?_
  first | refine wpAny_bind (wpAny_pure ?_) | skip
  refine wpAny_bind (wpAny_sequenceKey ht.typeIs (by decide) ?_)
  refine wpAny_bind (wpAny_callSpecial?_slot (name := Str.ofString "__getitem__") ht.typeIs PyProof.Rows.slot_tuple_getitem
    (wpAny_call_entry PyProof.Rows.slot_tuple_getitem ht.typeIs entry_tuple_getitem ?_ (args_tuple_getitem _ _)))
  show wpAny _ _ (Builtin.Tuple.tupleItemsOf (.ref t) >>= _) _ _ s
  refine wpAny_bind (tupleItemsOf_ ht ?_)
  refine wpAny_bind (wpAny_typeOf hTs ?_)
  rw [if_pos (by decide)]
  refine wpAny_bind (sliceApplied_gen hs pl pu ?_)
  have hno : ¬ ((((sIx items.size 0 lo : Nat) : Int) == 0 && (1 : Int) == 1 && (sIx items.size items.size hi - sIx items.size 0 lo) == items.size) = true) := by
    intro q
    rw [Bool.and_eq_true, Bool.and_eq_true] at q
    have q1 : ((sIx items.size 0 lo : Nat) : Int) = 0 := eq_of_beq q.1.1
    have q2 : sIx items.size items.size hi - sIx items.size 0 lo = items.size := eq_of_beq q.2
    exact hw ⟨by omega, by omega⟩
  show wpAny _ _ (if (((sIx items.size 0 lo : Nat) : Int) == 0 && (1 : Int) == 1 && (sIx items.size items.size hi - sIx items.size 0 lo) == items.size) = true then _ else _) _ _ s
  rw [if_neg hno, pick_gen]
  first
    | exact wpAny_bind (m := Builtin.Tuple.tupleExact _) (wpAny_newObj_type (wpAny_pure ⟨_, rfl, wpAny_pure h⟩) htake)
    | exact wpAny_bind (m := Builtin.Tuple.tupleExact _) (wpAny_newObj_type (wpAny_bind (wpAny_pure (wpAny_pure ⟨_, rfl, wpAny_pure h⟩))) htake)
    | exact wpAny_bind (wpAny_bind (m := Builtin.Tuple.tupleExact _) (wpAny_newObj_type (wpAny_pure (wpAny_pure ⟨_, rfl, wpAny_pure h⟩)) htake))
    | exact wpAny_bind (wpAny_bind (m := Builtin.Tuple.tupleExact _) (wpAny_newObj_type (wpAny_pure ⟨_, rfl, wpAny_pure h⟩) htake))
end
end HT

namespace L2
open PySem PySem.Spec PyProof.Rows

abbrev TO := St → Hp → (Option Int → Hp → Prop) → Prop
/-- a slice's part (left out, or an int) -/
def PO (X : Cx) (e : Option Expr) (t : TO) : Prop :=
  ∀ (pins : List (Addr × Obj)) (s : Shared) (σ : St) (H : Hp) (Q : Option Int → Hp → Prop), Inv X pins σ H s → t σ H Q →
    wpAny (model X.prog X.w) X.A (evalPart e X.env) (fun u s' => ∃ o H', Inv X pins σ H' s' ∧ IsPart u o ∧ Q o H') X.xe s
def tNoPart : TO := fun _ H Q => Q none H
def tPart (t : TE) : TO := fun σ H Q => t σ H fun x H1 => ∃ i, x = .int i ∧ Q (some i) H1

section
variable {X : Cx} {e : Expr} {te : TE} {lo hi : Option Expr} {tl th : TO} {pos p2 : Pos}

theorem po_none : PO X none tNoPart := by
  intro pins s σ H Q I h
  rw [evalPart_none]
  exact wpAny_pure ⟨none, H, I, .none, h⟩
theorem po_some (h : PE X e te) : PO X (some e) (tPart te) := by
  intro pins s σ H Q I hw
  rw [evalPart_some]
  refine thn (h pins s σ H _ I hw) fun u s1 ⟨x, H1, I1, r1, q1⟩ => ?_
  obtain ⟨i, rfl, q⟩ := q1
  obtain ⟨t, rfl⟩ := r1
  exact ⟨some i, H1, I1, .int i t, q⟩

/-- what a slice of a value is, by values: the slice object stands at sl -/
def SlR (X : Cx) (r : V → Option Int → Option Int → Hp → VK → Prop) : Prop :=
  ∀ (pins : List (Addr × Obj)) (s : Shared) (σ : St) (H : Hp) (x : V) (v vl vu : Value) (lo hi : Option Int) (sl : Addr) (Q : VK), Inv X pins σ H s → RelV x v → s.heap.IsSliceOf sl vl vu .none → IsPart vl lo → IsPart vu hi → r x lo hi H Q →
    ∃ T id, typeLookup (.type T) "__getitem__" = pure (some (.builtin id)) ∧ s.TypeIs v T ∧ wpAny (model X.prog X.w) X.A (getItem v (.ref sl)) (EP X pins σ Q) X.xe s
theorem SlR.or {r r' : V → Option Int → Option Int → Hp → VK → Prop} (h : SlR X r) (h' : SlR X r') : SlR X (fun x lo hi H Q => r x lo hi H Q ∨ r' x lo hi H Q) := by
  intro pins s σ H x v vl vu lo hi sl Q I rx hs pl pu q
  rcases q with q | q
  · exact h pins s σ H x v vl vu lo hi sl Q I rx hs pl pu q
  · exact h' pins s σ H x v vl vu lo hi sl Q I rx hs pl pu q
def tSl (r : V → Option Int → Option Int → Hp → VK → Prop) (te : TE) (tl th : TO) : TE := fun σ H Q => te σ H fun x H1 => tl σ H1 fun l H2 => th σ H2 fun u H3 => r x l u H3 Q
/-- a[lo:hi], any a -/
theorem pe_slice {r : V → Option Int → Option Int → Hp → VK → Prop} (hr : SlR X r) (he : PE X e te) (hl : PO X lo tl) (hu : PO X hi th) : PE X (.Subscript e (.Slice lo hi none p2) pos) (tSl r te tl th) := by
  intro pins s σ H Q I h
  refine Subscript_ (thn (he pins s σ H _ I h) fun v s1 ⟨x, H1, I1, r1, q1⟩ => ?_)
  refine wpAny_Slice (thn (hl pins s1 σ H1 _ I1 q1) fun vl s2 ⟨l, H2, I2, pl, q2⟩ => thn (hu pins s2 σ H2 _ I2 q2) fun vu s3 ⟨u, H3, I3, pu, q3⟩ => ?_)
  rw [evalPart_none]
  refine wpAny_pure ?_
  have I4 : Inv X pins σ H3 { s3 with heap := s3.heap.push { cls := .type "slice", data := .fields #[vl, vu, .none] } } := I3.kept (t' := s3.toks) fun b ob q => Heap.get?_push_of_some _ q
  obtain ⟨T, id, hT, ht, hg⟩ := hr pins { s3 with heap := s3.heap.push { cls := .type "slice", data := .fields #[vl, vu, .none] } } σ H3 x v vl vu l u s3.heap.objs.size Q I4 r1 (Heap.IsSliceOf.new ..) pl pu q3
  show wpAny (model X.prog X.w) X.A (subscriptTail e (.Slice lo hi none p2) v (.ref s3.heap.objs.size)) (EP X pins σ Q) X.xe { s3 with heap := s3.heap.push { cls := .type "slice", data := .fields #[vl, vu, .none] } }
  exact tail_any (ops := [.ref s3.heap.objs.size, v]) ht hT hg (by with_unfolding_all rfl)

/-- the items of xs[lo:hi] -/
def cutV (xs : List V) (lo hi : Option Int) : List V := (xs.drop (HT.sIx xs.length 0 lo)).take (HT.sIx xs.length xs.length hi - HT.sIx xs.length 0 lo)
theorem cutV_length (xs : List V) (lo hi : Option Int) : (cutV xs lo hi).length ≤ xs.length := by
  unfold cutV
  rw [List.length_take, List.length_drop]
  omega
/-- t[lo:hi], not the whole of it (the whole would be t itself) -/
def rSlT (K : PySem.W.Frag) : V → Option Int → Option Int → Hp → VK → Prop := fun x lo hi H Q => ∃ a xs, x = .ref a ∧ SqT K H a xs ∧
  ¬ (HT.sIx xs.length 0 lo = 0 ∧ HT.sIx xs.length xs.length hi = xs.length) ∧ ∀ p, H p = none → Q (.ref p) (upd H p (.tup (cutV xs lo hi)))
theorem sl_tup : SlR X (rSlT X.K) := by
  intro pins s σ H x v vl vu lo hi sl Q I rx hs pl pu h
  obtain ⟨a, xs, rfl, hx, hw, q⟩ := h
  cases rx
  obtain ⟨its, r, ht, hz⟩ := I.tuple hx
  have hlen : its.toArray.size = xs.length := by rw [List.size_toArray]; exact r.length.symm
  refine ⟨"tuple", _, PyProof.Rows.slot_tuple_getitem.lookup, ht.typeIs, ?_⟩
  refine HT.getItem_tuple_cut ht hs pl pu (by rw [hlen]; exact hw) ?_ (by rw [hlen]; exact hz)
  rw [hlen]
  refine ⟨.ref s.heap.objs.size, _, I.laid (t' := s.toks) (o := .tup (cutV xs lo hi)) (fun b ob q => Heap.get?_push_of_some _ q) (Nat.le_refl _) ?_, rfl, q _ (I.hok.fresh (Nat.le_refl _))⟩
  exact ⟨Nat.le_trans (cutV_length xs lo hi) hz, _, (r.drop (HT.sIx xs.length 0 lo)).take (HT.sIx xs.length xs.length hi - HT.sIx xs.length 0 lo), IsTup.new _ _⟩

end
end L2

namespace L2
open PySem PySem.Spec PyProof.Rows

/-- the place that an index of any sign means -/
def ixN (n : Nat) (i : Int) : Option Nat := if 0 ≤ i then (if i < n then some i.toNat else none) else if -(n : Int) ≤ i then some (i + n).toNat else none
def atI {α : Type} (xs : List α) (i : Int) : Option α := (ixN xs.length i).bind fun j => xs[j]?
theorem ixN_seq {n : Nat} {i : Int} {j : Nat} (h : ixN n i = some j) : seqIndex? i n = some j ∧ j < n ∧ -(n : Int) ≤ i ∧ i < n := by
  unfold ixN at h
  by_cases h0 : 0 ≤ i
  · rw [if_pos h0] at h
    by_cases h1 : i < n
    · rw [if_pos h1] at h
      have e : i.toNat = j := Option.some.inj h
      exact ⟨by rw [seqIndex_of h0 h1, e], by omega, by omega, h1⟩
    · rw [if_neg h1] at h; cases h
  · rw [if_neg h0] at h
    by_cases h1 : -(n : Int) ≤ i
    · rw [if_pos h1] at h
      have e : (i + n).toNat = j := Option.some.inj h
      exact ⟨by rw [seqIndex_neg (by omega) h1, e], by omega, h1, by omega⟩
    · rw [if_neg h1] at h; cases h
theorem atI_get {α : Type} {xs : List α} {i : Int} {v : α} (h : atI xs i = some v) : ∃ j, seqIndex? i xs.length = some j ∧ xs[j]? = some v ∧ j < xs.length ∧ -(xs.length : Int) ≤ i ∧ i < xs.length := by
  unfold atI at h
  cases e : ixN xs.length i with
  | none => rw [e] at h; cases h
  | some j =>
    rw [e] at h
    obtain ⟨h1, h2, h3, h4⟩ := ixN_seq e
    exact ⟨j, h1, h, h2, h3, h4⟩
theorem atI_nat {α : Type} {xs : List α} {j : Nat} {v : α} (h : xs[j]? = some v) : atI xs (j : Int) = some v := by
  have hj : j < xs.length := (List.getElem?_eq_some_iff.mp h).1
  have e : ixN xs.length (j : Int) = some j := by
    unfold ixN
    rw [if_pos (by omega), if_pos (by omega)]; simp
  unfold atI; rw [e]; exact h
theorem atI_last {α : Type} (xs : List α) (v : α) : atI (xs ++ [v]) (-1) = some v := by
  have hl : (xs ++ [v]).length = xs.length + 1 := by simp
  have e : ixN (xs ++ [v]).length (-1) = some xs.length := by
    unfold ixN
    rw [hl, if_neg (by decide), if_pos (by omega)]
    congr 1
    omega
  unfold atI
  rw [e]
  show (xs ++ [v])[xs.length]? = some v
  simp

/-- what stands as an index of a plain subscript -/
def PlainIx (b : Expr) : Prop := ∀ o i, subscripted b false o i = operate [o, i] (getItem o i)
/-- a subscript by values -/
def IxR (X : Cx) (r : R2) : Prop :=
  ∀ (value slice : Expr) (pins : List (Addr × Obj)) (s : Shared) (σ : St) (H : Hp) (x y : V) (v u : Value) (Q : VK), Inv X pins σ H s → RelV x v → RelV y u → r x y H Q →
    subscripted slice false v u = operate [v, u] (getItem v u) → wpAny (model X.prog X.w) X.A (subscriptTail value slice v u) (EP X pins σ Q) X.xe s
/-- a call of a builtin's method by values: the receiver, the arguments -/
def MtR (X : Cx) (id : String) (r : V → List V → Hp → VK → Prop) : Prop :=
  ∀ (pins : List (Addr × Obj)) (s : Shared) (σ : St) (H : Hp) (x : V) (xs : List V) (v : Value) (us : List Value) (Q : VK), Inv X pins σ H s → RelV x v → Vals xs us → r x xs H Q →
    wpAny (model X.prog X.w) X.A (call (.builtin id) (v :: us)) (EP X pins σ Q) X.xe s
section
variable {X : Cx} {a b : Expr} {ta tb : TE} {pos : Pos}
theorem IxR.or {r r' : R2} (h : IxR X r) (h' : IxR X r') : IxR X (fun x y H Q => r x y H Q ∨ r' x y H Q) := by
  intro value slice pins s σ H x y v u Q I rx ry q hs
  rcases q with q | q
  · exact h value slice pins s σ H x y v u Q I rx ry q hs
  · exact h' value slice pins s σ H x y v u Q I rx ry q hs
theorem MtR.or {id : String} {r r' : V → List V → Hp → VK → Prop} (h : MtR X id r) (h' : MtR X id r') : MtR X id (fun x xs H Q => r x xs H Q ∨ r' x xs H Q) := by
  intro pins s σ H x xs v us Q I rx rs q
  rcases q with q | q
  · exact h pins s σ H x xs v us Q I rx rs q
  · exact h' pins s σ H x xs v us Q I rx rs q
/-- a[b] -/
theorem pe_ix {r : R2} (hr : IxR X r) (ha : PE X a ta) (hb : PE X b tb) (hs : PlainIx b) : PE X (.Subscript a b pos) (tOp r ta tb) := by
  intro pins s σ H Q I h
  exact Subscript_ (binT ha hb I h fun v u s2 x y H2 I2 rx ry q => hr a b pins s2 σ H2 x y v u Q I2 rx ry q (hs _ _))

def rIxL (K : PySem.W.Frag) : R2 := fun x y H Q => ∃ p xs i v, x = .ref p ∧ y = .int i ∧ SqL K H p xs ∧ atI xs i = some v ∧ Q v H
def rIxT (K : PySem.W.Frag) : R2 := fun x y H Q => ∃ p xs i v, x = .ref p ∧ y = .int i ∧ SqT K H p xs ∧ atI xs i = some v ∧ Q v H
def rIxS : R2 := fun x y H Q => ∃ z i c, x = .str z ∧ y = .int i ∧ z.length ≤ sizeLine ∧ atI z.cps.toList i = some c ∧ Q (.str ⟨#[c]⟩) H
theorem ix_list : IxR X (rIxL X.K) := by
  intro value slice pins s σ H x y v u Q I rx ry h hs
  obtain ⟨p, xs, i, z, rfl, rfl, hq, he, q⟩ := h
  cases rx
  obtain ⟨t, rfl⟩ := ry
  obtain ⟨its, r, pl, hz⟩ := I.list hq
  obtain ⟨j, h1, h2, h3, h4, h5⟩ := atI_get he
  obtain ⟨w, ew, rw'⟩ := r.get h2
  have hl := r.length
  have hn := line63
  have fin : EP X pins σ Q w s := ⟨z, H, I, rw', q⟩
  by_cases h0 : 0 ≤ i
  · have hj : i.toNat = j := by
      rw [seqIndex_of h0 h5] at h1
      exact Option.some.inj h1
    exact item_listR pl.isList h0 (by omega) (by rw [hj]; simpa using ew) fin hs
  · have hj : (i + (its.toArray.size : Int)).toNat = j := by
      rw [seqIndex_neg (by omega) h4] at h1
      rw [List.size_toArray, ← hl]
      exact Option.some.inj h1
    exact subscriptTail_builtinR (x := w) pl.isList.typeIs slot_list_getitem.lookup
      (wpAny_getItem_list_neg (Q := fun r s' => r = w ∧ EP X pins σ Q r s') pl.isList (by omega) (by rw [List.size_toArray] <;> omega) (by omega) (by rw [hj]; simpa using ew) ⟨rfl, fin⟩) hs
theorem ix_tup : IxR X (rIxT X.K) := by
  intro value slice pins s σ H x y v u Q I rx ry h hs
  obtain ⟨p, xs, i, z, rfl, rfl, hq, he, q⟩ := h
  cases rx
  obtain ⟨t, rfl⟩ := ry
  obtain ⟨its, r, pl, hz⟩ := I.tuple hq
  obtain ⟨j, h1, h2, h3, h4, h5⟩ := atI_get he
  obtain ⟨w, ew, rw'⟩ := r.get h2
  have hl := r.length
  have hn := line63
  have fin : EP X pins σ Q w s := ⟨z, H, I, rw', q⟩
  exact subscriptTail_builtinR (x := w) pl.typeIs slot_tuple_getitem.lookup
    (getItem_tuple (j := j) (Q := fun r s' => r = w ∧ EP X pins σ Q r s') pl (by omega) (by omega) (by rw [List.size_toArray, ← hl]; exact h1) (by simpa using ew) ⟨rfl, fin⟩) hs
theorem ix_str : IxR X rIxS := by
  intro value slice pins s σ H x y v u Q I rx ry h hs
  obtain ⟨z, i, c, rfl, rfl, hz, he, q⟩ := h
  obtain ⟨t, rfl⟩ := rx
  obtain ⟨t', rfl⟩ := ry
  obtain ⟨j, h1, h2, h3, h4, h5⟩ := atI_get he
  have hl : z.cps.toList.length = z.length := by simp [Str.length]
  rw [hl] at h1 h4 h5
  have hn := line63
  exact tail_any (typeIs_str s z t) slot_str_getitem.lookup (getItem_str (c := c) (by
    have e1 : decide (i < -(2 ^ 63 : Int)) = false := decide_eq_false (by omega)
    have e2 : decide (i ≥ 2 ^ 63) = false := decide_eq_false (by omega)
    rw [e1, e2, Bool.or_false]) (by rw [h1]; simpa using h2) ⟨.str ⟨#[c]⟩, H, I.tok _, ⟨_, rfl⟩, q⟩) hs
/-- list, tuple or str -/
def rIx (K : PySem.W.Frag) : R2 := fun x y H Q => rIxL K x y H Q ∨ rIxT K x y H Q ∨ rIxS x y H Q
theorem ix_seq : IxR X (rIx X.K) := ix_list.or (ix_tup.or ix_str)

/-- the list's object behind a store -/
theorem mapSeq_set (its : List Value) (n j : Nat) (u : Value) : Obj.mapSeq (·.setIfInBounds j u) { cls := .type "list", data := .seq its.toArray n } = { cls := .type "list", data := .seq (its.set j u).toArray n } := by
  simp [Obj.mapSeq]
theorem Inv.lst {pins : List (Addr × Obj)} {σ : St} {H : Hp} {s : Shared} {p : Addr} {xs : List V} (I : Inv X pins σ H s) (h : H p = some (.lst xs)) :
    ∃ (its : List Value) (n : Nat), Vals xs its ∧ s.heap.get? p = some { cls := .type "list", data := .seq its.toArray n } ∧ xs.length ≤ sizeLine := by
  obtain ⟨z, its, n, r, e⟩ := I.hok p _ h
  exact ⟨its, n, r, e, z⟩
/-- the list at p is written by an update of its object -/
theorem Inv.lstUpd {pins : List (Addr × Obj)} {σ : St} {H : Hp} {s : Shared} {p : Addr} {xs ys : List V} {its its' : List Value} {n n' : Nat} {f : Obj → Obj} (I : Inv X pins σ H s) (h : H p = some (.lst xs))
    (ho : s.heap.get? p = some { cls := .type "list", data := .seq its.toArray n }) (hf : f { cls := .type "list", data := .seq its.toArray n } = { cls := .type "list", data := .seq its'.toArray n' }) (r : Vals ys its') (hz : ys.length ≤ sizeLine) (t : Nat) :
    Inv X pins σ (upd H p (.lst ys)) { s with heap := s.heap.update p f, toks := t } := by
  have e : (s.heap.update p f).get? p = some { cls := .type "list", data := .seq its'.toArray n' } := by
    rw [Heap.get?_update_self f ho (by rw [hf] <;> rfl), hf]
  refine I.write (x := p) (e := p) (by rw [h]; trivial) (.inl rfl) (fun b u hb q => (Heap.get?_update_other _ _ (Ne.symm hb)).trans q) ⟨_, e⟩ ?_
  exact ⟨hz, its', n', r, e⟩
def rSetL : V → V → V → Hp → (Hp → Prop) → Prop := fun o i v H Q => ∃ p xs k j, o = .ref p ∧ i = .int k ∧ H p = some (.lst xs) ∧ ixN xs.length k = some j ∧ Q (upd H p (.lst (xs.set j v)))
theorem set_list : PSet X rSetL := by
  intro pins s σ H o i v ov iv u Q I ro ri rv h
  obtain ⟨p, xs, k, j, rfl, rfl, hp, hj, q⟩ := h
  cases ro
  obtain ⟨t, rfl⟩ := ri
  obtain ⟨its, n, r, ho, hz⟩ := I.lst hp
  obtain ⟨h1, h2, h3, h4⟩ := ixN_seq hj
  have hl := r.length
  have hn := line63
  have I' : Inv X pins σ (upd H p (.lst (xs.set j v))) { s with heap := s.heap.update p (Obj.mapSeq (·.setIfInBounds j u)) } :=
    I.lstUpd hp ho (mapSeq_set its n j u) (r.set rv j) (by rw [List.length_set]; exact hz) s.toks
  by_cases h0 : 0 ≤ k
  · have hk : k.toNat = j := by
      rw [seqIndex_of h0 h4] at h1
      exact Option.some.inj h1
    exact PySem.W.ki_setAt ho h0 (by omega) (by rw [List.size_toArray, ← hl]; exact h4) (by rw [hk]; exact ⟨_, I', q⟩)
  · have hk : (k + (its.toArray.size : Int)).toNat = j := by
      rw [seqIndex_neg (by omega) h3] at h1
      rw [List.size_toArray, ← hl]
      exact Option.some.inj h1
    exact PySem.W.ki_setBack ho (by omega) (by rw [List.size_toArray, ← hl]; exact h3) (by omega) (by rw [hk]; exact ⟨_, I', q⟩)

theorem slice_bounds (lo hi : Option Int) (n : Nat) : (sliceBounds lo hi none n).1 = ((HT.sIx n 0 lo : Nat) : Int) ∧ (sliceBounds lo hi none n).2.1 = ((HT.sIx n n hi : Nat) : Int) ∧ (sliceBounds lo hi none n).2.2 = 1 := by
  refine ⟨?_, ?_, rfl⟩
  · cases lo with
    | none => simp [sliceBounds, HT.sIx]
    | some i =>
      simp only [sliceBounds, HT.sIx, Option.getD_none, show (1 : Int) > 0 by decide, if_true]
      by_cases h : i < 0
      · simp only [h, if_true] <;> omega
      · simp only [h, if_false] <;> omega
  · cases hi with
    | none => simp [sliceBounds, HT.sIx]
    | some i =>
      simp only [sliceBounds, HT.sIx, Option.getD_none, show (1 : Int) > 0 by decide, if_true]
      by_cases h : i < 0
      · simp only [h, if_true] <;> omega
      · simp only [h, if_false] <;> omega
theorem slicePick_cut (its : List Value) (lo hi : Option Int) : slicePick its.toArray lo hi none = ((its.drop (HT.sIx its.length 0 lo)).take (HT.sIx its.length its.length hi - HT.sIx its.length 0 lo)).toArray := by
  obtain ⟨h1, h2, h3⟩ := slice_bounds lo hi its.toArray.size
  unfold slicePick
  rw [h1, h2, h3]
  simp only [sliceRange_one, pick_run, List.size_toArray] <;> rfl
/-- xs[lo:hi] of a list: a new list -/
def rSlL (K : PySem.W.Frag) : V → Option Int → Option Int → Hp → VK → Prop := fun x lo hi H Q => ∃ a xs, x = .ref a ∧ SqL K H a xs ∧ ∀ p, H p = none → Q (.ref p) (upd H p (.lst (cutV xs lo hi)))
theorem sl_list : SlR X (rSlL X.K) := by
  intro pins s σ H x v vl vu lo hi sl Q I rx hs pl pu h
  obtain ⟨a, xs, rfl, hx, q⟩ := h
  cases rx
  obtain ⟨its, r, ht, hz⟩ := I.list hx
  have hlen := r.length
  refine ⟨"list", _, slot_list_getitem.lookup, ht.isList.typeIs, ?_⟩
  refine wpAny_getItem_list_slice ht.isList hs pl pu .none (by simp) ?_ (by rw [List.size_toArray] <;> omega)
  rw [slicePick_cut, ← hlen]
  refine ⟨.ref s.heap.objs.size, _, I.laid (t' := s.toks) (o := .lst (cutV xs lo hi)) (fun b ob q => Heap.get?_push_of_some _ q) (Nat.le_refl _) ?_, rfl, q _ (I.hok.fresh (Nat.le_refl _))⟩
  exact ⟨Nat.le_trans (cutV_length xs lo hi) hz, _, 0, (r.drop (HT.sIx xs.length 0 lo)).take (HT.sIx xs.length xs.length hi - HT.sIx xs.length 0 lo), Heap.get?_push_size _ rfl⟩

def flatV : V → Bool
  | .non => true
  | .bl _ => true
  | .int _ => true
  | .str _ => true
  | _ => false
/-- == of flat values -/
def eqV : V → V → Bool
  | .non, .non => true
  | .bl a, .bl b => a == b
  | .bl a, .int b => (if a then 1 else 0) == b
  | .int a, .bl b => a == (if b then 1 else 0)
  | .int a, .int b => a == b
  | .str a, .str b => a == b
  | _, _ => false
theorem eqAt_V {A : Around} {s : Shared} {y x : V} {u v : Value} (ry : RelV y u) (rx : RelV x v) (fy : flatV y = true) (fx : flatV x = true) : SeqAt.EqAt A s u v (eqV y x) := by
  cases y with
  | non =>
    cases ry
    cases x with
    | non => cases rx; exact SeqAt.EqAt.same _
    | bl b => cases rx; exact SeqAt.EqAt.none_bool b
    | int b => obtain ⟨t, rfl⟩ := rx; exact SeqAt.EqAt.none_int b t
    | str b => obtain ⟨t, rfl⟩ := rx; exact SeqAt.EqAt.none_str b t
    | _ => exact absurd (show false = true from fx) Bool.false_ne_true
  | bl a =>
    cases ry
    cases x with
    | non => cases rx; exact SeqAt.EqAt.bool_none a
    | bl b => cases rx; exact SeqAt.EqAt.bool_bool a b
    | int b => obtain ⟨t, rfl⟩ := rx; exact SeqAt.EqAt.bool_int a b t
    | str b => obtain ⟨t, rfl⟩ := rx; exact SeqAt.EqAt.bool_str a b t
    | _ => exact absurd (show false = true from fx) Bool.false_ne_true
  | int a =>
    obtain ⟨t', rfl⟩ := ry
    cases x with
    | non => cases rx; exact SeqAt.EqAt.int_none a t'
    | bl b => cases rx; exact SeqAt.EqAt.int_bool a t' b
    | int b => obtain ⟨t, rfl⟩ := rx; exact SeqAt.EqAt.int_int a t' b t
    | str b => obtain ⟨t, rfl⟩ := rx; exact SeqAt.EqAt.int_str a t' b t
    | _ => exact absurd (show false = true from fx) Bool.false_ne_true
  | str a =>
    obtain ⟨t', rfl⟩ := ry
    cases x with
    | non => cases rx; exact SeqAt.EqAt.str_none a t'
    | bl b => cases rx; exact SeqAt.EqAt.str_bool a t' b
    | int b => obtain ⟨t, rfl⟩ := rx; exact SeqAt.EqAt.str_int a t' b t
    | str b => obtain ⟨t, rfl⟩ := rx; exact SeqAt.EqAt.str_str a t' b t
    | _ => exact absurd (show false = true from fx) Bool.false_ne_true
  | _ => exact absurd (show false = true from fy) Bool.false_ne_true
/-- the items' answers, read off the values (a value's own answer does not lean on its token) -/
def eqU (x : V) (u : Value) : Bool := match u with
  | .none => eqV .non x
  | .bool b => eqV (.bl b) x
  | .int i _ => eqV (.int i) x
  | .str z _ => eqV (.str z) x
  | _ => false
theorem eqU_of {x y : V} {u : Value} (r : RelV y u) (f : flatV y = true) : eqU x u = eqV y x := by
  cases y with
  | non => cases r; rfl
  | bl b => cases r; rfl
  | int i => obtain ⟨t, rfl⟩ := r; rfl
  | str z => obtain ⟨t, rfl⟩ := r; rfl
  | _ => exact absurd (show false = true from f) Bool.false_ne_true
theorem any_eqU {x : V} : ∀ {xs : List V} {us : List Value}, Vals xs us → xs.all flatV = true → us.any (eqU x) = xs.any fun y => eqV y x
  | _, _, .nil, _ => rfl
  | y :: xs, u :: us, .cons r t, f => by
    rw [List.all_cons, Bool.and_eq_true] at f
    rw [List.any_cons, List.any_cons, eqU_of r f.1, any_eqU t f.2]
theorem mem_eqAt {A : Around} {s : Shared} {x : V} {v : Value} (rx : RelV x v) (fx : flatV x = true) : ∀ {xs : List V} {us : List Value}, Vals xs us → xs.all flatV = true → ∀ u ∈ us, SeqAt.EqAt A s u v (eqU x u)
  | _, _, .nil, _ => fun u hu => by cases hu
  | y :: xs, u :: us, .cons r t, f => fun u' hu => by
    rw [List.all_cons, Bool.and_eq_true] at f
    rcases List.mem_cons.mp hu with rfl | hu
    · rw [eqU_of r f.1]; exact eqAt_V r rx f.1 fx
    · exact mem_eqAt rx fx t f.2 u' hu
def inV (x : V) (xs : List V) : Bool := xs.any fun y => eqV y x
/-- x in a list or tuple of flat items -/
def rIn (K : PySem.W.Frag) (neg : Bool) : R2 := fun x y H Q => ∃ p xs, y = .ref p ∧ (SqL K H p xs ∨ SqT K H p xs) ∧ flatV x = true ∧ xs.all flatV = true ∧ Q (.bl (if neg then !inV x xs else inV x xs)) H
theorem op_in_seq : OpR X (compareOp .In) (rIn X.K false) := by
  intro pins s σ H x y v u Q I rx ry h
  obtain ⟨p, xs, rfl, hq, fx, fs, q⟩ := h
  cases ry
  rcases hq with hq | hq
  · obtain ⟨its, r, pl, hz⟩ := I.list hq
    refine SeqAt.in_listAt (eqU x) pl.isList (fun w hw => mem_eqAt rx fx r fs w (by simpa using hw)) ⟨.bl _, H, I, rfl, ?_⟩
    rw [show its.toArray.any (eqU x) = its.any (eqU x) by simp, any_eqU r fs]
    exact q
  · obtain ⟨its, r, pl, hz⟩ := I.tuple hq
    refine SeqAt.in_tupleAt (eqU x) pl (fun w hw => mem_eqAt rx fx r fs w (by simpa using hw)) ⟨.bl _, H, I, rfl, ?_⟩
    rw [show its.toArray.any (eqU x) = its.any (eqU x) by simp, any_eqU r fs]
    exact q
theorem op_notIn_seq : OpR X (compareOp .NotIn) (rIn X.K true) := by
  intro pins s σ H x y v u Q I rx ry h
  obtain ⟨p, xs, rfl, hq, fx, fs, q⟩ := h
  cases ry
  rcases hq with hq | hq
  · obtain ⟨its, r, pl, hz⟩ := I.list hq
    refine SeqAt.notIn_listAt (eqU x) pl.isList (fun w hw => mem_eqAt rx fx r fs w (by simpa using hw)) ⟨.bl _, H, I, rfl, ?_⟩
    rw [show its.toArray.any (eqU x) = its.any (eqU x) by simp, any_eqU r fs]
    exact q
  · obtain ⟨its, r, pl, hz⟩ := I.tuple hq
    refine SeqAt.notIn_tupleAt (eqU x) pl (fun w hw => mem_eqAt rx fx r fs w (by simpa using hw)) ⟨.bl _, H, I, rfl, ?_⟩
    rw [show its.toArray.any (eqU x) = its.any (eqU x) by simp, any_eqU r fs]
    exact q
theorem op_notIn_str : OpR X (compareOp .NotIn) (fun x y H Q => ∃ i j, x = .str i ∧ y = .str j ∧ Q (.bl (!(!(Builtin.Str.occurrences j i 0 j.length 1).isEmpty))) H) := by
  intro pins s σ H x y v u Q I rx ry h
  obtain ⟨i, j, rfl, rfl, q⟩ := h
  obtain ⟨t, rfl⟩ := rx
  obtain ⟨t', rfl⟩ := ry
  exact notIn_str ⟨.bl _, H, I, rfl, q⟩

theorem CallR.or {f : Value} {r r' : List V → Hp → VK → Prop} (h : CallR X f r) (h' : CallR X f r') : CallR X f (fun xs H Q => r xs H Q ∨ r' xs H Q) := by
  intro pins s σ H xs us Q I rs q
  rcases q with q | q
  · exact h pins s σ H xs us Q I rs q
  · exact h' pins s σ H xs us Q I rs q
theorem call_tuple_of : CallR X (.type "tuple") (fun xs H Q => ∃ p ys, xs = [.ref p] ∧ ((SqL X.K H p ys ∧ ∀ l, H l = none → Q (.ref l) (upd H l (.tup ys))) ∨ (SqT X.K H p ys ∧ Q (.ref p) H))) := by
  intro pins s σ H xs us Q I r h
  obtain ⟨p, ys, rfl, h⟩ := h
  obtain ⟨u, rfl, rx⟩ := vals1 r
  cases rx
  rcases h with ⟨hq, q⟩ | ⟨hq, q⟩
  · obtain ⟨its, r', pl, hz⟩ := I.list hq
    have hlen := r'.length
    refine call_tuple_list pl.isList (fun h' kp => ?_) (by simp only [List.size_toArray] <;> omega)
    have I1 : Inv X pins σ H { s with heap := h' } := I.kept (t' := s.toks) kp
    have I2 : Inv X pins σ (upd H h'.objs.size (.tup ys)) { s with heap := h'.push { cls := .type "tuple", data := .seq its.toArray } } :=
      I1.laid (t' := s.toks) (fun b o e => Heap.get?_push_of_some _ e) (Nat.le_refl _) (show ObjOk X.prog X.w _ _ _ (.tup ys) from ⟨hz, its, r', IsTup.new _ _⟩)
    exact ⟨.ref h'.objs.size, _, I2, rfl, q _ (I1.hok.fresh (Nat.le_refl _))⟩
  · obtain ⟨its, r', pl, hz⟩ := I.tuple hq
    exact call_tuple_same pl ⟨.ref p, H, I, rfl, q⟩

/-- the value is of that builtin type -/
def tyV (K : PySem.W.Frag) (T : String) (x : V) (H : Hp) : Prop := match x with
  | .str _ => T = "str"
  | .int _ => T = "int"
  | .ref p => (T = "list" ∧ ∃ xs, SqL K H p xs) ∨ (T = "tuple" ∧ ∃ o, K.lookup p = some o ∧ o.cls = .type "tuple" ∧ o.dict = none) ∨
      (T = "dict" ∧ ((∃ kvs, H p = some (.dK kvs)) ∨ ∃ kvs, H p = some (.dT kvs))) ∨ (T = "set" ∧ ∃ S n, H p = some (.set S n))
  | _ => False
theorem tyV_is {pins : List (Addr × Obj)} {σ : St} {H : Hp} {s : Shared} {T : String} {x : V} {v : Value} (I : Inv X pins σ H s) (r : RelV x v) (ty : tyV X.K T x H) :
    s.TypeIs v T ∧ ∀ a, v = .ref a → ∃ ob, s.heap.get? a = some ob ∧ ob.dict = none := by
  cases x with
  | str z =>
    obtain ⟨t, rfl⟩ := r
    cases (show T = "str" from ty)
    exact ⟨typeIs_str s z t, fun _ e => nomatch e⟩
  | int i =>
    obtain ⟨t, rfl⟩ := r
    cases (show T = "int" from ty)
    exact ⟨typeIs_int s i t, fun _ e => nomatch e⟩
  | ref p =>
    cases r
    rcases ty with ⟨rfl, xs, hq⟩ | ⟨rfl, o, hk, hc, hd⟩ | ⟨rfl, hk⟩ | ⟨rfl, S, n, hk⟩
    · obtain ⟨its, _, pl, _⟩ := I.list hq
      refine ⟨pl.isList.typeIs, fun a e => ?_⟩
      cases e
      obtain ⟨o, n, e, c, hd, _⟩ := pl
      exact ⟨o, e, hd⟩
    · refine ⟨⟨o, I.kIn p o hk, hc⟩, fun a e => ?_⟩
      cases e
      exact ⟨o, I.kIn _ o hk, hd⟩
    · have z : ∃ o, s.heap.get? p = some o ∧ o.ExactDict := by
        rcases hk with ⟨kvs, hk⟩ | ⟨kvs, hk⟩
        · obtain ⟨_, _, _, _, o, _, _, e, ex, _⟩ := I.hok p _ hk
          exact ⟨o, e, ex⟩
        · obtain ⟨_, _, _, _, o, _, _, e, ex, _⟩ := I.hok p _ hk
          exact ⟨o, e, ex⟩
      obtain ⟨o, e, ex⟩ := z
      refine ⟨⟨o, e, ex.1⟩, fun a e2 => ?_⟩
      cases e2
      exact ⟨o, e, ex.2.1⟩
    · obtain ⟨o, _, _, _, e, ex, _⟩ := I.hok p _ hk
      refine ⟨⟨o, e, ex.1⟩, fun a e2 => ?_⟩
      cases e2
      exact ⟨o, e, ex.2.1⟩
  | _ => exact False.elim ty
def tBM0 (K : PySem.W.Frag) (T : String) (r : V → List V → Hp → VK → Prop) (to : TE) : TE := fun σ H Q => to σ H fun x H1 => tyV K T x H1 ∧ r x [] H1 Q
def tBM (K : PySem.W.Frag) (T : String) (r : V → List V → Hp → VK → Prop) (to : TE) (t : TA) : TE := fun σ H Q => to σ H fun x H1 => tyV K T x H1 ∧ t σ H1 fun xs H2 => r x xs H2 Q
variable {o e : Expr} {es : List Expr} {to : TE} {t : TA} {name : Str} {apos cpos : Pos} {T id : String} {r : V → List V → Hp → VK → Prop}
theorem pe_bm (pa : PlainAttrs T) (slot : Slot T name id) (hty : typeOf (.builtin id) = pure (.type "method_descriptor")) (hm : MtR X id r) (ho : PE X o to) (ha : PA X (e :: es) t)
    (hbase : attributeBase o name X.env (eval o X.env) = eval o X.env := by rfl)
    (hfew : ((backTo cpos (starEach (e :: es) X.env)).all (fun x => !x.1) && (backToKw cpos (keywordEach [] X.env)).all (fun x => x.1.isSome)
      && decide ((e :: es).length + ([] : List Keyword).length + (if ([] : List Keyword).isEmpty then 0 else 1) < 30)) = true := by rfl)
    (hline : (apos.endLine == cpos.line) = true := by rfl) (hs : starEach (e :: es) X.env = (false, eval e X.env) :: starEach es X.env := by rfl) (hplain : (backTo cpos (starEach es X.env)).any (·.1) = false := by rfl) :
    PE X (.Call (.Attribute o name apos) (e :: es) [] cpos) (tBM X.K T r to t) := by
  intro pins s σ H Q I h
  refine wpAny_Call_method_late hbase hfew hline rfl (thn (ho pins s σ H _ I h) fun v s1 ⟨x, H1, I1, r1, ty, q1⟩ => ?_)
  obtain ⟨h1, h2⟩ := tyV_is I1 r1 ty
  refine ⟨T, id, pa, slot, hty, h1, h2, ?_⟩
  have hA := ha cpos pins s1 σ H1 _ I1 q1
  rw [hs] at hA ⊢
  refine Calls.callWith_builtin (by show (false || (backTo cpos (starEach es X.env)).any (·.1)) = false; rw [hplain] <;> rfl) (Calls.evalArgs_plain ?_)
  exact thn hA fun us s2 ⟨vs, H2, I2, r2, q2⟩ => hm pins s2 σ H2 x vs v us Q I2 r1 r2 q2
/- xs.append(e), list.index on a module's tuple .. are MtR facts of 06m -/
end
end L2

namespace L2
open PySem PySem.Spec PyProof.Rows

def MtM (X : Cx) (id : String) (r : V → List V → Hp → VK → Prop) : Prop :=
  ∀ (pins : List (Addr × Obj)) (s : Shared) (σ : St) (H : Hp) (x : V) (xs : List V) (v : Value) (us : List Value) (Q : VK), Inv X pins σ H s → RelV x v → Vals xs us → r x xs H Q →
    wpAny (model X.prog X.w) X.A (call (.builtin id) (v :: us)) (EP X pins σ Q) X.xe s

theorem Vals.one : ∀ {x : V} {us : List Value}, Vals [x] us → ∃ u, us = [u] ∧ RelV x u
  | _, _, .cons r .nil => ⟨_, rfl, r⟩
theorem Vals.two : ∀ {x y : V} {us : List Value}, Vals [x, y] us → ∃ u v, us = [u, v] ∧ RelV x u ∧ RelV y v
  | _, _, _, .cons r (.cons q .nil) => ⟨_, _, rfl, r, q⟩
theorem Vals.zero : ∀ {us : List Value}, Vals [] us → us = []
  | _, .nil => rfl
theorem Vals.dropLast {xs : List V} {us : List Value} (h : Vals xs us) : Vals xs.dropLast us.dropLast := by
  induction h with
  | nil => exact .nil
  | cons r t ih =>
    cases t with
    | nil => exact .nil
    | cons q t' => exact .cons r ih
theorem Vals.eraseIdx : ∀ {xs : List V} {us : List Value} (i : Nat), Vals xs us → Vals (xs.eraseIdx i) (us.eraseIdx i)
  | _, _, _, .nil => .nil
  | _, _, 0, .cons _ t => t
  | _, _, i + 1, .cons r t => .cons r (Vals.eraseIdx i t)
theorem Vals.reverse {xs : List V} {us : List Value} (h : Vals xs us) : Vals xs.reverse us.reverse := by
  induction h with
  | nil => exact .nil
  | cons r t ih => rw [List.reverse_cons, List.reverse_cons]; exact Vals.append ih (.cons r .nil)
theorem Vals.rep {xs : List V} {us : List Value} (h : Vals xs us) : ∀ k : Nat, Vals (List.replicate k xs).flatten (List.replicate k us).flatten
  | 0 => .nil
  | k + 1 => by
    rw [List.replicate_succ, List.replicate_succ, List.flatten_cons, List.flatten_cons]
    exact Vals.append h (Vals.rep h k)
theorem foldl_rep (its : List Value) : ∀ (k : Nat) (acc : List Value),
    List.foldl (fun x1 x2 => x1 ++ x2) acc.toArray (List.replicate k its.toArray) = (acc ++ (List.replicate k its).flatten).toArray
  | 0, acc => by simp
  | k + 1, acc => by
    have e : acc.toArray ++ its.toArray = (acc ++ its).toArray := by simp
    have e2 : (acc ++ its) ++ (List.replicate k its).flatten = acc ++ (List.replicate (k + 1) its).flatten := by
      rw [List.replicate_succ, List.flatten_cons, List.append_assoc]
    rw [← e2, ← foldl_rep its k (acc ++ its), ← e, List.replicate_succ, List.foldl_cons]

section
variable {X : Cx} {pins : List (Addr × Obj)} {σ : St} {H : Hp} {s : Shared} {l b : Addr} {xs ys zs : List V}

theorem Inv.lset {its its' : List Value} {n : Nat} {f : Array Value → Array Value} {t' : Nat} (I : Inv X pins σ H s) (hH : H l = some (.lst xs))
    (e : s.heap.get? l = some { cls := .type "list", data := .seq its.toArray n }) (hf : f its.toArray = its'.toArray) (hv : Vals ys its') (hz : ys.length ≤ sizeLine) :
    Inv X pins σ (upd H l (.lst ys)) { s with heap := s.heap.update l (Obj.mapSeq f), toks := t' } := by
  have q := PySem.IsL.update e f
  rw [hf] at q
  refine I.write (x := l) (e := l) (by rw [hH]; exact trivial) (.inl rfl) (fun b' u hb hu => (Heap.get?_update_other s.heap (Obj.mapSeq f) (Ne.symm hb)).trans hu) ⟨_, q⟩ ?_
  exact ⟨hz, its', _, hv, q⟩
theorem Inv.lnew {its : List Value} {t' : Nat} (I : Inv X pins σ H s) (hv : Vals ys its) (hz : ys.length ≤ sizeLine) :
    Inv X pins σ (upd H s.heap.objs.size (.lst ys)) { s with heap := s.heap.push { cls := .type "list", data := .seq its.toArray }, toks := t' } :=
  I.laid (fun _ _ q => Heap.get?_push_of_some _ q) (Nat.le_refl _) ⟨hz, its, 0, hv, Heap.get?_push_size _ rfl⟩
theorem Inv.fresh (I : Inv X pins σ H s) : H s.heap.objs.size = none := I.hok.fresh (Nat.le_refl _)
theorem Inv.lstM (I : Inv X pins σ H s) (hH : H l = some (.lst xs)) : xs.length ≤ sizeLine ∧ ∃ (its : List Value) (n : Nat), Vals xs its ∧ xs.length = its.length ∧ s.heap.get? l = some { cls := .type "list", data := .seq its.toArray n } := by
  obtain ⟨z, its, n, r, e⟩ := I.hok l _ hH
  exact ⟨z, its, n, r, r.length, e⟩

theorem notLongL {n : Nat} (h : n ≤ sizeLine) : Builtin.List.listTooLong n = false := by
  unfold Builtin.List.listTooLong
  exact decide_eq_false (by omega)
end

section
variable {X : Cx}

def rAppend : V → List V → Hp → VK → Prop := fun x vs H Q => ∃ l xs y, x = .ref l ∧ vs = [y] ∧ H l = some (.lst xs) ∧ xs.length < sizeLine ∧ Q .non (upd H l (.lst (xs ++ [y])))
theorem mt_append : MtM X "list.append" rAppend := by
  intro pins s σ H x vs v us Q I rx rv h
  obtain ⟨l, xs, y, rfl, rfl, hH, hz, q⟩ := h
  cases rx
  obtain ⟨u, rfl, ru⟩ := rv.one
  obtain ⟨z, its, n, r, hl, e⟩ := I.lstM hH
  refine call_meets F.slot_list_append ⟨_, e, rfl⟩ F.entry_list_append (F.args_list_append_2 _ _) (PySem.list_append l its.toArray n u (by rw [List.size_toArray]; omega)) ⟨e, ?_⟩
  refine ⟨.non, _, I.lset (its' := its ++ [u]) hH e (by simp) (r.append (.cons ru .nil)) ?_, rfl, q⟩
  rw [List.length_append, List.length_singleton]
  omega

def rExtend : V → List V → Hp → VK → Prop := fun x vs H Q => ∃ l b xs zs, x = .ref l ∧ vs = [.ref b] ∧ H l = some (.lst xs) ∧ H b = some (.lst zs) ∧ xs.length + zs.length ≤ sizeLine ∧ Q .non (upd H l (.lst (xs ++ zs)))
def rClear : V → List V → Hp → VK → Prop := fun x vs H Q => ∃ l xs, x = .ref l ∧ vs = [] ∧ H l = some (.lst xs) ∧ Q .non (upd H l (.lst []))
def rCat : R2 := fun x y H Q => ∃ l b xs zs, x = .ref l ∧ y = .ref b ∧ H l = some (.lst xs) ∧ H b = some (.lst zs) ∧ xs.length + zs.length ≤ sizeLine ∧ ∀ p, H p = none → Q (.ref p) (upd H p (.lst (xs ++ zs)))
theorem op_cat : OpR X (binaryOp .Add) rCat := by
  intro pins s σ H x y v u Q I rx ry h
  obtain ⟨l, b, xs, zs, rfl, rfl, hH, hB, hz, q⟩ := h
  cases rx
  cases ry
  obtain ⟨z, its, n, r, hl, e⟩ := I.lstM hH
  obtain ⟨z2, its2, n2, r2, hl2, e2⟩ := I.lstM hB
  refine PySem.P.add_list e e2 ?_ (by rw [List.size_toArray, List.size_toArray]; omega)
  have ea : its.toArray ++ its2.toArray = (its ++ its2).toArray := by simp
  rw [ea]
  exact ⟨.ref _, _, I.lnew (t' := s.toks) (r.append r2) (by rw [List.length_append]; omega), rfl, q _ I.fresh⟩
/-- a list times an int (a negative one is nothing) -/
def rRep : R2 := fun x y H Q => ∃ l k xs, x = .ref l ∧ y = .int k ∧ H l = some (.lst xs) ∧ -(2 ^ 63) ≤ k ∧ k < 2 ^ 63 ∧ xs.length * k.toNat ≤ sizeLine ∧
  ∀ p, H p = none → Q (.ref p) (upd H p (.lst (List.replicate k.toNat xs).flatten))
theorem len_rep {α : Type} (xs : List α) (k : Nat) : (List.replicate k xs).flatten.length = k * xs.length := by
  induction k with
  | zero => simp
  | succ k ih => rw [List.replicate_succ, List.flatten_cons, List.length_append, ih, Nat.succ_mul, Nat.add_comm]
theorem op_rep : OpR X (binaryOp .Mult) rRep := by
  intro pins s σ H x y v u Q I rx ry h
  obtain ⟨l, k, xs, rfl, rfl, hH, h1, h2, hz, q⟩ := h
  cases rx
  obtain ⟨t, rfl⟩ := ry
  obtain ⟨z, its, n, r, hl, e⟩ := I.lstM hH
  have hlen : its.toArray.size * k.toNat ≤ sizeLine := by rw [List.size_toArray, ← hl]; exact hz
  have hcap : ¬ its.toArray.size * k.toNat > (2 ^ 63 - 1) / 8 := by
    have : (sizeLine : Nat) ≤ (2 ^ 63 - 1) / 8 := by decide
    omega
  have hfit : ¬ (!Builtin.List.listFitsIndex k) = true := by
    rw [fitsIndex_both h1 h2]
    exact Bool.false_ne_true
  have hlong : ¬ Builtin.List.listTooLong (its.toArray.size * k.toNat) = true := by
    rw [notLongL hlen]
    exact Bool.false_ne_true
  have hnew : List.foldl (fun x1 x2 => x1 ++ x2) #[] (List.replicate (if its.toArray.isEmpty = true then 0 else k.toNat) its.toArray) = (List.replicate k.toNat its).flatten.toArray := by
    have f0 : ∀ m : Nat, List.foldl (fun x1 x2 => x1 ++ x2) #[] (List.replicate m its.toArray) = (List.replicate m its).flatten.toArray := fun m => by
      have := foldl_rep its m []
      rw [List.nil_append] at this
      exact this
    rw [f0]
    cases its with
    | nil => simp
    | cons a r' => rw [if_neg (by simp)]
  refine wpAny_binaryOp_repeat_ref (T := "list") (U := "int") (by decide) ⟨_, e, rfl⟩ (fun s' => typeIs_int s' k t) noFill_list_mul F.fills_int_mul F.slot_int_rmul repeat_list F.slot_int_index.lookup
    (call_meets F.slot_int_rmul (typeIs_int s k t) F.entry_int_rmul (F.args_int_rmul_2 _ _) (int___rmul___int_list k t l its.toArray n)
      ⟨e, rfl, ⟨_, e, rfl⟩, call_meets F.slot_list_mul ⟨_, e, rfl⟩ F.entry_list_mul (F.args_list_mul_2 _ _) (AutoListH.list___mul___list_int_3 l its.toArray n k t hfit hcap hlong) ⟨e, ?_⟩⟩)
  rw [hnew]
  exact ⟨.ref _, _, I.lnew (t' := s.toks) (r.rep k.toNat) (by rw [len_rep, Nat.mul_comm]; exact hz), rfl, q _ I.fresh⟩

end

section
variable {prog : Program} {w : World} {A : Around} {E : Value → Shared → Prop} {s : Shared}
end

section
variable {X : Cx}
end
end L2

namespace L2
open PySem PySem.Spec PyProof.Rows

section
variable {κ : Type} [DecidableEq κ]
def valV (kvs : List (κ × V)) (k : κ) : Option V := (kvs.find? fun kv => decide (kv.1 = k)).map (·.2)
/-- in its place, or at the end -/
def putK (kvs : List (κ × V)) (k : κ) (v : V) : List (κ × V) :=
  if (kvs.any fun kv => decide (kv.1 = k)) = true then kvs.map (fun kv => if kv.1 = k then (kv.1, v) else kv) else kvs ++ [(k, v)]
def dropK (kvs : List (κ × V)) (k : κ) : List (κ × V) := kvs.filter fun kv => decide (kv.1 ≠ k)

theorem valV_pos {p : κ × V} {r : List (κ × V)} {k : κ} (e : p.1 = k) : valV (p :: r) k = some p.2 := by simp [valV, List.find?_cons, e]
theorem valV_neg {p : κ × V} {r : List (κ × V)} {k : κ} (e : ¬ p.1 = k) : valV (p :: r) k = valV r k := by simp [valV, List.find?_cons, e]
theorem valV_any (k : κ) : ∀ kvs : List (κ × V), (kvs.any fun kv => decide (kv.1 = k)) = (valV kvs k).isSome
  | [] => rfl
  | p :: r => by
    rw [List.any_cons]
    by_cases e : p.1 = k
    · simp only [valV_pos e, decide_eq_true e, Bool.true_or, Option.isSome_some]
    · rw [valV_neg e, decide_eq_false e, Bool.false_or]; exact valV_any k r
theorem RelO.isSome_eq {o : Option V} {u : Option Value} (r : RelO o u) : o.isSome = u.isSome := by
  cases o with
  | none => cases u with
    | none => rfl
    | some _ => exact (show False from r).elim
  | some _ => cases u with
    | none => exact (show False from r).elim
    | some _ => rfl
theorem RelO.getD {o : Option V} {u : Option Value} {d : V} {d' : Value} (r : RelO o u) (rd : RelV d d') : RelV (o.getD d) (u.getD d') := by
  cases o with
  | none => cases u with
    | none => exact rd
    | some _ => exact (show False from r).elim
  | some _ => cases u with
    | none => exact (show False from r).elim
    | some _ => exact r

/-- raw tables of the same keys -/
theorem KV.val {kvs : List (κ × V)} {vs : List (κ × Value)} (r : KV kvs vs) (k : κ) : RelO (valV kvs k) (valueAt vs k) := by
  unfold KV at r
  induction r with
  | nil => exact True.intro
  | @cons p q ps qs h t ih =>
    obtain ⟨h1, h2⟩ := h
    by_cases e : p.1 = k
    · have e' : q.1 = k := h1.symm.trans e
      have b : valueAt (q :: qs) k = some q.2 := by simp [valueAt, List.find?_cons, e']
      rw [valV_pos e, b]; exact h2
    · have e' : ¬ q.1 = k := fun z => e (h1.trans z)
      have b : valueAt (q :: qs) k = valueAt qs k := by simp [valueAt, List.find?_cons, e']
      rw [valV_neg e, b]; exact ih
theorem KV.any {kvs : List (κ × V)} {vs : List (κ × Value)} (r : KV kvs vs) (k : κ) : (kvs.any fun kv => decide (kv.1 = k)) = vs.any fun kv => decide (kv.1 = k) := by
  unfold KV at r
  induction r with
  | nil => rfl
  | cons h t ih => rw [List.any_cons, List.any_cons, ih, h.1]
theorem KV.repl {kvs : List (κ × V)} {vs : List (κ × Value)} (r : KV kvs vs) (k : κ) {y : V} {u : Value} (ry : RelV y u) :
    KV (kvs.map fun kv => if kv.1 = k then (kv.1, y) else kv) (vs.map fun kv => if kv.1 = k then (kv.1, u) else kv) := by
  unfold KV at r ⊢
  induction r with
  | nil => exact .nil
  | @cons p q ps qs h t ih =>
    rw [List.map_cons, List.map_cons]
    refine .cons ?_ ih
    obtain ⟨h1, h2⟩ := h
    by_cases e : p.1 = k
    · rw [if_pos e, if_pos (h1.symm.trans e)]; exact ⟨h1, ry⟩
    · rw [if_neg e, if_neg (fun z => e (h1.trans z))]; exact ⟨h1, h2⟩
theorem KV.put {kvs : List (κ × V)} {vs : List (κ × Value)} (r : KV kvs vs) (k : κ) {y : V} {u : Value} (ry : RelV y u) : KV (putK kvs k y) (stored vs k u) := by
  unfold putK stored
  rw [r.any k]
  by_cases e : (vs.any fun kv => decide (kv.1 = k)) = true
  · rw [if_pos e, if_pos e]; exact r.repl k ry
  · rw [if_neg e, if_neg e]; exact Paired.snoc r ⟨rfl, ry⟩
theorem KV.drop {kvs : List (κ × V)} {vs : List (κ × Value)} (r : KV kvs vs) (k : κ) : KV (dropK kvs k) (without vs k) := by
  unfold KV at r ⊢
  unfold dropK without
  induction r with
  | nil => exact .nil
  | @cons p q ps qs h t ih =>
    obtain ⟨h1, h2⟩ := h
    rw [List.filter_cons, List.filter_cons]
    by_cases e : p.1 = k
    · have a : ¬ decide (p.1 ≠ k) = true := by simp [e]
      have b : ¬ decide (q.1 ≠ k) = true := by simp [h1.symm.trans e]
      rw [if_neg a, if_neg b]; exact ih
    · have e' : ¬ q.1 = k := fun z => e (h1.trans z)
      have a : decide (p.1 ≠ k) = true := by simp [e]
      have b : decide (q.1 ≠ k) = true := by simp [e']
      rw [if_pos a, if_pos b]; exact .cons ⟨h1, h2⟩ ih
theorem KV.keys {kvs : List (κ × V)} {vs : List (κ × Value)} (r : KV kvs vs) : kvs.map (·.1) = vs.map (·.1) := by
  unfold KV at r
  induction r with
  | nil => rfl
  | cons h t ih => rw [List.map_cons, List.map_cons, ih, h.1]
theorem KV.length {kvs : List (κ × V)} {vs : List (κ × Value)} (r : KV kvs vs) : kvs.length = vs.length := Paired.length r
end


/-- raw entries of a dict with tuple keys -/
abbrev KT (H : Hp) : List (List Key × V) → List (List Key × Addr × Value) → Prop := Paired fun p q => p.1 = q.1 ∧ H q.2.1 = some (.tup (p.1.map kV)) ∧ RelV p.2 q.2.2
theorem KT.val {H : Hp} {kvs : List (List Key × V)} {xs : List (List Key × Addr × Value)} (r : KT H kvs xs) (k : List Key) : RelO (valV kvs k) ((atKey xs k).map (·.2)) := by
  induction r with
  | nil => exact True.intro
  | @cons p q ps qs h t ih =>
    obtain ⟨h1, _, h2⟩ := h
    by_cases e : p.1 = k
    · have e' : q.1 = k := h1.symm.trans e
      have b : atKey (q :: qs) k = some q.2 := by simp [atKey, List.find?_cons, e']
      rw [valV_pos e, b]; exact h2
    · have e' : ¬ q.1 = k := fun z => e (h1.trans z)
      have b : atKey (q :: qs) k = atKey qs k := by simp [atKey, List.find?_cons, e']
      rw [valV_neg e, b]; exact ih
theorem KT.repl {H : Hp} {kvs : List (List Key × V)} {xs : List (List Key × Addr × Value)} (r : KT H kvs xs) (k : List Key) {y : V} {u : Value} (ry : RelV y u) :
    KT H (kvs.map fun kv => if kv.1 = k then (kv.1, y) else kv) (xs.map (putAt k u)) := by
  induction r with
  | nil => exact .nil
  | @cons p q ps qs h t ih =>
    rw [List.map_cons, List.map_cons]
    refine .cons ?_ ih
    obtain ⟨h1, h2, h3⟩ := h
    unfold putAt
    by_cases e : p.1 = k
    · rw [if_pos e, if_pos (h1.symm.trans e)]; exact ⟨h1, h2, ry⟩
    · rw [if_neg e, if_neg (fun z => e (h1.trans z))]; exact ⟨h1, h2, h3⟩
theorem KT.put {H : Hp} {kvs : List (List Key × V)} {xs : List (List Key × Addr × Value)} (r : KT H kvs xs) (k : List Key) {b : Addr} {y : V} {u : Value} (hb : H b = some (.tup (k.map kV))) (ry : RelV y u) :
    KT H (putK kvs k y) (storedH xs k b u) := by
  have e : (kvs.any fun kv => decide (kv.1 = k)) = (atKey xs k).isSome := by
    rw [valV_any, (r.val k).isSome_eq, Option.isSome_map]
  unfold putK storedH
  rw [e]
  by_cases q : (atKey xs k).isSome = true
  · rw [if_pos q, if_pos q]; exact r.repl k ry
  · rw [if_neg q, if_neg q]; exact Paired.snoc r ⟨rfl, hb, ry⟩
theorem KT.keeps {H H' : Hp} {kvs : List (List Key × V)} {xs : List (List Key × Addr × Value)} (r : KT H kvs xs) (ht : ∀ b ys, H b = some (.tup ys) → H' b = some (.tup ys)) : KT H' kvs xs :=
  Paired.mapP r fun _ _ z => ⟨z.1, ht _ _ z.2.1, z.2.2⟩

section
variable {P : Program} {w : World} {H : Hp} {h : Heap} {a : Addr}
end

/-- what the dict at a holds at the key y -/
def DGet (H : Hp) (a : Addr) (y : V) (r : Option V) : Prop :=
  (∃ kvs k, Rd H a (.dK kvs) ∧ y = kV k ∧ r = valV kvs k) ∨ ∃ kvs k b, Rd H a (.dT kvs) ∧ y = .ref b ∧ H b = some (.tup (k.map kV)) ∧ r = valV kvs k
/-- the heap behind a[y] = v -/
def DPut (H : Hp) (a : Addr) (y v : V) (H' : Hp) : Prop :=
  (∃ kvs k, H a = some (.dK kvs) ∧ y = kV k ∧ kvs.length < sizeLine ∧ H' = upd H a (.dK (putK kvs k v))) ∨
  ∃ kvs k b, H a = some (.dT kvs) ∧ y = .ref b ∧ H b = some (.tup (k.map kV)) ∧ kvs.length < sizeLine ∧ H' = upd H a (.dT (putK kvs k v))
theorem DGet.k {H : Hp} {a : Addr} {kvs : List (Key × V)} {k : Key} (e : H a = some (.dK kvs)) : DGet H a (kV k) (valV kvs k) := .inl ⟨kvs, k, .inl e, rfl, rfl⟩
theorem DGet.t {H : Hp} {a b : Addr} {kvs : List (List Key × V)} {k : List Key} (e : H a = some (.dT kvs)) (eb : H b = some (.tup (k.map kV))) : DGet H a (.ref b) (valV kvs k) := .inr ⟨kvs, k, b, .inl e, rfl, eb, rfl⟩
theorem DPut.k {H : Hp} {a : Addr} {kvs : List (Key × V)} {k : Key} {v : V} (e : H a = some (.dK kvs)) (hl : kvs.length < sizeLine) : DPut H a (kV k) v (upd H a (.dK (putK kvs k v))) := .inl ⟨kvs, k, e, rfl, hl, rfl⟩
theorem DPut.t {H : Hp} {a b : Addr} {kvs : List (List Key × V)} {k : List Key} {v : V} (e : H a = some (.dT kvs)) (eb : H b = some (.tup (k.map kV))) (hl : kvs.length < sizeLine) :
    DPut H a (.ref b) v (upd H a (.dT (putK kvs k v))) := .inr ⟨kvs, k, b, e, rfl, eb, hl, rfl⟩


section
variable {X : Cx} {pins : List (Addr × Obj)} {σ : St} {H : Hp} {s : Shared} {a : Addr} {y v : V} {u r : Value} {o : Option V} {A : Around} {E : Value → Shared → Prop}

theorem Inv.big (I : Inv X pins σ H s) : sysModules < s.heap.objs.size := by
  have h : mainGlobals < s.heap.objs.size := (I.mod.glob.keeps I.bk).lt
  exact Nat.lt_trans (by decide) h

end

section
variable {X : Cx} {pins : List (Addr × Obj)} {σ : St} {H : Hp} {s : Shared} {a : Addr} {kvs : List (Key × V)} {k : Key} {u : Value} {A : Around} {E : Value → Shared → Prop}
end


section
variable {X : Cx} {o i e value : Expr} {pos pos' tpos : Pos} {td ty tv : TE}
end


theorem dk_empty {P : Program} {w : World} {H : Hp} (h : Heap) (hb : sysModules < h.objs.size) : ObjOk P w H (h.push { cls := .type "dict", data := .dict #[] }) h.objs.size (.dK []) :=
  ⟨Nat.zero_le _, beq_eq_false_iff_ne.mpr (Ne.symm (Nat.ne_of_lt hb)), [], .nil, Heap.DictOf.new h⟩
/-- {}, to be a dict of the kind that is wanted -/
def tDNewK : TE := fun _ H Q => ∀ p, H p = none → Q (.ref p) (upd H p (.dK []))
section
variable {X : Cx} {pos : Pos}
theorem pe_dnewK : PE X (.Dict [] [] pos) tDNewK := fun pins s σ H Q I h =>
  wpAny_Dict_empty ⟨.ref s.heap.objs.size, _, I.laid (a := s.heap.objs.size) (o := .dK []) (t' := s.toks) (fun _ _ q => Heap.get?_push_of_some _ q) (Nat.le_refl _) (dk_empty s.heap I.big), rfl, h _ (I.hok.fresh (Nat.le_refl _))⟩
end

/-- the pairs of a display, from the left -/
def tPairs : List (TE × TE) → St → Hp → (List (V × V) → Hp → Prop) → Prop
  | [], _, H, Q => Q [] H
  | (tk, tv) :: r, σ, H, Q => tk σ H fun x H1 => tv σ H1 fun y H2 => tPairs r σ H2 fun ps H3 => Q ((x, y) :: ps) H3
abbrev VV : List (V × V) → List (Value × Value) → Prop := Paired fun p q => RelV p.1 q.1 ∧ RelV p.2 q.2
def PPs (X : Cx) (pos : Pos) (keys : List (Option Expr)) (values : List Expr) (trs : List (TE × TE)) : Prop :=
  ∀ (pins : List (Addr × Obj)) (s : Shared) (σ : St) (H : Hp) (Q : List (V × V) → Hp → Prop), Inv X pins σ H s → tPairs trs σ H Q →
    wpAny (model X.prog X.w) X.A (evalPairs (pairTrees keys values X.env pos)) (fun vs s' => ∃ ps H', Inv X pins σ H' s' ∧ VV ps vs ∧ Q ps H') X.xe s
/-- a method call o.m(e) of a built-in, with one argument: what must be seen of the text -/
structure M1 (X : Cx) (o : Expr) (m : Str) (apos : Pos) (e : Expr) (cpos : Pos) : Prop where
  base : attributeBase o m X.env (eval o X.env) = eval o X.env
  few : ((backTo cpos (starEach [e] X.env)).all (fun x => !x.1) && (backToKw cpos (keywordEach [] X.env)).all (fun x => x.1.isSome)
    && decide (([e] : List Expr).length + ([] : List Keyword).length + (if ([] : List Keyword).isEmpty then 0 else 1) < 30)) = true
  line : (apos.endLine == cpos.line) = true
  trees : backTo cpos (starEach [e] X.env) = [(false, eval e X.env)]
structure M2 (X : Cx) (o : Expr) (m : Str) (apos : Pos) (e f : Expr) (cpos : Pos) : Prop where
  base : attributeBase o m X.env (eval o X.env) = eval o X.env
  few : ((backTo cpos (starEach [e, f] X.env)).all (fun x => !x.1) && (backToKw cpos (keywordEach [] X.env)).all (fun x => x.1.isSome)
    && decide (([e, f] : List Expr).length + ([] : List Keyword).length + (if ([] : List Keyword).isEmpty then 0 else 1) < 30)) = true
  line : (apos.endLine == cpos.line) = true
  trees : backTo cpos (starEach [e, f] X.env) = [(false, eval e X.env), (false, eval f X.env)]

section
variable {X : Cx} {pins : List (Addr × Obj)} {σ : St} {H : Hp} {s : Shared} {a : Addr} {y d : V} {u r : Value} {o : Option V} {A : Around} {E : Value → Shared → Prop}
end

section
variable {X : Cx} {o e f : Expr} {apos cpos : Pos} {td ty tx : TE}
end

section
variable {X : Cx} {pins : List (Addr × Obj)} {σ : St} {H : Hp} {s : Shared} {a : Addr} {kvs : List (Key × V)} {A : Around} {E : Value → Shared → Prop}
end


section
variable {X : Cx} {pins : List (Addr × Obj)} {σ : St} {H : Hp} {s : Shared} {a : Addr} {y : V} {u : Value} {A : Around} {E : Value → Shared → Prop}
end
end L2

namespace Att
open PySem PySem.W PySem.Calls PyProof.Rows

theorem ints_of_wellAll {P : Params} {h : Heap} : ∀ (ns : List Int) (vs : List Value), WellAll P h vs (ns.map WData.int) → IntsAre vs ns := by
  intro ns
  induction ns with
  | nil =>
    intro vs w
    rw [List.map_nil] at w
    cases w
    exact .nil
  | cons n ns ih =>
    intro vs w
    rw [List.map_cons] at w
    cases w with
    | cons a b =>
      cases a
      exact .cons _ _ (ih _ b)

theorem script_of {l : OpenLaw} {n : Nat} (hn : l.most = some n) {P : Params} {h : Heap} {args : List WData} {vals : List Value}
    (hpre : l.row.toRowW.claim.pre args = true) (hwl : WellAll P h vals args) :
    ∃ a vs ns, vals = [Value.ref a] ∧ args = [WData.list (ns.map WData.int)] ∧ h.get? a = some { cls := .type "list", data := .seq vs.toArray } ∧ IntsAre vs ns ∧ ns.length ≤ n := by
  have hsh : WShape.hasAll [] args [.list .int] = true := (pre_splitW hpre).1
  have hc : l.pre.holds [] { args := args } = true := (pre_splitW hpre).2
  obtain ⟨d, r, rfl, h1, h2⟩ := hasAllW_cons hsh
  obtain rfl := hasAllW_nil h2
  obtain ⟨xs, rfl, h3⟩ := hasW_list h1
  obtain ⟨ns, rfl⟩ := items_int h3
  have hlen : ns.length ≤ n := by
    unfold OpenLaw.pre at hc
    have h4 : (WTm.not (.lt (.lit (.int (n : Int))) (.len (.arg 0)))).holds [] { args := [.list (ns.map .int)] } = true := by
      have h4 := (holds_andW hc).1
      rw [hn] at h4
      exact h4
    have h5 := condW_of h4 (w_not (w_lt w_lit (w_len_list (w_arg rfl))))
    rw [List.length_map] at h5
    refine Nat.le_of_not_lt fun q => ?_
    have q' : (n : Int) < ((ns.length : Nat) : Int) := by omega
    first
      | (rw [decide_eq_true q'] at h5; exact absurd h5 (by decide))
      | (simp at h5; omega)
  cases hwl with
  | cons w1 w2 =>
    cases w2
    cases w1 with
    | list ho hall => exact ⟨_, _, ns, rfl, rfl, ho, ints_of_wellAll ns _ hall, hlen⟩

theorem post_true (l : OpenLaw) (args : List WData) : l.row.toRowW.claim.post args (.bool true) args = true :=
  postW_of (r := l.row.toRowW) (X := (true == true))
    (show WShape.has [] (.bool true) .bool = true by first | rfl | decide | simp [WShape.has, WShape.arms, WShape.armsAll])
    (show (WTm.eq .res (.lit (.bool true))).value [] { args := args, res := some (.bool true), after := args } = some (.bool (true == true)) from w_eq_bool (w_res rfl) w_lit) rfl

/-- the same from a codeAny of the CALL (for a layer whose function contracts speak of calls) -/
theorem attach_call {l : OpenLaw} {n : Nat} {q : Program} {loose : List Str} {XP : (Str → Option Value) → Heap → Prop} {YP : World → Heap → Prop} {d : DefRec}
    (hn : l.most = some n) (hdf : d.params.defaults = [])
    (call : ∀ (w : World) (s₀ s₁ : Shared) (mg mb : Str → Option Value) (fa : Addr) (o : Obj) (pm cd doc : Value) (a : Addr) (vs : List Value) (ns : List Int),
      Ground q loose [] XP w s₀ mg mb s₁.heap → YP w s₁.heap →
      s₁.heap.get? fa = some o → o.data = .func (docDef d.name d.params d.body d.scope pm cd doc) → s₁.heap.CodeRec cd d.name → mg d.name = some (.ref fa) →
      s₁.heap.get? a = some { cls := .type "list", data := .seq vs.toArray } → IntsAre vs ns → ns.length ≤ n → s₁.gens = #[] →
      codeAny (model l.prog w) callerA (.call (.ref fa) ⟨[.ref a], []⟩) (fun r s' => r = .ok (.ret (.bool true)) ∧ OldK s₁.heap s'.heap ∧ s'.os = s₁.os ∧ AllBare s'.gens) s₁) :
    WalkO q loose XP YP l.row.toRowW d [] (fun f vs => PySem.call f vs) := by
  intro w s₀ s₁ mg mb G Y fa o pm cd doc dV kV ho hd hcd hD hmg hg args vals as hpre hlay hrd hwl hlo
  obtain rfl : dV = .none := Dflts.none hD hdf
  obtain rfl : kV = .none := Dflts.noKw hD
  obtain ⟨a, vs, ns, rfl, rfl, hobj, hints, hlen⟩ := script_of hn hpre hwl
  refine enter_call (codeAny_mono (call w s₀ s₁ mg mb fa o pm cd doc a vs ns G Y ho (fd_plain hd) hcd hmg hobj hints hlen hg) fun r s' hq => ?_)
  obtain ⟨rfl, h2, h3, h4⟩ := hq
  exact ⟨.inl ⟨.bool true, .bool true, [], rfl, fun _ => rfl, .bool true, post_true l _, fun _ => ⟨List.Pairwise.nil, fun _ hm => (nomatch hm)⟩⟩, h2, h3, h4⟩

section
variable {prog : Program} {w : World} {A : Around} {E : Value → Shared → Prop} {s : Shared} {K : Frag}

end
end Att

namespace L2
open PySem PySem.Spec PyProof.Rows

theorem vals_ints : ∀ {vs : List Value} {ns : List Int}, IntsAre vs ns → Vals (ns.map V.int) vs
  | _, _, .nil => .nil
  | _, _, .cons n t h => .cons ⟨t, rfl⟩ (vals_ints h)

/-- nothing is tracked but the script, known to the object (or it is an object of the module) -/
def Only (H : Hp) : Prop := ∀ b, H b = none ∨ ∃ o xs, H b = some (.frz o (.lst xs))

/-- THE HEAD: the law's promise, at the heap behind the top. F, the promise of the law's def, may use that base is part of the heap (so K.In base, base.Ns mainGlobals mg stand in Mod) -/
theorem law_call {P : Program} {w : World} {K : PySem.W.Frag} {mg mb : Str → Option Value} {CX : CXT} {k : Nat} {fa a : Addr} {fd : FuncData} {x : Str} {sp : Sp} {s₁ : Shared} {vs : List Value} {ns : List Int}
    (KX : K.In s₁.heap) (hns : s₁.heap.Ns mainGlobals mg) (hb : s₁.heap.Ns builtinsNs mb) (hbb : ∀ x : Str, x ≠ "__name__" → mb x = bootBuiltins x) (hlim : s₁.heap.NoLimit) (hg : s₁.gens = #[])
    (ha : s₁.heap.get? a = some { cls := .type "list", data := .seq vs.toArray }) (hi : IntsAre vs ns) (hl : ns.length ≤ sizeLine) (hr : Room k callerA)
    (F : ∀ base : Heap, K.In base → base.Ns mainGlobals mg → FnOk P w K mg base CX k fa fd [x] sp) (hbind : ∀ (s : Shared) (u : Value), BindsTo s fd ⟨[u], []⟩ [(x, u)])
    (hsp : ∀ H : Hp, Only H → SqL K H a (ns.map V.int) → sp [.ref a] H (fun v _ => v = .bl true) fun _ _ _ => False)
    (hCX : ∀ H e s', CX [] H s₁ (fun _ _ _ => False) e s' → False) :
    codeAny (model P w) callerA (.call (.ref fa) ⟨[.ref a], []⟩) (fun r s' => r = .ok (.ret (.bool true)) ∧ OldK s₁.heap s'.heap ∧ s'.os = s₁.os ∧ AllBare s'.gens) s₁ := by
  have rv := vals_ints hi
  have lenV := hi.length
  -- from an abstract heap in which nothing but the script may be tracked
  have core : ∀ H : Hp, Only H → SqL K H a (ns.map V.int) → HOk P w H s₁.heap → (∀ b, H b ≠ none → b = a) → (H a ≠ none → K.lookup a = none) →
      codeAny (model P w) callerA (.call (.ref fa) ⟨[.ref a], []⟩) (fun r s' => r = .ok (.ret (.bool true)) ∧ OldK s₁.heap s'.heap ∧ s'.os = s₁.os ∧ AllBare s'.gens) s₁ := by
    intro H hO hS hok hA hK
    have base_of : ∀ {b : Addr} {o : Obj}, s₁.heap.get? b = some o → H b = none → (hidT s₁.heap H).get? b = some o := fun e n => hidT_get e n
    have noA : ∀ {b : Addr} {o : Obj} {es : Array DictEntry} {ep : Nat}, s₁.heap.get? b = some o → o.data = .dict es ep → H b = none := fun {b o es ep} e d => by
      cases q : H b with
      | none => rfl
      | some u =>
        have e' : b = a := hA b (by rw [q]; simp)
        subst e'
        rw [ha] at e; cases e
        have d' : Data.seq vs.toArray _ = Data.dict es ep := d
        cases d'
    have nsK : ∀ {b : Addr} {m : Str → Option Value}, s₁.heap.Ns b m → (hidT s₁.heap H).Ns b m := fun {b m} ⟨o, es, ep, e, d, r⟩ => ⟨o, es, ep, base_of e (noA e d), d, r⟩
    have hKb : K.In (hidT s₁.heap H) := fun b o e => base_of (KX b o e) (by
      cases q : H b with
      | none => rfl
      | some u =>
        have e' : b = a := hA b (by rw [q]; simp)
        subst e'
        rw [hK (by rw [q]; simp)] at e; cases e)
    have hM : Mod K mg (hidT s₁.heap H) := ⟨hKb, nsK hns, ⟨mb, nsK hb, hbb⟩, let ⟨mc, h1, h2⟩ := hlim; ⟨mc, nsK h1, h2⟩⟩
    have e0 : Env0 P w K mg (hidT s₁.heap H) callerA [] s₁ H := ⟨rfl, hM, fun b o e => of_hidT e, Nat.le_of_eq (hidT_size _ _), trivial, fun b hb => absurd (show b ∈ ([] : List Addr) from hb) (by simp), hok, .of_eq hg⟩
    refine codeAny_mono ((F _ hKb (nsK hns)).run callerA [] s₁ H ⟨[.ref a], []⟩ [.ref a] [.ref a] _ _ hr e0 (hbind s₁ (.ref a)) (.cons rfl .nil) (hsp H hO hS)) fun r s' h => ?_
    cases r with
    | error e => exact (hCX H e s' h).elim
    | ok fl =>
      cases fl with
      | next => exact False.elim h
      | brk => exact False.elim h
      | cont => exact False.elim h
      | ret u =>
        obtain ⟨v, H', os, bare, un, hok', r', q⟩ := h
        have q' : v = .bl true := q
        subst q'
        obtain rfl : u = Value.bool true := r'
        refine ⟨rfl, OldK.of_keep fun b o e => ?_, os, bare⟩
        cases q : H b with
        | none => exact un.keep b o e q (by intro z; exact absurd (show b ∈ ([] : List Addr) from z) (by simp)) (by simp)
        | some u =>
          rcases hO b with z | ⟨ob, xs, z⟩
          · rw [q] at z; cases z
          · have z2 := un.frzs b ob _ z
            obtain ⟨e1, _⟩ := hok b _ z
            obtain ⟨e2, _⟩ := hok' b _ z2
            rw [e] at e1; cases e1
            exact e2
  cases hk : K.lookup a with
  | some o =>
    -- the script is one of the module's own objects
    have e := KX a o hk
    rw [ha] at e
    cases e
    refine core (fun _ => none) (fun _ => .inl rfl) (.inr ⟨_, vs.toArray, _, hk, rfl, rfl, rfl, by rw [List.size_toArray, lenV]; exact hl, by simpa using rv⟩) (fun b u z => by have z' : (none : Option HO) = some u := z; cases z') (fun b z => absurd rfl z) fun z => absurd rfl z
  | none =>
    refine core (fun b => if b = a then some (.frz { cls := .type "list", data := .seq vs.toArray } (.lst (ns.map V.int))) else none) (fun b => ?_) (.inl (.inr ⟨{ cls := .type "list", data := .seq vs.toArray }, if_pos rfl⟩)) (fun b u z => ?_) (fun b z => ?_) fun _ => hk
    · by_cases hb : b = a
      · exact .inr ⟨_, _, if_pos hb⟩
      · exact .inl (if_neg hb)
    · by_cases hb : b = a
      · have z' := (if_pos hb).symm.trans z
        cases z'
        subst hb
        exact ⟨ha, by rw [List.length_map]; exact hl, vs, _, rv, ha⟩
      · have z' := (if_neg hb).symm.trans z
        cases z'
    · by_cases hb : b = a
      · exact hb
      · exact absurd (if_neg hb) z
end L2

namespace L2
open PySem PySem.Spec PyProof.Rows

/-- the goal that k_head leaves (case hc), from the law's promise. F gives the function object fd (K's own) once, then the promise over every base -/
theorem walk_of {l : PySem.W.OpenLaw} {n k : Nat} {q : Program} {loose : List Str} {XP : (Str → Option Value) → Heap → Prop} {YP : World → Heap → Prop} {d : DefRec} {K : Params → PySem.W.Frag} {CX : World → CXT} {sp : World → Sp} {x : Str}
    (hn : l.most = some n) (hn2 : n ≤ sizeLine) (hdf : d.params.defaults = []) (hr : Room k callerA)
    (hY : ∀ (w : World) (h : Heap), YP w h → (K w.params).In h)
    (F : ∀ (w : World) (mg : Str → Option Value) (fa : Addr) (h : Heap), (K w.params).In h → h.Ns mainGlobals mg → mg d.name = some (.ref fa) →
      ∃ fd : FuncData, (∀ (s : Shared) (u : Value), BindsTo s fd ⟨[u], []⟩ [(x, u)]) ∧
        ∀ base : Heap, (K w.params).In base → base.Ns mainGlobals mg → FnOk l.prog w (K w.params) mg base (CX w) k fa fd [x] (sp w))
    (hsp : ∀ (w : World) (H : Hp) (a : Addr) (ns : List Int), ns.length ≤ n → Only H → SqL (K w.params) H a (ns.map V.int) → sp w [.ref a] H (fun v _ => v = .bl true) fun _ _ _ => False)
    (hCX : ∀ (w : World) (H : Hp) (s : Shared) (e : Value) (s' : Shared), CX w [] H s (fun _ _ _ => False) e s' → False) :
    PySem.W.WalkO q loose XP YP l.row.toRowW d [] (fun f vs => PySem.call f vs) := by
  refine Att.attach_call hn hdf fun w s₀ s₁ mg mb fa o pm cd doc a vs ns G Y ho hd hcd hmg hobj hints hlen hg => ?_
  have KX := hY w _ Y
  obtain ⟨fd, hb, hF⟩ := F w mg fa _ KX G.T.g hmg
  exact law_call KX G.T.g G.T.b G.T.builtins G.T.nolimit hg hobj hints (Nat.le_trans hlen hn2) hr hF hb (fun H hO hS => hsp w H a ns hlen hO hS) fun H e s' => hCX w H s₁ e s'
end L2



namespace L2
open PySem PySem.Spec PyProof.Rows

/-- the j-th statement of a class's body -/
def inClass (s : Stmt) (j : Nat) : Stmt := match s with
  | .ClassDef _ _ _ body _ _ _ _ _ _ _ => body.getD j (.Pass ⟨0, 0, 0, 0⟩)
  | _ => .Pass ⟨0, 0, 0, 0⟩
def defArgs (s : Stmt) : Arguments := match s with
  | .FunctionDef _ a _ _ _ _ _ _ _ _ => a
  | _ => { posonlyargs := [], args := [], vararg := none, kwonlyargs := [], kw_defaults := [], kwarg := none, defaults := [] }
def defBody (s : Stmt) : List Stmt := match s with
  | .FunctionDef _ _ b _ _ _ _ _ _ _ => b
  | _ => []
def defScope (s : Stmt) : Scope := match s with
  | .FunctionDef _ _ _ _ _ _ sc _ _ _ => sc
  | _ => { kind := .function, names := [], isGenerator := false, isCoroutine := false }

abbrev CX0 : CXT := fun _ _ _ _ _ _ => False
abbrev E0 : XK := fun _ _ _ => False
theorem pass0 {X : Cx} : Passes CX0 X E0 := fun _ _ _ _ _ _ _ h => h.elim

structure Fun (K : PySem.W.Frag) (x qual : Str) (st : Stmt) (f : Addr) (fd : FuncData) : Prop where
  ex : ∃ (oc : Value) (od : Option Addr) (kV doc pm : Value) (an : Option Addr) (cdv ct : Value) (osl : Array (Option Value)),
    fd = PySem.W.fnOf x qual (defArgs st) (defBody st) (defScope st) .none kV doc pm an cdv ct ∧ K.lookup f = some ⟨oc, od, .func fd, osl⟩ ∧ PySem.W.codeIn K cdv qual = true
  kp : PySem.W.keepIn K (.ref f) = true
section
variable {P : Program} {w : World} {K : PySem.W.Frag} {mg : Str → Option Value} {base : Heap}
/-- THE RULE for a def: its body as a term of rules, and the reading of that term -/
theorem Fun.ok {x qual : Str} {st : Stmt} {f : Addr} {fd : FuncData} {N ps : List Str} {k : Nat} {sp : Sp} (F : Fun K x qual st f fd) (S : FnScope N ps (defScope st)) (len : ∀ vs H Q E, sp vs H Q E → vs.length = ps.length)
    (hbody : ∀ (cdv : Value) (A : Around) (outer : List Env) (s : Shared) (H : Hp) (vs : List V) (Q : VK) (E : XK), Room k (A.deeper (envOfC qual (defScope st) s.heap.objs.size f cdv)) → sp vs H Q E →
      ∃ t, PSs (cxOf CX0 P w K mg base N qual (defScope st) f cdv A outer s H E).nox (defBody st) t ∧ t { nx := fun _ H' => Q .non H', rt := Q } (start N vs) H) : FnOk P w K mg base CX0 (k + 1) f fd ps sp := by
  obtain ⟨oc, od, kV, doc, pm, an, cdv, ct, osl, rfl, lk, hcd⟩ := F.ex
  refine fn_of lk hcd S len fun A outer s H vs Q E hr hsp => ?_
  obtain ⟨t, h, q⟩ := hbody cdv A outer s H vs Q E hr hsp
  exact ⟨t, h.nox, q⟩
/-- how its arguments bind (no defaults): h is «fun _ _ _ _ _ _ us hl => match us, hl with | [_, _], _ => rfl», one _ a parameter -/
theorem Fun.binds {x qual : Str} {st : Stmt} {f : Addr} {fd : FuncData} {ps : List Str} (F : Fun K x qual st f fd)
    (h : ∀ (kV doc pm : Value) (an : Option Addr) (cdv ct : Value) (us : List Value), us.length = ps.length → bindArgs (PySem.W.fnOf x qual (defArgs st) (defBody st) (defScope st) .none kV doc pm an cdv ct) ⟨us, []⟩ = pure (ps.zip us)) : Binds K fd ps [] := by
  obtain ⟨oc, od, kV, doc, pm, an, cdv, ct, osl, rfl, lk, hcd⟩ := F.ex
  exact .all (h kV doc pm an cdv ct)
theorem fun_mk {x qual : Str} {st : Stmt} {f : Addr} {oc : Value} {od an : Option Addr} {osl : Array (Option Value)} {kV doc pm cdv ct : Value} (l : K.lookup f = some ⟨oc, od, .func (PySem.W.fnOf x qual (defArgs st) (defBody st) (defScope st) .none kV doc pm an cdv ct), osl⟩)
    (c : PySem.W.codeIn K cdv qual = true) (k : PySem.W.keepIn K (.ref f) = true) : Fun K x qual st f (PySem.W.fnOf x qual (defArgs st) (defBody st) (defScope st) .none kV doc pm an cdv ct) := ⟨⟨oc, od, kV, doc, pm, an, cdv, ct, osl, rfl, l, c⟩, k⟩
end
section
variable {X : Cx}
theorem pv (i : Nat) {x : Str} {pos : Pos} (hN : X.N[i]? = some x := by rfl) (hv : Vis X.env.scope x := by first | exact Or.inl rfl | exact Or.inr (Or.inl rfl) | exact Or.inr (Or.inr rfl)) (hd : (x == ("__debug__" : Str)) = false := by decide)
    (hcd : (x == ("__classdict__" : Str)) = false := by decide) : PE X (.Name x pos) (tVar i) := pe_var hN hv hd hcd
end

theorem iteF {A B : Prop} (h : B) : if false = true then A else B := by
  rw [if_neg Bool.false_ne_true]
  exact h
theorem ite2 {c A B : Prop} [Decidable c] (h1 : c → A) (h2 : ¬ c → B) : if c then A else B := by
  by_cases h : c
  · rw [if_pos h]
    exact h1 h
  · rw [if_neg h]
    exact h2 h
/-- all that was tracked is as it was -/
def Same (H H' : Hp) : Prop := ∀ b o, H b = some o → H' b = some o
theorem Same.refl (H : Hp) : Same H H := fun _ _ h => h
theorem Same.trans {H H1 H2 : Hp} (a : Same H H1) (b : Same H1 H2) : Same H H2 := fun c o h => b c o (a c o h)
theorem Same.free {H H' : Hp} (e : Same H H') {l : Addr} (h : H' l = Option.none) : H l = Option.none := by
  cases q : H l with
  | none => rfl
  | some o =>
    rw [e l o q] at h
    cases h
theorem Same.seq {K : PySem.W.Frag} {H H' : Hp} {a : Addr} {xs : List V} (e : Same H H') (h : SqL K H a xs) : SqL K H' a xs := by
  rcases h with (h | ⟨o, h⟩) | h
  · exact .inl (.inl (e _ _ h))
  · exact .inl (.inr ⟨o, e _ _ h⟩)
  · exact .inr h

end L2

namespace L2
open PySem PySem.Spec PyProof.Rows
section
variable {X : Cx}
end
end L2
namespace L2
open PySem PySem.Spec PyProof.Rows
section
variable {κ : Type} [DecidableEq κ]
theorem nd_snoc : ∀ {l : List κ} {k : κ}, l.Nodup → ¬ k ∈ l → (l ++ [k]).Nodup
  | [], k, _, _ => by simp
  | a :: r, k, h, hk => by
    obtain ⟨h1, h2⟩ := List.nodup_cons.mp h
    show (a :: (r ++ [k])).Nodup
    refine List.nodup_cons.mpr ⟨fun m => ?_, nd_snoc h2 fun m => hk (List.mem_cons.mpr (Or.inr m))⟩
    rcases List.mem_append.mp m with q | q
    · exact h1 q
    · exact hk (List.mem_cons.mpr (Or.inl (List.mem_singleton.mp q).symm))
end
end L2
namespace L2
open PySem PySem.Spec PyProof.Rows

def clos (env : Env) : List (Str × NameKind) → List (Str × Addr) → List (Str × Addr)
  | [], acc => acc
  | (n, k) :: r, acc => clos env r (if k = .free then (n, (env.cells.lookup n).getD 0) :: acc else acc)
theorem closFor_go {env : Env} : ∀ (names : List (Str × NameKind)) (acc : List (Str × Addr)), (∀ y ∈ names, y.2 = .free → ∃ c, env.cells.lookup y.1 = some c) →
    (forIn names acc fun x r => match x with
      | (name, kind) => if (kind == NameKind.free) = true then do let a ← cellOf env name; pure (ForInStep.yield ((name, a) :: r)) else pure (ForInStep.yield r) : Sem (List (Str × Addr))) = pure (clos env names acc)
  | [], acc, _ => rfl
  | (n, k) :: r, acc, h => by
    have ih := fun acc => closFor_go (env := env) r acc fun y hy => h y (List.mem_cons_of_mem _ hy)
    rw [List.forIn_cons]
    by_cases hk : k = .free
    · subst hk
      obtain ⟨c, e⟩ := h (n, .free) List.mem_cons_self rfl
      have e1 : cellOf env n = pure c := by unfold cellOf; rw [e]
      simp only [beq_self_eq_true, if_true, e1, pure_bind]
      rw [ih]
      show _ = pure (clos env r (if (NameKind.free : NameKind) = .free then (n, (env.cells.lookup n).getD 0) :: acc else acc))
      rw [if_pos rfl, e]
      all_goals rfl
    · have hb : (k == NameKind.free) = false := by simpa using hk
      simp only [hb, Bool.false_eq_true, if_false, pure_bind]
      rw [ih]
      show _ = pure (clos env r (if k = .free then (n, (env.cells.lookup n).getD 0) :: acc else acc))
      rw [if_neg hk]
theorem closFor {env : Env} {scope : Scope} (h : ∀ y ∈ scope.names, y.2 = .free → ∃ c, env.cells.lookup y.1 = some c) : closureFor scope env = pure (clos env scope.names []) := by
  unfold closureFor
  have e := closFor_go scope.names [] h
  simp only [bind_pure]
  exact e
theorem clos_old {env : Env} {x : Str} {c : Addr} : ∀ (names : List (Str × NameKind)) (acc : List (Str × Addr)), (∀ y ∈ names, y.2 = .free → ∃ c, env.cells.lookup y.1 = some c) →
    (∀ y d, acc.lookup y = some d → env.cells.lookup y = some d) → (clos env names acc).lookup x = some c → env.cells.lookup x = some c
  | [], acc, _, ha, e => ha x c e
  | (n, k) :: r, acc, h, ha, e => by
    refine clos_old r _ (fun y hy => h y (List.mem_cons_of_mem _ hy)) (fun y d q => ?_) e
    by_cases hk : k = .free
    · rw [if_pos hk, List.lookup_cons] at q
      obtain ⟨c', e'⟩ := h (n, k) List.mem_cons_self hk
      cases hy : y == n with
      | true =>
        rw [hy] at q
        have := eq_of_beq hy
        subst this
        rw [e'] at q ⊢
        exact q
      | false => rw [hy] at q; exact ha y d q
    · rw [if_neg hk] at q; exact ha y d q
theorem clos_keeps {env : Env} {x : Str} : ∀ (names : List (Str × NameKind)) (acc : List (Str × Addr)), (∃ c, acc.lookup x = some c) → ∃ c, (clos env names acc).lookup x = some c
  | [], _, h => h
  | (n, k) :: r, acc, h => by
    refine clos_keeps r _ ?_
    by_cases hk : k = .free
    · rw [if_pos hk, List.lookup_cons]
      cases hy : x == n with
      | true => exact ⟨_, rfl⟩
      | false => exact h
    · rw [if_neg hk]; exact h
theorem clos_has {env : Env} {x : Str} : ∀ (names : List (Str × NameKind)) (acc : List (Str × Addr)), (x, NameKind.free) ∈ names → ∃ c, (clos env names acc).lookup x = some c
  | [], _, h => by simp at h
  | (n, k) :: r, acc, h => by
    rcases List.mem_cons.mp h with e | h
    · cases e
      refine clos_keeps r _ ?_
      rw [if_pos rfl, List.lookup_cons, beq_self_eq_true]
      exact ⟨_, rfl⟩
    · exact clos_has r _ h

def compCx (X : Cx) (scope : Scope) (N' : List Str) (s₃ : Shared) (H₃ : Hp) (fp : List Addr) : Cx :=
  { X with
    N := N'
    s₀ := s₃
    H₀ := H₃
    env := compEnvC scope (clos X.env scope.names []) s₃.heap.objs.size X.env
    outer := X.stack
    stack := X.stack
    ex := fp
    fn := fun _ => false
    pn := []
    xe := fun _ _ => False }

/-- what is asked of the block's scope, all of it written in the text -/
structure CompScope (X : Cx) (scope : Scope) (N' : List Str) (cap : List (Nat × Nat)) : Prop where
  kind : scope.kind = .function
  cell : ∀ y ∈ scope.names, y.2 ≠ .cell
  loc : ∀ y ∈ scope.names, y.2 = .local → scope.names.lookup y.1 = some .local
  free : ∀ y ∈ scope.names, y.2 = .free → X.env.kindOf y.1 = some .cell ∨ X.env.kindOf y.1 = some .free
  capt : ∀ p ∈ cap, ∃ x, N'[p.1]? = some x ∧ X.N[p.2]? = some x ∧ scope.names.lookup x = some .free
/-- the slots at the block's entry: the captured ones -/
def capSt (n : Nat) (cap : List (Nat × Nat)) (σ : St) : St := (List.range n).map fun j => (cap.lookup j).bind fun i => (σ[i]?).join

theorem mem_lookupN : ∀ {l : List (Nat × Nat)} {j i : Nat}, l.lookup j = some i → (j, i) ∈ l
  | [], _, _, h => by simp at h
  | (a, b) :: r, j, i, h => by
    rw [List.lookup_cons] at h
    cases hj : j == a with
    | true =>
      rw [hj] at h
      have := eq_of_beq hj
      subst this
      have e : b = i := Option.some.inj h
      subst e
      exact List.mem_cons_self
    | false => rw [hj] at h; exact List.mem_cons_of_mem _ (mem_lookupN h)
theorem relabel_mem {env : Env} {names : List (Str × NameKind)} {x : Str} {k : NameKind} (h : (names.map fun (n, k) => if (k == NameKind.free && env.scope.kind == .function && env.kindOf n == some .cell) then (n, NameKind.cell) else (n, k)).lookup x = some k)
    (hk : k = .cell ∨ k = .free) (hc : ∀ y ∈ names, y.2 ≠ .cell) : (x, NameKind.free) ∈ names := by
  have m := PySem.mem_of_lookup h
  obtain ⟨⟨n, k'⟩, hm, e⟩ := List.mem_map.mp m
  by_cases hb : (k' == NameKind.free && env.scope.kind == .function && env.kindOf n == some .cell) = true
  · have e' : ((n, NameKind.cell) : Str × NameKind) = (x, k) := by rw [← e]; simp only [hb, if_true]
    cases e'
    have : k' = .free := by
      simp only [Bool.and_eq_true, beq_iff_eq] at hb
      exact hb.1.1
    subst this
    exact hm
  · have e' : ((n, k') : Str × NameKind) = (x, k) := by rw [← e]; simp only [hb]; rfl
    cases e'
    rcases hk with rfl | rfl
    · exact absurd rfl (hc _ hm)
    · exact hm
theorem relabel_free {env : Env} : ∀ {names : List (Str × NameKind)} {x : Str}, names.lookup x = some .free →
    (names.map fun (n, k) => if (k == NameKind.free && env.scope.kind == .function && env.kindOf n == some .cell) then (n, NameKind.cell) else (n, k)).lookup x = some .cell ∨
    (names.map fun (n, k) => if (k == NameKind.free && env.scope.kind == .function && env.kindOf n == some .cell) then (n, NameKind.cell) else (n, k)).lookup x = some .free
  | [], _, h => by simp at h
  | (n, k) :: r, x, h => by
    have ih := @relabel_free env r x
    simp only [List.map_cons]
    cases hx : x == n with
    | true =>
      rw [List.lookup_cons, hx] at h
      have hk : k = .free := Option.some.inj h
      subst hk
      by_cases hc : ((NameKind.free == NameKind.free) && env.scope.kind == .function && env.kindOf n == some .cell) = true
      · rw [if_pos hc, List.lookup_cons, hx]; exact .inl rfl
      · rw [if_neg hc, List.lookup_cons, hx]; exact .inr rfl
    | false =>
      rw [List.lookup_cons, hx] at h
      have h := ih h
      by_cases hc : (k == NameKind.free && env.scope.kind == .function && env.kindOf n == some .cell) = true
      · rw [if_pos hc, List.lookup_cons, hx]; exact h
      · rw [if_neg hc, List.lookup_cons, hx]; exact h

section
variable {X : Cx} {pins : List (Addr × Obj)} {σ : St} {H : Hp} {s : Shared}
theorem Inv.kindL (I : Inv X pins σ H s) {x : Str} (h : X.env.kindOf x = some .cell ∨ X.env.kindOf x = some .free) : ∃ c, X.env.cells.lookup x = some c := I.ok.has x h
/-- the block is entered: D is the list that grows, at the old size; the block's names stand behind it -/
theorem Inv.block {scope : Scope} {N' : List Str} {cap : List (Nat × Nat)} {fp : List Addr} {h₁ : Heap} {tk : Nat} {o : Obj} (S : CompScope X scope N' cap) (I : Inv X pins σ H s) (hf : ∀ b ∈ fp, FpOk X pins H b) (hlt : ∀ b ∈ fp, b < s.heap.objs.size)
    (hn : h₁.Ns s.heap.objs.size (fun x => ([] : List (Str × Value)).reverse.lookup x)) (hb : Heap.SameBut s.heap.objs.size (s.heap.push o) h₁) :
    Inv (compCx X scope N' s H fp) [] (capSt N'.length cap σ) H { s with heap := h₁, toks := tk } := by
  have old : ∀ b u, s.heap.get? b = some u → h₁.get? b = some u := fun b u e => (hb.2 b (Nat.ne_of_lt (Heap.lt_size e))).trans (Heap.get?_push_of_some _ e)
  have hfr : ∀ y ∈ scope.names, y.2 = .free → ∃ c, X.env.cells.lookup y.1 = some c := fun y hy hk => I.kindL (S.free y hy hk)
  have cl_old : ∀ x c, (clos X.env scope.names []).lookup x = some c → X.env.cells.lookup x = some c := fun x c e => clos_old scope.names [] hfr (fun _ _ q => by simp at q) e
  refine ⟨⟨I.ok.mod, S.kind, I.ok.glob, I.ok.blt, Nat.le_refl _, fun x y c h1 h2 => I.ok.inj x y c (cl_old x c h1) (cl_old y c h2), fun x hx => ?_, fun x c hq _ => (nomatch hq), I.ok.hd, I.ok.frames, .inl rfl, fun b hb' => ⟨?_, fun x c e => ?_⟩, I.bs,
      Nat.le_trans I.ok.bsz I.sz, fun b u e hb' => ?_, fun b hb' hs => ?_, I.stack, I.stkFree⟩, rfl, I.bare, Un.kept old, ⟨_, hn, fun j x v e1 e2 e3 => ?_⟩, fun x c e => ?_, I.hok.fresh (Nat.le_refl _), fun x c e => I.freeC x c (cl_old x c e), fun p hp => ?_, I.hok.kept old, ?_⟩
  · have hx' : (relabel scope X.env).names.lookup x = some .cell ∨ (relabel scope X.env).names.lookup x = some .free := hx
    have : (x, NameKind.free) ∈ scope.names := by
      rcases hx' with q | q
      · exact relabel_mem q (.inl rfl) S.cell
      · exact relabel_mem q (.inr rfl) S.cell
    exact clos_has scope.names [] this
  · exact Nat.ne_of_lt (hlt b hb')
  · exact (hf b hb').2.2.2.2.1 x c (cl_old x c e)
  · rcases (hf b hb').2.2.2.1 with z | z
    · exact I.ok.noex b u e z
    · exact absurd (Nat.lt_of_lt_of_le (Heap.lt_size e) (Nat.le_trans I.ok.bsz z)) (Nat.lt_irrefl _)
  · rcases List.mem_cons.mp (I.stkSub b hs) with z | z
    · exact (hf b hb').2.1 z
    · exact (hf b hb').2.2.1 z
  · -- a captured name
    have hj : ∃ i, cap.lookup j = some i ∧ σ[i]? = some (some v) := by
      have e2' : ((List.range N'.length).map fun j => (cap.lookup j).bind fun i => (σ[i]?).join)[j]? = some (some v) := e2
      rw [List.getElem?_map] at e2'
      cases hr : (List.range N'.length)[j]? with
      | none => rw [hr] at e2'; cases e2'
      | some j' =>
        rw [hr] at e2'
        have hj' : j' = j := by
          have := List.getElem?_eq_some_iff.mp hr
          obtain ⟨h1, h2⟩ := this
          simpa using h2.symm
        subst hj'
        have e3' : ((cap.lookup j').bind fun i => (σ[i]?).join) = some v := Option.some.inj e2'
        cases hc : cap.lookup j' with
        | none => rw [hc] at e3'; cases e3'
        | some i =>
          rw [hc] at e3'
          refine ⟨i, rfl, ?_⟩
          have e4 : (σ[i]?).join = some v := e3'
          cases hs : σ[i]? with
          | none => rw [hs] at e4; cases e4
          | some w => rw [hs] at e4; have : w = some v := e4; rw [this]
    obtain ⟨i, hc, hi⟩ := hj
    obtain ⟨y, n1, n2, n3⟩ := S.capt (j, i) (mem_lookupN hc)
    have hxy : y = x := Option.some.inj (n1.symm.trans e1)
    subst hxy
    have vis : X.env.kindOf y = some .cell ∨ X.env.kindOf y = some .free := S.free _ (PySem.mem_of_lookup n3) rfl
    obtain ⟨m, hm, hl⟩ := I.loc
    obtain ⟨u, r, l⟩ := hl i y v n2 hi (by rcases vis with q | q; exact .inr (.inl q); exact .inr (.inr q))
    refine ⟨u, r, .inr ⟨?_, ?_⟩⟩
    · exact relabel_free n3
    · rcases l with ⟨k, _⟩ | ⟨_, c, hcell, hv⟩
      · rcases vis with q | q
        · rw [k] at q; cases q
        · rw [k] at q; cases q
      · obtain ⟨c', hc'⟩ := clos_has (env := X.env) scope.names [] (PySem.mem_of_lookup n3)
        have := cl_old y c' hc'
        rw [hcell] at this
        have e5 : c = c' := Option.some.inj this
        subst e5
        obtain ⟨ob, ho, hd⟩ := hv
        exact ⟨c, hc', ob, old c ob ho, hd⟩
  · obtain ⟨v, ob, ho, hd⟩ := I.cell x c (cl_old x c e)
    exact ⟨v, ob, old c ob ho, hd⟩
  · exact absurd (show p ∈ ([] : List (Addr × Obj)) from hp) (by simp)
  · show (capSt N'.length cap σ).length = N'.length
    unfold capSt
    rw [List.length_map, List.length_range]
end

def PTs (X : Cx) (ifs : List Expr) (t : TT) : Prop :=
  ∀ (pins : List (Addr × Obj)) (s : Shared) (σ : St) (H : Hp) (Q : Bool → Hp → Prop), Inv X pins σ H s → t σ H Q →
    wpAny (model X.prog X.w) X.A (forIn ifs true fun c r => if r = true then do let ok ← isTrue c X.env (eval c X.env); pure (ForInStep.yield ok) else pure (ForInStep.yield r)) (TP X pins σ Q) X.xe s
def tYes : TT := fun _ H Q => Q true H
theorem pts_nil {X : Cx} : PTs X [] tYes := fun _ _ _ H _ I h => wpAny_tests_nil ⟨H, I, h⟩
theorem pts_one {X : Cx} {c : Expr} {t : TT} (h : PT X c t) : PTs X [c] t := fun pins s σ H Q I q => wpAny_tests_one (h pins s σ H Q I q)

/-- W: the invariant by the turn, a measure, the items so far, the block's slots, the heap; D is the new list -/
def tComp (wi : TI) (n : Nat) (cap : List (Nat × Nat)) (g : TG) (tc : TT) (te : TE) : TE := fun σ H Q => wi σ H fun J H1 => ∀ D, H1 D = none → ∃ W : Nat → Nat → List V → St → Hp → Prop,
  (∃ m, W 0 m [] (capSt n cap σ) (upd H1 D (.lst []))) ∧ ∀ i m ys σ' H', W i m ys σ' H' → (J.stop i H' ∧ Q (.ref D) H') ∨
    (J.go i H' ∧ ∀ x H2, J.yld i H' x H2 → g x σ' H2 fun σ2 H3 => tc σ2 H3 fun b H4 => if b = true then te σ2 H4 fun y H5 => ∃ zs m', H5 D = some (.lst zs) ∧ zs.length < sizeLine ∧ m' < m ∧ W (i + 1) m' (ys ++ [y]) σ2 (upd H5 D (.lst (zs ++ [y])))
      else ∃ m', m' < m ∧ W (i + 1) m' ys σ2 H4)

theorem comp_core {X : Cx} {tg iter elt : Expr} {ifs : List Expr} {scope : Scope} {pos ipos : Pos} {N' : List Str} {cap : List (Nat × Nat)} {wi : TI} {g : TG} {tc : TT} {te : TE} {use : Option (Value → Sem Unit)} {pins : List (Addr × Obj)} {s : Shared} {σ : St} {H : Hp} {Q : VK} {QQ : Value → Shared → Prop} (S : CompScope X scope N' cap) (hc : X.calm = true) (hi : PI X tg iter wi)
    (hg : ∀ s₃ H₃ fp, PG (compCx X scope N' s₃ H₃ fp) tg g) (ht : ∀ s₃ H₃ fp, PTs (compCx X scope N' s₃ H₃ fp) ifs tc) (he : ∀ s₃ H₃ fp, PE (compCx X scope N' s₃ H₃ fp) elt te)
    (hs : ∀ x, foldedSetIterable iter X.env x = pure x) (I : Inv X pins σ H s) (h : tComp wi N'.length cap g tc te σ H Q)
    (hfin : ∀ (D C : Addr) (H5 : Hp) (s6 : Shared) (fl : Flow) (m : Str → Option Value), s6.heap.Ns C m → FpOk X pins H5 C → (∀ h', Heap.SameBut C s6.heap h' → Inv X pins σ H5 { s6 with heap := h' }) → Q (.ref D) H5 → compPost (model X.prog X.w) X.A X.xe use QQ (.ref D) C (.ok fl) s6) :
    wpAny (model X.prog X.w) X.A (comprehension (.ListComp elt [⟨tg, iter, ifs, 0⟩] scope pos) scope X.env ipos (newList []) false (eval iter X.env) use) QQ X.xe s := by
  have hfr : ∀ y ∈ scope.names, y.2 = .free → ∃ c, X.env.cells.lookup y.1 = some c := fun y hy hk => I.kindL (S.free y hy hk)
  refine wpAny_comprehension_free (use := use) rfl hs (closFor hfr) S.kind S.loc (thn (hi pins s σ H _ I h) fun v s1 h1 => thn h1 fun itv s2 h2 => ?_)
  obtain ⟨it, fp, tn, J, H2, e, I2, T, st2, f2, R⟩ := h2
  subst e
  refine wpAny_newObj_type (wpAny_newFunctionEnv S.cell (by intro y hy; simp at hy) (fun h₁ hns₁ hsb₁ => ?_) S.kind)
  dsimp only at hns₁ hsb₁ ⊢
  -- the new list
  have I3 : Inv X pins σ (upd H2 s2.heap.objs.size (.lst [])) { s2 with heap := s2.heap.push { cls := .type "list", data := .seq ([] : List Value).toArray } } := I2.lnew (its := []) (t' := s2.toks) .nil (Nat.zero_le _)
  have hD : H2 s2.heap.objs.size = none := I2.fresh
  have hlt2 : ∀ b ∈ fp, b < s2.heap.objs.size := fun b hb => by obtain ⟨o, ho, _⟩ := T.obj 0 _ st2 b hb; exact Heap.lt_size ho
  generalize hs3 : ({ s2 with heap := s2.heap.push { cls := .type "list", data := .seq ([] : List Value).toArray } } : Shared) = s3 at I3
  have hs3h : s3.heap = s2.heap.push { cls := .type "list", data := .seq ([] : List Value).toArray } := by rw [← hs3]
  have sz3 : s3.heap.objs.size = s2.heap.objs.size + 1 := by rw [hs3h, Heap.size_push]
  have f3 : ∀ b ∈ fp, FpOk X pins (upd H2 s2.heap.objs.size (.lst [])) b := fun b hb => ⟨by rw [upd_ne (Nat.ne_of_lt (hlt2 b hb))]; exact (f2 b hb).1, (f2 b hb).2⟩
  have hlt3 : ∀ b ∈ fp, b < s3.heap.objs.size := fun b hb => by rw [sz3]; exact Nat.lt_succ_of_lt (hlt2 b hb)
  obtain ⟨W, ⟨m0, w0⟩, turn⟩ := R _ hD
  have hns3 : h₁.Ns s3.heap.objs.size (fun x => ([] : List (Str × Value)).reverse.lookup x) := by rw [hs3h]; exact hns₁
  have hsb3 : Heap.SameBut s3.heap.objs.size (s3.heap.push { cls := .type "dict", data := .dict #[] }) h₁ := by rw [hs3h]; exact hsb₁
  have I4 : Inv (compCx X scope N' s3 (upd H2 s2.heap.objs.size (.lst [])) fp) [] (capSt N'.length cap σ) (upd H2 s2.heap.objs.size (.lst [])) { s3 with heap := h₁, toks := s3.toks + ([] : List (Str × Value)).length } := I3.block S f3 hlt3 hns3 hsb3
  have st4 : tn 0 h₁ := T.keep _ _ _ st2 fun b hb o e => (hsb3.2 b (Nat.ne_of_lt (hlt3 b hb))).trans (Heap.get?_push_of_some _ (by rw [hs3h]; exact Heap.get?_push_of_some _ e))
  have hX' : (compCx X scope N' s3 (upd H2 s2.heap.objs.size (.lst [])) fp).env = compEnvC scope (clos X.env scope.names []) s3.heap.objs.size X.env := rfl
  have stat : ∀ {H' : Hp}, (∀ b ∈ fp, H' b = none) → ∀ b ∈ fp, FpOk (compCx X scope N' s3 (upd H2 s2.heap.objs.size (.lst [])) fp) [] H' b := fun hn b hb =>
    ⟨hn b hb, (I4.ok.exf b hb).1, I4.ok.exfs b hb, .inl hb, (I4.ok.exf b hb).2, fun p hp => absurd (show p ∈ ([] : List (Addr × Obj)) from hp) (by simp)⟩
  -- the block
  have loop : codeAny (model X.prog X.w) X.A (.compLoop (.ListComp elt [⟨tg, iter, ifs, 0⟩] scope pos) 0 (.ref it) (.ref s2.heap.objs.size) (compCx X scope N' s3 (upd H2 s2.heap.objs.size (.lst [])) fp).env)
      (compPost (model X.prog X.w) X.A X.xe use QQ (.ref s2.heap.objs.size) s3.heap.objs.size) { s3 with heap := h₁, toks := s3.toks + ([] : List (Str × Value)).length } := by
    refine codeAny_loop rfl (fun n s' => ∃ i ys σ' H', Inv (compCx X scope N' s3 (upd H2 s2.heap.objs.size (.lst [])) fp) [] σ' H' s' ∧ tn i s'.heap ∧ (∀ b ∈ fp, H' b = none) ∧ W i n ys σ' H') ?_ m0 ⟨0, [], _, _, I4, st4, fun b hb => (f3 b hb).1, w0⟩
    rintro n s5 ⟨i, ys, σ5, H5, I5, st5, fr5, w5⟩
    show wpAny _ X.A ((compTurn (.ListComp elt [⟨tg, iter, ifs, 0⟩] scope pos) 0 (.ref it) (.ref s2.heap.objs.size) (compCx X scope N' s3 (upd H2 s2.heap.objs.size (.lst [])) fp).env).onRaise (fun x => do noteFrame x (compCx X scope N' s3 (upd H2 s2.heap.objs.size (.lst [])) fp).env; theTreesLotGoes x)) _ _ s5
    refine wpAny_noted ?_
    rw [compTurn_list]
    refine wpAny_bind (wpAny_standAt (wpAny_bind ?_))
    rcases turn i n ys σ5 H5 w5 with ⟨stop, q⟩ | ⟨go, step⟩
    · refine thn (T.done (compCx X scope N' s3 (upd H2 s2.heap.objs.size (.lst [])) fp) rfl rfl rfl hc i [] s5 σ5 H5 _ I5 (stat fr5) st5 stop) fun r s6 ⟨hr, I6⟩ => ?_
      subst hr
      refine wpAny_pure ?_
      obtain ⟨m6, hn6, _⟩ := I6.loc
      refine hfin s2.heap.objs.size s3.heap.objs.size H5 s6 _ m6 hn6 (I2.fpOk (by rw [sz3]; exact Nat.le_succ _) I6.free) (fun h' sb => ?_) q
      -- back in the def's own context
      have u6 : Un (frs X.stack) fp (upd H2 s2.heap.objs.size (.lst [])) H5 s3.heap s6.heap := I6.base
      have ne6 : ∀ b u, s3.heap.get? b = some u → b ≠ s3.heap.objs.size := fun b u e => Nat.ne_of_lt (Heap.lt_size e)
      have u7 : Un (frs X.stack) fp (upd H2 s2.heap.objs.size (.lst [])) H5 s3.heap h' := ⟨fun b u e n hb hx => (sb.2 b (ne6 b u e)).trans (u6.keep b u e n hb hx), fun b u e n hb hx => by
          obtain ⟨sl, q⟩ := u6.slot b u e n hb hx
          exact ⟨sl, (sb.2 b (ne6 b u e)).trans q⟩, u6.free, fun b u e hx => by
          obtain ⟨o', q⟩ := u6.there b u e hx
          exact ⟨o', (sb.2 b (ne6 b u e)).trans q⟩, u6.tups, u6.frzs, u6.tbls⟩
      have u8 : Un (frs X.stack) fp H2 (upd H2 s2.heap.objs.size (.lst [])) s2.heap s3.heap := Un.laid (fun b u e => by rw [hs3h]; exact Heap.get?_push_of_some _ e) (Nat.le_refl _) hD
      have ok7 : HOk X.prog X.w H5 h' := fun b u e => by
        have hne : ∀ c w, H5 c = some w → c ≠ s3.heap.objs.size := fun c w q z => by
          have : H5 s3.heap.objs.size = none := I6.free
          rw [z, this] at q; cases q
        refine (I6.hok b u e).stay (fun c w hc' q => (sb.2 c ?_).trans q) (fun _ q => q) fun _ _ q => q
        rcases hc' with z | z
        · rw [z]; exact hne b u e
        · exact hne c _ z
      exact I2.call' (s' := { s6 with heap := h' }) (ch := fp) (by show s6.os = s2.os; rw [I6.os, ← hs3]; rfl) (u8.trans u7) ok7 I6.bare fun b hb => ⟨(f2 b hb).2.2.2.1, (f2 b hb).2.1, (f2 b hb).2.2.2.2.1, (f2 b hb).2.2.2.2.2⟩
    · refine thn (T.item (compCx X scope N' s3 (upd H2 s2.heap.objs.size (.lst [])) fp) rfl rfl rfl hc i [] s5 σ5 H5 _ I5 (stat fr5) st5 go) fun r s6 ⟨u, hr, h6⟩ => ?_
      subst hr
      refine wpAny_bind (thn h6 fun _ s7 ⟨x, H7, I7, r7, y7, st7, fr7⟩ => ?_)
      have I7' := I7.pinned (stat fr7) (T.obj _ _ st7)
      have lift : ∀ {α : Type} {t : Sem α} {Q1 : α → Shared → Prop} {E2 : Value → Shared → Prop} {s' : Shared}, wpAny (model X.prog X.w) X.A t Q1 (fun _ _ => False) s' → wpAny (model X.prog X.w) X.A t Q1 E2 s' := fun h => wpAny_mono h (fun _ _ q => q) fun _ _ f => f.elim
      have back : ∀ {σ8 : St} {H8 : Hp} {s8 : Shared}, Inv (compCx X scope N' s3 (upd H2 s2.heap.objs.size (.lst [])) fp) ([] ++ pinsAt fp s7.heap) σ8 H8 s8 →
          Inv (compCx X scope N' s3 (upd H2 s2.heap.objs.size (.lst [])) fp) [] σ8 H8 s8 ∧ tn (i + 1) s8.heap ∧ ∀ b ∈ fp, H8 b = none := fun {σ8 H8 s8} I8 => by
        refine ⟨I8.unpinned, T.keep _ _ _ st7 fun b hb o e => (I8.pin (b, o) (List.mem_append_right _ (List.mem_append_right _ (mem_pinsAt hb e)))).1, fun b hb => ?_⟩
        obtain ⟨o, e, d⟩ := T.obj _ _ st7 b hb
        exact (I8.pin (b, o) (List.mem_append_right _ (List.mem_append_right _ (mem_pinsAt hb e)))).2.1
      refine wpAny_bind (lift (thn (hg s3 _ fp _ s7 σ5 H7 x u _ I7' r7 (step x H7 y7)) fun _ s8 ⟨σ8, H8, I8, q8⟩ => ?_))
      refine wpAny_bind (lift (thn (ht s3 _ fp _ s8 σ8 H8 _ I8 q8) fun b s9 ⟨H9, I9, q9⟩ => ?_))
      cases b with
      | false =>
        obtain ⟨m', hm, w9⟩ := (by simpa using q9 : ∃ m', m' < n ∧ W (i + 1) m' ys σ8 H9)
        obtain ⟨J1, J2, J3⟩ := back I9
        exact wpAny_pure ⟨rfl, m', hm, i + 1, ys, σ8, H9, J1, J2, J3, w9⟩
      | true =>
        have q9 := (by simpa using q9 : te σ8 H9 fun y H5 => ∃ zs m', H5 s2.heap.objs.size = some (.lst zs) ∧ zs.length < sizeLine ∧ m' < n ∧ W (i + 1) m' (ys ++ [y]) σ8 (upd H5 s2.heap.objs.size (.lst (zs ++ [y]))))
        refine wpAny_bind (wpAny_bind (lift (thn (he s3 _ fp _ s9 σ8 H9 _ I9 q9) fun u2 s10 ⟨y, H10, I10, r10, zs, m', hz, hl, hm, w10⟩ => ?_)))
        refine wpAny_bind (lift (thn (mt_append _ s10 σ8 H10 (.ref s2.heap.objs.size) [y] (.ref s2.heap.objs.size) [u2] (fun v H' => v = .non ∧ H' = upd H10 s2.heap.objs.size (.lst (zs ++ [y]))) I10 rfl (.cons r10 .nil) ⟨_, _, _, rfl, rfl, hz, hl, rfl, rfl⟩) fun u3 s11 ⟨v3, H11, I11, r11, e11, e12⟩ => ?_))
        subst e12
        obtain ⟨J1, J2, J3⟩ := back I11
        exact wpAny_pure (wpAny_pure ⟨rfl, m', hm, i + 1, ys ++ [y], σ8, _, J1, J2, J3, w10⟩)
  have hloop : codeAny (model X.prog X.w) X.A (.compStart (.ListComp elt [⟨tg, iter, ifs, 0⟩] scope pos) 0 (.ref it) (.ref s2.heap.objs.size) (compCx X scope N' s3 (upd H2 s2.heap.objs.size (.lst [])) fp).env)
      (compPost (model X.prog X.w) X.A X.xe use QQ (.ref s2.heap.objs.size) s3.heap.objs.size) { s3 with heap := h₁, toks := s3.toks + ([] : List (Str × Value)).length } :=
    codeAny_compStart_list loop (T.self _ 0 _ _ _ st4 loop)
  subst hs3
  exact hloop
theorem pe_comp {X : Cx} {tg iter elt : Expr} {ifs : List Expr} {scope : Scope} {pos : Pos} {N' : List Str} {cap : List (Nat × Nat)} {wi : TI} {g : TG} {tc : TT} {te : TE} (S : CompScope X scope N' cap) (hc : X.calm = true) (hi : PI X tg iter wi)
    (hg : ∀ s₃ H₃ fp, PG (compCx X scope N' s₃ H₃ fp) tg g) (ht : ∀ s₃ H₃ fp, PTs (compCx X scope N' s₃ H₃ fp) ifs tc) (he : ∀ s₃ H₃ fp, PE (compCx X scope N' s₃ H₃ fp) elt te)
    (hs : ∀ x, foldedSetIterable iter X.env x = pure x := by intro _; rfl) :
    PE X (.ListComp elt [⟨tg, iter, ifs, 0⟩] scope pos) (tComp wi N'.length cap g tc te) := by
  intro pins s σ H Q I h
  rw [eval_ListComp]
  exact comp_core S hc hi hg ht he hs I h fun D C H5 s6 fl m hn _ k q => ⟨m, hn, fun h' sb => ⟨.ref D, H5, k h' sb, rfl, q⟩⟩
end L2
namespace L2
open PySem PySem.Spec PyProof.Rows

def Its (z : Str) : It := ⟨fun i _ => i < z.cps.size, fun i H x H' => H' = H ∧ ∃ c, z.cps[i]? = some c ∧ x = .str ⟨#[c]⟩, fun i _ => z.cps.size ≤ i⟩
theorem turn_ascii {P : Program} {w : World} {K : PySem.W.Frag} {tg : Expr} (it : Addr) (z : Str) (t : Tok) : Turn P w K tg (Its z) [it] it (fun i h => h.IsStrIter it "str_ascii_iterator" z t i) where
  mem := by simp
  obj := fun i h st b hb => by
    have e : b = it := by simpa using hb
    subst e
    obtain ⟨o, e, c, d⟩ := st
    exact ⟨o, e, fun v z => by rw [d] at z; cases z⟩
  keep := fun i h h' st k => by
    obtain ⟨o, e, r⟩ := st
    exact ⟨o, k it (by simp) o e, r⟩
  item := by
    intro X hP hw hK hc i pins s σ H E I hf st hg
    subst hP hw hK
    have hlt : i < z.cps.size := hg
    obtain ⟨f0, f1, f2, f3, f4, f5⟩ := hf it (by simp)
    refine wpAny_pyNext_ascii_item st (c := z.cps[i]) (by simp [hlt]) fun h' st' sb => ?_
    have I1 : Inv X pins σ H { s with heap := h', toks := s.toks + 1 } := I.turned (t' := s.toks + 1) (fun b o hb e => (sb.2 b hb).trans e) f0 f1 f3 f4 f5
    obtain ⟨o, e, c, d⟩ := id st'
    exact ⟨_, rfl, go_of (s := { s with heap := h', toks := s.toks + 1 }) e c d (by decide) ⟨.str ⟨#[z.cps[i]]⟩, H, I1, ⟨_, rfl⟩, ⟨rfl, _, by simp [hlt], rfl⟩, st', fun b hb => (hf b hb).1⟩⟩
  done := by
    intro X hP hw hK hc i pins s σ H E I hf st hg
    subst hP hw hK
    have hle : z.cps.size ≤ i := hg
    obtain ⟨f0, f1, f2, f3, f4, f5⟩ := hf it (by simp)
    exact wpAny_pyNext_ascii_end (I.ok.hd hc) st (by simp [hle]) fun h' eb => ⟨rfl, I.turned (t' := s.toks) (fun b o hb e => eb b o hb e) f0 f1 f3 f4 f5⟩
  self := fun _ _ _ _ _ st h => wpAny_pyIter_striter_ascii st h
theorem turn_wide {P : Program} {w : World} {K : PySem.W.Frag} {tg : Expr} (it : Addr) (z : Str) (t : Tok) : Turn P w K tg (Its z) [it] it (fun i h => h.IsStrIter it "str_iterator" z t i) where
  mem := by simp
  obj := fun i h st b hb => by
    have e : b = it := by simpa using hb
    subst e
    obtain ⟨o, e, c, d⟩ := st
    exact ⟨o, e, fun v z => by rw [d] at z; cases z⟩
  keep := fun i h h' st k => by
    obtain ⟨o, e, r⟩ := st
    exact ⟨o, k it (by simp) o e, r⟩
  item := by
    intro X hP hw hK hc i pins s σ H E I hf st hg
    subst hP hw hK
    have hlt : i < z.cps.size := hg
    obtain ⟨f0, f1, f2, f3, f4, f5⟩ := hf it (by simp)
    refine wpAny_pyNext_wide_item st (c := z.cps[i]) (by simp [hlt]) fun h' st' sb => ?_
    have I1 : Inv X pins σ H { s with heap := h', toks := s.toks + 1 } := I.turned (t' := s.toks + 1) (fun b o hb e => (sb.2 b hb).trans e) f0 f1 f3 f4 f5
    obtain ⟨o, e, c, d⟩ := id st'
    exact ⟨_, rfl, go_of (s := { s with heap := h', toks := s.toks + 1 }) e c d (by decide) ⟨.str ⟨#[z.cps[i]]⟩, H, I1, ⟨_, rfl⟩, ⟨rfl, _, by simp [hlt], rfl⟩, st', fun b hb => (hf b hb).1⟩⟩
  done := by
    intro X hP hw hK hc i pins s σ H E I hf st hg
    subst hP hw hK
    have hle : z.cps.size ≤ i := hg
    obtain ⟨f0, f1, f2, f3, f4, f5⟩ := hf it (by simp)
    exact wpAny_pyNext_wide_end (I.ok.hd hc) st (by simp [hle]) fun h' eb => ⟨rfl, I.turned (t' := s.toks) (fun b o hb e => eb b o hb e) f0 f1 f3 f4 f5⟩
  self := fun _ _ _ _ _ st h => wpAny_pyIter_striter_wide st h
def CK (D : Addr) (n i : Nat) (Pv : Nat → List V → St → Hp → Prop) (ys : List V) (σ : St) (y : V) (H : Hp) : Prop :=
  ∃ zs m', H D = some (.lst zs) ∧ zs.length < sizeLine ∧ m' < n - i ∧ (m' = n - (i + 1) ∧ i + 1 ≤ n ∧ Pv (i + 1) (ys ++ [y]) σ (upd H D (.lst (zs ++ [y]))))
def CN (n i : Nat) (Pv : Nat → List V → St → Hp → Prop) (ys : List V) (σ : St) (H : Hp) : Prop := ∃ m', m' < n - i ∧ (m' = n - (i + 1) ∧ i + 1 ≤ n ∧ Pv (i + 1) ys σ H)
theorem CK.mk {D : Addr} {n i : Nat} {Pv : Nat → List V → St → Hp → Prop} {ys zs : List V} {σ : St} {y : V} {H : Hp} (hi : i < n) (hz : H D = some (.lst zs)) (hl : zs.length < sizeLine) (p : Pv (i + 1) (ys ++ [y]) σ (upd H D (.lst (zs ++ [y])))) : CK D n i Pv ys σ y H :=
  ⟨zs, n - (i + 1), hz, hl, by omega, rfl, hi, p⟩
theorem CN.mk {n i : Nat} {Pv : Nat → List V → St → Hp → Prop} {ys : List V} {σ : St} {H : Hp} (hi : i < n) (p : Pv (i + 1) ys σ H) : CN n i Pv ys σ H := ⟨n - (i + 1), by omega, rfl, hi, p⟩
theorem comp_by {J : It} {n : Nat} {g : TG} {tc : TT} {te : TE} {D : Addr} {σ : St} {H : Hp} {QD : Hp → Prop} (Pv : Nat → List V → St → Hp → Prop) (h0 : Pv 0 [] σ H) (hgo : ∀ i ys σ H, i < n → Pv i ys σ H → J.go i H) (hstop : ∀ ys σ H, Pv n ys σ H → J.stop n H)
    (hs : ∀ i ys σ H, i < n → Pv i ys σ H → ∀ x H2, J.yld i H x H2 → g x σ H2 fun σ2 H3 => tc σ2 H3 fun b H4 => if b = true then te σ2 H4 fun y H5 => CK D n i Pv ys σ2 y H5 else CN n i Pv ys σ2 H4) (hd : ∀ ys σ H, Pv n ys σ H → QD H) :
    ∃ W : Nat → Nat → List V → St → Hp → Prop, (∃ m, W 0 m [] σ H) ∧ ∀ i m ys σ' H', W i m ys σ' H' → (J.stop i H' ∧ QD H') ∨
      (J.go i H' ∧ ∀ x H2, J.yld i H' x H2 → g x σ' H2 fun σ2 H3 => tc σ2 H3 fun b H4 => if b = true then te σ2 H4 fun y H5 => ∃ zs m', H5 D = some (.lst zs) ∧ zs.length < sizeLine ∧ m' < m ∧ W (i + 1) m' (ys ++ [y]) σ2 (upd H5 D (.lst (zs ++ [y])))
        else ∃ m', m' < m ∧ W (i + 1) m' ys σ2 H4) := by
  refine ⟨fun i m ys σ H => m = n - i ∧ i ≤ n ∧ Pv i ys σ H, ⟨n, by simp, Nat.zero_le _, h0⟩, ?_⟩
  rintro i m ys σ H ⟨rfl, hi, p⟩
  by_cases hlt : i < n
  · exact .inr ⟨hgo i ys σ H hlt p, fun x H2 y => hs i ys σ H hlt p x H2 y⟩
  · have e : i = n := by omega
    subst e
    exact .inl ⟨hstop ys σ H p, hd ys σ H p⟩

theorem vals_bl : ∀ {bs : List Bool} {us : List Value} {i : Nat} {v : Value}, Vals (bs.map V.bl) us → us[i]? = some v → ∃ b, bs[i]? = some b ∧ v = .bool b
  | [], _, _, _, r, e => by rw [List.map_nil] at r; cases r; simp at e
  | b :: bs, _, i, v, r, e => by
    rw [List.map_cons] at r
    cases r with
    | cons r1 r2 =>
      cases (show _ = Value.bool b from r1)
      cases i with
      | zero => simp at e; exact ⟨b, rfl, e.symm⟩
      | succ i =>
        obtain ⟨b', h1, h2⟩ := vals_bl (bs := bs) (i := i) r2 (by simpa using e)
        exact ⟨b', by simpa using h1, h2⟩
theorem all_range_getD (bs : List Bool) : (List.range bs.length).all (fun i => bs.getD i false) = bs.all id := by
  have e : (List.range bs.length).map (fun i => bs.getD i false) = bs := by
    apply List.ext_getElem
    · simp
    · intro i h1 h2
      simp [List.getD_eq_getElem?_getD, h2]
  have : (List.range bs.length).all (fun i => bs.getD i false) = ((List.range bs.length).map fun i => bs.getD i false).all id := by rw [List.all_map]; rfl
  rw [this, e]
theorem call_all {X : Cx} (hc : X.calm = true) : CallR X (.builtin "all") (fun xs H Q => ∃ (p : Addr) (bs : List Bool), xs = [.ref p] ∧ SqL X.K H p (bs.map V.bl) ∧ Q (.bl (bs.all id)) H) := by
  intro pins s σ H xs us Q I r h
  obtain ⟨p, bs, rfl, hq, q⟩ := h
  obtain ⟨u, rfl, ru⟩ := vals1 r
  cases ru
  obtain ⟨its, rv, pl, hz⟩ := I.list hq
  have hh : X.A.in1.handled = none := I.ok.hd hc
  have hp : p < s.heap.objs.size := by obtain ⟨o, ho, _⟩ := pl.isList; exact Heap.lt_size ho
  have hlen : bs.length = its.toArray.size := by rw [List.size_toArray, ← rv.length, List.length_map]
  refine call_all_walk (wpAny_pyIter_list pl.isList ?_)
  refine ⟨s.heap.objs.size, [s.heap.objs.size, p], [s.heap.objs.size], its.toArray.size, _, _, fun i => bs.getD i false, rfl, Walks.list (A := X.A.in1) hh _ p (Nat.ne_of_lt hp) its.toArray, ⟨⟨_, Heap.get?_push_size _ rfl, rfl, rfl⟩, pl.isList.push _⟩, ?_, ?_⟩
  · intro i v s' Q' E' hv hQ
    obtain ⟨b, hb, rfl⟩ := vals_bl (i := i) rv (by simpa using hv)
    have e : bs.getD i false = b := by rw [List.getD_eq_getElem?_getD, hb]; rfl
    have hQ : Q' (bs.getD i false) s' := hQ
    rw [e] at hQ
    exact wpAny_truthy_bool hQ
  · intro h' tk hk
    rw [← hlen, all_range_getD]
    refine ⟨.bl (bs.all id), H, I.kept (t' := tk) fun b o e => hk b o ?_ (Heap.get?_push_of_some _ e), rfl, q⟩
    have := Heap.lt_size e
    intro hb
    exact absurd (List.mem_singleton.mp hb) (Nat.ne_of_lt this)

def rSlS : V → Option Int → Option Int → Hp → VK → Prop := fun x lo hi H Q => ∃ z, x = .str z ∧ z.length ≤ sizeLine ∧ Q (.str (Txt.slice z lo hi)) H
theorem sl_str {X : Cx} : SlR X rSlS := by
  intro pins s σ H x v vl vu lo hi sl Q I rx hs pl pu h
  obtain ⟨z, rfl, hz, q⟩ := h
  obtain ⟨t, rfl⟩ := rx
  refine ⟨"str", _, F.slot_str_getitem.lookup, typeIs_str _ _ _, ?_⟩
  have fin : ∀ l u, (Txt.slice z l u).length ≤ sizeLine := fun l u => Nat.le_trans (Txt.slice_le z _ _) hz
  cases pl with
  | none =>
    cases pu with
    | none => exact wpAny_getItem_str_slice (l := none) (u := none) (st := none) hs rfl (post_val_or_str ⟨fin _ _, fun t' k => ⟨.str (Txt.slice z _ _), H, I.tok k, ⟨_, rfl⟩, q⟩⟩)
    | int j uj => exact wpAny_getItem_str_slice (l := none) (u := some (j, uj)) (st := none) hs rfl (post_val_or_str ⟨fin _ _, fun t' k => ⟨.str (Txt.slice z _ _), H, I.tok k, ⟨_, rfl⟩, q⟩⟩)
  | int i ui =>
    cases pu with
    | none => exact wpAny_getItem_str_slice (l := some (i, ui)) (u := none) (st := none) hs rfl (post_val_or_str ⟨fin _ _, fun t' k => ⟨.str (Txt.slice z _ _), H, I.tok k, ⟨_, rfl⟩, q⟩⟩)
    | int j uj => exact wpAny_getItem_str_slice (l := some (i, ui)) (u := some (j, uj)) (st := none) hs rfl (post_val_or_str ⟨fin _ _, fun t' k => ⟨.str (Txt.slice z _ _), H, I.tok k, ⟨_, rfl⟩, q⟩⟩)
theorem strsAre_of : ∀ {ss : List Str} {us : List Value}, Vals (ss.map V.str) us → StrsAre us ss
  | [], _, r => by rw [List.map_nil] at r; cases r; exact .nil
  | x :: ss, _, r => by
    rw [List.map_cons] at r
    cases r with
    | cons r1 r2 =>
      obtain ⟨t, e⟩ := r1
      subst e
      exact .cons x t (strsAre_of r2)
theorem vals_strs : ∀ {ss : List Str} {us : List Value}, StrsAre us ss → Vals (ss.map V.str) us
  | _, _, .nil => .nil
  | _, _, .cons x t h => .cons ⟨t, rfl⟩ (vals_strs h)
def rJoin (K : PySem.W.Frag) : V → List V → Hp → VK → Prop := fun x vs H Q => ∃ (z : Str) (l : Addr) (ss : List Str), x = .str z ∧ vs = [.ref l] ∧ SqL K H l (ss.map V.str) ∧ (ss.map (·.length)).sum + ss.length * z.length ≤ 16777216 ∧ Q (.str (Txt.join z ss)) H
theorem mt_join {X : Cx} : MtM X "str.join" (rJoin X.K) := by
  intro pins s σ H x vs v us Q I rx rv h
  obtain ⟨z, l, ss, rfl, rfl, hq, hw, q⟩ := h
  obtain ⟨t, rfl⟩ := rx
  obtain ⟨u, rfl, ru⟩ := rv.one
  cases ru
  obtain ⟨its, r, pl, hz⟩ := I.list hq
  exact PyProof.Rows.join_list pl.isList (strsAre_of r) hw fun t' k => ⟨.str (Txt.join z ss), H, I.tok k, ⟨_, rfl⟩, q⟩

theorem call_isi {X : Cx} : CallR X (.builtin "isinstance") (fun xs H Q => ∃ x n t b, xs = [x, .ty n] ∧ TyOf X.K H x t ∧ PySem.W.kitOne X.K t (.type n) = some b ∧ Q (.bl b) H) := by
  intro pins s σ H xs us Q I r h
  obtain ⟨x, n, t, b, rfl, ty, e, q⟩ := h
  obtain ⟨u, u2, rfl, ru, ru2⟩ := vals2 r
  cases (show u2 = Value.type n from ru2)
  exact isinst_ok I ru ty e fun tk => ⟨.bl b, H, I.tok tk, rfl, q⟩

theorem subAt_one (z : Str) (c i : Nat) : Builtin.Str.subAt z ⟨#[c]⟩ i = decide (z.cps[i]? = some c) := by
  unfold Builtin.Str.subAt
  have hl : (⟨#[c]⟩ : Str).length = 1 := rfl
  rw [hl]
  by_cases hi : i < z.cps.size
  · have e : z.cps.extract i (i + 1) = #[z.cps[i]] := by
      apply Array.ext
      · simp; omega
      · intro j h1 h2
        simp at h2
        subst h2
        simp
    show (z.cps.extract i (i + 1) == #[c]) = _
    rw [e, Array.getElem?_eq_getElem hi]
    by_cases hc : z.cps[i] = c
    · subst hc; simp
    · have h1 : (#[z.cps[i]] == #[c]) = false := by simpa using hc
      rw [h1]
      exact (decide_eq_false fun q => hc (Option.some.inj q)).symm
  · have e : z.cps.extract i (i + 1) = #[] := by
      apply Array.ext
      · simp; omega
      · intro j h1 h2; simp at h2
    show (z.cps.extract i (i + 1) == #[c]) = _
    rw [e, Array.getElem?_eq_none (by omega)]
    simp
theorem in_one (z : Str) (c : Nat) : (!(Builtin.Str.occurrences z ⟨#[c]⟩ 0 z.length 1).isEmpty) = decide (c ∈ z.cps.toList) := by
  rcases StrLaws.occ_head z ⟨#[c]⟩ 1 (Nat.le_refl _) with ⟨e, hn⟩ | ⟨i, r, e, ha, _⟩
  · rw [e]
    refine (decide_eq_false fun hm => ?_).symm
    obtain ⟨j, hj, e2⟩ := List.mem_iff_getElem.mp hm
    have hj' : j < z.cps.size := by simpa using hj
    refine hn j ⟨?_, ?_⟩
    · show j + 1 ≤ z.cps.size; omega
    · rw [subAt_one]
      exact decide_eq_true (by rw [Array.getElem?_eq_getElem hj']; simpa using e2)
  · rw [e]
    refine (decide_eq_true ?_).symm
    have h2 := ha.2
    rw [subAt_one] at h2
    have h3 := of_decide_eq_true h2
    have := Array.mem_of_getElem? h3
    simpa using this
end L2
namespace L2
open PySem PySem.Spec PyProof.Rows

section
variable {X : Cx}
abbrev rAddS : R2 := fun x y H Q => ∃ i j, x = .str i ∧ y = .str j ∧ i.length + j.length ≤ sizeLine ∧ Q (.str (i ++ j)) H
abbrev rAddA : R2 := fun x y H Q => rI0 (fun i j => .int (i + j)) x y H Q ∨ (rAddS x y H Q ∨ rCat x y H Q)
theorem op_addA : OpR X (binaryOp .Add) rAddA := op_add.or (op_add_str.or op_cat)
abbrev rMulA : R2 := fun x y H Q => rI CMul (fun i j => .int (i * j)) x y H Q ∨ rRep x y H Q
theorem op_mulA : OpR X (binaryOp .Mult) rMulA := op_mul.or op_rep
abbrev rEqA : R2 := rEq
theorem op_eqA : OpR X (compareOp .Eq) rEqA := op_eq
abbrev rNeA : R2 := rNe
theorem op_neA : OpR X (compareOp .NotEq) rNeA := op_ne
abbrev rInS : R2 := fun x y H Q => ∃ i j, x = .str i ∧ y = .str j ∧ Q (.bl (!(Builtin.Str.occurrences j i 0 j.length 1).isEmpty)) H
abbrev rInA (K : PySem.W.Frag) : R2 := fun x y H Q => rInS x y H Q ∨ rIn K false x y H Q
theorem op_inA : OpR X (compareOp .In) (rInA X.K) := op_in_str.or op_in_seq
abbrev rSlA (K : PySem.W.Frag) : V → Option Int → Option Int → Hp → VK → Prop := fun x lo hi H Q => rSlL K x lo hi H Q ∨ (rSlT K x lo hi H Q ∨ rSlS x lo hi H Q)
theorem sl_any : SlR X (rSlA X.K) := sl_list.or (sl_tup.or sl_str)
theorem set_any : PSet X rSetL := set_list
def iAny (K : PySem.W.Frag) (tl : TE) : TI := fun σ H R => tl σ H fun x H1 => (∃ a, x = .ref a ∧ (∃ xs, SqL K H1 a xs) ∧ R (Itl K a) H1) ∨ (∃ a, x = .ref a ∧ (∃ xs, SqT K H1 a xs) ∧ R (Itt K a) H1) ∨ ∃ z, x = .str z ∧ R (Its z) H1
theorem pi_any {tg l : Expr} {tl : TE} (hl : PE X l tl) : PI X tg l (iAny X.K tl) := by
  intro pins s σ H R I h
  refine thn (hl pins s σ H _ I h) fun v s1 ⟨x, H1, I1, r1, q1⟩ => ?_
  have fpok : ∀ b ∈ [s1.heap.objs.size], FpOk X pins H1 b := fun b hb => by
    have e : b = s1.heap.objs.size := by simpa using hb
    subst e
    exact I1.fpOk (Nat.le_refl _) (I1.hok.fresh (Nat.le_refl _))
  rcases q1 with ⟨a, e, ⟨xs, hq⟩, q⟩ | ⟨a, e, ⟨xs, hq⟩, q⟩ | ⟨z, e, q⟩
  · subst e
    cases r1
    obtain ⟨its, rv, p, hz⟩ := I1.list hq
    refine wpAny_pyIter_list p.isList ?_
    exact ⟨s1.heap.objs.size, [s1.heap.objs.size], _, _, H1, rfl, I1.kept (t' := s1.toks) fun b o e => Heap.get?_push_of_some _ e, turn_list a _, ⟨_, Heap.get?_push_size _ rfl, rfl, rfl⟩, fpok, q⟩
  · subst e
    cases r1
    obtain ⟨its, rv, p, hz⟩ := I1.tuple hq
    refine wpAny_pyIter_tuple (show s1.heap.IsTuple a its.toArray from p) ?_
    exact ⟨s1.heap.objs.size, [s1.heap.objs.size], _, _, H1, rfl, I1.kept (t' := s1.toks) fun b o e => Heap.get?_push_of_some _ e, turn_tuple a _, ⟨_, Heap.get?_push_size _ rfl, rfl, rfl⟩, fpok, q⟩
  · subst e
    obtain ⟨t, rfl⟩ := r1
    cases ha : z.cps.all (· < 128) with
    | true =>
      refine wpAny_pyIter_ascii ha ?_
      exact ⟨s1.heap.objs.size, [s1.heap.objs.size], _, _, H1, rfl, I1.kept (t' := s1.toks) fun b o e => Heap.get?_push_of_some _ e, turn_ascii _ z t, ⟨_, Heap.get?_push_size _ rfl, rfl, rfl⟩, fpok, q⟩
    | false =>
      refine wpAny_pyIter_wide ha ?_
      exact ⟨s1.heap.objs.size, [s1.heap.objs.size], _, _, H1, rfl, I1.kept (t' := s1.toks) fun b o e => Heap.get?_push_of_some _ e, turn_wide _ z t, ⟨_, Heap.get?_push_size _ rfl, rfl, rfl⟩, fpok, q⟩
end

def compOk (sc : Scope) (N : List Str) (scope : Scope) (N' : List Str) (cap : List (Nat × Nat)) : Bool :=
  decide (scope.kind = .function) && scope.names.all (fun y => decide (y.2 ≠ .cell) && (decide (y.2 ≠ .local) || decide (scope.names.lookup y.1 = some .local)) && (decide (y.2 ≠ .free) || decide (sc.names.lookup y.1 = some .cell) || decide (sc.names.lookup y.1 = some .free))) &&
    cap.all fun p => match N'[p.1]? with
      | some x => decide (N[p.2]? = some x) && decide (scope.names.lookup x = some .free)
      | none => false
theorem CompScope.of {X : Cx} {scope : Scope} {N' : List Str} {cap : List (Nat × Nat)} (h : compOk X.env.scope X.N scope N' cap = true) : CompScope X scope N' cap := by
  unfold compOk at h
  rw [Bool.and_eq_true, Bool.and_eq_true, List.all_eq_true, List.all_eq_true] at h
  obtain ⟨⟨h1, h2⟩, h3⟩ := h
  refine ⟨of_decide_eq_true h1, fun y hy => ?_, fun y hy hl => ?_, fun y hy hf => ?_, fun p hp => ?_⟩
  · have := h2 y hy
    simp only [Bool.and_eq_true, Bool.or_eq_true, decide_eq_true_eq] at this
    exact this.1.1
  · have := h2 y hy
    simp only [Bool.and_eq_true, Bool.or_eq_true, decide_eq_true_eq] at this
    exact this.1.2.resolve_left fun q => q hl
  · have := h2 y hy
    simp only [Bool.and_eq_true, Bool.or_eq_true, decide_eq_true_eq] at this
    rcases this.2 with (q | q) | q
    · exact absurd hf q
    · exact .inl q
    · exact .inr q
  · have := h3 p hp
    cases e : N'[p.1]? with
    | none => rw [e] at this; cases this
    | some x =>
      rw [e] at this
      simp only [Bool.and_eq_true, decide_eq_true_eq] at this
      exact ⟨x, rfl, this.1, this.2⟩

structure Gv (mg : Str → Option Value) (x : Str) (v : V) : Prop where
  ex : ∃ u, mg x = some u ∧ RelV v u
theorem pe_gv {X : Cx} {x : Str} {v : V} {pos : Pos} (g : Gv X.mg x v) (hg : Gl X x) (hd : (x == ("__debug__" : Str)) = false := by decide) : PE X (.Name x pos) (tC v) := by
  obtain ⟨u, h, r⟩ := g.ex
  exact pe_glob hg h r hd

structure Cal (P : Program) (w : World) (K : PySem.W.Frag) (mg : Str → Option Value) (base : Heap) (k : Nat) (x : Str) (ps : List Str) (sp : Sp) : Prop where
  ex : ∃ f fd, FnOk P w K mg base CX0 k f fd ps sp ∧ mg x = some (.ref f) ∧ PySem.W.keepIn K (.ref f) = true ∧ Binds K fd ps []
structure DefOk (K : PySem.W.Frag) (mg : Str → Option Value) (x : Str) (st : Stmt) (ps : List Str) : Prop where
  ex : ∃ f fd, Fun K x x st f fd ∧ mg x = some (.ref f) ∧ Binds K fd ps []
theorem DefOk.cal {P : Program} {w : World} {K : PySem.W.Frag} {mg : Str → Option Value} {base : Heap} {x : Str} {st : Stmt} {N ps : List Str} {k : Nat} {sp : Sp} (D : DefOk K mg x st ps) (S : FnScope N ps (defScope st)) (len : ∀ vs H Q E, sp vs H Q E → vs.length = ps.length)
    (hbody : ∀ (f : Addr) (cdv : Value) (A : Around) (outer : List Env) (s : Shared) (H : Hp) (vs : List V) (Q : VK) (E : XK), Room k (A.deeper (envOfC x (defScope st) s.heap.objs.size f cdv)) → sp vs H Q E →
      ∃ t, PSs (cxOf CX0 P w K mg base N x (defScope st) f cdv A outer s H E).nox (defBody st) t ∧ t { nx := fun _ H' => Q .non H', rt := Q } (start N vs) H) : Cal P w K mg base (k + 1) x ps sp := by
  obtain ⟨f, fd, F, hm, hb⟩ := D.ex
  exact ⟨f, fd, F.ok S len (hbody f), hm, F.kp, hb⟩
theorem pe_cal {X : Cx} {j k : Nat} {x : Str} {ps : List Str} {sp : Sp} {p pos : Pos} {e : Expr} {es : List Expr} {t : TA} (C : Cal X.prog X.w X.K X.mg X.base j x ps sp) (hr : Room k X.A) (hg : Gl X x) (hx : Passes CX0 X E0) (ha : PA X (e :: es) t) (hjk : j ≤ k := by decide)
    (hdb : (x == ("__debug__" : Str)) = false := by decide) (he : starEach (e :: es) X.env = (false, eval e X.env) :: starEach es X.env := by rfl) (hpl : (backTo pos (starEach es X.env)).any (·.1) = false := by rfl) :
    PE X (.Call (.Name x p) (e :: es) [] pos) (tCall sp [] E0 t) := by
  obtain ⟨f, fd, F, hm, hk, hb⟩ := C.ex
  exact pe_call F (hr.mono hjk) hg hm hk hb .nil hx ha hdb he hpl
theorem def_mk {K : PySem.W.Frag} {h : Heap} {mg : Str → Option Value} {x : Str} {st : Stmt} {ps : List Str} {f : Addr} {oc : Value} {od an : Option Addr} {osl : Array (Option Value)} {kV doc pm cdv ct : Value} (X : K.In h) (G : h.Ns mainGlobals mg)
    (a : PySem.W.nsIn K mainGlobals x = some (some (.ref f))) (l : K.lookup f = some ⟨oc, od, .func (PySem.W.fnOf x x (defArgs st) (defBody st) (defScope st) .none kV doc pm an cdv ct), osl⟩) (c : PySem.W.codeIn K cdv x = true) (k : PySem.W.keepIn K (.ref f) = true)
    (b : ∀ (kV doc pm : Value) (an : Option Addr) (cdv ct : Value) (us : List Value), us.length = ps.length → bindArgs (PySem.W.fnOf x x (defArgs st) (defBody st) (defScope st) .none kV doc pm an cdv ct) ⟨us, []⟩ = pure (ps.zip us)) : DefOk K mg x st ps :=
  ⟨f, _, fun_mk l c k, PySem.W.mg_of X G a, (fun_mk l c k).binds b⟩
theorem gv_mk {K : PySem.W.Frag} {h : Heap} {mg : Str → Option Value} {x : Str} {v : V} {u : Value} (X : K.In h) (G : h.Ns mainGlobals mg) (a : PySem.W.nsIn K mainGlobals x = some (some u)) (r : RelV v u) : Gv mg x v := ⟨u, PySem.W.mg_of X G a, r⟩
end L2
namespace L2
open PySem PySem.Spec PyProof.Rows
theorem seq_split {t u : TS} {D : Ends} {σ : St} {H : Hp} (h : ∀ nx : St → Hp → Prop, (∀ σ' H', u D σ' H' → nx σ' H') → t { D with nx := nx } σ H) : tSeq t u D σ H := h _ fun _ _ x => x
theorem for_split {wi : TI} {g : TG} {tb : TS} {D : Ends} {σ : St} {H : Hp} (h : ∀ Kont : It → Hp → Prop, (∀ J H1, (∃ W : Nat → Nat → St → Hp → Prop, (∃ m, W 0 m σ H1) ∧ ∀ i m σ H, W i m σ H →
    (J.stop i H ∧ D.nx σ H) ∨ (J.go i H ∧ ∃ N : St → Hp → Prop, (∀ σ' H', N σ' H' → ∃ m', m' < m ∧ W (i + 1) m' σ' H') ∧ ∀ x H', J.yld i H x H' → g x σ H' fun σ2 H2 => tb { D with nx := N, ct := N, bk := D.nx } σ2 H2)) → Kont J H1) → wi σ H Kont) : tFor wi g tb D σ H := h _ fun _ _ x => x
theorem comp_split {wi : TI} {n : Nat} {cap : List (Nat × Nat)} {g : TG} {tc : TT} {te : TE} {σ : St} {H : Hp} {Q : VK} (h : ∀ Kont : It → Hp → Prop, (∀ J H1, (∀ D, H1 D = none → ∃ W : Nat → Nat → List V → St → Hp → Prop,
    (∃ m, W 0 m [] (capSt n cap σ) (upd H1 D (.lst []))) ∧ ∀ i m ys σ' H', W i m ys σ' H' → (J.stop i H' ∧ Q (.ref D) H') ∨
      (J.go i H' ∧ ∀ x H2, J.yld i H' x H2 → g x σ' H2 fun σ2 H3 => tc σ2 H3 fun b H4 => if b = true then te σ2 H4 fun y H5 => ∃ zs m', H5 D = some (.lst zs) ∧ zs.length < sizeLine ∧ m' < m ∧ W (i + 1) m' (ys ++ [y]) σ2 (upd H5 D (.lst (zs ++ [y])))
        else ∃ m', m' < m ∧ W (i + 1) m' ys σ2 H4)) → Kont J H1) → wi σ H Kont) : tComp wi n cap g tc te σ H Q := h _ fun _ _ x => x
end L2
namespace L2
open PySem PySem.Spec PyProof.Rows
section
variable {X : Cx} {K : PySem.W.Frag}
theorem op_inK (h : X.K = K) : OpR X (compareOp .In) (rInA K) := by subst h; exact op_inA
theorem ixK (h : X.K = K) : IxR X (rIx K) := by subst h; exact ix_seq
theorem slK (h : X.K = K) : SlR X (rSlA K) := by subst h; exact sl_any
theorem call_lenK (h : X.K = K) : CallR X (.builtin "len") (fun xs H Q => ∃ x n, xs = [x] ∧ LenV K x H n ∧ Q (.int n) H) := by subst h; exact call_len
theorem call_allK (h : X.K = K) (hc : X.calm = true) : CallR X (.builtin "all") (fun xs H Q => ∃ (p : Addr) (bs : List Bool), xs = [.ref p] ∧ SqL K H p (bs.map V.bl) ∧ Q (.bl (bs.all id)) H) := by subst h; exact call_all hc
theorem call_isiK (h : X.K = K) : CallR X (.builtin "isinstance") (fun xs H Q => ∃ x n t b, xs = [x, .ty n] ∧ TyOf K H x t ∧ PySem.W.kitOne K t (.type n) = some b ∧ Q (.bl b) H) := by subst h; exact call_isi
theorem mt_joinK (h : X.K = K) : MtR X "str.join" (rJoin K) := by subst h; exact mt_join
theorem pt_truthK {a : Expr} {ta : TE} (h : X.K = K) (ha : PE X a ta) (he : ∀ whole, isTrue a X.env whole = (do let v ← whole; standAt a.pos; holding [v] (truthy v))) : PT X a (fun σ H Q => ta σ H fun x H' => ∃ k, TruV K x H' k ∧ Q k H') := by subst h; exact pt_truth ha he
theorem pi_anyK {tg l : Expr} {tl : TE} (h : X.K = K) (hl : PE X l tl) : PI X tg l (iAny K tl) := by subst h; exact pi_any hl
variable {o e : Expr} {es : List Expr} {to : TE} {t : TA} {name : Str} {apos cpos : Pos} {T id : String} {r : V → List V → Hp → VK → Prop}
theorem pe_bmK (h : X.K = K) (pa : PlainAttrs T) (slot : Slot T name id) (hty : typeOf (.builtin id) = pure (.type "method_descriptor")) (hm : MtR X id r) (ho : PE X o to) (ha : PA X (e :: es) t)
    (hbase : attributeBase o name X.env (eval o X.env) = eval o X.env := by rfl)
    (hfew : ((backTo cpos (starEach (e :: es) X.env)).all (fun x => !x.1) && (backToKw cpos (keywordEach [] X.env)).all (fun x => x.1.isSome)
      && decide ((e :: es).length + ([] : List Keyword).length + (if ([] : List Keyword).isEmpty then 0 else 1) < 30)) = true := by rfl)
    (hline : (apos.endLine == cpos.line) = true := by rfl) (hs : starEach (e :: es) X.env = (false, eval e X.env) :: starEach es X.env := by rfl) (hplain : (backTo cpos (starEach es X.env)).any (·.1) = false := by rfl) :
    PE X (.Call (.Attribute o name apos) (e :: es) [] cpos) (tBM K T r to t) := by
  subst h
  exact pe_bm pa slot hty hm ho ha hbase hfew hline hs hplain
end
end L2
namespace L2
open PySem PySem.Spec PyProof.Rows

structure ZApart (z TI TO i1 i2 : Addr) : Prop where
  TIz : TI ≠ z
  TOz : TO ≠ z
  i1z : i1 ≠ z
  i2z : i2 ≠ z
  TITO : TI ≠ TO
  TIi1 : TI ≠ i1
  TIi2 : TI ≠ i2
  TOi1 : TO ≠ i1
  TOi2 : TO ≠ i2
  i12 : i1 ≠ i2
section
variable {prog : Program} {w : World} {A : Around} {E : Value → Shared → Prop} {s : Shared} {z TI TO i1 i2 : Addr} {n1 n2 i : Nat} {P1 P2 : Nat → Value → Prop} {St1 St2 : Nat → Heap → Prop}
/-- one more pair, each side by its own draws -/
theorem zip_more {a b : Value} {Q : Value → Shared → Prop} (D1 : Draws prog w A i1 [i1] n1 P1 St1) (D2 : Draws prog w A i2 [i2] n2 P2 St2) (D : ZApart z TI TO i1 i2)
    (hz : IsZip s.heap z TI TO .none) (hTI : IsPair s.heap TI (.ref i1) (.ref i2)) (hTO : IsPair s.heap TO a b) (h1 : St1 i s.heap) (h2 : St2 i s.heap) (l1 : i < n1) (l2 : i < n2)
    (hQ : ∀ x y h' tk, P1 i x → P2 i y → IsZip h' z TI TO (rawInt s.heap.objs.size) → IsPair h' TO x y → St1 (i + 1) h' → St2 (i + 1) h' → IsPair h' s.heap.objs.size x y →
      (∀ c o, c ≠ z → c ≠ TO → c ≠ i1 → c ≠ i2 → s.heap.get? c = some o → h'.get? c = some o) → Q (.ref s.heap.objs.size) { s with heap := h', toks := tk }) :
    wpAny (model prog w) A (Builtin.«zip.__next__» ⟨[.ref z], []⟩) (fun fin s' => ∃ v, fin = .done (.ret v) ∧ Q v s') E s := by
  have fr1 : ∀ {k h h' c}, c ≠ i1 → Heap.SameBut c h h' → St1 k h → St1 k h' := fun hc sb st => D1.frame _ _ _ st fun b hb o e => by
    have : b = i1 := by simpa using hb
    subst this
    exact (sb.2 b (Ne.symm hc)).trans e
  have fr2 : ∀ {k h h' c}, c ≠ i2 → Heap.SameBut c h h' → St2 k h → St2 k h' := fun hc sb st => D2.frame _ _ _ st fun b hb o e => by
    have : b = i2 := by simpa using hb
    subst this
    exact (sb.2 b (Ne.symm hc)).trans e
  show wpAny _ _ (field (.ref z) 2 >>= _) _ _ _
  refine wpAny_bind (wpAny_field hz rfl (x := .bool false) rfl ?_)
  show wpAny _ _ (field (.ref z) 3 >>= _) _ _ _
  refine wpAny_bind (wpAny_field hz rfl (x := .ref TI) rfl (wpAny_bind (wpAny_seqItems hTI rfl ?_)))
  show wpAny _ _ (Builtin.SmallTypes.ownedTupleIsFree (.ref z) >>= _) _ _ _
  refine wpAny_bind ?_
  unfold Builtin.SmallTypes.ownedTupleIsFree
  refine wpAny_bind (wpAny_field hz rfl (x := .none) rfl (wpAny_pure ?_))
  simp only [if_true]
  refine wpAny_bind (wpAny_rule (wpAny_bind (wpAny_field hz rfl (x := .ref TO) rfl (wpAny_bind (wpAny_setField_rec hz (by simp) fun g1 hz1 sb1 => ?_)))))
  replace hz1 : IsZip g1 z TI TO .ellipsis := hz1
  refine wpAny_bind ?_
  simp only [List.zipIdx_cons, List.zipIdx_nil, List.forIn_cons, List.forIn_nil]
  refine wpAny_bind (wpAny_bind (wpAny_onRaise ?_))
  show wpAny _ _ (Builtin.SmallTypes.nextOf (.ref i1) >>= _) _ _ _
  refine wpAny_bind (D1.item i _ _ _ l1 (fr1 (Ne.symm D.i1z) sb1 h1) fun x g2 tk2 px st2 sb2 => wpAny_pure ?_)
  replace sb2 : Heap.SameBut i1 g1 g2 := sb2
  have hTO2 : IsPair g2 TO a b := (sb2.2 _ D.TOi1).trans ((sb1.2 _ D.TOz).trans hTO)
  refine wpAny_bind (wpAny_seqItems hTO2 rfl (wpAny_bind (wpAny_updateSeq_pair (s := { s with heap := g2, toks := tk2 }) hTO2 fun g3 hTO3 sb3 => ?_)))
  replace hTO3 : IsPair g3 TO x b := hTO3
  replace sb3 : Heap.SameBut TO g2 g3 := sb3
  refine wpAny_bind (wpAny_letGo (wpAny_pure (wpAny_bind (wpAny_bind (wpAny_onRaise ?_)))))
  show wpAny _ _ (Builtin.SmallTypes.nextOf (.ref i2) >>= _) _ _ _
  have h2' : St2 i g3 := fr2 D.TOi2 sb3 (fr2 D.i12 sb2 (fr2 (Ne.symm D.i2z) sb1 h2))
  refine wpAny_bind (D2.item i _ _ _ l2 h2' fun y g4 tk4 py st4 sb4 => wpAny_pure ?_)
  replace sb4 : Heap.SameBut i2 g3 g4 := sb4
  have hTO4 : IsPair g4 TO x b := (sb4.2 _ D.TOi2).trans hTO3
  refine wpAny_bind (wpAny_seqItems hTO4 rfl (wpAny_bind (wpAny_updateSeq_pair (s := { s with heap := g4, toks := tk4 }) hTO4 fun g5 hTO5 sb5 => ?_)))
  replace hTO5 : IsPair g5 TO x y := hTO5
  replace sb5 : Heap.SameBut TO g4 g5 := sb5
  refine wpAny_bind (wpAny_letGo (wpAny_pure (wpAny_pure (wpAny_bind (wpAny_seqItems hTO5 rfl (wpAny_bind (wpAny_newTuple ?_)))))))
  have hsz : g5.objs.size = s.heap.objs.size := by rw [sb5.1, sb4.1, sb3.1, sb2.1, sb1.1]
  have hz5 : IsZip g5 z TI TO .ellipsis := (sb5.2 _ D.TOz.symm).trans ((sb4.2 _ D.i2z.symm).trans ((sb3.2 _ D.TOz.symm).trans ((sb2.2 _ D.i1z.symm).trans hz1)))
  have hk5 : ∀ c o, c ≠ z → c ≠ TO → c ≠ i1 → c ≠ i2 → s.heap.get? c = some o → g5.get? c = some o := fun c o c1 c2 c3 c4 e =>
    (sb5.2 c c2).trans ((sb4.2 c c4).trans ((sb3.2 c c2).trans ((sb2.2 c c3).trans ((sb1.2 c c1).trans e))))
  have h15 : St1 (i + 1) g5 := fr1 D.TOi1 sb5 (fr1 (Ne.symm D.i12) sb4 (fr1 D.TOi1 sb3 st2))
  have h25 : St2 (i + 1) g5 := fr2 D.TOi2 sb5 st4
  have hzlt : z < g5.objs.size := Heap.lt_size hz5
  have hTOlt : TO < g5.objs.size := Heap.lt_size hTO5
  show wpAny _ _ (Builtin.SmallTypes.ownedTupleHandOut (.ref z) (.ref g5.objs.size) >>= _) _ _ _
  refine wpAny_bind ?_
  unfold Builtin.SmallTypes.ownedTupleHandOut
  have hz6 : IsZip (g5.push { cls := .type "tuple", data := .seq #[x, y] }) z TI TO .ellipsis := Heap.get?_push_of_some _ hz5
  refine wpAny_bind (wpAny_setField_rec (s := { s with heap := g5.push { cls := .type "tuple", data := .seq #[x, y] }, toks := tk4 }) hz6 (by simp) fun g7 hz7 sb7 => ?_)
  replace hz7 : IsZip g7 z TI TO (rawInt g5.objs.size) := hz7
  replace sb7 : Heap.SameBut z (g5.push { cls := .type "tuple", data := .seq #[x, y] }) g7 := sb7
  refine wpAny_setField_rec (s := { s with heap := g7, toks := tk4 }) hz7 (by simp) fun g8 hz8 sb8 => ?_
  replace hz8 : IsZip g8 z TI TO (rawInt g5.objs.size) := hz8
  replace sb8 : Heap.SameBut z g7 g8 := sb8
  have up : ∀ c o, c ≠ z → g5.get? c = some o → g8.get? c = some o := fun c o c1 e => (sb8.2 c c1).trans ((sb7.2 c c1).trans (Heap.get?_push_of_some _ e))
  have hT8 : IsPair g8 g5.objs.size x y := (sb8.2 _ (Nat.ne_of_gt hzlt)).trans ((sb7.2 _ (Nat.ne_of_gt hzlt)).trans (Heap.get?_push_size _ rfl))
  have h18 : St1 (i + 1) g8 := D1.frame _ _ _ h15 fun b hb o e => up b o (by have : b = i1 := by simpa using hb
                                                                             rw [this]; exact D.i1z) e
  have h28 : St2 (i + 1) g8 := D2.frame _ _ _ h25 fun b hb o e => up b o (by have : b = i2 := by simpa using hb
                                                                             rw [this]; exact D.i2z) e
  rw [hsz] at hz8 hT8
  refine wpAny_pure ⟨_, rfl, ?_⟩
  show Q (.ref g5.objs.size) _
  rw [hsz]
  exact hQ x y g8 tk4 px py hz8 (up _ _ D.TOz hTO5) h18 h28 hT8 fun c o c1 c2 c3 c4 e => up c o c1 (hk5 c o c1 c2 c3 c4 e)
/-- no more pairs -/
theorem zip_stop {a b : Value} {Q : Fin → Shared → Prop} (D1 : Draws prog w A i1 [i1] n1 P1 St1) (D2 : Draws prog w A i2 [i2] n2 P2 St2) (D : ZApart z TI TO i1 i2)
    (hz : IsZip s.heap z TI TO .none) (hTI : IsPair s.heap TI (.ref i1) (.ref i2)) (hTO : IsPair s.heap TO a b) (h1 : St1 i s.heap) (h2 : St2 i s.heap) (l1 : i ≤ n1) (l2 : i ≤ n2) (hend : i = n1 ∨ i = n2)
    (hE : ∀ h' e tk, (∀ c o, c ≠ z → c ≠ TO → c ≠ i1 → c ≠ i2 → s.heap.get? c = some o → h'.get? c = some o) → (∃ o, h'.get? e = some o ∧ o.cls = .type "StopIteration") → E (.ref e) { s with heap := h', toks := tk }) :
    wpAny (model prog w) A (Builtin.«zip.__next__» ⟨[.ref z], []⟩) Q E s := by
  have fr1 : ∀ {k h h' c}, c ≠ i1 → Heap.SameBut c h h' → St1 k h → St1 k h' := fun hc sb st => D1.frame _ _ _ st fun b hb o e => by
    have : b = i1 := by simpa using hb
    subst this
    exact (sb.2 b (Ne.symm hc)).trans e
  have fr2 : ∀ {k h h' c}, c ≠ i2 → Heap.SameBut c h h' → St2 k h → St2 k h' := fun hc sb st => D2.frame _ _ _ st fun b hb o e => by
    have : b = i2 := by simpa using hb
    subst this
    exact (sb.2 b (Ne.symm hc)).trans e
  show wpAny _ _ (field (.ref z) 2 >>= _) _ _ _
  refine wpAny_bind (wpAny_field hz rfl (x := .bool false) rfl ?_)
  show wpAny _ _ (field (.ref z) 3 >>= _) _ _ _
  refine wpAny_bind (wpAny_field hz rfl (x := .ref TI) rfl (wpAny_bind (wpAny_seqItems hTI rfl ?_)))
  show wpAny _ _ (Builtin.SmallTypes.ownedTupleIsFree (.ref z) >>= _) _ _ _
  refine wpAny_bind ?_
  unfold Builtin.SmallTypes.ownedTupleIsFree
  refine wpAny_bind (wpAny_field hz rfl (x := .none) rfl (wpAny_pure ?_))
  simp only [if_true]
  refine wpAny_bind (wpAny_rule (wpAny_bind (wpAny_field hz rfl (x := .ref TO) rfl (wpAny_bind (wpAny_setField_rec hz (by simp) fun g1 hz1 sb1 => ?_)))))
  replace hz1 : IsZip g1 z TI TO .ellipsis := hz1
  refine wpAny_bind ?_
  simp only [List.zipIdx_cons, List.zipIdx_nil, List.forIn_cons, List.forIn_nil]
  refine wpAny_bind (wpAny_bind (wpAny_onRaise ?_))
  show wpAny _ _ (Builtin.SmallTypes.nextOf (.ref i1) >>= _) _ _ _
  have h1' : St1 i g1 := fr1 (Ne.symm D.i1z) sb1 h1
  by_cases c1 : i < n1
  · have e2 : i = n2 := by omega
    refine wpAny_bind (D1.item i _ _ _ c1 h1' fun x g2 tk2 px st2 sb2 => wpAny_pure ?_)
    replace sb2 : Heap.SameBut i1 g1 g2 := sb2
    have hTO2 : IsPair g2 TO a b := (sb2.2 _ D.TOi1).trans ((sb1.2 _ D.TOz).trans hTO)
    refine wpAny_bind (wpAny_seqItems hTO2 rfl (wpAny_bind (wpAny_updateSeq_pair (s := { s with heap := g2, toks := tk2 }) hTO2 fun g3 hTO3 sb3 => ?_)))
    replace sb3 : Heap.SameBut TO g2 g3 := sb3
    refine wpAny_bind (wpAny_letGo (wpAny_pure (wpAny_bind (wpAny_bind (wpAny_onRaise ?_)))))
    show wpAny _ _ (Builtin.SmallTypes.nextOf (.ref i2) >>= _) _ _ _
    have h2' : St2 n2 g3 := e2 ▸ fr2 D.TOi2 sb3 (fr2 D.i12 sb2 (fr2 (Ne.symm D.i2z) sb1 h2))
    refine wpAny_bind (D2.done _ _ _ h2' fun g4 e sb4 he => ?_)
    replace sb4 : Heap.ExtBut i2 g3 g4 := sb4
    obtain ⟨oe, hoe, hce⟩ := he
    have hz4 : IsZip g4 z TI TO .ellipsis := sb4 _ _ D.i2z.symm ((sb3.2 _ D.TOz.symm).trans ((sb2.2 _ D.i1z.symm).trans hz1))
    have hez : e ≠ z := fun x => by subst x; rw [hz4] at hoe; cases hoe; simp at hce
    refine wpAny_setField_rec (s := { s with heap := g4, toks := tk2 }) hz4 (by simp) fun g5 _ sb5 => ?_
    replace sb5 : Heap.SameBut z g4 g5 := sb5
    exact hE g5 e tk2 (fun c o d1 d2 d3 d4 x => (sb5.2 c d1).trans (sb4 c o d4 ((sb3.2 c d2).trans ((sb2.2 c d3).trans ((sb1.2 c d1).trans x))))) ⟨oe, (sb5.2 e hez).trans hoe, hce⟩
  · have e1 : i = n1 := by omega
    refine wpAny_bind (D1.done _ _ _ (e1 ▸ h1') fun g2 e sb2 he => ?_)
    replace sb2 : Heap.ExtBut i1 g1 g2 := sb2
    obtain ⟨oe, hoe, hce⟩ := he
    have hz2 : IsZip g2 z TI TO .ellipsis := sb2 _ _ D.i1z.symm hz1
    have hez : e ≠ z := fun x => by subst x; rw [hz2] at hoe; cases hoe; simp at hce
    refine wpAny_setField_rec (s := { s with heap := g2 }) hz2 (by simp) fun g3 _ sb3 => ?_
    replace sb3 : Heap.SameBut z g2 g3 := sb3
    exact hE g3 e s.toks (fun c o d1 _ d3 _ x => (sb3.2 c d1).trans (sb2 c o d3 ((sb1.2 c d1).trans x))) ⟨oe, (sb3.2 e hez).trans hoe, hce⟩
end

def Itz (x y : Str) : It := ⟨fun i _ => i < x.cps.size ∧ i < y.cps.size, fun i H v H' => ∃ c d T, x.cps[i]? = some c ∧ y.cps[i]? = some d ∧ H T = none ∧ v = .ref T ∧ H' = upd H T (.tup [.str ⟨#[c]⟩, .str ⟨#[d]⟩]),
  fun i _ => i ≤ x.cps.size ∧ i ≤ y.cps.size ∧ (i = x.cps.size ∨ i = y.cps.size)⟩
def ZSt (z TI TO i1 i2 : Addr) (S1 S2 : Nat → Heap → Prop) (i : Nat) (h : Heap) : Prop := IsZip h z TI TO .none ∧ IsPair h TI (.ref i1) (.ref i2) ∧ (∃ a b, IsPair h TO a b) ∧ S1 i h ∧ S2 i h
theorem str_draws (prog : Program) (w : World) (x : Str) (t : Tok) (it : Addr) : ∀ A : Around, A.handled = none →
    Draws prog w A it [it] x.cps.size (fun i v => ∃ c u, x.cps[i]? = some c ∧ v = .str ⟨#[c]⟩ u) (fun i h => h.IsStrIter it (strIterType x) x t i) := by
  intro A hh
  unfold strIterType
  cases ha : x.cps.all (· < 128) with
  | true => exact Draws.strAscii hh it x t
  | false => exact Draws.strWide hh it x t
theorem turn_zip {P : Program} {w : World} {K : PySem.W.Frag} {elts : List Expr} {kt : Nat} {tp : Pos} (z TI TO i1 i2 : Addr) (x y : Str) (t u : Tok) (D : ZApart z TI TO i1 i2) :
    Turn P w K (.Tuple elts kt tp) (Itz x y) [z, TI, TO, i1, i2] z (ZSt z TI TO i1 i2 (fun i h => h.IsStrIter i1 (strIterType x) x t i) (fun i h => h.IsStrIter i2 (strIterType y) y u i)) where
  mem := by simp
  obj := fun i h st b hb => by
    obtain ⟨hz, hTI, ⟨a, c, hTO⟩, ⟨o1, e1, _, d1⟩, ⟨o2, e2, _, d2⟩⟩ := st
    simp only [List.mem_cons, List.not_mem_nil, or_false] at hb
    rcases hb with rfl | rfl | rfl | rfl | rfl
    · exact ⟨_, hz, fun v q => nomatch q⟩
    · exact ⟨_, hTI, fun v q => nomatch q⟩
    · exact ⟨_, hTO, fun v q => nomatch q⟩
    · exact ⟨o1, e1, fun v q => by rw [d1] at q; cases q⟩
    · exact ⟨o2, e2, fun v q => by rw [d2] at q; cases q⟩
  keep := fun i h h' st k => by
    obtain ⟨hz, hTI, ⟨a, c, hTO⟩, ⟨o1, e1, r1⟩, ⟨o2, e2, r2⟩⟩ := st
    exact ⟨k z (by simp) _ hz, k TI (by simp) _ hTI, ⟨a, c, k TO (by simp) _ hTO⟩, ⟨o1, k i1 (by simp) _ e1, r1⟩, ⟨o2, k i2 (by simp) _ e2, r2⟩⟩
  item := by
    intro X hP hw hK hc i pins s σ H E I hf st hg
    subst hP hw hK
    obtain ⟨hz, hTI, ⟨a, c, hTO⟩, h1, h2⟩ := st
    obtain ⟨g1, g2⟩ : i < x.cps.size ∧ i < y.cps.size := hg
    have hT : s.TypeIs (.ref z) "zip" := ⟨_, hz, rfl⟩
    have hh : X.A.in1.handled = none := I.ok.hd hc
    unfold pyNext
    refine wpAny_bind (wpAny_attempt (wpAny_callSpecial?_slot (name := Str.ofString "__next__") hT F.slot_zip_next (wpAny_call_entry F.slot_zip_next hT F.entry_zip_next
      (zip_more (str_draws _ _ x t i1 _ hh) (str_draws _ _ y u i2 _ hh) D hz hTI hTO h1 h2 g1 g2 fun v1 v2 h' tk p1 p2 a1 a2 a3 a4 a5 hk => wpAny_pure ?_) (F.args_zip_next_1 _))))
    obtain ⟨c1, u1, e1, rfl⟩ := p1
    obtain ⟨c2, u2, e2, rfl⟩ := p2
    refine ⟨_, rfl, wpAny_letOwnedTupleGo_zip (s := { s with heap := h', toks := tk }) a1 fun h'' hz'' sb => ?_⟩
    replace sb : Heap.SameBut z h' h'' := sb
    have zlt : z < s.heap.objs.size := Heap.lt_size hz
    have Tne : s.heap.objs.size ≠ z := Nat.ne_of_gt zlt
    have hT2 : h''.get? s.heap.objs.size = some { cls := .type "tuple", data := .seq #[.str ⟨#[c1]⟩ u1, .str ⟨#[c2]⟩ u2] } := (sb.2 _ Tne).trans a5
    -- the four records that turn are our own
    have turn1 : Inv X pins σ H { s with heap := h'', toks := tk } := by
      have nit : ∀ b v, H b = some v → b ∉ [z, TI, TO, i1, i2] := fun b v e hb => by rw [(hf b hb).1] at e; cases e
      have kk : ∀ b o, b ∉ [z, TI, TO, i1, i2] → s.heap.get? b = some o → h''.get? b = some o := fun b o hb e => by
        simp only [List.mem_cons, List.not_mem_nil, or_false, not_or] at hb
        exact (sb.2 b hb.1).trans (hk b o hb.1 hb.2.2.1 hb.2.2.2.1 hb.2.2.2.2 e)
      refine I.step (g' := s.gens) (d' := s.drawn) (ch := [z, TI, TO, i1, i2]) (fun b hb => ⟨(hf b hb).2.2.2.1, (hf b hb).2.1, (hf b hb).2.2.2.2.1, (hf b hb).2.2.2.2.2⟩) (fun b o _ _ hc e _ => kk b o hc e) (fun b o _ _ hc e _ => ⟨o.slots, kk b o hc e⟩) (fun _ _ _ _ n => n)
        (fun b o hc e => ⟨o, kk b o hc e⟩) (fun _ _ e => e) (fun _ _ _ e => e) (fun b ps e => ⟨#[], by rw [e]; simp⟩) (fun m hm => ?_) (fun b v e => ?_) I.bare
      · obtain ⟨o, es, ep, ho, r⟩ := hm
        exact ⟨o, es, ep, kk _ o (fun hb => (hf _ hb).2.1 rfl) ho, r⟩
      · refine (I.hok b v e).stay (fun c' v' hc' q => kk c' v' ?_ q) (fun _ q => q) fun _ _ q => q
        rcases hc' with q' | q'
        · rw [q']; exact nit b v e
        · exact nit c' _ q'
    have Hn : H s.heap.objs.size = none := I.fresh
    have I2 : Inv X pins σ (upd H s.heap.objs.size (.tup [.str ⟨#[c1]⟩, .str ⟨#[c2]⟩])) { s with heap := h'', toks := tk } := by
      have nf : s.heap.objs.size ∉ X.fs := I.nofs (Nat.le_refl _)
      refine ⟨turn1.ok, turn1.os, turn1.bare, ?_, turn1.loc, turn1.cell, ?_, ?_, ?_, ?_, turn1.len⟩
      · have lt0 : ∀ b o, X.s₀.heap.get? b = some o → b ≠ s.heap.objs.size := fun b o e => Nat.ne_of_lt (Nat.lt_of_lt_of_le (Heap.lt_size e) I.sz)
        refine ⟨turn1.base.keep, turn1.base.slot, fun b o e n hx => ?_, turn1.base.there, fun b xs e => ?_, fun b o v e => ?_, fun b ps e => ?_⟩
        · rw [upd_ne (lt0 b o e)]; exact turn1.base.free b o e n hx
        · rw [upd_ne (ne_of_none (turn1.base.tups b xs e) Hn)]; exact turn1.base.tups b xs e
        · rw [upd_ne (ne_of_none (turn1.base.frzs b o v e) Hn)]; exact turn1.base.frzs b o v e
        · obtain ⟨m, q⟩ := turn1.base.tbls b ps e
          exact ⟨m, by rw [upd_ne (ne_of_none q Hn)]; exact q⟩
      · rw [upd_ne (Nat.ne_of_lt I.lt)]; exact turn1.free
      · intro x' c' e
        obtain ⟨v', q⟩ := I.cell x' c' e
        rw [upd_ne (Nat.ne_of_lt q.lt)]; exact turn1.freeC x' c' e
      · intro p hp
        obtain ⟨e, n, r⟩ := turn1.pin p hp
        refine ⟨e, ?_, r⟩
        rw [upd_ne (Nat.ne_of_lt (Heap.lt_size (I.pin p hp).1))]; exact n
      · intro b v e
        by_cases hb : b = s.heap.objs.size
        · subst hb
          rw [upd_same] at e
          cases e
          exact ⟨by show 2 ≤ sizeLine; decide, [.str ⟨#[c1]⟩ u1, .str ⟨#[c2]⟩ u2], .cons ⟨_, rfl⟩ (.cons ⟨_, rfl⟩ .nil), _, hT2, rfl, _, rfl⟩
        · rw [upd_ne hb] at e
          refine (turn1.hok b v e).stay (fun _ _ _ q => q) (fun c' q => ?_) fun c' xs q => ?_
          · rw [upd_ne (ne_of_none q Hn)]; exact q
          · rw [upd_ne (ne_of_none q Hn)]; exact q
    refine ⟨.ref s.heap.objs.size, _, I2, rfl, ⟨c1, c2, _, e1, e2, Hn, rfl, rfl⟩, ⟨hz'', (sb.2 _ D.TIz).trans (hk _ _ D.TIz D.TITO D.TIi1 D.TIi2 hTI), ⟨_, _, (sb.2 _ D.TOz).trans a2⟩, ?_, ?_⟩, fun b hb => ?_⟩
    · obtain ⟨o, e, r⟩ := a3; exact ⟨o, (sb.2 _ D.i1z).trans e, r⟩
    · obtain ⟨o, e, r⟩ := a4; exact ⟨o, (sb.2 _ D.i2z).trans e, r⟩
    · have : b < s.heap.objs.size := by
        simp only [List.mem_cons, List.not_mem_nil, or_false] at hb
        obtain ⟨o1, q1, _⟩ := h1
        obtain ⟨o2, q2, _⟩ := h2
        rcases hb with rfl | rfl | rfl | rfl | rfl
        · exact Heap.lt_size hz
        · exact Heap.lt_size hTI
        · exact Heap.lt_size hTO
        · exact Heap.lt_size q1
        · exact Heap.lt_size q2
      rw [upd_ne (Nat.ne_of_lt this)]; exact (hf b hb).1
  done := by
    intro X hP hw hK hc i pins s σ H E I hf st hg
    subst hP hw hK
    obtain ⟨hz, hTI, ⟨a, c, hTO⟩, h1, h2⟩ := st
    obtain ⟨g1, g2, g3⟩ : i ≤ x.cps.size ∧ i ≤ y.cps.size ∧ (i = x.cps.size ∨ i = y.cps.size) := hg
    have hT : s.TypeIs (.ref z) "zip" := ⟨_, hz, rfl⟩
    have hh : X.A.in1.handled = none := I.ok.hd hc
    unfold pyNext
    refine wpAny_bind (wpAny_attempt (wpAny_callSpecial?_slot (name := Str.ofString "__next__") hT F.slot_zip_next (wpAny_call_entry F.slot_zip_next hT F.entry_zip_next
      (zip_stop (str_draws _ _ x t i1 _ hh) (str_draws _ _ y u i2 _ hh) D hz hTI hTO h1 h2 g1 g2 g3 fun h' e tk hk he => ?_) (F.args_zip_next_1 _))))
    obtain ⟨o, ho, hco⟩ := he
    refine wpAny_bind (wpAny_isInstance (T := "StopIteration") (b := true) ⟨o, ho, hco⟩ isSubtype_stop (wpAny_pure ⟨rfl, ?_⟩))
    have nit : ∀ b v, H b = some v → b ∉ [z, TI, TO, i1, i2] := fun b v e hb => by rw [(hf b hb).1] at e; cases e
    have kk : ∀ b o, b ∉ [z, TI, TO, i1, i2] → s.heap.get? b = some o → h'.get? b = some o := fun b o hb e => by
      simp only [List.mem_cons, List.not_mem_nil, or_false, not_or] at hb
      exact hk b o hb.1 hb.2.2.1 hb.2.2.2.1 hb.2.2.2.2 e
    refine I.step (g' := s.gens) (d' := s.drawn) (ch := [z, TI, TO, i1, i2]) (fun b hb => ⟨(hf b hb).2.2.2.1, (hf b hb).2.1, (hf b hb).2.2.2.2.1, (hf b hb).2.2.2.2.2⟩) (fun b o _ _ hc e _ => kk b o hc e) (fun b o _ _ hc e _ => ⟨o.slots, kk b o hc e⟩) (fun _ _ _ _ n => n)
      (fun b o hc e => ⟨o, kk b o hc e⟩) (fun _ _ e => e) (fun _ _ _ e => e) (fun b ps e => ⟨#[], by rw [e]; simp⟩) (fun m hm => ?_) (fun b v e => ?_) I.bare
    · obtain ⟨o', es, ep, ho', r⟩ := hm
      exact ⟨o', es, ep, kk _ o' (fun hb => (hf _ hb).2.1 rfl) ho', r⟩
    · refine (I.hok b v e).stay (fun c' v' hc' q => kk c' v' ?_ q) (fun _ q => q) fun _ _ q => q
      rcases hc' with q' | q'
      · rw [q']; exact nit b v e
      · exact nit c' _ q'
  self := fun _ _ _ _ _ st h => wpAny_pyIter_zip st.1 h
end L2
namespace L2
open PySem PySem.Spec PyProof.Rows
def isStar : Expr → Bool
  | .Starred _ _ => true
  | _ => false
theorem starEach_plain {e : Expr} {es : List Expr} {env : Env} (h : isStar e = false) : starEach (e :: es) env = (false, eval e env) :: starEach es env := by
  cases e <;> first | rfl | exact absurd h (by simp [isStar])
theorem assignEach_plain {e : Expr} {es : List Expr} {env : Env} (h : isStar e = false) : assignEach (e :: es) env = (false, assign e env) :: assignEach es env := by
  cases e <;> first | rfl | exact absurd h (by simp [isStar])
theorem anyStar {pos : Pos} {env : Env} : ∀ {es : List Expr}, es.any isStar = false → (backTo pos (starEach es env)).any (·.1) = false
  | [], _ => rfl
  | e :: es, h => by
    rw [List.any_cons, Bool.or_eq_false_iff] at h
    rw [starEach_plain h.1]
    have := anyStar (pos := pos) (env := env) h.2
    cases es with
    | nil => rfl
    | cons e2 es2 =>
      simp only [backTo] at this ⊢
      simpa using this
theorem allStar {pos : Pos} {env : Env} : ∀ {es : List Expr}, es.any isStar = false → (backTo pos (starEach es env)).all (fun x => !x.1) = true
  | [], _ => rfl
  | e :: es, h => by
    rw [List.any_cons, Bool.or_eq_false_iff] at h
    rw [starEach_plain h.1]
    have := allStar (pos := pos) (env := env) h.2
    cases es with
    | nil => rfl
    | cons e2 es2 =>
      simp only [backTo] at this ⊢
      simpa using this
theorem assignStar {env : Env} : ∀ {es : List Expr}, es.any isStar = false → (assignEach es env).length = es.length ∧ (assignEach es env).findIdx? (·.1) = none
  | [], _ => ⟨rfl, rfl⟩
  | e :: es, h => by
    rw [List.any_cons, Bool.or_eq_false_iff] at h
    rw [assignEach_plain h.1]
    have ih := assignStar (env := env) h.2
    refine ⟨by rw [List.length_cons, List.length_cons, ih.1], ?_⟩
    rw [List.findIdx?_cons, ih.2]
    rfl
def isCompE : Expr → Bool
  | .ListComp _ _ _ _ => true
  | .SetComp _ _ _ _ => true
  | .DictComp _ _ _ _ _ => true
  | _ => false
theorem swaps_no {e : Expr} {t : Option Expr} {l : Nat} {env : Env} (h : isCompE e = false) : swapsWith e t l env = pure false := by
  cases e <;> first | rfl | exact absurd h (by simp [isCompE])
def isTupE : Expr → Bool
  | .Tuple _ _ _ => true
  | _ => false
theorem swapped_no {t e : Expr} {env : Env} (h : isTupE e = false) : swappedStores [t] e env = pure none := by
  cases e with
  | Tuple _ _ _ => exact absurd h (by simp [isTupE])
  | _ => cases t <;> rfl
def isCallE : Expr → Bool
  | .Call _ _ _ _ => true
  | _ => false
theorem attrBase_no {o : Expr} {a : Str} {env : Env} {w : Sem Value} (h : isCallE o = false) : attributeBase o a env w = w := by
  cases o <;> first | rfl | exact absurd h (by simp [isCallE])
def isSetE : Expr → Bool
  | .Set _ _ _ => true
  | _ => false
theorem folded_no {e : Expr} {env : Env} (h : isSetE e = false) (x : Value) : foldedSetIterable e env x = pure x := by
  cases e <;> first | rfl | exact absurd h (by simp [isSetE])
def isSliceE : Expr → Bool
  | .Slice _ _ _ _ => true
  | _ => false
theorem assign_sub {o i : Expr} {pos : Pos} {env : Env} (h : isSliceE i = false) (v : Value) : assign (.Subscript o i pos) env v = (do
      let ov ← holding [v] (eval o env)
      let iv ← holding [v, ov] (eval i env)
      standAt pos
      holding [v, ov, iv] (setItem ov iv v)
      release [v, ov, iv] []) := by
  cases i <;> first | rfl | exact absurd h (by simp [isSliceE])
structure QE (X : Cx) (e : Expr) (t : TE) : Prop where
  h : PE X e t
structure QT (X : Cx) (e : Expr) (t : TT) : Prop where
  h : PT X e t
structure QW (X : Cx) (e : Expr) (t : TT) : Prop where
  h : PW X e t
structure QA (X : Cx) (es : List Expr) (t : TA) : Prop where
  h : PA X es t
structure QS (X : Cx) (st : Stmt) (t : TS) : Prop where
  h : PS X st t
structure QSs (X : Cx) (st : List Stmt) (t : TS) : Prop where
  h : PSs X st t
structure QG (X : Cx) (e : Expr) (t : TG) : Prop where
  h : PG X e t
structure QGs (X : Cx) (es : List Expr) (t : TGs) : Prop where
  h : PGs X es t
structure QI (X : Cx) (tg iter : Expr) (wi : TI) : Prop where
  h : PI X tg iter wi
structure QO (X : Cx) (e : Option Expr) (t : TO) : Prop where
  h : PO X e t
structure QTs (X : Cx) (ifs : List Expr) (t : TT) : Prop where
  h : PTs X ifs t
structure QPs (X : Cx) (pos : Pos) (keys : List (Option Expr)) (values : List Expr) (trs : List (TE × TE)) : Prop where
  h : PPs X pos keys values trs
structure OpQ (X : Cx) (f : Value → Value → Sem Value) (r : R2) : Prop where
  h : OpR X f r
structure CallQ (X : Cx) (f : Value) (r : List V → Hp → VK → Prop) : Prop where
  h : CallR X f r
structure MtQ (X : Cx) (id : String) (r : V → List V → Hp → VK → Prop) : Prop where
  h : MtR X id r
section
variable {X : Cx} {K : PySem.W.Frag} {pos : Pos}
theorem eInt {i j} : QE X (.Constant (.int i) j pos) (tC (.int i)) := ⟨pe_int⟩
theorem eBl {b j} : QE X (.Constant (.bool b) j pos) (tC (.bl b)) := ⟨pe_bl⟩
theorem eNon {j} : QE X (.Constant .none j pos) (tC .non) := ⟨pe_non⟩
theorem eStr {x j} : QE X (.Constant (.str x) j pos) (tC (.str x)) := ⟨pe_str⟩
theorem vn (i : Nat) {x : Str} (hN : X.N[i]? = some x) (hv : Vis X.env.scope x) (hd : (x == ("__debug__" : Str)) = false) (hcd : (x == ("__classdict__" : Str)) = false) : QE X (.Name x pos) (tVar i) := ⟨pe_var hN hv hd hcd⟩
theorem gvE {x : Str} {v : V} (g : Gv X.mg x v) (hg : Gl X x) (hd : (x == ("__debug__" : Str)) = false) : QE X (.Name x pos) (tC v) := ⟨pe_gv g hg hd⟩
theorem blE {x : Str} {v : V} {u : Value} (hg : Gl X x) (hm : X.mg x = none) (hv : bootBuiltins x = some u) (r : RelV v u) (hn : (x == ("__name__" : Str)) = false) (hd : (x == ("__debug__" : Str)) = false) : QE X (.Name x pos) (tC v) :=
  ⟨pe_bltn hg hm hv r (fun e => by subst e; cases hn) hd⟩
theorem aNil : QA X [] tNil := ⟨pa_nil⟩
theorem paE {e : Expr} {es : List Expr} {te : TE} {t : TA} (hs : isStar e = false) (ha : QE X e te) (hr : QA X es t) : QA X (e :: es) (tCons te t) := ⟨pa_cons ha.h hr.h (starEach_plain hs)⟩
theorem calE {j k : Nat} {x : Str} {ps : List Str} {sp : Sp} {p : Pos} {e : Expr} {es : List Expr} {t : TA} (C : Cal X.prog X.w X.K X.mg X.base j x ps sp) (hr : Room k X.A) (hg : Gl X x) (hjk : Nat.ble j k = true)
    (hdb : (x == ("__debug__" : Str)) = false) (he : (e :: es).any isStar = false) (ha : QA X (e :: es) t) :
    QE X (.Call (.Name x p) (e :: es) [] pos) (tCall sp [] E0 t) := by
  rw [List.any_cons, Bool.or_eq_false_iff] at he
  exact ⟨pe_cal C hr hg pass0 ha.h (Nat.le_of_ble_eq_true hjk) hdb (starEach_plain he.1) (anyStar he.2)⟩
theorem cbE {x : Str} {id : String} {r : List V → Hp → VK → Prop} {p : Pos} {e : Expr} {es : List Expr} {t : TA} (hc : CallQ X (.builtin id) r) (hg : Gl X x) (hm : X.mg x = none) (hv : bootBuiltins x = some (.builtin id)) (hn : (x == ("__name__" : Str)) = false) (hdb : (x == ("__debug__" : Str)) = false)
    (he : (e :: es).any isStar = false) (ha : QA X (e :: es) t) : QE X (.Call (.Name x p) (e :: es) [] pos) (tCB r t) := by
  rw [List.any_cons, Bool.or_eq_false_iff] at he
  exact ⟨pe_callB hc.h hg hm hv ha.h (fun e => by subst e; cases hn) hdb (starEach_plain he.1) (anyStar he.2)⟩
theorem ctE {x : Str} {T : String} {r : List V → Hp → VK → Prop} {p : Pos} {e : Expr} {es : List Expr} {t : TA} (hc : CallQ X (.type T) r) (hg : Gl X x) (hm : X.mg x = none) (hv : bootBuiltins x = some (.type T)) (hn : (x == ("__name__" : Str)) = false) (hdb : (x == ("__debug__" : Str)) = false)
    (he : (e :: es).any isStar = false) (ha : QA X (e :: es) t) : QE X (.Call (.Name x p) (e :: es) [] pos) (tCB r t) := by
  rw [List.any_cons, Bool.or_eq_false_iff] at he
  exact ⟨pe_callTy hc.h hg hm hv ha.h (fun e => by subst e; cases hn) hdb (starEach_plain he.1) (anyStar he.2)⟩
theorem bmE {o e : Expr} {es : List Expr} {to : TE} {t : TA} {name : Str} {apos cpos : Pos} {T id : String} {r : V → List V → Hp → VK → Prop} (h : X.K = K) (pa : PlainAttrs T) (slot : Slot T name id) (hty : typeOf (.builtin id) = pure (.type "method_descriptor")) (hm : MtQ X id r)
    (hbase : isCallE o = false) (hfew : (e :: es).any isStar = false) (h30 : Nat.blt (e :: es).length 30 = true) (hline : (apos.endLine == cpos.line) = true) (ho : QE X o to) (ha : QA X (e :: es) t) :
    QE X (.Call (.Attribute o name apos) (e :: es) [] cpos) (tBM K T r to t) := by
  have he := hfew
  rw [List.any_cons, Bool.or_eq_false_iff] at he
  refine ⟨pe_bmK h pa slot hty hm.h ho.h ha.h (attrBase_no hbase) ?_ hline (starEach_plain he.1) (anyStar he.2)⟩
  rw [allStar hfew]
  have h30' : (e :: es).length < 30 := Nat.blt_eq.mp h30
  have : decide ((e :: es).length + ([] : List Keyword).length + (if ([] : List Keyword).isEmpty then 0 else 1) < 30) = true := decide_eq_true (by simpa using h30')
  rw [this]
  rfl
theorem rng1E {tg a : Expr} {ta : TA} {p : Pos} (hg : Gl X "range") (hm : X.mg "range" = none) (hs : isStar a = false) (ha : QA X [a] ta) : QI X tg (.Call (.Name "range" p) [a] [] pos) (iRng1 ta) := ⟨pi_range1 hg hm ha.h (starEach_plain hs)⟩
theorem anyI {tg l : Expr} {tl : TE} (h : X.K = K) (hl : QE X l tl) : QI X tg l (iAny K tl) := ⟨pi_anyK h hl.h⟩
section
variable {a b c : Expr} {ta tb tc : TE} {op op' : CmpOp} {r r' : R2}
theorem chainE (ho : OpQ X (compareOp op) r) (ho' : OpQ X (compareOp op') r') (hm : lastMarks [op, op'] [b, c] = false) (ha : QE X a ta) (hb : QE X b tb) (hc : QE X c tc) : QE X (.Compare a [op, op'] [b, c] pos) (tChain r r' ta tb tc) := ⟨pe_chain ho.h ho'.h ha.h hb.h hc.h hm⟩
theorem cmpE (ho : OpQ X (compareOp op) r) (hm : behindInMarks op b = false) (ha : QE X a ta) (hb : QE X b tb) : QE X (.Compare a [op] [b] pos) (tOp r ta tb) := ⟨pe_cmpR ho.h ha.h hb.h hm⟩
theorem cmpT (ho : OpQ X (compareOp op) r) (hm : behindInMarks op b = false) (ha : QE X a ta) (hb : QE X b tb) : QT X (.Compare a [op] [b] pos) (tTest (tOp r ta tb)) := ⟨pt_cmpR ho.h ha.h hb.h hm⟩
theorem opE {op : Operator} (ho : OpQ X (binaryOp op) r) (ha : QE X a ta) (hb : QE X b tb) : QE X (.BinOp a op b pos) (tOp r ta tb) := ⟨pe_op ho.h ha.h hb.h⟩
theorem negE (ha : QE X a ta) : QE X (.UnaryOp .USub a pos) (tUn (rU fun i => .int (-i)) ta) := ⟨pe_un un_neg ha.h⟩
theorem ixE (h : X.K = K) (hs : PlainIx b) (ha : QE X a ta) (hb : QE X b tb) : QE X (.Subscript a b pos) (tOp (rIx K) ta tb) := ⟨pe_ix (ixK h) ha.h hb.h hs⟩
theorem slE {p2 : Pos} {lo hi : Option Expr} {tl th : TO} (h : X.K = K) (ha : QE X a ta) (hl : QO X lo tl) (hu : QO X hi th) : QE X (.Subscript a (.Slice lo hi none p2) pos) (tSl (rSlA K) ta tl th) := ⟨pe_slice (slK h) ha.h hl.h hu.h⟩
theorem noO : QO X none tNoPart := ⟨po_none⟩
theorem someO (h : QE X a ta) : QO X (some a) (tPart ta) := ⟨po_some h.h⟩
theorem oneV {op} (h : QE X a ta) : QE X (.BoolOp op [a] pos) ta := ⟨pe_one h.h⟩
theorem andV {rest : List Expr} (ha : QE X a ta) (hb : QE X (.BoolOp .And (b :: rest) pos) tb) : QE X (.BoolOp .And (a :: b :: rest) pos) (tAndV ta tb) := ⟨pe_and ha.h hb.h⟩
theorem orV {rest : List Expr} (ha : QE X a ta) (hb : QE X (.BoolOp .Or (b :: rest) pos) tb) : QE X (.BoolOp .Or (a :: b :: rest) pos) (tOrV ta tb) := ⟨pe_or ha.h hb.h⟩
theorem lstE {es : List Expr} {t : TA} (h : QA X es t) : QE X (.List es pos) (tLst t) := ⟨pe_lst h.h⟩
theorem tupE {es : List Expr} {t : TA} {x1} (h : QA X es t) : QE X (.Tuple es x1 pos) (tTup t) := ⟨pe_tup h.h⟩
theorem dnewE : QE X (.Dict [] [] pos) tDNewK := ⟨pe_dnewK⟩
variable {tA tB' : TT} {rest : List Expr}
theorem notT (ha : QT X a tA) : QT X (.UnaryOp .Not a pos) (tNot tA) := ⟨pt_not ha.h⟩
theorem and1W (ha : QT X a tA) : QW X (.BoolOp .And [a] pos) tA := ⟨pw_and1 ha.h⟩
theorem or1W (ha : QT X a tA) : QW X (.BoolOp .Or [a] pos) tA := ⟨pw_or1 ha.h⟩
theorem andW (ha : QT X a tA) (hb : QW X (.BoolOp .And (b :: rest) pos) tB') : QW X (.BoolOp .And (a :: b :: rest) pos) (tAnd tA tB') := ⟨pw_and ha.h hb.h⟩
theorem orW (ha : QT X a tA) (hb : QW X (.BoolOp .Or (b :: rest) pos) tB') : QW X (.BoolOp .Or (a :: b :: rest) pos) (tOr tA tB') := ⟨pw_or ha.h hb.h⟩
theorem wT (h : QW X a tA) : QT X a tA := ⟨PW.pt h.h⟩
theorem truT (h : X.K = K) (he : ∀ whole, isTrue a X.env whole = (do let v ← whole; standAt a.pos; holding [v] (truthy v))) (ha : QE X a ta) : QT X a (fun σ H Q => ta σ H fun x H' => ∃ k, TruV K x H' k ∧ Q k H') := ⟨pt_truthK h ha.h he⟩
theorem noTs : QTs X [] tYes := ⟨pts_nil⟩
theorem oneTs (h : QT X c tA) : QTs X [c] tA := ⟨pts_one h.h⟩
end
theorem compE {tg iter elt : Expr} {ifs : List Expr} {scope : Scope} {N' : List Str} {cap : List (Nat × Nat)} {wi : TI} {g : TG} {tc : TT} {te : TE} (S : CompScope X scope N' cap) (hc : X.calm = true) (hs : isSetE iter = false) (hi : QI X tg iter wi)
    (hg : ∀ s₃ H₃ fp, QG (compCx X scope N' s₃ H₃ fp) tg g) (ht : ∀ s₃ H₃ fp, QTs (compCx X scope N' s₃ H₃ fp) ifs tc) (he : ∀ s₃ H₃ fp, QE (compCx X scope N' s₃ H₃ fp) elt te) :
    QE X (.ListComp elt [⟨tg, iter, ifs, 0⟩] scope pos) (tComp wi N'.length cap g tc te) := ⟨pe_comp S hc hi.h (fun s₃ H₃ fp => (hg s₃ H₃ fp).h) (fun s₃ H₃ fp => (ht s₃ H₃ fp).h) (fun s₃ H₃ fp => (he s₃ H₃ fp).h) (folded_no hs)⟩
theorem ssNil : QSs X [] tNext := ⟨pss_nil⟩
theorem ssCons {st : Stmt} {rest : List Stmt} {t u : TS} (h1 : QS X st t) (h2 : QSs X rest u) : QSs X (st :: rest) (tSeq t u) := ⟨pss_cons h1.h h2.h⟩
theorem ssOne {st : Stmt} {t : TS} (h1 : QS X st t) : QSs X [st] t := ⟨pss_one h1.h⟩
theorem ifS {c : Expr} {a b : List Stmt} {tc : TT} {t u : TS} (hc : QT X c tc) (ha : QSs X a t) (hb : QSs X b u) : QS X (.If c a b pos) (tIfS tc t u) := ⟨ps_if hc.h ha.h hb.h⟩
theorem retS {e : Expr} {te : TE} (he : QE X e te) : QS X (.Return (some e) pos) (tRet te) := ⟨ps_ret he.h⟩
theorem neverS {st : Stmt} : QS X st tNever := ⟨ps_never⟩
theorem forE {tg iter : Expr} {body : List Stmt} {wi : TI} {g : TG} {tb : TS} (hp : PassesOwn (model X.prog X.w) X.A X.env X.xe) (hc : X.calm = true) (hs : isSetE iter = false) (hi : QI X tg iter wi) (hg : QG X tg g) (hb : QSs X body tb) :
    QS X (.For tg iter body [] pos) (tFor wi g tb) := ⟨ps_for hp hc hi.h hg.h hb.h (folded_no hs)⟩
theorem setE (i : Nat) {x : Str} {e : Expr} {te : TE} {pos' : Pos} (hN : X.N.Nodup) (hi : X.N[i]? = some x) (hx : Loc X.env.scope x) (hf : X.fn x = true ∨ X.env.scope.names.lookup x = some .local) (hs : isCompE e = false) (he : QE X e te) :
    QS X (.Assign [.Name x pos'] e pos) (tAsg te (gName i)) := ⟨ps_set hN hi hx he.h (swaps_no hs) hf⟩
theorem exprE {e : Expr} {te : TE} (hs : isCompE e = false) (he : QE X e te) : QS X (.Expr e pos) (tDrop te) := ⟨ps_expr he.h (swaps_no hs)⟩
theorem asgE {tg e : Expr} {te : TE} {g : TG} (hs : isCompE e = false) (hw : isTupE e = false) (hst : isStar tg = false) (he : QE X e te) (hg : QG X tg g) : QS X (.Assign [tg] e pos) (tAsg te g) :=
  ⟨ps_asg he.h hg.h (swaps_no hs) (swapped_no hw) (by rw [assignEach_plain hst]; rfl)⟩
theorem nameG (i : Nat) {x : Str} (hN : X.N.Nodup) (hi : X.N[i]? = some x) (hx : Loc X.env.scope x) (hf : X.fn x = true ∨ X.env.scope.names.lookup x = some .local) : QG X (.Name x pos) (gName i) := ⟨pg_name hN hi hx hf⟩
theorem gsNil : QGs X [] gNil := ⟨pgs_nil⟩
theorem gsE {e : Expr} {es : List Expr} {t : TG} {u : TGs} (hs : isStar e = false) (h1 : QG X e t) (h2 : QGs X es u) : QGs X (e :: es) (gCons t u) := ⟨pgs_cons h1.h h2.h (by rw [assignEach_plain hs]; rfl)⟩
theorem tupG {es : List Expr} {k : Nat} {t : TGs} (hK : X.K = K) (hc : X.calm = true) (hs : es.any isStar = false) (h : QGs X es t) : QG X (.Tuple es k pos) (gTup K es.length t) := by
  subst hK
  exact ⟨pg_tup hc h.h (assignStar hs).1 (assignStar hs).2⟩
theorem subG {o i : Expr} {to ti : TE} (hs : isSliceE i = false) (ho : QE X o to) (hi : QE X i ti) : QG X (.Subscript o i pos) (gSub to ti rSetL) := ⟨pg_sub ho.h hi.h set_any (assign_sub hs)⟩
theorem q_addA : OpQ X (binaryOp .Add) rAddA := ⟨op_addA⟩
theorem q_sub : OpQ X (binaryOp .Sub) (rI0 fun i j => .int (i - j)) := ⟨op_sub⟩
theorem q_mulA : OpQ X (binaryOp .Mult) rMulA := ⟨op_mulA⟩
theorem q_mod : OpQ X (binaryOp .Mod) (rI (fun _ j => 0 < j) fun i j => .int (i % j)) := ⟨op_mod⟩
theorem q_fdiv : OpQ X (binaryOp .FloorDiv) (rI CDiv fun i j => .int (i / j)) := ⟨op_fdiv⟩
theorem q_eqA : OpQ X (compareOp .Eq) rEqA := ⟨op_eqA⟩
theorem q_neA : OpQ X (compareOp .NotEq) rNeA := ⟨op_neA⟩
theorem q_lt : OpQ X (compareOp .Lt) (rI0 fun i j => .bl (decide (i < j))) := ⟨op_lt⟩
theorem q_le : OpQ X (compareOp .LtE) (rI0 fun i j => .bl (decide (i ≤ j))) := ⟨op_le⟩
theorem q_gt : OpQ X (compareOp .Gt) (rI0 fun i j => .bl (decide (j < i))) := ⟨op_gt⟩
theorem q_ge : OpQ X (compareOp .GtE) (rI0 fun i j => .bl (decide (j ≤ i))) := ⟨op_ge⟩
theorem q_isN : OpQ X (compareOp .Is) (fun x y H Q => y = .non ∧ Q (.bl (decide (x = .non))) H) := ⟨op_isN⟩
theorem q_in (h : X.K = K) : OpQ X (compareOp .In) (rInA K) := ⟨op_inK h⟩
abbrev rNotInS : R2 := fun x y H Q => ∃ i j, x = .str i ∧ y = .str j ∧ Q (.bl (!(!(Builtin.Str.occurrences j i 0 j.length 1).isEmpty))) H
abbrev rNotInA (K : PySem.W.Frag) : R2 := fun x y H Q => rNotInS x y H Q ∨ rIn K true x y H Q
theorem q_notin (h : X.K = K) : OpQ X (compareOp .NotIn) (rNotInA K) := by subst h; exact ⟨op_notIn_str.or op_notIn_seq⟩
theorem k_len (h : X.K = K) : CallQ X (.builtin "len") (fun xs H Q => ∃ x n, xs = [x] ∧ LenV K x H n ∧ Q (.int n) H) := ⟨call_lenK h⟩
theorem k_all (h : X.K = K) (hc : X.calm = true) : CallQ X (.builtin "all") (fun xs H Q => ∃ (p : Addr) (bs : List Bool), xs = [.ref p] ∧ SqL K H p (bs.map V.bl) ∧ Q (.bl (bs.all id)) H) := ⟨call_allK h hc⟩
theorem k_max (hc : X.calm = true) : CallQ X (.builtin "max") (fun xs H Q => ∃ i j, xs = [.int i, .int j] ∧ Q (.int (if j > i then j else i)) H) := ⟨call_max2 hc⟩
theorem k_isi (h : X.K = K) : CallQ X (.builtin "isinstance") (fun xs H Q => ∃ x n t b, xs = [x, .ty n] ∧ TyOf K H x t ∧ PySem.W.kitOne K t (.type n) = some b ∧ Q (.bl b) H) := ⟨call_isiK h⟩
theorem k_int : CallQ X (.type "int") (fun xs H Q => (∃ i, xs = [.int i] ∧ Q (.int i) H) ∨ ∃ k, xs = [.bl k] ∧ Q (.int (if k then 1 else 0)) H) := ⟨call_int1⟩
theorem k_tuple (h : X.K = K) : CallQ X (.type "tuple") (fun xs H Q => ∃ p ys, xs = [.ref p] ∧ ((SqL K H p ys ∧ ∀ l, H l = none → Q (.ref l) (upd H l (.tup ys))) ∨ (SqT K H p ys ∧ Q (.ref p) H))) := by subst h; exact ⟨call_tuple_of⟩
theorem m_append : MtQ X "list.append" rAppend := ⟨mt_append⟩
theorem m_join (h : X.K = K) : MtQ X "str.join" (rJoin K) := ⟨mt_joinK h⟩
end
end L2
namespace L2
open PySem PySem.Spec PyProof.Rows PySem.SeqAt

section
variable {X : Cx} {pins : List (Addr × Obj)} {σ : St} {H : Hp} {s : Shared} {h' : Heap} {tk : Nat} {fp : List Addr}
theorem Inv.moved (I : Inv X pins σ H s) (hf : ∀ b ∈ fp, FpOk X pins H b) (kk : ∀ b o, b ∉ fp → s.heap.get? b = some o → h'.get? b = some o) : Inv X pins σ H { s with heap := h', toks := tk } := by
  have nit : ∀ b v, H b = some v → b ∉ fp := fun b v e hb => by rw [(hf b hb).1] at e; cases e
  refine I.step (g' := s.gens) (d' := s.drawn) (ch := fp) (fun b hb => ⟨(hf b hb).2.2.2.1, (hf b hb).2.1, (hf b hb).2.2.2.2.1, (hf b hb).2.2.2.2.2⟩) (fun b o _ _ hc e _ => kk b o hc e) (fun b o _ _ hc e _ => ⟨o.slots, kk b o hc e⟩) (fun _ _ _ _ n => n)
    (fun b o hc e => ⟨o, kk b o hc e⟩) (fun _ _ e => e) (fun _ _ _ e => e) (fun b ps e => ⟨#[], by rw [e]; simp⟩) (fun m hm => ?_) (fun b v e => ?_) I.bare
  · obtain ⟨o, es, ep, ho, r⟩ := hm
    exact ⟨o, es, ep, kk _ o (fun hb => (hf _ hb).2.1 rfl) ho, r⟩
  · refine (I.hok b v e).stay (fun c' v' hc' q => kk c' v' ?_ q) (fun _ q => q) fun _ _ q => q
    rcases hc' with q' | q'
    · rw [q']; exact nit b v e
    · exact nit c' _ q'
theorem Inv.stood {a : Addr} {o : HO} (I : Inv X pins σ H s) (J : Inv X pins σ H { s with heap := h', toks := tk }) (ha : s.heap.objs.size ≤ a) (new : ObjOk X.prog X.w (upd H a o) h' a o) : Inv X pins σ (upd H a o) { s with heap := h', toks := tk } := by
  have Hn : H a = none := I.hok.fresh ha
  have lt0 : ∀ b o, X.s₀.heap.get? b = some o → b ≠ a := fun b o e => Nat.ne_of_lt (Nat.lt_of_lt_of_le (Nat.lt_of_lt_of_le (Heap.lt_size e) I.sz) ha)
  refine ⟨J.ok, J.os, J.bare, ?_, J.loc, J.cell, ?_, ?_, ?_, ?_, J.len⟩
  · refine ⟨J.base.keep, J.base.slot, fun b o e n hx => ?_, J.base.there, fun b xs e => ?_, fun b o v e => ?_, fun b ps e => ?_⟩
    · rw [upd_ne (lt0 b o e)]; exact J.base.free b o e n hx
    · rw [upd_ne (ne_of_none (J.base.tups b xs e) Hn)]; exact J.base.tups b xs e
    · rw [upd_ne (ne_of_none (J.base.frzs b o v e) Hn)]; exact J.base.frzs b o v e
    · obtain ⟨m, q⟩ := J.base.tbls b ps e
      exact ⟨m, by rw [upd_ne (ne_of_none q Hn)]; exact q⟩
  · rw [upd_ne (Nat.ne_of_lt (Nat.lt_of_lt_of_le I.lt ha))]; exact J.free
  · intro x' c' e
    obtain ⟨v', q⟩ := I.cell x' c' e
    rw [upd_ne (Nat.ne_of_lt (Nat.lt_of_lt_of_le q.lt ha))]; exact J.freeC x' c' e
  · intro p hp
    obtain ⟨e, n, r⟩ := J.pin p hp
    refine ⟨e, ?_, r⟩
    rw [upd_ne (Nat.ne_of_lt (Nat.lt_of_lt_of_le (Heap.lt_size (I.pin p hp).1) ha))]; exact n
  · intro b v e
    by_cases hb : b = a
    · subst hb
      rw [upd_same] at e
      cases e
      exact new
    · rw [upd_ne hb] at e
      refine (J.hok b v e).stay (fun _ _ _ q => q) (fun c' q => ?_) fun c' xs q => ?_
      · rw [upd_ne (ne_of_none q Hn)]; exact q
      · rw [upd_ne (ne_of_none q Hn)]; exact q
end

def rSplit : V → List V → Hp → VK → Prop := fun x vs H Q => ∃ z y, x = .str z ∧ vs = [.str y] ∧ 1 ≤ y.length ∧ z.length + 2 ≤ sizeLine ∧ ∀ l, H l = none → Q (.ref l) (upd H l (.lst ((Txt.split z y).map V.str)))
theorem vals_from : ∀ (ss : List Str) (k : Nat), Vals (ss.map V.str) (strsFrom k ss)
  | [], _ => .nil
  | _ :: r, k => .cons ⟨_, rfl⟩ (vals_from r (k + 1))
theorem mt_split {X : Cx} : MtM X "str.split" rSplit := by
  intro pins s σ H x vs v us Q I rx rv h
  obtain ⟨z, y, rfl, rfl, h1, hz, q⟩ := h
  obtain ⟨t, rfl⟩ := rx
  obtain ⟨u0, rfl, ru⟩ := rv.one
  obtain ⟨u, rfl⟩ := ru
  have hy0 : (y.length == 0) = false := by simp; omega
  have hsl := split_le z y
  by_cases c1 : (decide (z.length < y.length) || decide (Builtin.Str.strKind z < Builtin.Str.strKind y)) = true
  · have e : Txt.split z y = [z] := if_pos c1
    rw [e] at q
    exact call_meets F.slot_str_split (typeIs_str _ _ _) F.entry_str_split (F.args_str_split_2 _ _) (meets_str_split_cannot_occur z y t u c1) ⟨.ref _, _, I.lnew (ys := [.str z]) (its := [.str z t]) (t' := s.toks) (.cons ⟨_, rfl⟩ .nil) (by show 1 ≤ sizeLine; decide), rfl, q _ I.fresh⟩
  · have c1' := Bool.eq_false_iff.mpr c1
    by_cases c2 : (Builtin.Str.occurrences z y 0 z.length (z.length + 1)).isEmpty = true
    · have e : Txt.split z y = [z] := (if_neg c1).trans (if_pos c2)
      rw [e] at q
      exact call_meets F.slot_str_split (typeIs_str _ _ _) F.entry_str_split (F.args_str_split_2 _ _) (meets_str_split_not_found z y t u c1' hy0 c2) ⟨.ref _, _, I.lnew (ys := [.str z]) (its := [.str z t]) (t' := s.toks) (.cons ⟨_, rfl⟩ .nil) (by show 1 ≤ sizeLine; decide), rfl, q _ I.fresh⟩
    · have e : Txt.split z y = Builtin.Str.partsBetween z (Builtin.Str.occurrences z y 0 z.length (z.length + 1)) y.length := (if_neg c1).trans (if_neg c2)
      have hl2 : (Builtin.Str.partsBetween z (Builtin.Str.occurrences z y 0 z.length (z.length + 1)) y.length).length ≤ sizeLine := by rw [← e]; omega
      refine call_meets F.slot_str_split (typeIs_str _ _ _) F.entry_str_split (F.args_str_split_2 _ _) (meets_str_split_sep z y t u c1' hy0 (Bool.eq_false_iff.mpr c2) (by omega) hl2) ?_
      rw [← e] at hl2 ⊢
      exact ⟨.ref _, _, I.lnew (its := strsFrom s.toks (Txt.split z y)) (t' := s.toks + (Txt.split z y).length) (vals_from _ _) (by rw [List.length_map]; exact hl2), rfl, q _ I.fresh⟩
theorem m_split {X : Cx} : MtQ X "str.split" rSplit := ⟨mt_split⟩

def Ite (K : PySem.W.Frag) (a : Addr) (xs : List V) : It := ⟨fun i H => SqL K H a xs ∧ i < xs.length, fun i H v H' => ∃ x T, xs[i]? = some x ∧ H T = none ∧ v = .ref T ∧ H' = upd H T (.tup [.int i, x]), fun i H => SqL K H a xs ∧ xs.length ≤ i⟩
def ESt (e it a : Addr) (i : Nat) (h : Heap) : Prop := (∃ old, IsEnum h e it i old) ∧ h.IsListIter it a i
theorem turn_enum {P : Program} {w : World} {K : PySem.W.Frag} {elts : List Expr} {kt : Nat} {tp : Pos} (e it a : Addr) (xs : List V) (hne : e ≠ it) : Turn P w K (.Tuple elts kt tp) (Ite K a xs) [e, it] e (ESt e it a) where
  mem := by simp
  obj := fun i h st b hb => by
    obtain ⟨⟨old, he⟩, o1, e1, _, d1⟩ := st
    simp only [List.mem_cons, List.not_mem_nil, or_false] at hb
    rcases hb with rfl | rfl
    · exact ⟨_, he, fun v q => nomatch q⟩
    · exact ⟨o1, e1, fun v q => by rw [d1] at q; cases q⟩
  keep := fun i h h' st k => by
    obtain ⟨⟨old, he⟩, o1, e1, r1⟩ := st
    exact ⟨⟨old, k e (by simp) _ he⟩, o1, k it (by simp) _ e1, r1⟩
  item := by
    intro X hP hw hK hc i pins s σ H E I hf st hg
    subst hP hw hK
    obtain ⟨⟨old, he⟩, hit⟩ := st
    obtain ⟨hq, hi⟩ : SqL X.K H a xs ∧ i < xs.length := hg
    obtain ⟨its, rv, p, hz⟩ := I.list hq
    obtain ⟨u, hu, ru⟩ := rv.get (i := i) (x := xs[i]) (by simp [hi])
    refine wpAny_pyNext_enum_item he hit p.isList (x := u) (by simpa using hu) hne fun h1 he1 hit1 ht1 hz1 hk1 => ⟨_, rfl, ?_⟩
    refine wpAny_letOwnedTupleGo_enum (s := { s with heap := h1, toks := s.toks + 1 }) he1 fun h2 he2 sb2 => ?_
    replace sb2 : Heap.SameBut e h1 h2 := sb2
    have elt : e < s.heap.objs.size := Heap.lt_size he
    have ilt : it < s.heap.objs.size := by obtain ⟨o, q, _⟩ := hit; exact Heap.lt_size q
    have kk : ∀ b o, b ∉ [e, it] → s.heap.get? b = some o → h2.get? b = some o := fun b o hb q => by
      simp only [List.mem_cons, List.not_mem_nil, or_false, not_or] at hb
      exact (sb2.2 b hb.1).trans (hk1 b o hb.1 hb.2 q)
    have J : Inv X pins σ H { s with heap := h2, toks := s.toks + 1 } := I.moved hf kk
    have hT : h2.get? s.heap.objs.size = some { cls := .type "tuple", data := .seq #[.int i s.toks, u] } := (sb2.2 _ (Nat.ne_of_gt elt)).trans ht1
    have I2 : Inv X pins σ (upd H s.heap.objs.size (.tup [.int i, xs[i]])) { s with heap := h2, toks := s.toks + 1 } :=
      I.stood J (Nat.le_refl _) ⟨by show 2 ≤ sizeLine; decide, [.int i s.toks, u], .cons ⟨_, rfl⟩ (.cons ru .nil), _, hT, rfl, _, rfl⟩
    refine ⟨.ref s.heap.objs.size, _, I2, rfl, ⟨xs[i], _, by simp [hi], I.fresh, rfl, rfl⟩, ⟨⟨u, by rw [Int.natCast_succ]; exact he2⟩, ?_⟩, fun b hb => ?_⟩
    · obtain ⟨o, q, r⟩ := hit1; exact ⟨o, (sb2.2 _ (Ne.symm hne)).trans q, r⟩
    · have : b < s.heap.objs.size := by
        simp only [List.mem_cons, List.not_mem_nil, or_false] at hb
        rcases hb with rfl | rfl
        · exact elt
        · exact ilt
      rw [upd_ne (Nat.ne_of_lt this)]; exact (hf b hb).1
  done := by
    intro X hP hw hK hc i pins s σ H E I hf st hg
    subst hP hw hK
    obtain ⟨⟨old, he⟩, hit⟩ := st
    obtain ⟨hq, hi⟩ : SqL X.K H a xs ∧ xs.length ≤ i := hg
    obtain ⟨its, rv, p, hz⟩ := I.list hq
    have hl := rv.length
    have hh : X.A.handled = none := I.ok.hd hc
    refine wpAny_pyNext_enum_end hh he hit p.isList (by simp; omega) fun h1 xb => ⟨rfl, I.moved (fp := [e, it]) (tk := s.toks) hf fun b o hb q => ?_⟩
    simp only [List.mem_cons, List.not_mem_nil, or_false, not_or] at hb
    exact xb b o hb.2 q
  self := fun A i s Q E st h => by
    obtain ⟨⟨old, he⟩, hit⟩ := st
    exact wpAny_pyIter_enum he h
def iEnum (K : PySem.W.Frag) (ta : TA) : TI := fun σ H R => ta σ H fun vs H1 => ∃ a xs, vs = [.ref a] ∧ SqL K H1 a xs ∧ R (Ite K a xs) H1

section
variable {X : Cx} {K : PySem.W.Frag} {pos : Pos}
theorem enumI {elts : List Expr} {kt : Nat} {tp p : Pos} {a : Expr} {ta : TA} (hK : X.K = K) (hg : Gl X "enumerate") (hm : X.mg "enumerate" = none) (hs : isStar a = false) (ha : QA X [a] ta) :
    QI X (.Tuple elts kt tp) (.Call (.Name "enumerate" p) [a] [] pos) (iEnum K ta) := by
  subst hK
  constructor
  intro pins s σ H R I h
  refine Call_ (ld_blt I hg hm boot_enumerate (PyProof.Rows.callWith_type1 (thn (ha.h pos pins s σ H _ I h) fun us s1 ⟨vs, H1, I1, r1, q1⟩ => ?_) (starEach_plain hs) rfl))
  obtain ⟨l, xs, e, hq, q⟩ := q1
  subst e
  obtain ⟨u, rfl, ru⟩ := vals1 r1
  cases ru
  obtain ⟨its, rv, p, hz⟩ := I1.list hq
  refine call_enumerate_list p.isList fun h1 he hit hz1 hk => wpAny_pyIter_enum (s := { s1 with heap := h1 }) he ?_
  have J : Inv X pins σ H1 { s1 with heap := h1 } := I1.kept (t' := s1.toks) hk
  refine ⟨s1.heap.objs.size + 1, [s1.heap.objs.size + 1, s1.heap.objs.size], ESt (s1.heap.objs.size + 1) s1.heap.objs.size l, Ite X.K l xs, H1, rfl, J, turn_enum _ _ _ _ (Nat.succ_ne_self _), ⟨⟨_, he⟩, hit⟩, fun b hb => ?_, q⟩
  simp only [List.mem_cons, List.not_mem_nil, or_false] at hb
  rcases hb with rfl | rfl
  · exact I1.fpOk (Nat.le_succ _) (I1.hok.fresh (Nat.le_succ _))
  · exact I1.fpOk (Nat.le_refl _) (I1.hok.fresh (Nat.le_refl _))
end

section
variable (h : Heap) (x y : Str) (t u : Tok)
abbrev zs1 : Heap := h.push { cls := .type (strIterType x), data := .fields #[.str x t, .int 0 0] }
abbrev zs2 : Heap := (zs1 h x t).push { cls := .type (strIterType y), data := .fields #[.str y u, .int 0 0] }
abbrev zs3 : Heap := (zs2 h x y t u).push { cls := .type "tuple", data := .seq #[.ref h.objs.size, .ref (zs1 h x t).objs.size] }
abbrev zs4 : Heap := (zs3 h x y t u).push { cls := .type "tuple", data := .seq #[.none, .none] }
abbrev zs5 : Heap := (zs4 h x y t u).push { cls := .type "zip", data := .fields #[.none, .bool false, .bool false, .ref (zs2 h x y t u).objs.size, .ref (zs3 h x y t u).objs.size] }
end
set_option maxHeartbeats 4000000 in
theorem meets_zip_texts (x y : Str) (t u : Tok) :
    Meets (Builtin.«zip.__new__» ⟨[.type "zip", .str x t, .str y u], []⟩) (fun _ R s => R (.ok (.ret (.ref (zs4 s.heap x y t u).objs.size))) { s with heap := zs5 s.heap x y t u }) :=
  .of_wp fun prog w A R s hR => by
    obtain ⟨hp, g, d, tk, os⟩ := s
    have hsub := PySem.sub_zip
    wp_walk using wpAny_pyIter_strU (x := x) (t := t), wpAny_pyIter_strU (x := y) (t := u)
    exact ⟨_, rfl, hR⟩
end L2
namespace L2
open PySem PySem.Spec PyProof.Rows PySem.SeqAt
section
variable {prog : Program} {w : World} {A : Around} {E : Value → Shared → Prop} {s : Shared}
theorem call_zip_texts {x y : Str} {t u : Tok} {Q : Value → Shared → Prop}
    (h : ∀ h', IsZip h' (s.heap.objs.size + 4) (s.heap.objs.size + 2) (s.heap.objs.size + 3) .none → IsPair h' (s.heap.objs.size + 2) (.ref s.heap.objs.size) (.ref (s.heap.objs.size + 1)) → IsPair h' (s.heap.objs.size + 3) .none .none →
      h'.IsStrIter s.heap.objs.size (strIterType x) x t 0 → h'.IsStrIter (s.heap.objs.size + 1) (strIterType y) y u 0 → (∀ c o, s.heap.get? c = some o → h'.get? c = some o) → Q (.ref (s.heap.objs.size + 4)) { s with heap := h' }) :
    wpAny (model prog w) A (call (.type "zip") [.str x t, .str y u]) Q E s := by
  refine callType_new F.called_zip (by decide) (F.typeCall_zip_2 _ _) (F.newCall_zip_2 _ _) (fun obj => F.args_object_init_3 obj _ _) F.entry_zip_new (meets_zip_texts x y t u) ?_
  have n1 : (zs1 s.heap x t).objs.size = s.heap.objs.size + 1 := Heap.size_push ..
  have n2 : (zs2 s.heap x y t u).objs.size = s.heap.objs.size + 2 := by rw [Heap.size_push, n1]
  have n3 : (zs3 s.heap x y t u).objs.size = s.heap.objs.size + 3 := by rw [Heap.size_push, n2]
  have n4 : (zs4 s.heap x y t u).objs.size = s.heap.objs.size + 4 := by rw [Heap.size_push, n3]
  have k5 : ∀ c o, (zs4 s.heap x y t u).get? c = some o → (zs5 s.heap x y t u).get? c = some o := fun _ _ q => Heap.get?_push_of_some _ q
  have k4 : ∀ c o, (zs3 s.heap x y t u).get? c = some o → (zs5 s.heap x y t u).get? c = some o := fun c o q => k5 c o (Heap.get?_push_of_some _ q)
  have k3 : ∀ c o, (zs2 s.heap x y t u).get? c = some o → (zs5 s.heap x y t u).get? c = some o := fun c o q => k4 c o (Heap.get?_push_of_some _ q)
  have k2 : ∀ c o, (zs1 s.heap x t).get? c = some o → (zs5 s.heap x y t u).get? c = some o := fun c o q => k3 c o (Heap.get?_push_of_some _ q)
  have k1 : ∀ c o, s.heap.get? c = some o → (zs5 s.heap x y t u).get? c = some o := fun c o q => k2 c o (Heap.get?_push_of_some _ q)
  have b5 : (zs5 s.heap x y t u).get? (zs4 s.heap x y t u).objs.size = some _ := Heap.get?_push_size _ rfl
  have b4 : (zs5 s.heap x y t u).get? (zs3 s.heap x y t u).objs.size = some _ := k5 _ _ (Heap.get?_push_size _ rfl)
  have b3 : (zs5 s.heap x y t u).get? (zs2 s.heap x y t u).objs.size = some _ := k4 _ _ (Heap.get?_push_size _ rfl)
  have b2 : (zs5 s.heap x y t u).get? (zs1 s.heap x t).objs.size = some _ := k3 _ _ (Heap.get?_push_size _ rfl)
  have b1 : (zs5 s.heap x y t u).get? s.heap.objs.size = some _ := k2 _ _ (Heap.get?_push_size _ rfl)
  show _ ∧ _
  rw [n2, n3, n4] at b5
  rw [n1, n2] at b3
  rw [n3] at b4
  rw [n1] at b2
  rw [n4]
  exact ⟨⟨_, b5, rfl⟩, h _ b5 b3 b4 ⟨_, b1, rfl, rfl⟩ ⟨_, b2, rfl, rfl⟩ k1⟩
end
def iZipS (ta : TA) : TI := fun σ H R => ta σ H fun vs H1 => ∃ x y, vs = [.str x, .str y] ∧ R (Itz x y) H1
section
variable {X : Cx} {K : PySem.W.Frag} {pos : Pos}
theorem zipSI {elts : List Expr} {kt : Nat} {tp p : Pos} {a b : Expr} {ta : TA} (hg : Gl X "zip") (hm : X.mg "zip" = none) (hs : isStar a = false) (hs2 : isStar b = false) (ha : QA X [a, b] ta) :
    QI X (.Tuple elts kt tp) (.Call (.Name "zip" p) [a, b] [] pos) (iZipS ta) := by
  constructor
  intro pins s σ H R I h
  refine Call_ (ld_blt I hg hm boot_zip (PyProof.Rows.callWith_type1 (thn (ha.h pos pins s σ H _ I h) fun us s1 ⟨vs, H1, I1, r1, q1⟩ => ?_) (starEach_plain hs) (by rw [starEach_plain hs2]; rfl)))
  obtain ⟨x, y, e, q⟩ := q1
  subst e
  obtain ⟨u1, u2, rfl, ⟨t, rfl⟩, ⟨u, rfl⟩⟩ := vals2 r1
  refine call_zip_texts fun h1 hz hTI hTO hi1 hi2 hk => wpAny_pyIter_zip (s := { s1 with heap := h1 }) hz ?_
  have J : Inv X pins σ H1 { s1 with heap := h1 } := I1.kept (t' := s1.toks) hk
  have ne : ∀ i j : Nat, i ≠ j → s1.heap.objs.size + i ≠ s1.heap.objs.size + j := fun i j h e => h (Nat.add_left_cancel e)
  refine ⟨s1.heap.objs.size + 4, [s1.heap.objs.size + 4, s1.heap.objs.size + 2, s1.heap.objs.size + 3, s1.heap.objs.size + 0, s1.heap.objs.size + 1], _, Itz x y, H1, rfl, J,
    turn_zip _ _ _ _ _ x y t u ⟨ne 2 4 (by decide), ne 3 4 (by decide), ne 0 4 (by decide), ne 1 4 (by decide), ne 2 3 (by decide), ne 2 0 (by decide), ne 2 1 (by decide), ne 3 0 (by decide), ne 3 1 (by decide), ne 0 1 (by decide)⟩,
    ⟨hz, hTI, ⟨_, _, hTO⟩, hi1, hi2⟩, fun b hb => ?_, q⟩
  have hb' : s1.heap.objs.size ≤ b := by
    simp only [List.mem_cons, List.not_mem_nil, or_false] at hb
    rcases hb with rfl | rfl | rfl | rfl | rfl <;> exact Nat.le_add_right _ _
  exact I1.fpOk hb' (I1.hok.fresh hb')

abbrev rMulS : R2 := fun x y H Q => ∃ z n, x = .str z ∧ y = .int n ∧ 0 ≤ n ∧ n ≤ 100000 ∧ z.length ≤ 100 ∧ Q (.str (Txt.mul z n)) H
theorem op_mulS : OpR X (binaryOp .Mult) rMulS := by
  intro pins s σ H x y v u Q I rx ry h
  obtain ⟨z, n, rfl, rfl, h0, h1, hz, q⟩ := h
  obtain ⟨t, rfl⟩ := rx
  obtain ⟨t', rfl⟩ := ry
  have hm : z.length * n.toNat ≤ 100 * 100000 := Nat.mul_le_mul hz (by omega)
  have hok : MulOk z n := by
    refine ⟨?_, fun hn _ => ?_, fun hn _ => ?_⟩
    · rw [Bool.or_eq_false_iff]
      exact ⟨decide_eq_false (by omega), decide_eq_false (by omega)⟩
    · have hn1 : 1 ≤ n := by omega
      have : (2 ^ 63 - 1) / 100000 ≤ (2 ^ 63 - 1 : Int) / n := by
        rw [Int.le_ediv_iff_mul_le (by omega)]
        have : ((2 ^ 63 - 1) / 100000 : Int) * n ≤ ((2 ^ 63 - 1) / 100000 : Int) * 100000 := Int.mul_le_mul_of_nonneg_left h1 (by decide)
        omega
      omega
    · unfold Builtin.Str.tooLong
      have hs : sizeLine = 16777216 := sizeLine_eq
      simp only [decide_eq_false_iff_not]
      omega
  exact SB.mul hok fun t'' k => ⟨.str (Txt.mul z n), H, I.tok k, ⟨_, rfl⟩, q⟩
end
end L2
namespace L2
open PySem PySem.Spec PyProof.Rows PySem.SeqAt
inductive D where
  | non | bl (b : Bool) | int (i : Int) | str (x : Str) | lst (ds : List D) | tup (ds : List D)
mutual
def D.beq : D → D → Bool
  | .non, .non => true
  | .bl a, .bl b => a == b
  | .bl a, .int b => (if a then 1 else 0) == b
  | .int a, .bl b => a == (if b then 1 else 0)
  | .int a, .int b => a == b
  | .str a, .str b => a == b
  | .lst as, .lst bs => D.beqs as bs
  | .tup as, .tup bs => D.beqs as bs
  | _, _ => false
def D.beqs : List D → List D → Bool
  | [], [] => true
  | a :: as, b :: bs => D.beq a b && D.beqs as bs
  | _, _ => false
end
mutual
def D.dep : D → Nat
  | .lst as => D.deps as + 1
  | .tup as => D.deps as + 1
  | _ => 0
def D.deps : List D → Nat
  | [] => 0
  | a :: as => max (D.dep a) (D.deps as)
end
mutual
def Has (K : PySem.W.Frag) (H : Hp) : D → V → Prop
  | .non, x => x = .non
  | .bl b, x => x = .bl b
  | .int i, x => x = .int i
  | .str z, x => x = .str z
  | .lst ds, x => ∃ a xs, x = .ref a ∧ SqL K H a xs ∧ HasL K H ds xs
  | .tup ds, x => ∃ a xs, x = .ref a ∧ SqT K H a xs ∧ HasL K H ds xs
def HasL (K : PySem.W.Frag) (H : Hp) : List D → List V → Prop
  | [], xs => xs = []
  | d :: ds, xs => ∃ y ys, xs = y :: ys ∧ Has K H d y ∧ HasL K H ds ys
end
section
variable {K : PySem.W.Frag} {H H' : Hp}
theorem HasL.len : ∀ {ds : List D} {xs : List V}, HasL K H ds xs → ds.length = xs.length
  | [], _, h => by simp only [HasL] at h; subst h; rfl
  | d :: ds, _, h => by
    simp only [HasL] at h
    obtain ⟨y, ys, rfl, _, h2⟩ := h
    rw [List.length_cons, List.length_cons, HasL.len h2]
theorem HasL.get : ∀ {ds : List D} {xs : List V} {i : Nat} {x : V}, HasL K H ds xs → xs[i]? = some x → ∃ d, ds[i]? = some d ∧ Has K H d x
  | [], _, i, x, h, e => by simp only [HasL] at h; subst h; simp at e
  | d :: ds, _, i, x, h, e => by
    simp only [HasL] at h
    obtain ⟨y, ys, rfl, h1, h2⟩ := h
    cases i with
    | zero => simp at e; subst e; exact ⟨d, by simp, h1⟩
    | succ i =>
      obtain ⟨d', q1, q2⟩ := HasL.get (i := i) h2 (by simpa using e)
      exact ⟨d', by simpa using q1, q2⟩
theorem Same.seqT {a : Addr} {xs : List V} (e : Same H H') (h : SqT K H a xs) : SqT K H' a xs := by
  rcases h with (h | ⟨o, h⟩) | h
  · exact .inl (.inl (e _ _ h))
  · exact .inl (.inr ⟨o, e _ _ h⟩)
  · exact .inr h
mutual
theorem Same.has (sm : Same H H') : ∀ {d : D} {x : V}, Has K H d x → Has K H' d x
  | .non, _, h => by simpa only [Has] using h
  | .bl _, _, h => by simpa only [Has] using h
  | .int _, _, h => by simpa only [Has] using h
  | .str _, _, h => by simpa only [Has] using h
  | .lst ds, _, h => by
    simp only [Has] at h ⊢
    obtain ⟨a, xs, e, q, r⟩ := h
    exact ⟨a, xs, e, sm.seq q, Same.hasL sm r⟩
  | .tup ds, _, h => by
    simp only [Has] at h ⊢
    obtain ⟨a, xs, e, q, r⟩ := h
    exact ⟨a, xs, e, sm.seqT q, Same.hasL sm r⟩
theorem Same.hasL (sm : Same H H') : ∀ {ds : List D} {xs : List V}, HasL K H ds xs → HasL K H' ds xs
  | [], _, h => by simpa only [HasL] using h
  | d :: ds, _, h => by
    simp only [HasL] at h ⊢
    obtain ⟨y, ys, e, h1, h2⟩ := h
    exact ⟨y, ys, e, Same.has sm h1, Same.hasL sm h2⟩
end
mutual
theorem D.beq_refl : ∀ d : D, D.beq d d = true
  | .non => by simp [D.beq]
  | .bl _ => by simp [D.beq]
  | .int _ => by simp [D.beq]
  | .str _ => by simp [D.beq]
  | .lst ds => by simp only [D.beq]; exact D.beqs_refl ds
  | .tup ds => by simp only [D.beq]; exact D.beqs_refl ds
theorem D.beqs_refl : ∀ ds : List D, D.beqs ds ds = true
  | [] => by simp [D.beqs]
  | d :: ds => by simp only [D.beqs]; rw [D.beq_refl d, D.beqs_refl ds]; rfl
end
theorem D.beqs_all : ∀ (as bs : List D), as.length = bs.length → (List.range as.length).all (fun j => D.beq (as.getD j .non) (bs.getD j .non)) = D.beqs as bs
  | [], [], _ => by simp [D.beqs]
  | a :: as, b :: bs, h => by
    have ih := D.beqs_all as bs (by simpa using h)
    rw [List.length_cons, List.range_succ_eq_map, List.all_cons, List.all_map]
    simp only [D.beqs]
    rw [← ih]
    rfl
theorem D.beqs_len : ∀ {as bs : List D}, as.length ≠ bs.length → D.beqs as bs = false
  | [], [], h => absurd rfl h
  | [], _ :: _, _ => by simp [D.beqs]
  | _ :: _, [], _ => by simp [D.beqs]
  | a :: as, b :: bs, h => by
    simp only [D.beqs]
    rw [D.beqs_len (as := as) (bs := bs) (by simpa using h), Bool.and_false]
end
section
variable {X : Cx} {pins : List (Addr × Obj)} {σ : St} {H : Hp} {s : Shared}
theorem Inv.seq_apart (I : Inv X pins σ H s) {a b : Addr} {xs ys : List V} (h : SqL X.K H a xs) (h' : SqT X.K H b ys) : a ≠ b := by
  obtain ⟨its, r, p, _⟩ := I.list h
  obtain ⟨its', r', p', _⟩ := I.tuple h'
  exact ne_of_list_tuple p.isList p'
mutual
theorem Has.inj (I : Inv X pins σ H s) : ∀ {d e : D} {x : V}, Has X.K H d x → Has X.K H e x → D.beq d e = true
  | .non, e, x, h, h' => by
    simp only [Has] at h; subst h
    cases e <;> simp only [Has] at h' <;> first | rfl | (obtain ⟨_, _, q, _⟩ := h'; cases q) | cases h'
    all_goals simp [D.beq]
  | .bl b, e, x, h, h' => by
    simp only [Has] at h; subst h
    cases e <;> simp only [Has] at h' <;> first | (obtain ⟨_, _, q, _⟩ := h'; cases q) | cases h'
    all_goals simp [D.beq]
  | .int i, e, x, h, h' => by
    simp only [Has] at h; subst h
    cases e <;> simp only [Has] at h' <;> first | (obtain ⟨_, _, q, _⟩ := h'; cases q) | cases h'
    all_goals simp [D.beq]
  | .str z, e, x, h, h' => by
    simp only [Has] at h; subst h
    cases e <;> simp only [Has] at h' <;> first | (obtain ⟨_, _, q, _⟩ := h'; cases q) | cases h'
    all_goals simp [D.beq]
  | .lst ds, e, x, h, h' => by
    simp only [Has] at h
    obtain ⟨a, xs, rfl, q, r⟩ := h
    cases e with
    | lst es =>
      simp only [Has] at h'
      obtain ⟨b, ys, e, q', r'⟩ := h'
      cases e
      have e := I.list_inj q q'
      subst e
      simp only [D.beq]
      exact HasL.inj I r r'
    | tup es =>
      simp only [Has] at h'
      obtain ⟨b, ys, e, q', r'⟩ := h'
      cases e
      exact absurd rfl (I.seq_apart q q')
    | _ => simp only [Has] at h'; cases h'
  | .tup ds, e, x, h, h' => by
    simp only [Has] at h
    obtain ⟨a, xs, rfl, q, r⟩ := h
    cases e with
    | tup es =>
      simp only [Has] at h'
      obtain ⟨b, ys, e, q', r'⟩ := h'
      cases e
      have e := I.tuple_inj q q'
      subst e
      simp only [D.beq]
      exact HasL.inj I r r'
    | lst es =>
      simp only [Has] at h'
      obtain ⟨b, ys, e, q', r'⟩ := h'
      cases e
      exact absurd rfl (I.seq_apart q' q)
    | _ => simp only [Has] at h'; cases h'
theorem HasL.inj (I : Inv X pins σ H s) : ∀ {ds es : List D} {xs : List V}, HasL X.K H ds xs → HasL X.K H es xs → D.beqs ds es = true
  | [], es, xs, h, h' => by
    simp only [HasL] at h; subst h
    cases es with
    | nil => simp [D.beqs]
    | cons e es => simp only [HasL] at h'; obtain ⟨_, _, q, _⟩ := h'; cases q
  | d :: ds, es, xs, h, h' => by
    simp only [HasL] at h
    obtain ⟨y, ys, rfl, h1, h2⟩ := h
    cases es with
    | nil => simp only [HasL] at h'; cases h'
    | cons e es =>
      simp only [HasL] at h'
      obtain ⟨y', ys', q, h1', h2'⟩ := h'
      cases q
      simp only [D.beqs]
      rw [Has.inj I h1 h1', HasL.inj I h2 h2']
      rfl
end
/-- each item of a list with its datum -/
theorem eq_items {A : Around} {ds es : List D} {xs ys : List V} {us vs : List Value} (hx : HasL X.K H ds xs) (hy : HasL X.K H es ys) (rx : Vals xs us) (ry : Vals ys vs)
    (ih : ∀ (j : Nat) d e x y u v, ds[j]? = some d → es[j]? = some e → Has X.K H d x → Has X.K H e y → RelV x u → RelV y v → EqAt A s u v (D.beq d e)) (j : Nat) (h1 : j < us.toArray.size) (h2 : j < vs.toArray.size) :
    EqAt A s us.toArray[j] vs.toArray[j] (D.beq (ds.getD j .non) (es.getD j .non)) := by
  have l1 : j < us.length := by simpa using h1
  have l2 : j < vs.length := by simpa using h2
  have lx : j < xs.length := by rw [rx.length]; exact l1
  have ly : j < ys.length := by rw [ry.length]; exact l2
  obtain ⟨d, hd, hd'⟩ := hx.get (i := j) (x := xs[j]) (by simp [lx])
  obtain ⟨e, he, he'⟩ := hy.get (i := j) (x := ys[j]) (by simp [ly])
  obtain ⟨u, hu, ru⟩ := rx.get (i := j) (x := xs[j]) (by simp [lx])
  obtain ⟨v, hv, rv⟩ := ry.get (i := j) (x := ys[j]) (by simp [ly])
  have eu : us.toArray[j] = u := by
    have : us[j]? = some us[j] := by simp [l1]
    rw [this] at hu
    simpa using Option.some.inj hu
  have ev : vs.toArray[j] = v := by
    have : vs[j]? = some vs[j] := by simp [l2]
    rw [this] at hv
    simpa using Option.some.inj hv
  rw [eu, ev, List.getD_eq_getElem?_getD, List.getD_eq_getElem?_getD, hd, he]
  exact ih j d e _ _ u v hd he hd' he' ru rv
theorem rc_lists (I : Inv X pins σ H s) {A : Around} {ds es : List D} {xs ys : List V} {a b : Addr} (qx : SqL X.K H a xs) (hx : HasL X.K H ds xs) (qy : SqL X.K H b ys) (hy : HasL X.K H es ys) (hu : A.units < cLine)
    (ih : ∀ (j : Nat) d e x y u v, ds[j]? = some d → es[j]? = some e → Has X.K H d x → Has X.K H e y → RelV x u → RelV y v → EqAt A.in1 s u v (D.beq d e)) : RcAt A s (.ref a) (.ref b) (D.beqs ds es) := by
  obtain ⟨us, rx, px, _⟩ := I.list qx
  obtain ⟨vs, ry, py, _⟩ := I.list qy
  have n1 : us.toArray.size = ds.length := by rw [List.size_toArray, ← rx.length, hx.len]
  have n2 : vs.toArray.size = es.length := by rw [List.size_toArray, ← ry.length, hy.len]
  by_cases hl : ds.length = es.length
  · rw [← D.beqs_all ds es hl, ← n1]
    exact RcAt.lists px.isList py.isList (by rw [n1, n2, hl]) hu (eq_items hx hy rx ry ih)
  · rw [D.beqs_len hl]
    exact RcAt.lists_lengths px.isList py.isList (by rw [n1, n2]; simpa using hl) hu
theorem rc_tups (I : Inv X pins σ H s) {A : Around} {ds es : List D} {xs ys : List V} {a b : Addr} (qx : SqT X.K H a xs) (hx : HasL X.K H ds xs) (qy : SqT X.K H b ys) (hy : HasL X.K H es ys) (hu : A.units < cLine)
    (ih : ∀ (j : Nat) d e x y u v, ds[j]? = some d → es[j]? = some e → Has X.K H d x → Has X.K H e y → RelV x u → RelV y v → EqAt A.in1 s u v (D.beq d e)) : RcAt A s (.ref a) (.ref b) (D.beqs ds es) := by
  obtain ⟨us, rx, px, _⟩ := I.tuple qx
  obtain ⟨vs, ry, py, _⟩ := I.tuple qy
  have n1 : us.toArray.size = ds.length := by rw [List.size_toArray, ← rx.length, hx.len]
  have n2 : vs.toArray.size = es.length := by rw [List.size_toArray, ← ry.length, hy.len]
  have main := RcAt.tuples (A := A) (s := s) (l := a) (b := b) (items := us.toArray) (items2 := vs.toArray) px py hu (eq_items hx hy rx ry ih)
  rw [n1, n2] at main
  by_cases hl : ds.length = es.length
  · rw [← hl, Nat.min_self, D.beqs_all ds es hl] at main
    simpa using main
  · rw [D.beqs_len hl]
    have e : (ds.length == es.length) = false := by simpa using hl
    rw [e, Bool.and_false] at main
    exact main
theorem getElem?_deps : ∀ {ds : List D} {j : Nat} {d : D}, ds[j]? = some d → D.dep d ≤ D.deps ds
  | [], _, _, h => by simp at h
  | a :: as, 0, d, h => by
    simp at h; subst h
    simp only [D.deps]
    exact Nat.le_max_left _ _
  | a :: as, j + 1, d, h => by
    have := getElem?_deps (ds := as) (j := j) (d := d) (by simpa using h)
    simp only [D.deps]
    exact Nat.le_trans this (Nat.le_max_right _ _)

/-- values compared by what they hold -/
theorem eqAt_has (I : Inv X pins σ H s) : ∀ (n : Nat) {d e : D} {x y : V} {u v : Value} {A : Around}, D.dep d ≤ n → A.units + n < cLine → Has X.K H d x → Has X.K H e y → RelV x u → RelV y v → EqAt A s u v (D.beq d e) := by
  intro n
  induction n with
  | zero =>
    intro d e x y u v A hn hu hx hy rx ry
    have hu' : A.units < cLine := by omega
    cases d with
    | lst ds => exact absurd hn (by simp [D.dep])
    | tup ds => exact absurd hn (by simp [D.dep])
    | non =>
      simp only [Has] at hx; subst hx; cases rx
      cases e with
      | non => simp only [Has] at hy; subst hy; cases ry; simp only [D.beq]; exact EqAt.same _
      | bl j => simp only [Has] at hy; subst hy; cases ry; simp only [D.beq]; exact EqAt.none_bool _
      | int j => simp only [Has] at hy; subst hy; obtain ⟨_, rfl⟩ := ry; simp only [D.beq]; exact EqAt.none_int _ _
      | str j => simp only [Has] at hy; subst hy; obtain ⟨_, rfl⟩ := ry; simp only [D.beq]; exact EqAt.none_str _ _
      | lst j => simp only [Has] at hy; obtain ⟨b, ys, rfl, q, _⟩ := hy; cases ry; obtain ⟨vs, _, p, _⟩ := I.list q; simp only [D.beq]; exact EqAt.none_list p.isList hu'
      | tup j => simp only [Has] at hy; obtain ⟨b, ys, rfl, q, _⟩ := hy; cases ry; obtain ⟨vs, _, p, _⟩ := I.tuple q; simp only [D.beq]; exact EqAt.none_tuple p hu'
    | bl i =>
      simp only [Has] at hx; subst hx; cases rx
      cases e with
      | non => simp only [Has] at hy; subst hy; cases ry; simp only [D.beq]; exact EqAt.bool_none _
      | bl j => simp only [Has] at hy; subst hy; cases ry; simp only [D.beq]; exact EqAt.bool_bool _ _
      | int j => simp only [Has] at hy; subst hy; obtain ⟨_, rfl⟩ := ry; simp only [D.beq]; exact EqAt.bool_int _ _ _
      | str j => simp only [Has] at hy; subst hy; obtain ⟨_, rfl⟩ := ry; simp only [D.beq]; exact EqAt.bool_str _ _ _
      | lst j => simp only [Has] at hy; obtain ⟨b, ys, rfl, q, _⟩ := hy; cases ry; obtain ⟨vs, _, p, _⟩ := I.list q; simp only [D.beq]; exact EqAt.bool_list _ p.isList hu'
      | tup j => simp only [Has] at hy; obtain ⟨b, ys, rfl, q, _⟩ := hy; cases ry; obtain ⟨vs, _, p, _⟩ := I.tuple q; simp only [D.beq]; exact EqAt.bool_tuple _ p hu'
    | int i =>
      simp only [Has] at hx; subst hx; obtain ⟨_, rfl⟩ := rx
      cases e with
      | non => simp only [Has] at hy; subst hy; cases ry; simp only [D.beq]; exact EqAt.int_none _ _
      | bl j => simp only [Has] at hy; subst hy; cases ry; simp only [D.beq]; exact EqAt.int_bool _ _ _
      | int j => simp only [Has] at hy; subst hy; obtain ⟨_, rfl⟩ := ry; simp only [D.beq]; exact EqAt.int_int _ _ _ _
      | str j => simp only [Has] at hy; subst hy; obtain ⟨_, rfl⟩ := ry; simp only [D.beq]; exact EqAt.int_str _ _ _ _
      | lst j => simp only [Has] at hy; obtain ⟨b, ys, rfl, q, _⟩ := hy; cases ry; obtain ⟨vs, _, p, _⟩ := I.list q; simp only [D.beq]; exact EqAt.int_list _ _ p.isList hu'
      | tup j => simp only [Has] at hy; obtain ⟨b, ys, rfl, q, _⟩ := hy; cases ry; obtain ⟨vs, _, p, _⟩ := I.tuple q; simp only [D.beq]; exact EqAt.int_tuple _ _ p hu'
    | str i =>
      simp only [Has] at hx; subst hx; obtain ⟨_, rfl⟩ := rx
      cases e with
      | non => simp only [Has] at hy; subst hy; cases ry; simp only [D.beq]; exact EqAt.str_none _ _
      | bl j => simp only [Has] at hy; subst hy; cases ry; simp only [D.beq]; exact EqAt.str_bool _ _ _
      | int j => simp only [Has] at hy; subst hy; obtain ⟨_, rfl⟩ := ry; simp only [D.beq]; exact EqAt.str_int _ _ _ _
      | str j => simp only [Has] at hy; subst hy; obtain ⟨_, rfl⟩ := ry; simp only [D.beq]; exact EqAt.str_str _ _ _ _
      | lst j => simp only [Has] at hy; obtain ⟨b, ys, rfl, q, _⟩ := hy; cases ry; obtain ⟨vs, _, p, _⟩ := I.list q; simp only [D.beq]; exact EqAt.str_list _ _ p.isList hu'
      | tup j => simp only [Has] at hy; obtain ⟨b, ys, rfl, q, _⟩ := hy; cases ry; obtain ⟨vs, _, p, _⟩ := I.tuple q; simp only [D.beq]; exact EqAt.str_tuple _ _ p hu'
  | succ n ih =>
    intro d e x y u v A hn hu hx hy rx ry
    by_cases h0 : D.dep d ≤ n
    · exact ih h0 (by omega) hx hy rx ry
    have hu' : A.units < cLine := by omega
    cases d with
    | lst ds =>
      simp only [Has] at hx
      obtain ⟨a, xs, rfl, q, r⟩ := hx
      cases rx
      have hd : D.deps ds ≤ n := by simp only [D.dep] at hn; omega
      cases e with
      | lst es =>
        simp only [Has] at hy
        obtain ⟨b, ys, rfl, q', r'⟩ := hy
        cases ry
        simp only [D.beq]
        by_cases hab : a = b
        · subst hab
          have e := I.list_inj q q'
          subst e
          rw [HasL.inj I r r']
          exact EqAt.same _
        · exact EqAt.of_refs hab (rc_lists I q r q' r' hu' fun j d e x y u v hd' he' hdx hey ru rv => ih (Nat.le_trans (getElem?_deps hd') hd) (by show A.units + 1 + n < cLine; omega) hdx hey ru rv)
      | tup es =>
        simp only [Has] at hy
        obtain ⟨b, ys, rfl, q', _⟩ := hy
        cases ry
        obtain ⟨us, _, p, _⟩ := I.list q
        obtain ⟨vs, _, p', _⟩ := I.tuple q'
        simp only [D.beq]
        exact EqAt.list_tuple p.isList p' hu'
      | non => simp only [Has] at hy; subst hy; cases ry; obtain ⟨us, _, p, _⟩ := I.list q; simp only [D.beq]; exact EqAt.list_none p.isList hu'
      | bl k => simp only [Has] at hy; subst hy; cases ry; obtain ⟨us, _, p, _⟩ := I.list q; simp only [D.beq]; exact EqAt.list_bool _ p.isList hu'
      | int k => simp only [Has] at hy; subst hy; obtain ⟨t', rfl⟩ := ry; obtain ⟨us, _, p, _⟩ := I.list q; simp only [D.beq]; exact EqAt.list_int _ _ p.isList hu'
      | str k => simp only [Has] at hy; subst hy; obtain ⟨t', rfl⟩ := ry; obtain ⟨us, _, p, _⟩ := I.list q; simp only [D.beq]; exact EqAt.list_str _ _ p.isList hu'
    | tup ds =>
      simp only [Has] at hx
      obtain ⟨a, xs, rfl, q, r⟩ := hx
      cases rx
      have hd : D.deps ds ≤ n := by simp only [D.dep] at hn; omega
      cases e with
      | tup es =>
        simp only [Has] at hy
        obtain ⟨b, ys, rfl, q', r'⟩ := hy
        cases ry
        simp only [D.beq]
        by_cases hab : a = b
        · subst hab
          have e := I.tuple_inj q q'
          subst e
          rw [HasL.inj I r r']
          exact EqAt.same _
        · exact EqAt.of_refs hab (rc_tups I q r q' r' hu' fun j d e x y u v hd' he' hdx hey ru rv => ih (Nat.le_trans (getElem?_deps hd') hd) (by show A.units + 1 + n < cLine; omega) hdx hey ru rv)
      | lst es =>
        simp only [Has] at hy
        obtain ⟨b, ys, rfl, q', _⟩ := hy
        cases ry
        obtain ⟨us, _, p, _⟩ := I.tuple q
        obtain ⟨vs, _, p', _⟩ := I.list q'
        simp only [D.beq]
        exact EqAt.tuple_list p p'.isList hu'
      | non => simp only [Has] at hy; subst hy; cases ry; obtain ⟨us, _, p, _⟩ := I.tuple q; simp only [D.beq]; exact EqAt.tuple_none p hu'
      | bl k => simp only [Has] at hy; subst hy; cases ry; obtain ⟨us, _, p, _⟩ := I.tuple q; simp only [D.beq]; exact EqAt.tuple_bool _ p hu'
      | int k => simp only [Has] at hy; subst hy; obtain ⟨t', rfl⟩ := ry; obtain ⟨us, _, p, _⟩ := I.tuple q; simp only [D.beq]; exact EqAt.tuple_int _ _ p hu'
      | str k => simp only [Has] at hy; subst hy; obtain ⟨t', rfl⟩ := ry; obtain ⟨us, _, p, _⟩ := I.tuple q; simp only [D.beq]; exact EqAt.tuple_str _ _ p hu'
    | _ => exact absurd (Nat.zero_le n) h0
end
end L2
namespace L2
open PySem PySem.Spec PyProof.Rows PySem.SeqAt
/-- x = [.. for ..], x a plain local: stored ahead of the block's names being let go -/
theorem ps_setComp {X : Cx} {i : Nat} {x : Str} {px pos' : Pos} {tg iter elt : Expr} {ifs : List Expr} {scope : Scope} {pos : Pos} {N' : List Str} {cap : List (Nat × Nat)} {wi : TI} {g : TG} {tc : TT} {te : TE} (hN : X.N.Nodup) (hxi : X.N[i]? = some x) (hx : Loc X.env.scope x) (hf : X.fn x = true ∨ X.env.scope.names.lookup x = some .local)
    (hsw : swapsWith (.ListComp elt [⟨tg, iter, ifs, 0⟩] scope pos) (some (.Name x px)) pos'.line X.env = pure true) (S : CompScope X scope N' cap) (hc : X.calm = true) (hs : ∀ x, foldedSetIterable iter X.env x = pure x) (hi : PI X tg iter wi)
    (hg : ∀ s₃ H₃ fp, PG (compCx X scope N' s₃ H₃ fp) tg g) (ht : ∀ s₃ H₃ fp, PTs (compCx X scope N' s₃ H₃ fp) ifs tc) (he : ∀ s₃ H₃ fp, PE (compCx X scope N' s₃ H₃ fp) elt te) :
    PS X (.Assign [.Name x px] (.ListComp elt [⟨tg, iter, ifs, 0⟩] scope pos) pos') (tAsg (tComp wi N'.length cap g tc te) (gName i)) := by
  intro pins s σ H D I h
  rw [arm_exec_Assign]
  refine wpAny_bind (wpAny_standAt ?_)
  show wpAny _ _ (swapsWith (.ListComp elt [⟨tg, iter, ifs, 0⟩] scope pos) (some (.Name x px)) pos'.line X.env >>= _) _ _ _
  rw [hsw]
  refine wpAny_bind (wpAny_pure ?_)
  rw [if_pos rfl, arm_evalThenUse_ListComp]
  refine wpAny_bind (wpAny_bind (comp_core (QQ := fun _ s' => wpAny (model X.prog X.w) X.A (pure ()) (fun _ s2 => wpAny (model X.prog X.w) X.A (pure Flow.next) (SP X pins D) X.xe s2) X.xe s') S hc hi hg ht he hs I h fun D' C H5 s6 fl m hn fp k q => ?_))
  have I6 : Inv X pins σ H5 s6 := k s6.heap (Heap.SameBut.refl _ _)
  obtain ⟨o, es, ep, ho, hd, hr⟩ := id hn
  have I7 : Inv X (pins ++ pinsAt [C] s6.heap) σ H5 s6 := I6.pinned (fun b hb => by rw [List.mem_singleton.mp hb]; exact fp) fun b hb => by
    rw [List.mem_singleton.mp hb]
    exact ⟨o, ho, fun v z => by rw [hd] at z; cases z⟩
  show wpAny _ _ (assignAll (.ref D') [assign (.Name x px) X.env]) _ _ _
  show wpAny _ _ (assign (.Name x px) X.env (.ref D')) _ _ _
  refine wpAny_assign_Name (store_ok I7 hN hxi hx (v := .ref D') (u := .ref D') rfl (fun s8 I8 => ?_) hf)
  have hC : s8.heap.get? C = some o := (I8.pin (C, o) (List.mem_append_right _ (List.mem_append_right _ (mem_pinsAt (List.mem_singleton.mpr rfl) ho)))).1
  refine ⟨m, ⟨o, es, ep, hC, hd, hr⟩, fun h' sb => ?_⟩
  refine wpAny_pure (wpAny_pure ⟨_, H5, ?_, q⟩)
  refine (I8.unpinned).moved (fp := [C]) (tk := s8.toks) (fun b hb => by rw [List.mem_singleton.mp hb]; exact fp) fun b o' hb e => (sb.2 b (fun z => hb (List.mem_singleton.mpr z))).trans e
/-- what swapsWith asks of the text -/
theorem swaps_yes {elt : Expr} {gens : List Comprehension} {scope : Scope} {pos px : Pos} {x : Str} {l : Nat} {env : Env} (h : (env.blockKind == .function && env.kindOf x == some .local && px.line == pos.line && !(scope.names.any fun (n, k) => n == x && (k == .local || k == .cell))) = true) :
    swapsWith (.ListComp elt gens scope pos) (some (.Name x px)) l env = pure true := by
  show (pure (env.blockKind == .function && env.kindOf x == some .local && px.line == pos.line && !(scope.names.any fun (n, k) => n == x && (k == .local || k == .cell))) : Sem Bool) = pure true
  rw [h]
theorem setCompE {X : Cx} (i : Nat) {x : Str} {px pos' : Pos} {tg iter elt : Expr} {ifs : List Expr} {scope : Scope} {pos : Pos} {N' : List Str} {cap : List (Nat × Nat)} {wi : TI} {g : TG} {tc : TT} {te : TE} (hN : X.N.Nodup) (hxi : X.N[i]? = some x) (hx : Loc X.env.scope x) (hf : X.fn x = true ∨ X.env.scope.names.lookup x = some .local)
    (hsw : (X.env.blockKind == .function && X.env.kindOf x == some .local && px.line == pos.line && !(scope.names.any fun (n, k) => n == x && (k == .local || k == .cell))) = true) (S : CompScope X scope N' cap) (hc : X.calm = true) (hs : isSetE iter = false) (hi : QI X tg iter wi)
    (hg : ∀ s₃ H₃ fp, QG (compCx X scope N' s₃ H₃ fp) tg g) (ht : ∀ s₃ H₃ fp, QTs (compCx X scope N' s₃ H₃ fp) ifs tc) (he : ∀ s₃ H₃ fp, QE (compCx X scope N' s₃ H₃ fp) elt te) :
    QS X (.Assign [.Name x px] (.ListComp elt [⟨tg, iter, ifs, 0⟩] scope pos) pos') (tAsg (tComp wi N'.length cap g tc te) (gName i)) :=
  ⟨ps_setComp hN hxi hx hf (swaps_yes hsw) S hc (folded_no hs) hi.h (fun s₃ H₃ fp => (hg s₃ H₃ fp).h) (fun s₃ H₃ fp => (ht s₃ H₃ fp).h) (fun s₃ H₃ fp => (he s₃ H₃ fp).h)⟩
section
variable {X : Cx} {pins : List (Addr × Obj)} {σ : St} {H : Hp} {s : Shared}
theorem ne_lists (I : Inv X pins σ H s) {A : Around} {ds es : List D} {xs ys : List V} {a b : Addr} (qx : SqL X.K H a xs) (hx : HasL X.K H ds xs) (qy : SqL X.K H b ys) (hy : HasL X.K H es ys) (hu : A.units < cLine)
    (ih : ∀ (j : Nat) d e x y u v, ds[j]? = some d → es[j]? = some e → Has X.K H d x → Has X.K H e y → RelV x u → RelV y v → EqAt A.in1 s u v (D.beq d e)) : RcNeAt A s (.ref a) (.ref b) (!D.beqs ds es) := by
  obtain ⟨us, rx, px, _⟩ := I.list qx
  obtain ⟨vs, ry, py, _⟩ := I.list qy
  have n1 : us.toArray.size = ds.length := by rw [List.size_toArray, ← rx.length, hx.len]
  have n2 : vs.toArray.size = es.length := by rw [List.size_toArray, ← ry.length, hy.len]
  by_cases hl : ds.length = es.length
  · rw [← D.beqs_all ds es hl, ← n1]
    exact RcNeAt.lists px.isList py.isList (by rw [n1, n2, hl]) hu (eq_items hx hy rx ry ih)
  · rw [D.beqs_len hl]
    exact RcNeAt.lists_lengths px.isList py.isList (by rw [n1, n2]; simpa using hl) hu
theorem ne_tups (I : Inv X pins σ H s) {A : Around} {ds es : List D} {xs ys : List V} {a b : Addr} (qx : SqT X.K H a xs) (hx : HasL X.K H ds xs) (qy : SqT X.K H b ys) (hy : HasL X.K H es ys) (hu : A.units < cLine)
    (ih : ∀ (j : Nat) d e x y u v, ds[j]? = some d → es[j]? = some e → Has X.K H d x → Has X.K H e y → RelV x u → RelV y v → EqAt A.in1 s u v (D.beq d e)) : RcNeAt A s (.ref a) (.ref b) (!D.beqs ds es) := by
  obtain ⟨us, rx, px, _⟩ := I.tuple qx
  obtain ⟨vs, ry, py, _⟩ := I.tuple qy
  have n1 : us.toArray.size = ds.length := by rw [List.size_toArray, ← rx.length, hx.len]
  have n2 : vs.toArray.size = es.length := by rw [List.size_toArray, ← ry.length, hy.len]
  have main := RcNeAt.tuples (A := A) (s := s) (l := a) (b := b) (items := us.toArray) (items2 := vs.toArray) px py hu (eq_items hx hy rx ry ih)
  rw [n1, n2] at main
  by_cases hl : ds.length = es.length
  · rw [← hl, Nat.min_self, D.beqs_all ds es hl] at main
    simpa using main
  · rw [D.beqs_len hl]
    have e : (ds.length == es.length) = false := by simpa using hl
    rw [e, Bool.and_false] at main
    exact main
end
section
variable {X : Cx} {K : PySem.W.Frag}
abbrev rEqL (K : PySem.W.Frag) : R2 := fun x y H Q => ∃ ds es, Has K H (.lst ds) x ∧ Has K H (.lst es) y ∧ D.deps ds ≤ 40 ∧ Q (.bl (D.beqs ds es)) H
abbrev rEqT (K : PySem.W.Frag) : R2 := fun x y H Q => ∃ ds es, Has K H (.tup ds) x ∧ Has K H (.tup es) y ∧ D.deps ds ≤ 40 ∧ Q (.bl (D.beqs ds es)) H
abbrev rNeL (K : PySem.W.Frag) : R2 := fun x y H Q => ∃ ds es, Has K H (.lst ds) x ∧ Has K H (.lst es) y ∧ D.deps ds ≤ 40 ∧ Q (.bl (!D.beqs ds es)) H
abbrev rNeT (K : PySem.W.Frag) : R2 := fun x y H Q => ∃ ds es, Has K H (.tup ds) x ∧ Has K H (.tup es) y ∧ D.deps ds ≤ 40 ∧ Q (.bl (!D.beqs ds es)) H
theorem op_eqL (hu : X.A.units + 64 < cLine) : OpR X (compareOp .Eq) (rEqL X.K) := by
  intro pins s σ H x y v u Q I rx ry h
  obtain ⟨ds, es, hx, hy, hd, q⟩ := h
  simp only [Has] at hx hy
  obtain ⟨a, xs, rfl, qx, hx⟩ := hx
  obtain ⟨b, ys, rfl, qy, hy⟩ := hy
  cases rx; cases ry
  exact rc_lists I qx hx qy hy (by omega) (fun j d e x y u v hd' he' hdx hey ru rv => eqAt_has I 40 (Nat.le_trans (getElem?_deps hd') hd) (by show X.A.units + 1 + 40 < cLine; omega) hdx hey ru rv) _ _ _ _ ⟨.bl _, H, I, rfl, q⟩
theorem op_eqT (hu : X.A.units + 64 < cLine) : OpR X (compareOp .Eq) (rEqT X.K) := by
  intro pins s σ H x y v u Q I rx ry h
  obtain ⟨ds, es, hx, hy, hd, q⟩ := h
  simp only [Has] at hx hy
  obtain ⟨a, xs, rfl, qx, hx⟩ := hx
  obtain ⟨b, ys, rfl, qy, hy⟩ := hy
  cases rx; cases ry
  exact rc_tups I qx hx qy hy (by omega) (fun j d e x y u v hd' he' hdx hey ru rv => eqAt_has I 40 (Nat.le_trans (getElem?_deps hd') hd) (by show X.A.units + 1 + 40 < cLine; omega) hdx hey ru rv) _ _ _ _ ⟨.bl _, H, I, rfl, q⟩
theorem op_neL (hu : X.A.units + 64 < cLine) : OpR X (compareOp .NotEq) (rNeL X.K) := by
  intro pins s σ H x y v u Q I rx ry h
  obtain ⟨ds, es, hx, hy, hd, q⟩ := h
  simp only [Has] at hx hy
  obtain ⟨a, xs, rfl, qx, hx⟩ := hx
  obtain ⟨b, ys, rfl, qy, hy⟩ := hy
  cases rx; cases ry
  exact ne_lists I qx hx qy hy (by omega) (fun j d e x y u v hd' he' hdx hey ru rv => eqAt_has I 40 (Nat.le_trans (getElem?_deps hd') hd) (by show X.A.units + 1 + 40 < cLine; omega) hdx hey ru rv) _ _ _ _ ⟨.bl _, H, I, rfl, q⟩
theorem op_neT (hu : X.A.units + 64 < cLine) : OpR X (compareOp .NotEq) (rNeT X.K) := by
  intro pins s σ H x y v u Q I rx ry h
  obtain ⟨ds, es, hx, hy, hd, q⟩ := h
  simp only [Has] at hx hy
  obtain ⟨a, xs, rfl, qx, hx⟩ := hx
  obtain ⟨b, ys, rfl, qy, hy⟩ := hy
  cases rx; cases ry
  exact ne_tups I qx hx qy hy (by omega) (fun j d e x y u v hd' he' hdx hey ru rv => eqAt_has I 40 (Nat.le_trans (getElem?_deps hd') hd) (by show X.A.units + 1 + 40 < cLine; omega) hdx hey ru rv) _ _ _ _ ⟨.bl _, H, I, rfl, q⟩
abbrev rEqB (K : PySem.W.Frag) : R2 := fun x y H Q => rEq x y H Q ∨ (rEqL K x y H Q ∨ rEqT K x y H Q)
abbrev rNeB (K : PySem.W.Frag) : R2 := fun x y H Q => rNe x y H Q ∨ (rNeL K x y H Q ∨ rNeT K x y H Q)
theorem q_eqB {k : Nat} (h : X.K = K) (hr : Room k X.A) : OpQ X (compareOp .Eq) (rEqB K) := by subst h; exact ⟨op_eq.or ((op_eqL hr.units).or (op_eqT hr.units))⟩
theorem q_neB {k : Nat} (h : X.K = K) (hr : Room k X.A) : OpQ X (compareOp .NotEq) (rNeB K) := by subst h; exact ⟨op_ne.or ((op_neL hr.units).or (op_neT hr.units))⟩
theorem q_mulS : OpQ X (binaryOp .Mult) rMulS := ⟨op_mulS⟩
theorem HasL.strs {H : Hp} : ∀ (ss : List Str), HasL K H (ss.map D.str) (ss.map V.str)
  | [] => by simp only [List.map_nil, HasL]
  | z :: r => by
    simp only [List.map_cons, HasL]
    exact ⟨_, _, rfl, by simp only [Has], HasL.strs r⟩
theorem Has.strs {H : Hp} {a : Addr} {ss : List Str} (h : SqL K H a (ss.map V.str)) : Has K H (.lst (ss.map D.str)) (.ref a) := by
  simp only [Has]
  exact ⟨a, _, rfl, h, HasL.strs ss⟩
theorem deps_strs : ∀ (ss : List Str), D.deps (ss.map D.str) = 0
  | [] => rfl
  | z :: r => by simp only [List.map_cons, D.deps, D.dep, deps_strs r]; rfl
end
end L2
namespace L2
open PySem PySem.Spec PyProof.Rows

theorem slot_setit_next : Slot "set_iterator" "__next__" "set_iterator.__next__" :=
  .of (owner := "set_iterator") (n := "__next__") (by rw [typeLookup_type, builtinLookup_eq_fast]; kernel_rfl) (by decide +kernel) (by decide +kernel) (by decide +kernel) (by first | exact .inl (by decide +kernel) | exact .inr (by decide +kernel)) (by rw [isSubtype_type]; kernel_rfl)
theorem entry_setit_next : entryFor table "set_iterator.__next__" = some Builtin.«set_iterator.__next__» := entryFor_of_tree (by kernel_rfl)
theorem args_setit_next (a : Value) : argsOk "set_iterator.__next__" ⟨[a], []⟩ := by unfold argsOk; kernel_rfl
theorem entry_setIter : entryFor table "set.__iter__" = some Builtin.«frozenset.__iter__» := entryFor_alias (id' := "frozenset.__iter__") (by kernel_rfl) rfl (by decide +kernel) (by kernel_rfl)

theorem orStandIn_led (t : SetTable) (n : Nat) : (t.orStandIn n).led = t.led := by unfold SetTable.orStandIn; split <;> rfl
theorem layNew_led (t : SetTable) (es : Array (Int × Value)) (h : Int) (x : Value) : (layNew t es h x).2.1.led = t.led := by
  unfold layNew
  cases t.freeSlot h with
  | none => rfl
  | some p =>
    obtain ⟨sl, d⟩ := p
    exact orStandIn_led (t.put sl).1 _
theorem relayAll_led (t : SetTable) (es : Array (Int × Value)) (n : Nat) : (relayAll t es n).2.1.led = t.led := by
  unfold relayAll
  cases hr : t.relaid (es.map (·.1)) n with
  | none => rfl
  | some p =>
    obtain ⟨t', ord⟩ := p
    simp only
    split
    · simp only [SetTable.relaid, SetTable.laid] at hr
      cases hc : SetTable.layClean (SetTable.sizeAbove n - 1) (es.map (·.1)) with
      | none => rw [hc] at hr; cases hr
      | some ow => rw [hc] at hr; injection hr with hr; injection hr with h1 h2; rw [← h1]
    · rfl
theorem relayAll_plain (t : SetTable) (es : Array (Int × Value)) (n : Nat) (hp : t.plain = false) : (relayAll t es n).2.1.plain = false := by
  unfold relayAll
  cases hr : t.relaid (es.map (·.1)) n with
  | none => rfl
  | some p =>
    obtain ⟨t', ord⟩ := p
    simp only
    split
    · simp only [SetTable.relaid, SetTable.laid] at hr
      cases hc : SetTable.layClean (SetTable.sizeAbove n - 1) (es.map (·.1)) with
      | none => rw [hc] at hr; cases hr
      | some ow => rw [hc] at hr; injection hr with hr; injection hr with h1 h2; rw [← h1]; exact hp
    · rfl

def byText (w : World) : Bool := w.params.followText "set-order"
def SetS (w : World) (a : Addr) (ks : List Str) (h : Heap) : Prop :=
  ∃ o es ep t ss, h.get? a = some o ∧ o.ExactSet ∧ o.data = .set es ep t ∧ StrsAre (es.toList.map (·.2)) ss ∧ ss.Perm ks ∧ ks.Nodup ∧ (∀ e ∈ es.toList, ∃ z u, e = (hashStr w z, .str z u)) ∧ es.size < scanBound ∧ t.fits es.size = true ∧ (es.size ≠ 0 → t.plain = false) ∧ t.led = !byText w
theorem elems_str {prog : Program} {w : World} {l : List (Int × Value)} (h : ∀ e ∈ l, ∃ z u, e = (hashStr w z, .str z u)) : ElemsOf (mixKind prog w) l := fun e he => by
  obtain ⟨z, u, rfl⟩ := h e he
  exact ⟨⟨Sum.inr z, keyIs_str z u, rfl⟩, rfl⟩
theorem strsAre_mem : ∀ {vs : List Value} {ss : List Str} {z : Str}, StrsAre vs ss → ((∃ u, Value.str z u ∈ vs) ↔ z ∈ ss)
  | _, _, z, .nil => by simp
  | _, _, z, .cons x t h => by
    have ih := strsAre_mem (z := z) h
    constructor
    · rintro ⟨u, hu⟩
      rcases List.mem_cons.mp hu with e | e
      · injection e with e1 _; rw [e1]; exact List.mem_cons_self
      · exact List.mem_cons_of_mem _ (ih.mp ⟨u, e⟩)
    · intro hz
      rcases List.mem_cons.mp hz with e | e
      · rw [e]; exact ⟨t, List.mem_cons_self⟩
      · obtain ⟨u, hu⟩ := ih.mpr e
        exact ⟨u, List.mem_cons_of_mem _ hu⟩
theorem strsAre_append : ∀ {vs ws : List Value} {ss ts : List Str}, StrsAre vs ss → StrsAre ws ts → StrsAre (vs ++ ws) (ss ++ ts)
  | _, _, _, _, .nil, h => h
  | _, _, _, _, .cons x t h, h' => .cons x t (strsAre_append h h')
theorem strsAre_len : ∀ {vs : List Value} {ss : List Str}, StrsAre vs ss → vs.length = ss.length
  | _, _, .nil => rfl
  | _, _, .cons x t h => by rw [List.length_cons, List.length_cons, strsAre_len h]
/-- another order of the same values -/
theorem strsAre_perm {vs ws : List Value} {ss : List Str} (h : StrsAre vs ss) (p : ws.Perm vs) : ∃ ts, StrsAre ws ts ∧ ts.Perm ss := by
  refine ⟨ws.map strOf, strsAre_map ws fun v hv => h.all v (p.mem_iff.mp hv), ?_⟩
  have := p.map strOf
  rwa [h.strs] at this

section
variable {prog : Program} {w : World} {A : Around} {E : Value → Shared → Prop} {s : Shared} {a : Addr}
theorem SetS.stored {h : Heap} {o : Obj} {es es' : Array (Int × Value)} {ep : Nat} {t t' : SetTable} {ss ks : List Str} (ho : h.get? a = some o) (hex : o.ExactSet) (hd : o.data = .set es ep t) (h1 : StrsAre (es'.toList.map (·.2)) ss) (h2 : ss.Perm ks) (h3 : ks.Nodup)
    (h4 : ∀ e ∈ es'.toList, ∃ z u, e = (hashStr w z, .str z u)) (h5 : es'.size < scanBound) (h6 : t'.fits es'.size = true) (h7 : t'.plain = false) (h8 : t'.led = !byText w) :
    (h.update a (Obj.putSet es' t')).get? a = some { o with data := .set es' (ep + 1) t' } ∧ SetS w a ks (h.update a (Obj.putSet es' t')) := by
  have hg : (h.update a (Obj.putSet es' t')).get? a = some { o with data := .set es' (ep + 1) t' } := by
    have q := Heap.get?_update_self (Obj.putSet es' t') ho (by rw [putSet_of es' t' hd]; rfl)
    rwa [putSet_of es' t' hd] at q
  exact ⟨hg, _, es', ep + 1, t', ss, hg, hex, rfl, h1, h2, h3, h4, h5, h6, fun _ => h7, h8⟩
/-- what was laid is stored, and perhaps laid anew -/
theorem set_tail {g : Bool → Sem Unit} (hg : ∀ (b : Bool) (s₁ : Shared) (Q' : Unit → Shared → Prop), Q' () s₁ → wpAny (model prog w) A (g b) Q' E s₁) {o : Obj} {es es1 : Array (Int × Value)} {ep : Nat} {t t2 : SetTable} {ss ks : List Str} {dum : Bool} {R : Option Bool → Shared → Prop} (ho : s.heap.get? a = some o) (hex : o.ExactSet) (hd : o.data = .set es ep t)
    (h1 : StrsAre (es1.toList.map (·.2)) ss) (h2 : ss.Perm ks) (h3 : ks.Nodup) (h4 : ∀ e ∈ es1.toList, ∃ z u, e = (hashStr w z, .str z u)) (h5 : es1.size < scanBound) (h6 : t2.fits es1.size = true) (h7 : t2.plain = false) (h8 : t2.led = !byText w)
    (hR : ∀ h', Heap.SameBut a s.heap h' → SetS w a ks h' → R (some true) { s with heap := h' }) :
    wpAny (model prog w) A (do
      storeSet a es1 t2
      if (!dum && t2.tooFull) = true then do
        g (relayAll t2 es1 (SetTable.grown es1.size)).2.2
        storeSet a (relayAll t2 es1 (SetTable.grown es1.size)).1 (relayAll t2 es1 (SetTable.grown es1.size)).2.1
        pure (some true)
      else pure (some true)) R E s := by
  obtain ⟨g1, S1⟩ := SetS.stored (w := w) (es' := es1) (t' := t2) ho hex hd h1 h2 h3 h4 h5 h6 h7 h8
  have b1 := Heap.SameBut.update s.heap a (Obj.putSet es1 t2)
  refine wpAny_bind (wpAny_storeSet_of ho hd ?_ (fits_of_scanBound h5))
  split
  · have p := relayAll_perm t2 es1 (SetTable.grown es1.size)
    have f := relayAll_fits t2 es1 (SetTable.grown es1.size)
    have l := relayAll_led t2 es1 (SetTable.grown es1.size)
    have pl := relayAll_plain t2 es1 (SetTable.grown es1.size) h7
    generalize relayAll t2 es1 (SetTable.grown es1.size) = L at p f l pl ⊢
    obtain ⟨es2, t3, gv⟩ := L
    dsimp only at p f l pl ⊢
    have z : es2.size = es1.size := by rw [← Array.length_toList, p.length_eq, Array.length_toList]
    obtain ⟨ts, q1, q2⟩ := strsAre_perm h1 (p.map (·.2))
    refine wpAny_bind (hg _ _ _ (wpAny_bind (wpAny_storeSet_of (s := { s with heap := s.heap.update a (Obj.putSet es1 t2) }) g1 rfl ?_ (fits_of_scanBound (by rw [z]; exact h5)))))
    exact wpAny_pure (hR _ (b1.trans (Heap.SameBut.update _ a _)) (SetS.stored (w := w) (es' := es2) (t' := t3) g1 hex rfl q1 (q2.trans h2) h3 (fun e he => h4 e (p.mem_iff.mp he)) (by rw [z]; exact h5) f pl (l.trans h8)).2)
  · exact wpAny_pure (hR _ b1 S1)
theorem set_add_str {ks : List Str} {z : Str} {tk : Tok} {Q : Bool → Shared → Prop} (hS : SetS w a ks s.heap) (hroom : ks.length + 1 < scanBound)
    (hQ : ∀ h' b, Heap.SameBut a s.heap h' → SetS w a (if z ∈ ks then ks else ks ++ [z]) h' → Q b { s with heap := h', toks := s.toks + 1 }) : wpAny (model prog w) A (setAdd a (.str z tk)) Q E s := by
  obtain ⟨o, es, ep, t, ss, ho, hex, hd, hst, hp, hnd, hel, hb, hf, hpl, hled⟩ := hS
  have hn : es.size = ks.length := by
    have q := strsAre_len hst
    rw [List.length_map, Array.length_toList, hp.length_eq] at q
    exact q
  have hE : ElemsOf (mixKind prog w) es.toList := elems_str hel
  have hkey : (mixKind prog w).is (Sum.inr z) (.str z tk) = true := keyIs_str z tk
  unfold setAdd
  refine wpAny_holding (wpAny_bind (wpAny_pyHash_str ?_))
  unfold setAddHashed setAddHashedIn
  refine wpAny_holding (wpAny_bind (wpAny_setState_of (s := { s with toks := s.toks + 1 }) ho hd hf ?_))
  dsimp only
  rw [byScan_of (knd := mixKind prog w) rfl hb hE]
  simp only [↓reduceIte]
  unfold setAddByScan
  refine wpAny_bind (wpAny_bind (wpAny_rule (wpAny_bind (wpAny_setScan_of (knd := mixKind prog w) (k := Sum.inr z) hkey ho hd hf hE ?_))))
  have hin : (∃ e ∈ es.toList, (mixKind prog w).is (Sum.inr z) e.2 = true) ↔ z ∈ ks := by
    rw [← hp.mem_iff, ← strsAre_mem hst]
    constructor
    · rintro ⟨e, he, q⟩
      obtain ⟨y, u, rfl⟩ := hel e he
      have q : keyIs (Sum.inr z) (Value.str y u) = true := q
      rcases keyIs_shape q with ⟨i, t', q1, q2⟩ | ⟨y', t', q1, q2⟩
      · cases q2
      · cases q1
        exact ⟨u, List.mem_map.mpr ⟨_, he, by injection q2 with e1 _; rw [e1]⟩⟩
    · rintro ⟨u, hu⟩
      obtain ⟨e, he, q⟩ := List.mem_map.mp hu
      exact ⟨e, he, by rw [q]; exact keyIs_str z u⟩
  cases hr : List.findIdx? (fun e => (mixKind prog w).is (Sum.inr z) e.2) es.toList with
  | some j =>
    obtain ⟨hj, hpj, _⟩ := List.findIdx?_eq_some_iff_getElem.mp hr
    have hz : z ∈ ks := hin.mp ⟨es.toList[j], List.getElem_mem hj, hpj⟩
    dsimp only
    have q := hQ s.heap false (Heap.SameBut.refl a s.heap) (by rw [if_pos hz]; exact ⟨o, es, ep, t, ss, ho, hex, hd, hst, hp, hnd, hel, hb, hf, hpl, hled⟩)
    exact wpAny_pure (wpAny_pure q)
  | none =>
    have hz : z ∉ ks := fun q => by
      obtain ⟨e, he, q2⟩ := hin.mpr q
      have := List.findIdx?_eq_none_iff.mp hr e he
      rw [q2] at this
      cases this
    rw [if_neg hz] at hQ
    dsimp only
    have lp := layNew_perm t es (hashStr w z) (.str z tk)
    have lf := layNew_fits t es (hashStr w z) (.str z tk)
    have ll := layNew_led t es (hashStr w z) (.str z tk)
    generalize hL : layNew t es (hashStr w z) (.str z tk) = L at lp lf ll
    obtain ⟨es1, t1, dum, gave⟩ := L
    dsimp only at lp lf ll ⊢
    rw [Array.toList_push] at lp
    have gone : ∀ (b : Bool) (s₁ : Shared) (Q' : Unit → Shared → Prop), Q' () s₁ → wpAny (model prog w) A (match b with | true => rule "set.scan.the-table-gave-way" | false => pure ()) Q' E s₁ := fun b s₁ Q' q => by
      cases b
      · exact wpAny_pure q
      · exact wpAny_rule q
    have hel1 : ∀ e ∈ es1.toList, ∃ z u, e = (hashStr w z, .str z u) := fun e he => by
      rcases List.mem_append.mp (lp.mem_iff.mp he) with q | q
      · exact hel e q
      · rw [List.mem_singleton.mp q]; exact ⟨z, tk, rfl⟩
    have q1 : StrsAre ((es.toList ++ [(hashStr w z, Value.str z tk)]).map (·.2)) (ss ++ [z]) := by
      rw [List.map_append]
      exact strsAre_append hst (.cons z tk .nil)
    obtain ⟨ts, q2, q3⟩ := strsAre_perm q1 (lp.map (·.2))
    have hp1 : ts.Perm (ks ++ [z]) := q3.trans (hp.append_right _)
    have hnd1 : (ks ++ [z]).Nodup := nd_snoc hnd hz
    have hz1 : es1.size = es.size + 1 := by rw [← Array.length_toList, lp.length_eq, List.length_append, Array.length_toList]; rfl
    have hb1 : es1.size < scanBound := by rw [hz1, hn]; exact hroom
    have fin : ∀ h', Heap.SameBut a s.heap h' → SetS w a (ks ++ [z]) h' → wpAny (model prog w) A (pure true) Q E { s with heap := h', toks := s.toks + 1 } := fun h' sb S' => wpAny_pure (hQ h' true sb S')
    refine wpAny_bind (gone _ _ _ ?_)
    cases hpl1 : t1.plain with
    | true =>
      simp only [↓reduceIte]
      refine wpAny_bind ?_
      rw [show hashByValue 8 (Value.str z tk) = pure false from rfl]
      refine wpAny_pure ?_
      simp only [Bool.false_eq_true, ↓reduceIte]
      exact set_tail (s := { s with toks := s.toks + 1 }) gone ho hex hd q2 hp1 hnd1 hel1 hb1 (SetTable.fits_plain_off lf) rfl (ll.trans hled) fun h' sb S' => fin h' sb S'
    | false =>
      simp only [Bool.false_eq_true, ↓reduceIte]
      refine wpAny_bind (wpAny_pure ?_)
      simp only [↓reduceIte]
      exact set_tail (s := { s with toks := s.toks + 1 }) gone ho hex hd q2 hp1 hnd1 hel1 hb1 lf hpl1 (ll.trans hled) fun h' sb S' => fin h' sb S'
end
end L2
namespace L2
open PySem PySem.Spec PyProof.Rows
def addS (ks : List Str) (z : Str) : List Str := if z ∈ ks then ks else ks ++ [z]
def firstsOf (ss : List Str) : List Str := ss.foldl addS []
theorem addS_len (ks : List Str) (z : Str) : (addS ks z).length ≤ ks.length + 1 := by
  unfold addS; split
  · omega
  · rw [List.length_append]; exact Nat.le_refl _
theorem addS_mem {ks : List Str} {z y : Str} : y ∈ addS ks z ↔ y ∈ ks ∨ y = z := by
  unfold addS
  by_cases h : z ∈ ks
  · rw [if_pos h]
    exact ⟨.inl, fun q => q.elim id fun e => e ▸ h⟩
  · rw [if_neg h, List.mem_append, List.mem_singleton]
theorem addS_nodup {ks : List Str} {z : Str} (h : ks.Nodup) : (addS ks z).Nodup := by
  unfold addS
  by_cases hz : z ∈ ks
  · rw [if_pos hz]; exact h
  · rw [if_neg hz]; exact nd_snoc h hz
theorem fold_mem : ∀ {ss ks : List Str} {y : Str}, y ∈ ss.foldl addS ks ↔ y ∈ ks ∨ y ∈ ss
  | [], ks, y => by simp
  | z :: r, ks, y => by
    rw [List.foldl_cons, fold_mem, addS_mem, List.mem_cons]
    exact ⟨fun h => h.elim (fun h => h.elim .inl fun e => .inr (.inl e)) fun h => .inr (.inr h), fun h => h.elim (fun h => .inl (.inl h)) fun h => h.elim (fun e => .inl (.inr e)) .inr⟩
theorem fold_nodup : ∀ {ss ks : List Str}, ks.Nodup → (ss.foldl addS ks).Nodup
  | [], _, h => h
  | z :: r, ks, h => by
    rw [List.foldl_cons]
    exact fold_nodup (addS_nodup h)
theorem firstsOf_mem {ss : List Str} {y : Str} : y ∈ firstsOf ss ↔ y ∈ ss := by unfold firstsOf; rw [fold_mem]; simp
theorem firstsOf_nodup (ss : List Str) : (firstsOf ss).Nodup := fold_nodup List.nodup_nil
theorem fold_len : ∀ (ss ks : List Str), (ss.foldl addS ks).length ≤ ks.length + ss.length
  | [], ks => by simp
  | z :: r, ks => by
    have h1 := fold_len r (addS ks z)
    have h2 := addS_len ks z
    rw [List.foldl_cons, List.length_cons]
    omega
theorem SetS.keep {w : World} {a : Addr} {ks : List Str} {h h' : Heap} (S : SetS w a ks h) (k : ∀ o, h.get? a = some o → h'.get? a = some o) : SetS w a ks h' := by
  obtain ⟨o, es, ep, t, ss, ho, r⟩ := S
  exact ⟨o, es, ep, t, ss, k o ho, r⟩
theorem firsts_succ (val : Nat → Str) (i : Nat) : firstsOf ((List.range (i + 1)).map val) = addS (firstsOf ((List.range i).map val)) (val i) := by
  unfold firstsOf
  rw [List.range_succ, List.map_append, List.foldl_append]
  rfl
section
variable {prog : Program} {w : World} {A : Around} {R : Result → Shared → Prop} {I : Addr} {fp wr : List Addr} {G : Array GenState → Array GenState → Prop} {n : Nat} {P : Nat → Value → Prop} {St : Nat → Shared → Prop}
theorem set_loop_strs (W : WalksS prog w A.in1 I fp wr G n P St) (S : Addr) (hSf : S ∉ fp) (val : Nat → Str) (hval : ∀ i v, P i v → ∃ t, v = .str (val i) t) (hb : n + 1 < scanBound) :
    ∀ (k i : Nat) (s : Shared), n - i = k → i ≤ n → St i s → SetS w S (firstsOf ((List.range i).map val)) s.heap →
      (∀ s', Moved (S :: wr) G s s' → SetS w S (firstsOf ((List.range n).map val)) s'.heap → R (.ok (.ret .none)) s') → codeAny (model prog w) A (.builtin "set.update.loop" ⟨[.ref S, .ref I], []⟩) R s := by
  have out : S ∉ wr := fun h => hSf (W.sub _ h)
  have more : ∀ b ∈ wr, b ∈ S :: wr := fun b hb => List.mem_cons_of_mem _ hb
  intro k
  induction k with
  | zero =>
    intro i s hk hi st hS fin
    have e : i = n := by omega
    subst e
    refine codeAny_builtin F.entry_set_update_loop ?_
    rw [Around.under_plainId F.plain_set_update_loop _]
    show wpAny _ A.in1 (pyNext (.ref I) >>= _) _ _ s
    refine wpAny_bind (W.done s _ _ st fun s1 m1 => ?_)
    show wpAny _ A.in1 (ret Value.none) _ _ s1
    exact wpAny_pure (fin s1 (m1.mono more) (hS.keep fun o e => m1.heap S o out e))
  | succ k ih =>
    intro i s hk hi st hS fin
    have lt : i < n := by omega
    refine codeAny_builtin F.entry_set_update_loop ?_
    rw [Around.under_plainId F.plain_set_update_loop _]
    show wpAny _ A.in1 (pyNext (.ref I) >>= _) _ _ s
    refine wpAny_bind (W.item i s _ _ lt st fun v s1 pv st1 m1 => ?_)
    obtain ⟨t, rfl⟩ := hval i v pv
    have hS1 := hS.keep (h' := s1.heap) fun o e => m1.heap S o out e
    have room : (firstsOf ((List.range i).map val)).length + 1 < scanBound := by
      have q := fold_len ((List.range i).map val) []
      rw [List.length_map, List.length_range] at q
      unfold firstsOf
      simp only [List.length_nil, Nat.zero_add] at q
      omega
    show wpAny _ A.in1 (holding [Value.str (val i) t] (setAdd S (.str (val i) t)) >>= _) _ _ s1
    refine wpAny_bind (wpAny_holding (set_add_str hS1 room fun h2 b sb hS2 => ?_))
    have hS2' : SetS w S (firstsOf ((List.range (i + 1)).map val)) h2 := by rw [firsts_succ]; exact hS2
    refine wpAny_pure ⟨plainId_quiet F.plain_set_update_loop _, ih (i + 1) _ (by omega) lt (W.frame _ s1 _ _ st1 (Nat.le_succ _) fun b hb o e => ?_) hS2' fun s3 m3 hS3 => ?_⟩
    · rw [sb.2 b (fun q : b = S => hSf (q ▸ hb))]; exact e
    · refine fin s3 (Moved.trans W.gtrans ((m1.mono more).then_heap (Nat.le_succ _) fun b o hb e => ?_) m3) hS3
      rw [sb.2 b (fun q : b = S => hb (by rw [q]; exact List.mem_cons_self))]; exact e
end
section
variable {prog : Program} {w : World} {A : Around} {E : Value → Shared → Prop} {s : Shared}
/-- a new set's object -/
abbrev newSetO (w : World) : Obj := { cls := .type "set", dict := none, data := .set #[] 0 (.fresh 0 0 (!byText w)) }
theorem set_new1 (a : Value) {Q₁ : Value → Shared → Prop} (h : Q₁ (.ref s.heap.objs.size) { s with heap := s.heap.push (newSetO w) }) :
    codeAny (model prog w) A (.call (.builtin "set.__new__") ⟨[.type "set", a], []⟩) (wants Q₁ E) s := by
  refine codeAny_of_tree ?_
  show wpAny _ A.in1 (checkBuiltinCall "set.__new__" ⟨[.type "set", a], []⟩ >>= fun _ => again (.builtin "set.__new__" ⟨[.type "set", a], []⟩)) _ _ s
  refine wpAny_bind (wpAny_of_eq (PySem.F.newCall_set_1 a) (wpAny_pure ⟨plainId_quiet PySem.F.plain_set_new _, codeAny_builtin PySem.F.entry_set_new ?_⟩))
  rw [Around.under_plainId PySem.F.plain_set_new _]
  unfold Builtin.«set.__new__» Builtin.Frozenset.newClass
  have su := sub_set_self
  obtain ⟨hp, g, d, tk, os⟩ := s
  dsimp only
  wp_walk
  refine wpAny_askSetting (wpAny_pure ?_)
  dsimp only
  simp only [newObj]
  exact wpAny_bind (wpAny_alloc (wpAny_pure (wpAny_pure h)))
theorem SetS.empty {h : Heap} {a : Addr} (e : h.get? a = some (newSetO w)) : SetS w a [] h :=
  ⟨_, #[], 0, _, [], e, ⟨rfl, rfl, rfl⟩, rfl, .nil, .nil, List.nodup_nil, fun e he => by simp at he, by decide, rfl, fun q => absurd rfl q, rfl⟩
theorem strs_val : ∀ {vs : List Value} {ss : List Str}, StrsAre vs ss → ∀ (i : Nat) (v : Value), vs[i]? = some v → ∃ t, v = .str (ss.getD i (Str.ofString "")) t
  | _, _, .nil, i, v, h => by simp at h
  | _, _, .cons x t hr, 0, v, h => by simp at h; exact ⟨t, by rw [← h]; rfl⟩
  | _, _, .cons x t hr, i + 1, v, h => by
    obtain ⟨u, e⟩ := strs_val hr i v (by simpa using h)
    exact ⟨u, by rw [e]; rfl⟩
theorem range_getD (ss : List Str) : (List.range ss.length).map (fun i => ss.getD i (Str.ofString "")) = ss := by
  apply List.ext_getElem
  · simp
  · intro i h1 h2
    simp [List.getD_eq_getElem?_getD, h2]
set_option maxHeartbeats 4000000 in
theorem call_set_strs {l : Addr} {items : Array Value} {ss : List Str} {Q : Value → Shared → Prop} (hh : A.handled = none) (hl : s.heap.IsList l items) (hi : StrsAre items.toList ss) (hb : items.size + 1 < scanBound)
    (hQ : ∀ (h' : Heap) (tk : Nat), SetS w s.heap.objs.size (firstsOf ss) h' → (∀ b o, s.heap.get? b = some o → h'.get? b = some o) → Q (.ref s.heap.objs.size) { s with heap := h', toks := tk }) :
    wpAny (model prog w) A (call (.type "set") [.ref l]) Q E s := by
  obtain ⟨c, tl, hmro⟩ := PySem.F.called_set.mro
  have hmade := PySem.F.called_set.made
  have hsub := PySem.F.called_set.sub
  refine wpAny_call (codeAny_of_tree ?_)
  show wpAny _ _ (callAny (.type "set") _) _ _ _
  refine wpAny_pure ⟨Code.quiet_builtin _ (by decide +kernel), codeAny_builtin F.entry_type_call ?_⟩
  rw [Around.under_plain (weight_type_call_type "set" [.ref l] []) rfl]
  have ht1 := PySem.F.called_set.notType
  have ht2 := PySem.F.called_set.canCreate
  have ht3 := PySem.F.typeCall_set_1 (.ref l)
  repeat any_goals first | assumption | wp_step
  refine codeAny_mono (set_new1 (.ref l) (E := E) (Q₁ := fun obj s₁ => obj = .ref s.heap.objs.size ∧ s₁ = { s with heap := s.heap.push (newSetO w) }) ⟨rfl, rfl⟩) fun r s₁ hr => ?_
  cases r with
  | error e => exact hr
  | ok fl =>
    cases fl with
    | ret obj =>
      obtain ⟨rfl, rfl⟩ := hr
      have gS : (s.heap.push (newSetO w)).get? s.heap.objs.size = some (newSetO w) := Heap.get?_push_size _ rfl
      have tS : Shared.TypeIs { s with heap := s.heap.push (newSetO w) } (.ref s.heap.objs.size) "set" := ⟨_, gS, rfl⟩
      have hli := PySem.F.called_set.init.lookup
      have hbi := PySem.F.called_set.init.bind (.ref s.heap.objs.size)
      repeat any_goals first | assumption | wp_step
      refine codeAny_mono (codeAny_call_builtin (R := wants (fun r s₂ => r = .none ∧ ∃ h' tk, s₂ = { s with heap := h', toks := tk } ∧ SetS w s.heap.objs.size (firstsOf ss) h' ∧ (∀ b o, s.heap.get? b = some o → h'.get? b = some o)) E) PySem.F.called_set.init.plain F.entry_set_init (check_set_init_1 tS ?_)) fun r₂ s₂ hr₂ => ?_
      · obtain ⟨ol, gl, cl, nl, dl⟩ := hl
        obtain ⟨ocls, odict, odata, oslots⟩ := ol
        simp only at cl dl
        subst cl; subst dl
        have gl' : (s.heap.push (newSetO w)).get? l = some { cls := .type "list", dict := odict, data := .seq items nl, slots := oslots } := Heap.get?_push_of_some _ gl
        have no1 := PySem.F.sub_list_set
        have no2 := PySem.F.sub_list_frozenset
        have no3 : (Value.type "list" == Value.type "dict") = false := by decide
        have isl : (s.heap.push (newSetO w)).IsList l items := ⟨_, gl', rfl, nl, rfl⟩
        unfold Builtin.«set.__init__»
        unfold noKeywords
        unfold Builtin.Frozenset.updateFrom
        generalize hPI : pyIter = PI
        wp_walk
        subst hPI
        refine wpAny_pyIter_list isl (wpAny_bind (wpAny_runValue ?_))
        have llt : l < s.heap.objs.size := Heap.lt_size gl
        have h3 : A.in1.in1.in1.handled = none := by simp [hh]
        have nz : (s.heap.push (newSetO w)).objs.size = s.heap.objs.size + 1 := Heap.size_push ..
        have ne1 : l ≠ (s.heap.push (newSetO w)).objs.size := by rw [nz]; exact Nat.ne_of_lt (Nat.lt_succ_of_lt llt)
        have ne2 : s.heap.objs.size ∉ [(s.heap.push (newSetO w)).objs.size, l] := by
          rw [nz]
          simp only [List.mem_cons, List.not_mem_nil, or_false, not_or]
          exact ⟨Nat.ne_of_lt (Nat.lt_succ_self _), Nat.ne_of_gt llt⟩
        have hlen : items.size = ss.length := by rw [← Array.length_toList]; exact strsAre_len hi
        refine set_loop_strs ((Walks.list h3 _ l ne1 items).toS) s.heap.objs.size ne2 (fun i => ss.getD i (Str.ofString "")) (fun i v hv => strs_val hi i v (by rw [Array.getElem?_toList]; exact hv)) hb (items.size - 0) 0 _ (by omega) (Nat.zero_le _)
          ⟨⟨_, Heap.get?_push_size _ rfl, rfl, rfl⟩, isl.push _⟩ (SetS.empty (Heap.get?_push_of_some _ gS)) ?_
        intro s3 m3 S3
        rw [hlen, range_getD] at S3
        obtain ⟨h', g', d', tk', os'⟩ := s3
        have eg : g' = s.gens := m3.gens
        have ed : d' = s.drawn := m3.drawn
        have eo : os' = s.os := m3.os
        subst eg; subst ed; subst eo
        refine wpAny_pure ?_
        show wpAny _ _ (ret Value.none) _ _ _
        refine wpAny_pure ⟨rfl, h', tk', rfl, S3, fun b o e => ?_⟩
        have blt := Heap.lt_size e
        refine m3.heap b o ?_ (Heap.get?_push_of_some _ (Heap.get?_push_of_some _ e))
        simp only [List.mem_cons, List.not_mem_nil, or_false, not_or, nz]
        exact ⟨Nat.ne_of_lt blt, Nat.ne_of_lt (Nat.lt_succ_of_lt blt)⟩
      · cases r₂ with
        | error e => exact hr₂
        | ok fl₂ =>
          cases fl₂ with
          | ret r =>
            obtain ⟨rfl, h', tk, rfl, S3, k3⟩ := hr₂
            repeat any_goals first | assumption | wp_step
            exact hQ _ _ S3 k3
          | _ => exact hr₂.elim
    | _ => exact hr.elim
end
section
variable {X : Cx} {K : PySem.W.Frag}
/-- a set of texts, as a thing of the heap -/
def SetO (w : World) (a : Addr) (ks : List Str) : HO := .ext (SetS w a ks)
theorem call_set (hc : X.calm = true) : CallR X (.type "set") (fun xs H Q => ∃ p ss, xs = [.ref p] ∧ SqL X.K H p (ss.map V.str) ∧ ss.length ≤ 4000 ∧ ∀ l, H l = none → Q (.ref l) (upd H l (SetO X.w l (firstsOf ss)))) := by
  intro pins s σ H xs us Q I r h
  obtain ⟨p, ss, rfl, hq, hl, q⟩ := h
  obtain ⟨u, rfl, ru⟩ := vals1 r
  cases ru
  obtain ⟨its, rv, pl, hz⟩ := I.list hq
  have hst := strsAre_of rv
  have hn : its.toArray.size = ss.length := by rw [List.size_toArray]; exact strsAre_len hst
  refine call_set_strs (I.ok.hd hc) pl.isList (ss := ss) (by simpa using hst) (by rw [hn]; show ss.length + 1 < 4096; omega) fun h' tk S k => ?_
  refine ⟨.ref s.heap.objs.size, _, I.laid (o := SetO X.w s.heap.objs.size (firstsOf ss)) (t' := tk) k (Nat.le_refl _) ⟨S, ?_, fun h1 h2 S1 k1 => S1.keep k1⟩, rfl, q _ I.fresh⟩
  obtain ⟨o, _, _, _, _, ho, _⟩ := S
  exact ⟨o, ho⟩
theorem k_set (h : X.K = K) (hw : X.w = w) (hc : X.calm = true) : CallQ X (.type "set") (fun xs H Q => ∃ p ss, xs = [.ref p] ∧ SqL K H p (ss.map V.str) ∧ ss.length ≤ 4000 ∧ ∀ l, H l = none → Q (.ref l) (upd H l (SetO w l (firstsOf ss)))) := by subst h; subst hw; exact ⟨call_set hc⟩
end
end L2
namespace L2
open PySem PySem.Spec PyProof.Rows
theorem erase_perm {α : Type} : ∀ {xs : List α} {i : Nat} (h : i < xs.length), (xs[i] :: xs.eraseIdx i).Perm xs
  | x :: r, 0, _ => by simp
  | x :: r, i + 1, h => by
    have ih := erase_perm (xs := r) (i := i) (by simpa using h)
    simp only [List.getElem_cons_succ, List.eraseIdx_cons_succ]
    exact (List.Perm.swap _ _ _).trans (.cons _ ih)
section
variable {prog : Program} {w : World} {A : Around} {E : Value → Shared → Prop} {s : Shared}
theorem choose_ok {src : Source} {n : Nat} {Q : Nat → Shared → Prop} (hn : n ≠ 0) (h : ∀ i d, i < n → Q i { s with drawn := d }) : wpAny (model prog w) A (choose src n) Q E s := by
  intro Γ p _
  show Sem.wp _ _ (.choose src n .pure) _ _ _ _
  rw [Sem.wp_choose]
  exact ⟨hn, h _ _ (Nat.mod_lt _ (Nat.pos_of_ne_zero hn))⟩
theorem draw_ok {α : Type} : ∀ (n : Nat) (xs : List α) (s : Shared) (Q : List α → Shared → Prop), xs.length ≤ n → (∀ ys d, ys.Perm xs → Q ys { s with drawn := d }) → wpAny (model prog w) A (drawOrder n xs) Q E s
  | 0, xs, s, Q, hn, h => by
    have e : xs = [] := List.length_eq_zero_iff.mp (Nat.le_zero.mp hn)
    subst e
    exact wpAny_pure (h [] s.drawn .nil)
  | n + 1, [], s, Q, hn, h => wpAny_pure (h [] s.drawn .nil)
  | n + 1, x :: r, s, Q, hn, h => by
    unfold drawOrder
    refine wpAny_bind (choose_ok (by simp) fun i d hi => ?_)
    have e : (x :: r)[i]? = some ((x :: r)[i]) := List.getElem?_eq_getElem hi
    rw [e]
    have l : ((x :: r).eraseIdx i).length ≤ n := by rw [List.length_eraseIdx]; simp only [hi, ↓reduceIte]; simp only [List.length_cons] at hn ⊢; omega
    refine wpAny_bind (draw_ok n ((x :: r).eraseIdx i) _ _ l fun ys d2 p => wpAny_pure (h _ d2 ?_))
    exact (List.Perm.cons _ p).trans (erase_perm hi)
end
theorem pick_go {α : Type} (next : Nat → Nat) : ∀ (fuel k : Nat) (left : List α) (out : Array α), left.length ≤ fuel → (pickOrder.go next fuel k left out).toList.Perm (out.toList ++ left)
  | 0, k, left, out, h => by
    have e : left = [] := List.length_eq_zero_iff.mp (Nat.le_zero.mp h)
    subst e
    rw [List.append_nil]
    exact .refl _
  | fuel + 1, k, [], out, h => by
    unfold pickOrder.go
    simp
  | fuel + 1, k, x :: r, out, h => by
    unfold pickOrder.go
    have hi : next k % (x :: r).length < (x :: r).length := Nat.mod_lt _ (by simp)
    rw [List.getElem?_eq_getElem hi]
    have l : ((x :: r).eraseIdx (next k % (x :: r).length)).length ≤ fuel := by rw [List.length_eraseIdx]; simp only [hi, ↓reduceIte]; simp only [List.length_cons] at h ⊢; omega
    refine (pick_go next fuel (k + 1) _ _ l).trans ?_
    rw [Array.toList_push, List.append_assoc]
    exact (List.Perm.refl _).append (erase_perm hi)
theorem pick_perm {α : Type} (next : Nat → Nat) (xs : Array α) : (pickOrder next xs).toList.Perm xs.toList := by
  have := pick_go next xs.size 0 xs.toList #[] (by simp)
  simpa [pickOrder] using this
theorem below_one (p j : Nat) : SetTable.below #[p] j = if p < j then 1 else 0 := by
  unfold SetTable.below
  simp only [List.size_toArray, List.length_cons, List.length_nil, Nat.zero_add]
  unfold SetTable.below.go
  simp
  split <;> (unfold SetTable.below.go; rfl)
theorem below_none (j : Nat) : SetTable.below #[] j = 0 := rfl

theorem array_one {α : Type} {xs : Array α} (h : xs.size = 1) : ∃ p, xs = #[p] := by
  obtain ⟨l⟩ := xs
  match l, h with
  | [p], _ => exact ⟨p, rfl⟩
/-- the iterator at I over the set at S, i items told of ord -/
def SIt (w : World) (I S T : Addr) (o : Obj) (es : Array (Int × Value)) (ep : Nat) (t : SetTable) (ord : List Value) (i : Nat) (h : Heap) : Prop :=
  h.get? S = some o ∧ ∃ first, h.get? I = some { cls := .type "set_iterator", dict := none, data := .fields #[first, rawInt i, .ref S, rawInt es.size, rawInt ep], slots := #[] } ∧
    ((byText w = true ∧ first = rawInt 0 ∧ ord = (pickOrder (w.params.setOrder S ep) es).toList.map (·.2)) ∨
     (byText w = false ∧ first = .ref T ∧ T ≠ I ∧ ∃ ps : List Nat, h.get? T = some { cls := .type "tuple", data := .seq (ps.map fun (i : Nat) => rawInt i).toArray } ∧ ps.length = ord.length ∧ ∀ (j p : Nat), ps[j]? = some p → ∃ e, es[p]? = some e ∧ ord[j]? = some e.2) ∨
     (byText w = false ∧ es.size ≤ 1 ∧ ord = es.toList.map (·.2) ∧ (i = 0 → first = rawInt 0) ∧ (i = 1 → ∃ p : Nat, t.place[0]? = some p ∧ first = rawInt (p + 1))))

theorem SIt.is {w : World} {I S T : Addr} {o : Obj} {es : Array (Int × Value)} {ep : Nat} {t : SetTable} {ord : List Value} {i : Nat} {s : Shared} (h : SIt w I S T o es ep t ord i s.heap) : s.TypeIs (.ref I) "set_iterator" := by
  obtain ⟨_, f, hI, _⟩ := h
  exact ⟨_, hI, rfl⟩
section
variable {prog : Program} {w : World} {A : Around} {E : Value → Shared → Prop} {s : Shared} {I S T : Addr} {o : Obj} {es : Array (Int × Value)} {ep : Nat} {t : SetTable} {ord : List Value}
theorem setit_item {i : Nat} {v : Value} {Q : Option Value → Shared → Prop} (hd : o.data = .set es ep t) (hf : t.fits es.size = true) (hled : t.led = !byText w) (hSI : S ≠ I) (st : SIt w I S T o es ep t ord i s.heap) (hv : ord[i]? = some v) (hn : ord.length = es.size)
    (hQ : ∀ h', SIt w I S T o es ep t ord (i + 1) h' → Heap.SameBut I s.heap h' → Q (some v) { s with heap := h' }) : wpAny (model prog w) A (pyNext (.ref I)) Q E s := by
  have hT := st.is
  obtain ⟨hS, first, hI, m⟩ := st
  unfold pyNext
  refine wpAny_bind (wpAny_attempt (wpAny_callSpecial?_slot (name := Str.ofString "__next__") hT slot_setit_next (wpAny_call_entry slot_setit_next hT entry_setit_next ?_ (args_setit_next _))))
  unfold Builtin.«set_iterator.__next__»
  refine wpAny_bind (m := slotArgs _ _ _) (wpAny_pure ?_)
  refine wpAny_bind (wpAny_fieldsOf hI rfl ?_)
  show wpAny _ _ (setEntries S >>= _) _ _ _
  refine wpAny_bind (wpAny_setEntries_of hS hd hf ?_)
  rw [if_neg (by simp)]
  rcases m with ⟨bt, rfl, eo⟩ | ⟨bt, rfl, hTI, ps, hTt, hpl, hps⟩ | ⟨bt, h1, eo, f0, f1⟩
  · show wpAny _ _ (setNext S 0 i ep >>= _) _ _ _
    refine wpAny_bind ?_
    unfold setNext
    refine wpAny_bind (wpAny_setState_of hS hd hf ?_)
    refine wpAny_bind (wpAny_bind (wpAny_askSetting (wpAny_pure ?_)))
    show wpAny _ _ (if byText w = true then _ else _) _ _ _
    rw [if_pos bt]
    dsimp only
    rw [if_neg (show ¬ ((ep != ep) = true) by simp)]
    refine wpAny_bind ?_
    unfold setWalk
    refine wpAny_bind (wpAny_setState_of hS hd hf ?_)
    refine wpAny_bind (wpAny_bind (wpAny_askSetting (wpAny_pure ?_)))
    show wpAny _ _ (if byText w = true then _ else _) _ _ _
    rw [if_pos bt]
    refine wpAny_bind (wpAny_askSetting (wpAny_pure (wpAny_pure ?_)))
    have hv' : (pickOrder (w.params.setOrder S ep) es)[i]?.map (·.2) = some v := by
      rw [eo] at hv
      simpa using hv
    cases hp : (pickOrder (w.params.setOrder S ep) es)[i]? with
    | none => rw [hp] at hv'; cases hv'
    | some e =>
      rw [hp] at hv'
      have ev : e.2 = v := by simpa using hv'
      show wpAny _ _ (match ((pickOrder (w.params.setOrder S ep) es)[i]?).map fun e => (e.2, 0) with | some (x, next) => _ | none => _) _ _ _
      rw [hp]
      show wpAny _ _ (setField (.ref I) 0 (rawInt ((0 : Nat) : Int)) >>= _) _ _ _
      refine wpAny_bind (wpAny_setField_rec hI (by simp) fun g1 hI1 sb1 => ?_)
      refine wpAny_bind (wpAny_setField_rec (s := { s with heap := g1 }) hI1 (by simp) fun g2 hI2 sb2 => ?_)
      rw [ev]
      have sb : Heap.SameBut I s.heap g2 := sb1.trans sb2
      refine wpAny_pure ⟨v, rfl, wpAny_pure (hQ g2 ⟨(sb.2 S hSI).trans hS, _, hI2, .inl ⟨bt, rfl, eo⟩⟩ sb)⟩
  · show wpAny _ _ (seqItems? (.ref T) >>= _) _ _ _
    refine wpAny_bind (wpAny_seqItems hTt rfl ?_)
    have hi : i < ord.length := (List.getElem?_eq_some_iff.mp hv).1
    have hip : i < ps.length := by omega
    obtain ⟨e, he, hoe⟩ := hps i ps[i] (by simp [hip])
    have ev : e.2 = v := by rw [hoe] at hv; exact Option.some.inj hv
    have hpl' : (ps.map fun (i : Nat) => rawInt i).toArray[(i : Int).toNat]? = some (rawInt ps[i]) := by simp [hip]
    dsimp only
    rw [hpl']
    show wpAny _ _ (setNextDrawn S ps[i] ep >>= _) _ _ _
    refine wpAny_bind ?_
    unfold setNextDrawn
    refine wpAny_bind (wpAny_setState_of hS hd hf ?_)
    dsimp only
    rw [if_neg (show ¬ ((ep != ep) = true) by simp), he]
    refine wpAny_pure ?_
    refine wpAny_bind (wpAny_setField_rec hI (by simp) fun g1 hI1 sb1 => ?_)
    rw [ev]
    exact wpAny_pure ⟨v, rfl, wpAny_pure (hQ g1 ⟨(sb1.2 S hSI).trans hS, _, hI1, .inr (.inl ⟨bt, rfl, hTI, ps, (sb1.2 T hTI).trans hTt, hpl, hps⟩)⟩ sb1)⟩
  · have hi : i < ord.length := (List.getElem?_eq_some_iff.mp hv).1
    have i0 : i = 0 := by omega
    subst i0
    have f0 := f0 rfl
    subst f0
    have e1 : es.size = 1 := by omega
    have pz : t.place.size = 1 := by
      simp only [SetTable.fits, Bool.and_eq_true, beq_iff_eq, decide_eq_true_eq] at hf
      rw [hf.1, e1]
    obtain ⟨p, hp⟩ := array_one pz
    obtain ⟨e, he⟩ : ∃ e, es[0]? = some e := ⟨es[0], by simp [e1]⟩
    have ev : e.2 = v := by
      rw [eo] at hv
      have : (es[0]?).map (·.2) = some v := by simpa using hv
      rw [he] at this
      simpa using this
    show wpAny _ _ (setNext S 0 0 ep >>= _) _ _ _
    refine wpAny_bind ?_
    unfold setNext
    refine wpAny_bind (wpAny_setState_of hS hd hf ?_)
    refine wpAny_bind (wpAny_bind (wpAny_askSetting (wpAny_pure ?_)))
    show wpAny _ _ (if byText w = true then _ else _) _ _ _
    rw [if_neg (by rw [bt]; decide)]
    dsimp only
    split
    · rename_i hdr
      change (!t.plain && decide (es.size > 1)) = true at hdr
      rw [e1] at hdr
      simp at hdr
    · refine wpAny_bind (m := (if (!t.led && !es.isEmpty) = true then unsupported "set:maker-not-led" else pure ())) ?_
      rw [hled, bt]
      refine wpAny_pure ?_
      rw [hp, below_one]
      simp only [Nat.not_lt_zero, ↓reduceIte, he]
      refine wpAny_pure ?_
      show wpAny _ _ (setField (.ref I) 0 (rawInt ((p + 1 : Nat) : Int)) >>= _) _ _ _
      refine wpAny_bind (wpAny_setField_rec hI (by simp) fun g1 hI1 sb1 => ?_)
      refine wpAny_bind (wpAny_setField_rec (s := { s with heap := g1 }) hI1 (by simp) fun g2 hI2 sb2 => ?_)
      rw [ev]
      have sb : Heap.SameBut I s.heap g2 := sb1.trans sb2
      exact wpAny_pure ⟨v, rfl, wpAny_pure (hQ g2 ⟨(sb.2 S hSI).trans hS, _, hI2, .inr (.inr ⟨bt, by omega, eo, fun q => by omega, fun _ => ⟨p, by rw [hp]; rfl, rfl⟩⟩)⟩ sb)⟩

theorem stop_raised {α : Type} {Q : α → Shared → Prop} (hh : A.handled = none) (hE : ∀ h' e, (∀ b o, s.heap.get? b = some o → h'.get? b = some o) → (∃ o, h'.get? e = some o ∧ o.cls = .type "StopIteration") → E (.ref e) { s with heap := h' }) :
    wpAny (model prog w) A (newExc (.type "StopIteration") [] >>= fun e => (raiseNew e : Sem α)) Q E s := by
  refine wpAny_bind ?_
  simp only [newExc, newTuple]
  refine wpAny_bind (wpAny_newObj_type ?_ (by size_fits))
  refine wpAny_bind (m := firstArgMember _ _) (wpAny_of_eq (a := Value.none) (by first | rfl | (simp only [firstArgMember]; rfl)) (wpAny_newObj_type ?_ (by size_fits)))
  refine wpAny_raiseNew_none hh (hE _ _ (fun b o e => Heap.get?_push_of_some _ (Heap.get?_push_of_some _ e)) ⟨_, Heap.get?_push_size _ rfl, rfl⟩)
theorem setit_end {i : Nat} {Q : Option Value → Shared → Prop} (hh : A.handled = none) (hd : o.data = .set es ep t) (hf : t.fits es.size = true) (hled : t.led = !byText w) (st : SIt w I S T o es ep t ord i s.heap) (hi : i = ord.length) (hn : ord.length = es.size)
    (hQ : ∀ h', (∀ b o, b ≠ I → s.heap.get? b = some o → h'.get? b = some o) → Q none { s with heap := h' }) : wpAny (model prog w) A (pyNext (.ref I)) Q E s := by
  have hT := st.is
  obtain ⟨hS, first, hI, m⟩ := st
  have hh1 : A.in1.handled = none := hh
  -- what the raise comes to
  have fin : ∀ (g : Heap) (Q' : Fin → Shared → Prop), Heap.SameBut I s.heap g → wpAny (model prog w) A.in1 (newExc (.type "StopIteration") [] >>= fun e => (raiseNew e : Sem Fin)) Q' (fun e s' => wpAny (model prog w) A (do
      if (← isInstance e (.type "StopIteration")) then pure none else throw e) Q E s') { s with heap := g } := fun g Q' sb => by
    refine stop_raised hh1 fun h' e k ⟨oe, he, hc⟩ => ?_
    refine wpAny_bind (wpAny_isInstance (T := "StopIteration") (b := true) ⟨oe, he, hc⟩ isSubtype_stop (wpAny_pure (hQ h' fun b o hb q => k b o ((sb.2 b hb).trans q))))
  unfold pyNext
  refine wpAny_bind (wpAny_attempt (wpAny_callSpecial?_slot (name := Str.ofString "__next__") hT slot_setit_next (wpAny_call_entry slot_setit_next hT entry_setit_next ?_ (args_setit_next _))))
  unfold Builtin.«set_iterator.__next__»
  refine wpAny_bind (m := slotArgs _ _ _) (wpAny_pure ?_)
  refine wpAny_bind (wpAny_fieldsOf hI rfl ?_)
  show wpAny _ _ (setEntries S >>= _) _ _ _
  refine wpAny_bind (wpAny_setEntries_of hS hd hf ?_)
  rw [if_neg (by simp)]
  rcases m with ⟨bt, rfl, eo⟩ | ⟨bt, rfl, hTI, ps, hTt, hpl, hps⟩ | ⟨bt, h1, eo, f0, f1⟩
  · show wpAny _ _ (setNext S 0 i ep >>= _) _ _ _
    refine wpAny_bind ?_
    unfold setNext
    refine wpAny_bind (wpAny_setState_of hS hd hf ?_)
    refine wpAny_bind (wpAny_bind (wpAny_askSetting (wpAny_pure ?_)))
    show wpAny _ _ (if byText w = true then _ else _) _ _ _
    rw [if_pos bt]
    dsimp only
    rw [if_neg (show ¬ ((ep != ep) = true) by simp)]
    refine wpAny_bind ?_
    unfold setWalk
    refine wpAny_bind (wpAny_setState_of hS hd hf ?_)
    refine wpAny_bind (wpAny_bind (wpAny_askSetting (wpAny_pure ?_)))
    show wpAny _ _ (if byText w = true then _ else _) _ _ _
    rw [if_pos bt]
    refine wpAny_bind (wpAny_askSetting (wpAny_pure (wpAny_pure ?_)))
    have hp : (pickOrder (w.params.setOrder S ep) es)[i]? = none := by
      rw [Array.getElem?_eq_none_iff, hi, eo, List.length_map, Array.length_toList]
      exact Nat.le_refl _
    show wpAny _ _ (match ((pickOrder (w.params.setOrder S ep) es)[i]?).map fun e => (e.2, 0) with | some (x, next) => _ | none => _) _ _ _
    rw [hp]
    show wpAny _ _ (setField (.ref I) 2 .none >>= _) _ _ _
    exact wpAny_bind (wpAny_setField_rec hI (by simp) fun g1 _ sb1 => fin g1 _ sb1)
  · show wpAny _ _ (seqItems? (.ref T) >>= _) _ _ _
    refine wpAny_bind (wpAny_seqItems hTt rfl ?_)
    have hpl' : (ps.map fun (i : Nat) => rawInt i).toArray[(i : Int).toNat]? = none := by simp; omega
    dsimp only
    rw [hpl']
    show wpAny _ _ (setField (.ref I) 0 (rawInt 0) >>= _) _ _ _
    refine wpAny_bind (wpAny_setField_rec hI (by simp) fun g1 hI1 sb1 => ?_)
    exact wpAny_bind (wpAny_setField_rec (s := { s with heap := g1 }) hI1 (by simp) fun g2 _ sb2 => fin g2 _ (sb1.trans sb2))
  · have done : ∀ slot : Nat, first = rawInt slot → SetTable.below t.place slot = es.size → wpAny (model prog w) A.in1 (setNext S slot i ep) (fun a s' => a = none ∧ s' = s) (fun _ _ => False) s := by
      intro slot _ hb
      unfold setNext
      refine wpAny_bind (wpAny_setState_of hS hd hf ?_)
      refine wpAny_bind (wpAny_bind (wpAny_askSetting (wpAny_pure ?_)))
      show wpAny _ _ (if byText w = true then _ else _) _ _ _
      rw [if_neg (by rw [bt]; decide)]
      dsimp only
      split
      · rename_i hdr
        change (!t.plain && decide (es.size > 1)) = true at hdr
        have : decide (es.size > 1) = false := decide_eq_false (by omega)
        rw [this, Bool.and_false] at hdr
        cases hdr
      · refine wpAny_bind (m := (if (!t.led && !es.isEmpty) = true then unsupported "set:maker-not-led" else pure ())) ?_
        rw [hled, bt]
        refine wpAny_pure ?_
        rw [hb, show es[es.size]? = none by simp]
        exact wpAny_pure ⟨rfl, rfl⟩
    have go : ∀ slot : Nat, first = rawInt slot → SetTable.below t.place slot = es.size → wpAny (model prog w) A.in1 (setNext S slot i ep >>= fun a => match a with
          | some (x, next) => (do
            setField (.ref I) 0 (rawInt ↑next)
            setField (.ref I) 1 (rawInt (↑i + 1))
            ret x)
          | none => (do
            setField (.ref I) 2 .none
            let e ← newExc (.type "StopIteration") []
            raiseNew e)) (fun fin s' => ∃ v, fin = Fin.done (Flow.ret v) ∧ wpAny (model prog w) A (pure (some v)) Q E s') (fun e s' => wpAny (model prog w) A (do
      if (← isInstance e (.type "StopIteration")) then pure none else throw e) Q E s') s := by
      intro slot e hb
      refine wpAny_bind (wpAny_mono (done slot e hb) (fun a s' ⟨e1, e2⟩ => ?_) fun _ _ f => f.elim)
      subst e1; subst e2
      exact wpAny_bind (wpAny_setField_rec hI (by simp) fun g1 _ sb1 => fin g1 _ sb1)
    have pz : t.place.size = es.size := by
      simp only [SetTable.fits, Bool.and_eq_true, beq_iff_eq, decide_eq_true_eq] at hf
      exact hf.1
    by_cases e0 : es.size = 0
    · have i0 : i = 0 := by omega
      subst i0
      have f0 := f0 rfl
      subst f0
      refine go 0 rfl ?_
      have : t.place = #[] := Array.eq_empty_of_size_eq_zero (by omega)
      rw [this, below_none, e0]
    · have e1 : es.size = 1 := by omega
      have i1 : i = 1 := by omega
      subst i1
      obtain ⟨p, hp, f1⟩ := f1 rfl
      subst f1
      refine go (p + 1) rfl ?_
      obtain ⟨p', hp'⟩ := array_one (by rw [pz, e1] : t.place.size = 1)
      rw [hp'] at hp ⊢
      have : p' = p := by simpa using hp
      subst this
      rw [below_one, if_pos (Nat.lt_succ_self _), e1]
end
end L2
namespace L2
open PySem PySem.Spec PyProof.Rows
theorem slot_setit_iter : Slot "set_iterator" "__iter__" "set_iterator.__iter__" :=
  .of (owner := "set_iterator") (n := "__iter__") (by rw [typeLookup_type, builtinLookup_eq_fast]; kernel_rfl) (by decide +kernel) (by decide +kernel) (by decide +kernel) (by first | exact .inl (by decide +kernel) | exact .inr (by decide +kernel)) (by rw [isSubtype_type]; kernel_rfl)
theorem entry_setit_iter : entryFor table "set_iterator.__iter__" = some Builtin.«dict_keyiterator.__iter__» := entryFor_alias (id' := "dict_keyiterator.__iter__") (by kernel_rfl) rfl (by decide +kernel) (by kernel_rfl)
theorem args_setit_iter (a : Value) : argsOk "set_iterator.__iter__" ⟨[a], []⟩ := by unfold argsOk; kernel_rfl
theorem set_len_look : typeLookup (.type "set") "__len__" = pure (some (.builtin "set.__len__")) := by rw [typeLookup_type, builtinLookup_eq_fast]; kernel_rfl
section
variable {prog : Program} {w : World} {A : Around} {E : Value → Shared → Prop} {s : Shared} {I S T : Addr} {o : Obj} {es : Array (Int × Value)} {ep : Nat} {t : SetTable} {ord : List Value}
theorem walks_set (hh : A.handled = none) (hd : o.data = .set es ep t) (hf : t.fits es.size = true) (hled : t.led = !byText w) (hSI : S ≠ I) (hn : ord.length = es.size) :
    Walks prog w A I [I, S, T] [I] ord.length (fun i v => ord[i]? = some v) (fun i h => SIt w I S T o es ep t ord i h) where
  sub := by simp
  frame := fun i h h' st k => by
    obtain ⟨hS, first, hI, m⟩ := st
    refine ⟨k S (by simp) _ hS, first, k I (by simp) _ hI, ?_⟩
    rcases m with m | ⟨bt, e, hTI, ps, hTt, r⟩ | m
    · exact .inl m
    · exact .inr (.inl ⟨bt, e, hTI, ps, k T (by simp) _ hTt, r⟩)
    · exact .inr (.inr m)
  item := fun i s Q E hi st hQ => setit_item (v := ord[i]) hd hf hled hSI st (by simp [hi]) hn fun h' st' sb => hQ _ h' s.toks (by simp [hi]) st' fun b o' hb e => (sb.2 b (fun q => hb (by simp [q]))).trans e
  done := fun s Q E st hQ => setit_end hh hd hf hled st rfl hn fun h' k => hQ h' s.toks fun b o' hb e => k b o' (fun q => hb (by simp [q])) e
  self := fun i s Q E st hQ => by
    have hT := st.is
    refine wpAny_pyIter_slot hT slot_setit_iter (wpAny_call_entry slot_setit_iter hT entry_setit_iter ?_ (args_setit_iter _))
    show wpAny _ _ (ret (.ref I)) _ _ s
    exact wpAny_pure ⟨_, rfl, "set_iterator", _, hT, slot_setit_next.lookup, hQ⟩
/-- the iterator comes -/
theorem iter_set {ks : List Str} {Q : Value → Shared → Prop} (hS : SetS w S ks s.heap)
    (hQ : ∀ (I T : Addr) (o : Obj) es ep t (ord : List Value) (ss : List Str) (h' : Heap) d, (∀ b o, s.heap.get? b = some o → h'.get? b = some o) → s.heap.objs.size ≤ I → S ≠ I → (T = S ∨ s.heap.objs.size ≤ T) → T < h'.objs.size → I < h'.objs.size → o.data = .set es ep t → t.fits es.size = true → t.led = (!byText w) → ord.length = es.size →
      SIt w I S T o es ep t ord 0 h' → StrsAre ord ss → ss.Perm ks → Q (.ref I) { s with heap := h', drawn := d }) : wpAny (model prog w) A (pyIter (.ref S)) Q E s := by
  obtain ⟨o, es, ep, t, ss, ho, hex, hd, hst, hp, hnd, hel, hb, hf, hpl, hled⟩ := hS
  have hT : s.TypeIs (.ref S) "set" := ⟨o, ho, hex.1⟩
  have slt : S < s.heap.objs.size := Heap.lt_size ho
  refine wpAny_pyIter_slot hT F.slot_set_iter (wpAny_call_entry F.slot_set_iter hT entry_setIter ?_ (F.args_set_iter_1 _))
  unfold Builtin.«frozenset.__iter__»
  refine wpAny_bind (m := Builtin.Frozenset.slot0 _ _) (wpAny_bind (m := slotArgs _ _ _) (wpAny_pure (wpAny_pure ?_)))
  refine wpAny_bind (m := Builtin.Frozenset.sizeOf S) (wpAny_bind (wpAny_setEntries_of ho hd hf (wpAny_pure ?_)))
  refine wpAny_bind (m := setDrawn S) ?_
  unfold setDrawn
  refine wpAny_bind (wpAny_setState_of ho hd hf (wpAny_bind (wpAny_bind (wpAny_askSetting (wpAny_pure (wpAny_pure ?_))))))
  have fin : ∀ (first : Value) (s1 : Shared) (T : Addr) (ord : List Value), s1.heap.get? S = some o → (∃ d h1, s1 = { s with heap := h1, drawn := d }) → (∀ b o, s.heap.get? b = some o → s1.heap.get? b = some o) → T < s1.heap.objs.size → s.heap.objs.size ≤ s1.heap.objs.size → (T = S ∨ s.heap.objs.size ≤ T) → (∃ ss, StrsAre ord ss ∧ ss.Perm ks) →
      ((byText w = true ∧ first = rawInt 0 ∧ ord = (pickOrder (w.params.setOrder S ep) es).toList.map (·.2)) ∨ (byText w = false ∧ first = .ref T ∧ ∃ ps : List Nat, s1.heap.get? T = some { cls := .type "tuple", data := .seq (ps.map fun (i : Nat) => rawInt i).toArray } ∧ ps.length = ord.length ∧ ∀ (j p : Nat), ps[j]? = some p → ∃ e, es[p]? = some e ∧ ord[j]? = some e.2) ∨ (byText w = false ∧ es.size ≤ 1 ∧ ord = es.toList.map (·.2) ∧ first = rawInt 0)) → ord.length = es.size →
      wpAny (model prog w) A.in1 (do ret (← newFields "set_iterator" [first, rawInt 0, .ref S, rawInt es.size, rawInt (← setEpoch S)])) (fun fin s' => ∃ v, fin = Fin.done (Flow.ret v) ∧ ∃ T' r, s'.TypeIs v T' ∧ typeLookup (.type T') "__next__" = pure (some r) ∧ Q v s') (fun e s' => E e s') s1 := by
    intro first s1 T ord h1 ⟨d, g1, e1⟩ k1 tl sl hTT ⟨ss', q1, q2⟩ m hn
    subst e1
    refine wpAny_bind (wpAny_setEpoch_of h1 hd hf (wpAny_bind (wpAny_newObj_type ?_)))
    have gI : (g1.push { cls := .type "set_iterator", data := .fields #[first, rawInt 0, .ref S, rawInt es.size, rawInt ep] }).get? g1.objs.size = some _ := Heap.get?_push_size _ rfl
    refine wpAny_pure ⟨_, rfl, "set_iterator", _, ⟨_, gI, rfl⟩, slot_setit_next.lookup, hQ g1.objs.size T o es ep t ord ss' _ d (fun b o' e => Heap.get?_push_of_some _ (k1 b o' e)) sl (Nat.ne_of_lt (Heap.lt_size h1)) hTT (by rw [Heap.size_push]; exact Nat.lt_succ_of_lt tl) (by rw [Heap.size_push]; exact Nat.lt_succ_self _) hd hf hled hn ?_ q1 q2⟩
    refine ⟨Heap.get?_push_of_some _ h1, first, gI, ?_⟩
    rcases m with m | ⟨bt, e, ps, hTt, r⟩ | ⟨bt, h1', eo, e⟩
    · exact .inl m
    · exact .inr (.inl ⟨bt, e, Nat.ne_of_lt tl, ps, Heap.get?_push_of_some _ hTt, r⟩)
    · exact .inr (.inr ⟨bt, h1', eo, fun _ => e, fun q => absurd q (by decide)⟩)
  have lst : (es.toList.map (·.2)).length = es.size := by rw [List.length_map, Array.length_toList]
  by_cases bt : byText w = true
  · show wpAny _ _ (if (!byText w && _) = true then _ else _) _ _ _
    rw [bt, Bool.not_true, Bool.false_and, if_neg (by decide)]
    refine wpAny_bind (wpAny_pure ?_)
    have pp := (pick_perm (w.params.setOrder S ep) es).map (·.2)
    obtain ⟨ts, r1, r2⟩ := strsAre_perm hst pp
    exact fin (rawInt 0) s S _ ho ⟨s.drawn, s.heap, rfl⟩ (fun _ _ e => e) slt (Nat.le_refl _) (.inl rfl) ⟨ts, r1, r2.trans hp⟩ (.inl ⟨bt, rfl, rfl⟩) (by rw [pp.length_eq, lst])
  · have bf : byText w = false := by simpa using bt
    show wpAny _ _ (if (!byText w && (!t.plain && decide (es.size > 1))) = true then _ else _) _ _ _
    by_cases h1 : es.size > 1
    · rw [bf, hpl (by omega), decide_eq_true h1]
      simp only [Bool.not_false, Bool.and_self, ↓reduceIte]
      refine wpAny_bind (draw_ok es.size (List.range es.size) _ _ (by simp) fun ps d pps => wpAny_bind ?_)
      refine wpAny_newTuple ?_ (by rw [List.length_map, pps.length_eq, List.length_range]; exact fits_of_scanBound hb)
      have lt : ∀ p ∈ ps, p < es.size := fun p q => List.mem_range.mp (pps.mem_iff.mp q)
      have er : (List.range es.size).map (fun p => ((es[p]?).map (·.2)).getD .none) = es.toList.map (·.2) := by
        apply List.ext_getElem
        · simp
        · intro i q1 q2
          simp at q1
          simp [q1]
      have pp : (ps.map (fun p => ((es[p]?).map (·.2)).getD .none)).Perm (es.toList.map (·.2)) := by rw [← er]; exact pps.map _
      obtain ⟨ts, r1, r2⟩ := strsAre_perm hst pp
      refine fin (.ref s.heap.objs.size) { s with heap := _, drawn := d } s.heap.objs.size (ps.map (fun p => ((es[p]?).map (·.2)).getD .none)) (Heap.get?_push_of_some _ ho) ⟨d, _, rfl⟩ (fun b o' e => Heap.get?_push_of_some _ e) (by show _ < (Heap.push _ _).objs.size; rw [Heap.size_push]; exact Nat.lt_succ_self _) (by show _ ≤ (Heap.push _ _).objs.size; rw [Heap.size_push]; exact Nat.le_succ _) (.inr (Nat.le_refl _)) ⟨ts, r1, r2.trans hp⟩
        (.inr (.inl ⟨bf, rfl, ps, Heap.get?_push_size _ rfl, by rw [List.length_map], fun j p q => ?_⟩)) (by rw [pp.length_eq, lst])
      have hlt := lt p (List.mem_of_getElem? q)
      exact ⟨es[p], by simp [hlt], by simp [q, hlt]⟩
    · rw [bf, decide_eq_false h1]
      simp only [Bool.and_false, Bool.false_eq_true, ↓reduceIte]
      refine wpAny_bind (wpAny_pure ?_)
      exact fin (rawInt 0) s S _ ho ⟨s.drawn, s.heap, rfl⟩ (fun _ _ e => e) slt (Nat.le_refl _) (.inl rfl) ⟨ss, hst, hp⟩ (.inr (.inr ⟨bf, by omega, rfl, rfl⟩)) lst
/-- all that a set of texts has, collected into a list -/
theorem collect_set {ks : List Str} {Q : List Value → Shared → Prop} (hh : A.handled = none) (hS : SetS w S ks s.heap)
    (hQ : ∀ s' vs ss, StrsAre vs ss → ss.Perm ks → (∀ b o, s.heap.get? b = some o → s'.heap.get? b = some o) → s'.gens = s.gens → s'.os = s.os → s.heap.objs.size ≤ s'.heap.objs.size → Q vs s') : wpAny (model prog w) A (collect (.ref S)) Q E s := by
  have hT0 : ∃ o es ep t, s.heap.get? S = some o ∧ o.ExactSet ∧ o.data = .set es ep t ∧ t.fits es.size = true ∧ es.size < scanBound := by
    obtain ⟨o, es, ep, t, ss, ho, hex, hd, _, _, _, _, hb, hf, _⟩ := hS
    exact ⟨o, es, ep, t, ho, hex, hd, hf, hb⟩
  obtain ⟨o0, es0, ep0, t0, ho0, hex0, hd0, hf0, hb0⟩ := hT0
  unfold collect
  refine wpAny_bind (wpAny_runValue (codeAny_builtin F.entry_proto_collect ?_))
  rw [Around.under_plainId F.plain_proto_collect _]
  show wpAny _ A.in1 (newList [] >>= fun l => again (.builtin "list.__iadd__" ⟨[l, .ref S], []⟩)) _ _ s
  refine wpAny_bind (wpAny_newObj_type (wpAny_pure ⟨plainId_quiet F.plain_list_iadd _, codeAny_builtin F.entry_list_iadd ?_⟩))
  rw [Around.under_plainId F.plain_list_iadd _]
  have slt : S < s.heap.objs.size := Heap.lt_size ho0
  show wpAny _ A.in1 (Builtin.List.listExtendWith (.ref s.heap.objs.size) (.ref S) (.ref s.heap.objs.size)) _ _ _
  unfold Builtin.List.listExtendWith
  generalize hG : s.heap.push { cls := .type "list", data := .seq ([] : List Value).toArray } = G
  have gS : G.get? S = some o0 := by rw [← hG]; exact Heap.get?_push_of_some _ ho0
  have gz : G.objs.size = s.heap.objs.size + 1 := by rw [← hG, Heap.size_push]
  have gL : G.get? s.heap.objs.size = some { cls := .type "list", data := .seq ([] : List Value).toArray } := by rw [← hG]; exact Heap.get?_push_size _ rfl
  have tS : Shared.TypeIs { s with heap := G } (.ref S) "set" := ⟨o0, gS, hex0.1⟩
  refine wpAny_bind (wpAny_typeOf (T := "set") tS ?_)
  have n1 : Builtin.List.listSameRef (.ref s.heap.objs.size) (.ref S) = false := by
    show (s.heap.objs.size == S) = false
    exact beq_eq_false_iff_ne.mpr (Nat.ne_of_gt slt)
  have n2 : (Value.type "set" == Value.type "list") = false := by decide
  have n3 : (Value.type "set" == Value.type "tuple") = false := by decide
  simp only [n1, n2, n3, Bool.or_false, Bool.false_eq_true, if_false]
  have hS1 : SetS w S ks G := hS.keep fun o e => by rw [← hG]; exact Heap.get?_push_of_some _ e
  refine wpAny_bind (iter_set (s := { s with heap := G }) hS1 fun I T o es ep t ord ss h1 d k1 hI hSI hTT hTl hIl hd hf hled hn st q1 q2 => ?_)
  replace k1 : ∀ b o, G.get? b = some o → h1.get? b = some o := k1
  replace hI : G.objs.size ≤ I := hI
  have gS1 : h1.get? S = some o0 := k1 _ _ gS
  refine wpAny_bind (wpAny_holding ?_)
  unfold Builtin.List.listLengthHint
  have tS1 : Shared.TypeIs { s with heap := h1, drawn := d } (.ref S) "set" := ⟨o0, gS1, hex0.1⟩
  refine wpAny_bind (wpAny_specialOf (T := "set") tS1 set_len_look ?_)
  wp_delta
  refine wpAny_bind (wpAny_isInstance (T := "set") (b := true) tS1 (by rw [isSubtype_type]; kernel_rfl) ?_)
  show wpAny _ A.in1 (typeOf (.ref S) >>= _) _ _ _
  refine wpAny_bind (wpAny_typeOf (T := "set") tS1 (wpAny_pure ?_))
  rw [if_pos (by decide)]
  refine wpAny_bind (wpAny_rule ?_)
  have gL1 : h1.get? s.heap.objs.size = some { cls := .type "list", data := .seq ([] : List Value).toArray } := k1 _ _ gL
  refine wpAny_bind ?_
  unfold Builtin.List.listTouch
  refine wpAny_bind (listUpdate_at (s := { s with heap := h1, drawn := d }) gL1 rfl ?_ (Nat.zero_le _) (by show 1 ≤ sizeLine + 1; omega))
  have gL2 := Heap.get?_update_self (Obj.mapSeq (·.push Value.none)) gL1 rfl
  refine listUpdate_at (xs := #[Value.none]) (n := 1) (s := { s with heap := h1.update s.heap.objs.size (Obj.mapSeq (·.push Value.none)), drawn := d }) gL2 rfl ?_ (by show 1 ≤ sizeLine; decide) (by show 0 ≤ sizeLine + 1; omega)
  have gL3 := Heap.get?_update_self (Obj.mapSeq (·.pop)) gL2 rfl
  have oth : ∀ b o, b ≠ s.heap.objs.size → h1.get? b = some o → ((h1.update s.heap.objs.size (Obj.mapSeq (·.push Value.none))).update s.heap.objs.size (Obj.mapSeq (·.pop))).get? b = some o := fun b o hb e => (Heap.get?_update_other _ _ (Ne.symm hb)).trans ((Heap.get?_update_other _ _ (Ne.symm hb)).trans e)
  have neI : s.heap.objs.size ≠ I := Nat.ne_of_lt (Nat.lt_of_lt_of_le (by rw [gz]; exact Nat.lt_succ_self _) hI)
  have neT : s.heap.objs.size ≠ T := by
    rcases hTT with e | e
    · rw [e]; exact Nat.ne_of_gt slt
    · exact Nat.ne_of_lt (Nat.lt_of_lt_of_le (by show s.heap.objs.size < G.objs.size; rw [gz]; exact Nat.lt_succ_self _) e)
  have nfp : s.heap.objs.size ∉ [I, S, T] := by
    simp only [List.mem_cons, List.not_mem_nil, or_false, not_or]
    exact ⟨neI, Nat.ne_of_gt slt, neT⟩
  have hbn : ord.length ≤ sizeLine := by
    have e : es.size < scanBound := by
      obtain ⟨hS', _⟩ := st
      rw [gS1] at hS'
      cases hS'
      rw [hd0] at hd
      injection hd with e1
      rw [← e1]; exact hb0
    rw [hn]; exact fits_of_scanBound e
  have W := walks_set (prog := prog) (A := A.in1) (T := T) (show A.in1.handled = none from hh) hd hf hled hSI hn
  have st2 := W.frame 0 h1 ((h1.update s.heap.objs.size (Obj.mapSeq (·.push Value.none))).update s.heap.objs.size (Obj.mapSeq (·.pop))) st fun b hb o' e => oth b o' (fun q => nfp (q ▸ hb)) e
  refine wpAny_pure ⟨plainId_quiet F.plain_extend_loop _, codeAny_extend_loopS W.toS hbn _ nfp _ ord.length 0 _ _ _ rfl (Nat.zero_le _) st2 gL3 (ItemsOf.nil _) fun s5 acc c5 m5 gL5 hacc => ?_⟩
  show wpAny _ A (load s.heap.objs.size >>= _) _ _ s5
  refine wpAny_bind (wpAny_load gL5 (wpAny_pure ?_))
  have ea : acc.toList = ord := by
    apply List.ext_getElem?
    intro j
    by_cases hj : j < ord.length
    · have hj' : j < acc.size := by rw [hacc.1]; exact hj
      have := hacc.2 j acc[j] (by simp [hj'])
      rw [this]
      simp [hj']
    · have l1 : acc.toList.length = ord.length := by rw [Array.length_toList]; exact hacc.1
      rw [List.getElem?_eq_none (l := acc.toList) (by omega), List.getElem?_eq_none (l := ord) (by omega)]
  rw [ea]
  refine hQ s5 ord ss q1 q2 (fun b o' e => ?_) m5.gens m5.os (Nat.le_of_lt (Heap.lt_size gL5))
  have blt := Heap.lt_size e
  refine m5.heap b o' ?_ (oth b o' (Nat.ne_of_lt blt) (k1 b o' (by rw [← hG]; exact Heap.get?_push_of_some _ e)))
  simp only [List.mem_cons, List.not_mem_nil, or_false, not_or]
  exact ⟨Nat.ne_of_lt blt, Nat.ne_of_lt (Nat.lt_of_lt_of_le blt (Nat.le_trans (by rw [gz]; exact Nat.le_succ _) hI))⟩
end
end L2
namespace L2
open PySem PySem.Spec PyProof.Rows
section
variable {X : Cx} {pins : List (Addr × Obj)} {σ : St} {H : Hp} {s s' : Shared}
theorem Inv.keptS (I : Inv X pins σ H s) (k : ∀ b o, s.heap.get? b = some o → s'.heap.get? b = some o) (hg : s'.gens = s.gens) (ho : s'.os = s.os) : Inv X pins σ H s' := by
  obtain ⟨h', g', d', t', o'⟩ := s'
  replace hg : g' = s.gens := hg
  replace ho : o' = s.os := ho
  subst hg; subst ho
  refine I.step (g' := s.gens) (d' := d') (ch := []) (fun b hb => absurd hb (by simp)) (fun b o _ _ _ e _ => k b o e) (fun b o _ _ _ e _ => ⟨o.slots, k b o e⟩) (fun _ _ _ _ n => n) (fun b o _ e => ⟨o, k b o e⟩) (fun _ _ e => e) (fun _ _ _ e => e) (fun b ps e => ⟨#[], by rw [e]; simp⟩) (fun m hm => ?_) (fun b v e => ?_) I.bare
  · obtain ⟨o, es, ep, ho, r⟩ := hm
    exact ⟨o, es, ep, k _ o ho, r⟩
  · exact (I.hok b v e).stay (fun c' v' _ q => k c' v' q) (fun _ q => q) fun _ _ q => q
theorem Inv.stoodS {a : Addr} {o : HO} (I : Inv X pins σ H s) (J : Inv X pins σ H s') (ha : s.heap.objs.size ≤ a) (new : ObjOk X.prog X.w (upd H a o) s'.heap a o) : Inv X pins σ (upd H a o) s' := by
  have Hn : H a = none := I.hok.fresh ha
  have lt0 : ∀ b o, X.s₀.heap.get? b = some o → b ≠ a := fun b o e => Nat.ne_of_lt (Nat.lt_of_lt_of_le (Nat.lt_of_lt_of_le (Heap.lt_size e) I.sz) ha)
  refine ⟨J.ok, J.os, J.bare, ?_, J.loc, J.cell, ?_, ?_, ?_, ?_, J.len⟩
  · refine ⟨J.base.keep, J.base.slot, fun b o e n hx => ?_, J.base.there, fun b xs e => ?_, fun b o v e => ?_, fun b ps e => ?_⟩
    · rw [upd_ne (lt0 b o e)]; exact J.base.free b o e n hx
    · rw [upd_ne (ne_of_none (J.base.tups b xs e) Hn)]; exact J.base.tups b xs e
    · rw [upd_ne (ne_of_none (J.base.frzs b o v e) Hn)]; exact J.base.frzs b o v e
    · obtain ⟨m, q⟩ := J.base.tbls b ps e
      exact ⟨m, by rw [upd_ne (ne_of_none q Hn)]; exact q⟩
  · rw [upd_ne (Nat.ne_of_lt (Nat.lt_of_lt_of_le I.lt ha))]; exact J.free
  · intro x' c' e
    obtain ⟨v', q⟩ := I.cell x' c' e
    rw [upd_ne (Nat.ne_of_lt (Nat.lt_of_lt_of_le q.lt ha))]; exact J.freeC x' c' e
  · intro p hp
    obtain ⟨e, n, r⟩ := J.pin p hp
    refine ⟨e, ?_, r⟩
    rw [upd_ne (Nat.ne_of_lt (Nat.lt_of_lt_of_le (Heap.lt_size (I.pin p hp).1) ha))]; exact n
  · intro b v e
    by_cases hb : b = a
    · subst hb
      rw [upd_same] at e
      cases e
      exact new
    · rw [upd_ne hb] at e
      refine (J.hok b v e).stay (fun _ _ _ q => q) (fun c' q => ?_) fun c' xs q => ?_
      · rw [upd_ne (ne_of_none q Hn)]; exact q
      · rw [upd_ne (ne_of_none q Hn)]; exact q
end
section
variable {prog : Program} {w : World} {A : Around} {E : Value → Shared → Prop} {s : Shared} {S : Addr}
set_option maxHeartbeats 4000000 in
theorem sorted_set {ks : List Str} {Q : Value → Shared → Prop} (hh : A.handled = none) (hS : SetS w S ks s.heap) (h64 : ks.length < 64)
    (hQ : ∀ (s' : Shared) (l : Addr) (vs : List Value) (ss : List Str) (n : Nat), StrsAre vs ss → ss.Perm ks → sortedS ss = true → (∀ b o, s.heap.get? b = some o → s'.heap.get? b = some o) → s'.gens = s.gens → s'.os = s.os → s.heap.objs.size ≤ l → s'.heap.get? l = some { cls := .type "list", data := .seq vs.toArray n } → Q (.ref l) s') :
    wpAny (model prog w) A (call (.builtin "sorted") [.ref S]) Q E s := by
  refine Calls.call_function_entry kind_sorted plain_sorted entry_sorted (args_sorted1 _) ?_
  unfold Builtin.«sorted»
  refine wpAny_bind (m := checkCount "sorted" 1 1 _) (wpAny_pure ?_)
  refine wpAny_bind (collect_set (show A.in1.handled = none from hh) hS fun s1 vs ss q1 q2 k1 g1 o1 sle => ?_)
  have hl : vs.length < 64 := by rw [strsAre_len q1, q2.length_eq]; exact h64
  refine wpAny_bind (wpAny_newList ?_ (by rw [sizeLine_eq]; omega))
  have gL : (s1.heap.push (seqObj "list" vs.toArray 0)).get? s1.heap.objs.size = some (seqObj "list" vs.toArray 0) := Heap.get?_push_size _ rfl
  refine wpAny_bind (wpAny_holding (wpAny_call_entry slot_list_sort ⟨_, gL, rfl⟩ entry_list_sort (list_sort_treeK (s := { s1 with heap := s1.heap.push (seqObj "list" vs.toArray 0) }) strKind_oneLt gL q1.keysOf (fun v₁ v₂ rest e => keyKind_strs (by rw [← e]; exact q1)) hl fun st' hp hs => ⟨_, rfl, ?_⟩) (args_list_sort _)))
  obtain ⟨ts, r1, r2, r3⟩ := sorted_out_str q1 hp hs
  obtain ⟨n, gl⟩ : ∃ n, (sortedHeap (s1.heap.push (seqObj "list" vs.toArray 0)) s1.heap.objs.size vs ((arrOf st').map (·.2))).get? s1.heap.objs.size = some (seqObj "list" ((arrOf st').map (·.2)) n) := sortedHeap_at gL
  refine wpAny_pure ⟨_, rfl, hQ _ s1.heap.objs.size ((arrOf st').map (·.2)).toList ts n r1 (r2.trans q2) r3 (fun b o' e => ?_) g1 o1 sle ?_⟩
  rotate_left
  · show _ = some (seqObj "list" ((arrOf st').map (·.2)).toList.toArray n)
    rw [Array.toArray_toList]
    exact gl
  have e1 := k1 b o' e
  have blt := Heap.lt_size e1
  show (sortedHeap _ _ _ _).get? b = _
  rw [sortedHeap_old (Nat.ne_of_lt blt) (by rw [Heap.size_push]; exact Nat.lt_succ_of_lt blt)]
  exact Heap.get?_push_of_some _ e1
end
section
variable {X : Cx} {K : PySem.W.Frag}
theorem call_sortedS (hc : X.calm = true) : CallR X (.builtin "sorted") (fun xs H Q => ∃ a ks, xs = [.ref a] ∧ H a = some (SetO X.w a ks) ∧ ks.length < 64 ∧ ∀ l ss, H l = none → ss.Perm ks → sortedS ss = true → Q (.ref l) (upd H l (.lst (ss.map V.str)))) := by
  intro pins s σ H xs us Q I r h
  obtain ⟨a, ks, rfl, ha, hl, q⟩ := h
  obtain ⟨u, rfl, ru⟩ := vals1 r
  cases ru
  obtain ⟨S, _, _⟩ := (show ObjOk X.prog X.w H s.heap a (SetO X.w a ks) from I.hok a _ ha)
  refine sorted_set (I.ok.hd hc) S hl fun s' l vs ss n r1 r2 r3 k g o hle gl => ?_
  have hfree : H l = none := I.hok.fresh hle
  have J : Inv X pins σ H s' := I.keptS k g o
  refine ⟨.ref l, _, I.stoodS (o := .lst (ss.map V.str)) J hle ⟨?_, vs, n, vals_strs r1, gl⟩, rfl, q l ss hfree r2 r3⟩
  rw [List.length_map, r2.length_eq, sizeLine_eq]
  omega
theorem k_sortedS (h : X.w = w) (hc : X.calm = true) : CallQ X (.builtin "sorted") (fun xs H Q => ∃ a ks, xs = [.ref a] ∧ H a = some (SetO w a ks) ∧ ks.length < 64 ∧ ∀ l ss, H l = none → ss.Perm ks → sortedS ss = true → Q (.ref l) (upd H l (.lst (ss.map V.str)))) := by subst h; exact ⟨call_sortedS hc⟩
end
end L2
namespace L2
theorem seq_op {t u : TS} {D : Ends} {σ : St} {H : Hp} (h : ∀ D' : Ends, (∀ σ' H', u D σ' H' → D'.nx σ' H') → (∀ v H', D.rt v H' → D'.rt v H') → t D' σ H) : tSeq t u D σ H := h _ (fun _ _ x => x) fun _ _ x => x
theorem ends_op {t : TS} {D : Ends} {σ : St} {H : Hp} (h : ∀ D' : Ends, (∀ σ' H', D.nx σ' H' → D'.nx σ' H') → (∀ v H', D.rt v H' → D'.rt v H') → t D' σ H) : t D σ H := h _ (fun _ _ x => x) fun _ _ x => x
theorem for_enum {K : PySem.W.Frag} {a : PySem.Addr} {xs : List V} {g : TG} {tb : TS} {D : Ends} {σ : St} {H : Hp} (Pv : Nat → St → Hp → Prop) (h0 : Pv 0 σ H) (hl : ∀ i σ H, i ≤ xs.length → Pv i σ H → SqL K H a xs)
    (hs : ∀ i x T σ H, xs[i]? = some x → Pv i σ H → H T = none → g (.ref T) σ (upd H T (.tup [.int i, x])) fun σ2 H2 => tb { D with nx := Pv (i + 1), ct := Pv (i + 1), bk := D.nx } σ2 H2) (hd : ∀ σ H, Pv xs.length σ H → D.nx σ H) :
    ∃ W : Nat → Nat → St → Hp → Prop, (∃ m, W 0 m σ H) ∧ ∀ i m σ H, W i m σ H →
      ((Ite K a xs).stop i H ∧ D.nx σ H) ∨ ((Ite K a xs).go i H ∧ ∃ N : St → Hp → Prop, (∀ σ' H', N σ' H' → ∃ m', m' < m ∧ W (i + 1) m' σ' H') ∧ ∀ x H', (Ite K a xs).yld i H x H' → g x σ H' fun σ2 H2 => tb { D with nx := N, ct := N, bk := D.nx } σ2 H2) := by
  refine ⟨fun i m σ H => m = xs.length - i ∧ i ≤ xs.length ∧ Pv i σ H, ⟨xs.length, by simp, Nat.zero_le _, h0⟩, ?_⟩
  rintro i m σ H ⟨rfl, hi, p⟩
  have q := hl i σ H hi p
  by_cases lt : i < xs.length
  · refine .inr ⟨⟨q, lt⟩, Pv (i + 1), fun σ' H' p' => ⟨xs.length - (i + 1), by omega, rfl, lt, p'⟩, fun v H' y => ?_⟩
    obtain ⟨x, T, e, hT, rfl, rfl⟩ := y
    exact hs i x T σ _ e p hT
  · have e : i = xs.length := by omega
    subst e
    exact .inl ⟨⟨q, Nat.le_refl _⟩, hd σ H p⟩
section
open PySem PySem.Spec PyProof.Rows
variable {X : Cx} {K : PySem.W.Frag} {pos : Pos} {a b : Expr} {ta tb : TE}
theorem q_addI : OpQ X (binaryOp .Add) (rI0 fun i j => .int (i + j)) := ⟨op_add⟩
theorem q_mulI : OpQ X (binaryOp .Mult) (rI CMul fun i j => .int (i * j)) := ⟨op_mul⟩
theorem ixLE (h : X.K = K) (hs : PlainIx b) (ha : QE X a ta) (hb : QE X b tb) : QE X (.Subscript a b pos) (tOp (rIxL K) ta tb) := by subst h; exact ⟨pe_ix ix_list ha.h hb.h hs⟩
theorem ixSE (hs : PlainIx b) (ha : QE X a ta) (hb : QE X b tb) : QE X (.Subscript a b pos) (tOp rIxS ta tb) := ⟨pe_ix ix_str ha.h hb.h hs⟩
end
end L2
namespace Cut
open PySem L2 PyProof.Rows
def letters : Str := "abcdefghijklmnopqrstuvwxyz"
def isLet (c : Nat) : Bool := decide (c ∈ letters.cps.toList)
def okc (c : Nat) : Bool := decide (c = 46) || isLet c
def nl : Str := "\n"
theorem nl_eq : nl = ⟨#[10]⟩ := rfl
theorem okc_nl {c : Nat} (h : okc c = true) : c ≠ 10 := by
  intro e
  subst e
  revert h
  decide +kernel
/-- rows that are a cut -/
structure IsCut (rows : List Str) : Prop where
  pos : 1 ≤ rows.length
  high : rows.length ≤ 40
  wide : ∃ wd, 1 ≤ wd ∧ wd ≤ 40 ∧ ∀ r ∈ rows, r.cps.size = wd
  sign : ∀ r ∈ rows, r.cps.toList.all okc = true
  fall : ∀ (i : Nat) (r r' : Str), rows[i]? = some r → rows[i + 1]? = some r' → ∀ (j c c' : Nat), r.cps[j]? = some c → r'.cps[j]? = some c' → c' = 46 → c = 46
  some' : ∃ r ∈ rows, ∃ c ∈ r.cps.toList, c ≠ 46
theorem str_ext {x y : Str} (h : x.cps.toList = y.cps.toList) : x = y := by
  obtain ⟨⟨l⟩⟩ := x
  obtain ⟨⟨m⟩⟩ := y
  simp at h
  rw [h]
theorem join_cons (sep x y : Str) (r : List Str) : (Str.join sep (x :: y :: r)).cps.toList = x.cps.toList ++ sep.cps.toList ++ (Str.join sep (y :: r)).cps.toList := by
  show ((x.cps ++ sep.cps) ++ (Str.join sep (y :: r)).cps).toList = _
  rw [Array.toList_append, Array.toList_append]
theorem cut_at {α : Type} [DecidableEq α] {c : α} : ∀ {a b x y : List α}, c ∉ a → c ∉ b → a ++ c :: x = b ++ c :: y → a = b ∧ x = y
  | [], [], _, _, _, _, h => ⟨rfl, (List.cons.inj h).2⟩
  | [], b :: bs, _, _, _, hb, h => absurd (by rw [← (List.cons.inj h).1]; exact List.mem_cons_self) hb
  | a :: as, [], _, _, ha, _, h => absurd (by rw [(List.cons.inj h).1]; exact List.mem_cons_self) ha
  | a :: as, b :: bs, x, y, ha, hb, h => by
    obtain ⟨h1, h2⟩ := List.cons.inj h
    obtain ⟨e1, e2⟩ := cut_at (fun q => ha (List.mem_cons_of_mem _ q)) (fun q => hb (List.mem_cons_of_mem _ q)) h2
    exact ⟨by rw [h1, e1], e2⟩
theorem join_inj {c : Nat} : ∀ {ps qs : List Str}, ps ≠ [] → qs ≠ [] → (∀ p ∈ ps, c ∉ p.cps.toList) → (∀ q ∈ qs, c ∉ q.cps.toList) → (Str.join ⟨#[c]⟩ ps).cps.toList = (Str.join ⟨#[c]⟩ qs).cps.toList → ps = qs
  | [], _, h, _, _, _, _ => absurd rfl h
  | _, [], _, h, _, _, _ => absurd rfl h
  | [p], [q], _, _, _, _, e => by rw [str_ext (show p.cps.toList = q.cps.toList from e)]
  | [p], q :: q2 :: qs, _, _, hp, _, e => by
    rw [join_cons] at e
    refine absurd ?_ (hp p List.mem_cons_self)
    rw [show p.cps.toList = (Str.join ⟨#[c]⟩ [p]).cps.toList from rfl, e]
    simp
  | p :: p2 :: ps, [q], _, _, _, hq, e => by
    rw [join_cons] at e
    refine absurd ?_ (hq q List.mem_cons_self)
    rw [show q.cps.toList = (Str.join ⟨#[c]⟩ [q]).cps.toList from rfl, ← e]
    simp
  | p :: p2 :: ps, q :: q2 :: qs, _, _, hp, hq, e => by
    rw [join_cons, join_cons, List.append_assoc, List.append_assoc] at e
    obtain ⟨e1, e2⟩ := cut_at (c := c) (hp p List.mem_cons_self) (hq q List.mem_cons_self) e
    rw [str_ext e1, join_inj (by simp) (by simp) (fun x hx => hp x (List.mem_cons_of_mem _ hx)) (fun x hx => hq x (List.mem_cons_of_mem _ hx)) e2]
theorem split_join {rows : List Str} (h0 : rows ≠ []) (h : ∀ r ∈ rows, 10 ∉ r.cps.toList) : Txt.split (Str.join nl rows) nl = rows := by
  have e := StrLaws.join_split (Str.join nl rows) nl
  rw [nl_eq] at e ⊢
  refine join_inj (c := 10) ?_ h0 (StrLaws.split_free _ 10) h (by rw [e])
  intro q
  have := split_pos (Str.join ⟨#[10]⟩ rows) ⟨#[10]⟩
  rw [q] at this
  simp at this
theorem IsCut.nonl {rows : List Str} (h : IsCut rows) : ∀ r ∈ rows, 10 ∉ r.cps.toList := fun r hr hm => by
  have := List.all_eq_true.mp (h.sign r hr) 10 hm
  exact okc_nl this rfl
theorem IsCut.split {rows : List Str} (h : IsCut rows) : Txt.split (Str.join nl rows) nl = rows :=
  split_join (fun e => by have := h.pos; rw [e] at this; simp at this) h.nonl
theorem sum_le {α : Type} {f : α → Nat} {B : Nat} : ∀ {xs : List α}, (∀ x ∈ xs, f x ≤ B) → (xs.map f).sum ≤ xs.length * B
  | [], _ => by simp
  | x :: r, h => by
    have h1 := sum_le fun y hy => h y (List.mem_cons_of_mem _ hy)
    have h2 := h x List.mem_cons_self
    rw [List.map_cons, List.sum_cons, List.length_cons, Nat.succ_mul]
    omega
theorem IsCut.sum {rows : List Str} (h : IsCut rows) : (rows.map (·.length)).sum ≤ 1600 := by
  obtain ⟨wd, _, w2, h3⟩ := h.wide
  have := sum_le (f := fun r : Str => r.length) (B := 40) (xs := rows) fun r hr => by have := h3 r hr; show r.cps.size ≤ 40; omega
  have := h.high
  have h5 : rows.length * 40 ≤ 40 * 40 := Nat.mul_le_mul_right _ this
  omega
theorem IsCut.text {rows : List Str} (h : IsCut rows) : (Str.join nl rows).length ≤ 2000 := by
  have h1 := StrLaws.join_length_le nl rows
  have h2 := h.sum
  have h3 := h.high
  have h4 : nl.length = 1 := rfl
  rw [h4] at h1
  omega
def sgn (c : Nat) : Str := ⟨#[c]⟩
theorem firsts_few {cs : List Nat} (h : ∀ c ∈ cs, isLet c = true) : (firstsOf (cs.map sgn)).length ≤ 26 := by
  have hs : ∀ x ∈ firstsOf (cs.map sgn), x ∈ letters.cps.toList.map sgn := fun x hx => by
    obtain ⟨c, hc, e⟩ := List.mem_map.mp (firstsOf_mem.mp hx)
    exact List.mem_map.mpr ⟨c, of_decide_eq_true (h c hc), e⟩
  have := List.Nodup.length_le_of_subset (firstsOf_nodup (cs.map sgn)) hs
  rw [List.length_map] at this
  have e : letters.cps.toList.length = 26 := by decide +kernel
  omega
/-- the letters' signs of some rows -/
def signsOf (rows : List Str) : List Nat := (Str.join (Str.ofString "") rows).cps.toList.filter (fun c => decide (c ≠ 46))
theorem join0 : ∀ (rows : List Str), (Str.join (Str.ofString "") rows).cps.toList = (rows.map (·.cps.toList)).flatten
  | [] => rfl
  | [x] => by simp [Str.join]
  | x :: y :: r => by
    have e : (Str.ofString "").cps.toList = [] := rfl
    rw [join_cons, join0 (y :: r), e, List.append_nil]
    simp
theorem signs_let {rows : List Str} (h : ∀ r ∈ rows, r.cps.toList.all okc = true) : ∀ c ∈ signsOf rows, isLet c = true := fun c hc => by
  unfold signsOf at hc
  rw [List.mem_filter, join0] at hc
  obtain ⟨h1, h2⟩ := hc
  obtain ⟨l, hl, hm⟩ := List.mem_flatten.mp h1
  obtain ⟨r, hr, rfl⟩ := List.mem_map.mp hl
  have := List.all_eq_true.mp (h r hr) c hm
  unfold okc at this
  rw [Bool.or_eq_true] at this
  rcases this with q | q
  · exact absurd (of_decide_eq_true q) (of_decide_eq_true h2)
  · exact q
theorem IsCut.signs_ne {rows : List Str} (h : IsCut rows) : signsOf rows ≠ [] := by
  obtain ⟨r, hr, c, hc, hne⟩ := h.some'
  intro e
  have : c ∈ signsOf rows := by
    unfold signsOf
    rw [List.mem_filter, join0]
    exact ⟨List.mem_flatten.mpr ⟨_, List.mem_map.mpr ⟨r, hr, rfl⟩, hc⟩, decide_eq_true hne⟩
  rw [e] at this
  cases this
def rowB (z : Str) : Bool := (decide (1 ≤ (z.length : Int)) && decide ((z.length : Int) ≤ 40)) && z.cps.toList.all okc
def beneathB (row above : Str) : Bool := decide (row.length = above.length) && (List.zip above.cps.toList row.cps.toList).all fun p => !decide (p.2 = 46) || decide (p.1 = 46)
theorem IsCut.row {rows : List Str} (h : IsCut rows) {r : Str} (hr : r ∈ rows) : rowB r = true := by
  obtain ⟨wd, w1, w2, h3⟩ := h.wide
  have e : r.length = wd := h3 r hr
  unfold rowB
  rw [h.sign r hr, e, decide_eq_true (by omega), decide_eq_true (by omega)]
  rfl
theorem IsCut.beneath {rows : List Str} (h : IsCut rows) {i : Nat} {r r' : Str} (h1 : rows[i]? = some r) (h2 : rows[i + 1]? = some r') : beneathB r' r = true := by
  obtain ⟨wd, w1, w2, h3⟩ := h.wide
  have e1 : r.length = wd := h3 r (List.mem_of_getElem? h1)
  have e2 : r'.length = wd := h3 r' (List.mem_of_getElem? h2)
  unfold beneathB
  rw [decide_eq_true (e2.trans e1.symm), Bool.true_and, List.all_eq_true]
  intro p hp
  obtain ⟨j, hj⟩ := List.getElem?_of_mem hp
  rw [List.getElem?_zip_eq_some] at hj
  have g1 : r.cps[j]? = some p.1 := by simpa using hj.1
  have g2 : r'.cps[j]? = some p.2 := by simpa using hj.2
  have := h.fall i r r' h1 h2 j p.1 p.2 g1 g2
  by_cases q : p.2 = 46
  · rw [decide_eq_true (this q), Bool.or_true]
  · rw [decide_eq_false q]; rfl
theorem cut_of {rows : List Str} {ts : List Int} {hi wd p : Nat} (h1 : 1 ≤ hi) (h2 : hi ≤ 40) (w1 : 1 ≤ wd) (w2 : wd ≤ 40) (hl : rows.length = hi) (hp : p < wd) (htp : ts[p]? = some 0)
    (hr : ∀ (r : Nat) (z : Str), rows[r]? = some z → z.cps.size = wd ∧ ∀ (j c : Nat), z.cps[j]? = some c → ∃ t, ts[j]? = some t ∧ ((((r : Int) < t) ∧ c = 46) ∨ (¬ ((r : Int) < t) ∧ isLet c = true))) : IsCut rows := by
  have at' : ∀ z ∈ rows, ∃ r : Nat, rows[r]? = some z := fun z hz => List.getElem?_of_mem hz
  refine ⟨by omega, by omega, ⟨wd, w1, w2, fun z hz => ?_⟩, fun z hz => ?_, fun i r r' e1 e2 j c c' g1 g2 hc => ?_, ?_⟩
  · obtain ⟨r, e⟩ := at' z hz
    exact (hr r z e).1
  · obtain ⟨r, e⟩ := at' z hz
    rw [List.all_eq_true]
    intro c hc
    obtain ⟨j, hj⟩ := List.getElem?_of_mem hc
    obtain ⟨t, _, q | q⟩ := (hr r z e).2 j c (by simpa using hj)
    · rw [q.2]; decide +kernel
    · unfold okc; rw [q.2, Bool.or_true]
  · obtain ⟨t, ht, q⟩ := (hr (i + 1) r' e2).2 j c' g2
    obtain ⟨t', ht', q'⟩ := (hr i r e1).2 j c g1
    rw [ht] at ht'
    cases ht'
    rcases q with q | q
    · rcases q' with q' | q'
      · exact q'.2
      · omega
    · rw [hc] at q
      exact absurd q.2 (by decide +kernel)
  · have h0 : 0 < rows.length := by omega
    have e0 : rows[0]? = some rows[0] := by simp [h0]
    obtain ⟨hz, hc⟩ := hr 0 rows[0] e0
    have hp' : p < rows[0].cps.size := by rw [hz]; exact hp
    refine ⟨rows[0], List.getElem_mem h0, rows[0].cps[p], by simp, ?_⟩
    obtain ⟨t, ht, q⟩ := hc p rows[0].cps[p] (by simp [hp'])
    rw [htp] at ht
    cases ht
    rcases q with q | q
    · exact absurd q.1 (by decide)
    · intro e
      rw [e] at q
      exact absurd q.2 (by decide +kernel)
theorem join_signs (cs : List Nat) : (Str.join (Str.ofString "") (cs.map sgn)) = ⟨cs.toArray⟩ := by
  refine str_ext ?_
  rw [join0, List.map_map]
  show ((cs.map (fun c => [c])).flatten) = cs
  induction cs with
  | nil => rfl
  | cons c r ih => rw [List.map_cons, List.flatten_cons, ih]; rfl
theorem sgn_sum : ∀ cs : List Nat, ((cs.map sgn).map (fun x => x.length)).sum = cs.length
  | [] => rfl
  | c :: r => by
    rw [List.map_cons, List.map_cons, List.sum_cons, sgn_sum r, List.length_cons]
    show 1 + r.length = r.length + 1
    omega
end Cut
namespace Cut
open PySem L2
theorem rowB_iff {z : Str} : rowB z = true ↔ 1 ≤ z.length ∧ z.length ≤ 40 ∧ z.cps.toList.all okc = true := by
  unfold rowB
  rw [Bool.and_eq_true, Bool.and_eq_true, decide_eq_true_eq, decide_eq_true_eq]
  constructor
  · rintro ⟨⟨h1, h2⟩, h3⟩
    exact ⟨by omega, by omega, h3⟩
  · rintro ⟨h1, h2, h3⟩
    exact ⟨⟨by omega, by omega⟩, h3⟩
theorem beneathB_iff {r u : Str} : beneathB r u = true ↔ r.length = u.length ∧ ∀ (j c c' : Nat), u.cps[j]? = some c → r.cps[j]? = some c' → c' = 46 → c = 46 := by
  unfold beneathB
  rw [Bool.and_eq_true, decide_eq_true_eq, List.all_eq_true]
  constructor
  · rintro ⟨h1, h2⟩
    refine ⟨h1, fun j c c' g1 g2 hc => ?_⟩
    have z : (List.zip u.cps.toList r.cps.toList)[j]? = some (c, c') := by
      rw [List.getElem?_zip_eq_some]
      exact ⟨by simpa using g1, by simpa using g2⟩
    have := h2 _ (List.mem_of_getElem? z)
    simp only [Bool.or_eq_true, Bool.not_eq_true', decide_eq_false_iff_not, decide_eq_true_eq] at this
    rcases this with h | h
    · exact absurd hc h
    · exact h
  · rintro ⟨h1, h2⟩
    refine ⟨h1, fun p hp => ?_⟩
    obtain ⟨j, hj⟩ := List.getElem?_of_mem hp
    obtain ⟨c, c'⟩ := p
    rw [List.getElem?_zip_eq_some] at hj
    obtain ⟨g1, g2⟩ := hj
    simp only [Bool.or_eq_true, Bool.not_eq_true', decide_eq_false_iff_not, decide_eq_true_eq]
    by_cases hc : c' = 46
    · exact .inr (h2 j c c' (by simpa using g1) (by simpa using g2) hc)
    · exact .inl hc
/-- row k is not so with those above it -/
def BadAt (rows : List Str) (k : Nat) : Prop := ∃ r, rows[k]? = some r ∧ (k = 40 ∨ rowB r = false ∨ ∃ u, 0 < k ∧ rows[k - 1]? = some u ∧ beneathB r u = false)
/-- the rows ahead of i are so -/
def FineTo (rows : List Str) (i : Nat) : Prop := ∀ k, k < i → ¬ BadAt rows k
theorem FineTo.zero (rows : List Str) : FineTo rows 0 := fun _ h => absurd h (Nat.not_lt_zero _)
theorem FineTo.step {rows : List Str} {i : Nat} (h : FineTo rows i) (hn : ¬ BadAt rows i) : FineTo rows (i + 1) := fun k hk => by
  by_cases e : k = i
  · subst e; exact hn
  · exact h k (by omega)
theorem FineTo.row {rows : List Str} {i k : Nat} {r : Str} (h : FineTo rows i) (hk : k < i) (e : rows[k]? = some r) : k ≠ 40 ∧ rowB r = true ∧ ∀ u, 0 < k → rows[k - 1]? = some u → beneathB r u = true := by
  have n := h k hk
  refine ⟨fun q => n ⟨r, e, .inl q⟩, ?_, fun u hp hu => ?_⟩
  · cases q : rowB r with
    | true => rfl
    | false => exact absurd ⟨r, e, .inr (.inl q)⟩ n
  · cases q : beneathB r u with
    | true => rfl
    | false => exact absurd ⟨r, e, .inr (.inr ⟨u, hp, hu, q⟩)⟩ n
theorem FineTo.len {rows : List Str} {i : Nat} {r0 : Str} (h : FineTo rows i) (e0 : rows[0]? = some r0) : ∀ {k : Nat} {r : Str}, k < i → rows[k]? = some r → r.length = r0.length
  | 0, r, _, e => by rw [e0] at e; cases e; rfl
  | k + 1, r, hk, e => by
    have hl : k + 1 < rows.length := (List.getElem?_eq_some_iff.mp e).1
    have eu : rows[k]? = some rows[k] := by simp [show k < rows.length by omega]
    have q := (h.row hk e).2.2 rows[k] (by omega) eu
    rw [(beneathB_iff.mp q).1]
    exact FineTo.len h e0 (by omega) eu
theorem FineTo.high {rows : List Str} (h : FineTo rows rows.length) : rows.length ≤ 40 := by
  refine Nat.le_of_not_lt fun hl => ?_
  exact h 40 hl ⟨rows[40], by simp [hl], .inl rfl⟩
def AllAir (rows : List Str) : Prop := ∀ r ∈ rows, ∀ c ∈ r.cps.toList, c = 46
theorem cut_fine {rows : List Str} (h : FineTo rows rows.length) (h0 : rows ≠ []) (hs : ∃ r ∈ rows, ∃ c ∈ r.cps.toList, c ≠ 46) : IsCut rows := by
  have hp : 0 < rows.length := List.length_pos_iff.mpr h0
  have e0 : rows[0]? = some rows[0] := by simp [hp]
  have b0 := rowB_iff.mp (h.row hp e0).2.1
  have at_ : ∀ r ∈ rows, ∃ k, k < rows.length ∧ rows[k]? = some r := fun r hr => by
    obtain ⟨k, hk⟩ := List.getElem?_of_mem hr
    exact ⟨k, (List.getElem?_eq_some_iff.mp hk).1, hk⟩
  refine ⟨hp, h.high, ⟨rows[0].length, b0.1, b0.2.1, fun r hr => ?_⟩, fun r hr => ?_, fun i r r' e1 e2 j c c' g1 g2 hc => ?_, hs⟩
  · obtain ⟨k, hk, e⟩ := at_ r hr
    exact h.len e0 hk e
  · obtain ⟨k, hk, e⟩ := at_ r hr
    exact (rowB_iff.mp (h.row hk e).2.1).2.2
  · have hl : i + 1 < rows.length := (List.getElem?_eq_some_iff.mp e2).1
    exact (beneathB_iff.mp ((h.row hl e2).2.2 r (by omega) (by simpa using e1))).2 j c c' g1 g2 hc
/-- where the lowest row is air, all are -/
theorem air_up {rows : List Str} (h : FineTo rows rows.length) {l : Str} (hl : rows[rows.length - 1]? = some l) (ha : ∀ c ∈ l.cps.toList, c = 46) : AllAir rows := by
  have go : ∀ (d k : Nat) (r : Str), k + d = rows.length - 1 → rows[k]? = some r → ∀ c ∈ r.cps.toList, c = 46 := by
    intro d
    induction d with
    | zero =>
      intro k r hk e
      have : k = rows.length - 1 := by omega
      rw [this, hl] at e
      cases e
      exact ha
    | succ d ih =>
      intro k r hk e c hc
      have hk1 : k + 1 < rows.length := by omega
      have e1 : rows[k + 1]? = some rows[k + 1] := by simp [hk1]
      have q := beneathB_iff.mp ((h.row hk1 e1).2.2 r (by omega) (by simpa using e))
      obtain ⟨j, hj⟩ := List.getElem?_of_mem hc
      have hjl : j < rows[k + 1].cps.size := by
        have a : j < r.cps.toList.length := (List.getElem?_eq_some_iff.mp hj).1
        have b : r.cps.toList.length = r.cps.size := by simp
        have c : rows[k + 1].cps.size = r.cps.size := q.1
        omega
      have g2 : rows[k + 1].cps[j]? = some rows[k + 1].cps[j] := by simp [hjl]
      exact q.2 j c _ (by simpa using hj) g2 (ih (k + 1) _ (by omega) e1 _ (by simp))
  intro r hr
  obtain ⟨k, hk⟩ := List.getElem?_of_mem hr
  have hkl := (List.getElem?_eq_some_iff.mp hk).1
  exact go (rows.length - 1 - k) k r (by omega) hk
theorem signs_air {rows : List Str} (h : AllAir rows) : signsOf rows = [] := by
  unfold signsOf
  rw [List.filter_eq_nil_iff]
  intro c hc
  rw [join0] at hc
  obtain ⟨l, hl, hcl⟩ := List.mem_flatten.mp hc
  obtain ⟨r, hr, rfl⟩ := List.mem_map.mp hl
  simp [h r hr c hcl]
/-- rows that can be put together and parted again -/
structure OkRows (rows : List Str) (B : Nat) : Prop where
  pos : rows ≠ []
  high : rows.length ≤ 43
  wide : ∀ r ∈ rows, r.length ≤ B
  nonl : ∀ r ∈ rows, 10 ∉ r.cps.toList
theorem OkRows.split {rows : List Str} {B : Nat} (h : OkRows rows B) : Txt.split (Str.join nl rows) nl = rows := split_join h.pos h.nonl
theorem OkRows.sum {rows : List Str} {B : Nat} (h : OkRows rows B) (hB : B ≤ 50) : (rows.map (·.length)).sum ≤ 2150 := by
  have a := sum_le (f := fun x : Str => x.length) (B := 50) (xs := rows) (fun r hr => Nat.le_trans (h.wide r hr) hB)
  have b := h.high
  have e : (rows.map (fun x : Str => x.length)).sum = (rows.map (·.length)).sum := rfl
  omega
theorem join_len (rows : List Str) : (Str.join nl rows).length ≤ (rows.map (·.length)).sum + rows.length := by
  induction rows with
  | nil => exact Nat.le_refl _
  | cons x rest ih =>
    cases rest with
    | nil => show x.length ≤ _; simp
    | cons y r =>
      have e : (Str.join nl (x :: y :: r)).cps.toList.length = (x.cps.toList ++ nl.cps.toList ++ (Str.join nl (y :: r)).cps.toList).length := by rw [join_cons]
      have l1 : ∀ z : Str, z.cps.toList.length = z.length := fun z => by simp [Str.length]
      rw [List.length_append, List.length_append, l1, l1, l1, l1] at e
      rw [e]
      have : nl.length = 1 := rfl
      rw [List.map_cons, List.sum_cons, List.length_cons]
      omega
theorem OkRows.text {rows : List Str} {B : Nat} (h : OkRows rows B) (hB : B ≤ 50) : (Str.join nl rows).length ≤ 2200 := by
  have := join_len rows
  have := h.sum hB
  have := h.high
  omega
theorem IsCut.okRows {rows : List Str} (h : IsCut rows) : OkRows rows 41 := by
  obtain ⟨wd, w1, w2, hw⟩ := h.wide
  refine ⟨fun e => ?_, Nat.le_trans h.high (by decide), fun r hr => ?_, h.nonl⟩
  · have := h.pos
    rw [e] at this
    cases this
  · have : r.length = wd := hw r hr
    omega
theorem slice_len (z : Str) (l u : Option Int) : (Txt.slice z l u).length ≤ (PySem.Builtin.Str.strSliceIndices l u 1 z.length).length := by
  unfold Txt.slice
  split
  · rename_i h
    have h : (PySem.Builtin.Str.strSliceIndices l u 1 z.length).length = z.length := by simpa using h
    omega
  · show (List.filterMap _ (PySem.Builtin.Str.strSliceIndices l u 1 z.length)).toArray.size ≤ _
    rw [List.size_toArray]
    exact List.length_filterMap_le _ _
theorem slice_mem {z : Str} {l u : Option Int} {c : Nat} (h : c ∈ (Txt.slice z l u).cps.toList) : c ∈ z.cps.toList := by
  unfold Txt.slice at h
  split at h
  · exact h
  · have h : c ∈ (PySem.Builtin.Str.strSliceIndices l u 1 z.length).filterMap (z.cps[·]?) := by simpa using h
    obtain ⟨i, _, hi⟩ := List.mem_filterMap.mp h
    exact List.mem_of_getElem? (i := i) (by simpa using hi)
theorem slice_to {z : Str} {p : Int} (h0 : 0 ≤ p) : (Txt.slice z none (some p)).length ≤ p.toNat := by
  refine Nat.le_trans (slice_len _ _ _) ?_
  unfold PySem.Builtin.Str.strSliceIndices PySem.sliceRange
  simp only [show (1 : Int) > 0 by decide, if_true, List.length_map, List.length_range]
  split <;> (try split) <;> (try split) <;> (try simp only [Int.ediv_one]) <;> omega
theorem slice_from {z : Str} {p : Int} (h0 : 0 ≤ p) : (Txt.slice z (some p) none).length ≤ z.length - p.toNat := by
  refine Nat.le_trans (slice_len _ _ _) ?_
  unfold PySem.Builtin.Str.strSliceIndices PySem.sliceRange
  simp only [show (1 : Int) > 0 by decide, if_true, List.length_map, List.length_range]
  split <;> (try split) <;> (try split) <;> (try simp only [Int.ediv_one]) <;> omega
end Cut
namespace L2
open PySem PySem.Spec PyProof.Rows
def Up (B : Heap) (l : List Env) (e : Addr) (cls : Value) (dct : Option Addr) (fl : Option Value) (h : Heap) : Prop :=
  B.StaysIn h ∧ B.get? e = none ∧ h.FunFrames B l ∧ ∃ oe vs, h.get? e = some oe ∧ oe.cls = cls ∧ oe.dict = dct ∧ oe.data = .fields vs ∧ 1 < vs.size ∧
    match fl with
    | none => vs[1]? = some .none
    | some f => ∃ T oT ts, vs[1]? = some (.ref T) ∧ B.get? T = none ∧ T ≠ e ∧ h.get? T = some oT ∧ oT.data = .fields ts ∧ ts[3]? = some f
theorem mapF_dict (o : Obj) (f : Array Value → Array Value) : (o.mapFields f).dict = o.dict := by
  obtain ⟨c, d, dt, sl⟩ := o
  cases dt <;> rfl
section
variable {M : Model} {A : Around} {E : Value → Shared → Prop} {s : Shared} {B : Heap} {env : Env} {outer : List Env} {L e : Addr} {cls : Value} {dct : Option Addr} {Q : Unit → Shared → Prop}
theorem entry_up {oe : Obj} {vs : Array Value} {head : Value} {hadNext : Bool} (hfr : A.frames = some (env :: outer)) (hf : env.frame = some L) (st : B.StaysIn s.heap) (hen : B.get? e = none) (ff : s.heap.FunFrames B (env :: outer))
    (he : s.heap.get? e = some oe) (hd : oe.data = .fields vs) (hsz : 1 < vs.size)
    (k : ∀ h', Up B (env :: outer) e oe.cls oe.dict (some (rawInt L)) h' → s.heap.UpToSlots h' → Q () { s with heap := h' }) :
    wpAny M A (do let a ← frameOf env; let pl ← entryPlaceOf L hadNext; let b ← EntryCells.newEntry head a .none (rawInt L) .none pl; setField (.ref e) 1 b) Q E s := by
  have nfr : e ∉ (env :: outer).filterMap (·.frame) := fun hm => by
    obtain ⟨_, o, ho, hnf⟩ := ff.mem hm
    rw [he] at ho; cases ho
    exact hnf vs hd
  refine wpAny_bind (wpAny_frameOf_fun hfr ff hf fun h1 s1 => ?_)
  refine wpAny_bind (wpAny_entryPlaceOf fun pl hpl => ?_)
  unfold EntryCells.newEntry newFields
  refine wpAny_bind (wpAny_newObj_type ?_ (hpl.sizeOk5 _ _ _ _ _))
  generalize ho2 : ({ cls := .type "traceback", dict := none, data := .fields ([head, .ref L, .none, rawInt L, .none] ++ (if pl.isEmpty then List.replicate 6 Value.none else pl)).toArray } : Obj) = o2
  have e1 : h1.get? e = some oe := (s1.2.1 e nfr).trans he
  have e2 : (h1.push o2).get? e = some oe := Heap.get?_push_of_some _ e1
  refine wpAny_setField e2 hd hsz ?_
  have ne : e ≠ h1.objs.size := Nat.ne_of_lt (Heap.lt_size e1)
  have hd3 := Obj.data_mapFields hd (·.setIfInBounds 1 (Value.ref h1.objs.size))
  have e3 := Heap.get?_update_self (Obj.mapFields (·.setIfInBounds 1 (Value.ref h1.objs.size))) e2 (Obj.isFreed_of_fields hd3)
  have oth : ∀ b o, b ≠ e → h1.get? b = some o → ((h1.push o2).update e (Obj.mapFields (·.setIfInBounds 1 (Value.ref h1.objs.size)))).get? b = some o := fun b o n q => by
    rw [Heap.get?_update_other _ _ (Ne.symm n)]
    exact Heap.get?_push_of_some _ q
  have st1 : B.StaysIn h1 := fun b o q => (s1.2.1 b fun hm => by rw [(ff.mem hm).1] at q; cases q).trans (st b o q)
  have nb : ∀ b o, s.heap.get? b = some o → (∀ ws, o.data ≠ .fields ws) → b ≠ e := fun b o q hn z => by
    subst z; rw [he] at q; cases q; exact hn vs hd
  have fr2 : o2.isFreed = false := by subst ho2; rfl
  have t3 : ((h1.push o2).update e (Obj.mapFields (·.setIfInBounds 1 (Value.ref h1.objs.size)))).get? h1.objs.size = some o2 := by
    rw [Heap.get?_update_other _ _ ne]
    exact Heap.get?_push_size h1 fr2
  have hd2 : ∃ ts, o2.data = .fields ts ∧ ts[3]? = some (rawInt L) := by
    subst ho2
    exact ⟨_, rfl, by simp⟩
  obtain ⟨ts, hd2, h23⟩ := hd2
  refine k _ ⟨fun b o q => oth b o (fun z => by subst z; rw [hen] at q; cases q) (st1 b o q), hen, ff.of_keeps fun b o q hn => ?_, _, _, e3, Obj.cls_mapFields _ _, mapF_dict _ _, hd3, by simpa using hsz, h1.objs.size, o2, ts, ?_, st1.fresh, Ne.symm ne, t3, hd2, h23⟩ fun b o q hn => ?_
  · obtain ⟨sl, r⟩ := s1.2.2 b o q
    exact ⟨_, oth b _ (nb b o q hn) r, rfl⟩
  · simp [hsz]
  · obtain ⟨sl, r⟩ := s1.2.2 b o q
    exact ⟨sl, oth b _ (nb b o q hn) r⟩
/-- an exception's mark is set -/
theorem mark_up {l : List Env} {f g : Value} {oe : Obj} {vs : Array Value} {T : Addr} {oT : Obj} {ts : Array Value} (st : B.StaysIn s.heap) (hen : B.get? e = none) (ff : s.heap.FunFrames B l)
    (he : s.heap.get? e = some oe) (hd : oe.data = .fields vs) (hsz : 1 < vs.size) (h1 : vs[1]? = some (.ref T)) (hnT : B.get? T = none) (hTe : T ≠ e) (hT : s.heap.get? T = some oT) (hdT : oT.data = .fields ts) (h3 : ts[3]? = some f)
    (k : ∀ h', Up B l e oe.cls oe.dict (some g) h' → h'.get? e = some oe → s.heap.UpToSlots h' → Q () { s with heap := h' }) : wpAny M A (setField (.ref T) 3 g) Q E s := by
  have h3s : 3 < ts.size := (Array.getElem?_eq_some_iff.mp h3).1
  refine wpAny_setField hT hdT h3s ?_
  have oth : ∀ b, b ≠ T → (s.heap.update T (Obj.mapFields (·.setIfInBounds 3 g))).get? b = s.heap.get? b := fun b n => Heap.get?_update_other _ _ (Ne.symm n)
  have nb : ∀ b o, s.heap.get? b = some o → (∀ ws, o.data ≠ .fields ws) → b ≠ T := fun b o q hn z => by
    subst z; rw [hT] at q; cases q; exact hn ts hdT
  have hd3 := Obj.data_mapFields hdT (·.setIfInBounds 3 g)
  have he' := (oth e (Ne.symm hTe)).trans he
  refine k _ ⟨fun b o q => (oth b fun z => by subst z; rw [hnT] at q; cases q).trans (st b o q), hen, ff.of_keeps fun b o q hn => ⟨o, (oth b (nb b o q hn)).trans q, rfl⟩, oe, vs, he', rfl, rfl, hd, hsz, T, _, _, h1, hnT, hTe,
    Heap.get?_update_self _ hT (Obj.isFreed_of_fields hd3), hd3, by simp [h3s]⟩ he' fun b o q hn => ⟨o.slots, (oth b (nb b o q hn)).trans q⟩
theorem note_up {fl : Option Value} (hfl : fl = none ∨ fl = some .none) (hfr : A.frames = some (env :: outer)) (hf : env.frame = some L) (u : Up B (env :: outer) e cls dct fl s.heap)
    (k : ∀ h', Up B (env :: outer) e cls dct (some (rawInt L)) h' → s.heap.UpToSlots h' → Q () { s with heap := h' }) : wpAny M A (noteFrame (.ref e) env) Q E s := by
  obtain ⟨st, hen, ff, oe, vs, he, rfl, rfl, hd, hsz, r⟩ := u
  unfold noteFrame
  simp only [hf]
  rcases hfl with rfl | rfl
  · refine wpAny_bind (wpAny_field he hd r ?_)
    rw [if_neg (by decide)]
    exact entry_up hfr hf st hen ff he hd hsz k
  · obtain ⟨T, oT, ts, h1, hnT, hTe, hT, hdT, h3⟩ := r
    refine wpAny_bind (wpAny_field he hd h1 ?_)
    rw [if_pos (show (Value.ref T != Value.none) = true from by simp)]
    refine wpAny_bind (wpAny_field hT hdT h3 ?_)
    rw [if_neg (show ¬ ((Value.none == rawInt L) = true) from by simp [rawInt])]
    refine wpAny_bind (mark_up (l := env :: outer) (g := .none) st hen ff he hd hsz h1 hnT hTe hT hdT h3 fun h' u' he' sm => ?_)
    obtain ⟨st', hen', ff', _⟩ := u'
    exact entry_up (s := { s with heap := h' }) hfr hf st' hen' ff' he' hd hsz fun h2 u2 sm2 => k h2 u2 (sm.trans sm2)
theorem land_up {l : List Env} {f : Value} (u : Up B l e cls dct (some f) s.heap) (k : ∀ h', Up B l e cls dct (some .none) h' → s.heap.UpToSlots h' → Q () { s with heap := h' }) :
    wpAny M A (setFlight (.ref e) none) Q E s := by
  obtain ⟨st, hen, ff, oe, vs, he, rfl, rfl, hd, hsz, T, oT, ts, h1, hnT, hTe, hT, hdT, h3⟩ := u
  unfold setFlight
  refine wpAny_bind (wpAny_field he hd h1 ?_)
  rw [if_pos (show (Value.ref T != Value.none) = true from by simp)]
  exact mark_up st hen ff he hd hsz h1 hnT hTe hT hdT h3 fun h' u' _ sm => k h' u' sm
theorem leave_up {fl : Option Value} (hfl : fl = none ∨ fl = some .none) (hfr : A.frames = some (env :: outer)) (hf : env.frame = some L) (u : Up B (env :: outer) e cls dct fl s.heap)
    (k : ∀ h', Up B outer e cls dct (some .none) h' → s.heap.UpToSlots h' → Q () { s with heap := h' }) : wpAny M A (leaving env (.ref e)) Q E s := by
  unfold leaving
  refine wpAny_bind (note_up hfl hfr hf u fun h1 u1 sm1 => ?_)
  refine land_up (s := { s with heap := h1 }) u1 fun h2 u2 sm2 => ?_
  obtain ⟨st, hen, ⟨_, _, ff⟩, r⟩ := u2
  exact k h2 ⟨st, hen, ff, r⟩ (sm1.trans sm2)
end
end L2
namespace L2
open PySem PySem.Spec PyProof.Rows
section
variable {P : Program} {w : World} {H : Hp} {h : Heap} {a : Addr} {o : HO}
theorem ObjOk.there (x : ObjOk P w H h a o) : ∃ ob, h.get? a = some ob := by
  cases o with
  | lst xs => obtain ⟨_, _, _, _, e⟩ := x; exact ⟨_, e⟩
  | tup xs => obtain ⟨_, _, _, ob, e, _⟩ := x; exact ⟨_, e⟩
  | dK kvs => obtain ⟨_, _, _, _, o, _, _, e, _⟩ := x; exact ⟨_, e⟩
  | dT kvs => obtain ⟨_, _, _, _, o, _, _, e, _⟩ := x; exact ⟨_, e⟩
  | set S n => obtain ⟨o, _, _, _, e, _⟩ := x; exact ⟨_, e⟩
  | ins C dx fs => obtain ⟨_, _, _, e, _⟩ := x; exact ⟨_, e⟩
  | own y => obtain ⟨_, e⟩ := x; exact ⟨_, e⟩
  | xd fs => obtain ⟨_, ⟨_, _, _, e, _⟩, _⟩ := x; exact ⟨_, e⟩
  | rng lo hi => obtain ⟨_, _, _, e⟩ := x; exact ⟨_, e⟩
  | frz ob u => obtain ⟨e, _⟩ := x; exact ⟨_, e⟩
  | tbl ps => exact ⟨_, (show h.get? a = some _ from x)⟩
  | met f y => exact ⟨_, (show h.get? a = some _ from x)⟩
  | ext φ => obtain ⟨_, ⟨_, e⟩, _⟩ := x; exact ⟨_, e⟩
end

/-- an exception at ea behind a call of the state s (abstract H): its class, its dict, its mark; H': the abstract heap behind it; B: what stays as it flies on -/
structure Fl (P : Program) (w : World) (l : List Env) (H : Hp) (s : Shared) (ea : Addr) (B : Heap) (cls : Value) (dx : Option Addr) (fl : Option Value) (H' : Hp) (s' : Shared) : Prop where
  os : s'.os = s.os
  bare : AllBare s'.gens
  un : Un (frs l) [] H H' s.heap s'.heap
  hok : HOk P w H' s'.heap
  up : Up B l ea cls dx fl s'.heap
  free : H' ea = none
  new : s.heap.get? ea = none
  inB : ∀ b ob, s'.heap.get? b = some ob → ((∃ o, s.heap.get? b = some o) ∨ ∃ o, H' b = some o) → b ∉ frs l → B.get? b = some ob
  frf : ∀ b ∈ frs l, H' b = none
def CXO (P : Program) (w : World) : CXT := fun l H s E e s' => ∃ ea B cls dx H', e = .ref ea ∧ Fl P w l H s ea B cls dx (some .none) H' s' ∧ E cls dx H'
section
variable {P : Program} {w : World} {l : List Env} {H H' : Hp} {s s' : Shared} {ea : Addr} {B h' : Heap} {cls : Value} {dx : Option Addr} {fl fl' : Option Value}
theorem Fl.fly (F : Fl P w l H s ea B cls dx fl H' s') (st : B.StaysIn h') (sm : s'.heap.UpToSlots h') : Un (frs l) [] H H' s.heap h' ∧ HOk P w H' h' := by
  have fr : ∀ b ob, s'.heap.get? b = some ob → b ∈ frs l → ∃ sl, h'.get? b = some { ob with slots := sl } := fun b ob q hb => by
    obtain ⟨_, o', q', hn⟩ := F.up.2.2.1.mem hb
    rw [q] at q'; cases q'
    exact sm b ob q hn
  refine ⟨⟨fun b o q n hb hx => ?_, fun b o q n hb hx => ?_, F.un.free, fun b o q hx => ?_, F.un.tups, F.un.frzs, F.un.tbls⟩, fun b o q => ?_⟩
  · exact st b o (F.inB b o (F.un.keep b o q n hb hx) (.inl ⟨o, q⟩) hb)
  · obtain ⟨sl, e⟩ := F.un.slot b o q n hb hx
    obtain ⟨sl', e'⟩ := fr b _ e hb
    exact ⟨sl', e'⟩
  · obtain ⟨o', e⟩ := F.un.there b o q hx
    by_cases hb : b ∈ frs l
    · obtain ⟨sl, e'⟩ := fr b o' e hb
      exact ⟨_, e'⟩
    · exact ⟨o', st b o' (F.inB b o' e (.inl ⟨o, q⟩) hb)⟩
  · refine (F.hok b o q).stay (fun c u hc e => ?_) (fun _ e => e) fun _ _ e => e
    have tr : ∃ v, H' c = some v := by
      rcases hc with rfl | hc
      · exact ⟨_, q⟩
      · exact ⟨_, hc⟩
    obtain ⟨v, hv⟩ := tr
    exact st c u (F.inB c u e (.inr ⟨v, hv⟩) fun hb => by rw [F.frf c hb] at hv; cases hv)
end

section
variable {P : Program} {w : World} {K : PySem.W.Frag} {mg : Str → Option Value} {base : Heap} {N : List Str} {qual : Str} {scope : Scope} {f : Addr} {cd : Value} {A : Around} {outer : List Env} {s₀ : Shared} {H₀ : Hp} {E : XK}
end
end L2
namespace L2
open PySem PySem.Spec PyProof.Rows
abbrev tupO (vs : List Value) : Obj := { cls := .type "tuple", data := .seq vs.toArray }
abbrev excO (C t : Addr) : Obj := { cls := .ref C, data := .fields #[.ref t, .none, .none, .none, .bool false, .none] }
abbrev excH (h : Heap) (C : Addr) (vs : List Value) : Heap := (h.push (tupO vs)).push (excO C h.objs.size)
theorem excH_get (h : Heap) (C : Addr) (vs : List Value) : (excH h C vs).get? (h.objs.size + 1) = some (excO C h.objs.size) := by
  show ((h.push (tupO vs)).push _).get? _ = _
  heap_get
theorem excH_keep {h : Heap} {C : Addr} {vs : List Value} (b : Addr) (o : Obj) (e : h.get? b = some o) : (excH h C vs).get? b = some o :=
  Heap.get?_push_of_some _ (Heap.get?_push_of_some _ e)
section
variable {prog : Program} {w : World} {A : Around} {E : Value → Shared → Prop} {h : Heap} {g : Array GenState} {d : Drawn} {t : Nat} {os : OsState}
variable {nm q : Str} {C N : Addr} {bs bm bmB : List Value} {hdct : Bool} {sn : List Str} {sub : List Value} {ab : Bool} {col : Option Bool} {dd : Option Addr} {k0 k1 k2 k3 k5 : Option Value} {B newId initId : String}
theorem type_excT (F : ExcBaseFacts B newId initId bmB) (T : OwnTail h bmB bm) {mN : Str → Option Value} {rest : List Value} {fI : Addr} {oI : Obj} {Q : Fin → Shared → Prop}
    (hC : h.get? C = some (excClassObj nm q C N bs bm hdct sn sub ab col dd k0 k1 k2 k3 k5 newId)) (hn : h.Ns N mN) (hi : mN "__init__" = some (.ref fI)) (hfI : h.get? fI = some oI) (hfc : oI.cls = .type "function") (hrest : rest.length ≤ sizeLine)
    (hq : wpAny (model prog w) A (call (.ref fI) (.ref (h.objs.size + 1) :: rest)) (fun r s' => r = .none ∧ Q (.done (.ret (.ref (h.objs.size + 1)))) s') E ⟨excH h C rest, g, d, t, os⟩) :
    wpAny (model prog w) A (Builtin.«type.__call__» ⟨.ref C :: rest, []⟩) Q E ⟨h, g, d, t, os⟩ := by
  repeat (first | with_reducible refine wpAny_loadPart_at hC ?_ | with_reducible refine wpAny_madeBy_exc hC ?_ | wp_step)
  refine codeAny_call_builtin_code (Code.quiet_builtin _ F.quiet) (wpAny_check_new_subT F T hC ?_)
  refine codeAny_exc_new_subT F T hC ?_ hrest
  show wpAny _ _ _ _ _ (⟨excH h C rest, g, d, t, os⟩ : Shared)
  have c1 := excH_keep (C := C) (vs := rest) _ _ hC
  have f1 := excH_keep (C := C) (vs := rest) _ _ hfI
  have n1 : (excH h C rest).Ns N mN := hn.keeps excH_keep
  have e1 := excH_get h C rest
  have T1 := T.keeps (h' := excH h C rest) excH_keep
  have hcC : (Value.ref C :: bm).contains (.ref C) = true := by simp
  unfold isInstance
  repeat (first | with_reducible refine wpAny_loadPart_at e1 ?_ | (with_reducible refine wpAny_isSubtype_exc c1 ?_; rw [hcC]) | wp_step)
  show wpAny _ _ (typeLookup (.ref C) _) _ _ _
  refine wpAny_typeLookup_tail c1 n1 T1 F.mroIs F.init.lookup ?_
  rw [hi]
  refine wpAny_holding (wpAny_bind ?_)
  unfold bindSpecial
  refine wpAny_bind (wpAny_typeOf (T := "function") ⟨_, f1, hfc⟩ ?_)
  rw [if_pos (by decide)]
  refine wpAny_pure (wpAny_bind (wpAny_mono hq (fun r s' hr => ?_) fun _ _ x => x))
  obtain ⟨rfl, hQ⟩ := hr
  wp_walk
  exact hQ
theorem call_excT (F : ExcBaseFacts B newId initId bmB) (T : OwnTail h bmB bm) {mN : Str → Option Value} {rest : List Value} {fI : Addr} {oI : Obj} {Q : Value → Shared → Prop}
    (hC : h.get? C = some (excClassObj nm q C N bs bm hdct sn sub ab col dd k0 k1 k2 k3 k5 newId)) (hn : h.Ns N mN) (hi : mN "__init__" = some (.ref fI)) (hfI : h.get? fI = some oI) (hfc : oI.cls = .type "function") (hrest : rest.length ≤ sizeLine)
    (hq : wpAny (model prog w) (A.under (.builtin "type.__call__" ⟨.ref C :: rest, []⟩)) (call (.ref fI) (.ref (h.objs.size + 1) :: rest)) (fun r s' => r = .none ∧ Q (.ref (h.objs.size + 1)) s') E ⟨excH h C rest, g, d, t, os⟩) :
    wpAny (model prog w) A (call (.ref C) rest) Q E ⟨h, g, d, t, os⟩ := by
  have f1 := tc_lookup
  have f2 := tc_bind (.ref C)
  have hT : (⟨h, g, d, t, os⟩ : Shared).TypeIs (.ref C) "type" := ⟨_, hC, rfl⟩
  refine wpAny_call (codeAny_of_tree ?_)
  show wpAny _ _ (callAny (.ref C) _) _ _ _
  repeat (any_goals (first | assumption | with_reducible refine wpAny_loadPart_at hC ?_ | wp_step))
  refine ⟨rfl, ?_⟩
  exact codeAny_call_builtin_at (Code.quiet_builtin _ (by decide +kernel)) entry_typeCall (wpAny_check_type_call_sub hC (type_excT F T hC hn hi hfI hfc hrest hq))
end
end L2
namespace L2
open PySem PySem.Spec PyProof.Rows
abbrev veB : List Value := [.type "ValueError", .type "Exception", .type "BaseException", .type "object"]
def overVE : List Value → Bool
  | .ref c :: r => overVE r
  | l => l == veB
theorem overVE_refuse (self : Value) : ∀ {l : List Value}, overVE l = true → refuseLoop self "__setattr__" l = pure ()
  | .ref c :: r, e => by rw [refuseLoop_ref]; exact overVE_refuse self (l := r) e
  | .type n :: r, e => by
    have e' : (Value.type n :: r) = veB := by simpa [overVE] using e
    rw [e']; exact PySem.F.store_ValueError.passes self
  | [], e => by simp [overVE] at e
  | .none :: r, e => by simp [overVE] at e
  | .bool _ :: r, e => by simp [overVE] at e
  | .int _ _ :: r, e => by simp [overVE] at e
  | .str _ _ :: r, e => by simp [overVE] at e
  | .builtin _ :: r, e => by simp [overVE] at e
  | .float _ _ :: r, e => by simp [overVE] at e
  | .bytes _ _ :: r, e => by simp [overVE] at e
  | .ellipsis :: r, e => by simp [overVE] at e
  | .notImplemented :: r, e => by simp [overVE] at e
theorem overVE_has (n : String) (hn : veB.contains (.type n) = true) : ∀ {l : List Value}, overVE l = true → l.contains (.type n) = true
  | .ref c :: r, e => by rw [List.contains_cons, overVE_has n hn (l := r) e, Bool.or_true]
  | .type m :: r, e => by
    have e' : (Value.type m :: r) = veB := by simpa [overVE] using e
    rw [e']; exact hn
  | [], e => by simp [overVE] at e
  | .none :: r, e => by simp [overVE] at e
  | .bool _ :: r, e => by simp [overVE] at e
  | .int _ _ :: r, e => by simp [overVE] at e
  | .str _ _ :: r, e => by simp [overVE] at e
  | .builtin _ :: r, e => by simp [overVE] at e
  | .float _ _ :: r, e => by simp [overVE] at e
  | .bytes _ _ :: r, e => by simp [overVE] at e
  | .ellipsis :: r, e => by simp [overVE] at e
  | .notImplemented :: r, e => by simp [overVE] at e
def veOver (K : PySem.W.Frag) (C : Addr) : Bool := (PySem.W.clsIn K C).any fun cd => overVE cd.mro
section
variable {prog : Program} {w : World} {A : Around} {E : Value → Shared → Prop} {s : Shared} {K : PySem.W.Frag} {x C : Addr} {name : Str} {v : Value} {ox : Obj} {od : Option Obj}
theorem osa_ex {tk : Tok} {R : Result → Shared → Prop} (X : K.In s.heap) (I : PySem.W.InstAt s.heap x ox C od) (hp : veOver K C = true) (ha : PySem.W.findIn K (.ref C) name = some none)
    (h : wpAny (model prog w) A.in1 (Builtin.ObjectAttr.storeInOwnDict (.ref x) (.ref C) (.str name tk) name v false)
      (fun fin s' => match fin with | .done f => R (.ok f) s' | .again c' => c'.quiet = true ∧ codeAny (model prog w) A c' R s') (fun e s' => R (.error e) s') s) :
    codeAny (model prog w) A (.call (.builtin "object.__setattr__") ⟨[.ref x, .str name tk, v], []⟩) R s := by
  have SF := PySem.F.store_object
  obtain ⟨cd, hc, ho⟩ := PySem.W.any_some hp
  have ne : cd.mro.isEmpty = false := by cases q : cd.mro with | nil => rw [q] at ho; simp [overVE] at ho | cons _ _ => rfl
  have hob : cd.mro.contains (.type "object") = true := overVE_has "object" (by decide) ho
  have sub : PySem.W.Looks (model prog w) s.heap (isInstance (.ref x) (.type "object")) true := I.type.andThen (PySem.W.looks_mroIn X (by unfold PySem.W.mroIn; rw [hc, Option.bind_some, if_neg (by rw [ne]; decide), hob]))
  refine codeAny_call_builtin SF.slot.plain SF.entry (@PySem.W.check_slot (model prog w) _ _ s "object.__setattr__" "object" "__setattr__" (.ref x) [.str name tk, v] [] _ SF.kind SF.split sub (SF.args (.ref x) (.str name tk) v) ?_)
  have hm : PySem.W.Looks (model prog w) s.heap (mroOf (.ref C)) cd.mro := (PySem.W.looks_clsIn X hc).andThen .now
  rw [PySem.W.osa_eq, refuse_eq]
  refine wpAny_bind (wpAny_bind (I.type.here (wpAny_bind (hm.here ?_))))
  rw [overVE_refuse _ ho]
  refine wpAny_pure (wpAny_bind (I.type.here (wpAny_bind ((PySem.W.looks_findIn X ha).here (wpAny_bind (wpAny_pure ?_))))))
  exact h
/-- x.name = v, the first field of an exception that has no dict yet -/
theorem set_ex1 {vs : Array Value} {Q : Unit → Shared → Prop} (X : K.In s.heap) (hx : s.heap.get? x = some ox) (hcl : ox.cls = .ref C) (hdt : ox.data = .fields vs) (hdi : ox.dict = none)
    (hs : PySem.W.findIn K (.ref C) "__setattr__" = some (some (.builtin "object.__setattr__"))) (hp : veOver K C = true) (ha : PySem.W.findIn K (.ref C) name = some none) (hh : PySem.W.hasDictIn K C = true)
    (h : ∀ h', h'.get? x = some { ox with dict := some s.heap.objs.size } → h'.Ns1 s.heap.objs.size (fun y => if y = name then some v else none) → (∀ b o, b ≠ x → s.heap.get? b = some o → h'.get? b = some o) → Q () { s with heap := h', toks := s.toks + 2 }) :
    wpAny (model prog w) A (setAttr (.ref x) name v) Q E s := by
  obtain ⟨oc, odi, oda, osl⟩ := ox
  dsimp only at hcl hdt hdi
  subst hcl hdt hdi
  have J : PySem.W.InstAt s.heap x ⟨.ref C, none, .fields vs, osl⟩ C none := ⟨hx, rfl, rfl, trivial⟩
  refine PySem.W.set_plain X J hs (osa_ex (s := { s with toks := s.toks + 1 }) X J hp ha ?_)
  obtain ⟨cd, hc, hd'⟩ := PySem.W.any_some hh
  refine wpAny_bind (wpAny_pure (wpAny_bind (wpAny_bind (wpAny_loadPart hx (wpAny_bind (PySem.W.Looks.here (s := { s with toks := s.toks + 1 }) (PySem.W.looks_clsIn X hc) ?_))))))
  rw [hd']
  have hx1 : (s.heap.push { cls := .type "dict", data := .dict #[] }).get? x = some ⟨.ref C, none, .fields vs, osl⟩ := Heap.get?_push_of_some _ hx
  have hxs : x ≠ s.heap.objs.size := Nat.ne_of_lt (Heap.lt_size hx)
  refine wpAny_bind (wpAny_alloc' ?_)
  refine wpAny_bind (wpAny_update' hx1 ?_)
  refine wpAny_pure ?_
  have hgd : ((s.heap.push { cls := .type "dict", data := .dict #[] }).update x fun o => { o with dict := some s.heap.objs.size }).get? s.heap.objs.size = some { cls := .type "dict", data := .dict #[] } :=
    (Heap.get?_update_other _ _ hxs).trans (Heap.get?_push_at rfl rfl)
  have hnd : ((s.heap.push { cls := .type "dict", data := .dict #[] }).update x fun o => { o with dict := some s.heap.objs.size }).Ns s.heap.objs.size (fun _ => none) :=
    ⟨_, #[], _, hgd, rfl, fun e he => absurd he (by simp), fun _ => rfl⟩
  show wpAny _ _ (Builtin.ObjectAttr.storeInDict s.heap.objs.size (.str name _) name v) _ _ _
  unfold Builtin.ObjectAttr.storeInDict Builtin.ObjectAttr.newKeyGuard
  refine wpAny_bind (wpAny_pure (wpAny_bind (wpAny_nsSet1 (Heap.Ns1.of_empty hnd) fun h' hn' hs' => ?_)))
  obtain ⟨oD, esD, epD, hoD, hdD, hcD⟩ := hn'.count (PySem.Within.cons name v PySem.Within.nil)
  refine wpAny_bind (wpAny_lookBehind hoD (by rw [hdD]; exact pastItsLine_dict (Nat.le_trans hcD (by rw [List.length_cons, List.length_nil, sizeLine_eq]; omega))) ?_)
  refine wpAny_pure (h h' ?_ hn' fun b o hb e => ?_)
  · exact (hs'.2 x hxs).trans (Heap.get?_update_self _ hx1 rfl)
  · exact (hs'.2 b (Nat.ne_of_lt (Heap.lt_size e))).trans ((Heap.get?_update_other _ _ (Ne.symm hb)).trans (Heap.get?_push_of_some _ e))
end
end L2
namespace L2
open PySem PySem.Spec PyProof.Rows
/-- an exception of the class at C, not raised yet, its dict -/
def ExO (a C : Addr) (d : Option Addr) : HO := .ext fun h => ∃ o vs, h.get? a = some o ∧ o.cls = .ref C ∧ o.dict = d ∧ o.data = .fields vs ∧ 1 < vs.size ∧ vs[1]? = some .none
theorem ExO.ok {P : Program} {w : World} {H : Hp} {h : Heap} {a C : Addr} {d : Option Addr} {o : Obj} {vs : Array Value} (e : h.get? a = some o) (hc : o.cls = .ref C) (hd : o.dict = d) (hf : o.data = .fields vs) (hz : 1 < vs.size) (h1 : vs[1]? = some .none) :
    ObjOk P w H h a (ExO a C d) :=
  ⟨⟨o, vs, e, hc, hd, hf, hz, h1⟩, ⟨o, e⟩, fun h1 h2 ⟨o, vs, e, r⟩ k => ⟨o, vs, k o e, r⟩⟩
theorem upd_self {H : Hp} {a : Addr} {o : HO} (h : H a = some o) : upd H a o = H := by
  funext b; unfold upd; split
  · rename_i e; rw [e, h]
  · rfl

/-- what an exception class of the program must have: f: its __init__ -/
def exK (K : PySem.W.Frag) (C f : Addr) : Bool := match K.lookup C with
  | some ⟨.type "type", _, .cls cd, sl⟩ => (match cd.mro, sl.toList with
    | .ref C' :: bm, [_, _, _, _, some (.builtin n), _] => C' == C && n == "ValueError.__new__" && !cd.hasDel && PySem.W.tailIn K veB bm && PySem.W.nsOkIn K cd.ns && PySem.W.nsIn K cd.ns "__init__" == some (some (.ref f))
    | _, _ => false)
  | _ => false
theorem ns_some_of {K : PySem.W.Frag} {h : Heap} {N : Addr} {mg : Str → Option Value} {n : Str} {v : Value} (X : K.In h) (G : h.Ns N mg) (e : PySem.W.nsIn K N n = some (some v)) : mg n = some v := by
  obtain ⟨o, es, ep, ho, hd, _, hf⟩ := G
  unfold PySem.W.nsIn at e
  split at e
  · rename_i c d es' n' sl q
    have := X _ _ q
    rw [ho] at this
    cases this
    cases hd
    split at e
    · rename_i en he
      cases e
      rw [← hf]
      unfold nsFind findBy
      rw [← Array.find?_toList, he]
      rfl
    · split at e <;> cases e
  · cases e
theorem exK_of {K : PySem.W.Frag} {C f : Addr} {h : Heap} (X : K.In h) (q : exK K C f = true) : ∃ nm qn N bs bm hdct sn sub ab col dd k0 k1 k2 k3 k5 mN,
    h.get? C = some (excClassObj nm qn C N bs bm hdct sn sub ab col dd k0 k1 k2 k3 k5 "ValueError.__new__") ∧ h.Ns N mN ∧ mN "__init__" = some (.ref f) ∧ OwnTail h veB bm := by
  unfold exK at q
  split at q
  · rename_i dd cd sl ho
    split at q
    · rename_i C' bm k0 k1 k2 k3 n k5 hm hs
      simp only [Bool.and_eq_true, beq_iff_eq, Bool.not_eq_true'] at q
      obtain ⟨⟨⟨⟨⟨rfl, rfl⟩, hdel⟩, ht⟩, hok⟩, hni⟩ := q
      obtain ⟨nm, bs, mro, ns, qn, hd, sn, sub, ab, col, del⟩ := cd
      dsimp only at hm hdel hok hni
      subst hm hdel
      have hsl : sl = #[k0, k1, k2, k3, some (.builtin "ValueError.__new__"), k5] := by
        rw [← hs]
      subst hsl
      have G := PySem.Heap.Ns.of_isNs (PySem.W.isNs_of_in X hok)
      exact ⟨_, _, _, _, _, _, _, _, _, _, _, _, _, _, _, _, _, X _ _ ho, G, ns_some_of X G hni, PySem.W.tail_of_in X ht⟩
    · cases q
  · cases q
end L2
namespace L2
open PySem PySem.Spec PyProof.Rows
section
variable {X : Cx} {C f : Addr}
/-- ValueError.__init__(self, ..): the exception's args are no longer known -/
theorem call_binit (hk : exK X.K C f = true) : CallR X (.builtin "ValueError.__init__") (fun xs H Q => ∃ a d ys, xs = V.ref a :: ys ∧ ys.length ≤ 9 ∧ H a = some (ExO a C d) ∧ Q .non H) := by
  intro pins s σ H xs us Q I r h
  obtain ⟨a, d, ys, rfl, hy, ha, q⟩ := h
  cases r with
  | cons r1 r2 =>
    rename_i u ws
    obtain rfl : u = Value.ref a := r1
    obtain ⟨⟨o, vs, e, hc, hd, hf, hz, h1⟩, _⟩ := I.hok a _ ha
    obtain ⟨nm, qn, N, bs, bm, hdct, sn, sub, ab, col, dd, k0, k1, k2, k3, k5, mN, hC, hN, hi, T⟩ := exK_of I.kIn hk
    have F := PySem.F.excBase_ValueError
    have hws : ws.length ≤ sizeLine := by rw [← r2.length, sizeLine_eq]; omega
    refine wpAny_call (codeAny_call_builtin F.init.plain F.initEntry (wpAny_check_init_subT F T hC e hc ?_))
    have h0 : ∃ v0, vs[0]? = some v0 := ⟨vs[0]'(by omega), Array.getElem?_eq_getElem (by omega)⟩
    obtain ⟨v0, h0⟩ := h0
    have e1 : (s.heap.push (tupO ws)).get? a = some o := Heap.get?_push_of_some _ e
    have hd3 := Obj.data_mapFields hf (·.setIfInBounds 0 (Value.ref s.heap.objs.size))
    have e3 := Heap.get?_update_self (Obj.mapFields (·.setIfInBounds 0 (Value.ref s.heap.objs.size))) e1 (Obj.isFreed_of_fields hd3)
    have J : Inv X pins σ H { s with heap := (s.heap.push (tupO ws)).update a (Obj.mapFields (·.setIfInBounds 0 (Value.ref s.heap.objs.size))) } := by
      have := I.write (x := a) (e := a) (o := ExO a C d) (t' := s.toks) (h' := (s.heap.push (tupO ws)).update a (Obj.mapFields (·.setIfInBounds 0 (Value.ref s.heap.objs.size)))) (by rw [ha]; exact True.intro) (.inl rfl)
        (fun b u n z => by rw [Heap.get?_update_other _ _ (Ne.symm n)]; exact Heap.get?_push_of_some _ z) ⟨_, e3⟩
        (ExO.ok e3 ((Obj.cls_mapFields _ _).trans hc) ((mapF_dict _ _).trans hd) hd3 (by simpa using hz) (by rw [Array.getElem?_setIfInBounds_ne (by decide)]; exact h1))
      rw [upd_self ha] at this
      exact this
    show wpAny _ _ (do PySem.Builtin.BaseException.bexcPut (.ref a) 0 (← newTuple ws); ret .none) _ _ _
    refine wpAny_bind (wpAny_newTuple ?_ hws)
    refine wpAny_bind ?_
    unfold PySem.Builtin.BaseException.bexcPut
    refine wpAny_bind (wpAny_field e1 hf h0 ?_)
    refine wpAny_bind (wpAny_setField e1 hf (by omega) ?_)
    cases v0 with
    | ref b => exact wpAny_letGo (wpAny_pure ⟨.non, H, J, rfl, q⟩)
    | _ => exact wpAny_pure (wpAny_pure ⟨.non, H, J, rfl, q⟩)
end
end L2
namespace L2
open PySem PySem.Spec PyProof.Rows
section
variable {X : Cx} {pins : List (Addr × Obj)} {σ : St} {H : Hp} {s s' : Shared}
theorem Inv.stood2 {H0 : Hp} {a : Addr} {o : HO} (I : Inv X pins σ H0 s) (J : Inv X pins σ H s') (Hn : H a = none) (ha : s.heap.objs.size ≤ a) (new : ObjOk X.prog X.w (upd H a o) s'.heap a o) : Inv X pins σ (upd H a o) s' := by
  have lt0 : ∀ b o, X.s₀.heap.get? b = some o → b ≠ a := fun b o e => Nat.ne_of_lt (Nat.lt_of_lt_of_le (Nat.lt_of_lt_of_le (Heap.lt_size e) I.sz) ha)
  refine ⟨J.ok, J.os, J.bare, ?_, J.loc, J.cell, ?_, ?_, ?_, ?_, J.len⟩
  · refine ⟨J.base.keep, J.base.slot, fun b o e n hx => ?_, J.base.there, fun b xs e => ?_, fun b o v e => ?_, fun b ps e => ?_⟩
    · rw [upd_ne (lt0 b o e)]; exact J.base.free b o e n hx
    · rw [upd_ne (ne_of_none (J.base.tups b xs e) Hn)]; exact J.base.tups b xs e
    · rw [upd_ne (ne_of_none (J.base.frzs b o v e) Hn)]; exact J.base.frzs b o v e
    · obtain ⟨m, q⟩ := J.base.tbls b ps e
      exact ⟨m, by rw [upd_ne (ne_of_none q Hn)]; exact q⟩
  · rw [upd_ne (Nat.ne_of_lt (Nat.lt_of_lt_of_le I.lt ha))]; exact J.free
  · intro x' c' e
    obtain ⟨v', q⟩ := I.cell x' c' e
    rw [upd_ne (Nat.ne_of_lt (Nat.lt_of_lt_of_le q.lt ha))]; exact J.freeC x' c' e
  · intro p hp
    obtain ⟨e, n, r⟩ := J.pin p hp
    refine ⟨e, ?_, r⟩
    rw [upd_ne (Nat.ne_of_lt (Nat.lt_of_lt_of_le (Heap.lt_size (I.pin p hp).1) ha))]; exact n
  · intro b v e
    by_cases hb : b = a
    · subst hb
      rw [upd_same] at e
      cases e
      exact new
    · rw [upd_ne hb] at e
      refine (J.hok b v e).stay (fun _ _ _ q => q) (fun c' q => ?_) fun c' xs q => ?_
      · rw [upd_ne (ne_of_none q Hn)]; exact q
      · rw [upd_ne (ne_of_none q Hn)]; exact q
end
/-- the class at D hands out ValueError's __init__ -/
structure BInit (K : PySem.W.Frag) (D : Addr) : Prop where
  ga : PySem.W.specialIn K (.ref D) "__getattribute__" = some (some (.builtin "type.__getattribute__"))
  rd : PySem.W.readsIn K D (.type "type") = true
  at_ : PySem.W.findCls K (.ref D) (.type "type") "__init__" = some (.val (.builtin "ValueError.__init__"))
/-- what the class at C must have for its field to be set and read -/
structure XFld (K : PySem.W.Frag) (C : Addr) (f : Str) : Prop where
  sa : PySem.W.findIn K (.ref C) "__setattr__" = some (some (.builtin "object.__setattr__"))
  ov : veOver K C = true
  no : PySem.W.findIn K (.ref C) f = some none
  hd : PySem.W.hasDictIn K C = true
section
variable {X : Cx} {C D f : Addr} {x nm : Str} {p pos pos' apos : Pos} {e o value : Expr} {es : List Expr} {t : TA} {ta tv : TE} {r : List V → Hp → VK → Prop}
theorem pe_binit {pl : Sem Bool} (hg : Gl X x) (hm : X.mg x = some (.ref D)) (B : BInit X.K D) (hc : CallR X (.builtin "ValueError.__init__") r) (ha : PA X (e :: es) t) (hdb : (x == ("__debug__" : Str)) = false := by decide)
    (he : starEach (e :: es) X.env = (false, eval e X.env) :: starEach es X.env := by rfl) (hpl : (backTo pos (starEach es X.env)).any (·.1) = false := by rfl)
    (ht : eval (.Call (.Attribute (.Name x p) "__init__" apos) (e :: es) [] pos) X.env = (do
      let ov ← eval (.Name x p) X.env
      standAt apos.atName
      let (f, first) ← holding [ov] (getMethod ov "__init__" pl)
      callWith pos f first (backTo pos (starEach (e :: es) X.env)) (backToKw pos (keywordEach [] X.env))) := by rfl) :
    PE X (.Call (.Attribute (.Name x p) "__init__" apos) (e :: es) [] pos) (tCB r t) := by
  intro pins s σ H Q I h
  refine PySem.W.methodCall_KW (pl := pl) (ld_glob I hg hm ?_ hdb) ht
  refine PySem.W.method_cls I.kIn B.ga (PySem.W.cls_value I.kIn B.rd B.at_ (by decide) ?_)
  exact PyProof.Rows.callWith_builtin1 (thn (ha pos pins _ σ H _ (I.tok _) h) fun us s1 ⟨vs, H1, I1, r1, q1⟩ => hc pins s1 σ H1 vs us Q I1 r1 q1) he hpl
/-- o.f = value, the first field of an exception; its dict is new -/
def sFldX (K : PySem.W.Frag) (C : Addr) (ta tv : TE) (f : Str) : TS := fun D σ H => tv σ H fun y H1 => ta σ H1 fun x H2 => ∃ a, x = .ref a ∧ H2 a = some (ExO a C none) ∧
  ∀ d, H2 d = none → d ≠ a → D.nx σ (upd (upd H2 a (ExO a C (some d))) d (.xd [(f, y)]))
theorem ps_fldX (c : XFld X.K C nm) (ha : PE X o ta) (hv : PE X value tv) (hs : swapsWith value (some (.Attribute o nm pos')) pos.line X.env = pure false) : PS X (.Assign [.Attribute o nm pos'] value pos) (sFldX X.K C ta tv nm) := by
  intro pins s σ H D I h
  refine plainObj_wpAny_Assign_Attribute (thn (hv pins s σ H _ I h) fun u s1 ⟨y, H1, I1, ry, q⟩ => thn (ha pins s1 σ H1 _ I1 q) fun ov s2 ⟨x, H2, I2, rx, a, ex, ea, q2⟩ => ?_) hs
  subst ex
  obtain rfl : ov = Value.ref a := rx
  obtain ⟨⟨ob, vs, e, hc, hd, hf, hz, h1⟩, _⟩ := I2.hok a _ ea
  have hna : s2.heap.objs.size ≠ a := Nat.ne_of_gt (Heap.lt_size e)
  have Hn : H2 s2.heap.objs.size = none := I2.hok.fresh (Nat.le_refl _)
  refine set_ex1 I2.kIn e hc hf hd c.sa c.ov c.no c.hd fun h' e' n' k => ?_
  refine ⟨σ, _, ?_, q2 s2.heap.objs.size Hn hna⟩
  -- first the exception, then its dict, which is new
  have I3 := I2.write (x := a) (e := a) (o := ExO a C (some s2.heap.objs.size)) (t' := s2.toks + 2) (h' := h') (by rw [ea]; exact True.intro) (.inl rfl) (fun b u n z => k b u n z) ⟨_, e'⟩ (ExO.ok e' hc rfl hf hz h1)
  refine Inv.stood2 (a := s2.heap.objs.size) (o := .xd [(nm, y)]) (s := s2) I2 I3 (by rw [upd_ne hna]; exact Hn) (Nat.le_refl _) ⟨_, n', fun g => ?_⟩
  show RelO (List.lookup g [(nm, y)]) (if g = nm then some u else none)
  by_cases z : g = nm
  · rw [if_pos z, z]
    simp only [List.lookup, beq_self_eq_true]
    exact ry
  · rw [if_neg z]
    have z' : (g == nm) = false := by simpa using z
    simp only [List.lookup, z']
    exact True.intro
end
end L2
namespace L2
open PySem PySem.Spec PyProof.Rows
/-- {e}, a text or a number below 2^64 -/
def tFmt (te : TE) : TE := fun σ H Q => te σ H fun v H1 => (∃ i : Int, v = .int i ∧ i.natAbs < 2 ^ 64 ∧ Q (.str (toString i)) H1) ∨ ∃ y : Str, v = .str y ∧ y.length ≤ sizeLine ∧ Q (.str y) H1
/-- the parts, from the left; out: what stands before them -/
def tParts : List TE → Str → TE
  | [], out => fun σ H Q => out.length ≤ sizeLine ∧ Q (.str out) H
  | t :: ts, out => fun σ H Q => t σ H fun v H1 => ∃ y : Str, v = .str y ∧ (out ++ y).length ≤ sizeLine ∧ tParts ts (out ++ y) σ H1 Q
inductive PJ (X : Cx) : List Expr → List TE → Prop
  | nil : PJ X [] []
  | cons {e : Expr} {es : List Expr} {t : TE} {ts : List TE} : PE X e t → PJ X es ts → PJ X (e :: es) (t :: ts)
section
variable {X : Cx} {e v1 v2 : Expr} {rest : List Expr} {te t1 t2 : TE} {ts : List TE} {pos : Pos}
theorem pe_fmt (he : PE X e te) : PE X (.FormattedValue e (-1) none pos) (tFmt te) := by
  intro pins s σ H Q I h
  refine FormattedValue_plain (thn (he pins s σ H _ I h) fun u s1 ⟨v, H1, I1, r, q⟩ => ?_)
  rcases q with ⟨i, rfl, hi, q⟩ | ⟨y, rfl, hy, q⟩
  · obtain ⟨t, rfl⟩ := (show ∃ t, u = Value.int i t from r)
    have hl : i.natAbs.log2 < 1920 := by
      by_cases z : i.natAbs = 0
      · rw [z]; decide
      · exact (Nat.log2_lt z).mpr (Nat.lt_of_lt_of_le hi (Nat.pow_le_pow_right (by decide) (by decide)))
    exact formatField_int_small hl ⟨V.str (toString i), H1, I1.tok _, ⟨_, rfl⟩, q⟩
  · obtain ⟨t, rfl⟩ := (show ∃ t, u = Value.str y t from r)
    exact formatField_str (fun t' tk => ⟨.str y, H1, I1.tok _, ⟨_, rfl⟩, q⟩) hy
theorem parts_ok {es : List Expr} (h : PJ X es ts) : ∀ (out : Str) (pins : List (Addr × Obj)) (s : Shared) (σ : St) (H : Hp) (Q : VK), Inv X pins σ H s → tParts ts out σ H Q →
    wpAny (model X.prog X.w) X.A (joinParts out (evalEach es X.env)) (EP X pins σ Q) X.xe s := by
  induction h with
  | nil => exact fun out pins s σ H Q I ⟨hz, q⟩ => joinParts_nil ⟨.str out, H, I.tok _, ⟨_, rfl⟩, q⟩ hz
  | cons he _ ih =>
    intro out pins s σ H Q I q
    refine joinParts_cons (thn (he pins s σ H _ I q) fun u s1 ⟨v, H1, I1, r, y, ev, hz, q1⟩ => ?_)
    subst ev
    obtain ⟨t, rfl⟩ := (show ∃ t, u = Value.str y t from r)
    exact ⟨hz, ih _ pins s1 σ H1 Q I1 q1⟩
theorem pe_fstr (h : PJ X (v1 :: v2 :: rest) ts) : PE X (.JoinedStr (v1 :: v2 :: rest) pos) (tParts ts Str.empty) := fun pins s σ H Q I q =>
  JoinedStr_many (parts_ok h _ pins s σ H Q I q)
end
end L2
namespace L2
open PySem PySem.Spec PyProof.Rows
/-- C(..): a new exception, then its __init__, which raises nothing -/
def tMakeX (C : Addr) (sp : Sp) (t : TA) : TE := fun σ H Q => t σ H fun vs H1 => vs.length ≤ 9 ∧ ∀ x, H1 x = none → sp (.ref x :: vs) (upd H1 x (ExO x C none)) (fun v H2 => v = .non ∧ Q (.ref x) H2) E0
/-- what an exception class must have to be made -/
structure MkX (K : PySem.W.Frag) (C f : Addr) : Prop where
  ex : exK K C f = true
  fn : (K.lookup f).map (·.cls) = some (.type "function")
  kp : PySem.W.keepIn K (.ref C) = true
section
variable {X : Cx} {k : Nat} {f C : Addr} {fd : FuncData} {ps : List Str} {sp : Sp} {x : Str} {p pos cpos : Pos} {e : Expr} {es : List Expr} {te : TE} {t : TA}
theorem run_makeX {pins : List (Addr × Obj)} {σ : St} {H : Hp} {s : Shared} {Q : VK} {us : List Value} {vs : List V} (M : MkX X.K C f) (F : FnOk X.prog X.w X.K X.mg X.base CX0 k f fd ps sp) (hr : Room (k + 1) X.A) (hb : Binds X.K fd ps [])
    (I : Inv X pins σ H s) (r : Vals vs us) (hv : vs.length ≤ 9)
    (h : ∀ x, H x = none → sp (.ref x :: vs) (upd H x (ExO x C none)) (fun v H2 => v = .non ∧ Q (.ref x) H2) E0) :
    wpAny (model X.prog X.w) X.A (call (.ref C) us) (EP X pins σ Q) X.xe s := by
  obtain ⟨hp, g, d, tk, os⟩ := s
  obtain ⟨nm, qn, N, bs, bm, hdct, sn, sub, ab, col, dd, k0, k1, k2, k3, k5, mN, hC, hN, hi, T⟩ := exK_of I.kIn M.ex
  obtain ⟨oI, hl, hfc⟩ := Option.map_eq_some_iff.mp M.fn
  have hus : us.length ≤ sizeLine := by rw [← r.length, sizeLine_eq]; omega
  refine call_excT PySem.F.excBase_ValueError T hC hN hi (I.kIn _ _ hl) hfc hus ?_
  have J : Inv X pins σ H ⟨excH hp C us, g, d, tk, os⟩ := I.keptS excH_keep rfl rfl
  have I2 : Inv X pins σ (upd H (hp.objs.size + 1) (ExO (hp.objs.size + 1) C none)) ⟨excH hp C us, g, d, tk, os⟩ :=
    I.stoodS J (Nat.le_succ _) (ExO.ok (excH_get hp C us) rfl rfl rfl (by simp) rfl)
  have hq := h (hp.objs.size + 1) (I.hok.fresh (Nat.le_succ _))
  have r2 : Vals (V.ref (hp.objs.size + 1) :: vs) (Value.ref (hp.objs.size + 1) :: us) := .cons rfl r
  have hlen : (Value.ref (hp.objs.size + 1) :: us ++ []).length = ps.length := by
    rw [List.append_nil, ← r2.length]
    exact F.len _ _ _ _ hq
  have hb' := hb ⟨excH hp C us, g, d, tk, os⟩ (Value.ref (hp.objs.size + 1) :: us) I2.kIn hlen
  rw [List.append_nil] at hb'
  refine wpAny_call (codeAny_mono (F.run _ X.stack _ _ ⟨Value.ref (hp.objs.size + 1) :: us, []⟩ (Value.ref (hp.objs.size + 1) :: us) _ _ E0 (hr.make C us []) (I2.env0.make C us []) hb' r2 hq) fun r s' hq' => ?_)
  cases r with
  | error e => exact False.elim hq'
  | ok fl =>
    cases fl with
    | ret u =>
      obtain ⟨v, H', I3, rv, ev, q3⟩ := I2.after hq'
      subst ev
      exact ⟨rv, ⟨V.ref (hp.objs.size + 1), H', I3, rfl, q3⟩⟩
    | next => exact False.elim hq'
    | brk => exact False.elim hq'
    | cont => exact False.elim hq'
theorem pe_makeX (M : MkX X.K C f) (F : FnOk X.prog X.w X.K X.mg X.base CX0 k f fd ps sp) (hr : Room (k + 1) X.A) (hg : Gl X x) (hm : X.mg x = some (.ref C)) (hb : Binds X.K fd ps [])
    (ha : PA X (e :: es) t) (hdb : (x == ("__debug__" : Str)) = false := by decide) (he : starEach (e :: es) X.env = (false, eval e X.env) :: starEach es X.env := by rfl) (hpl : (backTo pos (starEach es X.env)).any (·.1) = false := by rfl) :
    PE X (.Call (.Name x p) (e :: es) [] pos) (tMakeX C sp t) := by
  intro pins s σ H Q I h
  refine wpAny_Call_Name_kw (ld_glob I hg hm ?_ hdb)
  refine PySem.W.callWith_K (h₀ := X.base) I.ok.mod.kin M.kp (thn (ha pos pins s σ H _ I h) fun us s1 ⟨vs, H1, I1, r, hv, q⟩ => ⟨I1.kIn, ?_⟩) he hpl
  exact run_makeX M F hr hb I1 r hv q
/-- raise e, e an exception that was just made: what is wanted where it leaves -/
def sRaise (C : Addr) (te : TE) (W : Addr → Hp → Prop) : TS := fun _ σ H => te σ H fun v H1 => ∃ a d, v = .ref a ∧ H1 a = some (ExO a C (some d)) ∧ W a H1
theorem ps_raise {W : Addr → Hp → Prop} (hk : exK X.K C f = true) (hc : X.calm = true) (he : PE X e te)
    (hW : ∀ (pins : List (Addr × Obj)) (σ : St) (H : Hp) (s : Shared) (a d : Addr), Inv X pins σ H s → H a = some (ExO a C (some d)) → W a H → X.xe (.ref a) s) : PS X (.Raise (some e) none pos) (sRaise C te W) := by
  intro pins s σ H D I h
  show wpAny _ X.A (do standAt pos; raiseStmt X.env (some (do let v ← eval e X.env; standAt pos; pure v)) none) _ _ s
  refine wpAny_bind (wpAny_standAt ?_)
  unfold raiseStmt
  refine wpAny_bind (wpAny_bind (thn (he pins s σ H _ I h) fun u s1 ⟨v, H1, I1, r, a, d, ev, ha, q⟩ => wpAny_bind (wpAny_standAt (wpAny_pure ?_))))
  subst ev
  obtain rfl : u = Value.ref a := r
  obtain ⟨⟨oe, vs, ea, hcl, hd, hf, hz, h1⟩, _⟩ := I1.hok a _ ha
  obtain ⟨nm, qn, N, bs, bm, hdct, sn, sub, ab, col, dd, k0, k1, k2, k3, k5, mN, hC, hN, hi, T⟩ := exK_of I1.kIn hk
  have hcB : (Value.ref C :: bm).contains (.type "BaseException") = true := by rw [List.contains_cons, T.hasType (b := true) (by decide), Bool.or_true]
  have hE := hW pins σ H1 s1 a d I1 ha q
  obtain ⟨hp, g, dr, tk, os⟩ := s1
  obtain ⟨oc, od, odt, osl⟩ := oe
  dsimp only at hcl hd hf
  subst hcl hd hf
  have hh : X.A.handled = none := I1.ok.hd hc
  repeat (first | with_reducible refine wpAny_loadPart_at ea ?_ | with_reducible refine wpAny_loadPart_at hC ?_ | (with_reducible refine wpAny_isSubtype_exc hC ?_; rw [hcB]) | wp_step)
  rw [h1]
  refine wpAny_pure ?_
  rw [if_neg (by decide)]
  exact wpAny_pure (wpAny_raiseNew_none hh hE)
end
/-- without what stands at a -/
def drop (H : Hp) (a : Addr) : Hp := fun b => if b = a then none else H b
theorem drop_same {H : Hp} {a : Addr} : drop H a a = none := by unfold drop; rw [if_pos rfl]
theorem drop_ne {H : Hp} {a b : Addr} (h : b ≠ a) : drop H a b = H b := by unfold drop; rw [if_neg h]
/-- raise C(..) in a def: the exception leaves it -/
theorem ps_raiseD {P : Program} {w : World} {K : PySem.W.Frag} {mg : Str → Option Value} {base : Heap} {N : List Str} {qual : Str} {scope : Scope} {f' : Addr} {cd : Value} {A : Around} {outer : List Env} {s₀ : Shared} {H₀ : Hp} {E : XK}
    {C f : Addr} {e : Expr} {te : TE} {pos : Pos} (hk : exK K C f = true) (he : PE (cxOf (CXO P w) P w K mg base N qual scope f' cd A outer s₀ H₀ E) e te) :
    PS (cxOf (CXO P w) P w K mg base N qual scope f' cd A outer s₀ H₀ E) (.Raise (some e) none pos) (sRaise C te fun a H => ∃ d, H a = some (ExO a C (some d)) ∧ H₀ a = none ∧ E (.ref C) (some d) (drop H a)) := by
  refine ps_raise hk rfl he fun pins σ H s a d₁ I _ ⟨d, ha, hn, q⟩ => ?_
  obtain ⟨⟨oe, vs, ea, hcl, hd, hf, hz, h1⟩, _⟩ := I.hok a _ ha
  have ST := I.stack
  have SF := I.stkFree
  have L0 : s₀.heap.objs.size ≤ (envOfC qual scope s₀.heap.objs.size f' cd).locals := Nat.le_refl _
  show wpAny (model P w) (A.deeper (envOfC qual scope s₀.heap.objs.size f' cd)) (leaving (envOfC qual scope s₀.heap.objs.size f' cd) (.ref a)) _ _ s
  have naf : a ∉ frs (envOfC qual scope s₀.heap.objs.size f' cd :: outer) := fun z => by
    have := SF a z
    rw [ha] at this; cases this
  have up : Up (PySem.W.hideAll s.heap (a :: frs (envOfC qual scope s₀.heap.objs.size f' cd :: outer))) (envOfC qual scope s₀.heap.objs.size f' cd :: outer) a (.ref C) (some d) none s.heap :=
    ⟨fun b o z => PySem.W.of_hideAll _ z, PySem.W.hideAll_none _ (List.mem_cons.mpr (.inl rfl)), PySem.W.funFrames_hide ST fun en hen b hb => List.mem_cons.mpr (.inr (List.mem_filterMap.mpr ⟨en, hen, hb⟩)), oe, vs, ea, hcl, hd, hf, hz, h1⟩
  refine leave_up (.inl rfl) I.ok.frames rfl up fun h' u sm => ?_
  have inB : ∀ b o, s.heap.get? b = some o → b ≠ a → b ∉ frs (envOfC qual scope s₀.heap.objs.size f' cd :: outer) → h'.get? b = some o ∧ (PySem.W.hideAll s.heap (a :: frs (envOfC qual scope s₀.heap.objs.size f' cd :: outer))).get? b = some o := fun b o z n1 n2 => by
    have hB := PySem.W.hideAll_get (a :: frs (envOfC qual scope s₀.heap.objs.size f' cd :: outer)) z fun m => (List.mem_cons.mp m).elim n1 n2
    exact ⟨u.1 b o hB, hB⟩
  have frS : ∀ b o, s.heap.get? b = some o → b ∈ frs (envOfC qual scope s₀.heap.objs.size f' cd :: outer) → ∃ sl, h'.get? b = some { o with slots := sl } := fun b o z hb => by
    obtain ⟨_, o', z', hn'⟩ := ST.mem hb
    rw [z] at z'; cases z'
    exact sm b o z hn'
  have nL : ∀ b o, s₀.heap.get? b = some o → b ∉ frs outer → b ∉ frs (envOfC qual scope s₀.heap.objs.size f' cd :: outer) := fun b o z n m => by
    rcases List.mem_cons.mp (show b ∈ s₀.heap.objs.size :: frs outer from m) with y | y
    · exact absurd (Heap.lt_size z) (by rw [y]; exact Nat.lt_irrefl _)
    · exact n y
  have sub : ∀ b, b ∈ frs outer → b ∈ frs (envOfC qual scope s₀.heap.objs.size f' cd :: outer) := fun b hb => List.mem_cons.mpr (.inr hb)
  have noex : ∀ b, b ∉ (cxOf (CXO P w) P w K mg base N qual scope f' cd A outer s₀ H₀ E).ex := fun b z => absurd (show b ∈ ([] : List Addr) from z) (by simp)
  have new : s₀.heap.get? a = none := by
    cases z : s₀.heap.get? a with
    | none => rfl
    | some o =>
      have := I.base.free a o z hn (noex a)
      rw [ha] at this; cases this
  have trk : ∀ b o, H b = some o → b ∉ frs (envOfC qual scope s₀.heap.objs.size f' cd :: outer) := fun b o z m => by
    rw [SF b m] at z; cases z
  refine ⟨a, _, .ref C, some d, drop H a, rfl, ⟨I.os, I.bare, ⟨fun b o z n hb hx => ?_, fun b o z n hb hx => ?_, fun b o z n hx => ?_, fun b o z hx => ?_, fun b xs z => ?_, fun b o v z => ?_, fun b ps z => ?_⟩, fun b o z => ?_, u, drop_same, new, fun b ob z hb hn' => ?_, fun b hb => ?_⟩, q⟩
  · have e1 := I.base.keep b o z n hb (noex b)
    refine (inB b o e1 (fun y => ?_) (nL b o z hb)).1
    subst y; rw [new] at z; cases z
  · obtain ⟨sl, e1⟩ := I.base.slot b o z n hb (noex b)
    obtain ⟨sl', e2⟩ := frS b _ e1 (sub b hb)
    exact ⟨sl', e2⟩
  · by_cases y : b = a
    · rw [y]; exact drop_same
    · rw [drop_ne y]; exact I.base.free b o z n (noex b)
  · obtain ⟨o1, e1⟩ := I.base.there b o z (noex b)
    by_cases hb : b ∈ frs (envOfC qual scope s₀.heap.objs.size f' cd :: outer)
    · obtain ⟨sl, e2⟩ := frS b o1 e1 hb
      exact ⟨_, e2⟩
    · refine ⟨o1, (inB b o1 e1 (fun y => ?_) hb).1⟩
      subst y; rw [new] at z; cases z
  · have e1 := I.base.tups b xs z
    rw [drop_ne (ne_of e1 ha (by simp [ExO]))]; exact e1
  · have e1 := I.base.frzs b o v z
    rw [drop_ne (ne_of e1 ha (by simp [ExO]))]; exact e1
  · obtain ⟨m, e1⟩ := I.base.tbls b ps z
    refine ⟨m, ?_⟩
    rw [drop_ne (ne_of e1 ha (by simp [ExO]))]; exact e1
  · have y : b ≠ a := fun y => by rw [y, drop_same] at z; cases z
    rw [drop_ne y] at z
    refine (I.hok b o z).stay (fun c u' hc e' => ?_) (fun c e' => ?_) fun c xs e' => ?_
    · rcases hc with rfl | hc
      · exact (inB c u' e' y (trk c o z)).1
      · exact (inB c u' e' (ne_of hc ha (by simp [ExO])) (trk c _ hc)).1
    · rw [drop_ne (ne_of e' ha (by simp [ExO]))]; exact e'
    · rw [drop_ne (ne_of e' ha (by simp [ExO]))]; exact e'
  · have y : b ≠ a := fun y => by
      rcases hb with ⟨o, ho⟩ | ⟨o, ho⟩
      · rw [y, new] at ho; cases ho
      · rw [y, drop_same] at ho; cases ho
    have nf : b ∉ frs (envOfC qual scope s₀.heap.objs.size f' cd :: outer) := by
      rcases hb with ⟨o, ho⟩ | ⟨o, ho⟩
      · exact nL b o ho hn'
      · rw [drop_ne y] at ho; exact trk b o ho
    have ex : ∃ o1, s.heap.get? b = some o1 := by
      rcases hb with ⟨o, ho⟩ | ⟨o, ho⟩
      · exact I.base.there b o ho (noex b)
      · rw [drop_ne y] at ho; exact (I.hok b o ho).there
    obtain ⟨o1, e1⟩ := ex
    obtain ⟨e2, e3⟩ := inB b o1 e1 y nf
    rw [show h'.get? b = some ob from z] at e2
    cases e2
    exact e3
  · have y : b ≠ a := fun y => naf (y ▸ sub b hb)
    rw [drop_ne y]; exact SF b (sub b hb)
end L2
namespace L2
open PySem PySem.Spec PyProof.Rows
/-- an exception of the class at C that was caught, its dict -/
def ExH (a C : Addr) (d : Option Addr) : HO := .ext fun h => ∃ o vs, h.get? a = some o ∧ o.cls = .ref C ∧ o.dict = d ∧ o.data = .fields vs
theorem ExH.ok {P : Program} {w : World} {H : Hp} {h : Heap} {a C : Addr} {d : Option Addr} {o : Obj} {vs : Array Value} (e : h.get? a = some o) (hc : o.cls = .ref C) (hd : o.dict = d) (hf : o.data = .fields vs) :
    ObjOk P w H h a (ExH a C d) :=
  ⟨⟨o, vs, e, hc, hd, hf⟩, ⟨o, e⟩, fun h1 h2 ⟨o, vs, e, r⟩ k => ⟨o, vs, k o e, r⟩⟩
section
variable {X : Cx} {pins : List (Addr × Obj)} {σ : St} {H : Hp} {s s' : Shared}
/-- a local is forgotten (except .. as n, behind the suite) -/
theorem gone_ok {M : Model} {A : Around} {E : Value → Shared → Prop} {i : Nat} {n : Str} {pos : Pos} {Q : Unit → Shared → Prop} (I : Inv X pins σ H s) (hN : X.N.Nodup) (hi : X.N[i]? = some n) (hk : X.env.kindOf n = some .local)
    (h : ∀ s', Inv X pins (σ.set i none) H s' → Q () s') : wpAny M A (do bindName X.env n .none; unbindBehindTheSuite X.env n pos) Q E s := by
  obtain ⟨m, hn, hl⟩ := id I.loc
  have hcls : (X.env.scope.kind == .class || (X.env.scope.kind == .module && X.env.locals != X.env.globals)) = false := by rw [I.ok.kind]; rfl
  have hiσ : i < σ.length := by rw [I.len]; exact (List.getElem?_eq_some_iff.mp hi).1
  have cne := I.cne
  refine wpAny_nameGoes_keeps hk hn hcls fun h' v hn' hs => h _ ?_
  obtain ⟨oL, _, _, hoL, _⟩ := id hn
  have neL : ∀ b o, X.s₀.heap.get? b = some o → b ≠ X.env.locals := fun b o e => Nat.ne_of_lt (Nat.lt_of_lt_of_le (Heap.lt_size e) I.ok.above)
  refine ⟨I.ok, I.os, I.bare, ⟨fun b o e n hb hx => ?_, fun b o e n hb hx => ?_, I.base.free, fun b o e hx => ?_, I.base.tups, I.base.frzs, I.base.tbls⟩, ⟨_, hn', fun j y v' e1 e2 e3 => ?_⟩, fun y c e => ?_, I.free, I.freeC, fun p hp => ?_, fun b ob e => ?_, by simpa using I.len⟩
  · exact (hs.2 b (neL b o e)).trans (I.base.keep b o e n hb hx)
  · obtain ⟨sl, e1⟩ := I.base.slot b o e n hb hx
    exact ⟨sl, (hs.2 b (neL b o e)).trans e1⟩
  · obtain ⟨o', e1⟩ := I.base.there b o e hx
    exact ⟨o', (hs.2 b (neL b o e)).trans e1⟩
  · have hj : j ≠ i := fun z => by
      subst z
      rw [List.getElem?_set_self hiσ] at e2
      cases e2
    rw [List.getElem?_set_ne (Ne.symm hj)] at e2
    obtain ⟨u', r', q⟩ := hl j y v' e1 e2 e3
    refine ⟨u', r', ?_⟩
    rcases q with ⟨k, e⟩ | ⟨k, c, e, z⟩
    · refine .inl ⟨k, ?_⟩
      have : y ≠ n := fun e => hj (nodup_ix hN e1 (e ▸ hi))
      simp [this, e]
    · exact .inr ⟨k, c, e, z.sameBut hs (cne y c e)⟩
  · obtain ⟨w', z⟩ := I.cell y c e
    exact ⟨w', z.sameBut hs (cne y c e)⟩
  · obtain ⟨e, n, ne, nf, d⟩ := I.pin p hp
    exact ⟨(hs.2 p.1 ne).trans e, n, ne, nf, d⟩
  · refine (I.hok b ob e).stay (fun c w' hc q => (hs.2 c ?_).trans q) (fun _ q => q) fun _ _ q => q
    rintro rfl
    rcases hc with rfl | hc
    · rw [I.free] at e; cases e
    · rw [I.free] at hc; cases hc
/-- something that is new since an earlier state is tracked -/
theorem Inv.stood3 {H0 : Hp} {a : Addr} {o : HO} {σ0 : St} {pins0 : List (Addr × Obj)} (I : Inv X pins0 σ0 H0 s) (hp0 : ∀ p ∈ pins, p ∈ pins0) (J : Inv X pins σ H s') (Hn : H a = none) (ha : s.heap.get? a = none) (new : ObjOk X.prog X.w (upd H a o) s'.heap a o) : Inv X pins σ (upd H a o) s' := by
  have ne : ∀ {b : Addr} {o : Obj}, s.heap.get? b = some o → b ≠ a := fun e z => by rw [z, ha] at e; cases e
  refine ⟨J.ok, J.os, J.bare, ?_, J.loc, J.cell, ?_, ?_, ?_, ?_, J.len⟩
  · refine ⟨J.base.keep, J.base.slot, fun b o e n hx => ?_, J.base.there, fun b xs e => ?_, fun b o v e => ?_, fun b ps e => ?_⟩
    · obtain ⟨o', e'⟩ := I.base.there b o e hx
      rw [upd_ne (ne e')]; exact J.base.free b o e n hx
    · rw [upd_ne (ne_of_none (J.base.tups b xs e) Hn)]; exact J.base.tups b xs e
    · rw [upd_ne (ne_of_none (J.base.frzs b o v e) Hn)]; exact J.base.frzs b o v e
    · obtain ⟨m, q⟩ := J.base.tbls b ps e
      exact ⟨m, by rw [upd_ne (ne_of_none q Hn)]; exact q⟩
  · obtain ⟨m, ⟨oL, _, _, hoL, _⟩, _⟩ := I.loc
    rw [upd_ne (ne hoL)]; exact J.free
  · intro x' c' e
    obtain ⟨v', oc, hoc, _⟩ := I.cell x' c' e
    rw [upd_ne (ne hoc)]; exact J.freeC x' c' e
  · intro p hp
    obtain ⟨e, n, r⟩ := J.pin p hp
    refine ⟨e, ?_, r⟩
    have := (I.pin p ((List.mem_append.mp hp).elim (fun z => List.mem_append_left _ z) fun z => List.mem_append_right _ (hp0 p z))).1
    rw [upd_ne (ne this)]; exact n
  · intro b v e
    by_cases hb : b = a
    · subst hb
      rw [upd_same] at e
      cases e
      exact new
    · rw [upd_ne hb] at e
      refine (J.hok b v e).stay (fun _ _ _ q => q) (fun c' q => ?_) fun c' xs q => ?_
      · rw [upd_ne (ne_of_none q Hn)]; exact q
      · rw [upd_ne (ne_of_none q Hn)]; exact q
end
section
variable {M : Model} {A : Around} {E : Value → Shared → Prop} {s : Shared} {K : PySem.W.Frag} {D C e : Addr} {oe : Obj} {b : Bool} {Q : Bool → Shared → Prop}
/-- does 'except D' take an exception of the class at C -/
theorem match_ex (X : K.In s.heap) (hD : PySem.W.typeIn K (.ref D) = some (.type "type")) (hb : PySem.W.subIn K (.ref D) (.type "BaseException") = some true) (hcd : (K.lookup D).any (fun o => match o.data with | .cls _ => true | _ => false) = true)
    (he : s.heap.get? e = some oe) (hc : oe.cls = .ref C) (hs : PySem.W.subIn K (.ref C) (.ref D) = some b) (hq : Q b s) : wpAny M A (excMatches (.ref e) (.ref D)) Q E s := by
  have L1 : PySem.W.Looks M s.heap (typeOf (.ref D)) (.type "type") := PySem.W.looks_typeIn X hD
  have L2 : PySem.W.Looks M s.heap (isSubtype (.ref D) (.type "BaseException")) true := PySem.W.looks_subIn X hb
  have L3 : PySem.W.Looks M s.heap (isSubtype (.ref C) (.ref D)) b := PySem.W.looks_subIn X hs
  obtain ⟨oD, hl, hcl⟩ := PySem.W.any_some hcd
  have gD := X _ _ hl
  have f := tc_notTuple
  unfold excMatches isInstance isExcClass isType loadHead
  refine wpAny_bind (wpAny_bind (L1.here ?_))
  rw [f]
  refine wpAny_pure ?_
  simp only [Bool.false_eq_true, if_false]
  refine wpAny_bind (wpAny_pure ?_)
  simp only [List.forIn_cons, List.forIn_nil]
  have hcl' : ∃ cd, oD.data = .cls cd := by
    revert hcl
    cases oD.data <;> intro hcl <;> first | exact ⟨_, rfl⟩ | cases hcl
  obtain ⟨cd, hcl'⟩ := hcl'
  have LT : PySem.W.Looks M s.heap (typeOf (.ref e)) (.ref C) := fun A' Q' E' s' k r => by
    show wpAny _ _ (do return (← loadPart e (some headPart)).cls) _ _ _
    refine wpAny_bind (wpAny_loadPart (k _ _ he) (wpAny_pure ?_))
    rw [hc]; exact r
  refine wpAny_bind (wpAny_bind (wpAny_bind (wpAny_bind (wpAny_bind (wpAny_loadPart gD (wpAny_pure ?_))))))
  rw [hcl', if_pos rfl]
  refine L2.here ?_
  simp only [Bool.not_true, Bool.false_eq_true, if_false]
  refine wpAny_pure (wpAny_pure ?_)
  refine wpAny_bind (LT.here (wpAny_bind (wpAny_bind (wpAny_bind (L3.here ?_)))))
  cases b with
  | true =>
    simp only [if_true]
    exact wpAny_pure (wpAny_pure (wpAny_pure hq))
  | false =>
    simp only [Bool.false_eq_true, if_false]
    exact wpAny_pure (wpAny_pure (wpAny_pure hq))
end
end L2
namespace L2
open PySem PySem.Spec PyProof.Rows
/-- within a try's body; pn: the pins of the statement; E: what is known of an exception that leaves a call there -/
abbrev Cx.tryX (X : Cx) (pn : List (Addr × Obj)) (E : XK) : Cx := { X with pn := pn, xe := fun e s' => ∃ pins σ H s, Inv ({ X with pn := pn } : Cx) pins σ H s ∧ CXO X.prog X.w X.stack H s E e s' }
/-- within the suite of an except clause -/
abbrev Cx.suiteX (X : Cx) (a : Addr) : Cx := { X with A := X.A.mark (some (.ref a)), calm := false, xe := fun _ _ => False }
section
variable {X : Cx} {pins pins' pn : List (Addr × Obj)} {σ : St} {H : Hp} {s : Shared} {E : Value → Shared → Prop}
theorem okPn (ok : X.Ok) (pn : List (Addr × Obj)) (E : Value → Shared → Prop) : ({ X with pn := pn, xe := E } : Cx).Ok :=
  ⟨ok.mod, ok.kind, ok.glob, ok.blt, ok.above, ok.inj, ok.has, ok.cab, ok.hd, ok.frames, ok.stk, ok.exf, ok.bs, ok.bsz, ok.noex, ok.exfs, ok.funs, ok.frf⟩
theorem unPn (ok : ({ X with pn := pn, xe := E } : Cx).Ok) : X.Ok :=
  ⟨ok.mod, ok.kind, ok.glob, ok.blt, ok.above, ok.inj, ok.has, ok.cab, ok.hd, ok.frames, ok.stk, ok.exf, ok.bs, ok.bsz, ok.noex, ok.exfs, ok.funs, ok.frf⟩
theorem Inv.toPn (I : Inv X pins σ H s) (E : Value → Shared → Prop) : Inv ({ X with pn := X.pn ++ pins, xe := E } : Cx) [] σ H s :=
  ⟨okPn I.ok _ E, I.os, I.bare, I.base, I.loc, I.cell, I.free, I.freeC, fun p hp => I.pin p (by simpa using hp), I.hok, I.len⟩
theorem Inv.ofPn (I : Inv ({ X with pn := X.pn ++ pins, xe := E } : Cx) pins' σ H s) : Inv X pins σ H s :=
  ⟨unPn I.ok, I.os, I.bare, I.base, I.loc, I.cell, I.free, I.freeC, fun p hp => I.pin p (List.mem_append_left _ hp), I.hok, I.len⟩
theorem Inv.toSuite (I : Inv X pins σ H s) (a : Addr) : Inv (X.suiteX a) pins σ H s :=
  ⟨⟨I.ok.mod, I.ok.kind, I.ok.glob, I.ok.blt, I.ok.above, I.ok.inj, I.ok.has, I.ok.cab, (fun z => Bool.noConfusion z), I.ok.frames, I.ok.stk, I.ok.exf, I.ok.bs, I.ok.bsz, I.ok.noex, I.ok.exfs, I.ok.funs, I.ok.frf⟩, I.os, I.bare, I.base, I.loc, I.cell, I.free, I.freeC, I.pin, I.hok, I.len⟩
theorem Inv.ofSuite {a : Addr} (I : Inv (X.suiteX a) pins σ H s) (ok : X.Ok) : Inv X pins σ H s := ⟨ok, I.os, I.bare, I.base, I.loc, I.cell, I.free, I.freeC, I.pin, I.hok, I.len⟩
theorem SP.ofPn {D : Ends} {f : Flow} (h : SP ({ X with pn := X.pn ++ pins, xe := E } : Cx) [] D f s) : SP X pins D f s := by
  cases f with
  | next => obtain ⟨σ', H', I, q⟩ := h; exact ⟨σ', H', I.ofPn, q⟩
  | brk => obtain ⟨σ', H', I, q⟩ := h; exact ⟨σ', H', I.ofPn, q⟩
  | cont => obtain ⟨σ', H', I, q⟩ := h; exact ⟨σ', H', I.ofPn, q⟩
  | ret u => obtain ⟨v, σ', H', I, r, q⟩ := h; exact ⟨v, σ', H', I.ofPn, r, q⟩
end
/-- a callee's exception within a try's body -/
theorem pass_try {X : Cx} {pn : List (Addr × Obj)} {E E' : XK} (hE : ∀ c d H, E' c d H → E c d H) : Passes (CXO X.prog X.w) (X.tryX pn E) E' := by
  rintro pins σ H s e s' I ⟨ea, B, cls, dx, H', rfl, F, q⟩
  exact ⟨pins, σ, H, s, ⟨okPn I.ok _ _, I.os, I.bare, I.base, I.loc, I.cell, I.free, I.freeC, I.pin, I.hok, I.len⟩, ea, B, cls, dx, H', rfl, F, hE _ _ _ q⟩
/-- the ends of a suite whose name goes -/
def Ends.gone (D : Ends) (i : Nat) : Ends := { nx := fun σ H => D.nx (σ.set i none) H, rt := D.rt, bk := fun σ H => D.bk (σ.set i none) H, ct := fun σ H => D.ct (σ.set i none) H }
def sTry (K : PySem.W.Frag) (D : Addr) (E : XK) (len i : Nat) (tb ts : TS) : TS := fun Dn σ H => tb Dn σ H ∧ ∀ cls d H', E cls d H' → ∃ C, cls = .ref C ∧ PySem.W.subIn K (.ref C) (.ref D) = some true ∧
  ∀ (a : Addr) (σ' : St), σ'.length = len → H' a = none → ts (Dn.gone i) (σ'.set i (some (.ref a))) (upd H' a (ExH a C d))
/-- what 'except D' must find -/
structure Cat (K : PySem.W.Frag) (D : Addr) : Prop where
  ty : PySem.W.typeIn K (.ref D) = some (.type "type")
  ex : PySem.W.subIn K (.ref D) (.type "BaseException") = some true
  cd : (K.lookup D).any (fun o => match o.data with | .cls _ => true | _ => false) = true
theorem ps_try {X : Cx} {D : Addr} {x n : Str} {i : Nat} {E : XK} {body suite : List Stmt} {b₀ : Stmt} {tb ts : TS} {p hpos pos : Pos} (hstk : X.stack = X.env :: X.outer) (hf : X.env.frame = some X.env.locals) (hN : X.N.Nodup) (hi : X.N[i]? = some n)
    (hk : X.env.kindOf n = some .local) (hl : X.env.scope.names.lookup n = some .local) (hg : Gl X x) (hm : X.mg x = some (.ref D)) (c : Cat X.K D) (hbody : ∀ pn, PSs (X.tryX pn E) body tb) (hsuite : ∀ a, PSs (X.suiteX a) (b₀ :: suite) ts)
    (hdb : (x == ("__debug__" : Str)) = false := by decide) :
    PS X (.Try body [.ExceptHandler (some (.Name x p)) (some n) (b₀ :: suite) hpos] [] [] pos) (sTry X.K D E X.N.length i tb ts) := by
  intro pins s σ H Dn I ⟨h1, h2⟩
  refine wpAny_Try_except (wpAny_mono (hbody (X.pn ++ pins) [] s σ H Dn (I.toPn _) h1) (fun f s1 q => ?_) fun e s1 q => ?_)
  · have q' := SP.ofPn q
    cases f with
    | next => exact wpAny_execs_nil q'
    | brk => exact q'
    | cont => exact q'
    | ret u => exact q'
  · obtain ⟨pins', σ', H1, s2, I1, ea, B, cls, dx, H', rfl, F, qE⟩ := q
    obtain ⟨C, rfl, hsub, hk2⟩ := h2 cls dx H' qE
    have hfr : X.A.frames = some (X.env :: X.outer) := by rw [← hstk]; exact I.ok.frames
    have F' : Fl X.prog X.w (X.env :: X.outer) H1 s2 ea B (.ref C) dx (some .none) H' s1 := by rw [← hstk]; exact F
    refine note_up (.inr rfl) hfr hf F'.up fun ha ua sma => ?_
    refine land_up (s := { s1 with heap := ha }) ua fun hb ub smb => ?_
    obtain ⟨un, hok⟩ := F.fly ub.1 (sma.trans smb)
    have J : Inv X pins σ' H' { s1 with heap := hb } := (I1.call' (s' := { s1 with heap := hb }) (ch := []) F.os un hok F.bare fun b z => absurd z (by simp)).ofPn (E := X.xe)
    obtain ⟨_, _, _, oe, vs, eb, hcb, hdb', hfb, _⟩ := id ub
    refine wpAny_handleBy_cons (codeAny_handlers_test ?_) (by intro q; cases q)
    refine ld_glob (J.toSuite ea) hg hm ?_ hdb
    refine match_ex (s := { s1 with heap := hb }) J.kIn c.ty c.ex c.cd eb hcb hsub ?_
    refine codeAny_handlers_suite_as (land_up (s := { s1 with heap := hb }) ub fun hc uc smc => ?_)
    obtain ⟨un2, hok2⟩ := F.fly uc.1 ((sma.trans smb).trans smc)
    have J2 : Inv X pins σ' H' { s1 with heap := hc } := (I1.call' (s' := { s1 with heap := hc }) (ch := []) F.os un2 hok2 F.bare fun b z => absurd z (by simp)).ofPn (E := X.xe)
    obtain ⟨_, _, _, oc, vc, ec, hcc, hdc, hfc, _⟩ := id uc
    have I1' : Inv X pins σ' H1 s2 := I1.ofPn (E := X.xe)
    have J3 : Inv X pins σ' (upd H' ea (ExH ea C dx)) { s1 with heap := hc } := I1'.stood3 (fun _ z => z) J2 F.free F.new (ExH.ok ec hcc hdc hfc)
    refine store_ok (v := .ref ea) J3 hN hi (.inl hl) rfl (fun s4 J4 => ?_) (.inr hl)
    refine wpAny_mono (hsuite ea pins s4 _ _ (Dn.gone i) (J4.toSuite ea) (hk2 ea σ' I1'.len F.free)) (fun f s5 q5 => ?_) fun _ _ z => z.elim
    have back : ∀ {σ2 : St} {H2 : Hp} {Q : Unit → Shared → Prop}, Inv (X.suiteX ea) pins σ2 H2 s5 → (∀ s', Inv X pins (σ2.set i none) H2 s' → Q () s') →
        wpAny (model X.prog X.w) X.A (do bindName X.env n .none; unbindBehindTheSuite X.env n hpos) Q X.xe s5 := fun J5 h5 => gone_ok (J5.ofSuite I.ok) hN hi hk h5
    cases f with
    | next =>
      obtain ⟨σ2, H2, J5, q6⟩ := q5
      exact back J5 fun s' J6 => ⟨_, _, J6, q6⟩
    | brk =>
      obtain ⟨σ2, H2, J5, q6⟩ := q5
      exact back J5 fun s' J6 => ⟨_, _, J6, q6⟩
    | cont =>
      obtain ⟨σ2, H2, J5, q6⟩ := q5
      exact back J5 fun s' J6 => ⟨_, _, J6, q6⟩
    | ret u =>
      obtain ⟨v, σ2, H2, J5, r, q6⟩ := q5
      exact back J5 fun s' J6 => ⟨v, _, _, J6, r, q6⟩
end L2
namespace L2
open PySem PySem.Spec PyProof.Rows
/-- what the class at C must have for a field of its exceptions to be read -/
structure XGet (K : PySem.W.Frag) (C : Addr) (f : Str) : Prop where
  ga : PySem.W.findIn K (.ref C) "__getattribute__" = some (some (.builtin "BaseException.__getattribute__"))
  hk : PySem.W.findIn K (.ref C) "__getattr__" = some none
  sub : PySem.W.subIn K (.ref C) (.type "BaseException") = some true
  no : PySem.W.findIn K (.ref C) f = some none
  hd : PySem.W.hasDictIn K C = true
section
variable {prog : Program} {w : World} {A : Around} {E : Value → Shared → Prop} {s : Shared} {K : PySem.W.Frag} {x C : Addr} {name : Str} {v : Value} {ox : Obj} {od : Option Obj}
theorem get_ex {expr : Bool} {Q : Value → Shared → Prop} (X : K.In s.heap) (I : PySem.W.InstAt s.heap x ox C od) (c : XGet K C name) (hf : PySem.W.findObj K C od name = some (.value v)) (hh : PySem.W.handedIn v = true)
    (h : Q v { s with toks := s.toks + 1 }) : wpAny (model prog w) A (getAttr (.ref x) name expr) Q E s := by
  have ht : PySem.W.Looks (model prog w) s.heap (typeOf (.ref x)) (.ref C) := I.type
  have sub : PySem.W.Looks (model prog w) s.heap (isInstance (.ref x) (.type "BaseException")) true := ht.andThen (PySem.W.looks_subIn X c.sub)
  have L1 := PySem.W.looks_find (M := model prog w) X I hf
  have S := PySem.F.excAttr_ValueError.ga
  refine wpAny_bind (wpAny_mkText (wpAny_holding (wpAny_bind (ht _ _ _ _ (fun _ _ e => e) (wpAny_bind (PySem.W.looks_findIn X c.ga _ _ _ _ (fun _ _ e => e) ?_))))))
  dsimp only
  rw [show (onTheHeap (Value.ref C) && Value.builtin "BaseException.__getattribute__" == Value.builtin "object.__getattribute__") = false from by rw [show (Value.builtin "BaseException.__getattribute__" == Value.builtin "object.__getattribute__") = false from by decide +kernel, Bool.and_false], if_neg (by decide)]
  refine wpAny_bind (PySem.W.looks_hook X (mc := .ref C) (r := none) (by exact c.hk) _ _ _ _ (fun _ _ e => e) (wpAny_bind (wpAny_attempt (wpAny_holding ?_))))
  unfold callGetattribute
  rw [show (expr && onTheHeap (Value.builtin "BaseException.__getattribute__")) = false from Bool.and_false _, if_neg (by decide)]
  unfold boundAndCalled
  rw [S.bind]
  refine wpAny_bind (wpAny_pure ?_)
  show wpAny _ _ (call (.builtin "BaseException.__getattribute__") [.ref x, .str name s.toks]) _ _ _
  refine wpAny_call ?_
  refine codeAny_call_builtin S.plain PySem.F.entry_bexc_ga ?_
  refine @PySem.W.check_slot (model prog w) _ _ { s with toks := s.toks + 1 } "BaseException.__getattribute__" "BaseException" "__getattribute__" (.ref x) [.str name s.toks] [] _ (by decide +kernel) (by decide +kernel) sub (PySem.F.args_bexc_ga (.ref x) (.str name s.toks)) ?_
  refine wpAny_bind (wpAny_pure (wpAny_bind (wpAny_pure (wpAny_bind (PySem.W.Looks.here (s := { s with toks := s.toks + 1 }) ht (wpAny_bind (PySem.W.Looks.here (s := { s with toks := s.toks + 1 }) L1 ?_)))))))
  refine wpAny_pure ?_
  show wpAny _ _ (handedOut v) _ _ _
  rw [PySem.W.handedOut_of hh]
  exact wpAny_pure h
end
/-- e.f, e a caught exception of the class at C -/
def tFldX (C : Addr) (ta : TE) (f : Str) : TE := fun σ H Q => ta σ H fun x H1 => ∃ a d fs v, x = .ref a ∧ H1 a = some (ExH a C (some d)) ∧ H1 d = some (.xd fs) ∧ fs.lookup f = some v ∧ Q v H1
theorem pe_fldX {X : Cx} {C : Addr} {e : Expr} {f : Str} {pos : Pos} {ta : TE} (c : XGet X.K C f) (he : PE X e ta) (hb : attributeBase e f X.env (eval e X.env) = eval e X.env) : PE X (.Attribute e f pos) (tFldX C ta f) := by
  intro pins s σ H Q I h
  refine attr_of hb (thn (he pins s σ H _ I h) fun u s1 ⟨x, H1, I1, rx, a, d, fs, v, ex, ea, ed, l, q⟩ => ?_)
  subst ex
  obtain rfl : u = Value.ref a := rx
  obtain ⟨⟨o, vs, e', hc, hd, hf⟩, _⟩ := I1.hok a _ ea
  obtain ⟨mA, n1, r⟩ := I1.hok d _ ed
  obtain ⟨uv, hu, ru⟩ := RelO.some_of (v := v) (o := mA f) (by rw [← l]; exact r f)
  obtain ⟨od, ho, hl⟩ := lookIn_ns n1
  obtain ⟨oc, odi, oda, osl⟩ := o
  dsimp only at hc hd hf
  subst hc hd hf
  have J : PySem.W.InstAt s1.heap a ⟨.ref C, some d, .fields vs, osl⟩ C (some od) := ⟨e', rfl, rfl, ho⟩
  exact get_ex I1.kIn J c (PySem.W.findObj_own c.hd c.no rfl (by rw [hl, hu])) (handed_of ru) ⟨v, H1, I1.tok _, ru, q⟩
end L2
namespace L2
open PySem PySem.Spec PyProof.Rows
/-- what the class at C must have for isinstance of its exceptions -/
structure XIs (K : PySem.W.Frag) (C : Addr) : Prop where
  ga : PySem.W.findIn K (.ref C) "__getattribute__" = some (some (.builtin "BaseException.__getattribute__"))
  hk : PySem.W.findIn K (.ref C) "__getattr__" = some none
  sub : PySem.W.subIn K (.ref C) (.type "BaseException") = some true
  hd : PySem.W.hasDictIn K C = true
  cl : PySem.W.findIn K (.ref C) "__class__" = some (some (.builtin "object.__class__"))
  gt : PySem.W.specialIn K (.builtin "object.__class__") "__get__" = some (some (.builtin "getset_descriptor.__get__"))
  tk : PySem.W.takesIn K (.builtin "object.__class__") = some true
  ob : PySem.W.mroIn K C (.type "object") = some true
section
variable {prog : Program} {w : World} {A : Around} {E : Value → Shared → Prop} {s : Shared} {K : PySem.W.Frag} {x C : Addr} {ox : Obj} {od : Option Obj}
theorem cls_ex {Q : Option Value → Shared → Prop} (X : K.In s.heap) (I : PySem.W.InstAt s.heap x ox C od) (c : XIs K C) (h : Q (some (.ref C)) { s with toks := s.toks + 1 }) : wpAny (model prog w) A (getAttr? (.ref x) "__class__") Q E s := by
  have ht : PySem.W.Looks (model prog w) s.heap (typeOf (.ref x)) (.ref C) := I.type
  have sub : PySem.W.Looks (model prog w) s.heap (isInstance (.ref x) (.type "BaseException")) true := ht.andThen (PySem.W.looks_subIn X c.sub)
  have hf : PySem.W.findObj K C od "__class__" = some (.bind (.builtin "getset_descriptor.__get__") (.builtin "object.__class__")) :=
by
    obtain ⟨cd, hc, _⟩ := PySem.W.any_some c.hd
    unfold PySem.W.findObj
    rw [hc, Option.bind_some, c.cl, Option.bind_some]
    dsimp only
    rw [c.gt, Option.bind_some]
    dsimp only
    rw [c.tk, Option.bind_some]
  have L1 := PySem.W.looks_find (M := model prog w) X I hf
  have S := PySem.F.excAttr_ValueError.ga
  unfold getAttr? getAttrBy? getAttrBy
  refine wpAny_bind (wpAny_mkText (wpAny_bind (wpAny_attempt (wpAny_holding (wpAny_bind (ht _ _ _ _ (fun _ _ e => e) (wpAny_bind (PySem.W.looks_findIn X c.ga _ _ _ _ (fun _ _ e => e) ?_))))))))
  dsimp only
  rw [show (onTheHeap (Value.ref C) && Value.builtin "BaseException.__getattribute__" == Value.builtin "object.__getattribute__") = false from by rw [show (Value.builtin "BaseException.__getattribute__" == Value.builtin "object.__getattribute__") = false from by decide +kernel, Bool.and_false], if_neg (by decide)]
  refine wpAny_bind (PySem.W.looks_hook X (mc := .ref C) (r := none) (by exact c.hk) _ _ _ _ (fun _ _ e => e) (wpAny_bind (wpAny_attempt (wpAny_holding ?_))))
  unfold callGetattribute
  rw [show (false && onTheHeap (Value.builtin "BaseException.__getattribute__")) = false from rfl, if_neg (by decide)]
  unfold boundAndCalled
  rw [S.bind]
  refine wpAny_bind (wpAny_pure ?_)
  show wpAny _ _ (call (.builtin "BaseException.__getattribute__") [.ref x, .str "__class__" s.toks]) _ _ _
  refine wpAny_call ?_
  refine codeAny_call_builtin S.plain PySem.F.entry_bexc_ga ?_
  refine @PySem.W.check_slot (model prog w) _ _ { s with toks := s.toks + 1 } "BaseException.__getattribute__" "BaseException" "__getattribute__" (.ref x) [.str "__class__" s.toks] [] _ (by decide +kernel) (by decide +kernel) sub (PySem.F.args_bexc_ga (.ref x) (.str "__class__" s.toks)) ?_
  refine wpAny_bind (wpAny_pure (wpAny_bind (wpAny_pure (wpAny_bind (PySem.W.Looks.here (s := { s with toks := s.toks + 1 }) ht (wpAny_bind (PySem.W.Looks.here (s := { s with toks := s.toks + 1 }) L1 ?_)))))))
  show wpAny _ _ (holding [.builtin "object.__class__"] (call (.builtin "getset_descriptor.__get__") [.builtin "object.__class__", .ref x, .ref C]) >>= ret) _ _ _
  refine wpAny_bind (wpAny_holding (wpAny_call (PySem.W.class_get (s := { s with toks := s.toks + 1 }) (ox := ox) (od := od) X I c.ob (wpAny_pure ?_))))
  show wpAny _ _ (handedOut (.ref C)) _ _ _
  rw [PySem.W.handedOut_of rfl]
  exact wpAny_pure (wpAny_pure h)
theorem kitx_ex (c : XIs K C) : PySem.W.KitX K (.ref x) (.ref C) (fun h => ∃ ox od, PySem.W.InstAt h x ox C od) where
  ty := fun _ _ _ ⟨_, _, I⟩ => I.type
  it := fun _ _ X _ => by
    obtain ⟨cdD, hcD, _⟩ := PySem.W.any_some c.hd
    unfold PySem.W.clsIn at hcD
    split at hcD
    · rename_i c' d' cd' sl' ho
      intro A' Q' E' s' k q
      unfold isType loadHead
      exact wpAny_bind (wpAny_loadPart (k _ _ (X _ _ ho)) (wpAny_pure q))
    · cases hcD
  ne := fun h tp dd its n sl X htp => by
    obtain ⟨cdD, hcD, _⟩ := PySem.W.any_some c.hd
    refine Bool.eq_false_iff.mpr fun q => ?_
    have e : C = tp := Value.ref.inj (beq_iff_eq.mp q)
    subst e
    unfold PySem.W.clsIn at hcD
    split at hcD
    · rename_i c' d' cd' sl' ho
      have z := (X _ _ ho).symm.trans htp
      cases z
    · cases hcD
  ca := fun X ⟨_, _, I⟩ k => cls_ex X I c k
end
end L2
namespace L2
open PySem PySem.Spec PyProof.Rows
/-- an exception that was caught, its dict (where it has one) -/
def Held (H : Hp) (a C : Addr) : Prop := ∃ d, H a = some (ExH a C d) ∧ (d = none ∨ ∃ dx fs, d = some dx ∧ H dx = some (.xd fs))
inductive TyX (K : PySem.W.Frag) (H : Hp) : V → Value → Prop where
  | non : TyX K H .non (.type "NoneType")
  | ex {a C : Addr} (h : Held H a C) (c : XIs K C) : TyX K H (.ref a) (.ref C)
section
variable {X : Cx} {pins : List (Addr × Obj)} {σ : St} {H : Hp} {s : Shared}
theorem TyX.kit {x : V} {u t : Value} (ty : TyX X.K H x t) (I : Inv X pins σ H s) (r : RelV x u) : ∃ φ : Heap → Prop, PySem.W.KitX X.K u t φ ∧ φ s.heap ∧ u ≠ .builtin "__main__.__loader__#opaque" := by
  cases ty with
  | non =>
    cases (show u = Value.none from r)
    exact ⟨_, PySem.W.kitx_none, True.intro, fun z => nomatch z⟩
  | @ex a C h c =>
    cases (show u = Value.ref a from r)
    obtain ⟨d, ha, hd⟩ := h
    obtain ⟨⟨o, vs, e, hc, hdi, hf⟩, _⟩ := I.hok a _ ha
    obtain ⟨oc, odi, oda, osl⟩ := o
    dsimp only at hc hdi hf
    subst hc hdi hf
    refine ⟨_, kitx_ex c, ?_, fun z => nomatch z⟩
    rcases hd with rfl | ⟨dx, fs, rfl, hx⟩
    · exact ⟨_, none, e, rfl, rfl, trivial⟩
    · obtain ⟨od, eo⟩ := (I.hok dx _ hx).there
      exact ⟨_, some od, e, rfl, rfl, eo⟩
end
theorem vals_refs : ∀ {Ds : List Addr} {us : List Value}, Vals (Ds.map V.ref) us → us = Ds.map Value.ref
  | [], _, .nil => rfl
  | _ :: _, _, .cons r t => by
    cases r
    rw [vals_refs t]; rfl
/-- isinstance(x, c), c a class or a tuple of classes of the program -/
theorem call_isX {X : Cx} : CallR X (.builtin "isinstance") (fun xs H Q => ∃ x y t b, xs = [x, y] ∧ TyX X.K H x t ∧
    ((∃ n, y = .ty n ∧ PySem.W.kitOne X.K t (.type n) = some b) ∨ (∃ D, y = .ref D ∧ PySem.W.kitOne X.K t (.ref D) = some b) ∨ ∃ tp Ds, y = .ref tp ∧ H tp = some (.tup (List.map V.ref Ds)) ∧ PySem.W.kitAny X.K t (Ds.map Value.ref) = some b) ∧ Q (.bl b) H) := by
  intro pins s σ H xs us Q I r h
  obtain ⟨x, y, t, b, rfl, ty, hy, q⟩ := h
  obtain ⟨u, u2, rfl, ru, ru2⟩ := vals2 r
  obtain ⟨φ, Z, p, nb⟩ := ty.kit I ru
  rcases hy with ⟨n, rfl, e⟩ | ⟨D, rfl, e⟩ | ⟨tp, Ds, rfl, ht, e⟩
  · cases (show u2 = Value.type n from ru2)
    exact PySem.W.kia_one Z I.kIn p e nb fun tk => ⟨.bl b, H, I.tok tk, rfl, q⟩
  · cases (show u2 = Value.ref D from ru2)
    exact PySem.W.kia_one Z I.kIn p e nb fun tk => ⟨.bl b, H, I.tok tk, rfl, q⟩
  · cases (show u2 = Value.ref tp from ru2)
    obtain ⟨_, its, rv, o, ho, hc, n, hd⟩ := I.hok tp _ ht
    have := vals_refs rv
    subst this
    obtain ⟨oc, odi, oda, osl⟩ := o
    dsimp only at hc hd
    subst hc hd
    exact PySem.W.kia_tup Z I.kIn p ho e nb fun tk => ⟨.bl b, H, I.tok tk, rfl, q⟩
/-- a class of the program, by its name -/
theorem pe_cls {X : Cx} {x : Str} {p : Pos} {D : Addr} (hg : Gl X x) (hm : X.mg x = some (.ref D)) (hdb : (x == ("__debug__" : Str)) = false := by decide) : PE X (.Name x p) (fun σ H Q => Q (.ref D) H) := fun pins s σ H Q I h =>
  ld_glob I hg hm ⟨.ref D, H, I, rfl, h⟩ hdb

/-- what raises nothing may stand where something may be raised -/
theorem FnOk.up {P : Program} {w : World} {K : PySem.W.Frag} {mg : Str → Option Value} {base : Heap} {k : Nat} {f : Addr} {fd : FuncData} {ps : List Str} {sp : Sp} {CX : CXT} (F : FnOk P w K mg base CX0 k f fd ps sp) : FnOk P w K mg base CX k f fd ps sp :=
  ⟨F.len, fun A outer s H args us vs Q E hr he hb hv hs => codeAny_mono (F.run A outer s H args us vs Q E hr he hb hv hs) fun r s' h => by
    cases r with
    | error e => exact False.elim h
    | ok fl => cases fl <;> exact h⟩
/-- THE RULE for a def that may raise exceptions of the program -/
theorem Fun.okX {P : Program} {w : World} {K : PySem.W.Frag} {mg : Str → Option Value} {base : Heap} {x qual : Str} {st : Stmt} {f : Addr} {fd : FuncData} {N ps : List Str} {k : Nat} {sp : Sp} (F : Fun K x qual st f fd) (S : FnScope N ps (defScope st)) (len : ∀ vs H Q E, sp vs H Q E → vs.length = ps.length)
    (hbody : ∀ (cdv : Value) (A : Around) (outer : List Env) (s : Shared) (H : Hp) (vs : List V) (Q : VK) (E : XK), Room k (A.deeper (envOfC qual (defScope st) s.heap.objs.size f cdv)) → sp vs H Q E →
      ∃ t, PSs (cxOf (CXO P w) P w K mg base N qual (defScope st) f cdv A outer s H E) (defBody st) t ∧ t { nx := fun _ H' => Q .non H', rt := Q } (start N vs) H) : FnOk P w K mg base (CXO P w) (k + 1) f fd ps sp := by
  obtain ⟨oc, od, kV, doc, pm, an, cdv, ct, osl, rfl, lk, hcd⟩ := F.ex
  exact fn_of lk hcd S len fun A outer s H vs Q E hr hsp => hbody cdv A outer s H vs Q E hr hsp
end L2
namespace L2
open PySem PySem.Spec PyProof.Rows
/-- where a class of the module stands -/
def clsA (mg : Str → Option Value) (x : Str) : Addr := match mg x with
  | some (.ref C) => C
  | _ => 0
theorem clsA_of {mg : Str → Option Value} {x : Str} {C : Addr} (h : mg x = some (.ref C)) : clsA mg x = C := by unfold clsA; rw [h]
/-- a class of the module that is caught, asked for, or whose base's __init__ is called -/
structure ClsOk (K : PySem.W.Frag) (mg : Str → Option Value) (x : Str) : Prop where
  at_ : mg x = some (.ref (clsA mg x))
  cat : Cat K (clsA mg x)
/-- an exception class of the module with an __init__ of its own (the first thing in its body) -/
structure ErrOk (K : PySem.W.Frag) (mg : Str → Option Value) (x qual : Str) (st : Stmt) (ps : List Str) : Prop where
  at_ : mg x = some (.ref (clsA mg x))
  is : XIs K (clsA mg x)
  ini : ∃ f fd, MkX K (clsA mg x) f ∧ Fun K "__init__" qual st f fd ∧ Binds K fd ps []
/-- a def that may raise, by name -/
structure CalX (P : Program) (w : World) (K : PySem.W.Frag) (mg : Str → Option Value) (base : Heap) (k : Nat) (x : Str) (ps : List Str) (sp : Sp) : Prop where
  ex : ∃ f fd, FnOk P w K mg base (CXO P w) k f fd ps sp ∧ mg x = some (.ref f) ∧ PySem.W.keepIn K (.ref f) = true ∧ Binds K fd ps []
/-- an exception class' __init__, which raises nothing -/
structure CalI (P : Program) (w : World) (K : PySem.W.Frag) (mg : Str → Option Value) (base : Heap) (k : Nat) (x : Str) (ps : List Str) (sp : Sp) : Prop where
  ex : ∃ f fd, FnOk P w K mg base CX0 k f fd ps sp ∧ MkX K (clsA mg x) f ∧ mg x = some (.ref (clsA mg x)) ∧ Binds K fd ps []
section
variable {P : Program} {w : World} {K : PySem.W.Frag} {mg : Str → Option Value} {base : Heap} {x qual : Str} {st : Stmt} {N ps : List Str} {k : Nat} {sp : Sp}
theorem DefOk.calX (D : DefOk K mg x st ps) (S : FnScope N ps (defScope st)) (len : ∀ vs H Q E, sp vs H Q E → vs.length = ps.length)
    (hbody : ∀ (f : Addr) (cdv : Value) (A : Around) (outer : List Env) (s : Shared) (H : Hp) (vs : List V) (Q : VK) (E : XK), Room k (A.deeper (envOfC x (defScope st) s.heap.objs.size f cdv)) → sp vs H Q E →
      ∃ t, PSs (cxOf (CXO P w) P w K mg base N x (defScope st) f cdv A outer s H E) (defBody st) t ∧ t { nx := fun _ H' => Q .non H', rt := Q } (start N vs) H) : CalX P w K mg base (k + 1) x ps sp := by
  obtain ⟨f, fd, F, hm, hb⟩ := D.ex
  exact ⟨f, fd, F.okX S len (hbody f), hm, F.kp, hb⟩
theorem Cal.up (C : Cal P w K mg base k x ps sp) : CalX P w K mg base k x ps sp := by
  obtain ⟨f, fd, F, r⟩ := C.ex
  exact ⟨f, fd, F.up, r⟩
theorem ErrOk.cal (D : ErrOk K mg x qual st ps) (S : FnScope N ps (defScope st)) (len : ∀ vs H Q E, sp vs H Q E → vs.length = ps.length)
    (hbody : ∀ (f : Addr) (cdv : Value) (A : Around) (outer : List Env) (s : Shared) (H : Hp) (vs : List V) (Q : VK) (E : XK), exK K (clsA mg x) f = true → Room k (A.deeper (envOfC qual (defScope st) s.heap.objs.size f cdv)) → sp vs H Q E →
      ∃ t, PSs (cxOf CX0 P w K mg base N qual (defScope st) f cdv A outer s H E).nox (defBody st) t ∧ t { nx := fun _ H' => Q .non H', rt := Q } (start N vs) H) : CalI P w K mg base (k + 1) x ps sp := by
  obtain ⟨f, fd, M, F, hb⟩ := D.ini
  exact ⟨f, fd, F.ok S len fun cdv A outer s H vs Q E => hbody f cdv A outer s H vs Q E M.ex, M, D.at_, hb⟩
end
section
variable {X : Cx} {K : PySem.W.Frag} {pos : Pos}
theorem calXE {j k : Nat} {x : Str} {ps : List Str} {sp : Sp} {E : XK} {p : Pos} {e : Expr} {es : List Expr} {t : TA} (hx : Passes (CXO X.prog X.w) X E) (C : CalX X.prog X.w X.K X.mg X.base j x ps sp) (hr : Room k X.A) (hg : Gl X x) (hjk : Nat.ble j k = true)
    (hdb : (x == ("__debug__" : Str)) = false) (he : (e :: es).any isStar = false) (ha : QA X (e :: es) t) : QE X (.Call (.Name x p) (e :: es) [] pos) (tCall sp [] E t) := by
  rw [List.any_cons, Bool.or_eq_false_iff] at he
  obtain ⟨f, fd, F, hm, hk, hb⟩ := C.ex
  exact ⟨pe_call F (hr.mono (Nat.le_of_ble_eq_true hjk)) hg hm hk hb .nil hx ha.h hdb (starEach_plain he.1) (anyStar he.2)⟩
theorem makeXE {j k : Nat} {x : Str} {ps : List Str} {sp : Sp} {p : Pos} {e : Expr} {es : List Expr} {t : TA} (C : CalI X.prog X.w X.K X.mg X.base j x ps sp) (hr : Room k X.A) (hg : Gl X x) (hjk : Nat.ble (j + 1) k = true)
    (hdb : (x == ("__debug__" : Str)) = false) (he : (e :: es).any isStar = false) (ha : QA X (e :: es) t) : QE X (.Call (.Name x p) (e :: es) [] pos) (tMakeX (clsA X.mg x) sp t) := by
  rw [List.any_cons, Bool.or_eq_false_iff] at he
  obtain ⟨f, fd, F, M, hm, hb⟩ := C.ex
  exact ⟨pe_makeX M F (hr.mono (Nat.le_of_ble_eq_true hjk)) hg hm hb ha.h hdb (starEach_plain he.1) (anyStar he.2)⟩
theorem clsE {x : Str} {p : Pos} (hg : Gl X x) (c : X.mg x = some (.ref (clsA X.mg x))) (hdb : (x == ("__debug__" : Str)) = false) : QE X (.Name x p) (tC (.ref (clsA X.mg x))) := ⟨pe_cls hg c hdb⟩
theorem fmtE {e : Expr} {te : TE} (he : QE X e te) : QE X (.FormattedValue e (-1) none pos) (tFmt te) := ⟨pe_fmt he.h⟩
theorem pjNil : PJ X [] [] := .nil
theorem pjE {e : Expr} {es : List Expr} {t : TE} {ts : List TE} (he : QE X e t) (h : PJ X es ts) : PJ X (e :: es) (t :: ts) := .cons he.h h
theorem fstrE {v1 v2 : Expr} {rest : List Expr} {ts : List TE} (h : PJ X (v1 :: v2 :: rest) ts) : QE X (.JoinedStr (v1 :: v2 :: rest) pos) (tParts ts Str.empty) := ⟨pe_fstr h⟩
theorem fldXE {C : Addr} {e : Expr} {f : Str} {ta : TE} (c : XGet X.K C f) (hb : isCallE e = false) (he : QE X e ta) : QE X (.Attribute e f pos) (tFldX C ta f) := ⟨pe_fldX c he.h (attrBase_no hb)⟩
theorem fldXS {C : Addr} {o e : Expr} {f : Str} {ta tv : TE} {pos' : Pos} (c : XFld X.K C f) (hs : isCompE e = false) (ha : QE X o ta) (hv : QE X e tv) : QS X (.Assign [.Attribute o f pos'] e pos) (sFldX X.K C ta tv f) := ⟨ps_fldX c ha.h hv.h (swaps_no hs)⟩
theorem k_isX (h : X.K = K) : CallQ X (.builtin "isinstance") (fun xs H Q => ∃ x y t b, xs = [x, y] ∧ TyX K H x t ∧
    ((∃ n, y = .ty n ∧ PySem.W.kitOne K t (.type n) = some b) ∨ (∃ D, y = .ref D ∧ PySem.W.kitOne K t (.ref D) = some b) ∨ ∃ tp Ds, y = .ref tp ∧ H tp = some (.tup (List.map V.ref Ds)) ∧ PySem.W.kitAny K t (Ds.map Value.ref) = some b) ∧ Q (.bl b) H) := by
  subst h; exact ⟨call_isX⟩
end
theorem raiseS {P : Program} {w : World} {K : PySem.W.Frag} {mg : Str → Option Value} {base : Heap} {N : List Str} {qual : Str} {scope : Scope} {f' : Addr} {cd : Value} {A : Around} {outer : List Env} {s₀ : Shared} {H₀ : Hp} {E : XK}
    {C f : Addr} {e : Expr} {te : TE} {pos : Pos} (hk : exK K C f = true) (he : QE (cxOf (CXO P w) P w K mg base N qual scope f' cd A outer s₀ H₀ E) e te) :
    QS (cxOf (CXO P w) P w K mg base N qual scope f' cd A outer s₀ H₀ E) (.Raise (some e) none pos) (sRaise C te fun a H => ∃ d, H a = some (ExO a C (some d)) ∧ H₀ a = none ∧ E (.ref C) (some d) (drop H a)) := ⟨ps_raiseD hk he.h⟩
theorem binitE {X : Cx} {C D f : Addr} {x : Str} {p pos apos : Pos} {e : Expr} {es : List Expr} {t : TA} (hk : exK X.K C f = true) (hg : Gl X x) (hm : X.mg x = some (.ref D)) (B : BInit X.K D) (hdb : (x == ("__debug__" : Str)) = false) (he : (e :: es).any isStar = false)
    (ht : ∃ pl : Sem Bool, eval (.Call (.Attribute (.Name x p) "__init__" apos) (e :: es) [] pos) X.env = (do
      let ov ← eval (.Name x p) X.env
      standAt apos.atName
      let (f, first) ← holding [ov] (getMethod ov "__init__" pl)
      callWith pos f first (backTo pos (starEach (e :: es) X.env)) (backToKw pos (keywordEach [] X.env)))) (ha : QA X (e :: es) t) :
    QE X (.Call (.Attribute (.Name x p) "__init__" apos) (e :: es) [] pos) (tCB (fun xs H Q => ∃ a d ys, xs = V.ref a :: ys ∧ ys.length ≤ 9 ∧ H a = some (ExO a C d) ∧ Q .non H) t) := by
  rw [List.any_cons, Bool.or_eq_false_iff] at he
  obtain ⟨pl, ht⟩ := ht
  exact ⟨pe_binit (pl := pl) hg hm B (call_binit hk) ha.h hdb (starEach_plain he.1) (anyStar he.2) ht⟩
theorem tryS {X : Cx} {D : Addr} {x n : Str} {i : Nat} (E : XK) {body suite : List Stmt} {b₀ : Stmt} {tb ts : TS} {p hpos pos : Pos} (hstk : X.stack = X.env :: X.outer) (hf : X.env.frame = some X.env.locals) (hN : X.N.Nodup) (hi : X.N[i]? = some n)
    (hk : X.env.kindOf n = some .local) (hl : X.env.scope.names.lookup n = some .local) (hg : Gl X x) (hm : X.mg x = some (.ref D)) (c : Cat X.K D) (hdb : (x == ("__debug__" : Str)) = false) (hbody : ∀ pn, QSs (X.tryX pn E) body tb) (hsuite : ∀ a, QSs (X.suiteX a) (b₀ :: suite) ts) :
    QS X (.Try body [.ExceptHandler (some (.Name x p)) (some n) (b₀ :: suite) hpos] [] [] pos) (sTry X.K D E X.N.length i tb ts) :=
  ⟨ps_try hstk hf hN hi hk hl hg hm c (fun pn => (hbody pn).h) (fun a => (hsuite a).h) hdb⟩
end L2
namespace L2
open PySem PySem.Spec PyProof.Rows
/-- e.f, e an exception that was made -/
def tFldO (C : Addr) (ta : TE) (f : Str) : TE := fun σ H Q => ta σ H fun x H1 => ∃ a d fs v, x = .ref a ∧ H1 a = some (ExO a C (some d)) ∧ H1 d = some (.xd fs) ∧ fs.lookup f = some v ∧ Q v H1
theorem pe_fldO {X : Cx} {C : Addr} {e : Expr} {f : Str} {pos : Pos} {ta : TE} (c : XGet X.K C f) (he : PE X e ta) (hb : attributeBase e f X.env (eval e X.env) = eval e X.env) : PE X (.Attribute e f pos) (tFldO C ta f) := by
  intro pins s σ H Q I h
  refine attr_of hb (thn (he pins s σ H _ I h) fun u s1 ⟨x, H1, I1, rx, a, d, fs, v, ex, ea, ed, l, q⟩ => ?_)
  subst ex
  obtain rfl : u = Value.ref a := rx
  obtain ⟨⟨o, vs, e', hc, hd, hf, _, _⟩, _⟩ := I1.hok a _ ea
  obtain ⟨mA, n1, r⟩ := I1.hok d _ ed
  obtain ⟨uv, hu, ru⟩ := RelO.some_of (v := v) (o := mA f) (by rw [← l]; exact r f)
  obtain ⟨od, ho, hl⟩ := lookIn_ns n1
  obtain ⟨oc, odi, oda, osl⟩ := o
  dsimp only at hc hd hf
  subst hc hd hf
  have J : PySem.W.InstAt s1.heap a ⟨.ref C, some d, .fields vs, osl⟩ C (some od) := ⟨e', rfl, rfl, ho⟩
  exact get_ex I1.kIn J c (PySem.W.findObj_own c.hd c.no rfl (by rw [hl, hu])) (handed_of ru) ⟨v, H1, I1.tok _, ru, q⟩
/-- isinstance(x, D), x an exception that was made, D a class of the program -/
theorem call_isO {X : Cx} : CallR X (.builtin "isinstance") (fun xs H Q => ∃ a C d D b, xs = [.ref a, .ref D] ∧ H a = some (ExO a C (some d)) ∧ (∃ fs, H d = some (.xd fs)) ∧ XIs X.K C ∧ PySem.W.kitOne X.K (.ref C) (.ref D) = some b ∧ Q (.bl b) H) := by
  intro pins s σ H xs us Q I r h
  obtain ⟨a, C, d, D, b, rfl, ha, ⟨fs, hx⟩, c, e, q⟩ := h
  obtain ⟨u, u2, rfl, ru, ru2⟩ := vals2 r
  cases (show u = Value.ref a from ru)
  cases (show u2 = Value.ref D from ru2)
  obtain ⟨⟨o, vs, eo, hc, hdi, hf, _, _⟩, _⟩ := I.hok a _ ha
  obtain ⟨oc, odi, oda, osl⟩ := o
  dsimp only at hc hdi hf
  subst hc hdi hf
  obtain ⟨od, eod⟩ := (I.hok d _ hx).there
  exact PySem.W.kia_one (kitx_ex c) I.kIn ⟨_, some od, eo, rfl, rfl, eod⟩ e (fun z => nomatch z) fun tk => ⟨.bl b, H, I.tok tk, rfl, q⟩
section
variable {X : Cx} {K : PySem.W.Frag} {pos : Pos}
theorem fldOE {C : Addr} {e : Expr} {f : Str} {ta : TE} (c : XGet X.K C f) (hb : isCallE e = false) (he : QE X e ta) : QE X (.Attribute e f pos) (tFldO C ta f) := ⟨pe_fldO c he.h (attrBase_no hb)⟩
theorem k_isO (h : X.K = K) : CallQ X (.builtin "isinstance") (fun xs H Q => ∃ a C d D b, xs = [.ref a, .ref D] ∧ H a = some (ExO a C (some d)) ∧ (∃ fs, H d = some (.xd fs)) ∧ XIs K C ∧ PySem.W.kitOne K (.ref C) (.ref D) = some b ∧ Q (.bl b) H) := by
  subst h; exact ⟨call_isO⟩
end
end L2
namespace K03
open PySem L2 Cut
local macro_rules | `(tactic| walk_at "rd") => `(tactic| simp only [tSeq, tNext, tIfS, tRet, tRetN, tDrop, tAsg, gName, tTest, tB, tAnd, tOr, tNot, tAndV, tOrV, tNotV, tIf, tOp, tUn, tC, tVar, tCB, tCall, tNil, tCons, tTup, tLst, tChain, tBM, tBM0, tSl, tPart, tNoPart, tYes, rI, rI0, rU, rEqA, rNeA, rEq, rNe, rAddA, rAddS, rMulA, rCat, rRep, rIx, rIxL, rIxT, rIxS, rInA, rInS, rNotInA, rNotInS, rEqB, rNeB, rEqL, rNeL, rEqT, rNeT, rMulS, rSplit, rClear, rExtend, rSetL, gSub, gTup, gCons, gNil, iEnum, iZipS, rIn, rSlA, rSlL, rSlT, rSlS, rAppend, rJoin, LenV, TruV, iRng1, iRng2, iAny, scal, tyV,
  List.getElem?_cons_zero, List.getElem?_cons_succ, List.set_cons_zero, List.set_cons_succ, Option.some.injEq, V.int.injEq, V.str.injEq, V.bl.injEq, V.ref.injEq, V.ty.injEq, List.cons.injEq, reduceCtorEq, and_true, true_and, and_false, false_and, or_false, false_or, or_true, true_or, exists_false, exists_eq_left', exists_eq_left, exists_eq_right, exists_eq_right', exists_and_left, exists_and_right, exists_eq, List.cons_append, List.nil_append, List.append_nil, exists_const, and_assoc, Int.zero_add, Bool.not_true, Bool.not_false, Bool.false_eq_true, if_true, if_false, eq_self])

def top (i : Nat) : Stmt := PySem.Challenge.pw_digbook_k03_no_cut.main.body.getD i (.Pass ⟨0, 0, 0, 0⟩)
abbrev s_rows_of : Stmt := top 14
theorem sc_rows_of : FnScope ["text", "rows", "number", "row"] ["text"] (defScope s_rows_of) := ⟨rfl, rfl, rfl, by decide +kernel, rfl, by decide +kernel, by decide +kernel⟩
abbrev s_is_row : Stmt := top 15
theorem sc_is_row : FnScope ["row"] ["row"] (defScope s_is_row) := ⟨rfl, rfl, rfl, by decide +kernel, rfl, by decide +kernel, by decide +kernel⟩
abbrev s_lies_beneath : Stmt := top 16
theorem sc_lies_beneath : FnScope ["row", "above"] ["row", "above"] (defScope s_lies_beneath) := ⟨rfl, rfl, rfl, by decide +kernel, rfl, by decide +kernel, by decide +kernel⟩
abbrev s_letters_in : Stmt := top 17
theorem sc_letters_in : FnScope ["rows"] ["rows"] (defScope s_letters_in) := ⟨rfl, rfl, rfl, by decide +kernel, rfl, by decide +kernel, by decide +kernel⟩
abbrev s_wider : Stmt := top 18
theorem sc_wider : FnScope ["text", "times", "rows"] ["text", "times"] (defScope s_wider) := ⟨rfl, rfl, rfl, by decide +kernel, rfl, by decide +kernel, by decide +kernel⟩
abbrev s_row_drawn_wider : Stmt := top 19
theorem sc_row_drawn_wider : FnScope ["row", "times"] ["row", "times"] (defScope s_row_drawn_wider) := ⟨rfl, rfl, rfl, by decide +kernel, rfl, by decide +kernel, by decide +kernel⟩
abbrev s_law_cell_at : Stmt := top 21
theorem sc_law_cell_at : FnScope ["_law_script", "_law_k"] ["_law_script", "_law_k"] (defScope s_law_cell_at) := ⟨rfl, rfl, rfl, by decide +kernel, rfl, by decide +kernel, by decide +kernel⟩
abbrev s_law_mixed : Stmt := top 22
theorem sc_law_mixed : FnScope ["_law_cell", "_law_k", "_law_one", "_law_two"] ["_law_cell", "_law_k"] (defScope s_law_mixed) := ⟨rfl, rfl, rfl, by decide +kernel, rfl, by decide +kernel, by decide +kernel⟩
abbrev s_law_row : Stmt := top 23
theorem sc_law_row : FnScope ["_law_script", "_law_many", "_law_found", "_law_number", "_law_k"] ["_law_script", "_law_many"] (defScope s_law_row) := ⟨rfl, rfl, rfl, by decide +kernel, rfl, by decide +kernel, by decide +kernel⟩
abbrev s_law_signs : Stmt := top 24
theorem sc_law_signs : FnScope ["_law_number", "_law_wild"] ["_law_number", "_law_wild"] (defScope s_law_signs) := ⟨rfl, rfl, rfl, by decide +kernel, rfl, by decide +kernel, by decide +kernel⟩
abbrev s_law_drawn : Stmt := top 25
theorem sc_law_drawn : FnScope ["_law_row_here", "_law_wide", "_law_high", "_law_rows", "_law_tops", "_law_k", "_law_signs_here", "_law_j", "_law_number"] ["_law_row_here"] (defScope s_law_drawn) := ⟨rfl, rfl, rfl, by decide +kernel, rfl, by decide +kernel, by decide +kernel⟩
abbrev s_law_refused : Stmt := top 26
theorem sc_law_refused : FnScope ["_law_call_text", "_law_times", "_law_error", "e"] ["_law_call_text", "_law_times"] (defScope s_law_refused) := ⟨rfl, rfl, rfl, by decide +kernel, rfl, by decide +kernel, by decide +kernel⟩
abbrev s_law_first : Stmt := top 27
theorem sc_law_first : FnScope ["_law_rows", "_law_k", "_law_row_here", "_law_at"] ["_law_rows"] (defScope s_law_first) := ⟨rfl, rfl, rfl, by decide +kernel, rfl, by decide +kernel, by decide +kernel⟩
abbrev s_law_fault : Stmt := top 28
theorem sc_law_fault : FnScope ["_law_rows", "_law_number", "_law_at", "_law_row_here", "_law_place", "_law_way", "_law_odd", "_law_more"] ["_law_rows", "_law_number"] (defScope s_law_fault) := ⟨rfl, rfl, rfl, by decide +kernel, rfl, by decide +kernel, by decide +kernel⟩
abbrev s_law : Stmt := top 29
theorem sc_law : FnScope ["_law_script", "_law_row_here", "_law_rows", "_law_k", "_law_some", "_law_due", "_law_odd", "_law_made"] ["_law_script"] (defScope s_law) := ⟨rfl, rfl, rfl, by decide +kernel, rfl, by decide +kernel, by decide +kernel⟩
abbrev s_NoCut_init : Stmt := inClass (top 2) 0
theorem sc_NoCut_init : FnScope ["self", "row"] ["self", "row"] (defScope s_NoCut_init) := ⟨rfl, rfl, rfl, by decide +kernel, rfl, by decide +kernel, by decide +kernel⟩
def sp_cell_at (K : PySem.W.Frag) : Sp := fun vs H Q _ => ∃ (a : Addr) (ns : List Int) (k : Int), vs = [.ref a, .int k] ∧ SqL K H a (ns.map V.int) ∧ 0 ≤ k ∧ Q (.int (ns.getD k.toNat 0)) H
def sp_mixed : Sp := fun vs H Q _ => ∃ c k : Int, vs = [.int c, .int k] ∧ 0 ≤ k ∧ k ≤ 1000 ∧ ∀ r : Int, 0 ≤ r → r < 2147483563 → Q (.int r) H
def sp_row (K : PySem.W.Frag) : Sp := fun vs H Q _ => ∃ (a : Addr) (ns : List Int) (m : Int), vs = [.ref a, .int m] ∧ SqL K H a (ns.map V.int) ∧ ns.length ≤ 1000 ∧ 0 ≤ m ∧ m ≤ 100 ∧ ∀ l H' (xs : List Int), Same H H' → H l = none → H' l = some (.lst (xs.map V.int)) → xs.length = m.toNat → (∀ x ∈ xs, 0 ≤ x ∧ x < 9973) → Q (.ref l) H'
def sp_signs : Sp := fun vs H Q _ => ∃ n wd : Int, vs = [.int n, .int wd] ∧ 0 ≤ n ∧ 0 ≤ wd ∧ ∀ c, isLet c = true → Q (.str ⟨#[c]⟩) H
def sp_drawn (K : PySem.W.Frag) : Sp := fun vs H Q _ => ∃ (a : Addr) (xs : List Int), vs = [.ref a] ∧ SqL K H a (xs.map V.int) ∧ 40 ≤ xs.length ∧ (∀ x ∈ xs, 0 ≤ x ∧ x < 9973) ∧ ∀ l H' rows, Same H H' → H l = none → H' l = some (.lst (rows.map V.str)) → IsCut rows → Q (.ref l) H'
structure Txt (K : PySem.W.Frag) (mg : Str → Option Value) : Prop where
  b_len : mg "len" = none
  b_enumerate : mg "enumerate" = none
  b_str : mg "str" = none
  b_isinstance : mg "isinstance" = none
  b_all : mg "all" = none
  b_zip : mg "zip" = none
  b_set : mg "set" = none
  b_sorted : mg "sorted" = none
  b_range : mg "range" = none
  b_max : mg "max" = none
  b_int : mg "int" = none
  b_bool : mg "bool" = none
  b_ValueError : mg "ValueError" = none
  b_tuple : mg "tuple" = none
  g_MOST_ROWS : Gv mg "MOST_ROWS" (.int 40)
  g_MOST_SIGNS : Gv mg "MOST_SIGNS" (.int 40)
  g_AIR : Gv mg "AIR" (.str ".")
  g_LETTERS : Gv mg "LETTERS" (.str "abcdefghijklmnopqrstuvwxyz")
  d_rows_of : DefOk K mg "rows_of" s_rows_of ["text"]
  d_is_row : DefOk K mg "is_row" s_is_row ["row"]
  d_lies_beneath : DefOk K mg "lies_beneath" s_lies_beneath ["row", "above"]
  d_letters_in : DefOk K mg "letters_in" s_letters_in ["rows"]
  d_wider : DefOk K mg "wider" s_wider ["text", "times"]
  d_row_drawn_wider : DefOk K mg "row_drawn_wider" s_row_drawn_wider ["row", "times"]
  d_law_cell_at : DefOk K mg "_law_cell_at" s_law_cell_at ["_law_script", "_law_k"]
  d_law_mixed : DefOk K mg "_law_mixed" s_law_mixed ["_law_cell", "_law_k"]
  d_law_row : DefOk K mg "_law_row" s_law_row ["_law_script", "_law_many"]
  d_law_signs : DefOk K mg "_law_signs" s_law_signs ["_law_number", "_law_wild"]
  d_law_drawn : DefOk K mg "_law_drawn" s_law_drawn ["_law_row_here"]
  d_law_refused : DefOk K mg "_law_refused" s_law_refused ["_law_call_text", "_law_times"]
  d_law_first : DefOk K mg "_law_first" s_law_first ["_law_rows"]
  d_law_fault : DefOk K mg "_law_fault" s_law_fault ["_law_rows", "_law_number"]
  c_NoCut : mg "NoCut" = some (.ref (clsA mg "NoCut"))
  c_DigError : mg "DigError" = some (.ref (clsA mg "DigError"))
  c_NoLayer : mg "NoLayer" = some (.ref (clsA mg "NoLayer"))
  c_NoRow : mg "NoRow" = some (.ref (clsA mg "NoRow"))
  c_NoDeed : mg "NoDeed" = some (.ref (clsA mg "NoDeed"))
  c_NoSaying : mg "NoSaying" = some (.ref (clsA mg "NoSaying"))
  c_Torn : mg "Torn" = some (.ref (clsA mg "Torn"))
  c_NoGround : mg "NoGround" = some (.ref (clsA mg "NoGround"))
  x_NoCut : ErrOk K mg "NoCut" "NoCut.__init__" s_NoCut_init ["self", "row"]
  f_NoCut_row : XFld K (clsA mg "NoCut") "row"
  g_NoCut_row : XGet K (clsA mg "NoCut") "row"
  u_NoCut : PySem.W.subIn K (.ref (clsA mg "NoCut")) (.ref (clsA mg "DigError")) = some true
  k_NoCut_any0 : PySem.W.kitAny K (.ref (clsA mg "NoCut")) (([(clsA mg "NoGround"), (clsA mg "Torn"), (clsA mg "NoSaying"), (clsA mg "NoDeed"), (clsA mg "NoRow"), (clsA mg "NoLayer")]).map Value.ref) = some false
  k_NoCut_NoCut : PySem.W.kitOne K (.ref (clsA mg "NoCut")) (.ref (clsA mg "NoCut")) = some true
  k_NoCut_ValueError : PySem.W.kitOne K (.ref (clsA mg "NoCut")) (.type "ValueError") = some true
  k_NoCut_DigError : PySem.W.kitOne K (.ref (clsA mg "NoCut")) (.ref (clsA mg "DigError")) = some true
  i_DigError : BInit K (clsA mg "DigError")
  t_DigError : Cat K (clsA mg "DigError")
section
variable {P : Program} {w : World} {K : PySem.W.Frag} {mg : Str → Option Value} {base : Heap}
theorem big_line {n : Nat} (h : n ≤ 5000) : n ≤ sizeLine := Nat.le_trans h (by decide)
theorem big_lt {n : Nat} (h : n ≤ 5000) : n < sizeLine := Nat.lt_of_le_of_lt h (by decide)
theorem Same.upd {H : Hp} {p : Addr} {o : HO} (h : H p = none) : Same H (upd H p o) := fun b u e => by rw [upd_ne (ne_of_none e h)]; exact e
/-- a new thing changed again -/
theorem Same.set {H H' : Hp} {p : Addr} {o : HO} (sm : Same H H') (h : H p = none) : Same H (L2.upd H' p o) := fun b u e => by rw [upd_ne (ne_of_none e h)]; exact sm b u e
theorem atI_some {α : Type} (xs : List α) {i : Int} (h0 : 0 ≤ i) (h1 : i < (xs.length : Int)) : ∃ c, atI xs i = some c ∧ c ∈ xs := by
  obtain ⟨j, rfl⟩ := Int.eq_ofNat_of_zero_le h0
  have hj : j < xs.length := by omega
  exact ⟨xs[j], atI_nat (by simp [hj]), List.getElem_mem hj⟩
theorem atI_ints (xs : List Int) {i : Int} (h0 : 0 ≤ i) (h1 : i < (xs.length : Int)) : ∃ c, atI (xs.map V.int) i = some (V.int c) ∧ c ∈ xs := by
  obtain ⟨j, rfl⟩ := Int.eq_ofNat_of_zero_le h0
  have hj : j < xs.length := by omega
  exact ⟨xs[j], atI_nat (by simp [hj]), List.getElem_mem hj⟩
theorem letters_len : (letters.cps.toList.length : Int) = 26 := by decide +kernel
set_option maxHeartbeats 4000000 in
theorem C_law_cell_at (T : Txt K mg) : Cal P w K mg base 1 "_law_cell_at" ["_law_script", "_law_k"] (sp_cell_at K) := by
  refine T.d_law_cell_at.cal sc_law_cell_at (fun vs H Q E h => ?_) (fun f cdv A outer s H vs Q E hr h => ?_)
  · obtain ⟨a, ns, k, rfl, _⟩ := h
    rfl
  · obtain ⟨a, ns, k, rfl, hs, h0, q⟩ := h
    refine ⟨_, (QSs.h (ssCons (ifS (cmpT q_lt rfl (vn 1 rfl (Or.inl rfl) rfl rfl) (cbE (k_len (K := K) rfl) rfl T.b_len PySem.boot_len rfl rfl rfl (paE rfl (vn 0 rfl (Or.inl rfl) rfl rfl) aNil)))
      (ssOne (retS (ixLE (K := K) rfl (fun _ _ => rfl) (vn 0 rfl (Or.inl rfl) rfl rfl) (vn 1 rfl (Or.inl rfl) rfl rfl))))
      ssNil)
      (ssOne (retS eInt)))), ?_⟩
    show tSeq _ _ _ [some (.ref a), some (.int k)] H
    walk_at "rd"
    refine ⟨_, .inl ⟨_, hs, rfl⟩, ite2 (fun hk => ?_) fun hk => ?_⟩
    · have hk := of_decide_eq_true hk
      rw [List.length_map] at hk
      refine ⟨_, hs, .int (ns.getD k.toNat 0), ?_, q⟩
      obtain ⟨j, rfl⟩ := Int.eq_ofNat_of_zero_le h0
      have hj : j < ns.length := by omega
      exact atI_nat (by simp [hj])
    · have hk : ¬ k < ((ns.map V.int).length : Int) := by simpa using hk
      rw [List.length_map] at hk
      have e : ns.getD k.toNat 0 = 0 := by
        rw [List.getD_eq_getElem?_getD, List.getElem?_eq_none (by omega)]
        rfl
      rw [e] at q
      exact q
set_option maxHeartbeats 4000000 in
theorem C_law_mixed (T : Txt K mg) : Cal P w K mg base 1 "_law_mixed" ["_law_cell", "_law_k"] sp_mixed := by
  refine T.d_law_mixed.cal sc_law_mixed (fun vs H Q E h => ?_) (fun f cdv A outer s H vs Q E hr h => ?_)
  · obtain ⟨c, k, rfl, _⟩ := h
    rfl
  · obtain ⟨c, k, rfl, h0, h1, kk⟩ := h
    refine ⟨_, (QSs.h (ssCons (setE 2 sc_law_mixed.nd rfl (Or.inl rfl) (Or.inr rfl) rfl (opE q_mod (opE q_mulI (opE q_addI (opE q_addI (opE q_mod (vn 0 rfl (Or.inl rfl) rfl rfl) eInt) (opE q_mulI eInt (vn 1 rfl (Or.inl rfl) rfl rfl))) eInt) eInt) eInt))
      (ssCons (setE 3 sc_law_mixed.nd rfl (Or.inl rfl) (Or.inr rfl) rfl (opE q_mod (opE q_addI (opE q_mulA (vn 2 rfl (Or.inl rfl) rfl rfl) (vn 2 rfl (Or.inl rfl) rfl rfl)) (opE q_mulI (opE q_mulI eInt (vn 1 rfl (Or.inl rfl) rfl rfl)) (vn 1 rfl (Or.inl rfl) rfl rfl))) eInt))
      (ssOne (retS (opE q_mod (opE q_mulA (vn 3 rfl (Or.inl rfl) rfl rfl) (vn 3 rfl (Or.inl rfl) rfl rfl)) eInt)))))), ?_⟩
    show tSeq _ _ _ [some (.int c), some (.int k), none, none] H
    refine seq_split fun nx hn => ?_
    walk_at "rd"
    refine ⟨by decide, .inl ⟨by decide, by decide⟩, .inr ⟨by decide, by decide⟩, by decide, hn _ _ ?_⟩
    have b1 := Int.emod_nonneg ((c % 1000003 + 7919 * k + 1) * 48271) (by decide : (2147483629 : Int) ≠ 0)
    have b2 := Int.emod_lt_of_pos ((c % 1000003 + 7919 * k + 1) * 48271) (by decide : (0 : Int) < 2147483629)
    generalize (c % 1000003 + 7919 * k + 1) * 48271 % 2147483629 = one at b1 b2
    refine seq_split fun nx hn => ?_
    walk_at "rd"
    refine ⟨.inl ⟨by omega, by omega⟩, .inl ⟨by decide, by decide⟩, .inr ⟨by omega, by omega⟩, by decide, hn _ _ ?_⟩
    have b3 := Int.emod_nonneg (one * one + 104729 * k * k) (by decide : (2147483587 : Int) ≠ 0)
    have b4 := Int.emod_lt_of_pos (one * one + 104729 * k * k) (by decide : (0 : Int) < 2147483587)
    generalize (one * one + 104729 * k * k) % 2147483587 = two at b3 b4
    walk_at "rd"
    exact ⟨.inl ⟨by omega, by omega⟩, by decide, kk _ (Int.emod_nonneg _ (by decide)) (Int.emod_lt_of_pos _ (by decide))⟩
set_option maxHeartbeats 4000000 in
theorem C_law_signs (T : Txt K mg) : Cal P w K mg base 1 "_law_signs" ["_law_number", "_law_wild"] sp_signs := by
  refine T.d_law_signs.cal sc_law_signs (fun vs H Q E h => ?_) (fun f cdv A outer s H vs Q E hr h => ?_)
  · obtain ⟨c, k, rfl, _⟩ := h
    rfl
  · obtain ⟨n, wd, rfl, h0, h1, kk⟩ := h
    refine ⟨_, (QSs.h (ssCons (ifS (cmpT q_eqA rfl (opE q_mod (vn 0 rfl (Or.inl rfl) rfl rfl) eInt) eInt)
      (ssOne (retS (ixSE (fun _ _ => rfl) eStr (opE q_mod (opE q_fdiv (vn 0 rfl (Or.inl rfl) rfl rfl) eInt) eInt))))
      ssNil)
      (ssOne (retS (ixSE (fun _ _ => rfl) eStr (opE q_mod (opE q_addI (opE q_mod (opE q_fdiv (vn 0 rfl (Or.inl rfl) rfl rfl) eInt) eInt) (vn 1 rfl (Or.inl rfl) rfl rfl)) eInt)))))), ?_⟩
    show tSeq _ _ _ [some (.int n), some (.int wd)] H
    walk_at "rd"
    refine ⟨by decide, ite2 (fun _ => ?_) fun _ => ?_⟩
    · obtain ⟨c, hc, hm⟩ := atI_some letters.cps.toList (i := n / 5 % 26) (by omega) (by rw [letters_len]; omega)
      exact ⟨⟨by decide, by decide⟩, by decide, (show 26 ≤ sizeLine by decide), c, hc, kk c (decide_eq_true hm)⟩
    · obtain ⟨c, hc, hm⟩ := atI_some letters.cps.toList (i := (n / 5 % 4 + wd) % 26) (by omega) (by rw [letters_len]; omega)
      exact ⟨⟨by decide, by decide⟩, by decide, by decide, (show 26 ≤ sizeLine by decide), c, hc, kk c (decide_eq_true hm)⟩
end
end K03
namespace K03
open PySem L2 Cut
local macro_rules | `(tactic| walk_at "rd") => `(tactic| simp only [tSeq, tNext, tIfS, tRet, tRetN, tDrop, tAsg, gName, tTest, tB, tAnd, tOr, tNot, tAndV, tOrV, tNotV, tIf, tOp, tUn, tC, tVar, tCB, tCall, tNil, tCons, tTup, tLst, tChain, tBM, tBM0, tSl, tPart, tNoPart, tYes, rI, rI0, rU, rEqA, rNeA, rEq, rNe, rAddA, rAddS, rMulA, rCat, rRep, rIx, rIxL, rIxT, rIxS, rInA, rInS, rNotInA, rNotInS, rEqB, rNeB, rEqL, rNeL, rEqT, rNeT, rMulS, rSplit, rClear, rExtend, rSetL, gSub, gTup, gCons, gNil, iEnum, iZipS, rIn, rSlA, rSlL, rSlT, rSlS, rAppend, rJoin, LenV, TruV, iRng1, iRng2, iAny, scal, tyV,
  List.getElem?_cons_zero, List.getElem?_cons_succ, List.set_cons_zero, List.set_cons_succ, Option.some.injEq, V.int.injEq, V.str.injEq, V.bl.injEq, V.ref.injEq, V.ty.injEq, List.cons.injEq, reduceCtorEq, and_true, true_and, and_false, false_and, or_false, false_or, or_true, true_or, exists_false, exists_eq_left', exists_eq_left, exists_eq_right, exists_eq_right', exists_and_left, exists_and_right, exists_eq, List.cons_append, List.nil_append, List.append_nil, exists_const, and_assoc, Int.zero_add, Bool.not_true, Bool.not_false, Bool.false_eq_true, if_true, if_false, eq_self])

section
variable {P : Program} {w : World} {K : PySem.W.Frag} {mg : Str → Option Value} {base : Heap}
set_option maxHeartbeats 4000000 in
theorem C_law_row (T : Txt K mg) : Cal P w K mg base 2 "_law_row" ["_law_script", "_law_many"] (sp_row K) := by
  have C_law_cell_at : Cal P w K mg base 1 "_law_cell_at" ["_law_script", "_law_k"] (sp_cell_at K) := C_law_cell_at T
  have C_law_mixed : Cal P w K mg base 1 "_law_mixed" ["_law_cell", "_law_k"] sp_mixed := C_law_mixed T
  refine T.d_law_row.cal sc_law_row (fun vs H Q E h => ?_) (fun f cdv A outer s H vs Q E hr h => ?_)
  · obtain ⟨a, ns, m, rfl, _⟩ := h
    rfl
  · obtain ⟨a, ns, m, rfl, hs, hn, h0, h1, q⟩ := h
    refine ⟨_, (QSs.h (ssCons (setE 2 sc_law_row.nd rfl (Or.inl rfl) (Or.inr rfl) rfl (lstE aNil))
      (ssCons (setE 3 sc_law_row.nd rfl (Or.inl rfl) (Or.inr rfl) rfl eInt)
      (ssCons (forE PassesOwn.never rfl rfl (rng1E rfl T.b_range rfl (paE rfl (vn 1 rfl (Or.inl rfl) rfl rfl) aNil)) (nameG 4 sc_law_row.nd rfl (Or.inl rfl) (Or.inr rfl))
      (ssCons (ifS (cmpT q_eqA rfl (opE q_mod (vn 4 rfl (Or.inl rfl) rfl rfl) eInt) eInt)
        (ssOne (setE 3 sc_law_row.nd rfl (Or.inl rfl) (Or.inr rfl) rfl (calE C_law_cell_at hr rfl rfl rfl rfl (paE rfl (vn 0 rfl (Or.inl rfl) rfl rfl) (paE rfl (opE q_addI eInt (opE q_fdiv (vn 4 rfl (Or.inl rfl) rfl rfl) eInt)) aNil)))))
        ssNil)
        (ssOne (ifS (wT (andW (cmpT q_eqA rfl (opE q_mod (calE C_law_cell_at hr rfl rfl rfl rfl (paE rfl (vn 0 rfl (Or.inl rfl) rfl rfl) (paE rfl eInt aNil))) eInt) eInt) (and1W (cmpT q_gt rfl (vn 3 rfl (Or.inl rfl) rfl rfl) eInt))))
        (ssCons (exprE rfl (bmE (K := K) rfl PySem.F.plainAttrs_list PySem.F.slot_list_append PySem.F.type_list_append m_append rfl rfl rfl rfl (vn 2 rfl (Or.inl rfl) rfl rfl) (paE rfl (opE q_mod (vn 3 rfl (Or.inl rfl) rfl rfl) eInt) aNil)))
          (ssOne (setE 3 sc_law_row.nd rfl (Or.inl rfl) (Or.inr rfl) rfl (opE q_fdiv (vn 3 rfl (Or.inl rfl) rfl rfl) eInt))))
        (ssOne (exprE rfl (bmE (K := K) rfl PySem.F.plainAttrs_list PySem.F.slot_list_append PySem.F.type_list_append m_append rfl rfl rfl rfl (vn 2 rfl (Or.inl rfl) rfl rfl) (paE rfl (opE q_mod (calE C_law_mixed hr rfl rfl rfl rfl (paE rfl (calE C_law_cell_at hr rfl rfl rfl rfl (paE rfl (vn 0 rfl (Or.inl rfl) rfl rfl) (paE rfl (opE q_addI eInt (opE q_mod (vn 4 rfl (Or.inl rfl) rfl rfl) (cbE (k_max rfl) rfl T.b_max PyProof.Rows.boot_max rfl rfl rfl (paE rfl eInt (paE rfl (opE q_sub (cbE (k_len (K := K) rfl) rfl T.b_len PySem.boot_len rfl rfl rfl (paE rfl (vn 0 rfl (Or.inl rfl) rfl rfl) aNil)) eInt) aNil))))) aNil))) (paE rfl (vn 4 rfl (Or.inl rfl) rfl rfl) aNil))) eInt) aNil))))))))
      (ssOne (retS (vn 2 rfl (Or.inl rfl) rfl rfl))))))), ?_⟩
    show tSeq _ _ _ [some (.ref a), some (.int m), none, none, none] H
    refine seq_split fun n1 c1 => ?_
    walk_at "rd"
    refine ⟨Nat.zero_le _, fun l hl => c1 _ _ (seq_split fun n2 c2 => ?_)⟩
    walk_at "rd"
    refine c2 _ _ (seq_split fun n3 c3 => for_split fun Kont hK => ?_)
    walk_at "rd"
    refine ⟨by omega, by omega, hK _ _ (for_range (fun i σ H' => ∃ (n : Int) (o : Option V) (xs : List Int), σ = [some (.ref a), some (.int m), some (.ref l), some (.int n), o] ∧ Same H H' ∧ H' l = some (.lst (xs.map V.int)) ∧ xs.length = i ∧ ∀ x ∈ xs, 0 ≤ x ∧ x < 9973)
      ⟨0, none, [], rfl, Same.upd hl, upd_same, rfl, fun _ h => nomatch h⟩ ?_ ?_)⟩
    · rintro i σ H' hi ⟨n, o, xs, rfl, sm, hl', hx, hall⟩
      have hi' : i < 100 := by omega
      have hs' := sm.seq hs
      show tSeq _ _ _ [some (.ref a), some (.int m), some (.ref l), some (.int n), some (.int (0 + i))] H'
      rw [Int.zero_add]
      refine seq_split fun nx hnx => ?_
      have go : ∀ n : Int, nx [some (.ref a), some (.int m), some (.ref l), some (.int n), some (.int i)] H' := by
        intro n
        refine hnx _ _ ?_
        have put : ∀ v : Int, 0 ≤ v → v < 9973 → Same H (upd H' l (.lst (xs.map V.int ++ [.int v]))) ∧ ∃ xs2 : List Int, upd H' l (.lst (xs.map V.int ++ [.int v])) l = some (.lst (xs2.map V.int)) ∧ xs2.length = i + 1 ∧ ∀ x ∈ xs2, 0 ≤ x ∧ x < 9973 := fun v v0 v1 =>
          ⟨Same.set sm hl, xs ++ [v], by rw [upd_same, List.map_append]; rfl, by rw [List.length_append, hx]; rfl, fun y hy => by
            rcases List.mem_append.mp hy with q | q
            · exact hall y q
            · rw [List.mem_singleton.mp q]; exact ⟨v0, v1⟩⟩
        have len : (xs.map V.int).length < sizeLine := by rw [List.length_map, hx]; exact big_lt (by omega)
        have mx : ∀ x : Nat, (0 : Int) < (if (x : Int) - 1 > 1 then (x : Int) - 1 else 1) := fun x => by split <;> omega
        walk_at "rd"
        refine ⟨a, ns, 0, rfl, hs', by decide, _, rfl, by decide, ite2 (fun _ => ite2 (fun hp => ?_) fun _ => ?_) fun _ => ?_⟩
        · refine ⟨.inl ⟨_, SqL.of hl'⟩, by decide, _, hl', len, ⟨by decide, by decide⟩, ?_⟩
          exact put _ (by omega) (by omega)
        · refine ⟨.inl ⟨_, SqL.of hl'⟩, _, .inl ⟨_, hs', rfl⟩, mx _, a, ns, _, rfl, hs', ?_, ns.getD _ 0, i, rfl, by omega, by omega, fun r r0 r1 => ⟨r, rfl, by decide, _, hl', len, put _ (by omega) (by omega)⟩⟩
          have := Int.emod_nonneg (i : Int) (Int.ne_of_gt (mx (ns.map V.int).length))
          omega
        · refine ⟨.inl ⟨_, SqL.of hl'⟩, _, .inl ⟨_, hs', rfl⟩, mx _, a, ns, _, rfl, hs', ?_, ns.getD _ 0, i, rfl, by omega, by omega, fun r r0 r1 => ⟨r, rfl, by decide, _, hl', len, put _ (by omega) (by omega)⟩⟩
          have := Int.emod_nonneg (i : Int) (Int.ne_of_gt (mx (ns.map V.int).length))
          omega
      walk_at "rd"
      refine ⟨by decide, ite2 (fun _ => ?_) fun _ => go n⟩
      exact ⟨⟨by decide, by decide⟩, a, ns, _, rfl, hs', by omega, go _⟩
    · rintro σ H' ⟨n, o, xs, rfl, sm, hl', hx, hall⟩
      refine c3 _ _ ?_
      walk_at "rd"
      exact q l H' xs sm hl hl' hx hall
end
end K03
namespace K03
open PySem L2 Cut
local macro_rules | `(tactic| walk_at "rd") => `(tactic| simp only [tSeq, tNext, tIfS, tRet, tRetN, tDrop, tAsg, gName, tTest, tB, tAnd, tOr, tNot, tAndV, tOrV, tNotV, tIf, tOp, tUn, tC, tVar, tCB, tCall, tNil, tCons, tTup, tLst, tChain, tBM, tBM0, tSl, tPart, tNoPart, tYes, rI, rI0, rU, rEqA, rNeA, rEq, rNe, rAddA, rAddS, rMulA, rCat, rRep, rIx, rIxL, rIxT, rIxS, rInA, rInS, rNotInA, rNotInS, rEqB, rNeB, rEqL, rNeL, rEqT, rNeT, rMulS, rSplit, rClear, rExtend, rSetL, gSub, gTup, gCons, gNil, iEnum, iZipS, rIn, rSlA, rSlL, rSlT, rSlS, rAppend, rJoin, LenV, TruV, iRng1, iRng2, iAny, scal, tyV,
  List.getElem?_cons_zero, List.getElem?_cons_succ, List.set_cons_zero, List.set_cons_succ, Option.some.injEq, V.int.injEq, V.str.injEq, V.bl.injEq, V.ref.injEq, V.ty.injEq, List.cons.injEq, reduceCtorEq, and_true, true_and, and_false, false_and, or_false, false_or, or_true, true_or, exists_false, exists_eq_left', exists_eq_left, exists_eq_right, exists_eq_right', exists_and_left, exists_and_right, exists_eq, List.cons_append, List.nil_append, List.append_nil, exists_const, and_assoc, Int.zero_add, Bool.not_true, Bool.not_false, Bool.false_eq_true, if_true, if_false, eq_self])

section
variable {P : Program} {w : World} {K : PySem.W.Frag} {mg : Str → Option Value} {base : Heap}
set_option maxHeartbeats 4000000 in
theorem C_law_drawn (T : Txt K mg) : Cal P w K mg base 2 "_law_drawn" ["_law_row_here"] (sp_drawn K) := by
  have C_law_signs : Cal P w K mg base 1 "_law_signs" ["_law_number", "_law_wild"] sp_signs := C_law_signs T
  refine T.d_law_drawn.cal sc_law_drawn (fun vs H Q E h => ?_) (fun f cdv A outer s H vs Q E hr h => ?_)
  · obtain ⟨a, xs, rfl, _⟩ := h
    rfl
  · obtain ⟨a, xs, rfl, hs, hx, hb, q⟩ := h
    have get : ∀ i : Int, 0 ≤ i → i < 40 → ∃ c, atI (xs.map V.int) i = some (V.int c) ∧ 0 ≤ c ∧ c < 9973 := fun i h0 h1 => by
      obtain ⟨c, e, hm⟩ := atI_ints xs h0 (by omega)
      exact ⟨c, e, hb c hm⟩
    obtain ⟨c0, g0, l0, u0⟩ := get 0 (by decide) (by decide)
    obtain ⟨c1, g1, l1, u1⟩ := get 1 (by decide) (by decide)
    refine ⟨_, (QSs.h (ssCons (setE 1 sc_law_drawn.nd rfl (Or.inl rfl) (Or.inr rfl) rfl (opE q_addI eInt (opE q_mod (ixLE (K := K) rfl (fun _ _ => rfl) (vn 0 rfl (Or.inr (Or.inl rfl)) rfl rfl) eInt) eInt)))
      (ssCons (setE 2 sc_law_drawn.nd rfl (Or.inr rfl) (Or.inl rfl) rfl (opE q_addI eInt (opE q_mod (opE q_fdiv (ixLE (K := K) rfl (fun _ _ => rfl) (vn 0 rfl (Or.inr (Or.inl rfl)) rfl rfl) eInt) eInt) eInt)))
      (ssCons (ifS (cmpT q_eqA rfl (opE q_mod (opE q_fdiv (ixLE (K := K) rfl (fun _ _ => rfl) (vn 0 rfl (Or.inr (Or.inl rfl)) rfl rfl) eInt) eInt) eInt) eInt)
      (ssCons (setE 1 sc_law_drawn.nd rfl (Or.inl rfl) (Or.inr rfl) rfl (opE q_addI eInt (opE q_mod (ixLE (K := K) rfl (fun _ _ => rfl) (vn 0 rfl (Or.inr (Or.inl rfl)) rfl rfl) eInt) eInt)))
        (ssOne (setE 2 sc_law_drawn.nd rfl (Or.inr rfl) (Or.inl rfl) rfl (opE q_addI eInt (opE q_mod (opE q_fdiv (ixLE (K := K) rfl (fun _ _ => rfl) (vn 0 rfl (Or.inr (Or.inl rfl)) rfl rfl) eInt) eInt) eInt)))))
      ssNil)
      (ssCons (setE 3 sc_law_drawn.nd rfl (Or.inl rfl) (Or.inr rfl) rfl (lstE aNil))
      (ssCons (setCompE 4 sc_law_drawn.nd rfl (Or.inl rfl) (Or.inr rfl) rfl (CompScope.of (show compOk (defScope s_law_drawn) ["_law_row_here", "_law_wide", "_law_high", "_law_rows", "_law_tops", "_law_k", "_law_signs_here", "_law_j", "_law_number"] _ ["_law_k", "_law_row_here", "_law_high"] [(1, 0), (2, 2)] = true from by decide +kernel)) rfl rfl (rng1E rfl T.b_range rfl (paE rfl (vn 1 rfl (Or.inl rfl) rfl rfl) aNil)) (fun _ _ _ => (nameG 0 (show (["_law_k", "_law_row_here", "_law_high"] : List Str).Nodup from by decide +kernel) rfl (Or.inl rfl) (Or.inr rfl))) (fun _ _ _ => noTs) (fun _ _ _ => (cbE (k_max rfl) rfl T.b_max PyProof.Rows.boot_max rfl rfl rfl (paE rfl eInt (paE rfl (opE q_sub (opE q_mod (ixLE (K := K) rfl (fun _ _ => rfl) (vn 1 rfl (Or.inr (Or.inl rfl)) rfl rfl) (opE q_addI eInt (opE q_mod (vn 0 rfl (Or.inl rfl) rfl rfl) eInt))) (opE q_addI (vn 2 rfl (Or.inr (Or.inl rfl)) rfl rfl) eInt)) eInt) aNil)))))
      (ssCons (asgE rfl rfl rfl eInt (subG rfl (vn 4 rfl (Or.inl rfl) rfl rfl) (opE q_mod (opE q_fdiv (ixLE (K := K) rfl (fun _ _ => rfl) (vn 0 rfl (Or.inr (Or.inl rfl)) rfl rfl) eInt) eInt) (vn 1 rfl (Or.inl rfl) rfl rfl))))
      (ssCons (forE PassesOwn.never rfl rfl (rng1E rfl T.b_range rfl (paE rfl (vn 2 rfl (Or.inr (Or.inl rfl)) rfl rfl) aNil)) (nameG 5 sc_law_drawn.nd rfl (Or.inl rfl) (Or.inr rfl))
      (ssCons (setE 6 sc_law_drawn.nd rfl (Or.inl rfl) (Or.inr rfl) rfl (lstE aNil))
        (ssCons (forE PassesOwn.never rfl rfl (rng1E rfl T.b_range rfl (paE rfl (vn 1 rfl (Or.inl rfl) rfl rfl) aNil)) (nameG 7 sc_law_drawn.nd rfl (Or.inl rfl) (Or.inr rfl))
        (ssCons (setE 8 sc_law_drawn.nd rfl (Or.inl rfl) (Or.inr rfl) rfl (opE q_addI (opE q_addI (opE q_fdiv (ixLE (K := K) rfl (fun _ _ => rfl) (vn 0 rfl (Or.inr (Or.inl rfl)) rfl rfl) (opE q_addI eInt (opE q_mod (opE q_addI (vn 7 rfl (Or.inl rfl) rfl rfl) (opE q_mulI eInt (vn 5 rfl (Or.inl rfl) rfl rfl))) eInt))) (opE q_addI eInt (opE q_mod (vn 5 rfl (Or.inl rfl) rfl rfl) eInt))) (vn 5 rfl (Or.inl rfl) rfl rfl)) (vn 7 rfl (Or.inl rfl) rfl rfl)))
          (ssOne (exprE rfl (bmE (K := K) rfl PySem.F.plainAttrs_list PySem.F.slot_list_append PySem.F.type_list_append m_append rfl rfl rfl rfl (vn 6 rfl (Or.inl rfl) rfl rfl) (paE rfl (ixLE (K := K) rfl (fun _ _ => rfl) (lstE (paE rfl eStr (paE rfl (calE C_law_signs hr rfl rfl rfl rfl (paE rfl (vn 8 rfl (Or.inl rfl) rfl rfl) (paE rfl (opE q_mod (ixLE (K := K) rfl (fun _ _ => rfl) (vn 0 rfl (Or.inr (Or.inl rfl)) rfl rfl) eInt) eInt) aNil))) aNil))) (ctE k_int rfl T.b_int PyProof.Rows.boot_int rfl rfl rfl (paE rfl (cmpE q_ge rfl (vn 5 rfl (Or.inl rfl) rfl rfl) (ixLE (K := K) rfl (fun _ _ => rfl) (vn 4 rfl (Or.inl rfl) rfl rfl) (vn 7 rfl (Or.inl rfl) rfl rfl))) aNil))) aNil))))))
        (ssOne (exprE rfl (bmE (K := K) rfl PySem.F.plainAttrs_list PySem.F.slot_list_append PySem.F.type_list_append m_append rfl rfl rfl rfl (vn 3 rfl (Or.inl rfl) rfl rfl) (paE rfl (bmE (K := K) rfl PySem.F.plainAttrs_str PySem.F.slot_str_join PySem.F.type_str_join (m_join (K := K) rfl) rfl rfl rfl rfl eStr (paE rfl (vn 6 rfl (Or.inl rfl) rfl rfl) aNil)) aNil)))))))
      (ssOne (retS (vn 3 rfl (Or.inl rfl) rfl rfl))))))))))), ?_⟩
    show tSeq _ _ _ [some (.ref a), none, none, none, none, none, none, none, none] H
    refine seq_split fun n1 k1 => ?_
    walk_at "rd"
    refine ⟨_, hs, _, g0, c0, rfl, by decide, k1 _ _ (seq_split fun n2 k2 => ?_)⟩
    walk_at "rd"
    refine ⟨_, hs, _, g0, c0, rfl, ⟨by decide, by decide⟩, by decide, k2 _ _ (seq_split fun n3 k3 => ?_)⟩
    have main : ∀ wd hi : Int, 1 ≤ wd → wd ≤ 40 → 1 ≤ hi → hi ≤ 40 → n3 [some (.ref a), some (.int wd), some (.int hi), none, none, none, none, none, none] H := by
      intro wd hi w0 w1 i0 i1
      refine k3 _ _ (seq_split fun n4 k4 => ?_)
      walk_at "rd"
      refine ⟨Nat.zero_le _, fun R hR => k4 _ _ (seq_split fun n5 k5 => ?_)⟩
      have smR : Same H (upd H R (.lst [])) := Same.upd hR
      have hsR := smR.seq hs
      refine comp_split fun Kont hK => ?_
      walk_at "rd"
      refine ⟨by omega, by omega, hK _ _ fun D hD => ?_⟩
      have hDH : H D = none := smR.free hD
      refine comp_by (n := wd.toNat) (D := D) (fun i ys σ H' => (∃ o, σ = [o, some (.ref a), some (.int hi)]) ∧ Same (upd H R (.lst [])) H' ∧ H' D = some (.lst ys) ∧ ∃ ts : List Int, ys = ts.map V.int ∧ ts.length = i ∧ ∀ t ∈ ts, 0 ≤ t)
        ⟨⟨none, rfl⟩, Same.upd hD, upd_same, [], rfl, rfl, fun _ h => nomatch h⟩ (fun i _ _ _ hi _ => hi) (fun _ _ _ _ => Nat.le_refl _) ?_ ?_
      · rintro i ys σ H' hi' ⟨⟨o, rfl⟩, sm, hD', ts, rfl, hts, htp⟩ x H2 ⟨e2, e3⟩
        subst e2 e3
        obtain ⟨cv, gv, lv, uv⟩ := get (2 + (i : Int) % 38) (by omega) (by omega)
        walk_at "rd"
        refine ⟨by decide, ⟨_, (smR.trans sm).seq hs, _, gv, cv, rfl, by omega, CK.mk hi' hD' (by rw [List.length_map, hts]; exact big_lt (by omega)) ⟨⟨_, rfl⟩, Same.set sm hD, upd_same, ts ++ [if cv % (hi + 3) - 2 > 0 then cv % (hi + 3) - 2 else 0], ?_, by rw [List.length_append, hts]; rfl, fun t ht => ?_⟩⟩⟩
        · rw [List.map_append]; rfl
        · rcases List.mem_append.mp ht with q | q
          · exact htp t q
          · rw [List.mem_singleton.mp q]
            split <;> omega
      · rintro ys σ H' ⟨_, sm, hD', ts, rfl, hts, htp⟩
        refine k5 _ _ (seq_split fun n6 k6 => ?_)
        have smH := smR.trans sm
        walk_at "rd"
        have hp0 : 0 ≤ c0 / 216 % wd := Int.emod_nonneg _ (by omega)
        have hp1 : c0 / 216 % wd < wd := Int.emod_lt_of_pos _ (by omega)
        obtain ⟨p, hp⟩ := Int.eq_ofNat_of_zero_le hp0
        have hpl : p < ts.length := by omega
        have hix : ixN (ts.map V.int).length (c0 / 216 % wd) = some p := by
          rw [hp]
          unfold ixN
          rw [if_pos (by omega), if_pos (by rw [List.length_map]; omega)]
          rfl
        refine ⟨_, smH.seq hs, _, g0, c0, rfl, ⟨by decide, by decide⟩, by omega, _, hD', p, hix, k6 _ _ ?_⟩
        rw [show (V.int 0) = V.int (0 : Int) from rfl, ← List.map_set]
        have hlen : (ts.set p 0).length = wd.toNat := by rw [List.length_set]; exact hts
        have hts0 : (ts.set p 0)[p]? = some 0 := by simp [hpl]
        generalize ts.set p 0 = tt at hlen hts0
        have RD : R ≠ D := fun e => by rw [← e, upd_same] at hD; cases hD
        have h6R : upd H' D (.lst (tt.map V.int)) R = some (.lst (([] : List Str).map V.str)) := by rw [upd_ne RD]; exact sm R _ upd_same
        have sm6 : Same H (upd H' D (.lst (tt.map V.int))) := Same.set smH hDH
        have h6D : upd H' D (.lst (tt.map V.int)) D = some (.lst (tt.map V.int)) := upd_same
        generalize upd H' D (.lst (tt.map V.int)) = H6 at h6R sm6 h6D
        refine seq_split fun n7 k7 => for_split fun Kont hK => ?_
        walk_at "rd"
        refine ⟨by omega, by omega, hK _ _ (for_range (fun i σ H' => ∃ (o5 o6 o7 o8 : Option V) (rows : List Str), σ = [some (.ref a), some (.int wd), some (.int hi), some (.ref R), some (.ref D), o5, o6, o7, o8] ∧ Same H H' ∧ H' D = some (.lst (tt.map V.int)) ∧ H' R = some (.lst (rows.map V.str)) ∧ rows.length = i ∧
            ∀ (r : Nat) (z : Str), rows[r]? = some z → z.cps.size = wd.toNat ∧ ∀ (j c : Nat), z.cps[j]? = some c → ∃ t, tt[j]? = some t ∧ ((((r : Int) < t) ∧ c = 46) ∨ (¬ ((r : Int) < t) ∧ isLet c = true)))
          ⟨none, none, none, none, [], rfl, sm6, h6D, h6R, rfl, fun r z e => by simp at e⟩ ?_ ?_)⟩
        · rintro k σ H7 hk ⟨o5, o6, o7, o8, rows, rfl, sm7, h7D, h7R, hrl, hrows⟩
          show tSeq _ _ _ [some (.ref a), some (.int wd), some (.int hi), some (.ref R), some (.ref D), some (.int (0 + k)), o6, o7, o8] H7
          rw [Int.zero_add]
          refine seq_split fun n8 k8 => ?_
          walk_at "rd"
          refine ⟨Nat.zero_le _, fun L hL => k8 _ _ (seq_split fun n9 k9 => for_split fun Kont hK => ?_)⟩
          walk_at "rd"
          refine ⟨by omega, by omega, hK _ _ (for_range (fun j σ H' => ∃ (o7 o8 : Option V) (cs : List Nat), σ = [some (.ref a), some (.int wd), some (.int hi), some (.ref R), some (.ref D), some (.int k), some (.ref L), o7, o8] ∧ Same H7 H' ∧ H' L = some (.lst ((cs.map sgn).map V.str)) ∧ cs.length = j ∧
              ∀ (j' c : Nat), cs[j']? = some c → ∃ t, tt[j']? = some t ∧ ((((k : Int) < t) ∧ c = 46) ∨ (¬ ((k : Int) < t) ∧ isLet c = true)))
            ⟨_, _, [], rfl, Same.upd hL, upd_same, rfl, fun r z e => by simp at e⟩ ?_ ?_)⟩
          · rintro j σ H8 hj ⟨o7, o8, cs, rfl, sm8, h8L, hcl, hcs⟩
            show tSeq _ _ _ [some (.ref a), some (.int wd), some (.int hi), some (.ref R), some (.ref D), some (.int k), some (.ref L), some (.int (0 + j)), o8] H8
            rw [Int.zero_add]
            have hs8 := (sm7.trans sm8).seq hs
            obtain ⟨cv, gv, lv, uv⟩ := get (2 + ((j : Int) + 5 * k) % 38) (by omega) (by omega)
            have hjt : j < tt.length := by omega
            have gt : atI (tt.map V.int) (j : Int) = some (V.int tt[j]) := atI_nat (by simp [hjt])
            have nn : 0 ≤ cv / (7 + (k : Int) % 3) := Int.ediv_nonneg lv (by omega)
            refine seq_op fun D1 k10 _ => ?_
            walk_at "rd"
            refine ⟨.inl ⟨by decide, by decide⟩, by decide, _, hs8, _, gv, by decide, cv, rfl, ⟨by omega, by omega⟩, k10 _ _ (ends_op fun D2 k11 _ => ?_)⟩
            walk_at "rd"
            have dn : ∀ (c : Nat) (p : Addr) (HH : Hp), Same H7 HH → HH L = some (.lst ((cs.map sgn).map V.str)) → ((((k : Int) < tt[j]) ∧ c = 46) ∨ (¬ ((k : Int) < tt[j]) ∧ isLet c = true)) →
                D2.nx [some (.ref a), some (.int wd), some (.int hi), some (.ref R), some (.ref D), some (.int k), some (.ref L), some (.int j), some (.int (cv / (7 + (k : Int) % 3) + k + j))] (upd HH L (.lst ((cs.map sgn).map V.str ++ [.str ⟨#[c]⟩]))) := fun c p HH smh hHL hc =>
              k11 _ _ ⟨_, _, cs ++ [c], rfl, Same.set smh hL, by rw [upd_same, List.map_append, List.map_append]; rfl, by rw [List.length_append, hcl]; rfl, fun j' c' e => by
                by_cases hj' : j' < cs.length
                · rw [List.getElem?_append_left hj'] at e
                  exact hcs j' c' e
                · have ej : j' = j := by
                    have := (List.getElem?_eq_some_iff.mp e).1
                    rw [List.length_append] at this
                    simp only [List.length_cons, List.length_nil] at this
                    omega
                  subst ej
                  rw [List.getElem?_append_right (by omega), hcl, Nat.sub_self] at e
                  cases e
                  exact ⟨tt[j'], by simp [hjt], hc⟩⟩
            refine ⟨.inl ⟨_, SqL.of h8L⟩, _, hs8, _, g1, c1, rfl, by decide, _, _, rfl, by omega, by omega, fun c hc => ⟨(show 2 ≤ sizeLine by decide), fun p hp => ?_⟩⟩
            have smp : Same H8 (upd H8 p (.lst [.str (Str.ofString "."), .str ⟨#[c]⟩])) := Same.upd hp
            have pl : (((cs.map sgn).map V.str)).length < sizeLine := by rw [List.length_map, List.length_map, hcl]; exact big_lt (by omega)
            refine ⟨_, SqL.of (smp D _ (sm8 D _ h7D)), _, gt, tt[j], rfl, _, SqL.of upd_same, ?_⟩
            by_cases ht : tt[j] ≤ (k : Int)
            · rw [decide_eq_true ht]
              exact ⟨.str ⟨#[c]⟩, rfl, _, smp L _ h8L, pl, dn c p _ (sm8.trans smp) (smp L _ h8L) (.inr ⟨by omega, hc⟩)⟩
            · rw [decide_eq_false ht]
              exact ⟨.str (Str.ofString "."), rfl, _, smp L _ h8L, pl, dn 46 p _ (sm8.trans smp) (smp L _ h8L) (.inl ⟨by omega, rfl⟩)⟩
          · rintro σ H8 ⟨o7, o8, cs, rfl, sm8, h8L, hcl, hcs⟩
            refine k9 _ _ ?_
            walk_at "rd"
            have sm78 := sm7.trans sm8
            refine ⟨.inl ⟨_, SqL.of (sm8 R _ h7R)⟩, cs.map sgn, SqL.of h8L, ?_, _, sm8 R _ h7R, by rw [List.length_map, hrl]; exact big_lt (by omega), Same.set sm78 hR, ?_, rows ++ [⟨cs.toArray⟩], ?_, by rw [List.length_append, hrl]; rfl, ?_⟩
            · rw [sgn_sum, List.length_map, show (Str.ofString "").length = 0 from rfl]
              omega
            · rw [upd_ne (Ne.symm RD)]
              exact sm8 D _ h7D
            · rw [upd_same, List.map_append, show Txt.join (Str.ofString "") (cs.map sgn) = Str.join (Str.ofString "") (cs.map sgn) from StrLaws.glued_eq_join _ _, join_signs]
              rfl
            · intro r z e
              by_cases hr' : r < rows.length
              · rw [List.getElem?_append_left hr'] at e
                exact hrows r z e
              · have er : r = k := by
                  have := (List.getElem?_eq_some_iff.mp e).1
                  rw [List.length_append] at this
                  simp only [List.length_cons, List.length_nil] at this
                  omega
                subst er
                rw [List.getElem?_append_right (by omega), hrl, Nat.sub_self] at e
                cases e
                refine ⟨by simp [hcl], fun j c hc => hcs j c (by simpa using hc)⟩
        · rintro σ H7 ⟨o5, o6, o7, o8, rows, rfl, sm7, h7D, h7R, hrl, hrows⟩
          refine k7 _ _ ?_
          walk_at "rd"
          exact q R H7 rows sm7 hR h7R (cut_of (hi := hi.toNat) (wd := wd.toNat) (p := p) (by omega) (by omega) (by omega) (by omega) hrl (by omega) hts0 hrows)
    walk_at "rd"
    refine ⟨_, hs, _, g0, c0, rfl, ⟨by decide, by decide⟩, by decide, ite2 (fun _ => ?_) fun _ => ?_⟩
    · refine ⟨_, hs, _, g1, c1, rfl, by decide, ⟨_, hs, _, g1, c1, rfl, ⟨by decide, by decide⟩, by decide, ?_⟩⟩
      exact main _ _ (by omega) (by omega) (by omega) (by omega)
    · exact main _ _ (by omega) (by omega) (by omega) (by omega)
end
end K03
namespace K03
open PySem L2 Cut
local macro_rules | `(tactic| walk_at "rd") => `(tactic| simp only [tSeq, tNext, tIfS, tRet, tRetN, tDrop, tAsg, gName, tTest, tB, tAnd, tOr, tNot, tAndV, tOrV, tNotV, tIf, tOp, tUn, tC, tVar, tCB, tCall, tNil, tCons, tTup, tLst, tChain, tBM, tBM0, tSl, tPart, tNoPart, tYes, rI, rI0, rU, rEqA, rNeA, rEq, rNe, rAddA, rAddS, rMulA, rCat, rRep, rIx, rIxL, rIxT, rIxS, rInA, rInS, rNotInA, rNotInS, rEqB, rNeB, rEqL, rNeL, rEqT, rNeT, rMulS, rSplit, rClear, rExtend, rSetL, gSub, gTup, gCons, gNil, iEnum, iZipS, rIn, rSlA, rSlL, rSlT, rSlS, rAppend, rJoin, LenV, TruV, iRng1, iRng2, iAny, scal, tyV,
  List.getElem?_cons_zero, List.getElem?_cons_succ, List.set_cons_zero, List.set_cons_succ, Option.some.injEq, V.int.injEq, V.str.injEq, V.bl.injEq, V.ref.injEq, V.ty.injEq, List.cons.injEq, reduceCtorEq, and_true, true_and, and_false, false_and, or_false, false_or, or_true, true_or, exists_false, exists_eq_left', exists_eq_left, exists_eq_right, exists_eq_right', exists_and_left, exists_and_right, exists_eq, List.cons_append, List.nil_append, List.append_nil, exists_const, and_assoc, Int.zero_add, Bool.not_true, Bool.not_false, Bool.false_eq_true, if_true, if_false, eq_self])

def sp_is_row : Sp := fun vs H Q _ => ∃ z : Str, vs = [.str z] ∧ z.length ≤ 1000 ∧ ∀ H', Same H H' → Q (.bl (rowB z)) H'
def sp_beneath : Sp := fun vs H Q _ => ∃ row above : Str, vs = [.str row, .str above] ∧ row.length ≤ 1000 ∧ above.length ≤ 1000 ∧ ∀ H', Same H H' → Q (.bl (beneathB row above)) H'
def sp_letters_in (K : PySem.W.Frag) : Sp := fun vs H Q _ => ∃ (a : Addr) (rows : List Str), vs = [.ref a] ∧ SqL K H a (rows.map V.str) ∧ (rows.map (·.length)).sum ≤ 3000 ∧ (∀ r ∈ rows, r.cps.toList.all okc = true) ∧
  ∀ l H' ss, Same H H' → H l = none → H' l = some (.lst (ss.map V.str)) → ss.Perm (firstsOf ((signsOf rows).map sgn)) → PyProof.Rows.sortedS ss = true → Q (.ref l) H'
/-- of a cut -/
def sp_rows_of : Sp := fun vs H Q _ => ∃ rows : List Str, vs = [.str (Str.join nl rows)] ∧ IsCut rows ∧ ∀ l H', Same H H' → H l = none → H' l = some (.lst (rows.map V.str)) → Q (.ref l) H'
section
variable {P : Program} {w : World} {K : PySem.W.Frag} {mg : Str → Option Value} {base : Heap}
theorem signs_all (z : Str) (i : Nat) (c : Nat) (h : z.cps[i]? = some c) : (z.cps.toList.take i ++ [c]) = z.cps.toList.take (i + 1) := by
  have h' : z.cps.toList[i]? = some c := by simpa using h
  obtain ⟨hlt, e⟩ := List.getElem?_eq_some_iff.mp h'
  rw [List.take_succ_eq_append_getElem hlt, e]
theorem sgn_eq (c d : Nat) : ((⟨#[c]⟩ : Str) = ⟨#[d]⟩) ↔ c = d := by
  constructor
  · intro h
    have : (#[c] : Array Nat) = #[d] := by injection h
    simpa using this
  · intro h; rw [h]
theorem dot_eq (c : Nat) : ((⟨#[c]⟩ : Str) = Str.ofString ".") ↔ c = 46 := sgn_eq c 46
set_option maxHeartbeats 4000000 in
theorem C_is_row (T : Txt K mg) : Cal P w K mg base 1 "is_row" ["row"] sp_is_row := by
  refine T.d_is_row.cal sc_is_row (fun vs H Q E h => ?_) (fun f cdv A outer s H vs Q E hr h => ?_)
  · obtain ⟨z, rfl, _⟩ := h
    rfl
  · obtain ⟨z, rfl, hz, k⟩ := h
    refine ⟨_, (QSs.h (ssOne (retS (andV (chainE q_le q_le rfl eInt (cbE (k_len (K := K) rfl) rfl T.b_len PySem.boot_len rfl rfl rfl (paE rfl (vn 0 rfl (Or.inl rfl) rfl rfl) aNil)) (gvE T.g_MOST_SIGNS rfl rfl)) (oneV (cbE (k_all (K := K) rfl rfl) rfl T.b_all PyProof.Rows.boot_all rfl rfl rfl (paE rfl (compE (CompScope.of (show compOk (defScope s_is_row) ["row"] _ ["sign"] [] = true from by decide +kernel)) rfl rfl (anyI (K := K) rfl (vn 0 rfl (Or.inl rfl) rfl rfl)) (fun _ _ _ => (nameG 0 (show (["sign"] : List Str).Nodup from by decide +kernel) rfl (Or.inl rfl) (Or.inr rfl))) (fun _ _ _ => noTs) (fun _ _ _ => (orV (cmpE q_eqA rfl (vn 0 rfl (Or.inl rfl) rfl rfl) (gvE T.g_AIR rfl rfl)) (oneV (cmpE (q_in (K := K) rfl) rfl (vn 0 rfl (Or.inl rfl) rfl rfl) (gvE T.g_LETTERS rfl rfl)))))) aNil))))))), ?_⟩
    show tRet _ _ [some (.str z)] H
    walk_at "rd"
    refine ⟨big_line (by omega), ite2 (fun h1 => ite2 (fun h8 => ?_) fun h8 => ?_) fun h1 => ?_⟩
    · refine comp_split fun Kont hK => ?_
      walk_at "rd"
      refine hK _ _ fun D hD => ?_
      refine comp_by (J := Its z) (n := z.cps.size) (D := D) (fun i ys σ H' => (∃ o, σ = [o]) ∧ Same H H' ∧ H' D = some (.lst ys) ∧ ys = (z.cps.toList.take i).map (fun c => V.bl (okc c))) ⟨⟨none, rfl⟩, Same.upd hD, upd_same, rfl⟩
        (fun i _ _ _ hi _ => hi) (fun _ _ _ _ => Nat.le_refl _) ?_ ?_
      · rintro i ys σ H' hi ⟨⟨o, rfl⟩, sm, hl, hy⟩ x H2 ⟨e2, c, hc, rfl⟩
        subst e2
        have hlen : ys.length = i := by
          rw [hy, List.length_map, List.length_take]
          have : z.cps.toList.length = z.cps.size := by simp
          omega
        have hi8 : i < 1000 := by
          have : z.length = z.cps.size := rfl
          omega
        have put : ∀ b : Bool, b = okc c → CK D z.cps.size i (fun i ys σ H' => (∃ o, σ = [o]) ∧ Same H H' ∧ H' D = some (.lst ys) ∧ ys = (z.cps.toList.take i).map (fun c => V.bl (okc c))) ys [some (.str ⟨#[c]⟩)] (.bl b) H2 := fun b eb =>
          CK.mk hi hl (by rw [hlen]; exact big_lt (by omega)) ⟨⟨_, rfl⟩, Same.set sm hD, upd_same, by rw [eb, hy, ← signs_all z i c hc, List.map_append]; rfl⟩
        walk_at "rd"
        refine ite2 (fun hd => put true ?_) fun hd => put _ ?_
        · have := (dot_eq c).mp (of_decide_eq_true hd)
          unfold okc
          rw [decide_eq_true this, Bool.true_or]
        · have hd : ¬ (⟨#[c]⟩ : Str) = Str.ofString "." := fun e => hd (decide_eq_true e)
          have : ¬ c = 46 := fun e => hd ((dot_eq c).mpr e)
          unfold okc
          rw [decide_eq_false this, Bool.false_or, in_one]
          rfl
      · rintro ys σ H' ⟨_, sm, hl, hy⟩
        walk_at "rd"
        refine ⟨z.cps.toList.map okc, ?_, ?_⟩
        · have e : z.cps.toList.take z.cps.size = z.cps.toList := by
            apply List.take_of_length_le
            simp
          rw [e] at hy
          have : (z.cps.toList.map okc).map V.bl = ys := by rw [hy, List.map_map]; rfl
          rw [this]
          exact SqL.of hl
        · have e : rowB z = (z.cps.toList.map okc).all id := by
            unfold rowB
            rw [h1, h8, List.all_map]
            all_goals rfl
          rw [← e]
          exact k H' sm
    · rw [Bool.not_eq_true] at h8
      have e : rowB z = false := by unfold rowB; rw [h8, Bool.and_false, Bool.false_and]
      rw [e] at k
      exact k H (Same.refl H)
    · rw [Bool.not_eq_true] at h1
      have e : rowB z = false := by unfold rowB; rw [h1, Bool.false_and, Bool.false_and]
      rw [e] at k
      exact k H (Same.refl H)
end
end K03
namespace K03
open PySem L2 Cut
local macro_rules | `(tactic| walk_at "rd") => `(tactic| simp only [tSeq, tNext, tIfS, tRet, tRetN, tDrop, tAsg, gName, tTest, tB, tAnd, tOr, tNot, tAndV, tOrV, tNotV, tIf, tOp, tUn, tC, tVar, tCB, tCall, tNil, tCons, tTup, tLst, tChain, tBM, tBM0, tSl, tPart, tNoPart, tYes, rI, rI0, rU, rEqA, rNeA, rEq, rNe, rAddA, rAddS, rMulA, rCat, rRep, rIx, rIxL, rIxT, rIxS, rInA, rInS, rNotInA, rNotInS, rEqB, rNeB, rEqL, rNeL, rEqT, rNeT, rMulS, rSplit, rClear, rExtend, rSetL, gSub, gTup, gCons, gNil, iEnum, iZipS, rIn, rSlA, rSlL, rSlT, rSlS, rAppend, rJoin, LenV, TruV, iRng1, iRng2, iAny, scal, tyV,
  List.getElem?_cons_zero, List.getElem?_cons_succ, List.set_cons_zero, List.set_cons_succ, Option.some.injEq, V.int.injEq, V.str.injEq, V.bl.injEq, V.ref.injEq, V.ty.injEq, List.cons.injEq, reduceCtorEq, and_true, true_and, and_false, false_and, or_false, false_or, or_true, true_or, exists_false, exists_eq_left', exists_eq_left, exists_eq_right, exists_eq_right', exists_and_left, exists_and_right, exists_eq, List.cons_append, List.nil_append, List.append_nil, exists_const, and_assoc, Int.zero_add, Bool.not_true, Bool.not_false, Bool.false_eq_true, if_true, if_false, eq_self])

section
variable {P : Program} {w : World} {K : PySem.W.Frag} {mg : Str → Option Value} {base : Heap}
def bothB (p : Nat × Nat) : Bool := !decide (p.2 = 46) || decide (p.1 = 46)
theorem zip_next (x y : Str) (i c d : Nat) (h1 : x.cps[i]? = some c) (h2 : y.cps[i]? = some d) : ((List.zip x.cps.toList y.cps.toList).take i ++ [(c, d)]) = (List.zip x.cps.toList y.cps.toList).take (i + 1) := by
  have h : (List.zip x.cps.toList y.cps.toList)[i]? = some (c, d) := List.getElem?_zip_eq_some.mpr ⟨by simpa using h1, by simpa using h2⟩
  obtain ⟨hlt, e⟩ := List.getElem?_eq_some_iff.mp h
  rw [List.take_succ_eq_append_getElem hlt, e]
set_option maxHeartbeats 4000000 in
theorem C_lies_beneath (T : Txt K mg) : Cal P w K mg base 1 "lies_beneath" ["row", "above"] sp_beneath := by
  refine T.d_lies_beneath.cal sc_lies_beneath (fun vs H Q E h => ?_) (fun f cdv A outer s H vs Q E hr h => ?_)
  · obtain ⟨row, above, rfl, _⟩ := h
    rfl
  · obtain ⟨row, above, rfl, hz1, hz2, k⟩ := h
    refine ⟨_, (QSs.h (ssCons (ifS (cmpT q_neA rfl (cbE (k_len (K := K) rfl) rfl T.b_len PySem.boot_len rfl rfl rfl (paE rfl (vn 0 rfl (Or.inl rfl) rfl rfl) aNil)) (cbE (k_len (K := K) rfl) rfl T.b_len PySem.boot_len rfl rfl rfl (paE rfl (vn 1 rfl (Or.inl rfl) rfl rfl) aNil)))
      (ssOne (retS eBl))
      ssNil)
      (ssOne (retS (cbE (k_all (K := K) rfl rfl) rfl T.b_all PyProof.Rows.boot_all rfl rfl rfl (paE rfl (compE (CompScope.of (show compOk (defScope s_lies_beneath) ["row", "above"] _ ["high", "low"] [] = true from by decide +kernel)) rfl rfl (zipSI rfl T.b_zip rfl rfl (paE rfl (vn 1 rfl (Or.inl rfl) rfl rfl) (paE rfl (vn 0 rfl (Or.inl rfl) rfl rfl) aNil))) (fun _ _ _ => (tupG (K := K) rfl rfl rfl (gsE rfl (nameG 0 (show (["high", "low"] : List Str).Nodup from by decide +kernel) rfl (Or.inl rfl) (Or.inr rfl)) (gsE rfl (nameG 1 (show (["high", "low"] : List Str).Nodup from by decide +kernel) rfl (Or.inl rfl) (Or.inr rfl)) gsNil)))) (fun _ _ _ => noTs) (fun _ _ _ => (orV (cmpE q_neA rfl (vn 1 rfl (Or.inl rfl) rfl rfl) (gvE T.g_AIR rfl rfl)) (oneV (cmpE q_eqA rfl (vn 0 rfl (Or.inl rfl) rfl rfl) (gvE T.g_AIR rfl rfl)))))) aNil)))))), ?_⟩
    show tSeq _ _ _ [some (.str row), some (.str above)] H
    refine seq_op fun D1 k1 r1 => ?_
    walk_at "rd"
    refine ⟨big_line (by omega), big_line (by omega), ite2 (fun h1 => ?_) fun h1 => ?_⟩
    · have h1 : ¬ ((row.length : Int) = above.length) := by simpa using h1
      have e : beneathB row above = false := by
        unfold beneathB
        rw [decide_eq_false (by omega), Bool.false_and]
      rw [e] at k
      exact r1 _ _ (k H (Same.refl H))
    · have h1 : row.length = above.length := by
        have : (row.length : Int) = above.length := by simpa using h1
        omega
      refine k1 _ _ ?_
      have hsz : row.cps.size = above.cps.size := h1
      have hzl : (List.zip above.cps.toList row.cps.toList).length = above.cps.size := by rw [List.length_zip]; simp [hsz]
      walk_at "rd"
      refine comp_split fun Kont hK => ?_
      walk_at "rd"
      refine hK _ _ fun D hD => ?_
      refine comp_by (J := Itz above row) (n := above.cps.size) (D := D) (fun i ys σ H' => (∃ o1 o2, σ = [o1, o2]) ∧ Same H H' ∧ H' D = some (.lst ys) ∧ ys = ((List.zip above.cps.toList row.cps.toList).take i).map (fun p => V.bl (bothB p))) ⟨⟨none, none, rfl⟩, Same.upd hD, upd_same, rfl⟩
        (fun i _ _ _ hi _ => ⟨hi, by omega⟩) (fun _ _ _ _ => ⟨Nat.le_refl _, by omega, .inl rfl⟩) ?_ ?_
      · rintro i ys σ H' hi ⟨⟨o1, o2, rfl⟩, sm, hl, hy⟩ x H2 ⟨c, d, TT, hc, hd, hT, rfl, rfl⟩
        have hlen : ys.length = i := by rw [hy, List.length_map, List.length_take, hzl]; omega
        have hi8 : i < 1000 := by
          have : above.length = above.cps.size := rfl
          omega
        have smT : Same H (upd H' TT (.tup [.str ⟨#[c]⟩, .str ⟨#[d]⟩])) := sm.trans (Same.upd hT)
        have hl2 : upd H' TT (.tup [.str ⟨#[c]⟩, .str ⟨#[d]⟩]) D = some (.lst ys) := Same.upd hT _ _ hl
        have put : ∀ b : Bool, b = bothB (c, d) → CK D above.cps.size i (fun i ys σ H' => (∃ o1 o2, σ = [o1, o2]) ∧ Same H H' ∧ H' D = some (.lst ys) ∧ ys = ((List.zip above.cps.toList row.cps.toList).take i).map (fun p => V.bl (bothB p))) ys [some (.str ⟨#[c]⟩), some (.str ⟨#[d]⟩)] (.bl b) (upd H' TT (.tup [.str ⟨#[c]⟩, .str ⟨#[d]⟩])) := fun b eb =>
          CK.mk hi hl2 (by rw [hlen]; exact big_lt (by omega)) ⟨⟨_, _, rfl⟩, Same.set smT hD, upd_same, by rw [eb, hy, ← zip_next above row i c d hc hd, List.map_append]; rfl⟩
        walk_at "rd"
        refine ⟨_, SqT.of upd_same, rfl, _, _, rfl, _, _, rfl, rfl, rfl, ?_⟩
        simp only [V.str.injEq, dot_eq]
        refine ite2 (fun h => put true ?_) fun h => ⟨trivial, put _ ?_⟩
        · unfold bothB
          rw [h, Bool.true_or]
        · unfold bothB
          rw [Bool.not_eq_true] at h
          rw [h, Bool.false_or]
      · rintro ys σ H' ⟨_, sm, hl, hy⟩
        walk_at "rd"
        refine ⟨(List.zip above.cps.toList row.cps.toList).map bothB, ?_, ?_⟩
        · have e : (List.zip above.cps.toList row.cps.toList).take above.cps.size = List.zip above.cps.toList row.cps.toList := List.take_of_length_le (by omega)
          rw [e] at hy
          have : ((List.zip above.cps.toList row.cps.toList).map bothB).map V.bl = ys := by rw [hy, List.map_map]; rfl
          rw [this]
          exact SqL.of hl
        · have e : beneathB row above = ((List.zip above.cps.toList row.cps.toList).map bothB).all id := by
            unfold beneathB
            rw [decide_eq_true h1, List.all_map, Bool.true_and]
            rfl
          rw [← e]
          exact k H' sm

theorem few_signs {rows : List Str} (h : (rows.map (·.length)).sum ≤ 3000) : (Str.join (Str.ofString "") rows).length ≤ 3000 := by
  have := StrLaws.join_length_le (Str.ofString "") rows
  rw [show (Str.ofString "").length = 0 from rfl] at this
  omega
set_option maxHeartbeats 4000000 in
theorem C_letters_in (T : Txt K mg) : Cal P w K mg base 1 "letters_in" ["rows"] (sp_letters_in K) := by
  refine T.d_letters_in.cal sc_letters_in (fun vs H Q E h => ?_) (fun f cdv A outer s H vs Q E hr h => ?_)
  · obtain ⟨a, rows, rfl, _⟩ := h
    rfl
  · obtain ⟨a, rows, rfl, hs, hsum, hok, k⟩ := h
    refine ⟨_, (QSs.h (ssOne (retS (cbE (k_sortedS (w := w) rfl rfl) rfl T.b_sorted PyProof.Rows.boot_sorted rfl rfl rfl (paE rfl (ctE (k_set (K := K) (w := w) rfl rfl rfl) rfl T.b_set PyProof.Rows.boot_set rfl rfl rfl (paE rfl (compE (CompScope.of (show compOk (defScope s_letters_in) ["rows"] _ ["sign"] [] = true from by decide +kernel)) rfl rfl (anyI (K := K) rfl (bmE (K := K) rfl PySem.F.plainAttrs_str PySem.F.slot_str_join PySem.F.type_str_join (m_join (K := K) rfl) rfl rfl rfl rfl eStr (paE rfl (vn 0 rfl (Or.inl rfl) rfl rfl) aNil))) (fun _ _ _ => (nameG 0 (show (["sign"] : List Str).Nodup from by decide +kernel) rfl (Or.inl rfl) (Or.inr rfl))) (fun _ _ _ => (oneTs (cmpT q_neA rfl (vn 0 rfl (Or.inl rfl) rfl rfl) (gvE T.g_AIR rfl rfl)))) (fun _ _ _ => (vn 0 rfl (Or.inl rfl) rfl rfl))) aNil)) aNil))))), ?_⟩
    show tRet _ _ [some (.ref a)] H
    walk_at "rd"
    refine comp_split fun Kont hK => ?_
    walk_at "rd"
    refine ⟨rows, hs, by rw [show (Str.ofString "").length = 0 from rfl]; omega, ?_⟩
    rw [show Txt.join (Str.ofString "") rows = Str.join (Str.ofString "") rows from StrLaws.glued_eq_join _ _]
    have hfew := few_signs hsum
    have hlet := signs_let hok
    unfold signsOf at hlet k
    generalize Str.join (Str.ofString "") rows = z at hfew hlet k ⊢
    refine hK _ _ fun D hD => ?_
    refine comp_by (J := Its z) (n := z.cps.size) (D := D) (fun i ys σ H' => (∃ o, σ = [o]) ∧ Same H H' ∧ H' D = some (.lst ys) ∧ ys = ((z.cps.toList.take i).filter (fun c => decide (c ≠ 46))).map (fun c => V.str (sgn c))) ⟨⟨none, rfl⟩, Same.upd hD, upd_same, rfl⟩
      (fun i _ _ _ hi _ => hi) (fun _ _ _ _ => Nat.le_refl _) ?_ ?_
    · rintro i ys σ H' hi ⟨⟨o, rfl⟩, sm, hl, hy⟩ x H2 ⟨e2, c, hc, rfl⟩
      subst e2
      have hlen : ys.length ≤ i := by
        rw [hy, List.length_map]
        have := List.length_filter_le (fun c => decide (c ≠ 46)) (z.cps.toList.take i)
        rw [List.length_take] at this
        omega
      have hi8 : i < 3000 := by
        have : z.length = z.cps.size := rfl
        omega
      walk_at "rd"
      simp only [dot_eq]
      refine ite2 (fun hd => ?_) fun hd => ?_
      · refine CK.mk hi hl (big_lt (by omega)) ⟨⟨_, rfl⟩, Same.set sm hD, upd_same, ?_⟩
        rw [← signs_all z i c hc, List.filter_append, List.map_append, hy]
        have : decide (c ≠ 46) = true := by simpa using hd
        rw [List.filter_cons, this]
        rfl
      · refine CN.mk hi ⟨⟨_, rfl⟩, sm, hl, ?_⟩
        rw [← signs_all z i c hc, List.filter_append, List.map_append, hy]
        have : decide (c ≠ 46) = false := by simpa using hd
        rw [List.filter_cons, this]
        simp
    · rintro ys σ H' ⟨_, sm, hl, hy⟩
      have e : z.cps.toList.take z.cps.size = z.cps.toList := by
        apply List.take_of_length_le
        simp
      rw [e] at hy
      walk_at "rd"
      have hfl := List.length_filter_le (fun c => decide (c ≠ 46)) z.cps.toList
      have hzz : z.cps.toList.length = z.length := by simp [Str.length]
      refine ⟨(z.cps.toList.filter (fun c => decide (c ≠ 46))).map sgn, ?_, by rw [List.length_map]; omega, fun S hS => ⟨_, upd_same, ?_, fun l ss hl' hp hst => ?_⟩⟩
      · rw [List.map_map]
        have : (z.cps.toList.filter (fun c => decide (c ≠ 46))).map (V.str ∘ sgn) = ys := by rw [hy]; rfl
        rw [this]
        exact SqL.of hl
      · have := firsts_few hlet
        omega
      · have smS : Same H (upd H' S (SetO w S (firstsOf ((z.cps.toList.filter (fun c => decide (c ≠ 46))).map sgn)))) := sm.trans (Same.upd hS)
        exact k l _ ss (smS.trans (Same.upd hl')) (smS.free hl') upd_same hp hst
end
end K03
namespace K03
open PySem L2 Cut
local macro_rules | `(tactic| walk_at "rd") => `(tactic| simp only [tSeq, tNext, tIfS, tRet, tRetN, tDrop, tAsg, gName, tTest, tB, tAnd, tOr, tNot, tAndV, tOrV, tNotV, tIf, tOp, tUn, tC, tVar, tCB, tCall, tNil, tCons, tTup, tLst, tChain, tBM, tBM0, tSl, tPart, tNoPart, tYes, rI, rI0, rU, rEqA, rNeA, rEq, rNe, rAddA, rAddS, rMulA, rCat, rRep, rIx, rIxL, rIxT, rIxS, rInA, rInS, rNotInA, rNotInS, rEqB, rNeB, rEqL, rNeL, rEqT, rNeT, rMulS, rSplit, rClear, rExtend, rSetL, gSub, gTup, gCons, gNil, iEnum, iZipS, rIn, rSlA, rSlL, rSlT, rSlS, rAppend, rJoin, LenV, TruV, iRng1, iRng2, iAny, scal, tyV,
  List.getElem?_cons_zero, List.getElem?_cons_succ, List.set_cons_zero, List.set_cons_succ, Option.some.injEq, V.int.injEq, V.str.injEq, V.bl.injEq, V.ref.injEq, V.ty.injEq, List.cons.injEq, reduceCtorEq, and_true, true_and, and_false, false_and, or_false, false_or, or_true, true_or, exists_false, exists_eq_left', exists_eq_left, exists_eq_right, exists_eq_right', exists_and_left, exists_and_right, exists_eq, List.cons_append, List.nil_append, List.append_nil, exists_const, and_assoc, Int.zero_add, Bool.not_true, Bool.not_false, Bool.false_eq_true, if_true, if_false, eq_self])

section
variable {P : Program} {w : World} {K : PySem.W.Frag} {mg : Str → Option Value} {base : Heap}
set_option maxHeartbeats 4000000 in
theorem C_rows_of (T : Txt K mg) : Cal P w K mg base 2 "rows_of" ["text"] sp_rows_of := by
  have C_is_row : Cal P w K mg base 1 "is_row" ["row"] sp_is_row := C_is_row T
  have C_lies_beneath : Cal P w K mg base 1 "lies_beneath" ["row", "above"] sp_beneath := C_lies_beneath T
  have C_letters_in : Cal P w K mg base 1 "letters_in" ["rows"] (sp_letters_in K) := C_letters_in T
  refine T.d_rows_of.cal sc_rows_of (fun vs H Q E h => ?_) (fun f cdv A outer s H vs Q E hr h => ?_)
  · obtain ⟨rows, rfl, _⟩ := h
    rfl
  · obtain ⟨rows, rfl, hcut, k⟩ := h
    obtain ⟨wd, w1, w2, hw⟩ := hcut.wide
    have htl := hcut.text
    have hsp := hcut.split
    refine ⟨_, (QSs.h (ssCons (ifS (notT (truT (K := K) rfl (fun _ => rfl) (cbE (k_isi (K := K) rfl) rfl T.b_isinstance PyProof.Rows.boot_isinstance rfl rfl rfl (paE rfl (vn 0 rfl (Or.inl rfl) rfl rfl) (paE rfl (blE (v := .ty "str") rfl T.b_str PyProof.Rows.boot_str rfl rfl rfl) aNil)))))
      (ssOne neverS)
      ssNil)
      (ssCons (setE 1 sc_rows_of.nd rfl (Or.inl rfl) (Or.inr rfl) rfl (bmE (K := K) rfl PySem.F.plainAttrs_str PySem.F.slot_str_split PySem.F.type_str_split m_split rfl rfl rfl rfl (vn 0 rfl (Or.inl rfl) rfl rfl) (paE rfl eStr aNil)))
      (ssCons (forE PassesOwn.never rfl rfl (enumI (K := K) rfl rfl T.b_enumerate rfl (paE rfl (vn 1 rfl (Or.inl rfl) rfl rfl) aNil)) (tupG (K := K) rfl rfl rfl (gsE rfl (nameG 2 sc_rows_of.nd rfl (Or.inl rfl) (Or.inr rfl)) (gsE rfl (nameG 3 sc_rows_of.nd rfl (Or.inl rfl) (Or.inr rfl)) gsNil)))
      (ssCons (ifS (wT (orW (cmpT q_eqA rfl (vn 2 rfl (Or.inl rfl) rfl rfl) (gvE T.g_MOST_ROWS rfl rfl)) (or1W (notT (truT (K := K) rfl (fun _ => rfl) (calE C_is_row hr rfl rfl rfl rfl (paE rfl (vn 3 rfl (Or.inl rfl) rfl rfl) aNil)))))))
        (ssOne neverS)
        ssNil)
        (ssOne (ifS (wT (andW (cmpT q_gt rfl (vn 2 rfl (Or.inl rfl) rfl rfl) eInt) (and1W (notT (truT (K := K) rfl (fun _ => rfl) (calE C_lies_beneath hr rfl rfl rfl rfl (paE rfl (vn 3 rfl (Or.inl rfl) rfl rfl) (paE rfl (ixLE (K := K) rfl (fun _ _ => rfl) (vn 1 rfl (Or.inl rfl) rfl rfl) (opE q_sub (vn 2 rfl (Or.inl rfl) rfl rfl) eInt)) aNil))))))))
        (ssOne neverS)
        ssNil))))
      (ssCons (ifS (cmpT q_eqA rfl (cbE (k_len (K := K) rfl) rfl T.b_len PySem.boot_len rfl rfl rfl (paE rfl (calE C_letters_in hr rfl rfl rfl rfl (paE rfl (vn 1 rfl (Or.inl rfl) rfl rfl) aNil)) aNil)) eInt)
      (ssOne neverS)
      ssNil)
      (ssOne (retS (vn 1 rfl (Or.inl rfl) rfl rfl)))))))), ?_⟩
    generalize Str.join nl rows = z at htl hsp
    show tSeq _ _ _ [some (.str z), none, none, none] H
    refine seq_op fun D1 k1 _ => ?_
    walk_at "rd"
    refine ⟨.type "str", .str z, true, by rfl, iteF (k1 _ _ (seq_op fun D2 k2 _ => ?_))⟩
    walk_at "rd"
    refine ⟨by decide, Nat.le_trans (by omega : z.length + 2 ≤ 5000) (by decide), fun l hl => k2 _ _ ?_⟩
    rw [show (Str.ofString "\n") = nl from rfl, hsp]
    refine seq_op fun D3 k3 _ => for_split fun Kont hK => ?_
    walk_at "rd"
    have sml : Same H (upd H l (.lst (rows.map V.str))) := Same.upd hl
    refine ⟨_, SqL.of upd_same, hK _ _ (for_enum (fun i σ H' => ∃ o2 o3, σ = [some (.str z), some (.ref l), o2, o3] ∧ Same H H' ∧ H' l = some (.lst (rows.map V.str))) ⟨none, none, rfl, sml, upd_same⟩ (fun i σ H' _ ⟨_, _, _, _, q⟩ => SqL.of q) ?_ ?_)⟩
    · rintro i x TT σ H' hx ⟨o2, o3, rfl, sm, hl'⟩ hT
      obtain ⟨r, hr1, rfl⟩ : ∃ r, rows[i]? = some r ∧ x = V.str r := by
        rw [List.getElem?_map] at hx
        cases e : rows[i]? with
        | none => rw [e] at hx; cases hx
        | some r => rw [e] at hx; exact ⟨r, rfl, (Option.some.inj hx).symm⟩
      have hilt : i < rows.length := (List.getElem?_eq_some_iff.mp hr1).1
      have hi40 := hcut.high
      have smT : Same H (upd H' TT (.tup [.int i, .str r])) := sm.trans (Same.upd hT)
      have hlT : upd H' TT (.tup [.int i, .str r]) l = some (.lst (rows.map V.str)) := Same.upd hT _ _ hl'
      have hgT : upd H' TT (.tup [.int i, .str r]) TT = some (.tup [.int i, .str r]) := upd_same
      generalize upd H' TT (.tup [.int i, .str r]) = HT at smT hlT hgT
      have hrl : r.length ≤ 1000 := by
        have : r.length = wd := hw r (List.mem_of_getElem? hr1)
        omega
      refine ⟨TT, _, rfl, SqT.of hgT, rfl, ⟨_, _, rfl, ⟨_, _, rfl, ⟨rfl, ?_⟩⟩⟩⟩
      show tSeq _ _ _ [some (.str z), some (.ref l), some (.int i), some (.str r)] HT
      refine seq_op fun D4 k4 _ => ?_
      have go : ∀ H2, Same HT H2 → D4.nx [some (.str z), some (.ref l), some (.int i), some (.str r)] H2 := by
        intro H2 sm2
        refine k4 _ _ (ends_op fun D5 k5 _ => ?_)
        have fin : ∀ H3, Same HT H3 → D5.nx [some (.str z), some (.ref l), some (.int i), some (.str r)] H3 := fun H3 sm3 => k5 _ _ ⟨_, _, rfl, smT.trans sm3, sm3 l _ hlT⟩
        walk_at "rd"
        refine ite2 (fun hp => ?_) fun _ => fin _ sm2
        have hp : 0 < (i : Int) := of_decide_eq_true hp
        obtain ⟨i', rfl⟩ : ∃ i', i = i' + 1 := ⟨i - 1, by omega⟩
        have hi' : i' < rows.length := by omega
        have hr0 : rows[i']? = some rows[i'] := by simp [hi']
        have e1 : (((i' + 1 : Nat) : Int) - 1) = (i' : Int) := by omega
        refine ⟨_, SqL.of (sm2 l _ hlT), .str rows[i'], by rw [e1]; exact atI_nat (by simp [hi']), r, rows[i'], rfl, hrl, ?_, fun H3 sm3 => ⟨_, rfl, ?_⟩⟩
        · have : rows[i'].length = wd := hw _ (List.getElem_mem hi')
          omega
        · rw [hcut.beneath hr0 hr1]
          exact iteF (fin _ (sm2.trans sm3))
      walk_at "rd"
      rw [if_neg (by simp; omega)]
      refine ⟨r, rfl, hrl, fun H2 sm2 => ⟨_, rfl, ?_⟩⟩
      rw [hcut.row (List.mem_of_getElem? hr1)]
      exact iteF (go H2 sm2)
    · rintro σ H' ⟨o2, o3, rfl, sm, hl'⟩
      refine k3 _ _ ?_
      walk_at "rd"
      refine ⟨l, rows, rfl, SqL.of hl', by have := hcut.sum; omega, hcut.sign, fun l2 H2 ss sm2 hf2 hl2 hp hst => ⟨_, .inl ⟨_, SqL.of hl2, rfl⟩, ?_⟩⟩
      rw [if_neg]
      · exact k l H2 (sm.trans sm2) hl (sm2 l _ hl')
      · intro h0
        have h0 := of_decide_eq_true h0
        rw [List.length_map] at h0
        have : ss = [] := List.length_eq_zero_iff.mp (by omega)
        rw [this] at hp
        have hm := hp.symm.eq_nil
        obtain ⟨c, hc⟩ := List.exists_mem_of_ne_nil _ hcut.signs_ne
        have : sgn c ∈ firstsOf ((signsOf rows).map sgn) := firstsOf_mem.mpr (List.mem_map.mpr ⟨c, hc, rfl⟩)
        rw [hm] at this
        cases this
end
end K03
namespace K03
open PySem L2 Cut
local macro_rules | `(tactic| walk_at "rd") => `(tactic| simp only [tSeq, tNext, tIfS, tRet, tRetN, tDrop, tAsg, gName, tTest, tB, tAnd, tOr, tNot, tAndV, tOrV, tNotV, tIf, tOp, tUn, tC, tVar, tCB, tCall, tNil, tCons, tTup, tLst, tChain, tBM, tBM0, tSl, tPart, tNoPart, tYes, rI, rI0, rU, rEqA, rNeA, rEq, rNe, rAddA, rAddS, rMulA, rCat, rRep, rIx, rIxL, rIxT, rIxS, rInA, rInS, rNotInA, rNotInS, rEqB, rNeB, rEqL, rNeL, rEqT, rNeT, rMulS, rSplit, rClear, rExtend, rSetL, gSub, gTup, gCons, gNil, iEnum, iZipS, rIn, rSlA, rSlL, rSlT, rSlS, rAppend, rJoin, LenV, TruV, iRng1, iRng2, iAny, scal, tyV,
  List.getElem?_cons_zero, List.getElem?_cons_succ, List.set_cons_zero, List.set_cons_succ, Option.some.injEq, V.int.injEq, V.str.injEq, V.bl.injEq, V.ref.injEq, V.ty.injEq, List.cons.injEq, reduceCtorEq, and_true, true_and, and_false, false_and, or_false, false_or, or_true, true_or, exists_false, exists_eq_left', exists_eq_left, exists_eq_right, exists_eq_right', exists_and_left, exists_and_right, exists_eq, List.cons_append, List.nil_append, List.append_nil, exists_const, and_assoc, Int.zero_add, Bool.not_true, Bool.not_false, Bool.false_eq_true, if_true, if_false, eq_self])

/-- NoCut(n) -/
def sp_NoCut (C : Addr) : Sp := fun vs H Q _ => ∃ (a : Addr) (n : Int), vs = [.ref a, .int n] ∧ n.natAbs < 2 ^ 64 ∧ H a = some (ExO a C none) ∧ ∀ d, H d = none → d ≠ a → Q .non (upd (upd H a (ExO a C (some d))) d (.xd [("row", .int n)]))
/-- rows that are no cut, and the row that is told -/
def RefRows (rows : List Str) (n : Nat) : Prop := (n < rows.length ∧ FineTo rows n ∧ BadAt rows n) ∨ (n = 0 ∧ FineTo rows rows.length ∧ AllAir rows)
def NoText (K : PySem.W.Frag) (H : Hp) (v : V) : Prop := ∃ t, TyOf K H v t ∧ PySem.W.kitOne K t (.type "str") = some false
def RefV (K : PySem.W.Frag) (H : Hp) (v : V) (n : Nat) : Prop := (∃ rows, v = .str (Str.join nl rows) ∧ OkRows rows 50 ∧ RefRows rows n) ∨ (n = 0 ∧ NoText K H v)
def sp_badN (K : PySem.W.Frag) (C : Addr) : Sp := fun vs H _ E => ∃ (v : V) (n : Nat), vs = [v] ∧ RefV K H v n ∧ ∀ d H', Same H H' → H d = none → H' d = some (.xd [("row", .int n)]) → E (.ref C) (some d) H'
def sp_refusedN (K : PySem.W.Frag) : Sp := fun vs H Q _ => ∃ (v : V) (n : Nat), vs = [v, .int 0] ∧ RefV K H v n ∧ ∀ H', Same H H' → Q (.int n) H'
section
variable {P : Program} {w : World} {K : PySem.W.Frag} {mg : Str → Option Value} {base : Heap}
set_option maxHeartbeats 4000000 in
theorem C_NoCut (T : Txt K mg) : CalI P w K mg base 1 "NoCut" ["self", "row"] (sp_NoCut (clsA mg "NoCut")) := by
  refine T.x_NoCut.cal sc_NoCut_init (fun vs H Q E h => ?_) (fun f cdv A outer s H vs Q E hk hr h => ?_)
  · obtain ⟨a, n, rfl, _⟩ := h
    rfl
  · obtain ⟨a, n, rfl, hn, ha, q⟩ := h
    refine ⟨_, (QSs.h (ssCons (exprE rfl (binitE (C := clsA mg "NoCut") hk rfl T.c_DigError T.i_DigError rfl rfl ⟨_, rfl⟩ (paE rfl (vn 0 rfl (Or.inl rfl) rfl rfl) (paE rfl (fstrE (pjE eStr (pjE (fmtE (vn 1 rfl (Or.inl rfl) rfl rfl)) (pjE eStr pjNil)))) aNil))))
      (ssOne (fldXS (C := clsA mg "NoCut") T.f_NoCut_row rfl (vn 0 rfl (Or.inl rfl) rfl rfl) (vn 1 rfl (Or.inl rfl) rfl rfl))))), ?_⟩
    show tSeq _ _ _ [some (.ref a), some (.int n)] H
    walk_at "rd"
    have hl : (Str.ofString (toString n)).length ≤ 21 := by
      have e := PySem.int_text_length_le10 (a := n) (k := 20) (by decide) (Nat.lt_of_lt_of_le hn (by decide))
      rw [PySem.ofString_length]; omega
    refine ⟨Str.ofString "no cut: row ", rfl, by decide +kernel, ?_⟩
    refine ⟨V.int n, rfl, .inl ⟨n, rfl, hn, Str.ofString (toString n), rfl, ?_, ?_⟩⟩
    · rw [strLen_append, PySem.sizeLine_eq]
      have : (Str.empty ++ Str.ofString "no cut: row ").length = 12 := by decide +kernel
      omega
    · refine ⟨Str.ofString " is not so", rfl, ?_, ?_, by simp, ⟨_, ha⟩, ?_⟩
      · rw [strLen_append, strLen_append, PySem.sizeLine_eq]
        have : (Str.empty ++ Str.ofString "no cut: row ").length = 12 := by decide +kernel
        have : (Str.ofString " is not so").length = 10 := by decide +kernel
        omega
      · rw [strLen_append, strLen_append, PySem.sizeLine_eq]
        have : (Str.empty ++ Str.ofString "no cut: row ").length = 12 := by decide +kernel
        have : (Str.ofString " is not so").length = 10 := by decide +kernel
        omega
      · exact ⟨V.int n, rfl, V.ref a, rfl, a, rfl, ha, fun d hd hne => q d hd hne⟩
theorem iteT_of {c : Bool} {A B : Prop} (hc : c = true) (h : A) : if c = true then A else B := by
  rw [if_pos hc]; exact h
/-- raise NoCut(n) -/
theorem raise_NoCut {C : Addr} {n : Int} {H H' : Hp} {σ : St} {D : Ends} {t : TA} {E : XK} (sm : Same H H') (hn : n.natAbs < 2 ^ 64) (ht : ∀ Q : List V → Hp → Prop, Q [.int n] H' → t σ H' Q)
    (k : ∀ d H2, Same H H2 → H d = none → H2 d = some (.xd [("row", .int n)]) → E (.ref C) (some d) H2) :
    sRaise C (tMakeX C (sp_NoCut C) t) (fun a H1 => ∃ d, H1 a = some (ExO a C (some d)) ∧ H a = none ∧ E (.ref C) (some d) (drop H1 a)) D σ H' := by
  refine ht _ ⟨by simp, fun x hx => ⟨x, n, rfl, hn, upd_same, fun d hd hdx => ⟨rfl, x, d, rfl, ?_, d, ?_, sm.free hx, k d _ (fun b u e => ?_) (sm.free ?_) ?_⟩⟩⟩
  · rw [upd_ne hdx.symm, upd_same]
  · rw [upd_ne hdx.symm, upd_same]
  · have nx : b ≠ x := ne_of_none (sm _ _ e) hx
    have hd' : H' d = none := by rw [upd_ne hdx] at hd; exact hd
    rw [drop_ne nx, upd_ne (ne_of_none (sm _ _ e) hd'), upd_upd, upd_ne nx]
    exact sm _ _ e
  · rw [upd_ne hdx] at hd; exact hd
  · rw [drop_ne hdx, upd_same]
theorem first_eq {rows : List Str} {n i : Nat} (h : RefRows rows n) (hi : i < rows.length) (f : FineTo rows i) (b : BadAt rows i) : n = i := by
  rcases h with ⟨_, fn, bn⟩ | ⟨_, fa, _⟩
  · rcases Nat.lt_trichotomy n i with q | q | q
    · exact absurd bn (f n q)
    · exact q
    · exact absurd b (fn i q)
  · exact absurd b (fa i hi)
set_option maxHeartbeats 4000000 in
theorem X_rows_of (T : Txt K mg) : CalX P w K mg base 3 "rows_of" ["text"] (sp_badN K (clsA mg "NoCut")) := by
  have C_NoCut : CalI P w K mg base 1 "NoCut" ["self", "row"] (sp_NoCut (clsA mg "NoCut")) := C_NoCut T
  have C_is_row : Cal P w K mg base 1 "is_row" ["row"] sp_is_row := C_is_row T
  have C_lies_beneath : Cal P w K mg base 1 "lies_beneath" ["row", "above"] sp_beneath := C_lies_beneath T
  have C_letters_in : Cal P w K mg base 1 "letters_in" ["rows"] (sp_letters_in K) := C_letters_in T
  obtain ⟨_, _, M_NoCut, _⟩ := T.x_NoCut.ini
  refine T.d_rows_of.calX sc_rows_of (fun vs H Q E h => ?_) (fun f cdv A outer s H vs Q E hr h => ?_)
  · obtain ⟨v, n, rfl, _⟩ := h
    rfl
  · obtain ⟨v, n, rfl, hv, kk⟩ := h
    refine ⟨_, (QSs.h (ssCons (ifS (notT (truT (K := K) rfl (fun _ => rfl) (cbE (k_isi (K := K) rfl) rfl T.b_isinstance PyProof.Rows.boot_isinstance rfl rfl rfl (paE rfl (vn 0 rfl (Or.inl rfl) rfl rfl) (paE rfl (blE (v := .ty "str") rfl T.b_str PyProof.Rows.boot_str rfl rfl rfl) aNil)))))
      (ssOne (raiseS M_NoCut.ex (makeXE C_NoCut hr rfl rfl rfl rfl (paE rfl eInt aNil))))
      ssNil)
      (ssCons (setE 1 sc_rows_of.nd rfl (Or.inl rfl) (Or.inr rfl) rfl (bmE (K := K) rfl PySem.F.plainAttrs_str PySem.F.slot_str_split PySem.F.type_str_split m_split rfl rfl rfl rfl (vn 0 rfl (Or.inl rfl) rfl rfl) (paE rfl eStr aNil)))
      (ssCons (forE PassesOwn.leaving rfl rfl (enumI (K := K) rfl rfl T.b_enumerate rfl (paE rfl (vn 1 rfl (Or.inl rfl) rfl rfl) aNil)) (tupG (K := K) rfl rfl rfl (gsE rfl (nameG 2 sc_rows_of.nd rfl (Or.inl rfl) (Or.inr rfl)) (gsE rfl (nameG 3 sc_rows_of.nd rfl (Or.inl rfl) (Or.inr rfl)) gsNil)))
      (ssCons (ifS (wT (orW (cmpT q_eqA rfl (vn 2 rfl (Or.inl rfl) rfl rfl) (gvE T.g_MOST_ROWS rfl rfl)) (or1W (notT (truT (K := K) rfl (fun _ => rfl) (calE C_is_row hr rfl rfl rfl rfl (paE rfl (vn 3 rfl (Or.inl rfl) rfl rfl) aNil)))))))
        (ssOne (raiseS M_NoCut.ex (makeXE C_NoCut hr rfl rfl rfl rfl (paE rfl (vn 2 rfl (Or.inl rfl) rfl rfl) aNil))))
        ssNil)
        (ssOne (ifS (wT (andW (cmpT q_gt rfl (vn 2 rfl (Or.inl rfl) rfl rfl) eInt) (and1W (notT (truT (K := K) rfl (fun _ => rfl) (calE C_lies_beneath hr rfl rfl rfl rfl (paE rfl (vn 3 rfl (Or.inl rfl) rfl rfl) (paE rfl (ixLE (K := K) rfl (fun _ _ => rfl) (vn 1 rfl (Or.inl rfl) rfl rfl) (opE q_sub (vn 2 rfl (Or.inl rfl) rfl rfl) eInt)) aNil))))))))
        (ssOne (raiseS M_NoCut.ex (makeXE C_NoCut hr rfl rfl rfl rfl (paE rfl (vn 2 rfl (Or.inl rfl) rfl rfl) aNil))))
        ssNil))))
      (ssCons (ifS (cmpT q_eqA rfl (cbE (k_len (K := K) rfl) rfl T.b_len PySem.boot_len rfl rfl rfl (paE rfl (calE C_letters_in hr rfl rfl rfl rfl (paE rfl (vn 1 rfl (Or.inl rfl) rfl rfl) aNil)) aNil)) eInt)
      (ssOne (raiseS M_NoCut.ex (makeXE C_NoCut hr rfl rfl rfl rfl (paE rfl eInt aNil))))
      ssNil)
      (ssOne (retS (vn 1 rfl (Or.inl rfl) rfl rfl)))))))), ?_⟩
    show tSeq _ _ _ [some v, none, none, none] H
    rcases hv with ⟨rows, rfl, ok, hb⟩ | ⟨rfl, t, ht, hkt⟩
    · have htl := ok.text (by decide)
      have hsp := ok.split
      have hhi := ok.high
      generalize Str.join nl rows = z at htl hsp
      refine seq_op fun D1 k1 _ => ?_
      walk_at "rd"
      refine ⟨.type "str", .str z, true, by rfl, iteF (k1 _ _ (seq_op fun D2 k2 _ => ?_))⟩
      walk_at "rd"
      refine ⟨by decide, Nat.le_trans (by omega : z.length + 2 ≤ 5000) (by decide), fun l hl => k2 _ _ ?_⟩
      rw [show (Str.ofString "\n") = nl from rfl, hsp]
      refine seq_op fun D3 k3 _ => for_split fun Kont hK => ?_
      walk_at "rd"
      have sml : Same H (upd H l (.lst (rows.map V.str))) := Same.upd hl
      refine ⟨_, SqL.of upd_same, hK _ _ (for_enum (fun i σ H' => FineTo rows i ∧ ∃ o2 o3, σ = [some (.str z), some (.ref l), o2, o3] ∧ Same H H' ∧ H' l = some (.lst (rows.map V.str))) ⟨FineTo.zero _, none, none, rfl, sml, upd_same⟩ (fun i σ H' _ ⟨_, _, _, _, _, q⟩ => SqL.of q) ?_ ?_)⟩
      · rintro i x TT σ H' hx ⟨fine, o2, o3, rfl, sm, hl'⟩ hT
        obtain ⟨r, hr1, rfl⟩ : ∃ r, rows[i]? = some r ∧ x = V.str r := by
          rw [List.getElem?_map] at hx
          cases e : rows[i]? with
          | none => rw [e] at hx; cases hx
          | some r => rw [e] at hx; exact ⟨r, rfl, (Option.some.inj hx).symm⟩
        have hilt : i < rows.length := (List.getElem?_eq_some_iff.mp hr1).1
        have smT : Same H (upd H' TT (.tup [.int i, .str r])) := sm.trans (Same.upd hT)
        have hlT : upd H' TT (.tup [.int i, .str r]) l = some (.lst (rows.map V.str)) := Same.upd hT _ _ hl'
        have hgT : upd H' TT (.tup [.int i, .str r]) TT = some (.tup [.int i, .str r]) := upd_same
        generalize upd H' TT (.tup [.int i, .str r]) = HT at smT hlT hgT
        have hrl : r.length ≤ 1000 := Nat.le_trans (ok.wide r (List.mem_of_getElem? hr1)) (by decide)
        have bad : BadAt rows i → ∀ d H2, Same H H2 → H d = none → H2 d = some (.xd [("row", .int (i : Int))]) → E (.ref (clsA mg "NoCut")) (some d) H2 := fun b => by
          rw [← first_eq hb hilt fine b]; exact kk
        refine ⟨TT, _, rfl, SqT.of hgT, rfl, ⟨_, _, rfl, ⟨_, _, rfl, ⟨rfl, ?_⟩⟩⟩⟩
        show tSeq _ _ _ [some (.str z), some (.ref l), some (.int i), some (.str r)] HT
        refine seq_op fun D4 k4 _ => ?_
        have go : i ≠ 40 → rowB r = true → ∀ H2, Same HT H2 → D4.nx [some (.str z), some (.ref l), some (.int i), some (.str r)] H2 := by
          intro n40 hrb H2 sm2
          refine k4 _ _ (ends_op fun D5 k5 _ => ?_)
          have fin : ¬ BadAt rows i → ∀ H3, Same HT H3 → D5.nx [some (.str z), some (.ref l), some (.int i), some (.str r)] H3 := fun nb H3 sm3 => k5 _ _ ⟨fine.step nb, _, _, rfl, smT.trans sm3, sm3 l _ hlT⟩
          walk_at "rd"
          refine ite2 (fun hp => ?_) fun hp => fin ?_ _ sm2
          · have hp : 0 < (i : Int) := of_decide_eq_true hp
            obtain ⟨i', rfl⟩ : ∃ i', i = i' + 1 := ⟨i - 1, by omega⟩
            have hi' : i' < rows.length := by omega
            have hr0 : rows[i']? = some rows[i'] := by simp [hi']
            have e1 : (((i' + 1 : Nat) : Int) - 1) = (i' : Int) := by omega
            refine ⟨_, SqL.of (sm2 l _ hlT), .str rows[i'], by rw [e1]; exact atI_nat (by simp [hi']), r, rows[i'], rfl, hrl, Nat.le_trans (ok.wide _ (List.getElem_mem hi')) (by decide), fun H3 sm3 => ⟨_, rfl, ?_⟩⟩
            cases hbn : beneathB r rows[i'] with
            | true => exact iteF (fin (by
                rintro ⟨r2, e2, q | q | ⟨u, _, hu, q⟩⟩
                · exact n40 q
                · rw [hr1] at e2; cases e2; rw [hrb] at q; cases q
                · rw [hr1] at e2; cases e2
                  rw [Nat.add_sub_cancel, hr0] at hu; cases hu
                  rw [hbn] at q; cases q) _ (sm2.trans sm3))
            | false =>
              refine iteT_of rfl (raise_NoCut ((smT.trans sm2).trans sm3) (by omega) (fun Q q => ?_) (bad ⟨r, hr1, .inr (.inr ⟨rows[i'], by omega, by rw [Nat.add_sub_cancel]; exact hr0, hbn⟩)⟩))
              walk_at "rd"
              exact q
          · have hp : ¬ 0 < (i : Int) := fun q => hp (decide_eq_true q)
            rintro ⟨r2, e2, q | q | ⟨u, h0, _, q⟩⟩
            · exact n40 q
            · rw [hr1] at e2; cases e2; rw [hrb] at q; cases q
            · omega
        walk_at "rd"
        refine ite2 (fun h40 => ?_) fun h40 => ?_
        · have h40 : (i : Int) = 40 := by simpa using h40
          refine raise_NoCut smT (by omega) (fun Q q => ?_) (bad ⟨r, hr1, .inl (by omega)⟩)
          walk_at "rd"
          exact q
        · have h40 : ¬ (i : Int) = 40 := by simpa using h40
          refine ⟨r, rfl, hrl, fun H2 sm2 => ⟨_, rfl, ?_⟩⟩
          cases hrb : rowB r with
          | true => exact iteF (go (by omega) hrb H2 sm2)
          | false =>
            refine iteT_of rfl (raise_NoCut (smT.trans sm2) (by omega) (fun Q q => ?_) (bad ⟨r, hr1, .inr (.inl hrb)⟩))
            walk_at "rd"
            exact q
      · rintro σ H' ⟨fine, o2, o3, rfl, sm, hl'⟩
        rw [List.length_map] at fine
        have air : n = 0 ∧ AllAir rows := by
          rcases hb with ⟨hn, _, bn⟩ | ⟨h0, _, ha⟩
          · exact absurd bn (fine n hn)
          · exact ⟨h0, ha⟩
        obtain ⟨rfl, air⟩ := air
        refine k3 _ _ ?_
        refine seq_op fun D4 k4 _ => ?_
        walk_at "rd"
        refine ⟨l, rows, rfl, SqL.of hl', Nat.le_trans (ok.sum (by decide)) (by decide), fun r hr => ?_, fun l2 H2 ss sm2 hf2 hl2 hp hst => ⟨_, .inl ⟨_, SqL.of hl2, rfl⟩, ?_⟩⟩
        · obtain ⟨k, hk⟩ := List.getElem?_of_mem hr
          exact (rowB_iff.mp (fine.row (List.getElem?_eq_some_iff.mp hk).1 hk).2.1).2.2
        · rw [signs_air air] at hp
          have : ss = [] := hp.eq_nil
          subst this
          refine iteT_of rfl (raise_NoCut (sm.trans sm2) (by decide) (fun Q q => ?_) kk)
          walk_at "rd"
          exact q
    · refine seq_op fun D1 k1 _ => ?_
      walk_at "rd"
      refine ⟨t, ht, false, hkt, iteT_of rfl (raise_NoCut (Same.refl H) (by decide) (fun Q q => ?_) kk)⟩
      walk_at "rd"
      exact q
end
end K03
namespace K03
open PySem L2 Cut
local macro_rules | `(tactic| walk_at "rd") => `(tactic| simp only [tSeq, tNext, tIfS, tRet, tRetN, tDrop, tAsg, gName, tTest, tB, tAnd, tOr, tNot, tAndV, tOrV, tNotV, tIf, tOp, tUn, tC, tVar, tCB, tCall, tNil, tCons, tTup, tLst, tChain, tBM, tBM0, tSl, tPart, tNoPart, tYes, rI, rI0, rU, rEqA, rNeA, rEq, rNe, rAddA, rAddS, rMulA, rCat, rRep, rIx, rIxL, rIxT, rIxS, rInA, rInS, rNotInA, rNotInS, rEqB, rNeB, rEqL, rNeL, rEqT, rNeT, rMulS, rSplit, rClear, rExtend, rSetL, gSub, gTup, gCons, gNil, iEnum, iZipS, rIn, rSlA, rSlL, rSlT, rSlS, rAppend, rJoin, LenV, TruV, iRng1, iRng2, iAny, scal, tyV,
  List.getElem?_cons_zero, List.getElem?_cons_succ, List.set_cons_zero, List.set_cons_succ, Option.some.injEq, V.int.injEq, V.str.injEq, V.bl.injEq, V.ref.injEq, V.ty.injEq, List.cons.injEq, reduceCtorEq, and_true, true_and, and_false, false_and, or_false, false_or, or_true, true_or, exists_false, exists_eq_left', exists_eq_left, exists_eq_right, exists_eq_right', exists_and_left, exists_and_right, exists_eq, List.cons_append, List.nil_append, List.append_nil, exists_const, and_assoc, Int.zero_add, Bool.not_true, Bool.not_false, Bool.false_eq_true, if_true, if_false, eq_self])

section
variable {P : Program} {w : World} {K : PySem.W.Frag} {mg : Str → Option Value} {base : Heap}
set_option maxHeartbeats 4000000 in
theorem C_law_refused (T : Txt K mg) :
    Cal P w K mg base 4 "_law_refused" ["_law_call_text", "_law_times"] (sp_refusedN K) := by
  have X_rows_of : CalX P w K mg base 3 "rows_of" ["text"] (sp_badN K (clsA mg "NoCut")) := X_rows_of T
  have X_wider : CalX P w K mg base 1 "wider" ["text", "times"] (fun _ _ _ _ => False) := T.d_wider.calX (k := 0) sc_wider (fun _ _ _ _ h => h.elim) (fun _ _ _ _ _ _ _ _ _ _ h => h.elim)
  refine T.d_law_refused.cal sc_law_refused (fun vs H Q E h => ?_) (fun f cdv A outer s H vs Q E hr h => ?_)
  · obtain ⟨v, n, rfl, _⟩ := h
    rfl
  · obtain ⟨v, n, rfl, hb, q⟩ := h
    let XE : XK := fun c d H' => c = .ref (clsA mg "NoCut") ∧ ∃ dx, d = some dx ∧ H' dx = some (.xd [("row", .int n)]) ∧ Same H H'
    refine ⟨_, (QSs.h (ssCons (setE 2 sc_law_refused.nd rfl (Or.inl rfl) (Or.inr rfl) rfl eNon)
      (ssCons (tryS (i := 3) XE rfl rfl sc_law_refused.nd rfl rfl rfl rfl T.c_DigError T.t_DigError rfl (fun _ =>
      (ssOne (ifS (cmpT q_eqA rfl (vn 1 rfl (Or.inl rfl) rfl rfl) eInt)
        (ssOne (exprE rfl (calXE (pass_try fun _ _ _ h => h) X_rows_of hr rfl rfl rfl rfl (paE rfl (vn 0 rfl (Or.inl rfl) rfl rfl) aNil))))
        (ssOne (exprE rfl (calXE (pass_try fun _ _ _ h => h) X_wider hr rfl rfl rfl rfl (paE rfl (vn 0 rfl (Or.inl rfl) rfl rfl) (paE rfl (vn 1 rfl (Or.inl rfl) rfl rfl) aNil))))))))
      (fun _ => (ssOne (setE 2 sc_law_refused.nd rfl (Or.inl rfl) (Or.inr rfl) rfl (vn 3 rfl (Or.inl rfl) rfl rfl)))))
      (ssCons (ifS (wT (orW (notT (truT (K := K) rfl (fun _ => rfl) (cbE (k_isX (K := K) rfl) rfl T.b_isinstance PyProof.Rows.boot_isinstance rfl rfl rfl (paE rfl (vn 2 rfl (Or.inl rfl) rfl rfl) (paE rfl (clsE rfl T.c_NoCut rfl) aNil))))) (or1W (notT (truT (K := K) rfl (fun _ => rfl) (cbE (k_isX (K := K) rfl) rfl T.b_isinstance PyProof.Rows.boot_isinstance rfl rfl rfl (paE rfl (vn 2 rfl (Or.inl rfl) rfl rfl) (paE rfl (blE (v := .ty "ValueError") rfl T.b_ValueError PyProof.Rows.Boot.«ValueError» rfl rfl rfl) aNil))))))))
      (ssOne (retS eNon))
      ssNil)
      (ssCons (ifS (truT (K := K) rfl (fun _ => rfl) (cbE (k_isX (K := K) rfl) rfl T.b_isinstance PyProof.Rows.boot_isinstance rfl rfl rfl (paE rfl (vn 2 rfl (Or.inl rfl) rfl rfl) (paE rfl (tupE (paE rfl (clsE rfl T.c_NoGround rfl) (paE rfl (clsE rfl T.c_Torn rfl) (paE rfl (clsE rfl T.c_NoSaying rfl) (paE rfl (clsE rfl T.c_NoDeed rfl) (paE rfl (clsE rfl T.c_NoRow rfl) (paE rfl (clsE rfl T.c_NoLayer rfl) aNil))))))) aNil))))
      (ssOne (retS eNon))
      ssNil)
      (ssCons (ifS (wT (orW (notT (truT (K := K) rfl (fun _ => rfl) (cbE (k_isi (K := K) rfl) rfl T.b_isinstance PyProof.Rows.boot_isinstance rfl rfl rfl (paE rfl (fldXE T.g_NoCut_row rfl (vn 2 rfl (Or.inl rfl) rfl rfl)) (paE rfl (blE (v := .ty "int") rfl T.b_int PyProof.Rows.boot_int rfl rfl rfl) aNil))))) (or1W (truT (K := K) rfl (fun _ => rfl) (cbE (k_isi (K := K) rfl) rfl T.b_isinstance PyProof.Rows.boot_isinstance rfl rfl rfl (paE rfl (fldXE T.g_NoCut_row rfl (vn 2 rfl (Or.inl rfl) rfl rfl)) (paE rfl (blE (v := .ty "bool") rfl T.b_bool PyProof.Rows.boot_bool rfl rfl rfl) aNil)))))))
      (ssOne (retS eNon))
      ssNil)
      (ssOne (retS (fldXE T.g_NoCut_row rfl (vn 2 rfl (Or.inl rfl) rfl rfl)))))))))), ?_⟩
    show tSeq _ _ _ [some v, some (.int 0), none, none] H
    refine seq_op fun D1 k1 _ => ?_
    walk_at "rd"
    refine k1 _ _ ?_
    refine seq_op fun D2 k2 _ => ?_
    refine ⟨?_, ?_⟩
    · walk_at "rd"
      refine iteT_of (by simp) ⟨v, n, rfl, hb, fun d H' sm hd hx => ⟨rfl, d, rfl, hx, sm⟩⟩
    · rintro c d H' ⟨rfl, dx, rfl, hdx, sm⟩
      refine ⟨_, rfl, T.u_NoCut, fun a σ' hl ha => ?_⟩
      obtain ⟨o0, o1, o2, o3, rfl⟩ : ∃ o0 o1 o2 o3, σ' = [o0, o1, o2, o3] := by
        match σ', hl with
        | [o0, o1, o2, o3], _ => exact ⟨_, _, _, _, rfl⟩
      show tAsg _ _ _ [o0, o1, o2, some (.ref a)] _
      walk_at "rd"
      refine k2 [o0, o1, some (.ref a), none] _ ?_
      have nad : dx ≠ a := fun e => by rw [e, ha] at hdx; cases hdx
      have hA : upd H' a (ExH a (clsA mg "NoCut") (some dx)) a = some (ExH a (clsA mg "NoCut") (some dx)) := upd_same
      have hD : upd H' a (ExH a (clsA mg "NoCut") (some dx)) dx = some (.xd [("row", .int n)]) := by rw [upd_ne nad]; exact hdx
      have smA : Same H (upd H' a (ExH a (clsA mg "NoCut") (some dx))) := sm.trans fun b u e => by rw [upd_ne (ne_of_none e ha)]; exact e
      generalize upd H' a (ExH a (clsA mg "NoCut") (some dx)) = H1 at hA hD smA
      have held : ∀ H2, Same H1 H2 → TyX K H2 (.ref a) (.ref (clsA mg "NoCut")) := fun H2 s2 => .ex ⟨_, s2 _ _ hA, .inr ⟨dx, _, rfl, s2 _ _ hD⟩⟩ T.x_NoCut.is
      refine seq_op fun D3 k3 _ => ?_
      walk_at "rd"
      refine ⟨_, held _ (Same.refl _), true, .inl T.k_NoCut_NoCut, iteF ⟨_, held _ (Same.refl _), true, T.k_NoCut_ValueError, iteF (k3 _ _ ?_)⟩⟩
      refine seq_op fun D4 k4 _ => ?_
      walk_at "rd"
      refine ⟨show 6 ≤ sizeLine from by decide, fun tp htp => ⟨_, held _ (Same.upd htp), false, .inr ⟨[clsA mg "NoGround", clsA mg "Torn", clsA mg "NoSaying", clsA mg "NoDeed", clsA mg "NoRow", clsA mg "NoLayer"], upd_same, T.k_NoCut_any0⟩, iteF (k4 _ _ ?_)⟩⟩
      have s2 := Same.upd (o := .tup [.ref (clsA mg "NoGround"), .ref (clsA mg "Torn"), .ref (clsA mg "NoSaying"), .ref (clsA mg "NoDeed"), .ref (clsA mg "NoRow"), .ref (clsA mg "NoLayer")]) htp
      have hA2 := s2 _ _ hA
      have hD2 := s2 _ _ hD
      have sm2 := smA.trans s2
      show tSeq _ _ _ [o0, o1, some (V.ref a), none] (upd H1 tp (.tup [.ref (clsA mg "NoGround"), .ref (clsA mg "Torn"), .ref (clsA mg "NoSaying"), .ref (clsA mg "NoDeed"), .ref (clsA mg "NoRow"), .ref (clsA mg "NoLayer")]))
      generalize upd H1 tp (.tup [.ref (clsA mg "NoGround"), .ref (clsA mg "Torn"), .ref (clsA mg "NoSaying"), .ref (clsA mg "NoDeed"), .ref (clsA mg "NoRow"), .ref (clsA mg "NoLayer")]) = H2 at hA2 hD2 sm2
      refine seq_op fun D5 k5 _ => ?_
      walk_at "rd"
      simp only [tFldX]
      walk_at "rd"
      refine ⟨dx, hA2, _, hD2, .int n, by rfl, .type "int", .int n, true, by rfl, iteF ⟨dx, hA2, _, hD2, .int n, by rfl, .type "int", .int n, false, by rfl, iteF (k5 _ _ ?_)⟩⟩
      walk_at "rd"
      simp only [tFldX]
      walk_at "rd"
      exact ⟨dx, hA2, _, hD2, .int n, by rfl, q H2 sm2⟩
end
end K03
namespace K03
open PySem L2 Cut
local macro_rules | `(tactic| walk_at "rd") => `(tactic| simp only [tSeq, tNext, tIfS, tRet, tRetN, tDrop, tAsg, gName, tTest, tB, tAnd, tOr, tNot, tAndV, tOrV, tNotV, tIf, tOp, tUn, tC, tVar, tCB, tCall, tNil, tCons, tTup, tLst, tChain, tBM, tBM0, tSl, tPart, tNoPart, tYes, rI, rI0, rU, rEqA, rNeA, rEq, rNe, rAddA, rAddS, rMulA, rCat, rRep, rIx, rIxL, rIxT, rIxS, rInA, rInS, rNotInA, rNotInS, rEqB, rNeB, rEqL, rNeL, rEqT, rNeT, rMulS, rSplit, rClear, rExtend, rSetL, gSub, gTup, gCons, gNil, iEnum, iZipS, rIn, rSlA, rSlL, rSlT, rSlS, rAppend, rJoin, LenV, TruV, iRng1, iRng2, iAny, scal, tyV,
  List.getElem?_cons_zero, List.getElem?_cons_succ, List.set_cons_zero, List.set_cons_succ, Option.some.injEq, V.int.injEq, V.str.injEq, V.bl.injEq, V.ref.injEq, V.ty.injEq, List.cons.injEq, reduceCtorEq, and_true, true_and, and_false, false_and, or_false, false_or, or_true, true_or, exists_false, exists_eq_left', exists_eq_left, exists_eq_right, exists_eq_right', exists_and_left, exists_and_right, exists_eq, List.cons_append, List.nil_append, List.append_nil, exists_const, and_assoc, Int.zero_add, Bool.not_true, Bool.not_false, Bool.false_eq_true, if_true, if_false, eq_self])

theorem dots_eq (n : Nat) (z : Str) (h : z.length = n) : (Txt.mul (Str.ofString ".") (n : Int) = z) ↔ ∀ c ∈ z.cps.toList, c = 46 := by
  have e : (Txt.mul (Str.ofString ".") (n : Int)).cps.toList = List.replicate n 46 := by
    rw [show (Str.ofString ".") = (⟨#[46]⟩ : Str) from rfl, PyProof.Rows.mul_one_list]
    simp
  have hl : z.cps.toList.length = n := by simpa [Str.length] using h
  constructor
  · intro q c hc
    rw [← q, e] at hc
    exact (List.mem_replicate.mp hc).2
  · intro q
    refine Cut.str_ext ?_
    rw [e, ← hl]
    exact (List.eq_replicate_iff.mpr ⟨rfl, q⟩).symm
theorem okc_in (c : Nat) : decide (c ∈ (Str.ofString "abcdefghijklmnopqrstuvwxyz.").cps.toList) = okc c := by
  have e : (Str.ofString "abcdefghijklmnopqrstuvwxyz.").cps.toList = letters.cps.toList ++ [46] := by decide +kernel
  rw [e]
  unfold okc isLet
  by_cases h1 : c = 46 <;> by_cases h2 : c ∈ letters.cps.toList <;> simp [h1, h2]
theorem atI_end {α : Type} {xs : List α} {v : α} (h : xs[xs.length - 1]? = some v) : atI xs (-1) = some v := by
  have hp : xs ≠ [] := fun e => by rw [e] at h; cases h
  obtain ⟨ys, y, rfl⟩ : ∃ ys y, xs = ys ++ [y] := ⟨xs.dropLast, xs.getLast hp, (List.dropLast_concat_getLast hp).symm⟩
  have e : (ys ++ [y])[(ys ++ [y]).length - 1]? = some y := by simp
  rw [e] at h
  obtain rfl : y = v := Option.some.inj h
  exact atI_last ys y
def sp_first : Sp := fun vs H Q _ => ∃ (a : Addr) (rows : List Str), vs = [.ref a] ∧ H a = some (.lst (rows.map V.str)) ∧ OkRows rows 50 ∧ ∀ v, ((∃ n : Nat, v = .int n ∧ RefRows rows n) ∨ (v = .non ∧ IsCut rows)) → Q v H
section
variable {P : Program} {w : World} {K : PySem.W.Frag} {mg : Str → Option Value} {base : Heap}
set_option maxHeartbeats 4000000 in
theorem C_law_first (T : Txt K mg) : Cal P w K mg base 1 "_law_first" ["_law_rows"] sp_first := by
  refine T.d_law_first.cal sc_law_first (fun vs H Q E h => ?_) (fun f cdv A outer s H vs Q E hr h => ?_)
  · obtain ⟨a, rows, rfl, _⟩ := h
    rfl
  · obtain ⟨a, rows, rfl, ha, ok, kk⟩ := h
    have hp : 0 < rows.length := List.length_pos_iff.mpr ok.pos
    have hhi := ok.high
    have hs : SqL K H a (rows.map V.str) := SqL.of ha
    have e0 : rows[0]? = some rows[0] := by simp [hp]
    have at_ : ∀ (i : Nat) (hi : i < rows.length), atI (rows.map V.str) (i : Int) = some (V.str rows[i]) := fun i hi => atI_nat (by simp [hi])
    have at0 : atI (rows.map V.str) 0 = some (V.str rows[0]) := at_ 0 hp
    have l50 : ∀ (i : Nat) (hi : i < rows.length), rows[i].length ≤ 50 := fun i hi => ok.wide _ (List.getElem_mem hi)
    have lw : ∀ (i : Nat) (hi : i < rows.length), rows[i].length ≤ sizeLine := fun i hi => Nat.le_trans (l50 i hi) (by decide)
    refine ⟨_, (QSs.h (ssCons (forE PassesOwn.never rfl rfl (rng1E rfl T.b_range rfl (paE rfl (cbE (k_len (K := K) rfl) rfl T.b_len PySem.boot_len rfl rfl rfl (paE rfl (vn 0 rfl (Or.inl rfl) rfl rfl) aNil)) aNil)) (nameG 1 sc_law_first.nd rfl (Or.inl rfl) (Or.inr rfl))
      (ssCons (setE 2 sc_law_first.nd rfl (Or.inl rfl) (Or.inr rfl) rfl (ixE (K := K) rfl (fun _ _ => rfl) (vn 0 rfl (Or.inl rfl) rfl rfl) (vn 1 rfl (Or.inl rfl) rfl rfl)))
        (ssCons (ifS (wT (orW (cmpT q_eqA rfl (vn 1 rfl (Or.inl rfl) rfl rfl) eInt) (orW (cmpT q_neA rfl (cbE (k_len (K := K) rfl) rfl T.b_len PySem.boot_len rfl rfl rfl (paE rfl (vn 2 rfl (Or.inl rfl) rfl rfl) aNil)) (cbE (k_len (K := K) rfl) rfl T.b_len PySem.boot_len rfl rfl rfl (paE rfl (ixE (K := K) rfl (fun _ _ => rfl) (vn 0 rfl (Or.inl rfl) rfl rfl) eInt) aNil))) (orW (cmpT q_lt rfl (cbE (k_len (K := K) rfl) rfl T.b_len PySem.boot_len rfl rfl rfl (paE rfl (vn 2 rfl (Or.inl rfl) rfl rfl) aNil)) eInt) (or1W (cmpT q_gt rfl (cbE (k_len (K := K) rfl) rfl T.b_len PySem.boot_len rfl rfl rfl (paE rfl (vn 2 rfl (Or.inl rfl) rfl rfl) aNil)) eInt))))))
        (ssOne (retS (vn 1 rfl (Or.inl rfl) rfl rfl)))
        ssNil)
        (ssOne (forE PassesOwn.never rfl rfl (rng1E rfl T.b_range rfl (paE rfl (cbE (k_len (K := K) rfl) rfl T.b_len PySem.boot_len rfl rfl rfl (paE rfl (vn 2 rfl (Or.inl rfl) rfl rfl) aNil)) aNil)) (nameG 3 sc_law_first.nd rfl (Or.inl rfl) (Or.inr rfl))
        (ssCons (ifS (cmpT (q_notin (K := K) rfl) rfl (ixE (K := K) rfl (fun _ _ => rfl) (vn 2 rfl (Or.inl rfl) rfl rfl) (vn 3 rfl (Or.inl rfl) rfl rfl)) eStr)
          (ssOne (retS (vn 1 rfl (Or.inl rfl) rfl rfl)))
          ssNil)
          (ssOne (ifS (wT (andW (cmpT q_gt rfl (vn 1 rfl (Or.inl rfl) rfl rfl) eInt) (andW (cmpT q_eqA rfl (ixE (K := K) rfl (fun _ _ => rfl) (vn 2 rfl (Or.inl rfl) rfl rfl) (vn 3 rfl (Or.inl rfl) rfl rfl)) eStr) (and1W (cmpT q_neA rfl (ixE (K := K) rfl (fun _ _ => rfl) (ixE (K := K) rfl (fun _ _ => rfl) (vn 0 rfl (Or.inl rfl) rfl rfl) (opE q_sub (vn 1 rfl (Or.inl rfl) rfl rfl) eInt)) (vn 3 rfl (Or.inl rfl) rfl rfl)) eStr)))))
          (ssOne (retS (vn 1 rfl (Or.inl rfl) rfl rfl)))
          ssNil))))))))
      (ssCons (ifS (cmpT q_eqA rfl (opE q_mulS eStr (cbE (k_len (K := K) rfl) rfl T.b_len PySem.boot_len rfl rfl rfl (paE rfl (ixE (K := K) rfl (fun _ _ => rfl) (vn 0 rfl (Or.inl rfl) rfl rfl) (negE eInt)) aNil))) (ixE (K := K) rfl (fun _ _ => rfl) (vn 0 rfl (Or.inl rfl) rfl rfl) (negE eInt)))
      (ssOne (retS eInt))
      ssNil)
      (ssOne (retS eNon))))), ?_⟩
    show tSeq _ _ _ [some (.ref a), none, none, none] H
    refine seq_op fun D1 k1 r1 => for_split fun Kont hK => ?_
    walk_at "rd"
    refine ⟨_, .inl ⟨_, hs, rfl⟩, ?_, ?_, hK _ _ (for_range (fun i σ H' => H' = H ∧ FineTo rows i ∧ ∃ o1 o2 o3, σ = [some (.ref a), o1, o2, o3]) ⟨rfl, FineTo.zero _, _, _, _, rfl⟩ ?_ ?_)⟩
    · rw [List.length_map]; omega
    · rw [List.length_map]; omega
    · rintro i σ H' hi ⟨rfl, fine, o1, o2, o3, rfl⟩
      have hi : i < rows.length := by simpa using hi
      have er : rows[i]? = some rows[i] := by simp [hi]
      have bad : BadAt rows i → D1.rt (.int (i : Int)) H' := fun b => r1 _ _ (kk _ (.inl ⟨i, rfl, .inl ⟨hi, fine, b⟩⟩))
      show tSeq _ _ _ [some (.ref a), some (.int ((0 : Int) + (i : Int))), o2, o3] H'
      rw [Int.zero_add]
      refine seq_op fun D2 k2 r2 => ?_
      walk_at "rd"
      refine .inl ⟨_, hs, _, at_ i hi, k2 _ _ ?_⟩
      have lr := l50 i hi
      have l0 := l50 0 hp
      refine seq_op fun D3 k3 r3 => ?_
      have bad3 : BadAt rows i → D3.rt (.int (i : Int)) H' := fun b => r3 _ _ (bad b)
      have go : i ≠ 40 → rows[i].length = rows[0].length → 1 ≤ rows[i].length → rows[i].length ≤ 40 → D3.nx [some (.ref a), some (.int (i : Int)), some (.str rows[i]), o3] H' := by
        intro n40 el e1 e40
        refine k3 _ _ (ends_op fun D4 k4 r4 => for_split fun Kont2 hK2 => ?_)
        have bad4 : BadAt rows i → D4.rt (.int (i : Int)) H' := fun b => r4 _ _ (bad b)
        have prev : ∀ i', i = i' + 1 → ∃ (h' : i' < rows.length), rows[i'].length = rows[i].length := fun i' e => by
          refine ⟨by omega, ?_⟩
          rw [el]
          exact fine.len (k := i') e0 (by omega) (List.getElem?_eq_getElem (by omega))
        walk_at "rd"
        refine ⟨lw i hi, by omega, by omega, hK2 _ _ (for_range (fun j σ H2 => H2 = H' ∧ (∃ o3, σ = [some (.ref a), some (.int (i : Int)), some (.str rows[i]), o3]) ∧ (∀ q c, q < j → rows[i].cps[q]? = some c → okc c = true ∧ ∀ u c', 0 < i → rows[i - 1]? = some u → u.cps[q]? = some c' → c = 46 → c' = 46))
          ⟨rfl, ⟨_, rfl⟩, fun q c h => absurd h (Nat.not_lt_zero _)⟩ ?_ ?_)⟩
        · rintro j σ H2 hj ⟨rfl, ⟨o, rfl⟩, okj⟩
          have hj : j < rows[i].cps.size := by
            have q : j < rows[i].length := by simpa using hj
            exact q
          have ec : rows[i].cps[j]? = some rows[i].cps[j] := by simp [hj]
          have ac : atI rows[i].cps.toList (j : Int) = some rows[i].cps[j] := atI_nat (by simpa using ec)
          show tSeq _ _ _ [some (.ref a), some (.int (i : Int)), some (.str rows[i]), some (.int ((0 : Int) + (j : Int)))] H2
          rw [Int.zero_add]
          refine seq_op fun D5 k5 r5 => ?_
          walk_at "rd"
          refine ⟨lw i hi, _, ac, ?_⟩
          rw [in_one, okc_in]
          cases hok : okc rows[i].cps[j] with
          | false =>
            refine iteT_of rfl (r5 _ _ (bad4 ⟨_, er, .inr (.inl ?_)⟩))
            cases hb : rowB rows[i] with
            | false => rfl
            | true =>
              have := List.all_eq_true.mp (rowB_iff.mp hb).2.2 rows[i].cps[j] (by simp)
              rw [hok] at this
              cases this
          | true =>
            refine iteF (k5 _ _ (ends_op fun D6 k6 r6 => ?_))
            have fin : (∀ u c', 0 < i → rows[i - 1]? = some u → u.cps[j]? = some c' → rows[i].cps[j] = 46 → c' = 46) → D6.nx [some (.ref a), some (.int (i : Int)), some (.str rows[i]), some (.int (j : Int))] H2 := fun f => k6 _ _ ⟨rfl, ⟨_, rfl⟩, fun q c hq hc => by
              by_cases e : q = j
              · subst e
                rw [ec] at hc
                cases hc
                exact ⟨hok, f⟩
              · exact okj q c (by omega) hc⟩
            walk_at "rd"
            refine ite2 (fun hpos => ?_) fun hpos => fin fun u c' q => absurd (by omega : 0 < (i : Int)) (fun z => hpos (decide_eq_true z))
            have hpos : 0 < (i : Int) := of_decide_eq_true hpos
            refine ⟨lw i hi, _, ac, ite2 (fun hdot => ?_) fun hdot => fin fun u c' _ _ _ q => absurd (decide_eq_true ((dot_eq _).mpr q)) hdot⟩
            have hdot : rows[i].cps[j] = 46 := (dot_eq _).mp (of_decide_eq_true hdot)
            obtain ⟨i', rfl⟩ : ∃ i', i = i' + 1 := ⟨i - 1, by omega⟩
            obtain ⟨h', el'⟩ := prev i' rfl
            have e1' : (((i' + 1 : Nat) : Int) - 1) = (i' : Int) := by omega
            have hj' : j < rows[i'].cps.size := by
              have : rows[i'].cps.size = rows[i' + 1].cps.size := el'
              omega
            have ec' : rows[i'].cps[j]? = some rows[i'].cps[j] := by simp [hj']
            have eu' : rows[i' + 1 - 1]? = some rows[i'] := by simp [h']
            refine .inl ⟨_, hs, V.str rows[i'], by rw [e1']; exact at_ i' h', .inr (.inr ⟨_, rfl, lw i' h', rows[i'].cps[j], atI_nat (by simpa using ec'), ite2 (fun hne => ?_) fun hne => fin fun u c' _ eu g _ => ?_⟩)⟩
            · have hne : ¬ rows[i'].cps[j] = 46 := fun q => by
                rw [(dot_eq _).mpr q] at hne
                simp at hne
              refine r6 _ _ (bad4 ⟨_, er, .inr (.inr ⟨rows[i'], by omega, eu', ?_⟩)⟩)
              cases hb : beneathB rows[i' + 1] rows[i'] with
              | false => rfl
              | true => exact absurd ((beneathB_iff.mp hb).2 j _ _ ec' ec hdot) hne
            · rw [eu'] at eu
              cases eu
              rw [ec'] at g
              cases g
              refine Classical.byContradiction fun q => hne ?_
              rw [decide_eq_false (fun z => q ((dot_eq _).mp z))]
              rfl
        · rintro σ H2 ⟨rfl, ⟨o, rfl⟩, okj⟩
          refine k4 _ _ ⟨rfl, fine.step ?_, _, _, _, rfl⟩
          rw [Int.toNat_natCast] at okj
          rintro ⟨r, er', q | q | ⟨u, hpos, eu, q⟩⟩
          · exact n40 q
          · rw [er] at er'
            cases er'
            have : rowB rows[i] = true := rowB_iff.mpr ⟨e1, e40, List.all_eq_true.mpr fun c hc => by
              obtain ⟨k, hk⟩ := List.getElem?_of_mem hc
              have hkl := (List.getElem?_eq_some_iff.mp hk).1
              exact (okj k c (by simpa [Str.length] using hkl) (by simpa using hk)).1⟩
            rw [this] at q
            cases q
          · rw [er] at er'
            cases er'
            obtain ⟨i', rfl⟩ : ∃ i', i = i' + 1 := ⟨i - 1, by omega⟩
            obtain ⟨h', el'⟩ := prev i' rfl
            have eu' : rows[i' + 1 - 1]? = some rows[i'] := by simp [h']
            rw [eu'] at eu
            cases eu
            have : beneathB rows[i' + 1] rows[i'] = true := beneathB_iff.mpr ⟨el'.symm, fun k c c' g1 g2 hc => by
              have hkl := (Array.getElem?_eq_some_iff.mp g2).1
              exact (okj k c' (by simpa [Str.length] using hkl) g2).2 _ c (by omega) eu' g1 hc⟩
            rw [this] at q
            cases q
      walk_at "rd"
      refine ite2 (fun h40 => bad3 ⟨_, er, .inl (by have := of_decide_eq_true h40; omega)⟩) fun h40 => ?_
      have n40 : i ≠ 40 := fun q => h40 (decide_eq_true (by omega))
      refine ⟨lw i hi, .inl ⟨_, hs, _, at0, _, ⟨lw 0 hp, rfl⟩, ite2 (fun hne => bad3 ?_) fun hne => ⟨lw i hi, ite2 (fun h1 => bad3 ?_) fun h1 => ⟨lw i hi, ite2 (fun h4 => bad3 ?_) fun h4 => go n40 ?_ ?_ ?_⟩⟩⟩⟩
      · have hne : ¬ ((rows[i].length : Int) = (rows[0].length : Int)) := by simpa using hne
        have ip : 0 < i := Nat.pos_of_ne_zero fun q => hne (by subst q; rfl)
        obtain ⟨i', rfl⟩ : ∃ i', i = i' + 1 := ⟨i - 1, by omega⟩
        have hi' : i' < rows.length := by omega
        have el : rows[i'].length = rows[0].length := fine.len (k := i') e0 (by omega) (List.getElem?_eq_getElem hi')
        refine ⟨_, er, .inr (.inr ⟨rows[i'], ip, by simp [hi'], ?_⟩)⟩
        cases hb : beneathB rows[i' + 1] rows[i'] with
        | false => rfl
        | true =>
          have := (beneathB_iff.mp hb).1
          omega
      · have h1 : (rows[i].length : Int) < 1 := of_decide_eq_true h1
        refine ⟨_, er, .inr (.inl ?_)⟩
        cases hb : rowB rows[i] with
        | false => rfl
        | true =>
          have := (rowB_iff.mp hb).1
          omega
      · have h4 : (40 : Int) < rows[i].length := of_decide_eq_true h4
        refine ⟨_, er, .inr (.inl ?_)⟩
        cases hb : rowB rows[i] with
        | false => rfl
        | true =>
          have := (rowB_iff.mp hb).2.1
          omega
      · have hne : ((rows[i].length : Int) = (rows[0].length : Int)) := by simpa using hne
        omega
      · have h1 : ¬ (rows[i].length : Int) < 1 := fun q => h1 (decide_eq_true q)
        omega
      · have h4 : ¬ (40 : Int) < rows[i].length := fun q => h4 (decide_eq_true q)
        omega
    · rintro σ H' ⟨rfl, fine, o1, o2, o3, rfl⟩
      rw [List.length_map, Int.toNat_natCast] at fine
      refine k1 _ _ (seq_op fun D2 k2 r2 => ?_)
      have el : rows[rows.length - 1]? = some (rows[rows.length - 1]'(by omega)) := List.getElem?_eq_getElem (by omega)
      have al : atI (rows.map V.str) (-1) = some (V.str (rows[rows.length - 1]'(by omega))) := atI_end (by rw [List.length_map, List.getElem?_map, el]; rfl)
      have ll := l50 (rows.length - 1) (by omega)
      walk_at "rd"
      refine .inl ⟨_, hs, _, al, _, ⟨lw _ (by omega), rfl⟩, by omega, by omega, by decide, .inl ⟨_, hs, _, al, rfl, ite2 (fun hd => ?_) fun hd => ?_⟩⟩
      · have hd : Txt.mul (Str.ofString ".") ((rows[rows.length - 1]'(by omega)).length : Int) = rows[rows.length - 1]'(by omega) := by
          have := of_decide_eq_true hd
          injection this
        exact r2 _ _ (kk _ (.inl ⟨0, rfl, .inr ⟨rfl, fine, air_up fine el ((dots_eq _ _ rfl).mp hd)⟩⟩))
      · have hd : ¬ Txt.mul (Str.ofString ".") ((rows[rows.length - 1]'(by omega)).length : Int) = rows[rows.length - 1]'(by omega) := fun q => hd (decide_eq_true (congrArg V.str q))
        refine k2 _ _ ?_
        walk_at "rd"
        refine kk _ (.inr ⟨rfl, cut_fine fine ok.pos ?_⟩)
        refine Classical.byContradiction fun hno => hd ((dots_eq _ _ rfl).mpr fun c hc => ?_)
        refine Classical.byContradiction fun hc46 => hno ⟨_, List.mem_of_getElem? el, c, hc, hc46⟩
end
end K03
namespace K03
open PySem L2 Cut
local macro_rules | `(tactic| walk_at "rd") => `(tactic| simp only [tSeq, tNext, tIfS, tRet, tRetN, tDrop, tAsg, gName, tTest, tB, tAnd, tOr, tNot, tAndV, tOrV, tNotV, tIf, tOp, tUn, tC, tVar, tCB, tCall, tNil, tCons, tTup, tLst, tChain, tBM, tBM0, tSl, tPart, tNoPart, tYes, rI, rI0, rU, rEqA, rNeA, rEq, rNe, rAddA, rAddS, rMulA, rCat, rRep, rIx, rIxL, rIxT, rIxS, rInA, rInS, rNotInA, rNotInS, rEqB, rNeB, rEqL, rNeL, rEqT, rNeT, rMulS, rSplit, rClear, rExtend, rSetL, gSub, gTup, gCons, gNil, iEnum, iZipS, rIn, rSlA, rSlL, rSlT, rSlS, rAppend, rJoin, LenV, TruV, iRng1, iRng2, iAny, scal, tyV,
  List.getElem?_cons_zero, List.getElem?_cons_succ, List.set_cons_zero, List.set_cons_succ, Option.some.injEq, V.int.injEq, V.str.injEq, V.bl.injEq, V.ref.injEq, V.ty.injEq, List.cons.injEq, reduceCtorEq, and_true, true_and, and_false, false_and, or_false, false_or, or_true, true_or, exists_false, exists_eq_left', exists_eq_left, exists_eq_right, exists_eq_right', exists_and_left, exists_and_right, exists_eq, List.cons_append, List.nil_append, List.append_nil, exists_const, and_assoc, Int.zero_add, Bool.not_true, Bool.not_false, Bool.false_eq_true, if_true, if_false, eq_self])

theorem cutV_to (rows : List Str) (k : Nat) : cutV (rows.map V.str) none (some (k : Int)) = (rows.take k).map V.str := by
  unfold cutV
  rw [HT.sIx_none, HT.sIx_nat, List.drop_zero, Nat.sub_zero, List.length_map, ← List.map_take]
  congr 1
  by_cases h : k ≤ rows.length
  · rw [Nat.min_eq_left h]
  · rw [Nat.min_eq_right (by omega), List.take_of_length_le (Nat.le_refl _), List.take_of_length_le (by omega)]
theorem cutV_from (rows : List Str) (k : Nat) : cutV (rows.map V.str) (some (k : Int)) none = (rows.drop k).map V.str := by
  unfold cutV
  rw [HT.sIx_none, HT.sIx_nat, List.length_map, ← List.map_drop, ← List.map_take]
  congr 1
  by_cases h : k ≤ rows.length
  · rw [Nat.min_eq_left h, List.take_of_length_le (by rw [List.length_drop]; exact Nat.le_refl _)]
  · rw [Nat.min_eq_right (by omega), List.drop_of_length_le (Nat.le_refl _), List.drop_of_length_le (by omega)]
    simp
theorem cutV_last (rows : List Str) (h : rows ≠ []) : ∃ l, l ∈ rows ∧ cutV (rows.map V.str) (some (-1)) none = [V.str l] := by
  obtain ⟨ys, y, rfl⟩ : ∃ ys y, rows = ys ++ [y] := ⟨rows.dropLast, rows.getLast h, (List.dropLast_concat_getLast h).symm⟩
  refine ⟨y, by simp, ?_⟩
  unfold cutV
  have e : HT.sIx ((ys ++ [y]).map V.str).length 0 (some (-1)) = ys.length := by
    show (if (-1 : Int) < 0 then ((-1 : Int) + (((ys ++ [y]).map V.str).length : Int)).toNat else min (-1 : Int).toNat ((ys ++ [y]).map V.str).length) = ys.length
    rw [if_pos (by decide : (-1 : Int) < 0), List.length_map, List.length_append, List.length_singleton]
    omega
  rw [e, HT.sIx_none, List.map_append, List.length_append, List.length_map]
  have : ys.length = (ys.map V.str).length := by rw [List.length_map]
  rw [this, List.drop_left]
  simp
theorem mul_mem {z : Str} (hz : z.length ≤ 1) {n : Int} {c : Nat} (h : c ∈ (Txt.mul z n).cps.toList) : c ∈ z.cps.toList := by
  obtain ⟨⟨l⟩⟩ := z
  have hl : l.length ≤ 1 := hz
  match l, hl with
  | [], _ =>
    have e := PyProof.Rows.len_mul ⟨#[]⟩ n
    have e2 : ((Txt.mul ⟨#[]⟩ n).length : Int) = 0 := by rw [e]; simp [Str.length]
    have e3 : (Txt.mul ⟨#[]⟩ n).cps.toList.length = 0 := by
      have : (Txt.mul ⟨#[]⟩ n).cps.toList.length = (Txt.mul ⟨#[]⟩ n).length := by simp [Str.length]
      omega
    rw [List.length_eq_zero_iff.mp e3] at h
    cases h
  | [d], _ =>
    have h : c ∈ (Txt.mul ⟨#[d]⟩ n).cps.toList := h
    rw [PyProof.Rows.mul_one_list] at h
    rw [(List.mem_replicate.mp h).2]
    exact List.mem_singleton.mpr rfl
theorem mul_len {z : Str} (hz : z.length ≤ 1) {n : Int} (h0 : 0 ≤ n) : (Txt.mul z n).length ≤ n.toNat := by
  have e := PyProof.Rows.len_mul z n
  rw [if_neg (by simp; omega)] at e
  have : (z.length : Int) * n ≤ 1 * n := Int.mul_le_mul_of_nonneg_right (by omega) h0
  omega
theorem odd_fine : ∀ c ∈ (Str.ofString "AZ0 _@{,:-/\t").cps.toList, c ≠ 10 := by decide +kernel
theorem odd_len : ((Str.ofString "AZ0 _@{,:-/\t").cps.toList.length : Int) = 12 := by decide +kernel
def sp_fault : Sp := fun vs H Q _ => ∃ (a : Addr) (rows : List Str) (n : Int) (B : Nat), vs = [.ref a, .int n] ∧ H a = some (.lst (rows.map V.str)) ∧ OkRows rows B ∧ 40 ≤ B ∧ B ≤ 41 ∧ 0 ≤ n ∧ n < 10000 ∧
  ∀ l H' rows', Same H H' → H l = none → H' l = some (.lst (rows'.map V.str)) → OkRows rows' (B + 1) → Q (.ref l) H'
section
variable {P : Program} {w : World} {K : PySem.W.Frag} {mg : Str → Option Value} {base : Heap}
set_option maxHeartbeats 4000000 in
theorem C_law_fault (T : Txt K mg) : Cal P w K mg base 1 "_law_fault" ["_law_rows", "_law_number"] sp_fault := by
  refine T.d_law_fault.cal sc_law_fault (fun vs H Q E h => ?_) (fun f cdv A outer s H vs Q E hr h => ?_)
  · obtain ⟨a, rows, n, B, rfl, _⟩ := h
    rfl
  · obtain ⟨a, rows, n, B, rfl, ha, ok, b1, b2, n0, n1, kk⟩ := h
    have hp : 0 < rows.length := List.length_pos_iff.mpr ok.pos
    have hhi := ok.high
    have hs : SqL K H a (rows.map V.str) := SqL.of ha
    refine ⟨_, (QSs.h (ssCons (setE 2 sc_law_fault.nd rfl (Or.inl rfl) (Or.inr rfl) rfl (opE q_mod (opE q_fdiv (vn 1 rfl (Or.inl rfl) rfl rfl) eInt) (cbE (k_len (K := K) rfl) rfl T.b_len PySem.boot_len rfl rfl rfl (paE rfl (vn 0 rfl (Or.inl rfl) rfl rfl) aNil))))
      (ssCons (setE 3 sc_law_fault.nd rfl (Or.inl rfl) (Or.inr rfl) rfl (ixLE (K := K) rfl (fun _ _ => rfl) (vn 0 rfl (Or.inl rfl) rfl rfl) (vn 2 rfl (Or.inl rfl) rfl rfl)))
      (ssCons (setE 4 sc_law_fault.nd rfl (Or.inl rfl) (Or.inr rfl) rfl (opE q_mod (opE q_fdiv (vn 1 rfl (Or.inl rfl) rfl rfl) eInt) (cbE (k_max rfl) rfl T.b_max PyProof.Rows.boot_max rfl rfl rfl (paE rfl eInt (paE rfl (cbE (k_len (K := K) rfl) rfl T.b_len PySem.boot_len rfl rfl rfl (paE rfl (vn 3 rfl (Or.inl rfl) rfl rfl) aNil)) aNil)))))
      (ssCons (setE 5 sc_law_fault.nd rfl (Or.inl rfl) (Or.inr rfl) rfl (opE q_mod (vn 1 rfl (Or.inl rfl) rfl rfl) eInt))
      (ssCons (ifS (cmpT q_eqA rfl (vn 5 rfl (Or.inl rfl) rfl rfl) eInt)
      (ssOne (setE 3 sc_law_fault.nd rfl (Or.inl rfl) (Or.inr rfl) rfl (opE q_addA (vn 3 rfl (Or.inl rfl) rfl rfl) eStr)))
      ssNil)
      (ssCons (ifS (cmpT q_eqA rfl (vn 5 rfl (Or.inl rfl) rfl rfl) eInt)
      (ssOne (setE 3 sc_law_fault.nd rfl (Or.inl rfl) (Or.inr rfl) rfl (opE q_addA (slE (K := K) rfl (vn 3 rfl (Or.inl rfl) rfl rfl) noO (someO (vn 4 rfl (Or.inl rfl) rfl rfl))) (slE (K := K) rfl (vn 3 rfl (Or.inl rfl) rfl rfl) (someO (opE q_addI (vn 4 rfl (Or.inl rfl) rfl rfl) eInt)) noO))))
      ssNil)
      (ssCons (ifS (cmpT q_eqA rfl (vn 5 rfl (Or.inl rfl) rfl rfl) eInt)
      (ssCons (setE 6 sc_law_fault.nd rfl (Or.inl rfl) (Or.inr rfl) rfl (ixSE (fun _ _ => rfl) eStr (opE q_mod (opE q_fdiv (vn 1 rfl (Or.inl rfl) rfl rfl) eInt) eInt)))
        (ssOne (setE 3 sc_law_fault.nd rfl (Or.inl rfl) (Or.inr rfl) rfl (opE q_addA (opE q_addA (slE (K := K) rfl (vn 3 rfl (Or.inl rfl) rfl rfl) noO (someO (vn 4 rfl (Or.inl rfl) rfl rfl))) (vn 6 rfl (Or.inl rfl) rfl rfl)) (slE (K := K) rfl (vn 3 rfl (Or.inl rfl) rfl rfl) (someO (opE q_addI (vn 4 rfl (Or.inl rfl) rfl rfl) eInt)) noO)))))
      ssNil)
      (ssCons (ifS (cmpT q_eqA rfl (vn 5 rfl (Or.inl rfl) rfl rfl) eInt)
      (ssOne (setE 3 sc_law_fault.nd rfl (Or.inl rfl) (Or.inr rfl) rfl (opE q_addA (opE q_addA (slE (K := K) rfl (vn 3 rfl (Or.inl rfl) rfl rfl) noO (someO (vn 4 rfl (Or.inl rfl) rfl rfl))) eStr) (slE (K := K) rfl (vn 3 rfl (Or.inl rfl) rfl rfl) (someO (opE q_addI (vn 4 rfl (Or.inl rfl) rfl rfl) eInt)) noO))))
      ssNil)
      (ssCons (ifS (cmpT q_eqA rfl (vn 5 rfl (Or.inl rfl) rfl rfl) eInt)
      (ssOne (setE 3 sc_law_fault.nd rfl (Or.inl rfl) (Or.inr rfl) rfl eStr))
      ssNil)
      (ssCons (ifS (cmpT q_eqA rfl (vn 5 rfl (Or.inl rfl) rfl rfl) eInt)
      (ssOne (retS (compE (CompScope.of (show compOk (defScope s_law_fault) ["_law_rows", "_law_number", "_law_at", "_law_row_here", "_law_place", "_law_way", "_law_odd", "_law_more"] _ ["_law_one"] [] = true from by decide +kernel)) rfl rfl (anyI (K := K) rfl (vn 0 rfl (Or.inl rfl) rfl rfl)) (fun _ _ _ => (nameG 0 (show (["_law_one"] : List Str).Nodup from by decide +kernel) rfl (Or.inl rfl) (Or.inr rfl))) (fun _ _ _ => noTs) (fun _ _ _ => (opE q_addA (vn 0 rfl (Or.inl rfl) rfl rfl) (opE q_mulS (slE (K := K) rfl (vn 0 rfl (Or.inl rfl) rfl rfl) noO (someO eInt)) (opE q_sub eInt (cbE (k_len (K := K) rfl) rfl T.b_len PySem.boot_len rfl rfl rfl (paE rfl (vn 0 rfl (Or.inl rfl) rfl rfl) aNil)))))))))
      ssNil)
      (ssCons (ifS (cmpT q_eqA rfl (vn 5 rfl (Or.inl rfl) rfl rfl) eInt)
      (ssCons (setE 7 sc_law_fault.nd rfl (Or.inl rfl) (Or.inr rfl) rfl (opE q_addI (opE q_sub eInt (cbE (k_len (K := K) rfl) rfl T.b_len PySem.boot_len rfl rfl rfl (paE rfl (vn 0 rfl (Or.inl rfl) rfl rfl) aNil))) (opE q_mod (opE q_fdiv (vn 1 rfl (Or.inl rfl) rfl rfl) eInt) eInt)))
        (ssOne (retS (opE q_addA (vn 0 rfl (Or.inl rfl) rfl rfl) (opE q_mulA (slE (K := K) rfl (vn 0 rfl (Or.inl rfl) rfl rfl) (someO (negE eInt)) noO) (vn 7 rfl (Or.inl rfl) rfl rfl))))))
      ssNil)
      (ssCons (ifS (cmpT q_eqA rfl (vn 5 rfl (Or.inl rfl) rfl rfl) eInt)
      (ssOne (retS (compE (CompScope.of (show compOk (defScope s_law_fault) ["_law_rows", "_law_number", "_law_at", "_law_row_here", "_law_place", "_law_way", "_law_odd", "_law_more"] _ ["_law_one"] [] = true from by decide +kernel)) rfl rfl (anyI (K := K) rfl (vn 0 rfl (Or.inl rfl) rfl rfl)) (fun _ _ _ => (nameG 0 (show (["_law_one"] : List Str).Nodup from by decide +kernel) rfl (Or.inl rfl) (Or.inr rfl))) (fun _ _ _ => noTs) (fun _ _ _ => (opE q_mulS eStr (cbE (k_len (K := K) rfl) rfl T.b_len PySem.boot_len rfl rfl rfl (paE rfl (vn 0 rfl (Or.inl rfl) rfl rfl) aNil)))))))
      ssNil)
      (ssOne (retS (opE q_addA (opE q_addA (slE (K := K) rfl (vn 0 rfl (Or.inl rfl) rfl rfl) noO (someO (vn 2 rfl (Or.inl rfl) rfl rfl))) (lstE (paE rfl (vn 3 rfl (Or.inl rfl) rfl rfl) aNil))) (slE (K := K) rfl (vn 0 rfl (Or.inl rfl) rfl rfl) (someO (opE q_addI (vn 2 rfl (Or.inl rfl) rfl rfl) eInt)) noO))))))))))))))))), ?_⟩
    show tSeq _ _ _ [some (.ref a), some (.int n), none, none, none, none, none, none] H
    refine seq_op fun D1 k1 r1 => ?_
    walk_at "rd"
    refine ⟨⟨by decide, by decide⟩, _, .inl ⟨_, hs, rfl⟩, by rw [List.length_map]; omega, k1 _ _ (seq_op fun D2 k2 r2 => ?_)⟩
    rw [List.length_map]
    obtain ⟨at0, ea⟩ := Int.eq_ofNat_of_zero_le (Int.emod_nonneg (n / 8) (by omega : (rows.length : Int) ≠ 0))
    have hat : at0 < rows.length := by have := Int.emod_lt_of_pos (n / 8) (by omega : (0 : Int) < rows.length); omega
    rw [ea]
    have er : atI (rows.map V.str) (at0 : Int) = some (V.str rows[at0]) := atI_nat (by simp [hat])
    have hr0 := ok.wide _ (List.getElem_mem hat)
    have hn0 := ok.nonl _ (List.getElem_mem hat)
    generalize hrow : rows[at0] = r0 at er hr0 hn0
    walk_at "rd"
    refine ⟨_, hs, _, er, k2 _ _ (seq_op fun D3 k3 r3 => ?_)⟩
    walk_at "rd"
    have hmx : (0 : Int) < if (r0.length : Int) > 1 then (r0.length : Int) else 1 := by split <;> omega
    refine ⟨⟨by decide, by decide⟩, Nat.le_trans hr0 (Nat.le_trans b2 (by decide)), hmx, k3 _ _ (seq_op fun D4 k4 r4 => ?_)⟩
    have pl0 := Int.emod_nonneg (n / 320) (Int.ne_of_gt hmx)
    have pl1 : (n / 320 % if (r0.length : Int) > 1 then (r0.length : Int) else 1) < max 1 (r0.length : Int) := by
      have := Int.emod_lt_of_pos (n / 320) hmx
      split at this <;> split <;> omega
    generalize (n / 320 % if (r0.length : Int) > 1 then (r0.length : Int) else 1) = pl at pl0 pl1
    walk_at "rd"
    refine ⟨by decide, k4 _ _ ?_⟩
    have w0 := Int.emod_nonneg n (by decide : (8 : Int) ≠ 0)
    have w1 := Int.emod_lt_of_pos n (by decide : (0 : Int) < 8)
    generalize n % 8 = way at w0 w1
    have sl : ∀ (r : Str) (lo hi : Option Int), 10 ∉ r.cps.toList → 10 ∉ (Txt.slice r lo hi).cps.toList := fun r lo hi h q => h (slice_mem q)
    have app : ∀ x y : Str, 10 ∉ x.cps.toList → 10 ∉ y.cps.toList → 10 ∉ (x ++ y).cps.toList := fun x y hx hy => by
      show 10 ∉ (x.cps ++ y.cps).toList
      simp only [Array.toList_append, List.mem_append, not_or]
      exact ⟨hx, hy⟩
    have szl : ∀ x : Nat, x ≤ 5000 → x ≤ sizeLine := fun x h => big_line h
    have sz0 : r0.length ≤ sizeLine := szl _ (by omega)
    have st := slice_to (z := r0) pl0
    have sf := slice_from (z := r0) (p := pl + 1) (by omega)
    have two : (Txt.slice r0 none (some pl)).length + (Txt.slice r0 (some (pl + 1)) none).length ≤ B := by omega
    refine seq_op fun D5 k5 r5 => ?_
    have go5 : ∀ r : Str, r.length ≤ B + 1 → 10 ∉ r.cps.toList → (r = r0 ∨ way < 1) → D5.nx [some (.ref a), some (.int n), some (.int (at0 : Int)), some (.str r), some (.int pl), some (.int way), none, none] H := by
      intro r hr hrn hrw
      refine k5 _ _ (seq_op fun D6 k6 r6 => ?_)
      have go6 : ∀ r : Str, r.length ≤ B + 1 → 10 ∉ r.cps.toList → (r = r0 ∨ way < 2) → D6.nx [some (.ref a), some (.int n), some (.int (at0 : Int)), some (.str r), some (.int pl), some (.int way), none, none] H := by
        intro r hr hrn hrw
        refine k6 _ _ (seq_op fun D7 k7 r7 => ?_)
        have go7 : ∀ (r : Str) (o6 : Option V), r.length ≤ B + 1 → 10 ∉ r.cps.toList → (r = r0 ∨ way < 3) → D7.nx [some (.ref a), some (.int n), some (.int (at0 : Int)), some (.str r), some (.int pl), some (.int way), o6, none] H := by
          intro r o6 hr hrn hrw
          refine k7 _ _ (seq_op fun D8 k8 r8 => ?_)
          have go8 : ∀ (r : Str), r.length ≤ B + 1 → 10 ∉ r.cps.toList → (r = r0 ∨ way < 4) → D8.nx [some (.ref a), some (.int n), some (.int (at0 : Int)), some (.str r), some (.int pl), some (.int way), o6, none] H := by
            intro r hr hrn hrw
            refine k8 _ _ (seq_op fun D9 k9 r9 => ?_)
            have go9 : ∀ (r : Str), r.length ≤ B + 1 → 10 ∉ r.cps.toList → D9.nx [some (.ref a), some (.int n), some (.int (at0 : Int)), some (.str r), some (.int pl), some (.int way), o6, none] H := by
              intro r hr hrn
              have hlr : ∀ H2, Same H H2 → SqL K H2 a (rows.map V.str) := fun H2 s2 => SqL.of (s2 _ _ ha)
              refine k9 _ _ (seq_op fun D10 k10 r10 => ?_)
              have go10 : D10.nx [some (.ref a), some (.int n), some (.int (at0 : Int)), some (.str r), some (.int pl), some (.int way), o6, none] H := by
                refine k10 _ _ (seq_op fun D11 k11 r11 => ?_)
                have go11 : D11.nx [some (.ref a), some (.int n), some (.int (at0 : Int)), some (.str r), some (.int pl), some (.int way), o6, none] H := by
                  refine k11 _ _ (seq_op fun D12 k12 r12 => ?_)
                  have go12 : D12.nx [some (.ref a), some (.int n), some (.int (at0 : Int)), some (.str r), some (.int pl), some (.int way), o6, none] H := by
                    refine k12 _ _ ?_
                    walk_at "rd"
                    refine .inl ⟨_, hs, fun p hp0 => ⟨show 1 ≤ sizeLine from by decide, fun p1 hp1 => ?_⟩⟩
                    rw [cutV_to] at hp1 ⊢
                    have s1 : Same H (upd H p (.lst ((rows.take at0).map V.str))) := Same.upd hp0
                    have s2 := Same.upd (o := .lst [V.str r]) hp1
                    refine ⟨_, s2 _ _ upd_same, _, upd_same, ?_, fun p2 hp2 => ?_⟩
                    · rw [List.length_map, List.length_take]
                      exact szl _ (by simp; omega)
                    have s3 := Same.upd (o := .lst ((rows.take at0).map V.str ++ [V.str r])) hp2
                    refine .inl ⟨_, hlr _ ((s1.trans s2).trans s3), fun p3 hp3 => ?_⟩
                    have e1 : ((at0 : Int) + 1) = ((at0 + 1 : Nat) : Int) := by omega
                    rw [e1, cutV_from] at *
                    have s4 := Same.upd (o := .lst ((rows.drop (at0 + 1)).map V.str)) hp3
                    refine ⟨_, s4 _ _ upd_same, _, upd_same, ?_, fun p4 hp4 => ?_⟩
                    · simp only [List.length_append, List.length_map, List.length_take, List.length_drop, List.length_singleton]
                      exact szl _ (by omega)
                    have s14 := ((s1.trans s2).trans s3).trans s4
                    refine kk p4 _ (rows.take at0 ++ [r] ++ rows.drop (at0 + 1)) (s14.trans (Same.upd hp4)) (s14.free hp4) (by rw [upd_same]; simp) ⟨by simp, ?_, fun z hz => ?_, fun z hz => ?_⟩
                    · simp only [List.length_append, List.length_take, List.length_drop, List.length_singleton]
                      omega
                    · rcases List.mem_append.mp hz with hz | hz
                      · rcases List.mem_append.mp hz with hz | hz
                        · exact Nat.le_succ_of_le (ok.wide z (List.mem_of_mem_take hz))
                        · rw [List.mem_singleton.mp hz]; exact hr
                      · exact Nat.le_succ_of_le (ok.wide z (List.mem_of_mem_drop hz))
                    · rcases List.mem_append.mp hz with hz | hz
                      · rcases List.mem_append.mp hz with hz | hz
                        · exact ok.nonl z (List.mem_of_mem_take hz)
                        · rw [List.mem_singleton.mp hz]; exact hrn
                      · exact ok.nonl z (List.mem_of_mem_drop hz)
                  walk_at "rd"
                  refine ite2 (fun hw => ?_) fun hw => go12
                  refine comp_split fun Kont hK => ?_
                  walk_at "rd"
                  refine .inl ⟨⟨_, hlr _ (Same.refl _)⟩, hK _ _ fun D hD => ?_⟩
                  refine comp_by (J := Itl K a) (n := rows.length) (D := D) (fun q ys σ H2 => (∃ o, σ = [o]) ∧ Same H H2 ∧ H2 D = some (.lst ys) ∧ ys = (rows.take q).map (fun z => V.str (Txt.mul (Str.ofString ".") (z.length : Int)))) ⟨⟨none, rfl⟩, Same.upd hD, upd_same, rfl⟩
                    (fun i _ _ H2 hi ⟨_, s2, _⟩ => ⟨_, V.str rows[i], hlr _ s2, by simp [hi]⟩) (fun _ _ H2 ⟨_, s2, _⟩ => ⟨_, hlr _ s2, by simp⟩) ?_ ?_
                  · rintro q ys σ H7 hq ⟨⟨o, rfl⟩, s7, hd, hy⟩ x H8 ⟨e8, hx⟩
                    subst e8
                    have hxi := hx _ (hlr _ s7)
                    rw [List.getElem?_map, List.getElem?_eq_getElem hq] at hxi
                    obtain rfl : x = V.str rows[q] := (Option.some.inj hxi).symm
                    have hwq := ok.wide _ (List.getElem_mem hq)
                    walk_at "rd"
                    refine ⟨szl _ (by omega), by omega, by omega, by decide, CK.mk hq hd ?_ ⟨⟨_, rfl⟩, ?_, upd_same, ?_⟩⟩
                    · rw [hy, List.length_map, List.length_take, PySem.sizeLine_eq]; omega
                    · exact fun b u e => by rw [upd_ne (ne_of_none e hD)]; exact s7 _ _ e
                    · rw [hy, List.take_add_one, List.map_append, List.getElem?_eq_getElem hq]; rfl
                  · rintro ys σ H7 ⟨_, s7, hd, hy⟩
                    rw [List.take_of_length_le (Nat.le_refl _)] at hy
                    refine r12 _ _ (kk D H7 (rows.map fun z => Txt.mul (Str.ofString ".") (z.length : Int)) s7 hD (by rw [hd, hy, List.map_map]; rfl) ⟨by simpa using ok.pos, by rw [List.length_map]; exact hhi, fun z hz => ?_, fun z hz hq => ?_⟩)
                    · obtain ⟨z0, hz0, rfl⟩ := List.mem_map.mp hz
                      have := mul_len (z := Str.ofString ".") (n := (z0.length : Int)) (by decide) (by omega)
                      have := ok.wide z0 hz0
                      omega
                    · obtain ⟨z0, hz0, rfl⟩ := List.mem_map.mp hz
                      exact absurd (mul_mem (by decide) hq) (by decide)
                walk_at "rd"
                refine ite2 (fun hw => ?_) fun hw => go11
                obtain ⟨lst, lm, lc⟩ := cutV_last rows ok.pos
                have m0 := Int.emod_nonneg (n / 320) (by decide : (3 : Int) ≠ 0)
                have m1 := Int.emod_lt_of_pos (n / 320) (by decide : (0 : Int) < 3)
                refine ⟨_, .inl ⟨_, hs, rfl⟩, ⟨by decide, by decide⟩, by decide, .inl ⟨_, hs, fun p hp0 => ?_⟩⟩
                rw [lc, List.length_map]
                generalize hmore : (41 - (rows.length : Int) + n / 320 % 3) = more
                have s1 : Same H (upd H p (.lst [V.str lst])) := Same.upd hp0
                refine ⟨_, upd_same, by omega, by omega, szl _ (by rw [List.length_singleton]; omega), fun p1 hp1 => ?_⟩
                have fl : (List.replicate more.toNat [V.str lst]).flatten = (List.replicate more.toNat lst).map V.str := by
                  generalize more.toNat = k
                  induction k with
                  | zero => rfl
                  | succ k ih => rw [List.replicate_succ, List.replicate_succ, List.flatten_cons, ih]; rfl
                rw [fl]
                have s2 := Same.upd (o := .lst ((List.replicate more.toNat lst).map V.str)) hp1
                refine ⟨_, s2 _ _ (s1 _ _ ha), _, upd_same, ?_, fun p2 hp2 => ?_⟩
                · simp only [List.length_map, List.length_replicate]
                  exact szl _ (by omega)
                have s12 := s1.trans s2
                refine r11 _ _ (kk p2 _ (rows ++ List.replicate more.toNat lst) (s12.trans (Same.upd hp2)) (s12.free hp2) (by rw [upd_same]; simp) ⟨by simp [ok.pos], ?_, fun z hz => ?_, fun z hz => ?_⟩)
                · rw [List.length_append, List.length_replicate]
                  omega
                · rcases List.mem_append.mp hz with hz | hz
                  · exact Nat.le_succ_of_le (ok.wide z hz)
                  · rw [(List.mem_replicate.mp hz).2]; exact Nat.le_succ_of_le (ok.wide lst lm)
                · rcases List.mem_append.mp hz with hz | hz
                  · exact ok.nonl z hz
                  · rw [(List.mem_replicate.mp hz).2]; exact ok.nonl lst lm
              walk_at "rd"
              refine ite2 (fun hw => ?_) fun hw => go10
              refine comp_split fun Kont hK => ?_
              walk_at "rd"
              refine .inl ⟨⟨_, hlr _ (Same.refl _)⟩, hK _ _ fun D hD => ?_⟩
              have s1l : ∀ z : Str, (Txt.slice z none (some 1)).length ≤ 1 := fun z => slice_to (p := 1) (by decide)
              refine comp_by (J := Itl K a) (n := rows.length) (D := D) (fun q ys σ H2 => (∃ o, σ = [o]) ∧ Same H H2 ∧ H2 D = some (.lst ys) ∧ ys = (rows.take q).map (fun z => V.str (z ++ Txt.mul (Txt.slice z none (some 1)) (41 - (z.length : Int))))) ⟨⟨none, rfl⟩, Same.upd hD, upd_same, rfl⟩
                (fun i _ _ H2 hi ⟨_, s2, _⟩ => ⟨_, V.str rows[i], hlr _ s2, by simp [hi]⟩) (fun _ _ H2 ⟨_, s2, _⟩ => ⟨_, hlr _ s2, by simp⟩) ?_ ?_
              · rintro q ys σ H7 hq ⟨⟨o, rfl⟩, s7, hd, hy⟩ x H8 ⟨e8, hx⟩
                subst e8
                have hxi := hx _ (hlr _ s7)
                rw [List.getElem?_map, List.getElem?_eq_getElem hq] at hxi
                obtain rfl : x = V.str rows[q] := (Option.some.inj hxi).symm
                have hwq := ok.wide _ (List.getElem_mem hq)
                have hml := mul_len (s1l rows[q]) (n := 41 - (rows[q].length : Int)) (by omega)
                have hs1 := s1l rows[q]
                walk_at "rd"
                refine ⟨szl _ (by omega), szl _ (by omega), by omega, by omega, by omega, szl _ (by omega), CK.mk hq hd ?_ ⟨⟨_, rfl⟩, ?_, upd_same, ?_⟩⟩
                · rw [hy, List.length_map, List.length_take, PySem.sizeLine_eq]; omega
                · exact fun b u e => by rw [upd_ne (ne_of_none e hD)]; exact s7 _ _ e
                · rw [hy, List.take_add_one, List.map_append, List.getElem?_eq_getElem hq]; rfl
              · rintro ys σ H7 ⟨_, s7, hd, hy⟩
                rw [List.take_of_length_le (Nat.le_refl _)] at hy
                refine r10 _ _ (kk D H7 (rows.map fun z => z ++ Txt.mul (Txt.slice z none (some 1)) (41 - (z.length : Int))) s7 hD (by rw [hd, hy, List.map_map]; rfl) ⟨by simpa using ok.pos, by rw [List.length_map]; exact hhi, fun z hz => ?_, fun z hz => ?_⟩)
                · obtain ⟨z0, hz0, rfl⟩ := List.mem_map.mp hz
                  have := ok.wide z0 hz0
                  have := mul_len (s1l z0) (n := 41 - (z0.length : Int)) (by omega)
                  rw [strLen_append]
                  omega
                · obtain ⟨z0, hz0, rfl⟩ := List.mem_map.mp hz
                  exact app _ _ (ok.nonl z0 hz0) fun q => sl _ _ _ (ok.nonl z0 hz0) (mul_mem (s1l z0) q)
            walk_at "rd"
            refine ite2 (fun hw => go9 _ (Nat.zero_le _) (by decide)) fun hw => go9 r hr hrn
          walk_at "rd"
          refine ite2 (fun hw => ?_) fun hw => go8 r hr hrn (hrw.imp id fun q => by omega)
          have hw : way = 3 := of_decide_eq_true hw
          obtain rfl : r = r0 := hrw.resolve_right (by omega)
          have d1 : (Str.ofString ".").length = 1 := rfl
          refine ⟨sz0, szl _ (by omega), sz0, by rw [strLen_append]; exact szl _ (by omega), go8 _ (by rw [strLen_append, strLen_append]; omega) (app _ _ (app _ _ (sl _ _ _ hn0) (by decide)) (sl _ _ _ hn0)) (.inr (by omega))⟩
        walk_at "rd"
        refine ite2 (fun hw => ?_) fun hw => go7 r none hr hrn (hrw.imp id fun q => by omega)
        have hw : way = 2 := of_decide_eq_true hw
        obtain rfl : r = r0 := hrw.resolve_right (by omega)
        have m0 := Int.emod_nonneg (n / 320) (by decide : (12 : Int) ≠ 0)
        have m1 := Int.emod_lt_of_pos (n / 320) (by decide : (0 : Int) < 12)
        obtain ⟨c, hc, hm⟩ := atI_some (Str.ofString "AZ0 _@{,:-/\t").cps.toList (i := n / 320 % 12) m0 (by rw [odd_len]; exact m1)
        have d1 : (⟨#[c]⟩ : Str).length = 1 := rfl
        have hc10 : 10 ∉ (⟨#[c]⟩ : Str).cps.toList := fun q => odd_fine c hm (List.mem_singleton.mp q).symm
        refine ⟨⟨by decide, by decide⟩, by decide, by decide, c, hc, sz0, szl _ (by omega), sz0, by rw [strLen_append]; exact szl _ (by omega), go7 _ _ (by rw [strLen_append, strLen_append]; omega) (app _ _ (app _ _ (sl _ _ _ hn0) hc10) (sl _ _ _ hn0)) (.inr (by omega))⟩
      walk_at "rd"
      refine ite2 (fun hw => ?_) fun hw => go6 r hr hrn (hrw.imp id fun q => by omega)
      have hw : way = 1 := of_decide_eq_true hw
      obtain rfl : r = r0 := hrw.resolve_right (by omega)
      refine ⟨sz0, sz0, szl _ (by omega), go6 _ (by rw [strLen_append]; omega) (app _ _ (sl _ _ _ hn0) (sl _ _ _ hn0)) (.inr (by omega))⟩
    walk_at "rd"
    refine ite2 (fun hw => ?_) fun hw => go5 r0 (by omega) hn0 (.inl rfl)
    have d1 : (Str.ofString "a").length = 1 := rfl
    have hw : way = 0 := of_decide_eq_true hw
    exact ⟨szl _ (by omega), go5 _ (by rw [strLen_append]; omega) (app _ _ hn0 (by decide)) (.inr (by omega))⟩
end
end K03
namespace K03
open PySem L2 Cut
local macro_rules | `(tactic| walk_at "rd") => `(tactic| simp only [tSeq, tNext, tIfS, tRet, tRetN, tDrop, tAsg, gName, tTest, tB, tAnd, tOr, tNot, tAndV, tOrV, tNotV, tIf, tOp, tUn, tC, tVar, tCB, tCall, tNil, tCons, tTup, tLst, tChain, tBM, tBM0, tSl, tPart, tNoPart, tYes, rI, rI0, rU, rEqA, rNeA, rEq, rNe, rAddA, rAddS, rMulA, rCat, rRep, rIx, rIxL, rIxT, rIxS, rInA, rInS, rNotInA, rNotInS, rEqB, rNeB, rEqL, rNeL, rEqT, rNeT, rMulS, rSplit, rClear, rExtend, rSetL, gSub, gTup, gCons, gNil, iEnum, iZipS, rIn, rSlA, rSlL, rSlT, rSlS, rAppend, rJoin, LenV, TruV, iRng1, iRng2, iAny, scal, tyV,
  List.getElem?_cons_zero, List.getElem?_cons_succ, List.set_cons_zero, List.set_cons_succ, Option.some.injEq, V.int.injEq, V.str.injEq, V.bl.injEq, V.ref.injEq, V.ty.injEq, List.cons.injEq, reduceCtorEq, and_true, true_and, and_false, false_and, or_false, false_or, or_true, true_or, exists_false, exists_eq_left', exists_eq_left, exists_eq_right, exists_eq_right', exists_and_left, exists_and_right, exists_eq, List.cons_append, List.nil_append, List.append_nil, exists_const, and_assoc, Int.zero_add, Bool.not_true, Bool.not_false, Bool.false_eq_true, if_true, if_false, eq_self])

theorem ok40 {rows : List Str} (h : IsCut rows) : OkRows rows 40 := by
  obtain ⟨wd, w1, w2, hw⟩ := h.wide
  exact ⟨h.okRows.pos, h.okRows.high, fun r hr => by have : r.length = wd := hw r hr; omega, h.nonl⟩
theorem ok_up {rows : List Str} {B C : Nat} (h : OkRows rows B) (hB : B ≤ C) : OkRows rows C := ⟨h.pos, h.high, fun r hr => Nat.le_trans (h.wide r hr) hB, h.nonl⟩
theorem fine_one {rows : List Str} {r : Str} (e : rows[0]? = some r) (h : rowB r = true) : FineTo rows 1 := by
  intro k hk
  have k0 : k = 0 := by omega
  subst k0
  rintro ⟨r', er, q | q | ⟨u, h0, _⟩⟩
  · cases q
  · rw [e] at er
    cases er
    rw [h] at q
    cases q
  · cases h0
theorem ref_e : RefRows [Str.ofString ""] 0 := Or.inl ⟨by decide, FineTo.zero _, Str.ofString "", rfl, .inr (.inl (by decide +kernel))⟩
theorem ref_d : RefRows [Str.ofString "."] 0 := by
  refine Or.inr ⟨rfl, fine_one (r := Str.ofString ".") rfl (by decide +kernel), ?_⟩
  intro r hr c hc
  rw [List.mem_singleton.mp hr] at hc
  exact List.mem_singleton.mp hc
theorem ref_ad : RefRows [Str.ofString "a", Str.ofString "."] 1 :=
  Or.inl ⟨by decide, fine_one (r := Str.ofString "a") rfl (by decide +kernel), Str.ofString ".", rfl, .inr (.inr ⟨Str.ofString "a", by decide, rfl, by decide +kernel⟩)⟩
theorem ok_e : OkRows [Str.ofString ""] 50 := ⟨by simp, by decide, fun r hr => by rw [List.mem_singleton.mp hr]; decide, fun r hr => by rw [List.mem_singleton.mp hr]; decide⟩
theorem ok_d : OkRows [Str.ofString "."] 50 := ⟨by simp, by decide, fun r hr => by rw [List.mem_singleton.mp hr]; decide, fun r hr => by rw [List.mem_singleton.mp hr]; decide⟩
theorem ok_ad : OkRows [Str.ofString "a", Str.ofString "."] 50 := by
  refine ⟨by simp, by decide, fun r hr => ?_, fun r hr => ?_⟩
  · simp only [List.mem_cons, List.not_mem_nil, or_false] at hr
    rcases hr with rfl | rfl <;> decide
  · simp only [List.mem_cons, List.not_mem_nil, or_false] at hr
    rcases hr with rfl | rfl <;> decide
def sp_law (K : PySem.W.Frag) : Sp := fun vs H Q _ => ∃ (a : Addr) (ns : List Int), vs = [.ref a] ∧ SqL K H a (ns.map V.int) ∧ Only H ∧ ns.length ≤ 63 ∧ ∀ H', Q (.bl true) H'
section
variable {P : Program} {w : World} {K : PySem.W.Frag} {mg : Str → Option Value} {base : Heap}
set_option maxHeartbeats 4000000 in
theorem ok_law {f : Addr} {fd : FuncData} (F : Fun K "law" "law" s_law f fd) (T : Txt K mg) : FnOk P w K mg base CX0 5 f fd ["_law_script"] (sp_law K) := by
  have C_law_row : Cal P w K mg base 2 "_law_row" ["_law_script", "_law_many"] (sp_row K) := C_law_row T
  have C_law_drawn : Cal P w K mg base 2 "_law_drawn" ["_law_row_here"] (sp_drawn K) := C_law_drawn T
  have C_law_fault : Cal P w K mg base 1 "_law_fault" ["_law_rows", "_law_number"] sp_fault := C_law_fault T
  have C_law_first : Cal P w K mg base 1 "_law_first" ["_law_rows"] sp_first := C_law_first T
  have C_rows_of : Cal P w K mg base 2 "rows_of" ["text"] sp_rows_of := C_rows_of T
  have C_law_refused : Cal P w K mg base 4 "_law_refused" ["_law_call_text", "_law_times"] (sp_refusedN K) := C_law_refused T
  have C_NoCut : CalI P w K mg base 1 "NoCut" ["self", "row"] (sp_NoCut (clsA mg "NoCut")) := C_NoCut T
  refine F.ok sc_law (fun vs H Q E h => ?_) (fun cdv A outer s H vs Q E hr h => ?_)
  · obtain ⟨a, ns, rfl, _⟩ := h
    rfl
  · obtain ⟨a, ns, rfl, hs, ho, hn, kk⟩ := h
    refine ⟨_, (QSs.h (ssCons (setE 1 sc_law.nd rfl (Or.inl rfl) (Or.inr rfl) rfl (calE C_law_row hr rfl rfl rfl rfl (paE rfl (vn 0 rfl (Or.inl rfl) rfl rfl) (paE rfl eInt aNil))))
      (ssCons (setE 2 sc_law.nd rfl (Or.inl rfl) (Or.inr rfl) rfl (calE C_law_drawn hr rfl rfl rfl rfl (paE rfl (vn 1 rfl (Or.inl rfl) rfl rfl) aNil)))
      (ssCons (forE PassesOwn.never rfl rfl (rng1E rfl T.b_range rfl (paE rfl eInt aNil)) (nameG 3 sc_law.nd rfl (Or.inl rfl) (Or.inr rfl))
      (ssCons (setE 4 sc_law.nd rfl (Or.inl rfl) (Or.inr rfl) rfl (calE C_law_fault hr rfl rfl rfl rfl (paE rfl (vn 2 rfl (Or.inl rfl) rfl rfl) (paE rfl (ixLE (K := K) rfl (fun _ _ => rfl) (vn 1 rfl (Or.inl rfl) rfl rfl) (opE q_addI eInt (opE q_mulI eInt (vn 3 rfl (Or.inl rfl) rfl rfl)))) aNil))))
        (ssCons (ifS (cmpT (q_eqB (K := K) rfl hr) rfl (opE q_mod (ixLE (K := K) rfl (fun _ _ => rfl) (vn 1 rfl (Or.inl rfl) rfl rfl) (opE q_addI eInt (opE q_mulI eInt (vn 3 rfl (Or.inl rfl) rfl rfl)))) eInt) eInt)
        (ssOne (setE 4 sc_law.nd rfl (Or.inl rfl) (Or.inr rfl) rfl (calE C_law_fault hr rfl rfl rfl rfl (paE rfl (vn 4 rfl (Or.inl rfl) rfl rfl) (paE rfl (opE q_fdiv (ixLE (K := K) rfl (fun _ _ => rfl) (vn 1 rfl (Or.inl rfl) rfl rfl) (opE q_addI eInt (opE q_mulI eInt (vn 3 rfl (Or.inl rfl) rfl rfl)))) eInt) aNil)))))
        ssNil)
        (ssCons (setE 5 sc_law.nd rfl (Or.inl rfl) (Or.inr rfl) rfl (calE C_law_first hr rfl rfl rfl rfl (paE rfl (vn 4 rfl (Or.inl rfl) rfl rfl) aNil)))
        (ssCons (ifS (cmpT q_isN rfl (vn 5 rfl (Or.inl rfl) rfl rfl) eNon)
        (ssOne (ifS (cmpT (q_neB (K := K) rfl hr) rfl (calE C_rows_of hr rfl rfl rfl rfl (paE rfl (bmE (K := K) rfl PySem.F.plainAttrs_str PySem.F.slot_str_join PySem.F.type_str_join (m_join (K := K) rfl) rfl rfl rfl rfl eStr (paE rfl (vn 4 rfl (Or.inl rfl) rfl rfl) aNil)) aNil)) (vn 4 rfl (Or.inl rfl) rfl rfl))
          (ssOne (retS eBl))
          ssNil))
        (ssOne (ifS (cmpT (q_neB (K := K) rfl hr) rfl (calE C_law_refused hr rfl rfl rfl rfl (paE rfl (bmE (K := K) rfl PySem.F.plainAttrs_str PySem.F.slot_str_join PySem.F.type_str_join (m_join (K := K) rfl) rfl rfl rfl rfl eStr (paE rfl (vn 4 rfl (Or.inl rfl) rfl rfl) aNil)) (paE rfl eInt aNil))) (vn 5 rfl (Or.inl rfl) rfl rfl))
          (ssOne (retS eBl))
          ssNil)))
        (ssCons (setE 6 sc_law.nd rfl (Or.inl rfl) (Or.inr rfl) rfl (lstE (paE rfl eNon (paE rfl eInt (paE rfl eBl (paE rfl (vn 2 rfl (Or.inl rfl) rfl rfl) (paE rfl (ctE (k_tuple (K := K) rfl) rfl T.b_tuple PyProof.Rows.boot_tuple rfl rfl rfl (paE rfl (vn 2 rfl (Or.inl rfl) rfl rfl) aNil)) (paE rfl dnewE (paE rfl eInt (paE rfl (lstE (paE rfl eStr aNil)) aNil))))))))))
        (ssOne (ifS (cmpT (q_neB (K := K) rfl hr) rfl (calE C_law_refused hr rfl rfl rfl rfl (paE rfl (ixLE (K := K) rfl (fun _ _ => rfl) (vn 6 rfl (Or.inl rfl) rfl rfl) (opE q_mod (ixLE (K := K) rfl (fun _ _ => rfl) (vn 1 rfl (Or.inl rfl) rfl rfl) (opE q_addI eInt (opE q_mulI eInt (vn 3 rfl (Or.inl rfl) rfl rfl)))) eInt)) (paE rfl eInt aNil))) eInt)
        (ssOne (retS eBl))
        ssNil))))))))
      (ssCons (setE 7 sc_law.nd rfl (Or.inl rfl) (Or.inr rfl) rfl (makeXE C_NoCut hr rfl rfl rfl rfl (paE rfl (opE q_mod (ixLE (K := K) rfl (fun _ _ => rfl) (vn 1 rfl (Or.inl rfl) rfl rfl) eInt) eInt) aNil)))
      (ssCons (ifS (wT (orW (notT (truT (K := K) rfl (fun _ => rfl) (cbE (k_isO (K := K) rfl) rfl T.b_isinstance PyProof.Rows.boot_isinstance rfl rfl rfl (paE rfl (vn 7 rfl (Or.inl rfl) rfl rfl) (paE rfl (clsE rfl T.c_DigError rfl) aNil))))) (or1W (cmpT (q_neB (K := K) rfl hr) rfl (fldOE T.g_NoCut_row rfl (vn 7 rfl (Or.inl rfl) rfl rfl)) (opE q_mod (ixLE (K := K) rfl (fun _ _ => rfl) (vn 1 rfl (Or.inl rfl) rfl rfl) eInt) eInt)))))
      (ssOne (retS eBl))
      ssNil)
      (ssOne (retS (andV (cmpE (q_eqB (K := K) rfl hr) rfl (calE C_law_refused hr rfl rfl rfl rfl (paE rfl eStr (paE rfl eInt aNil))) eInt) (andV (cmpE (q_eqB (K := K) rfl hr) rfl (calE C_law_refused hr rfl rfl rfl rfl (paE rfl eStr (paE rfl eInt aNil))) eInt) (oneV (cmpE (q_eqB (K := K) rfl hr) rfl (calE C_law_refused hr rfl rfl rfl rfl (paE rfl eStr (paE rfl eInt aNil))) eInt)))))))))))), ?_⟩
    show tSeq _ _ _ [some (.ref a), none, none, none, none, none, none, none] H
    have jn : ∀ rows : List Str, Txt.join (Str.ofString "\n") rows = Str.join nl rows := fun rows => StrLaws.glued_eq_join _ _
    have jl : ∀ (rows : List Str) (B : Nat), OkRows rows B → B ≤ 50 → (rows.map (fun x => x.length)).sum + rows.length * (Str.ofString "\n").length ≤ 16777216 := fun rows B c hB => by
      have := c.sum hB
      have := c.high
      rw [show (Str.ofString "\n").length = 1 from rfl]
      have e : (rows.map (fun x : Str => x.length)).sum = (rows.map (·.length)).sum := rfl
      omega
    refine seq_op fun D1 k1 r1 => ?_
    walk_at "rd"
    refine ⟨a, ns, 52, rfl, hs, by omega, by decide, by decide, fun l H1 xs sm1 hl hx hxl hxb => k1 _ _ (seq_op fun D2 k2 r2 => ?_)⟩
    walk_at "rd"
    have hxl : xs.length = 52 := hxl
    refine ⟨l, xs, rfl, SqL.of hx, by omega, hxb, fun R H2 rows sm2 hR0 hR hcut => k2 _ _ (seq_op fun D3 k3 r3 => for_split fun Kont hK => ?_)⟩
    walk_at "rd"
    have hx2 := sm2 _ _ hx
    have atx : ∀ (i : Nat) (hi : i < 52), atI (xs.map V.int) (i : Int) = some (V.int (xs[i]'(by omega))) := fun i hi => atI_nat (by simp [hxl, hi])
    have bx : ∀ (i : Nat) (hi : i < 52), 0 ≤ xs[i]'(by omega) ∧ xs[i]'(by omega) < 9973 := fun i hi => hxb _ (List.getElem_mem _)
    refine ⟨by decide, by decide, hK _ _ (for_range (fun i σ H' => (∃ o3 o4 o5 o6, σ = [some (.ref a), some (.ref l), some (.ref R), o3, o4, o5, o6, none]) ∧ H' l = some (.lst (xs.map V.int)) ∧ H' R = some (.lst (rows.map V.str))) ⟨⟨_, _, _, _, rfl⟩, hx2, hR⟩ ?_ ?_)⟩
    · rintro i σ H' hi ⟨⟨o3, o4, o5, o6, rfl⟩, hl', hR'⟩
      have hi : i < 6 := hi
      show tSeq _ _ _ [some (.ref a), some (.ref l), some (.ref R), some (.int ((0 : Int) + (i : Int))), o4, o5, o6, none] H'
      rw [Int.zero_add]
      have e40 : (40 : Int) + 2 * (i : Int) = ((40 + 2 * i : Nat) : Int) := by omega
      have e41 : (41 : Int) + 2 * (i : Int) = ((41 + 2 * i : Nat) : Int) := by omega
      obtain ⟨x0, hx0⟩ : ∃ x, x = xs[40 + 2 * i]'(by omega) := ⟨_, rfl⟩
      obtain ⟨x1, hx1⟩ : ∃ x, x = xs[41 + 2 * i]'(by omega) := ⟨_, rfl⟩
      have b0 := bx (40 + 2 * i) (by omega)
      have b1 := bx (41 + 2 * i) (by omega)
      have a0 := atx (40 + 2 * i) (by omega)
      have a1 := atx (41 + 2 * i) (by omega)
      rw [← hx0] at b0 a0
      rw [← hx1] at b1 a1
      rw [← e40] at a0
      rw [← e41] at a1
      refine seq_op fun D4 k4 r4 => ?_
      walk_at "rd"
      refine ⟨.inl ⟨by decide, by decide⟩, _, SqL.of hl', _, a0, R, rows, x0, 40, rfl, hR', ok40 hcut, by decide, by decide, b0.1, by omega, fun l4 H4 rows4 s4 f4 h4 ok4 => k4 _ _ (seq_op fun D5 k5 r5 => ?_)⟩
      have hl4 := s4 _ _ hl'
      have hR4 := s4 _ _ hR'
      have go5 : ∀ (l5 : Addr) (H5 : Hp) (rows5 : List Str), H5 l = some (.lst (xs.map V.int)) → H5 R = some (.lst (rows.map V.str)) → H5 l5 = some (.lst (rows5.map V.str)) → OkRows rows5 50 → D5.nx [some (.ref a), some (.ref l), some (.ref R), some (.int (i : Int)), some (.ref l5), o5, o6, none] H5 := by
        intro l5 H5 rows5 hl5 hR5 h5 ok5
        refine k5 _ _ (seq_op fun D6 k6 r6 => ?_)
        walk_at "rd"
        refine ⟨l5, rows5, rfl, h5, ok5, fun v hv => k6 _ _ (seq_op fun D7 k7 r7 => ?_)⟩
        have go7 : ∀ H7, Same H5 H7 → D7.nx [some (.ref a), some (.ref l), some (.ref R), some (.int (i : Int)), some (.ref l5), some v, o6, none] H7 := by
          intro H7 s7
          have hl7 := s7 _ _ hl5
          have hR7 := s7 _ _ hR5
          refine k7 _ _ (seq_op fun D8 k8 r8 => ?_)
          walk_at "rd"
          refine ⟨_, .inl ⟨SqL.of hR7, fun tp htp => ?_⟩⟩
          simp only [tDNewK]
          refine fun dd hdd => ⟨show 1 ≤ sizeLine from by decide, fun p hp => ⟨show 8 ≤ sizeLine from by decide, fun od hod => k8 _ _ ?_⟩⟩
          have t1 := Same.upd (o := .tup (rows.map V.str)) htp
          have t2 := Same.upd (o := .dK []) hdd
          have t3 := Same.upd (o := .lst [V.str (Str.ofString "a")]) hp
          have t4 := Same.upd (o := .lst [V.non, V.int 5, V.bl true, V.ref R, V.ref tp, V.ref dd, V.int 0, V.ref p]) hod
          have g1 := t4 tp (.tup (rows.map V.str)) (t3 _ _ (t2 _ _ upd_same))
          have g2 := t4 dd (.dK []) (t3 _ _ upd_same)
          have g3 := t4 p (.lst [V.str (Str.ofString "a")]) upd_same
          have g5 := ((t1.trans t2).trans (t3.trans t4)) _ _ hR7
          have g6 := ((t1.trans t2).trans (t3.trans t4)) _ _ hl7
          refine ends_op fun D9 k9 r9 => ?_
          walk_at "rd"
          have hod' : upd (upd (upd (upd H7 tp (.tup (rows.map V.str))) dd (.dK [])) p (.lst [V.str (Str.ofString "a")])) od (.lst [V.non, V.int 5, V.bl true, V.ref R, V.ref tp, V.ref dd, V.int 0, V.ref p]) od = some (.lst [V.non, V.int 5, V.bl true, V.ref R, V.ref tp, V.ref dd, V.int 0, V.ref p]) := upd_same
          generalize upd (upd (upd (upd H7 tp (.tup (rows.map V.str))) dd (.dK [])) p (.lst [V.str (Str.ofString "a")])) od (.lst [V.non, V.int 5, V.bl true, V.ref R, V.ref tp, V.ref dd, V.int 0, V.ref p]) = HB at g1 g2 g3 g5 g6 hod'
          obtain ⟨vv, hvv, nvv⟩ : ∃ vv, atI [V.non, V.int 5, V.bl true, V.ref R, V.ref tp, V.ref dd, V.int 0, V.ref p] (x1 % 8) = some vv ∧ NoText K HB vv := by
            have h8 : x1 % 8 = 0 ∨ x1 % 8 = 1 ∨ x1 % 8 = 2 ∨ x1 % 8 = 3 ∨ x1 % 8 = 4 ∨ x1 % 8 = 5 ∨ x1 % 8 = 6 ∨ x1 % 8 = 7 := by omega
            rcases h8 with h | h | h | h | h | h | h | h <;> rw [h]
            · exact ⟨_, rfl, _, .non, by rfl⟩
            · exact ⟨_, rfl, _, .int _, by rfl⟩
            · exact ⟨_, rfl, _, .bl _, by rfl⟩
            · exact ⟨_, rfl, _, .lst g5, by rfl⟩
            · exact ⟨_, rfl, _, .tup g1, by rfl⟩
            · exact ⟨_, rfl, _, .dK g2, by rfl⟩
            · exact ⟨_, rfl, _, .int _, by rfl⟩
            · exact ⟨_, rfl, _, .lst g3, by rfl⟩
          refine ⟨.inl ⟨by decide, by decide⟩, _, SqL.of g6, _, a1, _, rfl, by decide, _, SqL.of hod', vv, hvv, vv, 0, rfl, .inr ⟨rfl, nvv⟩, fun H9 s9 => .inl ⟨rfl, ?_⟩⟩
          rw [if_neg (by simp)]
          exact k9 _ _ ⟨⟨_, _, _, _, rfl⟩, s9 _ _ g6, s9 _ _ g5⟩
        rcases hv with ⟨n, rfl, hn⟩ | ⟨rfl, hcut5⟩
        · walk_at "rd"
          rw [if_neg (by simp)]
          refine ⟨rows5, SqL.of h5, jl _ _ ok5 (by decide), _, n, rfl, .inl ⟨rows5, by rw [jn], ok5, hn⟩, fun H7 s7 => .inl ⟨rfl, ?_⟩⟩
          rw [if_neg (by simp)]
          exact go7 H7 s7
        · walk_at "rd"
          rw [if_pos (by simp)]
          refine ⟨rows5, SqL.of h5, jl _ _ ok5 (by decide), rows5, by rw [jn], hcut5, fun l7 H7 s7 f7 h7 => .inl ⟨_, Has.strs (SqL.of h7), _, Has.strs (SqL.of (s7 _ _ h5)), by rw [deps_strs]; decide, ?_⟩⟩
          rw [D.beqs_refl]
          exact iteF (go7 H7 s7)
      walk_at "rd"
      refine ⟨.inl ⟨by decide, by decide⟩, _, SqL.of hl4, _, a1, x1, rfl, by decide, .inl (ite2 (fun h3 => ?_) fun h3 => go5 l4 H4 rows4 hl4 hR4 h4 (ok_up ok4 (by decide)))⟩
      refine ⟨.inl ⟨by decide, by decide⟩, _, SqL.of hl4, _, a1, x1, rfl, ⟨by decide, by decide⟩, l4, rows4, x1 / 3, 41, rfl, h4, ok4, by decide, by decide, by omega, by omega, fun l5 H5 rows5 s5 f5 h5 ok5 => ?_⟩
      exact go5 l5 H5 rows5 (s5 _ _ hl4) (s5 _ _ hR4) h5 (ok_up ok5 (by decide))
    · rintro σ H' ⟨⟨o3, o4, o5, o6, rfl⟩, hl', hR'⟩
      refine k3 _ _ (seq_op fun D4 k4 r4 => ?_)
      obtain ⟨y1, hy1⟩ : ∃ x, x = xs[1]'(by omega) := ⟨_, rfl⟩
      have c0 := bx 1 (by omega)
      have c1 : atI (xs.map V.int) 1 = some (V.int (xs[1]'(by omega))) := atx 1 (by omega)
      rw [← hy1] at c0 c1
      have m0 := Int.emod_nonneg y1 (by decide : (41 : Int) ≠ 0)
      have m1 := Int.emod_lt_of_pos y1 (by decide : (0 : Int) < 41)
      walk_at "rd"
      simp only [tMakeX]
      walk_at "rd"
      refine ⟨_, SqL.of hl', _, c1, _, rfl, by decide, by simp, fun x hx => ⟨x, y1 % 41, rfl, by omega, upd_same, fun d hd hdx => ⟨rfl, k4 _ _ ?_⟩⟩⟩
      show tSeq _ _ _ [some (.ref a), some (.ref l), some (.ref R), o3, o4, o5, o6, some (.ref x)] (upd (upd (upd H' x (ExO x (clsA mg "NoCut") none)) x (ExO x (clsA mg "NoCut") (some d))) d (.xd [("row", .int (y1 % 41))]))
      have hxl' : x ≠ l := fun e => by rw [e, hl'] at hx; cases hx
      have hd' : H' d = none := by rw [upd_ne hdx] at hd; exact hd
      have hdl : d ≠ l := fun e => by rw [e, hl'] at hd'; cases hd'
      have q1 : upd (upd (upd H' x (ExO x (clsA mg "NoCut") none)) x (ExO x (clsA mg "NoCut") (some d))) d (.xd [("row", .int (y1 % 41))]) x = some (ExO x (clsA mg "NoCut") (some d)) := by rw [upd_ne hdx.symm, upd_same]
      have q2 : upd (upd (upd H' x (ExO x (clsA mg "NoCut") none)) x (ExO x (clsA mg "NoCut") (some d))) d (.xd [("row", .int (y1 % 41))]) d = some (.xd [("row", .int (y1 % 41))]) := upd_same
      have q3 : upd (upd (upd H' x (ExO x (clsA mg "NoCut") none)) x (ExO x (clsA mg "NoCut") (some d))) d (.xd [("row", .int (y1 % 41))]) l = some (.lst (xs.map V.int)) := by rw [upd_ne hdl.symm, upd_ne hxl'.symm, upd_ne hxl'.symm]; exact hl'
      generalize upd (upd (upd H' x (ExO x (clsA mg "NoCut") none)) x (ExO x (clsA mg "NoCut") (some d))) d (.xd [("row", .int (y1 % 41))]) = HC at q1 q2 q3
      refine seq_op fun D5 k5 r5 => ?_
      walk_at "rd"
      simp only [tFldO]
      walk_at "rd"
      refine ⟨_, d, q1, ⟨_, q2⟩, T.x_NoCut.is, true, T.k_NoCut_DigError, iteF ⟨d, q1, _, q2, .int (y1 % 41), by rfl, _, SqL.of q3, _, c1, y1, rfl, by decide, .inl ⟨rfl, ?_⟩⟩⟩
      rw [if_neg (by simp)]
      refine k5 _ _ ?_
      walk_at "rd"
      refine ⟨_, 0, rfl, .inl ⟨[Str.ofString ""], rfl, ok_e, ref_e⟩, fun H5 s5 => .inl ⟨rfl, ?_⟩⟩
      rw [if_pos (by simp)]
      refine ⟨_, 0, rfl, .inl ⟨[Str.ofString "."], rfl, ok_d, ref_d⟩, fun H6 s6 => .inl ⟨rfl, ?_⟩⟩
      rw [if_pos (by simp)]
      refine ⟨_, 1, rfl, .inl ⟨[Str.ofString "a", Str.ofString "."], by decide +kernel, ok_ad, ref_ad⟩, fun H7 s7 => .inl ⟨rfl, ?_⟩⟩
      rw [show (V.int ((1 : Nat) : Int)) = V.int 1 from rfl, decide_eq_true rfl]
      exact kk H7
end
end K03
namespace K03
open PySem L2 Cut
theorem all_mk {l : PySem.W.OpenLaw} {w : World} {K : PySem.W.Frag} {h : Heap} {mg : Str → Option Value} {fa f1 f2 f3 f4 f5 f6 f7 f8 f9 f10 f11 f12 f13 f14 f15 : Addr} (X : K.In h) (G : h.Ns mainGlobals mg) (hfa : mg "law" = some (.ref fa))
    {od1 an1 od2 an2 od3 an3 od4 an4 od5 an5 od6 an6 od7 an7 od8 an8 od9 an9 od10 an10 od11 an11 od12 an12 od13 an13 od14 an14 od15 an15 : Option Addr} {sl1 sl2 sl3 sl4 sl5 sl6 sl7 sl8 sl9 sl10 sl11 sl12 sl13 sl14 sl15 : Array (Option Value)} {oc1 kV1 dc1 pm1 cd1 ct1 oc2 kV2 dc2 pm2 cd2 ct2 oc3 kV3 dc3 pm3 cd3 ct3 oc4 kV4 dc4 pm4 cd4 ct4 oc5 kV5 dc5 pm5 cd5 ct5 oc6 kV6 dc6 pm6 cd6 ct6 oc7 kV7 dc7 pm7 cd7 ct7 oc8 kV8 dc8 pm8 cd8 ct8 oc9 kV9 dc9 pm9 cd9 ct9 oc10 kV10 dc10 pm10 cd10 ct10 oc11 kV11 dc11 pm11 cd11 ct11 oc12 kV12 dc12 pm12 cd12 ct12 oc13 kV13 dc13 pm13 cd13 ct13 oc14 kV14 dc14 pm14 cd14 ct14 oc15 kV15 dc15 pm15 cd15 ct15 : Value}
    (a1 : PySem.W.nsIn K mainGlobals "rows_of" = some (some (.ref f1))) (l1 : K.lookup f1 = some ⟨oc1, od1, .func (PySem.W.fnOf "rows_of" "rows_of" (defArgs s_rows_of) (defBody s_rows_of) (defScope s_rows_of) .none kV1 dc1 pm1 an1 cd1 ct1), sl1⟩) (c1 : PySem.W.codeIn K cd1 "rows_of" = true) (k1 : PySem.W.keepIn K (.ref f1) = true)
    (a2 : PySem.W.nsIn K mainGlobals "is_row" = some (some (.ref f2))) (l2 : K.lookup f2 = some ⟨oc2, od2, .func (PySem.W.fnOf "is_row" "is_row" (defArgs s_is_row) (defBody s_is_row) (defScope s_is_row) .none kV2 dc2 pm2 an2 cd2 ct2), sl2⟩) (c2 : PySem.W.codeIn K cd2 "is_row" = true) (k2 : PySem.W.keepIn K (.ref f2) = true)
    (a3 : PySem.W.nsIn K mainGlobals "lies_beneath" = some (some (.ref f3))) (l3 : K.lookup f3 = some ⟨oc3, od3, .func (PySem.W.fnOf "lies_beneath" "lies_beneath" (defArgs s_lies_beneath) (defBody s_lies_beneath) (defScope s_lies_beneath) .none kV3 dc3 pm3 an3 cd3 ct3), sl3⟩) (c3 : PySem.W.codeIn K cd3 "lies_beneath" = true) (k3 : PySem.W.keepIn K (.ref f3) = true)
    (a4 : PySem.W.nsIn K mainGlobals "letters_in" = some (some (.ref f4))) (l4 : K.lookup f4 = some ⟨oc4, od4, .func (PySem.W.fnOf "letters_in" "letters_in" (defArgs s_letters_in) (defBody s_letters_in) (defScope s_letters_in) .none kV4 dc4 pm4 an4 cd4 ct4), sl4⟩) (c4 : PySem.W.codeIn K cd4 "letters_in" = true) (k4 : PySem.W.keepIn K (.ref f4) = true)
    (a5 : PySem.W.nsIn K mainGlobals "wider" = some (some (.ref f5))) (l5 : K.lookup f5 = some ⟨oc5, od5, .func (PySem.W.fnOf "wider" "wider" (defArgs s_wider) (defBody s_wider) (defScope s_wider) .none kV5 dc5 pm5 an5 cd5 ct5), sl5⟩) (c5 : PySem.W.codeIn K cd5 "wider" = true) (k5 : PySem.W.keepIn K (.ref f5) = true)
    (a6 : PySem.W.nsIn K mainGlobals "row_drawn_wider" = some (some (.ref f6))) (l6 : K.lookup f6 = some ⟨oc6, od6, .func (PySem.W.fnOf "row_drawn_wider" "row_drawn_wider" (defArgs s_row_drawn_wider) (defBody s_row_drawn_wider) (defScope s_row_drawn_wider) .none kV6 dc6 pm6 an6 cd6 ct6), sl6⟩) (c6 : PySem.W.codeIn K cd6 "row_drawn_wider" = true) (k6 : PySem.W.keepIn K (.ref f6) = true)
    (a7 : PySem.W.nsIn K mainGlobals "_law_cell_at" = some (some (.ref f7))) (l7 : K.lookup f7 = some ⟨oc7, od7, .func (PySem.W.fnOf "_law_cell_at" "_law_cell_at" (defArgs s_law_cell_at) (defBody s_law_cell_at) (defScope s_law_cell_at) .none kV7 dc7 pm7 an7 cd7 ct7), sl7⟩) (c7 : PySem.W.codeIn K cd7 "_law_cell_at" = true) (k7 : PySem.W.keepIn K (.ref f7) = true)
    (a8 : PySem.W.nsIn K mainGlobals "_law_mixed" = some (some (.ref f8))) (l8 : K.lookup f8 = some ⟨oc8, od8, .func (PySem.W.fnOf "_law_mixed" "_law_mixed" (defArgs s_law_mixed) (defBody s_law_mixed) (defScope s_law_mixed) .none kV8 dc8 pm8 an8 cd8 ct8), sl8⟩) (c8 : PySem.W.codeIn K cd8 "_law_mixed" = true) (k8 : PySem.W.keepIn K (.ref f8) = true)
    (a9 : PySem.W.nsIn K mainGlobals "_law_row" = some (some (.ref f9))) (l9 : K.lookup f9 = some ⟨oc9, od9, .func (PySem.W.fnOf "_law_row" "_law_row" (defArgs s_law_row) (defBody s_law_row) (defScope s_law_row) .none kV9 dc9 pm9 an9 cd9 ct9), sl9⟩) (c9 : PySem.W.codeIn K cd9 "_law_row" = true) (k9 : PySem.W.keepIn K (.ref f9) = true)
    (a10 : PySem.W.nsIn K mainGlobals "_law_signs" = some (some (.ref f10))) (l10 : K.lookup f10 = some ⟨oc10, od10, .func (PySem.W.fnOf "_law_signs" "_law_signs" (defArgs s_law_signs) (defBody s_law_signs) (defScope s_law_signs) .none kV10 dc10 pm10 an10 cd10 ct10), sl10⟩) (c10 : PySem.W.codeIn K cd10 "_law_signs" = true) (k10 : PySem.W.keepIn K (.ref f10) = true)
    (a11 : PySem.W.nsIn K mainGlobals "_law_drawn" = some (some (.ref f11))) (l11 : K.lookup f11 = some ⟨oc11, od11, .func (PySem.W.fnOf "_law_drawn" "_law_drawn" (defArgs s_law_drawn) (defBody s_law_drawn) (defScope s_law_drawn) .none kV11 dc11 pm11 an11 cd11 ct11), sl11⟩) (c11 : PySem.W.codeIn K cd11 "_law_drawn" = true) (k11 : PySem.W.keepIn K (.ref f11) = true)
    (a12 : PySem.W.nsIn K mainGlobals "_law_refused" = some (some (.ref f12))) (l12 : K.lookup f12 = some ⟨oc12, od12, .func (PySem.W.fnOf "_law_refused" "_law_refused" (defArgs s_law_refused) (defBody s_law_refused) (defScope s_law_refused) .none kV12 dc12 pm12 an12 cd12 ct12), sl12⟩) (c12 : PySem.W.codeIn K cd12 "_law_refused" = true) (k12 : PySem.W.keepIn K (.ref f12) = true)
    (a13 : PySem.W.nsIn K mainGlobals "_law_first" = some (some (.ref f13))) (l13 : K.lookup f13 = some ⟨oc13, od13, .func (PySem.W.fnOf "_law_first" "_law_first" (defArgs s_law_first) (defBody s_law_first) (defScope s_law_first) .none kV13 dc13 pm13 an13 cd13 ct13), sl13⟩) (c13 : PySem.W.codeIn K cd13 "_law_first" = true) (k13 : PySem.W.keepIn K (.ref f13) = true)
    (a14 : PySem.W.nsIn K mainGlobals "_law_fault" = some (some (.ref f14))) (l14 : K.lookup f14 = some ⟨oc14, od14, .func (PySem.W.fnOf "_law_fault" "_law_fault" (defArgs s_law_fault) (defBody s_law_fault) (defScope s_law_fault) .none kV14 dc14 pm14 an14 cd14 ct14), sl14⟩) (c14 : PySem.W.codeIn K cd14 "_law_fault" = true) (k14 : PySem.W.keepIn K (.ref f14) = true)
    (a15 : PySem.W.nsIn K mainGlobals "law" = some (some (.ref f15))) (l15 : K.lookup f15 = some ⟨oc15, od15, .func (PySem.W.fnOf "law" "law" (defArgs s_law) (defBody s_law) (defScope s_law) .none kV15 dc15 pm15 an15 cd15 ct15), sl15⟩) (c15 : PySem.W.codeIn K cd15 "law" = true) (k15 : PySem.W.keepIn K (.ref f15) = true)
    {u_MOST_ROWS u_MOST_SIGNS u_AIR u_LETTERS : Value}
    (zb_len : PySem.W.nsIn K mainGlobals "len" = some none)
    (zb_enumerate : PySem.W.nsIn K mainGlobals "enumerate" = some none)
    (zb_str : PySem.W.nsIn K mainGlobals "str" = some none)
    (zb_isinstance : PySem.W.nsIn K mainGlobals "isinstance" = some none)
    (zb_all : PySem.W.nsIn K mainGlobals "all" = some none)
    (zb_zip : PySem.W.nsIn K mainGlobals "zip" = some none)
    (zb_set : PySem.W.nsIn K mainGlobals "set" = some none)
    (zb_sorted : PySem.W.nsIn K mainGlobals "sorted" = some none)
    (zb_range : PySem.W.nsIn K mainGlobals "range" = some none)
    (zb_max : PySem.W.nsIn K mainGlobals "max" = some none)
    (zb_int : PySem.W.nsIn K mainGlobals "int" = some none)
    (zb_bool : PySem.W.nsIn K mainGlobals "bool" = some none)
    (zb_ValueError : PySem.W.nsIn K mainGlobals "ValueError" = some none)
    (zb_tuple : PySem.W.nsIn K mainGlobals "tuple" = some none)
    (zg_MOST_ROWS : PySem.W.nsIn K mainGlobals "MOST_ROWS" = some (some u_MOST_ROWS)) (rg_MOST_ROWS : RelV (.int 40) u_MOST_ROWS)
    (zg_MOST_SIGNS : PySem.W.nsIn K mainGlobals "MOST_SIGNS" = some (some u_MOST_SIGNS)) (rg_MOST_SIGNS : RelV (.int 40) u_MOST_SIGNS)
    (zg_AIR : PySem.W.nsIn K mainGlobals "AIR" = some (some u_AIR)) (rg_AIR : RelV (.str ".") u_AIR)
    (zg_LETTERS : PySem.W.nsIn K mainGlobals "LETTERS" = some (some u_LETTERS)) (rg_LETTERS : RelV (.str "abcdefghijklmnopqrstuvwxyz") u_LETTERS)
    {C_NoCut C_DigError C_NoLayer C_NoRow C_NoDeed C_NoSaying C_Torn C_NoGround : Addr}
    {fi_NoCut : Addr} {od_NoCut an_NoCut : Option Addr} {sl_NoCut : Array (Option Value)} {kV_NoCut dc_NoCut pm_NoCut cd_NoCut ct_NoCut : Value}
    (zc_NoCut : PySem.W.nsIn K mainGlobals "NoCut" = some (some (.ref C_NoCut)))
    (zc_DigError : PySem.W.nsIn K mainGlobals "DigError" = some (some (.ref C_DigError)))
    (zc_NoLayer : PySem.W.nsIn K mainGlobals "NoLayer" = some (some (.ref C_NoLayer)))
    (zc_NoRow : PySem.W.nsIn K mainGlobals "NoRow" = some (some (.ref C_NoRow)))
    (zc_NoDeed : PySem.W.nsIn K mainGlobals "NoDeed" = some (some (.ref C_NoDeed)))
    (zc_NoSaying : PySem.W.nsIn K mainGlobals "NoSaying" = some (some (.ref C_NoSaying)))
    (zc_Torn : PySem.W.nsIn K mainGlobals "Torn" = some (some (.ref C_Torn)))
    (zc_NoGround : PySem.W.nsIn K mainGlobals "NoGround" = some (some (.ref C_NoGround)))
    (zis_NoCut0 : PySem.W.findIn K (.ref C_NoCut) "__getattribute__" = some (some (.builtin "BaseException.__getattribute__")))
    (zis_NoCut1 : PySem.W.findIn K (.ref C_NoCut) "__getattr__" = some none)
    (zis_NoCut2 : PySem.W.subIn K (.ref C_NoCut) (.type "BaseException") = some true)
    (zis_NoCut3 : PySem.W.hasDictIn K C_NoCut = true)
    (zis_NoCut4 : PySem.W.findIn K (.ref C_NoCut) "__class__" = some (some (.builtin "object.__class__")))
    (zis_NoCut5 : PySem.W.specialIn K (.builtin "object.__class__") "__get__" = some (some (.builtin "getset_descriptor.__get__")))
    (zis_NoCut6 : PySem.W.takesIn K (.builtin "object.__class__") = some true)
    (zis_NoCut7 : PySem.W.mroIn K C_NoCut (.type "object") = some true)
    (zin_NoCut0 : PySem.W.findIn K (.ref C_NoCut) "__init__" = some (some (.ref fi_NoCut)))
    (zin_NoCut1 : K.lookup fi_NoCut = some ⟨.type "function", od_NoCut, .func (PySem.W.fnOf "__init__" "NoCut.__init__" (defArgs s_NoCut_init) (defBody s_NoCut_init) (defScope s_NoCut_init) .none kV_NoCut dc_NoCut pm_NoCut an_NoCut cd_NoCut ct_NoCut), sl_NoCut⟩)
    (zin_NoCut2 : PySem.W.codeIn K cd_NoCut "NoCut.__init__" = true)
    (zin_NoCut3 : PySem.W.keepIn K (.ref fi_NoCut) = true)
    (zin_NoCut4 : exK K C_NoCut fi_NoCut = true)
    (zin_NoCut5 : PySem.W.keepIn K (.ref C_NoCut) = true)
    (zfrow_NoCut0 : PySem.W.findIn K (.ref C_NoCut) "__setattr__" = some (some (.builtin "object.__setattr__")))
    (zfrow_NoCut1 : veOver K C_NoCut = true)
    (zfrow_NoCut2 : PySem.W.findIn K (.ref C_NoCut) "row" = some none)
    (zfrow_NoCut3 : PySem.W.hasDictIn K C_NoCut = true)
    (zgrow_NoCut0 : PySem.W.findIn K (.ref C_NoCut) "__getattribute__" = some (some (.builtin "BaseException.__getattribute__")))
    (zgrow_NoCut1 : PySem.W.findIn K (.ref C_NoCut) "__getattr__" = some none)
    (zgrow_NoCut2 : PySem.W.subIn K (.ref C_NoCut) (.type "BaseException") = some true)
    (zgrow_NoCut3 : PySem.W.findIn K (.ref C_NoCut) "row" = some none)
    (zgrow_NoCut4 : PySem.W.hasDictIn K C_NoCut = true)
    (zu_NoCut_DigError : PySem.W.subIn K (.ref C_NoCut) (.ref C_DigError) = some true)
    (zk_NoCut_any0 : PySem.W.kitAny K (.ref C_NoCut) [.ref C_NoGround, .ref C_Torn, .ref C_NoSaying, .ref C_NoDeed, .ref C_NoRow, .ref C_NoLayer] = some false)
    (zk_NoCut_NoCut : PySem.W.kitOne K (.ref C_NoCut) (.ref C_NoCut) = some true)
    (zk_NoCut_ValueError : PySem.W.kitOne K (.ref C_NoCut) (.type "ValueError") = some true)
    (zk_NoCut_DigError : PySem.W.kitOne K (.ref C_NoCut) (.ref C_DigError) = some true)
    (zb_DigError0 : PySem.W.specialIn K (.ref C_DigError) "__getattribute__" = some (some (.builtin "type.__getattribute__")))
    (zb_DigError1 : PySem.W.readsIn K C_DigError (.type "type") = true)
    (zb_DigError2 : PySem.W.findCls K (.ref C_DigError) (.type "type") "__init__" = some (.val (.builtin "ValueError.__init__")))
    (zt_DigError0 : PySem.W.typeIn K (.ref C_DigError) = some (.type "type"))
    (zt_DigError1 : PySem.W.subIn K (.ref C_DigError) (.type "BaseException") = some true)
    (zt_DigError2 : (K.lookup C_DigError).any (fun o => match o.data with | .cls _ => true | _ => false) = true)
    : ∃ fd : FuncData, (∀ (s : Shared) (v : Value), BindsTo s fd ⟨[v], []⟩ [("_law_script", v)]) ∧ ∀ base : Heap, K.In base → base.Ns mainGlobals mg → FnOk l.prog w K mg base CX0 5 fa fd ["_law_script"] (sp_law K) := by
  have e := hfa.symm.trans (PySem.W.mg_of X G a15)
  cases e
  have e_NoCut := clsA_of (PySem.W.mg_of X G zc_NoCut)
  subst e_NoCut
  have e_DigError := clsA_of (PySem.W.mg_of X G zc_DigError)
  subst e_DigError
  have e_NoLayer := clsA_of (PySem.W.mg_of X G zc_NoLayer)
  subst e_NoLayer
  have e_NoRow := clsA_of (PySem.W.mg_of X G zc_NoRow)
  subst e_NoRow
  have e_NoDeed := clsA_of (PySem.W.mg_of X G zc_NoDeed)
  subst e_NoDeed
  have e_NoSaying := clsA_of (PySem.W.mg_of X G zc_NoSaying)
  subst e_NoSaying
  have e_Torn := clsA_of (PySem.W.mg_of X G zc_Torn)
  subst e_Torn
  have e_NoGround := clsA_of (PySem.W.mg_of X G zc_NoGround)
  subst e_NoGround
  have T : Txt K mg := ⟨PySem.W.mg_none_of X G zb_len,
    PySem.W.mg_none_of X G zb_enumerate,
    PySem.W.mg_none_of X G zb_str,
    PySem.W.mg_none_of X G zb_isinstance,
    PySem.W.mg_none_of X G zb_all,
    PySem.W.mg_none_of X G zb_zip,
    PySem.W.mg_none_of X G zb_set,
    PySem.W.mg_none_of X G zb_sorted,
    PySem.W.mg_none_of X G zb_range,
    PySem.W.mg_none_of X G zb_max,
    PySem.W.mg_none_of X G zb_int,
    PySem.W.mg_none_of X G zb_bool,
    PySem.W.mg_none_of X G zb_ValueError,
    PySem.W.mg_none_of X G zb_tuple,
    gv_mk X G zg_MOST_ROWS rg_MOST_ROWS,
    gv_mk X G zg_MOST_SIGNS rg_MOST_SIGNS,
    gv_mk X G zg_AIR rg_AIR,
    gv_mk X G zg_LETTERS rg_LETTERS,
    def_mk X G a1 l1 c1 k1 (fun _ _ _ _ _ _ us hl => match us, hl with | [_], _ => rfl),
    def_mk X G a2 l2 c2 k2 (fun _ _ _ _ _ _ us hl => match us, hl with | [_], _ => rfl),
    def_mk X G a3 l3 c3 k3 (fun _ _ _ _ _ _ us hl => match us, hl with | [_, _], _ => rfl),
    def_mk X G a4 l4 c4 k4 (fun _ _ _ _ _ _ us hl => match us, hl with | [_], _ => rfl),
    def_mk X G a5 l5 c5 k5 (fun _ _ _ _ _ _ us hl => match us, hl with | [_, _], _ => rfl),
    def_mk X G a6 l6 c6 k6 (fun _ _ _ _ _ _ us hl => match us, hl with | [_, _], _ => rfl),
    def_mk X G a7 l7 c7 k7 (fun _ _ _ _ _ _ us hl => match us, hl with | [_, _], _ => rfl),
    def_mk X G a8 l8 c8 k8 (fun _ _ _ _ _ _ us hl => match us, hl with | [_, _], _ => rfl),
    def_mk X G a9 l9 c9 k9 (fun _ _ _ _ _ _ us hl => match us, hl with | [_, _], _ => rfl),
    def_mk X G a10 l10 c10 k10 (fun _ _ _ _ _ _ us hl => match us, hl with | [_, _], _ => rfl),
    def_mk X G a11 l11 c11 k11 (fun _ _ _ _ _ _ us hl => match us, hl with | [_], _ => rfl),
    def_mk X G a12 l12 c12 k12 (fun _ _ _ _ _ _ us hl => match us, hl with | [_, _], _ => rfl),
    def_mk X G a13 l13 c13 k13 (fun _ _ _ _ _ _ us hl => match us, hl with | [_], _ => rfl),
    def_mk X G a14 l14 c14 k14 (fun _ _ _ _ _ _ us hl => match us, hl with | [_, _], _ => rfl),
    PySem.W.mg_of X G zc_NoCut,
    PySem.W.mg_of X G zc_DigError,
    PySem.W.mg_of X G zc_NoLayer,
    PySem.W.mg_of X G zc_NoRow,
    PySem.W.mg_of X G zc_NoDeed,
    PySem.W.mg_of X G zc_NoSaying,
    PySem.W.mg_of X G zc_Torn,
    PySem.W.mg_of X G zc_NoGround,
    ⟨PySem.W.mg_of X G zc_NoCut, ⟨zis_NoCut0, zis_NoCut1, zis_NoCut2, zis_NoCut3, zis_NoCut4, zis_NoCut5, zis_NoCut6, zis_NoCut7⟩, fi_NoCut, _, ⟨zin_NoCut4, by rw [zin_NoCut1]; rfl, zin_NoCut5⟩, fun_mk zin_NoCut1 zin_NoCut2 zin_NoCut3, (fun_mk zin_NoCut1 zin_NoCut2 zin_NoCut3).binds (fun _ _ _ _ _ _ us hl => match us, hl with | [_, _], _ => rfl)⟩,
    ⟨zfrow_NoCut0, zfrow_NoCut1, zfrow_NoCut2, zfrow_NoCut3⟩,
    ⟨zgrow_NoCut0, zgrow_NoCut1, zgrow_NoCut2, zgrow_NoCut3, zgrow_NoCut4⟩,
    zu_NoCut_DigError,
    zk_NoCut_any0,
    zk_NoCut_NoCut,
    zk_NoCut_ValueError,
    zk_NoCut_DigError,
    ⟨zb_DigError0, zb_DigError1, zb_DigError2⟩,
    ⟨zt_DigError0, zt_DigError1, zt_DigError2⟩⟩
  exact ⟨PySem.W.fnOf "law" "law" (defArgs s_law) (defBody s_law) (defScope s_law) .none kV15 dc15 pm15 an15 cd15 ct15, fun s v => .of_eq rfl, fun base _ _ => ok_law (fun_mk (st := s_law) l15 c15 k15) T⟩
theorem walk {l : PySem.W.OpenLaw} {q : Program} {loose : List Str} {XP : (Str → Option Value) → Heap → Prop} {YP : World → Heap → Prop} {d : DefRec} {K : Params → PySem.W.Frag} (hn : l.most = some 63) (hdf : d.params.defaults = [])
    (hY : ∀ (w : World) (h : Heap), YP w h → (K w.params).In h)
    (F : ∀ (w : World) (mg : Str → Option Value) (fa : Addr) (h : Heap), (K w.params).In h → h.Ns mainGlobals mg → mg d.name = some (.ref fa) →
      ∃ fd : FuncData, (∀ (s : Shared) (u : Value), BindsTo s fd ⟨[u], []⟩ [("_law_script", u)]) ∧ ∀ base : Heap, (K w.params).In base → base.Ns mainGlobals mg → FnOk l.prog w (K w.params) mg base CX0 5 fa fd ["_law_script"] (sp_law (K w.params))) :
    PySem.W.WalkO q loose XP YP l.row.toRowW d [] (fun f vs => PySem.call f vs) :=
  L2.walk_of (n := 63) (k := 5) (x := "_law_script") (CX := fun _ => CX0) (sp := fun w => sp_law (K w.params)) hn (by decide) hdf ⟨rfl, by decide, by decide⟩ hY F (fun _ _ a ns hl hO hS => ⟨a, ns, rfl, hS, hO, hl, fun _ => rfl⟩) fun _ _ _ _ _ z => z
end K03
open PySem PySem.W PyProof.Rows
set_option maxRecDepth 100000 in
set_option maxHeartbeats 0 in
theorem PySem.Challenge.cw_digbook_k03_no_cut_holds : PySem.Challenge.rw_digbook_k03_no_cut.Holds := by
  w_on; o_law; k_head; (case hw => w_witness2)
  k_fill
  refine K03.walk (l := PySem.Challenge.rw_digbook_k03_no_cut) rfl rfl (fun w h Y => PySem.W.kIn_of Y) ?F
  case F =>
    intro w mg fa h KX G hmg
    refine' K03.all_mk KX G hmg ?a1 ?l1 ?c1 ?k1 ?a2 ?l2 ?c2 ?k2 ?a3 ?l3 ?c3 ?k3 ?a4 ?l4 ?c4 ?k4 ?a5 ?l5 ?c5 ?k5 ?a6 ?l6 ?c6 ?k6 ?a7 ?l7 ?c7 ?k7 ?a8 ?l8 ?c8 ?k8 ?a9 ?l9 ?c9 ?k9 ?a10 ?l10 ?c10 ?k10 ?a11 ?l11 ?c11 ?k11 ?a12 ?l12 ?c12 ?k12 ?a13 ?l13 ?c13 ?k13 ?a14 ?l14 ?c14 ?k14 ?a15 ?l15 ?c15 ?k15 ?zb_len ?zb_enumerate ?zb_str ?zb_isinstance ?zb_all ?zb_zip ?zb_set ?zb_sorted ?zb_range ?zb_max ?zb_int ?zb_bool ?zb_ValueError ?zb_tuple ?zg_MOST_ROWS ?rg_MOST_ROWS ?zg_MOST_SIGNS ?rg_MOST_SIGNS ?zg_AIR ?rg_AIR ?zg_LETTERS ?rg_LETTERS ?zc_NoCut ?zc_DigError ?zc_NoLayer ?zc_NoRow ?zc_NoDeed ?zc_NoSaying ?zc_Torn ?zc_NoGround ?zis_NoCut0 ?zis_NoCut1 ?zis_NoCut2 ?zis_NoCut3 ?zis_NoCut4 ?zis_NoCut5 ?zis_NoCut6 ?zis_NoCut7 ?zin_NoCut0 ?zin_NoCut1 ?zin_NoCut2 ?zin_NoCut3 ?zin_NoCut4 ?zin_NoCut5 ?zfrow_NoCut0 ?zfrow_NoCut1 ?zfrow_NoCut2 ?zfrow_NoCut3 ?zgrow_NoCut0 ?zgrow_NoCut1 ?zgrow_NoCut2 ?zgrow_NoCut3 ?zgrow_NoCut4 ?zu_NoCut_DigError ?zk_NoCut_any0 ?zk_NoCut_NoCut ?zk_NoCut_ValueError ?zk_NoCut_DigError ?zb_DigError0 ?zb_DigError1 ?zb_DigError2 ?zt_DigError0 ?zt_DigError1 ?zt_DigError2
    (case a1 => k_is)
    (case l1 => k_is)
    (case c1 => k_is)
    (case k1 => k_is)
    (case a2 => k_is)
    (case l2 => k_is)
    (case c2 => k_is)
    (case k2 => k_is)
    (case a3 => k_is)
    (case l3 => k_is)
    (case c3 => k_is)
    (case k3 => k_is)
    (case a4 => k_is)
    (case l4 => k_is)
    (case c4 => k_is)
    (case k4 => k_is)
    (case a5 => k_is)
    (case l5 => k_is)
    (case c5 => k_is)
    (case k5 => k_is)
    (case a6 => k_is)
    (case l6 => k_is)
    (case c6 => k_is)
    (case k6 => k_is)
    (case a7 => k_is)
    (case l7 => k_is)
    (case c7 => k_is)
    (case k7 => k_is)
    (case a8 => k_is)
    (case l8 => k_is)
    (case c8 => k_is)
    (case k8 => k_is)
    (case a9 => k_is)
    (case l9 => k_is)
    (case c9 => k_is)
    (case k9 => k_is)
    (case a10 => k_is)
    (case l10 => k_is)
    (case c10 => k_is)
    (case k10 => k_is)
    (case a11 => k_is)
    (case l11 => k_is)
    (case c11 => k_is)
    (case k11 => k_is)
    (case a12 => k_is)
    (case l12 => k_is)
    (case c12 => k_is)
    (case k12 => k_is)
    (case a13 => k_is)
    (case l13 => k_is)
    (case c13 => k_is)
    (case k13 => k_is)
    (case a14 => k_is)
    (case l14 => k_is)
    (case c14 => k_is)
    (case k14 => k_is)
    (case a15 => k_is)
    (case l15 => k_is)
    (case c15 => k_is)
    (case k15 => k_is)
    (case zb_len => k_is)
    (case zb_enumerate => k_is)
    (case zb_str => k_is)
    (case zb_isinstance => k_is)
    (case zb_all => k_is)
    (case zb_zip => k_is)
    (case zb_set => k_is)
    (case zb_sorted => k_is)
    (case zb_range => k_is)
    (case zb_max => k_is)
    (case zb_int => k_is)
    (case zb_bool => k_is)
    (case zb_ValueError => k_is)
    (case zb_tuple => k_is)
    (case zg_MOST_ROWS => k_is)
    (case rg_MOST_ROWS => exact ⟨_, rfl⟩)
    (case zg_MOST_SIGNS => k_is)
    (case rg_MOST_SIGNS => exact ⟨_, rfl⟩)
    (case zg_AIR => k_is)
    (case rg_AIR => exact ⟨_, rfl⟩)
    (case zg_LETTERS => k_is)
    (case rg_LETTERS => exact ⟨_, rfl⟩)
    (case zc_NoCut => k_is)
    (case zc_DigError => k_is)
    (case zc_NoLayer => k_is)
    (case zc_NoRow => k_is)
    (case zc_NoDeed => k_is)
    (case zc_NoSaying => k_is)
    (case zc_Torn => k_is)
    (case zc_NoGround => k_is)
    (case zis_NoCut0 => k_is)
    (case zis_NoCut1 => k_is)
    (case zis_NoCut2 => k_is)
    (case zis_NoCut3 => k_is)
    (case zis_NoCut4 => k_is)
    (case zis_NoCut5 => k_is)
    (case zis_NoCut6 => k_is)
    (case zis_NoCut7 => k_is)
    (case zin_NoCut0 => k_is)
    (case zin_NoCut1 => k_is)
    (case zin_NoCut2 => k_is)
    (case zin_NoCut3 => k_is)
    (case zin_NoCut4 => kernel_rfl)
    (case zin_NoCut5 => k_is)
    (case zfrow_NoCut0 => k_is)
    (case zfrow_NoCut1 => kernel_rfl)
    (case zfrow_NoCut2 => k_is)
    (case zfrow_NoCut3 => k_is)
    (case zgrow_NoCut0 => k_is)
    (case zgrow_NoCut1 => k_is)
    (case zgrow_NoCut2 => k_is)
    (case zgrow_NoCut3 => k_is)
    (case zgrow_NoCut4 => k_is)
    (case zu_NoCut_DigError => k_is)
    (case zk_NoCut_any0 => kit_is)
    (case zk_NoCut_NoCut => kit_is)
    (case zk_NoCut_ValueError => kit_is)
    (case zk_NoCut_DigError => kit_is)
    (case zb_DigError0 => k_is)
    (case zb_DigError1 => k_is)
    (case zb_DigError2 => k_is)
    (case zt_DigError0 => k_is)
    (case zt_DigError1 => k_is)
    (case zt_DigError2 => kernel_rfl)
