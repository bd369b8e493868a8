import PyProof.Rows.All
import Wide.All
import OpenK.AllK
import Wide.FinOn
import Lean
import PyProof.EqAt
import PyProof.EqKinds
import PyProof.TupleCall
import KE.KSortTup
import PySem.Challenge.RW_choosehall_k13_whole_more_seats
theorem ex_elim2 {α : Type} {A B : α → Prop} {Q : Prop} (h : ∃ x, A x ∧ B x) (k : ∀ x, A x → B x → Q) : Q := by
  obtain ⟨x, a, b⟩ := h
  exact k x a b
set_option Elab.async false
set_option linter.all false
set_option maxRecDepth 100000
/-! THE HAND LAYER, for ints, bools, texts, own classes, LISTS and tuples (index, slices, in, append, pop ..), calls, loops. Paste it whole ahead of your own text; what your proof does not reach may be deleted. -/
namespace L2
open PySem PySem.Spec PyProof.Rows

/-- a key: an int or a str -/
abbrev Key := Sum Int Str
def keyIs : Key → Value → Bool
  | .inl k, v => Value.isInt k v
  | .inr x, v => Value.isStrOf x v
def keyH (w : World) : Key → Int
  | .inl k => hashInt k
  | .inr x => hashStr w x
theorem keyIs_shape : ∀ {k : Key} {v : Value}, keyIs k v = true → (∃ i t, k = Sum.inl i ∧ v = Value.int i t) ∨ (∃ x t, k = Sum.inr x ∧ v = Value.str x t)
  | .inl i, v, h => by
    obtain ⟨t, e⟩ := Value.isInt_shape (k := i) (v := v) h
    exact .inl ⟨i, t, rfl, e⟩
  | .inr x, v, h => by
    obtain ⟨t, e⟩ := Value.isStrOf_shape (x := x) (v := v) h
    exact .inr ⟨x, t, rfl, e⟩
theorem keyIs_int (i : Int) (t : Tok) : keyIs (.inl i) (.int i t) = true := by simp [keyIs, Value.isInt]
theorem keyIs_str (x : Str) (t : Tok) : keyIs (.inr x) (.str x t) = true := by simp [keyIs, Value.isStrOf]
theorem key_ll (a b : Int) : decide ((Sum.inl a : Key) = Sum.inl b) = (a == b) := by
  by_cases e : a = b
  · subst e; simp
  · have h : ¬ (Sum.inl a : Key) = Sum.inl b := fun q => e (Sum.inl.inj q)
    rw [decide_eq_false h]
    exact (beq_eq_false_iff_ne.mpr e).symm
theorem key_rr (a b : Str) : decide ((Sum.inr a : Key) = Sum.inr b) = decide (a = b) := by
  by_cases e : a = b
  · subst e; simp
  · have h : ¬ (Sum.inr a : Key) = Sum.inr b := fun q => e (Sum.inr.inj q)
    rw [decide_eq_false h, decide_eq_false e]
theorem key_lr (a : Int) (b : Str) : decide ((Sum.inl a : Key) = Sum.inr b) = false := decide_eq_false (fun q => nomatch q)
theorem key_rl (a : Str) (b : Int) : decide ((Sum.inr a : Key) = Sum.inl b) = false := decide_eq_false (fun q => nomatch q)

def mixKind (prog : Program) (w : World) : PySem.KeyKind prog w Key where
  is := keyIs
  hash := keyH w
  inj := fun v a b ha hb => by
    rcases keyIs_shape ha with ⟨i, t, rfl, rfl⟩ | ⟨x, t, rfl, rfl⟩
    · rcases keyIs_shape hb with ⟨j, u, rfl, e⟩ | ⟨y, u, rfl, e⟩
      · injection e with e1 _; rw [e1]
      · exact nomatch e
    · rcases keyIs_shape hb with ⟨j, u, rfl, e⟩ | ⟨y, u, rfl, e⟩
      · exact nomatch e
      · injection e with e1 _; rw [e1]
  byValue := fun k v h => by
    rcases keyIs_shape h with ⟨i, t, rfl, rfl⟩ | ⟨x, t, rfl, rfl⟩ <;> rfl
  pyHash := fun hv h => by
    rcases keyIs_shape hv with ⟨i, t, rfl, rfl⟩ | ⟨x, t, rfl, rfl⟩
    · exact wpAny_pyHash_int h
    · exact wpAny_pyHash_str h
  eqBool := fun hu hv h => by
    rcases keyIs_shape hu with ⟨i, t, rfl, rfl⟩ | ⟨x, t, rfl, rfl⟩
    · rcases keyIs_shape hv with ⟨j, u, rfl, rfl⟩ | ⟨y, u, rfl, rfl⟩
      · rw [key_ll] at h; exact wpAny_eqBool_int h
      · rw [key_lr] at h; exact SeqAt.EqAt.int_str i t y u _ _ _ _ h
    · rcases keyIs_shape hv with ⟨j, u, rfl, rfl⟩ | ⟨y, u, rfl, rfl⟩
      · rw [key_rl] at h; exact SeqAt.EqAt.str_int x t j u _ _ _ _ h
      · rw [key_rr] at h; exact wpAny_eqBool_str h
  «strs» := fun k x t v h => by
    rcases keyIs_shape h with ⟨i, u, rfl, e⟩ | ⟨y, u, rfl, e⟩
    · exact nomatch e
    · injection e with e1 _
      subst e1
      cases v <;> rfl

theorem mixKind_int (prog : Program) (w : World) (i : Int) (t : Tok) : (mixKind prog w).is (.inl i) (.int i t) = true := keyIs_int i t
theorem mixKind_str (prog : Program) (w : World) (x : Str) (t : Tok) : (mixKind prog w).is (.inr x) (.str x t) = true := keyIs_str x t
end L2

namespace L2
open PySem PySem.Spec PyProof.Rows

/-- a value, without the heap -/
inductive V where
  | non | bl (b : Bool) | int (i : Int) | str (x : Str) | byt (b : Array UInt8) | flt (b : UInt64) | ref (a : Addr) | ty (n : String)
  deriving DecidableEq

def RelV : V → Value → Prop
  | .non, u => u = Value.none
  | .bl b, u => u = Value.bool b
  | .int i, u => ∃ t, u = Value.int i t
  | .str x, u => ∃ t, u = Value.str x t
  | .byt b, u => ∃ t, u = Value.bytes b t
  | .flt b, u => ∃ t, u = Value.float b t
  | .ref a, u => u = Value.ref a
  | .ty n, u => u = Value.type n

abbrev Vals : List V → List Value → Prop := Paired RelV
theorem Vals.length {xs : List V} {us : List Value} (r : Vals xs us) : xs.length = us.length := Paired.length r
theorem Vals.get : ∀ {xs : List V} {us : List Value} {i : Nat} {x : V}, Vals xs us → xs[i]? = some x → ∃ u, us[i]? = some u ∧ RelV x u
  | _, _, _, _, .nil, e => by simp at e
  | _, _, 0, _, .cons r _, e => by simp at e; subst e; exact ⟨_, rfl, r⟩
  | _, _, i + 1, x, .cons _ t, e => by
    obtain ⟨u, h1, h2⟩ := Vals.get (i := i) (x := x) t (by simpa using e)
    exact ⟨u, by simpa using h1, h2⟩
theorem Vals.set {x : V} {u : Value} (r : RelV x u) : ∀ {xs : List V} {us : List Value} (i : Nat), Vals xs us → Vals (xs.set i x) (us.set i u)
  | _, _, _, .nil => .nil
  | _, _, 0, .cons _ t => .cons r t
  | _, _, i + 1, .cons q t => .cons q (Vals.set r i t)
theorem Vals.append : ∀ {xs ys : List V} {us ws : List Value}, Vals xs us → Vals ys ws → Vals (xs ++ ys) (us ++ ws)
  | _, _, _, _, .nil, s => s
  | _, _, _, _, .cons r t, s => .cons r (Vals.append t s)
theorem Vals.take : ∀ {xs : List V} {us : List Value} (n : Nat), Vals xs us → Vals (xs.take n) (us.take n)
  | _, _, 0, _ => .nil
  | _, _, _ + 1, .nil => .nil
  | _, _, n + 1, .cons r t => .cons r (Vals.take n t)
theorem Vals.drop : ∀ {xs : List V} {us : List Value} (n : Nat), Vals xs us → Vals (xs.drop n) (us.drop n)
  | _, _, 0, r => r
  | _, _, _ + 1, .nil => .nil
  | _, _, n + 1, .cons _ t => Vals.drop n t

def RelO : Option V → Option Value → Prop
  | some v, some u => RelV v u
  | none, none => True
  | _, _ => False
def KV {κ : Type} : List (κ × V) → List (κ × Value) → Prop := Paired fun (p : κ × V) (q : κ × Value) => p.1 = q.1 ∧ RelV p.2 q.2

/-- a key of a dict (00_mix): an int or a text -/
def kV : Key → V
  | .inl i => .int i
  | .inr x => .str x

/-- what stands at a tracked address -/
inductive HO where
  /-- a list -/
  | lst (xs : List V)
  /-- a tuple (never changes) -/
  | tup (xs : List V)
  /-- a dict whose keys are ints and texts; one whose keys are tuples of ints and texts (the empty one is both) -/
  | dK (kvs : List (Key × V)) | dT (kvs : List (List Key × V))
  /-- a set of ints: its members, its size -/
  | set (S : Int → Bool) (n : Nat)
  /-- an instance of the class at C, its dict at dx, its attributes -/
  | ins (C dx : Addr) (fs : List (Str × V))
  /-- the dict of the instance at x -/
  | own (x : Addr)
  /-- the dict of an exception -/
  | xd (fs : List (Str × V))
  /-- a bound method, f of x -/
  | met (f x : Addr)
  /-- a range object lo, lo + 1, .. below hi -/
  | rng (lo hi : Int)
  /-- a thing that is known to the object (the script; a dict while a loop walks it): read, never written while it is so -/
  | frz (o : Obj) (u : HO)
  /-- a code object's table -/
  | tbl (ps : Array Value)
  /-- any other thing, by what is true of its one object (a def of one's own: SetO a S n := HO.ext fun h => ..) -/
  | ext (φ : Heap → Prop)

abbrev Hp := Addr → Option HO
def upd (H : Hp) (a : Addr) (o : HO) : Hp := fun b => if b = a then some o else H b
theorem upd_same {H : Hp} {a : Addr} {o : HO} : upd H a o a = some o := by unfold upd; rw [if_pos rfl]
theorem upd_ne {H : Hp} {a b : Addr} {o : HO} (h : b ≠ a) : upd H a o b = H b := by unfold upd; rw [if_neg h]
theorem upd_upd {H : Hp} {a : Addr} {o u : HO} : upd (upd H a o) a u = upd H a u := by
  funext b; unfold upd; split <;> rfl
/-- two objects of different content stand apart -/
theorem ne_of {H : Hp} {a b : Addr} {o u : HO} (h : H a = some o) (h' : H b = some u) (d : o ≠ u) : a ≠ b := by
  intro e; subst e; rw [h] at h'; exact d (Option.some.inj h')
theorem ne_of_none {H : Hp} {a b : Addr} {o : HO} (h : H a = some o) (h' : H b = none) : a ≠ b := by
  intro e; subst e; rw [h] at h'; cases h'

section
variable (P : Program) (w : World)
def ObjOk (H : Hp) (h : Heap) (a : Addr) : HO → Prop
  | .lst xs => xs.length ≤ sizeLine ∧ ∃ (its : List Value) (n : Nat), Vals xs its ∧ h.get? a = some { cls := .type "list", data := .seq its.toArray n }
  | .tup xs => xs.length ≤ sizeLine ∧ ∃ its : List Value, Vals xs its ∧ IsTup h a its.toArray
  | .dK kvs => kvs.length ≤ sizeLine ∧ (a == sysModules) = false ∧ ∃ vs, KV kvs vs ∧ h.DictOf (mixKind P w) a vs
  | .dT kvs => kvs.length ≤ sizeLine ∧ (a == sysModules) = false ∧ ∃ xs : List (List Key × Addr × Value),
      Paired (fun (p : List Key × V) (q : List Key × Addr × Value) => p.1 = q.1 ∧ H q.2.1 = some (.tup (p.1.map kV)) ∧ RelV p.2 q.2.2) kvs xs ∧
      ∃ o es ep, h.get? a = some o ∧ o.ExactDict ∧ o.data = .dict es ep ∧ es.toList = xs.map (entryOfKey (tupleKind (mixKind P w))) ∧ (xs.map (·.1)).Nodup
  | .set S n => h.SetOf (intKind P w) a S n
  | .ins C dx fs => H dx = some (.own a) ∧ fs.length ≤ 1000 ∧ dx ≠ a ∧ h.get? a = some (PySem.W.instObj C dx) ∧
      ∃ mA, h.Ns1 dx mA ∧ (∀ f, RelO (fs.lookup f) (mA f)) ∧ PySem.Within mA (fs.map (·.1))
  | .own _ => ∃ o, h.get? a = some o
  | .xd fs => ∃ mA, h.Ns1 a mA ∧ ∀ f, RelO (fs.lookup f) (mA f)
  | .rng lo hi => ∃ t u v, h.get? a = some { cls := .type "range", data := .fields #[.int lo t, .int hi u, .int 1 v] }
  | .frz o u => h.get? a = some o ∧ ObjOk H h a u
  | .tbl ps => h.get? a = some { cls := .none, data := .fields ps }
  | .met f x => h.get? a = some (PySem.W.methodObj (.ref f) (.ref x))
  | .ext φ => φ h ∧ (∃ o, h.get? a = some o) ∧ ∀ h1 h2 : Heap, φ h1 → (∀ o, h1.get? a = some o → h2.get? a = some o) → φ h2
/-- the abstract heap is held -/
def HOk (H : Hp) (h : Heap) : Prop := ∀ a o, H a = some o → ObjOk P w H h a o
end

section
variable {P : Program} {w : World} {H H' : Hp} {h h' : Heap} {a : Addr} {o : HO}
theorem ObjOk.lt (x : ObjOk P w H h a o) : a < h.objs.size := by
  cases o with
  | lst xs => obtain ⟨_, _, _, _, e⟩ := x; exact Heap.lt_size e
  | tup xs => obtain ⟨_, _, _, p⟩ := x; exact p.lt
  | dK kvs => obtain ⟨_, _, _, _, o, _, _, e, _⟩ := x; exact Heap.lt_size e
  | dT kvs => obtain ⟨_, _, _, _, o, _, _, e, _⟩ := x; exact Heap.lt_size e
  | set S n => obtain ⟨o, _, _, _, e, _⟩ := x; exact Heap.lt_size e
  | ins C dx fs => obtain ⟨_, _, _, e, _⟩ := x; exact Heap.lt_size e
  | own y => obtain ⟨_, e⟩ := x; exact Heap.lt_size e
  | xd fs => obtain ⟨_, ⟨_, _, _, e, _⟩, _⟩ := x; exact Heap.lt_size e
  | rng lo hi => obtain ⟨_, _, _, e⟩ := x; exact Heap.lt_size e
  | frz ob u => obtain ⟨e, _⟩ := x; exact Heap.lt_size e
  | tbl ps => exact Heap.lt_size (show h.get? a = some _ from x)
  | met f y => exact Heap.lt_size (show h.get? a = some _ from x)
  | ext φ => obtain ⟨_, ⟨_, e⟩, _⟩ := x; exact Heap.lt_size e
theorem Paired.mapP {α β : Type} {F G : α → β → Prop} : ∀ {l₁ : List α} {l₂ : List β}, Paired F l₁ l₂ → (∀ a b, F a b → G a b) → Paired G l₁ l₂
  | _, _, .nil, _ => .nil
  | _, _, .cons r t, f => .cons (f _ _ r) (Paired.mapP t f)
/-- what an object's description leans on: its own object, its own dict, the tuples -/
theorem ObjOk.stay (x : ObjOk P w H h a o) (k : ∀ b u, (b = a ∨ H b = some (.own a)) → h.get? b = some u → h'.get? b = some u)
    (ho : ∀ b, H b = some (.own a) → H' b = some (.own a)) (ht : ∀ b xs, H b = some (.tup xs) → H' b = some (.tup xs)) : ObjOk P w H' h' a o := by
  induction o with
  | lst xs => obtain ⟨z, its, n, r, e⟩ := x; exact ⟨z, its, n, r, k _ _ (.inl rfl) e⟩
  | tup xs => obtain ⟨z, its, r, ob, e, c⟩ := x; exact ⟨z, its, r, ob, k _ _ (.inl rfl) e, c⟩
  | dK kvs => obtain ⟨z, y, vs, r, ob, es, ep, e, c⟩ := x; exact ⟨z, y, vs, r, ob, es, ep, k _ _ (.inl rfl) e, c⟩
  | dT kvs =>
    obtain ⟨z, y, xs, r, ob, es, ep, e, c⟩ := x
    exact ⟨z, y, xs, Paired.mapP r fun p q z => ⟨z.1, ht _ _ z.2.1, z.2.2⟩, ob, es, ep, k _ _ (.inl rfl) e, c⟩
  | set S n => obtain ⟨ob, es, ep, t, e, c⟩ := x; exact ⟨ob, es, ep, t, k _ _ (.inl rfl) e, c⟩
  | ins C dx fs =>
    obtain ⟨d, z, ne, e, mA, ⟨od, es, ep, e2, c⟩, r⟩ := x
    exact ⟨ho _ d, z, ne, k _ _ (.inl rfl) e, mA, ⟨od, es, ep, k _ _ (.inr d) e2, c⟩, r⟩
  | own y => obtain ⟨ob, e⟩ := x; exact ⟨ob, k _ _ (.inl rfl) e⟩
  | xd fs => obtain ⟨mA, ⟨od, es, ep, e, c⟩, r⟩ := x; exact ⟨mA, ⟨od, es, ep, k _ _ (.inl rfl) e, c⟩, r⟩
  | rng lo hi => obtain ⟨t, u, v, e⟩ := x; exact ⟨t, u, v, k _ _ (.inl rfl) e⟩
  | frz ob u ih => obtain ⟨e, q⟩ := x; exact ⟨k _ _ (.inl rfl) e, ih q⟩
  | tbl ps =>
    have e : h.get? a = some { cls := .none, data := .fields ps } := x
    show h'.get? a = some { cls := .none, data := .fields ps }
    exact k a _ (.inl rfl) e
  | met f y =>
    have e : h.get? a = some (PySem.W.methodObj (.ref f) (.ref y)) := x
    show h'.get? a = some (PySem.W.methodObj (.ref f) (.ref y))
    exact k a _ (.inl rfl) e
  | ext φ => obtain ⟨p, ⟨o, e⟩, st⟩ := x; exact ⟨st _ _ p fun o q => k _ _ (.inl rfl) q, ⟨o, k _ _ (.inl rfl) e⟩, st⟩
theorem HOk.lt (x : HOk P w H h) (e : H a = some o) : a < h.objs.size := (x a o e).lt
theorem HOk.fresh (x : HOk P w H h) (e : h.objs.size ≤ a) : H a = none := by
  cases q : H a with
  | none => rfl
  | some u => exact absurd (Nat.lt_of_lt_of_le (x.lt q) e) (Nat.lt_irrefl _)
/-- every object of the heap is kept -/
theorem HOk.kept (x : HOk P w H h) (k : ∀ b u, h.get? b = some u → h'.get? b = some u) : HOk P w H h' := fun a o e =>
  (x a o e).stay (fun b u _ q => k b u q) (fun _ q => q) fun _ _ q => q
/-- a new object is laid and tracked -/
theorem HOk.laid (x : HOk P w H h) (k : ∀ b u, h.get? b = some u → h'.get? b = some u) (hp : h.objs.size ≤ a) (new : ObjOk P w (upd H a o) h' a o) : HOk P w (upd H a o) h' := fun b u e => by
  have hn := x.fresh hp
  by_cases hb : b = a
  · subst hb; rw [upd_same] at e; cases e; exact new
  · rw [upd_ne hb] at e
    exact (x b u e).stay (fun c v _ q => k c v q) (fun c q => by rw [upd_ne (ne_of_none q hn)]; exact q) fun c xs q => by rw [upd_ne (ne_of_none q hn)]; exact q
end

/-- what may be read as u: it is u, or a known u -/
def Rd (H : Hp) (a : Addr) (u : HO) : Prop := H a = some u ∨ ∃ o, H a = some (.frz o u)
theorem Rd.ok {P : Program} {w : World} {H : Hp} {h : Heap} {a : Addr} {u : HO} (r : Rd H a u) (x : HOk P w H h) : ObjOk P w H h a u := by
  rcases r with r | ⟨o, r⟩
  · exact x a u r
  · obtain ⟨_, q⟩ := x a _ r
    exact q
/-- what may be written -/
def Mut : Option HO → Prop
  | some (.lst _) => True
  | some (.dK _) => True
  | some (.dT _) => True
  | some (.set _ _) => True
  | some (.ins _ _ _) => True
  | some (.ext _) => True
  | _ => False
section
variable {P : Program} {w : World} {H : Hp} {h h' : Heap} {x e : Addr} {o' : HO}
/-- the object at e is changed: x itself, or the dict of the instance x -/
theorem HOk.write (ok : HOk P w H h) (mu : Mut (H x)) (he : e = x ∨ H e = some (.own x)) (k : ∀ b u, b ≠ e → h.get? b = some u → h'.get? b = some u) (heo : ∃ u, h'.get? e = some u)
    (new : ObjOk P w (upd H x o') h' x o') : HOk P w (upd H x o') h' := fun b u q => by
  have nown : ∀ c y, H c = some (.own y) → c ≠ x := fun c y r z => by subst z; rw [r] at mu; exact mu
  have ntup : ∀ c xs, H c = some (.tup xs) → c ≠ x := fun c xs r z => by subst z; rw [r] at mu; exact mu
  by_cases hb : b = x
  · subst hb; rw [upd_same] at q; cases q; exact new
  · rw [upd_ne hb] at q
    by_cases hbe : b = e
    · have q' : H b = some (.own x) := by
        rcases he with z | z
        · exact absurd (hbe.trans z) hb
        · rw [hbe]; exact z
      rw [q] at q'; cases q'
      obtain ⟨v, hv⟩ := heo
      exact ⟨v, by rw [hbe]; exact hv⟩
    · refine (ok b u q).stay (fun c v hc r => k c v ?_ r) (fun c r => by rw [upd_ne (nown c b r)]; exact r) fun c xs r => by rw [upd_ne (ntup c xs r)]; exact r
      rcases hc with rfl | hc
      · exact hbe
      · rintro rfl
        rcases he with z | z
        · exact nown c b hc z
        · rw [hc] at z; cases z; exact hb rfl
end

/-! ### kept unless tracked; of the frames at fs (the callers') the slots may change (an exception that passes writes there); of the records at ex (iterators) nothing is said -/
structure Un (fs ex : List Addr) (H H' : Hp) (h h' : Heap) : Prop where
  keep : ∀ b o, h.get? b = some o → H b = none → b ∉ fs → b ∉ ex → h'.get? b = some o
  slot : ∀ b o, h.get? b = some o → H b = none → b ∈ fs → b ∉ ex → ∃ sl, h'.get? b = some { o with slots := sl }
  free : ∀ b o, h.get? b = some o → H b = none → b ∉ ex → H' b = none
  there : ∀ b o, h.get? b = some o → b ∉ ex → ∃ o', h'.get? b = some o'
  tups : ∀ b xs, H b = some (.tup xs) → H' b = some (.tup xs)
  frzs : ∀ b o u, H b = some (.frz o u) → H' b = some (.frz o u)
  tbls : ∀ b ps, H b = some (.tbl ps) → ∃ more, H' b = some (.tbl (ps ++ more))
section
variable {fs fs' ex ex' : List Addr} {H H1 H2 : Hp} {h h1 h2 h' : Heap} {a x e : Addr} {o : HO}
theorem Un.any (u : Un fs ex H H1 h h1) {b : Addr} {ob : Obj} (q : h.get? b = some ob) (n : H b = none) (hx : b ∉ ex) : ∃ sl, h1.get? b = some { ob with slots := sl } := by
  by_cases hb : b ∈ fs
  · exact u.slot b ob q n hb hx
  · exact ⟨ob.slots, u.keep b ob q n hb hx⟩
theorem Un.kept (k : ∀ b u, h.get? b = some u → h'.get? b = some u) : Un fs ex H H h h' :=
  ⟨fun b ob q _ _ _ => k b ob q, fun b ob q _ _ _ => ⟨ob.slots, k b ob q⟩, fun _ _ _ n _ => n, fun b ob q _ => ⟨ob, k b ob q⟩, fun _ _ q => q, fun _ _ _ q => q, fun _ ps q => ⟨#[], by rw [q]; simp⟩⟩
theorem Un.refl : Un fs ex H H h h := Un.kept fun _ _ q => q
theorem Un.laid (k : ∀ b u, h.get? b = some u → h'.get? b = some u) (hp : h.objs.size ≤ a) (hn : H a = none) : Un fs ex H (upd H a o) h h' where
  keep := fun b u q _ _ _ => k b u q
  slot := fun b u q _ _ _ => ⟨u.slots, k b u q⟩
  free := fun b u q n _ => by rw [upd_ne (Nat.ne_of_lt (Nat.lt_of_lt_of_le (Heap.lt_size q) hp))]; exact n
  there := fun b u q _ => ⟨u, k b u q⟩
  tups := fun b xs q => by rw [upd_ne (ne_of_none q hn)]; exact q
  frzs := fun b u xs q => by rw [upd_ne (ne_of_none q hn)]; exact q
  tbls := fun b ps q => ⟨#[], by rw [upd_ne (ne_of_none q hn), q]; simp⟩
theorem Un.write (mu : Mut (H x)) (he : e = x ∨ H e = some (.own x)) (k : ∀ b u, b ≠ e → h.get? b = some u → h'.get? b = some u) (heo : ∃ u, h'.get? e = some u) : Un fs ex H (upd H x o) h h' := by
  have hx : ∀ b, H b = none → b ≠ x := fun b n z => by subst z; rw [n] at mu; exact mu
  have hb : ∀ b, H b = none → b ≠ e := fun b n z => by
    subst z
    rcases he with r | r
    · exact hx b n r
    · rw [n] at r; cases r
  have hm : ∀ b u, H b = some u → ¬ Mut (some u) → b ≠ x := fun b u q nm z => by subst z; rw [q] at mu; exact nm mu
  refine ⟨fun b u q n _ _ => k b u (hb b n) q, fun b u q n _ _ => ⟨u.slots, k b u (hb b n) q⟩, fun b u q n _ => by rw [upd_ne (hx b n)]; exact n, fun b u q _ => ?_,
    fun b xs q => by rw [upd_ne (hm b _ q fun z => z)]; exact q, fun b u xs q => by rw [upd_ne (hm b _ q fun z => z)]; exact q, fun b ps q => ⟨#[], by rw [upd_ne (hm b _ q fun z => z), q]; simp⟩⟩
  by_cases hbe : b = e
  · subst hbe; exact heo
  · exact ⟨u, k b u hbe q⟩
end

/-! ### the heap without what is tracked -/
def trk (h : Heap) (H : Hp) : List Addr := (List.range h.objs.size).filter fun a => (H a).isSome
def hidT (h : Heap) (H : Hp) : Heap := PySem.W.hideAll h (trk h H)
theorem hidT_size (h : Heap) (H : Hp) : (hidT h H).objs.size = h.objs.size := PySem.W.hideAll_size _ _
theorem hidT_get {h : Heap} {H : Hp} {b : Addr} {o : Obj} (e : h.get? b = some o) (n : H b = none) : (hidT h H).get? b = some o :=
  PySem.W.hideAll_get _ e fun hm => by
    have q : (H b).isSome = true := (List.mem_filter.mp hm).2
    rw [n] at q; simp at q
theorem of_hidT {h : Heap} {H : Hp} {b : Addr} {o : Obj} (e : (hidT h H).get? b = some o) : h.get? b = some o ∧ H b = none := by
  have e' : h.get? b = some o := PySem.W.of_hideAll (trk h H) e
  refine ⟨e', ?_⟩
  cases q : H b with
  | none => rfl
  | some x =>
    have hm : b ∈ trk h H := List.mem_filter.mpr ⟨List.mem_range.mpr (Heap.lt_size e'), by simp [q]⟩
    have z : (hidT h H).get? b = none := PySem.W.hideAll_none (trk h H) hm
    rw [z] at e; cases e

/-! ### OpenK's ledger, filled with every new object but one -/
end L2

namespace L2
open PySem PySem.Spec PyProof.Rows

/-- the module's facts, over the base: the heap at the law's entry without what is tracked there -/
structure Mod (K : PySem.W.Frag) (mg : Str → Option Value) (base : Heap) : Prop where
  kin : K.In base
  glob : base.Ns mainGlobals mg
  blt : ∃ mb, base.Ns builtinsNs mb ∧ ∀ x : Str, x ≠ "__name__" → mb x = bootBuiltins x
  nolimit : base.NoLimit

/-- the context: a def's body (or a comprehension's block) running. base: fixed through the whole law; s₀, H₀: the entry; outer: the frames whose slots others may change (a def's callers); stack: all frames that run;
   ex: iterators that were made ahead of the entry and are walked here (a comprehension's); fn: the names whose cells were made at the entry (a def: all; a comprehension's block: its own); calm: not within an except suite; pn: pins that every state bears; xe: what is wanted of an exception that leaves the code -/
structure Cx where
  prog : Program
  w : World
  K : PySem.W.Frag
  mg : Str → Option Value
  base : Heap
  A : Around
  N : List Str
  s₀ : Shared
  H₀ : Hp
  env : Env
  outer : List Env
  stack : List Env
  ex : List Addr
  fn : Str → Bool
  calm : Bool
  pn : List (Addr × Obj)
  xe : Value → Shared → Prop
/-- the callers' frames -/
def frs (l : List Env) : List Addr := l.filterMap (·.frame)
abbrev Cx.fs (X : Cx) : List Addr := frs X.outer

def Vis (sc : Scope) (x : Str) : Prop := sc.names.lookup x = some .local ∨ sc.names.lookup x = some .cell ∨ sc.names.lookup x = some .free
def Loc (sc : Scope) (x : Str) : Prop := sc.names.lookup x = some .local ∨ sc.names.lookup x = some .cell
def Look (env : Env) (h : Heap) (m : Str → Option Value) (x : Str) (u : Value) : Prop :=
  (env.kindOf x = some .local ∧ m x = some u) ∨ ((env.kindOf x = some .cell ∨ env.kindOf x = some .free) ∧ ∃ c, env.cells.lookup x = some c ∧ h.IsCell c (some u))

structure Cx.Ok (X : Cx) : Prop where
  mod : Mod X.K X.mg X.base
  kind : X.env.scope.kind = .function
  glob : X.env.globals = mainGlobals
  blt : X.env.builtins = builtinsNs
  above : X.s₀.heap.objs.size ≤ X.env.locals
  inj : ∀ x y c, X.env.cells.lookup x = some c → X.env.cells.lookup y = some c → x = y
  has : ∀ x, (X.env.kindOf x = some .cell ∨ X.env.kindOf x = some .free) → ∃ c, X.env.cells.lookup x = some c
  cab : ∀ x c, X.fn x = true → X.env.cells.lookup x = some c → X.s₀.heap.objs.size ≤ c
  hd : X.calm = true → X.A.handled = none
  frames : X.A.frames = some X.stack
  stk : X.stack = X.outer ∨ (X.stack = X.env :: X.outer ∧ X.env.frame = some X.env.locals)
  exf : ∀ b ∈ X.ex, b ≠ X.env.locals ∧ ∀ x c, X.env.cells.lookup x = some c → c ≠ b
  bs : ∀ b o, X.base.get? b = some o → X.s₀.heap.get? b = some o ∧ X.H₀ b = none
  bsz : X.base.objs.size ≤ X.s₀.heap.objs.size
  noex : ∀ b o, X.base.get? b = some o → b ∉ X.ex
  exfs : ∀ b ∈ X.ex, b ∉ X.fs
  funs : X.s₀.heap.FunFrames X.base X.outer
  frf : ∀ b ∈ X.fs, X.H₀ b = none

structure Inv (X : Cx) (pins : List (Addr × Obj)) (σ : List (Option V)) (H : Hp) (s : Shared) : Prop where
  ok : X.Ok
  os : s.os = X.s₀.os
  bare : AllBare s.gens
  base : Un X.fs X.ex X.H₀ H X.s₀.heap s.heap
  loc : ∃ m, s.heap.Ns X.env.locals m ∧ ∀ (i : Nat) (x : Str) (v : V), X.N[i]? = some x → σ[i]? = some (some v) → Vis X.env.scope x → ∃ u, RelV v u ∧ Look X.env s.heap m x u
  cell : ∀ x c, X.env.cells.lookup x = some c → ∃ v, s.heap.IsCell c v
  free : H X.env.locals = none
  freeC : ∀ x c, X.env.cells.lookup x = some c → H c = none
  pin : ∀ p ∈ X.pn ++ pins, s.heap.get? p.1 = some p.2 ∧ H p.1 = none ∧ p.1 ≠ X.env.locals ∧ p.1 ∉ X.fs ∧ ∀ v, p.2.data ≠ .cell v
  hok : HOk X.prog X.w H s.heap
  len : σ.length = X.N.length

section
variable {X : Cx} {pins : List (Addr × Obj)} {σ : List (Option V)} {H H' : Hp} {s : Shared} {h' : Heap}

theorem Cx.Ok.nofr (ok : X.Ok) {b : Addr} {o : Obj} (e : X.base.get? b = some o) : b ∉ X.fs := fun hb => by
  have := (ok.funs.mem hb).1
  rw [e] at this; cases this
theorem Inv.bs (I : Inv X pins σ H s) : ∀ b o, X.base.get? b = some o → s.heap.get? b = some o ∧ H b = none := fun b o e =>
  ⟨I.base.keep b o (I.ok.bs b o e).1 (I.ok.bs b o e).2 (I.ok.nofr e) (I.ok.noex b o e), I.base.free b o (I.ok.bs b o e).1 (I.ok.bs b o e).2 (I.ok.noex b o e)⟩
theorem Inv.bk (I : Inv X pins σ H s) : ∀ b o, X.base.get? b = some o → s.heap.get? b = some o := fun b o e => (I.bs b o e).1
theorem Inv.mod (I : Inv X pins σ H s) : Mod X.K X.mg X.base := I.ok.mod
theorem Inv.kIn (I : Inv X pins σ H s) : X.K.In s.heap := I.ok.mod.kin.keeps I.bk
theorem Inv.lt (I : Inv X pins σ H s) : X.env.locals < s.heap.objs.size := let ⟨_, hn, _⟩ := I.loc; hn.lt
theorem Inv.sz (I : Inv X pins σ H s) : X.s₀.heap.objs.size ≤ s.heap.objs.size := Nat.le_trans I.ok.above (Nat.le_of_lt I.lt)
theorem Inv.nofs (I : Inv X pins σ H s) {a : Addr} (h : s.heap.objs.size ≤ a) : a ∉ X.fs := fun hb => by
  obtain ⟨_, o, ho, _⟩ := I.ok.funs.mem hb
  exact absurd (Nat.lt_of_lt_of_le (Heap.lt_size ho) (Nat.le_trans I.sz h)) (Nat.lt_irrefl _)
theorem Inv.cne (I : Inv X pins σ H s) : ∀ x c, X.env.cells.lookup x = some c → c ≠ X.env.locals := fun x c e z => by
  obtain ⟨v, o, ho, hd⟩ := I.cell x c e
  obtain ⟨m, ⟨o', es, ep, ho', hd', _⟩, _⟩ := I.loc
  rw [z, ho'] at ho; cases ho; rw [hd'] at hd; cases hd
theorem Inv.funs (I : Inv X pins σ H s) : s.heap.FunFrames X.base X.outer := by
  have all : ∀ (l : List Env), (∀ b ∈ frs l, b ∈ X.fs) → X.s₀.heap.FunFrames X.base l → s.heap.FunFrames X.base l := by
    intro l
    induction l with
    | nil => intro _ _; trivial
    | cons env r ih =>
      intro hs hl
      obtain ⟨hk, ⟨L, o, hf, hn, ho, hd⟩, hr⟩ := hl
      have hL : L ∈ X.fs := hs L (by unfold frs; rw [List.filterMap_cons, hf]; exact List.mem_cons_self)
      obtain ⟨sl, e⟩ := I.base.slot L o ho (I.ok.frf L hL) hL fun z => I.ok.exfs L z hL
      exact ⟨hk, ⟨L, _, hf, hn, e, hd⟩, ih (fun b hb => hs b (by unfold frs; rw [List.filterMap_cons, hf]; exact List.mem_cons_of_mem _ hb)) hr⟩
  exact all X.outer (fun _ hb => hb) I.ok.funs

/-- the frames that run, for a call -/
theorem Inv.stack (I : Inv X pins σ H s) : s.heap.FunFrames X.base X.stack := by
  rcases I.ok.stk with e | ⟨e, hf⟩
  · rw [e]; exact I.funs
  · rw [e]
    obtain ⟨m, hn, _⟩ := I.loc
    refine .cons (by rw [I.ok.kind]; decide) hf hn ?_ I.funs
    exact Heap.get?_none_of_le (Nat.le_trans I.ok.bsz I.ok.above)
theorem Inv.stkSub (I : Inv X pins σ H s) : ∀ b ∈ frs X.stack, b ∈ X.env.locals :: X.fs := fun b hb => by
  rcases I.ok.stk with e | ⟨e, hf⟩
  · rw [e] at hb; exact List.mem_cons_of_mem _ hb
  · rw [e] at hb
    unfold frs at hb
    rw [List.filterMap_cons, hf] at hb
    exact hb
theorem Inv.stkFree (I : Inv X pins σ H s) : ∀ b ∈ frs X.stack, H b = none := fun b hb => by
  rcases List.mem_cons.mp (I.stkSub b hb) with e | hb
  · rw [e]; exact I.free
  · obtain ⟨_, o, ho, _⟩ := I.ok.funs.mem hb
    exact I.base.free b o ho (I.ok.frf b hb) fun z => I.ok.exfs b z hb

/-- THE STEP: the untracked objects but the frame and the records at ch are kept (the callers' frames up to slots), the frame's map is kept, the new abstract heap is held -/
theorem Inv.step {g' : Array GenState} {t' : Nat} {d' : Drawn} {ch : List Addr} (I : Inv X pins σ H s)
    (hch : ∀ b ∈ ch, (b ∈ X.ex ∨ X.s₀.heap.objs.size ≤ b) ∧ b ≠ X.env.locals ∧ (∀ x c, X.env.cells.lookup x = some c → c ≠ b) ∧ ∀ p ∈ X.pn ++ pins, p.1 ≠ b)
    (keep : ∀ b o, b ≠ X.env.locals → b ∉ X.fs → b ∉ ch → s.heap.get? b = some o → H b = none → h'.get? b = some o)
    (slot : ∀ b o, b ≠ X.env.locals → b ∈ X.fs → b ∉ ch → s.heap.get? b = some o → H b = none → ∃ sl, h'.get? b = some { o with slots := sl }) (free : ∀ b o, b ∉ ch → s.heap.get? b = some o → H b = none → H' b = none)
    (there : ∀ b o, b ∉ ch → s.heap.get? b = some o → ∃ o', h'.get? b = some o')
    (tups : ∀ b xs, H b = some (.tup xs) → H' b = some (.tup xs)) (frzs : ∀ b o u, H b = some (.frz o u) → H' b = some (.frz o u)) (tbls : ∀ b ps, H b = some (.tbl ps) → ∃ more, H' b = some (.tbl (ps ++ more)))
    (ns : ∀ m, s.heap.Ns X.env.locals m → h'.Ns X.env.locals m) (hok : HOk X.prog X.w H' h') (hg : AllBare g') :
    Inv X pins σ H' { s with heap := h', gens := g', drawn := d', toks := t' } := by
  have neL : ∀ b o, X.s₀.heap.get? b = some o → b ≠ X.env.locals := fun b o e => Nat.ne_of_lt (Nat.lt_of_lt_of_le (Heap.lt_size e) I.ok.above)
  have neC : ∀ b o, X.s₀.heap.get? b = some o → b ∉ X.ex → b ∉ ch := fun b o e hx hb => by
    rcases (hch b hb).1 with z | z
    · exact hx z
    · exact absurd (Nat.lt_of_lt_of_le (Heap.lt_size e) z) (Nat.lt_irrefl _)
  have cellK : ∀ x c, X.env.cells.lookup x = some c → ∀ v, s.heap.IsCell c v → h'.IsCell c v := fun x c e v ⟨o, ho, hd⟩ => by
    have nch : c ∉ ch := fun z => (hch c z).2.2.1 x c e rfl
    by_cases hc : c ∈ X.fs
    · obtain ⟨sl, q⟩ := slot c o (I.cne x c e) hc nch ho (I.freeC x c e)
      exact ⟨_, q, hd⟩
    · exact ⟨o, keep c o (I.cne x c e) hc nch ho (I.freeC x c e), hd⟩
  refine ⟨I.ok, I.os, hg, ⟨fun b o e n hb hx => ?_, fun b o e n hb hx => ?_, fun b o e n hx => ?_, fun b o e hx => ?_, fun b xs e => tups b xs (I.base.tups b xs e), fun b o xs e => frzs b o xs (I.base.frzs b o xs e), fun b ps e => ?_⟩, ?_, fun x c e => ?_, ?_, fun x c e => ?_, fun p hp => ?_, hok, I.len⟩
  · exact keep b o (neL b o e) hb (neC b o e hx) (I.base.keep b o e n hb hx) (I.base.free b o e n hx)
  · obtain ⟨sl, e1⟩ := I.base.slot b o e n hb hx
    obtain ⟨sl', e2⟩ := slot b _ (neL b o e) hb (neC b o e hx) e1 (I.base.free b o e n hx)
    exact ⟨sl', e2⟩
  · obtain ⟨o', e1⟩ := I.base.there b o e hx
    exact free b o' (neC b o e hx) e1 (I.base.free b o e n hx)
  · obtain ⟨o', e1⟩ := I.base.there b o e hx
    exact there b o' (neC b o e hx) e1
  · obtain ⟨m1, e1⟩ := I.base.tbls b ps e
    obtain ⟨m2, e2⟩ := tbls b _ e1
    exact ⟨m1 ++ m2, by rw [e2, Array.append_assoc]⟩
  · obtain ⟨m, hn, hl⟩ := I.loc
    refine ⟨m, ns m hn, fun i x v e1 e2 e3 => ?_⟩
    obtain ⟨u, r, l⟩ := hl i x v e1 e2 e3
    refine ⟨u, r, ?_⟩
    rcases l with l | ⟨k, c, e, z⟩
    · exact .inl l
    · exact .inr ⟨k, c, e, cellK x c e _ z⟩
  · obtain ⟨v, z⟩ := I.cell x c e
    exact ⟨v, cellK x c e v z⟩
  · obtain ⟨m, ⟨o, _, _, ho, _⟩, _⟩ := I.loc
    exact free _ o (fun z => (hch _ z).2.1 rfl) ho I.free
  · obtain ⟨v, o, ho, hd⟩ := I.cell x c e
    exact free c o (fun z => (hch c z).2.2.1 x c e rfl) ho (I.freeC x c e)
  · obtain ⟨e, n, ne, nf, d⟩ := I.pin p hp
    have nch : p.1 ∉ ch := fun z => (hch p.1 z).2.2.2 p hp rfl
    exact ⟨keep p.1 p.2 ne nf nch e n, free p.1 p.2 nch e n, ne, nf, d⟩
/-- .. where the frame's own object is kept too -/
theorem Inv.un {t' : Nat} (I : Inv X pins σ H s) (u : Un X.fs [] H H' s.heap h') (hok : HOk X.prog X.w H' h') : Inv X pins σ H' { s with heap := h', toks := t' } := by
  obtain ⟨m, ⟨o, es, ep, ho, r⟩, _⟩ := id I.loc
  obtain ⟨sl, hL⟩ := u.any ho I.free (by simp)
  exact I.step (g' := s.gens) (d' := s.drawn) (ch := []) (fun _ z => nomatch z) (fun b o _ hb _ e n => u.keep b o e n hb (by simp)) (fun b o _ hb _ e n => u.slot b o e n hb (by simp)) (fun b o _ e n => u.free b o e n (by simp)) (fun b o _ e => u.there b o e (by simp)) u.tups u.frzs u.tbls (fun m' hm => by
    obtain ⟨o', es', ep', ho', r'⟩ := hm
    rw [ho] at ho'; cases ho'
    exact ⟨_, es', ep', hL, r'⟩) hok I.bare
/-- behind a call (or a comprehension's block): the slots of this frame may have changed too, the records at ch may have turned -/
theorem Inv.call {g' : Array GenState} {t' : Nat} {d' : Drawn} {ch : List Addr} (I : Inv X pins σ H s) (u : Un (frs X.stack) ch H H' s.heap h') (hok : HOk X.prog X.w H' h') (hg : AllBare g')
    (hch : ∀ b ∈ ch, (b ∈ X.ex ∨ X.s₀.heap.objs.size ≤ b) ∧ b ≠ X.env.locals ∧ (∀ x c, X.env.cells.lookup x = some c → c ≠ b) ∧ ∀ p ∈ X.pn ++ pins, p.1 ≠ b) :
    Inv X pins σ H' { s with heap := h', gens := g', drawn := d', toks := t' } := by
  obtain ⟨m, ⟨o, es, ep, ho, r⟩, _⟩ := id I.loc
  obtain ⟨sl, hL⟩ := u.any ho I.free fun z => (hch _ z).2.1 rfl
  exact I.step (ch := ch) hch (fun b o hL hb hc e n => u.keep b o e n (fun z => (List.mem_cons.mp (I.stkSub b z)).elim hL hb) hc) (fun b o _ _ hc e n => u.any e n hc) (fun b o hc e n => u.free b o e n hc) (fun b o hc e => u.there b o e hc) u.tups u.frzs u.tbls (fun m' hm => by
    obtain ⟨o', es', ep', ho', r'⟩ := hm
    rw [ho] at ho'; cases ho'
    exact ⟨_, es', ep', hL, r'⟩) hok hg
/-- an untracked record of ours (an iterator) has turned -/
theorem Inv.turned {t' : Nat} {it : Addr} (I : Inv X pins σ H s) (k : ∀ b o, b ≠ it → s.heap.get? b = some o → h'.get? b = some o) (hn : H it = none) (hL : it ≠ X.env.locals)
    (h1 : it ∈ X.ex ∨ X.s₀.heap.objs.size ≤ it) (h2 : ∀ x c, X.env.cells.lookup x = some c → c ≠ it) (h3 : ∀ p ∈ X.pn ++ pins, p.1 ≠ it) : Inv X pins σ H { s with heap := h', toks := t' } := by
  have nit : ∀ b u, H b = some u → b ≠ it := fun b u e z => by rw [z, hn] at e; cases e
  refine I.step (g' := s.gens) (d' := s.drawn) (ch := [it]) (fun b hb => ?_) (fun b o _ _ hc e _ => k b o (fun z => hc (by simp [z])) e) (fun b o _ _ hc e _ => ⟨o.slots, k b o (fun z => hc (by simp [z])) e⟩) (fun _ _ _ _ n => n)
    (fun b o hc e => ⟨o, k b o (fun z => hc (by simp [z])) e⟩) (fun _ _ e => e) (fun _ _ _ e => e) (fun b ps e => ⟨#[], by rw [e]; simp⟩) (fun m hm => ?_) (fun b u e => ?_) I.bare
  · have e : b = it := by simpa using hb
    subst e
    exact ⟨h1, hL, h2, h3⟩
  · obtain ⟨o, es, ep, ho, r⟩ := hm
    exact ⟨o, es, ep, k _ o (Ne.symm hL) ho, r⟩
  · refine (I.hok b u e).stay (fun c v hc q => k c v ?_ q) (fun _ q => q) fun _ _ q => q
    rcases hc with z | z
    · rw [z]; exact nit b u e
    · exact nit c _ z
theorem Inv.tok (I : Inv X pins σ H s) (t : Nat) : Inv X pins σ H { s with toks := t } := I.un (h' := s.heap) (t' := t) Un.refl I.hok
/-- all objects kept -/
theorem Inv.kept {t' : Nat} (I : Inv X pins σ H s) (k : ∀ b u, s.heap.get? b = some u → h'.get? b = some u) : Inv X pins σ H { s with heap := h', toks := t' } := I.un (Un.kept k) (I.hok.kept k)
/-- a new object laid and tracked -/
theorem Inv.laid {a : Addr} {o : HO} {t' : Nat} (I : Inv X pins σ H s) (k : ∀ b u, s.heap.get? b = some u → h'.get? b = some u) (hp : s.heap.objs.size ≤ a) (new : ObjOk X.prog X.w (upd H a o) h' a o) :
    Inv X pins σ (upd H a o) { s with heap := h', toks := t' } := I.un (Un.laid k hp (I.hok.fresh hp)) (I.hok.laid k hp new)
/-- an object written -/
theorem Inv.write {x e : Addr} {o : HO} {t' : Nat} (I : Inv X pins σ H s) (mu : Mut (H x)) (he : e = x ∨ H e = some (.own x)) (k : ∀ b u, b ≠ e → s.heap.get? b = some u → h'.get? b = some u) (heo : ∃ u, h'.get? e = some u)
    (new : ObjOk X.prog X.w (upd H x o) h' x o) : Inv X pins σ (upd H x o) { s with heap := h', toks := t' } := I.un (Un.write mu he k heo) (I.hok.write mu he k heo new)
theorem Inv.pins_of {pins' : List (Addr × Obj)} (I : Inv X pins σ H s) (h : ∀ p ∈ pins', s.heap.get? p.1 = some p.2 ∧ H p.1 = none ∧ p.1 ≠ X.env.locals ∧ p.1 ∉ X.fs ∧ ∀ v, p.2.data ≠ .cell v) : Inv X pins' σ H s :=
  ⟨I.ok, I.os, I.bare, I.base, I.loc, I.cell, I.free, I.freeC, fun p hp => (List.mem_append.mp hp).elim (fun z => I.pin p (List.mem_append_left _ z)) (h p), I.hok, I.len⟩

theorem nodup_ix {N : List Str} (hN : N.Nodup) {i j : Nat} {x : Str} (a : N[i]? = some x) (b : N[j]? = some x) : i = j := by
  obtain ⟨h1, e1⟩ := List.getElem?_eq_some_iff.mp a
  obtain ⟨h2, e2⟩ := List.getElem?_eq_some_iff.mp b
  exact (List.getElem_inj hN).mp (e1.trans e2.symm)

/-- a name is stored; what changed -/
theorem store_ok2 {M : Model} {A : Around} {E : Value → Shared → Prop} {i : Nat} {x : Str} {v : V} {u : Value} {Q : Unit → Shared → Prop} (I : Inv X pins σ H s) (hN : X.N.Nodup) (hi : X.N[i]? = some x) (hx : Loc X.env.scope x) (r : RelV v u)
    (h : ∀ s', Inv X pins (σ.set i (some v)) H s' → (∃ a, Heap.SameBut a s.heap s'.heap ∧ (a = X.env.locals ∨ X.env.cells.lookup x = some a)) → Q () s') (hf : X.fn x = true ∨ X.env.scope.names.lookup x = some .local := by first | exact .inl rfl | exact .inr rfl | assumption) : wpAny M A (storeName X.env x u) Q E s := by
  obtain ⟨m, hn, hl⟩ := id I.loc
  have hcls : (X.env.scope.kind == .class || (X.env.scope.kind == .module && X.env.locals != X.env.globals)) = false := by rw [I.ok.kind]; rfl
  have hiσ : i < σ.length := by rw [I.len]; exact (List.getElem?_eq_some_iff.mp hi).1
  have cne := I.cne
  have tracked : ∀ {a : Addr} {h' : Heap}, (∃ o, s.heap.get? a = some o ∧ H a = none) → Heap.SameBut a s.heap h' → HOk X.prog X.w H h' := fun {a h'} ha hs b ob e => by
    obtain ⟨_, _, hfree⟩ := ha
    refine (I.hok b ob e).stay (fun c w' hc q => (hs.2 c ?_).trans q) (fun _ q => q) fun _ _ q => q
    rintro rfl
    rcases hc with rfl | hc
    · rw [hfree] at e; cases e
    · rw [hfree] at hc; cases hc
  rcases hx with hk | hk
  · refine wpAny_storeName_local hk hn (fun h' hn' hs => ?_) hcls
    obtain ⟨oL, _, _, hoL, _⟩ := id hn
    refine h _ ⟨I.ok, I.os, I.bare, ⟨fun b o e n hb hx => ?_, fun b o e n hb hx => ?_, I.base.free, fun b o e hx => ?_, I.base.tups, I.base.frzs, I.base.tbls⟩, ⟨_, hn', fun j y v' e1 e2 e3 => ?_⟩, fun y c e => ?_, I.free, I.freeC, fun p hp => ?_, tracked ⟨oL, hoL, I.free⟩ hs, by simpa using I.len⟩ ⟨_, hs, .inl rfl⟩
    · exact (hs.2 b (Nat.ne_of_lt (Nat.lt_of_lt_of_le (Heap.lt_size e) I.ok.above))).trans (I.base.keep b o e n hb hx)
    · obtain ⟨sl, e1⟩ := I.base.slot b o e n hb hx
      exact ⟨sl, (hs.2 b (Nat.ne_of_lt (Nat.lt_of_lt_of_le (Heap.lt_size e) I.ok.above))).trans e1⟩
    · obtain ⟨o', e1⟩ := I.base.there b o e hx
      exact ⟨o', (hs.2 b (Nat.ne_of_lt (Nat.lt_of_lt_of_le (Heap.lt_size e) I.ok.above))).trans e1⟩
    · by_cases hj : j = i
      · subst hj
        rw [hi] at e1; cases e1
        rw [List.getElem?_set_self hiσ] at e2
        cases e2
        exact ⟨u, r, .inl ⟨hk, by simp⟩⟩
      · rw [List.getElem?_set_ne (Ne.symm hj)] at e2
        obtain ⟨u', r', q⟩ := hl j y v' e1 e2 e3
        refine ⟨u', r', ?_⟩
        rcases q with ⟨k, e⟩ | ⟨k, c, e, z⟩
        · refine .inl ⟨k, ?_⟩
          have : y ≠ x := fun e => hj (nodup_ix hN e1 (e ▸ hi))
          simp [this, e]
        · exact .inr ⟨k, c, e, z.sameBut hs (cne y c e)⟩
    · obtain ⟨w', z⟩ := I.cell y c e
      exact ⟨w', z.sameBut hs (cne y c e)⟩
    · obtain ⟨e, n, ne, nf, d⟩ := I.pin p hp
      exact ⟨(hs.2 p.1 ne).trans e, n, ne, nf, d⟩
  · have hfn : X.fn x = true := by
      rcases hf with z | z
      · exact z
      · rw [z] at hk; cases hk
    obtain ⟨c, hc⟩ := I.ok.has x (.inl hk)
    obtain ⟨w', z⟩ := I.cell x c hc
    refine wpAny_storeName_cell I.ok.kind hk hc z (fun h' hc' hs => ?_)
    obtain ⟨oc, hoc, hocd⟩ := id z
    refine h { s with heap := h' } ⟨I.ok, I.os, I.bare, ⟨fun b o e n hb hx => ?_, fun b o e n hb hx => ?_, I.base.free, fun b o e hx => ?_, I.base.tups, I.base.frzs, I.base.tbls⟩, ⟨m, hn.sameBut hs (Ne.symm (cne x c hc)), fun j y v' e1 e2 e3 => ?_⟩, fun y c' e => ?_, I.free, I.freeC, fun p hp => ?_, tracked ⟨oc, hoc, I.freeC x c hc⟩ hs, by simpa using I.len⟩ ⟨c, hs, .inr hc⟩
    · exact (hs.2 b (Nat.ne_of_lt (Nat.lt_of_lt_of_le (Heap.lt_size e) (I.ok.cab x c hfn hc)))).trans (I.base.keep b o e n hb hx)
    · obtain ⟨sl, e1⟩ := I.base.slot b o e n hb hx
      exact ⟨sl, (hs.2 b (Nat.ne_of_lt (Nat.lt_of_lt_of_le (Heap.lt_size e) (I.ok.cab x c hfn hc)))).trans e1⟩
    · obtain ⟨o', e1⟩ := I.base.there b o e hx
      exact ⟨o', (hs.2 b (Nat.ne_of_lt (Nat.lt_of_lt_of_le (Heap.lt_size e) (I.ok.cab x c hfn hc)))).trans e1⟩
    · by_cases hj : j = i
      · subst hj
        rw [hi] at e1; cases e1
        rw [List.getElem?_set_self hiσ] at e2
        cases e2
        exact ⟨u, r, .inr ⟨.inl hk, c, hc, hc'⟩⟩
      · rw [List.getElem?_set_ne (Ne.symm hj)] at e2
        obtain ⟨u', r', q⟩ := hl j y v' e1 e2 e3
        refine ⟨u', r', ?_⟩
        rcases q with q | ⟨k, c', e, z'⟩
        · exact .inl q
        · refine .inr ⟨k, c', e, z'.sameBut hs ?_⟩
          rintro rfl
          exact hj (nodup_ix hN e1 (I.ok.inj _ _ _ e hc ▸ hi))
    · by_cases hcc : c' = c
      · subst hcc; exact ⟨_, hc'⟩
      · obtain ⟨w2, z2⟩ := I.cell y c' e
        exact ⟨w2, z2.sameBut hs hcc⟩
    · obtain ⟨e, n, ne, nf, d⟩ := I.pin p hp
      refine ⟨(hs.2 p.1 ?_).trans e, n, ne, nf, d⟩
      intro q
      rw [q, hoc] at e
      have q' : oc = p.2 := Option.some.inj e
      exact d w' (by rw [← q']; exact hocd)
theorem store_ok {M : Model} {A : Around} {E : Value → Shared → Prop} {i : Nat} {x : Str} {v : V} {u : Value} {Q : Unit → Shared → Prop} (I : Inv X pins σ H s) (hN : X.N.Nodup) (hi : X.N[i]? = some x) (hx : Loc X.env.scope x) (r : RelV v u)
    (h : ∀ s', Inv X pins (σ.set i (some v)) H s' → Q () s') (hf : X.fn x = true ∨ X.env.scope.names.lookup x = some .local := by first | exact .inl rfl | exact .inr rfl | assumption) : wpAny M A (storeName X.env x u) Q E s :=
  store_ok2 I hN hi hx r (fun s' I' _ => h s' I') hf
/-- behind a call or a block, the state as it is -/
theorem Inv.call' {s' : Shared} {ch : List Addr} (I : Inv X pins σ H s) (ho : s'.os = s.os) (u : Un (frs X.stack) ch H H' s.heap s'.heap) (hok : HOk X.prog X.w H' s'.heap) (hg : AllBare s'.gens)
    (hch : ∀ b ∈ ch, (b ∈ X.ex ∨ X.s₀.heap.objs.size ≤ b) ∧ b ≠ X.env.locals ∧ (∀ x c, X.env.cells.lookup x = some c → c ≠ b) ∧ ∀ p ∈ X.pn ++ pins, p.1 ≠ b) : Inv X pins σ H' s' := by
  obtain ⟨h', g', d', t', o'⟩ := s'
  have e : o' = s.os := ho
  subst e
  exact I.call (g' := g') (t' := t') (d' := d') u hok hg hch
end

/-! ### the judgements -/
/-- an exception: its class, its own dict's address (where it has one), the abstract heap behind it -/
abbrev XK := Value → Option Addr → Hp → Prop
abbrev St := List (Option V)
abbrev VK := V → Hp → Prop
/-- an expression's reading; a test's; an argument list's -/
abbrev TE := St → Hp → VK → Prop
abbrev TT := St → Hp → (Bool → Hp → Prop) → Prop
abbrev TA := St → Hp → (List V → Hp → Prop) → Prop
/-- what is wanted behind a statement -/
structure Ends where
  nx : St → Hp → Prop
  rt : VK
  bk : St → Hp → Prop := fun _ _ => False
  ct : St → Hp → Prop := fun _ _ => False
abbrev TS := Ends → St → Hp → Prop

def EP (X : Cx) (pins : List (Addr × Obj)) (σ : St) (Q : VK) (u : Value) (s' : Shared) : Prop := ∃ v H', Inv X pins σ H' s' ∧ RelV v u ∧ Q v H'
def TP (X : Cx) (pins : List (Addr × Obj)) (σ : St) (Q : Bool → Hp → Prop) (b : Bool) (s' : Shared) : Prop := ∃ H', Inv X pins σ H' s' ∧ Q b H'
def AP (X : Cx) (pins : List (Addr × Obj)) (σ : St) (Q : List V → Hp → Prop) (us : List Value) (s' : Shared) : Prop := ∃ vs H', Inv X pins σ H' s' ∧ Vals vs us ∧ Q vs H'
def SP (X : Cx) (pins : List (Addr × Obj)) (D : Ends) (f : Flow) (s' : Shared) : Prop :=
  match f with
  | .next => ∃ σ' H', Inv X pins σ' H' s' ∧ D.nx σ' H'
  | .brk => ∃ σ' H', Inv X pins σ' H' s' ∧ D.bk σ' H'
  | .cont => ∃ σ' H', Inv X pins σ' H' s' ∧ D.ct σ' H'
  | .ret u => ∃ v σ' H', Inv X pins σ' H' s' ∧ RelV v u ∧ D.rt v H'

def PE (X : Cx) (e : Expr) (t : TE) : Prop :=
  ∀ (pins : List (Addr × Obj)) (s : Shared) (σ : St) (H : Hp) (Q : VK), Inv X pins σ H s → t σ H Q → wpAny (model X.prog X.w) X.A (eval e X.env) (EP X pins σ Q) X.xe s
def PT (X : Cx) (e : Expr) (t : TT) : Prop :=
  ∀ (pins : List (Addr × Obj)) (s : Shared) (σ : St) (H : Hp) (Q : Bool → Hp → Prop), Inv X pins σ H s → t σ H Q → wpAny (model X.prog X.w) X.A (isTrue e X.env (eval e X.env)) (TP X pins σ Q) X.xe s
/-- a test whatever its 'whole' is (and, or) -/
def PW (X : Cx) (e : Expr) (t : TT) : Prop :=
  ∀ (whole : Sem Value) (pins : List (Addr × Obj)) (s : Shared) (σ : St) (H : Hp) (Q : Bool → Hp → Prop), Inv X pins σ H s → t σ H Q → wpAny (model X.prog X.w) X.A (isTrue e X.env whole) (TP X pins σ Q) X.xe s
theorem PW.pt {X : Cx} {e : Expr} {t : TT} (h : PW X e t) : PT X e t := h _
/-- an argument list (no star), from the left -/
def PA (X : Cx) (es : List Expr) (t : TA) : Prop :=
  ∀ (pos : Pos) (pins : List (Addr × Obj)) (s : Shared) (σ : St) (H : Hp) (Q : List V → Hp → Prop), Inv X pins σ H s → t σ H Q → wpAny (model X.prog X.w) X.A (spliced (backTo pos (starEach es X.env))) (AP X pins σ Q) X.xe s
def PS (X : Cx) (st : Stmt) (t : TS) : Prop :=
  ∀ (pins : List (Addr × Obj)) (s : Shared) (σ : St) (H : Hp) (D : Ends), Inv X pins σ H s → t D σ H → wpAny (model X.prog X.w) X.A (exec st X.env) (SP X pins D) X.xe s
def PSs (X : Cx) (st : List Stmt) (t : TS) : Prop :=
  ∀ (pins : List (Addr × Obj)) (s : Shared) (σ : St) (H : Hp) (D : Ends), Inv X pins σ H s → t D σ H → wpAny (model X.prog X.w) X.A (execs st X.env) (SP X pins D) X.xe s
/-- weaken the end -/
theorem thn {α : Type} {t : Sem α} {Q Q' : α → Shared → Prop} {M : Model} {A : Around} {E : Value → Shared → Prop} {s : Shared} (h : wpAny M A t Q E s) (hQ : ∀ a s, Q a s → Q' a s) : wpAny M A t Q' E s := wpAny_mono h hQ fun _ _ x => x
end L2

namespace L2
open PySem PySem.Spec PyProof.Rows
section
variable {X : Cx}

/-! ### names and constants -/
def tVar (i : Nat) : TE := fun σ H Q => ∃ v, σ[i]? = some (some v) ∧ Q v H
def tC (v : V) : TE := fun _ H Q => Q v H
theorem pe_var {i : Nat} {x : Str} {pos : Pos} (hN : X.N[i]? = some x) (hv : Vis X.env.scope x) (hd : (x == ("__debug__" : Str)) = false := by decide) (hcd : (x == ("__classdict__" : Str)) = false := by decide) : PE X (.Name x pos) (tVar i) := by
  intro pins s σ H Q I h
  obtain ⟨v, e, h⟩ := h
  obtain ⟨m, hn, hl⟩ := I.loc
  obtain ⟨u, r, l⟩ := hl i x v hN e hv
  have fin : EP X pins σ Q u s := ⟨v, H, I, r, h⟩
  rcases l with ⟨hk, hm⟩ | ⟨hk, c, hc, hcell⟩
  · exact wpAny_Name (wpAny_loadName_local I.ok.kind hk hn hm fin) hd
  · rcases hk with hk | hk
    · exact wpAny_Name (wpAny_loadName_cell I.ok.kind hk hc hcell fin) hd
    · exact wpAny_Name (wpAny_loadName_free I.ok.kind hk hc hcell fin hcd) hd
theorem pe_int {i j pos} : PE X (.Constant (.int i) j pos) (tC (.int i)) := fun _ _ _ H _ I h => wpAny_Constant_int ⟨.int i, H, I.tok _, ⟨_, rfl⟩, h⟩
theorem pe_bl {b j pos} : PE X (.Constant (.bool b) j pos) (tC (.bl b)) := fun _ _ _ H _ I h => Constant_bool ⟨.bl b, H, I, rfl, h⟩
theorem pe_non {j pos} : PE X (.Constant .none j pos) (tC .non) := fun _ _ _ H _ I h => Constant_none ⟨.non, H, I, rfl, h⟩

/-- a global name of the def -/
def Gl (X : Cx) (x : Str) : Prop := X.env.kindOf x = some .globalImplicit
theorem ld_glob {E : Value → Shared → Prop} {pins : List (Addr × Obj)} {s : Shared} {σ : St} {H : Hp} {x : Str} {u : Value} {pos : Pos} {Q : Value → Shared → Prop} (I : Inv X pins σ H s) (hg : Gl X x) (hm : X.mg x = some u) (h : Q u s)
    (hd : (x == ("__debug__" : Str)) = false := by decide) : wpAny (model X.prog X.w) X.A (eval (.Name x pos) X.env) Q E s :=
  Calls.Name_function_global I.ok.kind hg (Calls.loadGlobal_global (by rw [I.ok.glob]; exact I.mod.glob.keeps I.bk) hm h) hd
theorem ld_blt {E : Value → Shared → Prop} {pins : List (Addr × Obj)} {s : Shared} {σ : St} {H : Hp} {x : Str} {u : Value} {pos : Pos} {Q : Value → Shared → Prop} (I : Inv X pins σ H s) (hg : Gl X x) (hm : X.mg x = none) (hv : bootBuiltins x = some u) (h : Q u s)
    (hn : x ≠ "__name__" := by decide) (hd : (x == ("__debug__" : Str)) = false := by decide) : wpAny (model X.prog X.w) X.A (eval (.Name x pos) X.env) Q E s := by
  obtain ⟨mb, h1, h2⟩ := I.mod.blt
  exact Calls.Name_function_global I.ok.kind hg (Calls.loadGlobal_builtin (by rw [I.ok.glob]; exact I.mod.glob.keeps I.bk) hm (by rw [I.ok.blt]; exact h1.keeps I.bk) ((h2 x hn).trans hv) h) hd
theorem pe_bltn {x : Str} {v : V} {u : Value} {pos : Pos} (hg : Gl X x) (hm : X.mg x = none) (hv : bootBuiltins x = some u) (r : RelV v u) (hn : x ≠ "__name__" := by decide) (hd : (x == ("__debug__" : Str)) = false := by decide) : PE X (.Name x pos) (tC v) :=
  fun _ _ _ H _ I h => ld_blt I hg hm hv ⟨v, H, I, r, h⟩ hn hd

/-! ### arithmetic -/
variable {a b : Expr} {ta tb : TE} {pos : Pos}

/-! ### comparisons -/
def PC (X : Cx) (op : CmpOp) (a b : Expr) (t : TE) : Prop :=
  ∀ (pins : List (Addr × Obj)) (s : Shared) (σ : St) (H : Hp) (Q : VK), Inv X pins σ H s → t σ H Q →
    wpAny (model X.prog X.w) X.A (eval a X.env) (fun v s₁ => wpAny (model X.prog X.w) X.A (eval b X.env) (fun u s₂ => wpAny (model X.prog X.w) X.A (compareOp op v u) (EP X pins σ Q) X.xe s₂) X.xe s₁) X.xe s
/-- a comparison as a value, as a test -/
def tB (t : TE) : TT := fun σ H Q => t σ H fun x H1 => ∃ c, x = .bl c ∧ Q c H1
theorem pt_cmp {op : CmpOp} {t : TE} (h : PC X op a b t) (h1 : behindInMarks op b = false := by first | exact nobehind _ (by decide) (by decide) | rfl) : PT X (.Compare a [op] [b] pos) (tB t) := by
  intro pins s σ H Q I hw
  refine wpAny_isTrue_Compare1 (thn (h pins s σ H _ I hw) fun v s1 h1 => thn h1 fun u s2 h2 => thn h2 fun c s3 ⟨x, H1, I1, r1, q1⟩ => ?_) h1
  obtain ⟨d, rfl, q⟩ := q1
  cases r1
  exact wpAny_truthy_bool ⟨H1, I1, q⟩
/-- an expression whose value is a bool, as a test -/
theorem pt_val {e : Expr} {t : TE} (h : PE X e t) (he : ∀ whole, isTrue e X.env whole = (do let v ← whole; standAt e.pos; holding [v] (truthy v)) := by intro _; rfl) : PT X e (tB t) := by
  intro pins s σ H Q I hw
  refine isTrue_plain (thn (h pins s σ H _ I hw) fun v s1 ⟨x, H1, I1, r1, q1⟩ => ?_) (he _)
  obtain ⟨d, rfl, q⟩ := q1
  cases r1
  exact wpAny_truthy_bool ⟨H1, I1, q⟩

/-! ### and, or, not -/
variable {tA tB' : TT} {rest : List Expr}
def tAnd (t u : TT) : TT := fun σ H Q => t σ H fun c H1 => if c = true then u σ H1 Q else Q false H1
def tOr (t u : TT) : TT := fun σ H Q => t σ H fun c H1 => if c = true then Q true H1 else u σ H1 Q
def tNot (t : TT) : TT := fun σ H Q => t σ H fun c H1 => Q (!c) H1
theorem pw_and1 (ha : PT X a tA) : PW X (.BoolOp .And [a] pos) tA := by
  intro wh pins s σ H Q I h
  refine isTrue_and (thn (ha pins s σ H Q I h) fun c s1 e => ?_)
  cases c with
  | true => exact isTrue_and_nil e
  | false => exact e
theorem pw_or1 (ha : PT X a tA) : PW X (.BoolOp .Or [a] pos) tA := by
  intro wh pins s σ H Q I h
  refine isTrue_or (thn (ha pins s σ H Q I h) fun c s1 e => ?_)
  cases c with
  | false => exact isTrue_or_nil e
  | true => exact e
theorem pw_and (ha : PT X a tA) (hb : PW X (.BoolOp .And (b :: rest) pos) tB') : PW X (.BoolOp .And (a :: b :: rest) pos) (tAnd tA tB') := by
  intro wh pins s σ H Q I h
  refine isTrue_and (thn (ha pins s σ H _ I h) fun c s1 ⟨H1, I1, q1⟩ => ?_)
  cases c with
  | true => exact hb wh pins s1 σ H1 Q I1 q1
  | false => exact ⟨H1, I1, q1⟩
theorem pw_or (ha : PT X a tA) (hb : PW X (.BoolOp .Or (b :: rest) pos) tB') : PW X (.BoolOp .Or (a :: b :: rest) pos) (tOr tA tB') := by
  intro wh pins s σ H Q I h
  refine isTrue_or (thn (ha pins s σ H _ I h) fun c s1 ⟨H1, I1, q1⟩ => ?_)
  cases c with
  | true => exact ⟨H1, I1, q1⟩
  | false => exact hb wh pins s1 σ H1 Q I1 q1
theorem pt_not (ha : PT X a tA) : PT X (.UnaryOp .Not a pos) (tNot tA) := by
  intro pins s σ H Q I h
  exact isTrue_not (ha pins s σ H (fun c H1 => Q (!c) H1) I h)
/-- .. as values (bools) -/
def tAndV (ta tb : TE) : TE := fun σ H Q => ta σ H fun x H1 => ∃ c, x = .bl c ∧ if c = true then tb σ H1 Q else Q (.bl false) H1
def tNotV (ta : TE) : TE := fun σ H Q => ta σ H fun x H1 => ∃ c, x = .bl c ∧ Q (.bl (!c)) H1
theorem pe_one {op} {t : TE} (h : PE X a t) : PE X (.BoolOp op [a] pos) t := fun pins s σ H Q I hw => BoolOp_one (h pins s σ H Q I hw)
theorem pe_and (ha : PE X a ta) (hb : PE X (.BoolOp .And (b :: rest) pos) tb) : PE X (.BoolOp .And (a :: b :: rest) pos) (tAndV ta tb) := by
  intro pins s σ H Q I h
  refine BoolOp_and (thn (ha pins s σ H _ I h) fun v s1 ⟨x, H1, I1, r1, q1⟩ => ?_)
  obtain ⟨c, rfl, q1⟩ := q1
  cases r1
  refine wpAny_truthy_bool ?_
  cases c with
  | true => exact hb pins s1 σ H1 Q I1 q1
  | false => exact ⟨.bl false, H1, I1, rfl, q1⟩
theorem pe_not (ha : PE X a ta) : PE X (.UnaryOp .Not a pos) (tNotV ta) := by
  intro pins s σ H Q I h
  refine UnaryOp_ (thn (ha pins s σ H _ I h) fun v s1 ⟨x, H1, I1, r1, q1⟩ => ?_)
  obtain ⟨c, rfl, q1⟩ := q1
  cases r1
  exact not_of (wpAny_truthy_bool ⟨.bl (!c), H1, I1, rfl, q1⟩)
end
end L2

namespace L2
open PySem PySem.Spec PyProof.Rows

/-! ### a list, a tuple that is read: tracked, frozen, or an object of the module -/
def SqL (K : PySem.W.Frag) (H : Hp) (a : Addr) (xs : List V) : Prop :=
  Rd H a (.lst xs) ∨
    ∃ (o : Obj) (its : Array Value) (n : Nat), K.lookup a = some o ∧ o.cls = .type "list" ∧ o.dict = none ∧ o.data = .seq its n ∧ its.size ≤ sizeLine ∧ Vals xs its.toList
def SqT (K : PySem.W.Frag) (H : Hp) (a : Addr) (xs : List V) : Prop :=
  Rd H a (.tup xs) ∨
    ∃ (o : Obj) (its : Array Value) (n : Nat), K.lookup a = some o ∧ o.cls = .type "tuple" ∧ o.data = .seq its n ∧ its.size ≤ sizeLine ∧ Vals xs its.toList
def absV : Value → Option V
  | .none => some .non
  | .bool b => some (.bl b)
  | .int i _ => some (.int i)
  | .str x _ => some (.str x)
  | .bytes b _ => some (.byt b)
  | .float b _ => some (.flt b)
  | .ref a => some (.ref a)
  | .type n => some (.ty n)
  | _ => none
theorem RelV.abs {x : V} {u : Value} (r : RelV x u) : absV u = some x := by
  cases x with
  | non => cases r; rfl
  | bl _ => cases r; rfl
  | int _ => obtain ⟨t, rfl⟩ := r; rfl
  | str _ => obtain ⟨t, rfl⟩ := r; rfl
  | byt _ => obtain ⟨t, rfl⟩ := r; rfl
  | flt _ => obtain ⟨t, rfl⟩ := r; rfl
  | ref _ => cases r; rfl
  | ty _ => cases r; rfl
theorem RelV.inj {x y : V} {u : Value} (r : RelV x u) (q : RelV y u) : x = y := Option.some.inj (r.abs.symm.trans q.abs)
theorem Vals.inj : ∀ {xs ys : List V} {us : List Value}, Vals xs us → Vals ys us → xs = ys
  | _, _, _, .nil, .nil => rfl
  | _, _, _, .cons r t, .cons r' t' => by rw [r.inj r', Vals.inj t t']
section
variable {X : Cx} {pins : List (Addr × Obj)} {σ : St} {H : Hp} {s : Shared} {a : Addr} {xs ys : List V}
theorem SqL.of {K : PySem.W.Frag} (h : H a = some (.lst xs)) : SqL K H a xs := .inl (.inl h)
theorem SqT.of {K : PySem.W.Frag} (h : H a = some (.tup xs)) : SqT K H a xs := .inl (.inl h)
theorem Inv.list (I : Inv X pins σ H s) (h : SqL X.K H a xs) : ∃ its : List Value, Vals xs its ∧ PlainL s.heap a its.toArray ∧ xs.length ≤ sizeLine := by
  rcases h with h | ⟨o, its, n, hk, hc, hd, hs, hz, r⟩
  · obtain ⟨z, its, n, r, e⟩ := h.ok I.hok
    exact ⟨its, r, ⟨_, n, e, rfl, rfl, rfl⟩, z⟩
  · refine ⟨its.toList, r, ⟨o, n, I.kIn a o hk, hc, hd, by simpa using hs⟩, ?_⟩
    have e := r.length
    simp only [Array.length_toList] at e
    (first | lia | omega)
theorem Inv.tuple (I : Inv X pins σ H s) (h : SqT X.K H a xs) : ∃ its : List Value, Vals xs its ∧ IsTup s.heap a its.toArray ∧ xs.length ≤ sizeLine := by
  rcases h with h | ⟨o, its, n, hk, hc, hs, hz, r⟩
  · obtain ⟨z, its, r, p⟩ := h.ok I.hok
    exact ⟨its, r, p, z⟩
  · refine ⟨its.toList, r, ⟨o, I.kIn a o hk, hc, n, by simpa using hs⟩, ?_⟩
    have e := r.length
    simp only [Array.length_toList] at e
    (first | lia | omega)
theorem Inv.list_inj (I : Inv X pins σ H s) (h : SqL X.K H a xs) (h' : SqL X.K H a ys) : xs = ys := by
  obtain ⟨its, r, ⟨o, n, e, _, _, d⟩, _⟩ := I.list h
  obtain ⟨its', r', ⟨o', n', e', _, _, d'⟩, _⟩ := I.list h'
  rw [e] at e'; cases e'
  rw [d] at d'
  injection d' with d1 _
  have : its = its' := by simpa using congrArg Array.toList d1
  subst this
  exact r.inj r'
end

/-! ### another wish about exceptions -/
abbrev Cx.wish (X : Cx) (E : Value → Shared → Prop) : Cx := { X with xe := E }
/-- no exception leaves -/
abbrev Cx.nox (X : Cx) : Cx := X.wish fun _ _ => False
theorem Cx.Ok.wish {X : Cx} (ok : X.Ok) (E : Value → Shared → Prop) : (X.wish E).Ok :=
  ⟨ok.mod, ok.kind, ok.glob, ok.blt, ok.above, ok.inj, ok.has, ok.cab, ok.hd, ok.frames, ok.stk, ok.exf, ok.bs, ok.bsz, ok.noex, ok.exfs, ok.funs, ok.frf⟩
theorem Cx.Ok.unwish {X : Cx} {E : Value → Shared → Prop} (ok : (X.wish E).Ok) : X.Ok :=
  ⟨ok.mod, ok.kind, ok.glob, ok.blt, ok.above, ok.inj, ok.has, ok.cab, ok.hd, ok.frames, ok.stk, ok.exf, ok.bs, ok.bsz, ok.noex, ok.exfs, ok.funs, ok.frf⟩
section
variable {X : Cx} {pins : List (Addr × Obj)} {σ : St} {H : Hp} {s : Shared} {E : Value → Shared → Prop}
theorem Inv.wish (I : Inv X pins σ H s) (E : Value → Shared → Prop) : Inv (X.wish E) pins σ H s := ⟨I.ok.wish E, I.os, I.bare, I.base, I.loc, I.cell, I.free, I.freeC, I.pin, I.hok, I.len⟩
theorem Inv.unwish (I : Inv (X.wish E) pins σ H s) : Inv X pins σ H s := ⟨I.ok.unwish, I.os, I.bare, I.base, I.loc, I.cell, I.free, I.freeC, I.pin, I.hok, I.len⟩
theorem SP.unwish {D : Ends} {f : Flow} {s' : Shared} (h : SP (X.wish E) pins D f s') : SP X pins D f s' := by
  cases f with
  | next => obtain ⟨σ', H', I, q⟩ := h; exact ⟨σ', H', I.unwish, q⟩
  | brk => obtain ⟨σ', H', I, q⟩ := h; exact ⟨σ', H', I.unwish, q⟩
  | cont => obtain ⟨σ', H', I, q⟩ := h; exact ⟨σ', H', I.unwish, q⟩
  | ret u => obtain ⟨v, σ', H', I, r, q⟩ := h; exact ⟨v, σ', H', I.unwish, r, q⟩
theorem PSs.nox {st : List Stmt} {t : TS} (h : PSs X.nox st t) : PSs X st t := fun pins s σ H D I hw =>
  wpAny_mono (h pins s σ H D (I.wish _) hw) (fun _ _ q => q.unwish) fun _ _ z => False.elim z
end

/-! ### blocks and small statements -/
section
variable {X : Cx} {st : Stmt} {rest : List Stmt} {t u : TS} {e : Expr} {te : TE} {pos : Pos}
def tNext : TS := fun D σ H => D.nx σ H
def tSeq (t u : TS) : TS := fun D σ H => t { D with nx := u D } σ H
theorem pss_nil : PSs X [] tNext := fun _ _ σ H _ I h => wpAny_execs_nil ⟨σ, H, I, h⟩
theorem pss_cons (h1 : PS X st t) (h2 : PSs X rest u) : PSs X (st :: rest) (tSeq t u) := by
  intro pins s σ H D I h
  refine wpAny_execs_cons (thn (h1 pins s σ H { D with nx := u D } I h) fun f s1 q => ?_)
  cases f with
  | next =>
    obtain ⟨σ', H', I', q⟩ := q
    exact h2 pins s1 σ' H' D I' q
  | ret v => exact q
  | brk => exact q
  | cont => exact q
theorem pss_one (h1 : PS X st t) : PSs X [st] t := by
  intro pins s σ H D I h
  refine wpAny_execs_cons (thn (h1 pins s σ H D I h) fun f s1 q => ?_)
  cases f with
  | next => exact wpAny_execs_nil q
  | ret v => exact q
  | brk => exact q
  | cont => exact q
/-- in a def's body nothing is shown -/
theorem Inv.quiet {pins : List (Addr × Obj)} {σ : St} {H : Hp} {s : Shared} (I : Inv X pins σ H s) : interactive X.env = false := by simp [interactive, I.ok.kind]
/-- an expression whose value is dropped -/
def tDrop (te : TE) : TS := fun D σ H => te σ H fun _ H1 => D.nx σ H1
theorem ps_expr (he : PE X e te) (hs : swapsWith e none pos.line X.env = pure false := by rfl) : PS X (.Expr e pos) (tDrop te) := by
  intro pins s σ H D I h
  exact wpAny_Expr_any (thn (he pins s σ H _ I h) fun v s1 ⟨x, H1, I1, r1, q1⟩ => ⟨σ, H1, I1, q1⟩) I.quiet hs
def tRet (te : TE) : TS := fun D σ H => te σ H D.rt
theorem ps_ret (he : PE X e te) : PS X (.Return (some e) pos) (tRet te) := by
  intro pins s σ H D I h
  exact wpAny_Return_some (thn (he pins s σ H _ I h) fun v s1 ⟨x, H1, I1, r1, q1⟩ => ⟨x, σ, H1, I1, r1, q1⟩)
def tIfS (c : TT) (t u : TS) : TS := fun D σ H => c σ H fun b H1 => if b = true then t D σ H1 else u D σ H1
theorem ps_if {c : Expr} {a b : List Stmt} {tc : TT} (hc : PT X c tc) (ha : PSs X a t) (hb : PSs X b u) : PS X (.If c a b pos) (tIfS tc t u) := by
  intro pins s σ H D I h
  refine wpAny_If (thn (hc pins s σ H _ I h) fun d s1 ⟨H1, I1, q1⟩ => ?_)
  cases d with
  | true => exact ha pins s1 σ H1 D I1 q1
  | false => exact hb pins s1 σ H1 D I1 q1
/-- code that the proof never comes to -/
def tNever : TS := fun _ _ _ => False
theorem pss_never {sts : List Stmt} : PSs X sts tNever := fun _ _ _ _ _ _ h => h.elim
end

/-! ### targets -/
abbrev TG := V → St → Hp → (St → Hp → Prop) → Prop
def PG (X : Cx) (target : Expr) (t : TG) : Prop :=
  ∀ (pins : List (Addr × Obj)) (s : Shared) (σ : St) (H : Hp) (v : V) (u : Value) (Q : St → Hp → Prop), Inv X pins σ H s → RelV v u → t v σ H Q →
    wpAny (model X.prog X.w) X.A (assign target X.env u) (fun _ s' => ∃ σ' H', Inv X pins σ' H' s' ∧ Q σ' H') X.xe s
/-- o[i] = v, by values -/
abbrev TSet := V → V → V → Hp → (Hp → Prop) → Prop
def PSet (X : Cx) (t : TSet) : Prop :=
  ∀ (pins : List (Addr × Obj)) (s : Shared) (σ : St) (H : Hp) (o i v : V) (ov iv u : Value) (Q : Hp → Prop), Inv X pins σ H s → RelV o ov → RelV i iv → RelV v u → t o i v H Q →
    wpAny (model X.prog X.w) X.A (setItem ov iv u) (fun _ s' => ∃ H', Inv X pins σ H' s' ∧ Q H') X.xe s
/-- a op= b, by values -/
abbrev TIp := V → V → Hp → VK → Prop
def PIp (X : Cx) (op : Operator) (t : TIp) : Prop :=
  ∀ (pins : List (Addr × Obj)) (s : Shared) (σ : St) (H : Hp) (x y : V) (v u : Value) (Q : VK), Inv X pins σ H s → RelV x v → RelV y u → t x y H Q →
    wpAny (model X.prog X.w) X.A (inplaceOp op v u) (EP X pins σ Q) X.xe s
section
variable {X : Cx} {pos : Pos}
def gName (i : Nat) : TG := fun v σ H Q => Q (σ.set i (some v)) H
theorem pg_name {i : Nat} {x : Str} (hN : X.N.Nodup) (hi : X.N[i]? = some x) (hx : Loc X.env.scope x) (hf : X.fn x = true ∨ X.env.scope.names.lookup x = some .local := by first | exact .inl rfl | exact .inr rfl | assumption) : PG X (.Name x pos) (gName i) := by
  intro pins s σ H v u Q I r h
  exact wpAny_assign_Name (store_ok I hN hi hx r (fun s' I' => ⟨_, H, I', h⟩) hf)
/-- o[i] = .. -/
def gSub (to ti : TE) (t : TSet) : TG := fun v σ H Q => to σ H fun o H1 => ti σ H1 fun i H2 => t o i v H2 fun H3 => Q σ H3
theorem pg_sub {o i : Expr} {to ti : TE} {t : TSet} (ho : PE X o to) (hi : PE X i ti) (hs : PSet X t)
    (ha : ∀ v, assign (.Subscript o i pos) X.env v = (do
      let ov ← holding [v] (eval o X.env)
      let iv ← holding [v, ov] (eval i X.env)
      standAt pos
      holding [v, ov, iv] (setItem ov iv v)
      release [v, ov, iv] []) := by intro _; rfl) : PG X (.Subscript o i pos) (gSub to ti t) := by
  intro pins s σ H v u Q I r h
  rw [ha]
  refine wpAny_bind (wpAny_holding (thn (ho pins s σ H _ I h) fun ov s1 ⟨x, H1, I1, r1, q1⟩ => ?_))
  refine wpAny_bind (wpAny_holding (thn (hi pins s1 σ H1 _ I1 q1) fun iv s2 ⟨y, H2, I2, r2, q2⟩ => ?_))
  refine wpAny_bind (wpAny_standAt (wpAny_bind (wpAny_holding (thn (hs pins s2 σ H2 x y v ov iv u _ I2 r1 r2 r q2) fun _ s3 ⟨H3, I3, q3⟩ => ?_))))
  exact wpAny_release ⟨σ, H3, I3, q3⟩
/-- target = value -/
def tAsg (te : TE) (g : TG) : TS := fun D σ H => te σ H fun x H1 => g x σ H1 D.nx
theorem ps_asg {tg e : Expr} {te : TE} {g : TG} (he : PE X e te) (hg : PG X tg g) (hs : swapsWithSole [tg] e pos.line X.env = pure false := by rfl) (hw : swappedStores [tg] e X.env = pure none := by rfl)
    (h1 : (assignEach [tg] X.env).map (·.2) = [assign tg X.env] := by rfl) : PS X (.Assign [tg] e pos) (tAsg te g) := by
  intro pins s σ H D I h
  refine wpAny_Assign_stores (thn (he pins s σ H _ I h) fun v s1 ⟨x, H1, I1, r1, q1⟩ => ?_) hs hw
  rw [h1]
  exact thn (hg pins s1 σ H1 x v _ I1 r1 q1) fun _ s2 q => q
/-- name = value -/
theorem ps_set {i : Nat} {x : Str} {e : Expr} {te : TE} {pos' : Pos} (hN : X.N.Nodup) (hi : X.N[i]? = some x) (hx : Loc X.env.scope x) (he : PE X e te) (hs : swapsWith e (some (.Name x pos')) pos.line X.env = pure false := by rfl) (hf : X.fn x = true ∨ X.env.scope.names.lookup x = some .local := by first | exact .inl rfl | exact .inr rfl | assumption) :
    PS X (.Assign [.Name x pos'] e pos) (tAsg te (gName i)) := by
  intro pins s σ H D I h
  refine wpAny_Assign_Name (thn (he pins s σ H _ I h) fun v s1 ⟨y, H1, I1, r1, q1⟩ => ?_) hs
  exact store_ok I1 hN hi hx r1 (fun s2 I2 => ⟨_, H1, I2, q1⟩) hf
/-- o[i] op= e -/
def tAugS (to ti te : TE) (tget : V → V → Hp → VK → Prop) (tip : TIp) (tset : TSet) : TS := fun D σ H => to σ H fun o H1 => ti σ H1 fun i H2 => tget o i H2 fun x H3 => te σ H3 fun y H4 => tip x y H4 fun z H5 => tset o i z H5 fun H6 => D.nx σ H6
/-- o[i], by values -/
def PGet (X : Cx) (t : V → V → Hp → VK → Prop) : Prop :=
  ∀ (pins : List (Addr × Obj)) (s : Shared) (σ : St) (H : Hp) (o i : V) (ov iv : Value) (Q : VK), Inv X pins σ H s → RelV o ov → RelV i iv → t o i H Q →
    wpAny (model X.prog X.w) X.A (getItem ov iv) (EP X pins σ Q) X.xe s
theorem ps_augS {o i e : Expr} {to ti te : TE} {tget : V → V → Hp → VK → Prop} {tip : TIp} {tset : TSet} {op : Operator} {tpos : Pos} (ho : PE X o to) (hi : PE X i ti) (hg : PGet X tget) (he : PE X e te) (hp : PIp X op tip) (hs : PSet X tset)
    (ha : ∀ ov iv new, augStore i ov iv new = (do holding [new, ov, iv] (setItem ov iv new); release [new, ov, iv] []; pure .next) := by intros; rfl) : PS X (.AugAssign (.Subscript o i tpos) op e pos) (tAugS to ti te tget tip tset) := by
  intro pins s σ H D I h
  refine wpAny_AugAssign_SubscriptAny (thn (ho pins s σ H _ I h) fun ov s1 ⟨x1, H1, I1, r1, q1⟩ => ?_) ha
  refine thn (hi pins s1 σ H1 _ I1 q1) fun iv s2 ⟨x2, H2, I2, r2, q2⟩ => ?_
  refine thn (hg pins s2 σ H2 x1 x2 ov iv _ I2 r1 r2 q2) fun old s3 ⟨x3, H3, I3, r3, q3⟩ => ?_
  refine thn (he pins s3 σ H3 _ I3 q3) fun v s4 ⟨x4, H4, I4, r4, q4⟩ => ?_
  refine thn (hp pins s4 σ H4 x3 x4 old v _ I4 r3 r4 q4) fun new s5 ⟨x5, H5, I5, r5, q5⟩ => ?_
  exact thn (hs pins s5 σ H5 x1 x2 x5 ov iv new _ I5 r1 r2 r5 q5) fun _ s6 ⟨H6, I6, q6⟩ => ⟨σ, H6, I6, q6⟩
/-- ints -/
def ipI (f : Int → Int → Int) : TIp := fun x y H Q => ∃ i j, x = .int i ∧ y = .int j ∧ Q (.int (f i j)) H
theorem ip_add : PIp X .Add (ipI fun i j => i + j) := by
  intro pins s σ H x y v u Q I r1 r2 h
  obtain ⟨i, j, e1, e2, q⟩ := h
  subst e1; subst e2
  obtain ⟨t, rfl⟩ := r1
  obtain ⟨t', rfl⟩ := r2
  exact iadd_int ⟨.int _, H, I.tok _, ⟨_, rfl⟩, q⟩
end

/-! ### while -/
section
variable {X : Cx} {pos : Pos}
/-- the invariant W with its measure -/
def tWhile (c : TT) (tb : TS) : TS := fun D σ H => ∃ W : Nat → St → Hp → Prop, (∃ m, W m σ H) ∧ ∀ m σ H, W m σ H →
  c σ H fun b H1 => if b = true then ∃ N : St → Hp → Prop, (∀ σ' H', N σ' H' → ∃ m', m' < m ∧ W m' σ' H') ∧ tb { D with nx := N, ct := N, bk := D.nx } σ H1 else D.nx σ H1
theorem ps_while {c : Expr} {body : List Stmt} {tc : TT} {tb : TS} (hp : PassesOwn (model X.prog X.w) X.A X.env X.xe) (hc : PT X c tc) (hb : PSs X body tb) : PS X (.While c body [] pos) (tWhile tc tb) := by
  intro pins s σ H D I h
  obtain ⟨W, ⟨m0, w0⟩, turn⟩ := h
  refine wpAny_While (codeAny_whileLoop (fun n s' => ∃ σ' H', Inv X pins σ' H' s' ∧ W n σ' H') ?_ m0 ⟨σ, H, I, w0⟩)
  rintro n s1 ⟨σ1, H1, I1, w1⟩
  refine wpAny_passesOwn hp (thn (hc pins s1 σ1 H1 _ I1 (turn n σ1 H1 w1)) fun b s2 ⟨H2, I2, q2⟩ => ?_)
  cases b with
  | true =>
    obtain ⟨N, hN, q2⟩ := q2
    rw [if_pos rfl]
    refine wpAny_passesOwn hp (thn (hb pins s2 σ1 H2 _ I2 q2) fun f s3 q3 => ?_)
    cases f with
    | next =>
      obtain ⟨σ3, H3, I3, n3⟩ := q3
      obtain ⟨m', hm, w3⟩ := hN σ3 H3 n3
      exact ⟨m', hm, σ3, H3, I3, w3⟩
    | cont =>
      obtain ⟨σ3, H3, I3, n3⟩ := q3
      obtain ⟨m', hm, w3⟩ := hN σ3 H3 n3
      exact ⟨m', hm, σ3, H3, I3, w3⟩
    | brk => exact q3
    | ret v => exact q3
  | false =>
    rw [if_neg Bool.false_ne_true]
    exact wpAny_execs_nil ⟨σ1, H2, I2, q2⟩
end

/-! ### what a loop or a comprehension walks -/
/-- at turn i: it yields x (the heap may grow), or it stops -/
structure It where
  go : Nat → Hp → Prop
  yld : Nat → Hp → V → Hp → Prop
  stop : Nat → Hp → Prop
/-- the iterator's own objects may turn: they are not the frame's, not pinned, younger than the entry (or a comprehension's own) -/
def FpOk (X : Cx) (pins : List (Addr × Obj)) (H : Hp) (b : Addr) : Prop :=
  H b = none ∧ b ≠ X.env.locals ∧ b ∉ X.fs ∧ (b ∈ X.ex ∨ X.s₀.heap.objs.size ≤ b) ∧ (∀ x c, X.env.cells.lookup x = some c → c ≠ b) ∧ ∀ p ∈ X.pn ++ pins, p.1 ≠ b
theorem Inv.fpOk {X : Cx} {pins : List (Addr × Obj)} {σ : St} {H H' : Hp} {s : Shared} {b : Addr} (I : Inv X pins σ H s) (hb : s.heap.objs.size ≤ b) (hn : H' b = none) : FpOk X pins H' b := by
  refine ⟨hn, Nat.ne_of_gt (Nat.lt_of_lt_of_le I.lt hb), I.nofs hb, .inr (Nat.le_trans I.sz hb), fun x c e z => ?_, fun p hp z => ?_⟩
  · obtain ⟨v, q⟩ := I.cell x c e
    exact absurd (Nat.lt_of_lt_of_le q.lt (by rw [z]; exact hb)) (Nat.lt_irrefl _)
  · exact absurd (Nat.lt_of_lt_of_le (Heap.lt_size (I.pin p hp).1) (by rw [z]; exact hb)) (Nat.lt_irrefl _)
structure Turn (P : Program) (w : World) (K : PySem.W.Frag) (tg : Expr) (J : It) (fp : List Addr) (it : Addr) (tn : Nat → Heap → Prop) : Prop where
  mem : it ∈ fp
  obj : ∀ i h, tn i h → ∀ b ∈ fp, ∃ o, h.get? b = some o ∧ ∀ v, o.data ≠ .cell v
  keep : ∀ i h h', tn i h → (∀ b ∈ fp, ∀ o, h.get? b = some o → h'.get? b = some o) → tn i h'
  item : ∀ (X : Cx), X.prog = P → X.w = w → X.K = K → X.calm = true → ∀ (i : Nat) (pins : List (Addr × Obj)) (s : Shared) (σ : St) (H : Hp) (E : Value → Shared → Prop), Inv X pins σ H s → (∀ b ∈ fp, FpOk X pins H b) → tn i s.heap → J.go i H →
    wpAny (model P w) X.A (pyNext (.ref it)) (fun r s1 => ∃ u, r = some u ∧
      wpAny (model P w) X.A (letOwnedTupleGo tg (.ref it) u) (fun _ s2 => ∃ x H', Inv X pins σ H' s2 ∧ RelV x u ∧ J.yld i H x H' ∧ tn (i + 1) s2.heap ∧ ∀ b ∈ fp, H' b = none) E s1) E s
  done : ∀ (X : Cx), X.prog = P → X.w = w → X.K = K → X.calm = true → ∀ (i : Nat) (pins : List (Addr × Obj)) (s : Shared) (σ : St) (H : Hp) (E : Value → Shared → Prop), Inv X pins σ H s → (∀ b ∈ fp, FpOk X pins H b) → tn i s.heap → J.stop i H →
    wpAny (model P w) X.A (pyNext (.ref it)) (fun r s1 => r = none ∧ Inv X pins σ H s1) E s
  self : ∀ (A : Around) (i : Nat) (s : Shared) (Q : Value → Shared → Prop) (E : Value → Shared → Prop), tn i s.heap → Q (.ref it) s → wpAny (model P w) A (pyIter (.ref it)) Q E s
abbrev TI := St → Hp → (It → Hp → Prop) → Prop
/-- an iterator has come -/
def PIE (X : Cx) (pins : List (Addr × Obj)) (σ : St) (tg : Expr) (R : It → Hp → Prop) (itv : Value) (s2 : Shared) : Prop :=
  ∃ (it : Addr) (fp : List Addr) (tn : Nat → Heap → Prop) (J : It) (H' : Hp), itv = .ref it ∧ Inv X pins σ H' s2 ∧ Turn X.prog X.w X.K tg J fp it tn ∧ tn 0 s2.heap ∧ (∀ b ∈ fp, FpOk X pins H' b) ∧ R J H'
def PI (X : Cx) (tg iter : Expr) (wi : TI) : Prop :=
  ∀ (pins : List (Addr × Obj)) (s : Shared) (σ : St) (H : Hp) (R : It → Hp → Prop), Inv X pins σ H s → wi σ H R →
    wpAny (model X.prog X.w) X.A (eval iter X.env) (fun v s1 => wpAny (model X.prog X.w) X.A (pyIter v) (PIE X pins σ tg R) X.xe s1) X.xe s

/-- the step ahead of the store is nothing for an iterator that keeps no tuple -/
theorem go_of {M : Model} {A : Around} {E : Value → Shared → Prop} {s : Shared} {tg : Expr} {it : Addr} {u : Value} {o : Obj} {n : String} {vs : Array Value} {Q : Unit → Shared → Prop} (ho : s.heap.get? it = some o) (hc : o.cls = .type n) (hd : o.data = .fields vs)
    (hn : ["enumerate", "zip", "dict_itemiterator", "dict_reverseitemiterator", "odict_iterator", "itertools.zip_longest", "itertools.pairwise"].contains n = false) (hQ : Q () s) : wpAny M A (letOwnedTupleGo tg (.ref it) u) Q E s := by
  unfold letOwnedTupleGo
  cases tg <;> first
    | exact wpAny_pure hQ
    | (cases u <;> first
        | exact wpAny_pure hQ
        | (refine wpAny_bind (wpAny_load ho ?_)
           rw [hc, hd]
           show wpAny M A (if (["enumerate", "zip", "dict_itemiterator", "dict_reverseitemiterator", "odict_iterator", "itertools.zip_longest", "itertools.pairwise"].contains n && vs[0]? == some (rawInt _)) = true then _ else _) Q E s
           rw [if_neg (by intro h; rw [hn, Bool.false_and] at h; cases h)]
           exact wpAny_pure hQ))

/-- the list at a, as it stands at each turn (a loop may append to it) -/
def Itl (K : PySem.W.Frag) (a : Addr) : It :=
  ⟨fun i H => ∃ xs x, SqL K H a xs ∧ xs[i]? = some x, fun i H x H' => H' = H ∧ ∀ xs, SqL K H a xs → xs[i]? = some x, fun i H => ∃ xs, SqL K H a xs ∧ xs.length ≤ i⟩
/-- lo, lo + 1, .. (n of them) -/
def Itr (lo : Int) (n : Nat) : It := ⟨fun i _ => i < n, fun i H x H' => H' = H ∧ x = .int (lo + i), fun i _ => n ≤ i⟩
theorem turn_list {P : Program} {w : World} {K : PySem.W.Frag} {tg : Expr} (a it : Addr) : Turn P w K tg (Itl K a) [it] it (fun i h => h.IsListIter it a i) where
  mem := by simp
  obj := fun i h st b hb => by
    have e : b = it := by simpa using hb
    subst e
    obtain ⟨o, e, c, d⟩ := st
    exact ⟨o, e, fun v z => by rw [d] at z; cases z⟩
  keep := fun i h h' st k => st.at fun o e => k it (by simp) o e
  item := by
    intro X hP hw hK hc i pins s σ H E I hf st hg
    subst hP hw hK
    obtain ⟨xs, x, hq, hx⟩ := hg
    obtain ⟨its, rv, p, hz⟩ := I.list hq
    obtain ⟨u, hu, ru⟩ := rv.get hx
    obtain ⟨f0, f1, f2, f3, f4, f5⟩ := hf it (by simp)
    refine wpAny_pyNext_list_item st p.isList (x := u) (by simpa using hu) fun h' st' sb => ?_
    have I1 : Inv X pins σ H { s with heap := h' } := I.turned (t' := s.toks) (fun b o hb e => (sb.2 b hb).trans e) f0 f1 f3 f4 f5
    obtain ⟨o, e, c, d⟩ := id st'
    exact ⟨u, rfl, go_of (s := { s with heap := h' }) e c d (by decide) ⟨x, H, I1, ru, ⟨rfl, fun ys hy => by rw [I.list_inj hy hq]; exact hx⟩, st', fun b hb => (hf b hb).1⟩⟩
  done := by
    intro X hP hw hK hc i pins s σ H E I hf st hg
    subst hP hw hK
    obtain ⟨xs, hq, hx⟩ := hg
    obtain ⟨its, rv, p, hz⟩ := I.list hq
    obtain ⟨f0, f1, f2, f3, f4, f5⟩ := hf it (by simp)
    have hl := rv.length
    exact wpAny_pyNext_list_end (I.ok.hd hc) st p.isList (by simp; (first | lia | omega)) fun h' eb => ⟨rfl, I.turned (t' := s.toks) (fun b o hb e => eb b o hb e) f0 f1 f3 f4 f5⟩
  self := fun _ _ _ _ _ st h => wpAny_pyIter_listiter st h
theorem turn_range {P : Program} {w : World} {K : PySem.W.Frag} {tg : Expr} (it : Addr) (lo : Int) (n : Nat) : Turn P w K tg (Itr lo n) [it] it (fun i h => IsRangeIter h it (lo + (i : Nat) * 1) ((n : Int) - (i : Nat)) 1) where
  mem := by simp
  obj := fun i h st b hb => by
    have e : b = it := by simpa using hb
    subst e
    exact ⟨_, st, fun v z => by
      have z' : Data.fields _ = Data.cell v := z
      cases z'⟩
  keep := fun i h h' st k => k it (by simp) _ st
  item := by
    intro X hP hw hK hc i pins s σ H E I hf st hg
    subst hP hw hK
    obtain ⟨f0, f1, f2, f3, f4, f5⟩ := hf it (by simp)
    have W := Walks.range (prog := X.prog) (w := X.w) (I.ok.hd hc) it lo 1 n
    refine W.item i s _ _ hg st fun v h' tk hv st' kk => ?_
    obtain ⟨t, rfl⟩ := hv
    have I1 : Inv X pins σ H { s with heap := h', toks := tk } := I.turned (fun b o hb e => kk b o (by simpa using hb) e) f0 f1 f3 f4 f5
    refine ⟨_, rfl, go_of (s := { s with heap := h', toks := tk }) (n := "range_iterator") st' rfl rfl (by decide) ⟨.int (lo + i), H, I1, ⟨t, ?_⟩, ⟨rfl, rfl⟩, st', fun b hb => (hf b hb).1⟩⟩
    rw [Int.mul_one]
  done := by
    intro X hP hw hK hc i pins s σ H E I hf st hg
    subst hP hw hK
    obtain ⟨f0, f1, f2, f3, f4, f5⟩ := hf it (by simp)
    exact wpAny_pyNext_range_end (I.ok.hd hc) st (by have : n ≤ i := hg; (first | lia | omega)) fun h' eb => ⟨rfl, I.turned (t' := s.toks) (fun b o hb e => eb b o hb e) f0 f1 f3 f4 f5⟩
  self := fun _ _ _ _ _ st h => wpAny_pyIter_rangeiter st h
end L2

namespace L2
open PySem PySem.Spec PyProof.Rows
section
variable {X : Cx} {tg : Expr}
def iList (K : PySem.W.Frag) (tl : TE) : TI := fun σ H R => tl σ H fun x H1 => ∃ a, x = .ref a ∧ (∃ xs, SqL K H1 a xs) ∧ R (Itl K a) H1
theorem pi_list {l : Expr} {tl : TE} (hl : PE X l tl) : PI X tg l (iList X.K tl) := by
  intro pins s σ H R I h
  refine thn (hl pins s σ H _ I h) fun v s1 ⟨x, H1, I1, r1, q1⟩ => ?_
  obtain ⟨a, e, ⟨xs, hq⟩, q⟩ := q1
  subst e
  cases r1
  obtain ⟨its, rv, p, hz⟩ := I1.list hq
  refine wpAny_pyIter_list p.isList ?_
  refine ⟨s1.heap.objs.size, [s1.heap.objs.size], _, _, H1, rfl, I1.kept (t' := s1.toks) fun b o e => Heap.get?_push_of_some _ e, turn_list a _, ⟨_, Heap.get?_push_size _ rfl, rfl, rfl⟩, fun b hb => ?_, q⟩
  have e : b = s1.heap.objs.size := by simpa using hb
  subst e
  exact I1.fpOk (Nat.le_refl _) (I1.hok.fresh (Nat.le_refl _))
/-- a range object just made, walked -/
theorem range_it {pins : List (Addr × Obj)} {σ : St} {H : Hp} {s : Shared} {R : It → Hp → Prop} {E : Value → Shared → Prop} {lo hi : Int} {t u v : Tok} {tk : Nat} (I : Inv X pins σ H s) (h1 : -(2 ^ 62) ≤ lo) (h2 : lo < 2 ^ 62) (h3 : -(2 ^ 62) ≤ hi) (h4 : hi < 2 ^ 62)
    (q : R (Itr lo (hi - lo).toNat) H) : wpAny (model X.prog X.w) X.A (pyIter (.ref s.heap.objs.size)) (PIE X pins σ tg R) E { s with heap := s.heap.push { cls := .type "range", data := .fields #[.int lo t, .int hi u, .int 1 v] }, toks := tk } := by
  refine wpAny_pyIter_range (IsRange.new ..) (small_one h1 h2 h3 h4) ?_
  have I1 : Inv X pins σ H { s with heap := s.heap.push { cls := .type "range", data := .fields #[.int lo t, .int hi u, .int 1 v] }, toks := tk } := I.kept fun b o e => Heap.get?_push_of_some _ e
  refine ⟨(s.heap.push { cls := .type "range", data := .fields #[.int lo t, .int hi u, .int 1 v] }).objs.size, [(s.heap.push { cls := .type "range", data := .fields #[.int lo t, .int hi u, .int 1 v] }).objs.size], _, _, H, rfl,
    I1.kept (t' := tk) fun b o e => Heap.get?_push_of_some _ e, turn_range _ lo (hi - lo).toNat, ?_, fun b hb => ?_, q⟩
  · have e1 : lo + ((0 : Nat) : Int) * 1 = lo := by simp
    have e2 : (((hi - lo).toNat : Nat) : Int) - ((0 : Nat) : Int) = Builtin.Range.rangeSize lo hi 1 := by rw [rangeSize_one]; split <;> (first | lia | omega)
    show IsRangeIter _ _ (lo + ((0 : Nat) : Int) * 1) ((((hi - lo).toNat : Nat) : Int) - ((0 : Nat) : Int)) 1
    rw [e1, e2]
    exact Heap.get?_push_size _ rfl
  · have e : b = (s.heap.push { cls := .type "range", data := .fields #[.int lo t, .int hi u, .int 1 v] }).objs.size := by simpa using hb
    subst e
    exact I1.fpOk (Nat.le_refl _) (I1.hok.fresh (Nat.le_refl _))
def iRng1 (ta : TA) : TI := fun σ H R => ta σ H fun vs H1 => ∃ j : Int, vs = [.int j] ∧ -(2 ^ 62) ≤ j ∧ j < 2 ^ 62 ∧ R (Itr 0 j.toNat) H1
theorem pi_range1 {a : Expr} {ta : TA} {p pos : Pos} (hg : Gl X "range") (hm : X.mg "range" = none) (ha : PA X [a] ta) (hs : starEach [a] X.env = [(false, eval a X.env)] := by rfl) : PI X tg (.Call (.Name "range" p) [a] [] pos) (iRng1 ta) := by
  intro pins s σ H R I h
  refine Call_ (ld_blt I hg hm boot_range (PyProof.Rows.callWith_type1 (thn (ha pos pins s σ H _ I h) fun us s1 ⟨vs, H1, I1, r1, q1⟩ => ?_) hs rfl))
  obtain ⟨j, e, q1, q2, q⟩ := q1
  subst e
  cases r1 with
  | cons r rr =>
    cases rr
    obtain ⟨t, rfl⟩ := r
    exact call_range_1 (range_it I1 (by (first | lia | omega)) (by (first | lia | omega)) q1 q2 (by simpa using q))

/-! ### for -/
/-- W: the invariant by the turn and a measure; N: what the body is to reach -/
def tFor (wi : TI) (g : TG) (tb : TS) : TS := fun D σ H => wi σ H fun J H1 => ∃ W : Nat → Nat → St → Hp → Prop, (∃ m, W 0 m σ H1) ∧ ∀ i m σ H, W i m σ H →
  (J.stop i H ∧ D.nx σ H) ∨ (J.go i H ∧ ∃ N : St → Hp → Prop, (∀ σ' H', N σ' H' → ∃ m', m' < m ∧ W (i + 1) m' σ' H') ∧ ∀ x H', J.yld i H x H' → g x σ H' fun σ2 H2 => tb { D with nx := N, ct := N, bk := D.nx } σ2 H2)
/-- the records at fp as they stand -/
def pinsAt (fp : List Addr) (h : Heap) : List (Addr × Obj) := fp.filterMap fun b => (h.get? b).map fun o => (b, o)
theorem mem_pinsAt {fp : List Addr} {h : Heap} {b : Addr} {o : Obj} (hb : b ∈ fp) (e : h.get? b = some o) : (b, o) ∈ pinsAt fp h := List.mem_filterMap.mpr ⟨b, hb, by rw [e]; rfl⟩
theorem of_pinsAt {fp : List Addr} {h : Heap} {p : Addr × Obj} (hp : p ∈ pinsAt fp h) : p.1 ∈ fp ∧ h.get? p.1 = some p.2 := by
  obtain ⟨b, hb, e⟩ := List.mem_filterMap.mp hp
  cases q : h.get? b with
  | none => rw [q] at e; cases e
  | some o =>
    rw [q] at e
    have e' : (b, o) = p := Option.some.inj e
    subst e'
    exact ⟨hb, q⟩
theorem Inv.pinned {pins : List (Addr × Obj)} {σ : St} {H : Hp} {s : Shared} {fp : List Addr} (I : Inv X pins σ H s) (hf : ∀ b ∈ fp, FpOk X pins H b) (ho : ∀ b ∈ fp, ∃ o, s.heap.get? b = some o ∧ ∀ v, o.data ≠ .cell v) : Inv X (pins ++ pinsAt fp s.heap) σ H s :=
  I.pins_of fun p hp => (List.mem_append.mp hp).elim (fun z => I.pin p (List.mem_append_right _ z)) fun z => by
    obtain ⟨hb, e⟩ := of_pinsAt z
    obtain ⟨f0, f1, f2, _⟩ := hf p.1 hb
    obtain ⟨o, e', d⟩ := ho p.1 hb
    rw [e] at e'; cases e'
    exact ⟨e, f0, f1, f2, d⟩
theorem Inv.unpinned {pins pl : List (Addr × Obj)} {σ : St} {H : Hp} {s : Shared} (I : Inv X (pins ++ pl) σ H s) : Inv X pins σ H s := I.pins_of fun p hp => I.pin p (List.mem_append_right _ (List.mem_append_left _ hp))
theorem ps_for {iter : Expr} {body : List Stmt} {wi : TI} {g : TG} {tb : TS} {pos : Pos} (hp : PassesOwn (model X.prog X.w) X.A X.env X.xe) (hc : X.calm = true) (hi : PI X tg iter wi) (hg : PG X tg g) (hb : PSs X body tb)
    (hs : ∀ x, foldedSetIterable iter X.env x = pure x := by intro _; rfl) : PS X (.For tg iter body [] pos) (tFor wi g tb) := by
  intro pins s σ H D I h
  refine wpAny_For (thn (hi pins s σ H _ I h) fun v s1 h1 => thn h1 fun itv s2 h2 => ?_) hs
  obtain ⟨it, fp, tn, J, H2, e, I2, T, st2, f2, W, ⟨m0, w0⟩, turn⟩ := h2
  subst e
  -- what stays true of the iterator's objects through the loop
  have stat : ∀ {H' : Hp}, (∀ b ∈ fp, H' b = none) → ∀ b ∈ fp, FpOk X pins H' b := fun hn b hb => ⟨hn b hb, (f2 b hb).2⟩
  refine codeAny_forLoop_any (fun n s' => ∃ i σ' H', Inv X pins σ' H' s' ∧ tn i s'.heap ∧ (∀ b ∈ fp, H' b = none) ∧ W i n σ' H') ?_ m0 ⟨0, σ, H2, I2, st2, fun b hb => (f2 b hb).1, w0⟩
  rintro n s3 ⟨i, σ3, H3, I3, st3, fr3, w3⟩
  rcases turn i n σ3 H3 w3 with ⟨stop, qn⟩ | ⟨go, N, hN, step⟩
  · refine wpAny_passesOwn hp (thn (T.done X rfl rfl rfl hc i pins s3 σ3 H3 X.xe I3 (stat fr3) st3 stop) fun r s4 ⟨hr, I4⟩ => ?_)
    subst hr
    exact wpAny_execs_nil ⟨σ3, H3, I4, qn⟩
  · refine wpAny_passesOwn hp (thn (T.item X rfl rfl rfl hc i pins s3 σ3 H3 X.xe I3 (stat fr3) st3 go) fun r s4 ⟨u, hr, h4⟩ => ?_)
    subst hr
    refine wpAny_passesOwn hp (thn h4 fun _ s5 ⟨x, H5, I5, r5, y5, st5, fr5⟩ => ?_)
    have I5' := I5.pinned (stat fr5) (T.obj _ _ st5)
    refine wpAny_passesOwn hp (thn (hg _ s5 σ3 H5 x u _ I5' r5 (step x H5 y5)) fun _ s6 ⟨σ6, H6, I6, q6⟩ => ?_)
    refine wpAny_passesOwn hp (thn (hb _ s6 σ6 H6 _ I6 q6) fun f s7 q7 => ?_)
    have again : ∀ {σ7 : St} {H7 : Hp}, Inv X (pins ++ pinsAt fp s5.heap) σ7 H7 s7 → N σ7 H7 → ∃ m, m < n ∧ ∃ i σ' H', Inv X pins σ' H' s7 ∧ tn i s7.heap ∧ (∀ b ∈ fp, H' b = none) ∧ W i m σ' H' := fun {σ7 H7} I7 n7 => by
      obtain ⟨m', hm, w7⟩ := hN σ7 H7 n7
      refine ⟨m', hm, i + 1, σ7, H7, I7.unpinned, T.keep _ _ _ st5 fun b hb o e => (I7.pin (b, o) (List.mem_append_right _ (List.mem_append_right _ (mem_pinsAt hb e)))).1, fun b hb => ?_, w7⟩
      obtain ⟨o, e, d⟩ := T.obj _ _ st5 b hb
      exact (I7.pin (b, o) (List.mem_append_right _ (List.mem_append_right _ (mem_pinsAt hb e)))).2.1
    cases f with
    | next => obtain ⟨σ7, H7, I7, n7⟩ := q7; exact again I7 n7
    | cont => obtain ⟨σ7, H7, I7, n7⟩ := q7; exact again I7 n7
    | brk => obtain ⟨σ7, H7, I7, q7⟩ := q7; exact ⟨σ7, H7, I7.unpinned, q7⟩
    | ret v => obtain ⟨x7, σ7, H7, I7, r7, q7⟩ := q7; exact ⟨x7, σ7, H7, I7.unpinned, r7, q7⟩
end

/-! ### the forms one uses -/
/-- over a list that the body leaves as it is -/
theorem for_list {K : PySem.W.Frag} {a : Addr} {xs : List V} {g : TG} {tb : TS} {D : Ends} {σ : St} {H : Hp} (Pv : Nat → St → Hp → Prop) (h0 : Pv 0 σ H) (hl : ∀ i σ H, i ≤ xs.length → Pv i σ H → SqL K H a xs)
    (hs : ∀ i x σ H, xs[i]? = some x → Pv i σ H → g x σ H fun σ2 H2 => tb { D with nx := Pv (i + 1), ct := Pv (i + 1), bk := D.nx } σ2 H2) (hd : ∀ σ H, Pv xs.length σ H → D.nx σ H) :
    ∃ W : Nat → Nat → St → Hp → Prop, (∃ m, W 0 m σ H) ∧ ∀ i m σ H, W i m σ H →
      ((Itl K a).stop i H ∧ D.nx σ H) ∨ ((Itl K a).go i H ∧ ∃ N : St → Hp → Prop, (∀ σ' H', N σ' H' → ∃ m', m' < m ∧ W (i + 1) m' σ' H') ∧ ∀ x H', (Itl K a).yld i H x H' → g x σ H' fun σ2 H2 => tb { D with nx := N, ct := N, bk := D.nx } σ2 H2) := by
  refine ⟨fun i m σ H => m = xs.length - i ∧ i ≤ xs.length ∧ Pv i σ H, ⟨xs.length, by simp, Nat.zero_le _, h0⟩, ?_⟩
  rintro i m σ H ⟨rfl, hi, p⟩
  have q := hl i σ H hi p
  by_cases hlt : i < xs.length
  · refine .inr ⟨⟨xs, xs[i], q, by simp [hlt]⟩, Pv (i + 1), fun σ' H' p' => ⟨xs.length - (i + 1), by (first | lia | omega), rfl, hlt, p'⟩, fun x H' y => ?_⟩
    obtain ⟨e, y⟩ := y
    subst e
    exact hs i x σ _ (y xs q) p
  · have e : i = xs.length := by (first | lia | omega)
    subst e
    exact .inl ⟨⟨xs, q, Nat.le_refl _⟩, hd σ H p⟩
theorem for_range {lo : Int} {n : Nat} {g : TG} {tb : TS} {D : Ends} {σ : St} {H : Hp} (Pv : Nat → St → Hp → Prop) (h0 : Pv 0 σ H)
    (hs : ∀ i σ H, i < n → Pv i σ H → g (.int (lo + i)) σ H fun σ2 H2 => tb { D with nx := Pv (i + 1), ct := Pv (i + 1), bk := D.nx } σ2 H2) (hd : ∀ σ H, Pv n σ H → D.nx σ H) :
    ∃ W : Nat → Nat → St → Hp → Prop, (∃ m, W 0 m σ H) ∧ ∀ i m σ H, W i m σ H →
      ((Itr lo n).stop i H ∧ D.nx σ H) ∨ ((Itr lo n).go i H ∧ ∃ N : St → Hp → Prop, (∀ σ' H', N σ' H' → ∃ m', m' < m ∧ W (i + 1) m' σ' H') ∧ ∀ x H', (Itr lo n).yld i H x H' → g x σ H' fun σ2 H2 => tb { D with nx := N, ct := N, bk := D.nx } σ2 H2) := by
  refine ⟨fun i m σ H => m = n - i ∧ i ≤ n ∧ Pv i σ H, ⟨n, by simp, Nat.zero_le _, h0⟩, ?_⟩
  rintro i m σ H ⟨rfl, hi, p⟩
  by_cases hlt : i < n
  · refine .inr ⟨hlt, Pv (i + 1), fun σ' H' p' => ⟨n - (i + 1), by (first | lia | omega), rfl, hlt, p'⟩, fun x H' y => ?_⟩
    obtain ⟨e, y⟩ := y
    subst e y
    exact hs i σ _ hlt p
  · have e : i = n := by (first | lia | omega)
    subst e
    exact .inl ⟨Nat.le_refl _, hd σ H p⟩
end L2

namespace L2
open PySem PySem.Spec PyProof.Rows

abbrev R2 := V → V → Hp → VK → Prop
/-- a two-place operation on values: f is binaryOp op, inplaceOp op or compareOp op -/
def OpR (X : Cx) (f : Value → Value → Sem Value) (r : R2) : Prop :=
  ∀ (pins : List (Addr × Obj)) (s : Shared) (σ : St) (H : Hp) (x y : V) (v u : Value) (Q : VK), Inv X pins σ H s → RelV x v → RelV y u → r x y H Q →
    wpAny (model X.prog X.w) X.A (f v u) (EP X pins σ Q) X.xe s
/-- a one-place operation -/
def UnR (X : Cx) (f : Value → Sem Value) (r : V → Hp → VK → Prop) : Prop :=
  ∀ (pins : List (Addr × Obj)) (s : Shared) (σ : St) (H : Hp) (x : V) (v : Value) (Q : VK), Inv X pins σ H s → RelV x v → r x H Q →
    wpAny (model X.prog X.w) X.A (f v) (EP X pins σ Q) X.xe s
/-- a call of a value that is known (a builtin, a type) with values -/
def CallR (X : Cx) (f : Value) (r : List V → Hp → VK → Prop) : Prop :=
  ∀ (pins : List (Addr × Obj)) (s : Shared) (σ : St) (H : Hp) (xs : List V) (us : List Value) (Q : VK), Inv X pins σ H s → Vals xs us → r xs H Q →
    wpAny (model X.prog X.w) X.A (call f us) (EP X pins σ Q) X.xe s
/-- a value's truth -/
def TruR (X : Cx) (r : V → Hp → (Bool → Hp → Prop) → Prop) : Prop :=
  ∀ (pins : List (Addr × Obj)) (s : Shared) (σ : St) (H : Hp) (x : V) (v : Value) (Q : Bool → Hp → Prop), Inv X pins σ H s → RelV x v → r x H Q →
    wpAny (model X.prog X.w) X.A (truthy v) (TP X pins σ Q) X.xe s

def tOp (r : R2) (ta tb : TE) : TE := fun σ H Q => ta σ H fun x H1 => tb σ H1 fun y H2 => r x y H2 Q
def tUn (r : V → Hp → VK → Prop) (ta : TE) : TE := fun σ H Q => ta σ H fun x H1 => r x H1 Q
/-- ints in, under C, and a value out -/
def rI (C : Int → Int → Prop) (g : Int → Int → V) : R2 := fun x y H Q => ∃ i j, x = .int i ∧ y = .int j ∧ C i j ∧ Q (g i j) H
def rI0 (g : Int → Int → V) : R2 := fun x y H Q => ∃ i j, x = .int i ∧ y = .int j ∧ Q (g i j) H
def rU (g : Int → V) : V → Hp → VK → Prop := fun x H Q => ∃ i, x = .int i ∧ Q (g i) H

section
variable {X : Cx} {a b c : Expr} {ta tb tc : TE} {pos : Pos}

theorem binT (ha : PE X a ta) (hb : PE X b tb) {pins : List (Addr × Obj)} {s : Shared} {σ : St} {H : Hp} {R : V → V → Hp → Prop} (I : Inv X pins σ H s)
    (h : ta σ H fun x H1 => tb σ H1 fun y H2 => R x y H2) {Q : Value → Shared → Prop} {f : Value → Value → Sem Value}
    (hf : ∀ v u s2 x y H2, Inv X pins σ H2 s2 → RelV x v → RelV y u → R x y H2 → wpAny (model X.prog X.w) X.A (f v u) Q X.xe s2) :
    wpAny (model X.prog X.w) X.A (eval a X.env) (fun v s₁ => wpAny (model X.prog X.w) X.A (eval b X.env) (fun u s₂ => wpAny (model X.prog X.w) X.A (f v u) Q X.xe s₂) X.xe s₁) X.xe s := by
  refine thn (ha pins s σ H _ I h) fun v s1 ⟨x, H1, I1, r1, q1⟩ => ?_
  refine thn (hb pins s1 σ H1 _ I1 q1) fun u s2 ⟨y, H2, I2, r2, q2⟩ => ?_
  exact hf v u s2 x y H2 I2 r1 r2 q2

theorem pe_op {op : Operator} {r : R2} (ho : OpR X (binaryOp op) r) (ha : PE X a ta) (hb : PE X b tb) : PE X (.BinOp a op b pos) (tOp r ta tb) := by
  intro pins s σ H Q I h
  exact wpAny_BinOp (binT ha hb I h fun v u s2 x y H2 I2 rx ry q => ho pins s2 σ H2 x y v u Q I2 rx ry q)
theorem pe_un {op : UnaryOp} {r : V → Hp → VK → Prop} (ho : UnR X (unaryOp op) r) (ha : PE X a ta) : PE X (.UnaryOp op a pos) (tUn r ta) := by
  intro pins s σ H Q I h
  exact UnaryOp_ (thn (ha pins s σ H _ I h) fun v s1 ⟨x, H1, I1, r1, q1⟩ => ho pins s1 σ H1 x v Q I1 r1 q1)

/-! ### ints -/
theorem opI {f : Value → Value → Sem Value} {C : Int → Int → Prop} {g : Int → Int → Int}
    (rule : ∀ (i j : Int) (t u : Tok) (s : Shared) (Q : Value → Shared → Prop) (E : Value → Shared → Prop), C i j → Q (.int (g i j) s.toks) { s with toks := s.toks + 1 } → wpAny (model X.prog X.w) X.A (f (.int i t) (.int j u)) Q E s) :
    OpR X f (rI C fun i j => .int (g i j)) := by
  intro pins s σ H x y v u Q I rx ry h
  obtain ⟨i, j, rfl, rfl, hc, q⟩ := h
  obtain ⟨t, rfl⟩ := rx
  obtain ⟨t', rfl⟩ := ry
  exact rule i j t t' s _ _ hc ⟨.int (g i j), H, I.tok _, ⟨_, rfl⟩, q⟩
theorem opI0 {f : Value → Value → Sem Value} {g : Int → Int → Int}
    (rule : ∀ (i j : Int) (t u : Tok) (s : Shared) (Q : Value → Shared → Prop) (E : Value → Shared → Prop), Q (.int (g i j) s.toks) { s with toks := s.toks + 1 } → wpAny (model X.prog X.w) X.A (f (.int i t) (.int j u)) Q E s) :
    OpR X f (rI0 fun i j => .int (g i j)) := by
  intro pins s σ H x y v u Q I rx ry h
  obtain ⟨i, j, rfl, rfl, q⟩ := h
  obtain ⟨t, rfl⟩ := rx
  obtain ⟨t', rfl⟩ := ry
  exact rule i j t t' s _ _ ⟨.int (g i j), H, I.tok _, ⟨_, rfl⟩, q⟩
theorem opB0 {f : Value → Value → Sem Value} {g : Int → Int → Bool}
    (rule : ∀ (i j : Int) (t u : Tok) (s : Shared) (Q : Value → Shared → Prop) (E : Value → Shared → Prop), Q (.bool (g i j)) s → wpAny (model X.prog X.w) X.A (f (.int i t) (.int j u)) Q E s) :
    OpR X f (rI0 fun i j => .bl (g i j)) := by
  intro pins s σ H x y v u Q I rx ry h
  obtain ⟨i, j, rfl, rfl, q⟩ := h
  obtain ⟨t, rfl⟩ := rx
  obtain ⟨t', rfl⟩ := ry
  exact rule i j t t' s _ _ ⟨.bl (g i j), H, I, rfl, q⟩

def CDiv (i j : Int) : Prop := 0 < j ∧ j < 1073741824
def CMul (i j : Int) : Prop := (-(2 ^ 64) < i ∧ i < 2 ^ 64) ∨ (-(2 ^ 64) < j ∧ j < 2 ^ 64)
theorem CMul.ok {i j : Int} (h : CMul i j) : IntMulOk i j := by
  rcases h with ⟨h1, h2⟩ | ⟨h1, h2⟩
  · exact .of_left (intBits_le_64 h1 h2)
  · exact .of_right (intBits_le_64 h1 h2)

theorem op_add : OpR X (binaryOp .Add) (rI0 fun i j => .int (i + j)) := opI0 fun _ _ _ _ _ _ _ q => add_int q
theorem op_sub : OpR X (binaryOp .Sub) (rI0 fun i j => .int (i - j)) := opI0 fun _ _ _ _ _ _ _ q => sub_int q
theorem op_mul : OpR X (binaryOp .Mult) (rI CMul fun i j => .int (i * j)) := opI fun _ _ _ _ _ _ _ hc q => mul_int q hc.ok
/-- // by a positive divisor -/
theorem op_fdiv : OpR X (binaryOp .FloorDiv) (rI CDiv fun i j => .int (i / j)) := opI fun i j _ _ _ _ _ hc q => by
  have h1 : (0 : Int) < j := hc.1
  have h2 : j < 1073741824 := hc.2
  exact floordiv_int (by (first | lia | omega)) (by rw [Int.fdiv_eq_ediv_of_nonneg i (by (first | lia | omega))]; exact q) (.inl (PyProof.noPylong_small (by (first | lia | omega))))
/-- % by a positive divisor of any size -/
theorem op_mod : OpR X (binaryOp .Mod) (rI (fun _ j => 0 < j) fun i j => .int (i % j)) := opI fun i j _ _ _ _ _ hc q => by
  have h1 : (0 : Int) < j := hc
  exact mod_int' (by (first | lia | omega)) (by rw [Int.fmod_eq_emod_of_nonneg i (by (first | lia | omega))]; exact q)

theorem unI {f : Value → Sem Value} {g : Int → Int}
    (rule : ∀ (i : Int) (t : Tok) (s : Shared) (Q : Value → Shared → Prop) (E : Value → Shared → Prop), Q (.int (g i) s.toks) { s with toks := s.toks + 1 } → wpAny (model X.prog X.w) X.A (f (.int i t)) Q E s) :
    UnR X f (rU fun i => .int (g i)) := by
  intro pins s σ H x v Q I rx h
  obtain ⟨i, rfl, q⟩ := h
  obtain ⟨t, rfl⟩ := rx
  exact rule i t s _ _ ⟨.int (g i), H, I.tok _, ⟨_, rfl⟩, q⟩
theorem un_neg : UnR X (unaryOp .USub) (rU fun i => .int (-i)) := unI fun _ _ _ _ _ q => neg_int q

/-! ### bools among ints: n += (a < b) -/
end

/-! ### comparisons -/
/-- the scalars that == tells apart as data does -/
def scal : V → V → Bool
  | .non, .non => true | .non, .int _ => true | .int _, .non => true | .non, .bl _ => true | .bl _, .non => true | .non, .str _ => true | .str _, .non => true
  | .int _, .int _ => true | .bl _, .bl _ => true | .str _, .str _ => true | .byt _, .byt _ => true
  | .int _, .str _ => true | .str _, .int _ => true | .bl _, .str _ => true | .str _, .bl _ => true
  | _, _ => false
def rEq : R2 := fun x y H Q => scal x y = true ∧ Q (.bl (decide (x = y))) H
def rNe : R2 := fun x y H Q => scal x y = true ∧ Q (.bl (!decide (x = y))) H

theorem dec_int {i j : Int} : decide (V.int i = V.int j) = (i == j) := by
  rw [Bool.eq_iff_iff]
  simp
theorem dec_bl {i j : Bool} : decide (V.bl i = V.bl j) = (i == j) := by
  rw [Bool.eq_iff_iff]
  simp
theorem dec_str {i j : Str} : decide (V.str i = V.str j) = (i == j) := by
  rw [Bool.eq_iff_iff]
  simp
theorem dec_byt {i j : Array UInt8} : decide (V.byt i = V.byt j) = (i.toList == j.toList) := by
  rw [Bool.eq_iff_iff]
  cases i
  cases j
  simp

section
variable {X : Cx} {a b c : Expr} {ta tb tc : TE} {pos : Pos}
theorem fin_bl {pins : List (Addr × Obj)} {σ : St} {H : Hp} {s : Shared} {Q : VK} {k k' : Bool} (I : Inv X pins σ H s) (q : Q (.bl k) H) (e : k = k') : EP X pins σ Q (.bool k') s := by
  subst e
  exact ⟨.bl k, H, I, rfl, q⟩
theorem op_eq : OpR X (compareOp .Eq) rEq := by
  intro pins s σ H x y v u Q I rx ry h
  obtain ⟨hs, q⟩ := h
  cases x with
  | non =>
    cases rx
    cases y with
    | non => cases ry; exact PySem.EqNone.eq_none_none (fin_bl I q (by simp))
    | bl j => cases ry; exact PySem.EqNone.eq_none_bool (fin_bl I q (by simp))
    | int j => obtain ⟨t', rfl⟩ := ry; exact PySem.EqNone.eq_none_int (fin_bl I q (by simp))
    | str j => obtain ⟨t', rfl⟩ := ry; exact PySem.EqNone.eq_none_str (fin_bl I q (by simp))
    | _ => exact absurd (show false = true from hs) Bool.false_ne_true
  | bl i =>
    cases rx
    cases y with
    | non => cases ry; exact PySem.EqNone.eq_bool_none (fin_bl I q (by simp))
    | bl j => cases ry; exact eq_bool (fin_bl I q dec_bl)
    | str j => obtain ⟨t', rfl⟩ := ry; exact PySem.EqMixed.eq_bool_str (fin_bl I q (by simp))
    | _ => exact absurd (show false = true from hs) Bool.false_ne_true
  | int i =>
    obtain ⟨t, rfl⟩ := rx
    cases y with
    | non => cases ry; exact PySem.EqNone.eq_int_none (fin_bl I q (by simp))
    | int j => obtain ⟨t', rfl⟩ := ry; exact eq_int (fin_bl I q dec_int)
    | str j => obtain ⟨t', rfl⟩ := ry; exact PySem.EqMixed.eq_int_str (fin_bl I q (by simp))
    | _ => exact absurd (show false = true from hs) Bool.false_ne_true
  | str i =>
    obtain ⟨t, rfl⟩ := rx
    cases y with
    | non => cases ry; exact PySem.EqNone.eq_str_none (fin_bl I q (by simp))
    | bl j => cases ry; exact PySem.EqMixed.eq_str_bool (fin_bl I q (by simp))
    | int j => obtain ⟨t', rfl⟩ := ry; exact PySem.EqMixed.eq_str_int (fin_bl I q (by simp))
    | str j => obtain ⟨t', rfl⟩ := ry; exact eq_str (fin_bl I q dec_str)
    | _ => exact absurd (show false = true from hs) Bool.false_ne_true
  | byt i =>
    obtain ⟨t, rfl⟩ := rx
    cases y with
    | byt j => obtain ⟨t', rfl⟩ := ry; exact PySem.W.eq_bytes (fin_bl I q dec_byt)
    | _ => exact absurd (show false = true from hs) Bool.false_ne_true
  | _ => cases y <;> exact absurd (show false = true from hs) Bool.false_ne_true
theorem op_ne : OpR X (compareOp .NotEq) rNe := by
  intro pins s σ H x y v u Q I rx ry h
  obtain ⟨hs, q⟩ := h
  cases x with
  | non =>
    cases rx
    cases y with
    | non => cases ry; exact PySem.EqNone.ne_none_none (fin_bl I q (by simp))
    | bl j => cases ry; exact PySem.EqNone.ne_none_bool (fin_bl I q (by simp))
    | int j => obtain ⟨t', rfl⟩ := ry; exact PySem.EqNone.ne_none_int (fin_bl I q (by simp))
    | str j => obtain ⟨t', rfl⟩ := ry; exact PySem.EqNone.ne_none_str (fin_bl I q (by simp))
    | _ => exact absurd (show false = true from hs) Bool.false_ne_true
  | bl i =>
    cases rx
    cases y with
    | non => cases ry; exact PySem.EqNone.ne_bool_none (fin_bl I q (by simp))
    | bl j => cases ry; exact ne_bool (fin_bl I q (congrArg not dec_bl))
    | str j => obtain ⟨t', rfl⟩ := ry; exact PySem.EqMixed.ne_bool_str (fin_bl I q (by simp))
    | _ => exact absurd (show false = true from hs) Bool.false_ne_true
  | int i =>
    obtain ⟨t, rfl⟩ := rx
    cases y with
    | non => cases ry; exact PySem.EqNone.ne_int_none (fin_bl I q (by simp))
    | int j => obtain ⟨t', rfl⟩ := ry; exact ne_int (fin_bl I q (congrArg not dec_int))
    | str j => obtain ⟨t', rfl⟩ := ry; exact PySem.EqMixed.ne_int_str (fin_bl I q (by simp))
    | _ => exact absurd (show false = true from hs) Bool.false_ne_true
  | str i =>
    obtain ⟨t, rfl⟩ := rx
    cases y with
    | non => cases ry; exact PySem.EqNone.ne_str_none (fin_bl I q (by simp))
    | bl j => cases ry; exact PySem.EqMixed.ne_str_bool (fin_bl I q (by simp))
    | int j => obtain ⟨t', rfl⟩ := ry; exact PySem.EqMixed.ne_str_int (fin_bl I q (by simp))
    | str j => obtain ⟨t', rfl⟩ := ry; exact ne_str (fin_bl I q (congrArg not dec_str))
    | _ => exact absurd (show false = true from hs) Bool.false_ne_true
  | byt i =>
    obtain ⟨t, rfl⟩ := rx
    cases y with
    | byt j => obtain ⟨t', rfl⟩ := ry; exact PySem.W.ne_bytes (fin_bl I q (congrArg not dec_byt))
    | _ => exact absurd (show false = true from hs) Bool.false_ne_true
  | _ => cases y <;> exact absurd (show false = true from hs) Bool.false_ne_true

theorem op_lt : OpR X (compareOp .Lt) (rI0 fun i j => .bl (decide (i < j))) := opB0 fun _ _ _ _ _ _ _ q => lt_int q
theorem op_gt : OpR X (compareOp .Gt) (rI0 fun i j => .bl (decide (j < i))) := opB0 fun _ _ _ _ _ _ _ q => gt_int q

/-- is None, is not None: the right side a value none -/
theorem op_isN : OpR X (compareOp .Is) (fun x y H Q => y = .non ∧ Q (.bl (decide (x = .non))) H) := by
  intro pins s σ H x y v u Q I rx ry h
  obtain ⟨rfl, q⟩ := h
  cases ry
  refine is_none_gen (fin_bl I q ?_)
  cases x <;> first
    | (cases rx; rfl)
    | (obtain ⟨t, rfl⟩ := rx; rfl)
theorem op_notN : OpR X (compareOp .IsNot) (fun x y H Q => y = .non ∧ Q (.bl (!decide (x = .non))) H) := by
  intro pins s σ H x y v u Q I rx ry h
  obtain ⟨rfl, q⟩ := h
  cases ry
  refine isnot_none_gen (fin_bl I q ?_)
  cases x <;> first
    | (cases rx; rfl)
    | (obtain ⟨t, rfl⟩ := rx; rfl)

theorem nomark (b : Expr) {op : CmpOp} (h : op ≠ .In := by decide) (h2 : op ≠ .NotIn := by decide) : behindInMarks op b = false := by
  have e1 : (op == CmpOp.In) = false := by cases op <;> first | rfl | exact absurd rfl h
  have e2 : (op == CmpOp.NotIn) = false := by cases op <;> first | rfl | exact absurd rfl h2
  cases b <;> simp [behindInMarks, e1, e2]
/-- a comparison as a value; hm: nomark b, or (for in, not in) by with_unfolding_all rfl -/
theorem pe_cmpR {op : CmpOp} {r : R2} (ho : OpR X (compareOp op) r) (ha : PE X a ta) (hb : PE X b tb) (hm : behindInMarks op b = false) : PE X (.Compare a [op] [b] pos) (tOp r ta tb) := by
  intro pins s σ H Q I h
  exact wpAny_Compare1 (binT ha hb I h fun v u s2 x y H2 I2 rx ry q => ho pins s2 σ H2 x y v u Q I2 rx ry q) hm
/-- a reading of a value as a test -/
def tTest (t : TE) : TT := fun σ H Q => t σ H fun x H' => ∃ k, x = .bl k ∧ Q k H'
theorem pt_cmpR {op : CmpOp} {r : R2} (ho : OpR X (compareOp op) r) (ha : PE X a ta) (hb : PE X b tb) (hm : behindInMarks op b = false) : PT X (.Compare a [op] [b] pos) (tTest (tOp r ta tb)) := by
  intro pins s σ H Q I h
  refine wpAny_isTrue_Compare1 (thn (ha pins s σ H _ I h) fun v s1 ⟨x, H1, I1, r1, q1⟩ => thn (hb pins s1 σ H1 _ I1 q1) fun u s2 ⟨y, H2, I2, r2, q2⟩ =>
    thn (ho pins s2 σ H2 x y v u _ I2 r1 r2 q2) fun c s3 ⟨z, H3, I3, r3, k, e, q3⟩ => ?_) hm
  subst e
  cases r3
  exact wpAny_truthy_bool ⟨H3, I3, q3⟩

/-! ### truth -/
/-- a value's truth by the abstract heap -/
def TruV (K : PySem.W.Frag) (x : V) (H : Hp) (k : Bool) : Prop :=
  match x with
  | .non => k = false
  | .bl b => k = b
  | .int i => k = (i != 0)
  | .str y => y.length ≤ sizeLine ∧ k = ((y.length : Int) != 0)
  | .byt y => y.size ≤ sizeLine ∧ k = ((y.size : Int) != 0)
  | .ref p => (∃ xs, SqL K H p xs ∧ k = !xs.isEmpty) ∨ (∃ xs, SqT K H p xs ∧ k = !xs.isEmpty) ∨ ∃ kvs, H p = some (.dK kvs) ∧ k = !kvs.isEmpty
  | _ => False
theorem isEmpty_kv {κ : Type} {kvs : List (κ × V)} {vs : List (κ × Value)} (r : KV kvs vs) : (!vs.isEmpty) = !kvs.isEmpty := by
  cases r <;> rfl
theorem isEmpty_of {xs : List V} {its : List Value} (r : Vals xs its) : (!its.toArray.isEmpty) = !xs.isEmpty := by
  cases r <;> simp
theorem line63 : (sizeLine : Nat) < 2 ^ 63 := by rw [sizeLine_eq]; decide
theorem tru_ok : TruR X (fun x H Q => ∃ k, TruV X.K x H k ∧ Q k H) := by
  intro pins s σ H x v Q I rx h
  obtain ⟨k, e, q⟩ := h
  have hl := line63
  have hs : sizeLine = 16777216 := sizeLine_eq
  cases x with
  | non =>
    cases rx
    have e' : k = false := e
    subst e'
    exact truthy_none ⟨H, I, q⟩
  | bl b =>
    cases rx
    have e' : k = b := e
    subst e'
    exact wpAny_truthy_bool ⟨H, I, q⟩
  | int i =>
    obtain ⟨t, rfl⟩ := rx
    have e' : k = (i != 0) := e
    subst e'
    exact PySem.P.truthy_int ⟨H, I, q⟩
  | str y =>
    obtain ⟨t, rfl⟩ := rx
    obtain ⟨hy, e'⟩ : y.length ≤ sizeLine ∧ k = ((y.length : Int) != 0) := e
    subst e'
    exact PySem.P.truthy_str (by (first | lia | omega)) ⟨H, I.tok _, q⟩
  | byt y =>
    obtain ⟨t, rfl⟩ := rx
    obtain ⟨hy, e'⟩ : y.size ≤ sizeLine ∧ k = ((y.size : Int) != 0) := e
    subst e'
    exact PySem.W.truthy_bytes (by (first | lia | omega)) ⟨H, I.tok _, q⟩
  | ref p =>
    cases rx
    have e' : (∃ xs, SqL X.K H p xs ∧ k = !xs.isEmpty) ∨ (∃ xs, SqT X.K H p xs ∧ k = !xs.isEmpty) ∨ ∃ kvs, H p = some (.dK kvs) ∧ k = !kvs.isEmpty := e
    rcases e' with ⟨xs, hx, e'⟩ | ⟨xs, hx, e'⟩ | ⟨kvs, hx, e'⟩
    · subst e'
      obtain ⟨its, r, pl, hz⟩ := I.list hx
      have hlen := r.length
      exact wpAny_truthy_list pl.isList (by simp only [List.size_toArray]; (first | lia | omega)) ⟨H, I.tok _, by rw [isEmpty_of r]; exact q⟩
    · subst e'
      obtain ⟨its, r, pl, hz⟩ := I.tuple hx
      have hlen := r.length
      exact truthy_tuple pl (by simp only [List.size_toArray]; (first | lia | omega)) ⟨H, I.tok _, by rw [isEmpty_of r]; exact q⟩
    · subst e'
      obtain ⟨hz, hS, vs, r, m⟩ : kvs.length ≤ sizeLine ∧ (p == sysModules) = false ∧ ∃ vs, KV kvs vs ∧ s.heap.DictOf (mixKind X.prog X.w) p vs := I.hok p _ hx
      have hlen : kvs.length = vs.length := Paired.length r
      exact wpAny_truthy_dict hS m (by (first | lia | omega)) ⟨H, I.tok _, by rw [isEmpty_kv r]; exact q⟩
  | _ => exact (show False from e).elim
/-- any expression whose test is its value's truth (a name, a call, a subscript, a field ..: he by fun _ => rfl) -/
theorem pt_truth (ha : PE X a ta) (he : ∀ whole, isTrue a X.env whole = (do let v ← whole; standAt a.pos; holding [v] (truthy v))) :
    PT X a (fun σ H Q => ta σ H fun x H' => ∃ k, TruV X.K x H' k ∧ Q k H') := by
  intro pins s σ H Q I h
  exact isTrue_plain (thn (ha pins s σ H _ I h) fun v s1 ⟨x, H1, I1, r1, q1⟩ => tru_ok pins s1 σ H1 x v Q I1 r1 q1) (he _)

/-! ### strs and bytes -/

/-! ### scalar builtins, by CallR -/
theorem vals1 {x : V} {us : List Value} (r : Vals [x] us) : ∃ u, us = [u] ∧ RelV x u := by
  cases r with
  | cons r1 r2 => cases r2; exact ⟨_, rfl, r1⟩
theorem vals2 {x y : V} {us : List Value} (r : Vals [x, y] us) : ∃ u w', us = [u, w'] ∧ RelV x u ∧ RelV y w' := by
  cases r with
  | cons r1 r2 =>
    cases r2 with
    | cons r3 r4 => cases r4; exact ⟨_, _, rfl, r1, r3⟩
theorem call_max2 (hc : X.calm = true) : CallR X (.builtin "max") (fun xs H Q => ∃ i j, xs = [.int i, .int j] ∧ Q (.int (if j > i then j else i)) H) := by
  intro pins s σ H xs us Q I r h
  obtain ⟨i, j, rfl, q⟩ := h
  obtain ⟨u, w', rfl, ⟨t, rfl⟩, ⟨t', rfl⟩⟩ := vals2 r
  refine max_two_ints (I.ok.hd hc) fun h' tk k => ⟨_, H, I.kept k, ?_, q⟩
  by_cases hj : j > i
  · rw [if_pos hj, if_pos hj]; exact ⟨_, rfl⟩
  · rw [if_neg hj, if_neg hj]; exact ⟨_, rfl⟩
theorem call_min2 (hc : X.calm = true) : CallR X (.builtin "min") (fun xs H Q => ∃ i j, xs = [.int i, .int j] ∧ Q (.int (if j < i then j else i)) H) := by
  intro pins s σ H xs us Q I r h
  obtain ⟨i, j, rfl, q⟩ := h
  obtain ⟨u, w', rfl, ⟨t, rfl⟩, ⟨t', rfl⟩⟩ := vals2 r
  refine min_two_ints (I.ok.hd hc) fun h' tk k => ⟨_, H, I.kept k, ?_, q⟩
  by_cases hj : j < i
  · rw [if_pos hj, if_pos hj]; exact ⟨_, rfl⟩
  · rw [if_neg hj, if_neg hj]; exact ⟨_, rfl⟩
theorem call_int1 : CallR X (.type "int") (fun xs H Q => (∃ i, xs = [.int i] ∧ Q (.int i) H) ∨ ∃ k, xs = [.bl k] ∧ Q (.int (if k then 1 else 0)) H) := by
  intro pins s σ H xs us Q I r h
  rcases h with ⟨i, rfl, q⟩ | ⟨k, rfl, q⟩
  · obtain ⟨u, rfl, t, rfl⟩ := vals1 r
    exact call_int_int ⟨.int i, H, I, ⟨_, rfl⟩, q⟩
  · obtain ⟨u, rfl, r1⟩ := vals1 r
    cases r1
    exact call_int_bool ⟨.int (if k then 1 else 0), H, I.tok _, ⟨_, rfl⟩, q⟩
end
end L2

namespace L2
open PySem PySem.Spec PyProof.Rows

/-! ### an instance, its attributes a map -/
structure ObjM (h : Heap) (x dx C : Addr) (mA : Str → Option Value) : Prop where
  obj : h.get? x = some (PySem.W.instObj C dx)
  ns : h.Ns1 dx mA
  ne : dx ≠ x

theorem lookIn_ns {h : Heap} {dx : Addr} {mA : Str → Option Value} (n : h.Ns1 dx mA) : ∃ od, h.get? dx = some od ∧ ∀ name, PySem.W.lookIn name od = some (mA name) := by
  obtain ⟨o, es, ep, ho, hd, hk, _, hm⟩ := n
  refine ⟨o, ho, fun name => ?_⟩
  have e := hm name
  unfold nsFind findBy at e
  rw [← Array.find?_toList] at e
  unfold PySem.W.lookIn
  rw [hd]
  dsimp only
  split
  · rename_i y q
    rw [q] at e
    exact congrArg some e
  · rename_i q
    rw [q] at e
    have a : es.toList.any (·.refKey) = false := by
      rw [List.any_eq_false]
      intro y hy
      obtain ⟨z, t, hkey⟩ := hk y (Array.mem_toList_iff.mp hy)
      simp [DictEntry.refKey, hkey]
    have a' : ¬ es.toList.any (·.refKey) = true := by rw [a]; exact Bool.false_ne_true
    rw [if_neg a']
    exact congrArg some e

theorem ObjM.look {h : Heap} {x dx C : Addr} {mA : Str → Option Value} (I : ObjM h x dx C mA) : ∃ od, PySem.W.InstAt h x (PySem.W.instObj C dx) C (some od) ∧ ∀ name, PySem.W.lookIn name od = some (mA name) :=
  let ⟨od, ho, hl⟩ := lookIn_ns I.ns
  ⟨od, ⟨I.obj, rfl, rfl, ho⟩, hl⟩

section
variable {prog : Program} {w : World} {A : Around} {E : Value → Shared → Prop} {s : Shared} {K : PySem.W.Frag} {x dx C f : Addr} {mA : Str → Option Value} {name : Str} {v : Value}

theorem get_map {expr : Bool} {Q : Value → Shared → Prop} (X : K.In s.heap) (I : ObjM s.heap x dx C mA) (hg : PySem.W.plainGet K C name = true) (hh : PySem.W.hasDictIn K C = true)
    (ha : PySem.W.findIn K (.ref C) name = some none) (hv : mA name = some v) (hv' : PySem.W.handedIn v = true) (h : Q v { s with toks := s.toks + 1 }) :
    wpAny (model prog w) A (getAttr (.ref x) name expr) Q E s := by
  obtain ⟨od, J, hl⟩ := I.look
  exact PySem.W.get_value X J (PySem.W.plainGet_of hg).1 (PySem.W.findObj_own hh ha rfl (by rw [hl, hv])) hv' h

theorem get_meth {pl : Sem Bool} {Q : Value × List Value → Shared → Prop} (X : K.In s.heap) (I : ObjM s.heap x dx C mA) (hg : PySem.W.plainGet K C name = true)
    (hf : PySem.W.findIn K (.ref C) name = some (some (.ref f))) (ht : PySem.W.isFn K (.ref f) = true) (hv : mA name = none) (h : Q (.ref f, [.ref x]) s) :
    wpAny (model prog w) A (getMethod (.ref x) name pl) Q E s := by
  obtain ⟨od, J, hl⟩ := I.look
  exact PySem.W.method_fn X J (PySem.W.plainGet_of hg).1 (PySem.W.plainGet_of hg).2 hf (beq_iff_eq.mp ht) (by show (PySem.W.lookIn name od).map (·.isSome) = some false; rw [hl, hv]; rfl) h

theorem set_map {ns : List Str} {Q : Unit → Shared → Prop} (X : K.In s.heap) (I : ObjM s.heap x dx C mA)
    (hs : PySem.W.findIn K (.ref C) "__setattr__" = some (some (.builtin "object.__setattr__"))) (hp : PySem.W.plainOver K C = true) (ht : PySem.W.takerIn K C name = some none) (hh : PySem.W.hasDictIn K C = true)
    (hw : PySem.Within mA ns) (hsz : ns.length ≤ sizeLine)
    (h : ∀ h', ObjM h' x dx C (fun y => if y = name then some v else mA y) → Heap.SameBut dx s.heap h' → Q () { s with heap := h', toks := s.toks + 2 }) :
    wpAny (model prog w) A (setAttr (.ref x) name v) Q E s := by
  obtain ⟨od, J, hl⟩ := I.look
  refine PySem.W.set_plain X J hs (PySem.W.osa_open (s := { s with toks := s.toks + 1 }) (r := none) X J hp ht fun b => ?_)
  obtain ⟨cd, hc, hd'⟩ := PySem.W.any_some hh
  have hx : s.heap.get? x = some ⟨.ref C, some dx, .plain, #[]⟩ := I.obj
  refine wpAny_bind (wpAny_pure (wpAny_bind (wpAny_bind (wpAny_loadPart hx (wpAny_bind (PySem.W.Looks.here (s := { s with toks := s.toks + 1 }) (PySem.W.looks_clsIn X hc) ?_))))))
  rw [hd']
  refine wpAny_pure (a := some dx) (wpAny_bind (wpAny_pure (wpAny_bind ?_)))
  refine wpAny_nsSet1 (s := { s with toks := s.toks + 1 }) I.ns fun h' hn2 hs2 => ?_
  obtain ⟨oD, esD, epD, hoD, hdD, hcD⟩ := hn2.count (PySem.Within.cons name v hw)
  refine wpAny_bind (wpAny_lookBehind hoD (by rw [hdD]; exact pastItsLine_dict (Nat.le_trans hcD (by rw [List.length_cons]; (first | lia | omega)))) ?_)
  exact wpAny_pure (h _ ⟨(hs2.2 _ (Ne.symm I.ne)).trans I.obj, hn2, I.ne⟩ hs2)

/-- C(..): the dict at the heap's end, the instance behind it; then its __init__ -/
theorem make_map {R : Result → Shared → Prop} {vs : List Value} {kw : List (Str × Value)} (X : K.In s.heap) (hm : PySem.W.makesIn K C = true)
    (hi : PySem.W.findIn K (.ref C) "__init__" = some (some (.ref f))) (hf : PySem.W.typeIn K (.ref f) = some (.type "function"))
    (h : codeAny (model prog w) (A.under (.builtin "type.__call__" ⟨.ref C :: vs, kw⟩)) (.call (.ref f) ⟨.ref (s.heap.objs.size + 1) :: vs, kw⟩) (PySem.W.InitBack (s.heap.objs.size + 1) R)
      { s with heap := (s.heap.push PySem.W.emptyDict).push (PySem.W.instObj C s.heap.objs.size) }) :
    codeAny (model prog w) A (.call (.ref C) ⟨vs, kw⟩) R s := by
  obtain ⟨hh, g, d, t, os⟩ := s
  exact PySem.W.make_core (PySem.W.makes_of X hm) (PySem.W.looks_findIn X hi) (fun self => PySem.W.bind_fn X self hf) (.inl rfl) h
end

/-! ### the attributes as a list of pairs -/
def putF (f : Str) (v : V) : List (Str × V) → List (Str × V)
  | [] => [(f, v)]
  | (g, x) :: r => if g = f then (g, v) :: r else (g, x) :: putF f v r
theorem lookup_putF (f g : Str) (v : V) : ∀ fs : List (Str × V), (putF f v fs).lookup g = if g = f then some v else fs.lookup g
  | [] => by
    show List.lookup g [(f, v)] = _
    by_cases h : g = f
    · have hb : (g == f) = true := beq_iff_eq.mpr h
      simp only [List.lookup, hb, if_pos h]
    · have hb : (g == f) = false := beq_eq_false_iff_ne.mpr h
      simp only [List.lookup, hb, if_neg h]
  | (k, x) :: r => by
    have ih := lookup_putF f g v r
    rw [show putF f v ((k, x) :: r) = (if k = f then (k, v) :: r else (k, x) :: putF f v r) from rfl]
    by_cases hk : k = f
    · rw [if_pos hk]
      by_cases h : g = k
      · have hb : (g == k) = true := beq_iff_eq.mpr h
        simp only [List.lookup, hb, if_pos (h.trans hk)]
      · have hb : (g == k) = false := beq_eq_false_iff_ne.mpr h
        simp only [List.lookup, hb, if_neg (fun e : g = f => h (e.trans hk.symm))]
    · rw [if_neg hk]
      by_cases h : g = k
      · have hb : (g == k) = true := beq_iff_eq.mpr h
        simp only [List.lookup, hb, if_neg (fun e : g = f => hk (h.symm.trans e))]
      · have hb : (g == k) = false := beq_eq_false_iff_ne.mpr h
        simp only [List.lookup, hb]
        exact ih
theorem keys_putF (f : Str) (v : V) : ∀ fs : List (Str × V), f ∈ (putF f v fs).map (·.1) ∧ ∀ g, g ∈ fs.map (·.1) → g ∈ (putF f v fs).map (·.1)
  | [] => ⟨by simp [putF], fun g h => by simp at h⟩
  | (k, x) :: r => by
    obtain ⟨i1, i2⟩ := keys_putF f v r
    rw [show putF f v ((k, x) :: r) = (if k = f then (k, v) :: r else (k, x) :: putF f v r) from rfl]
    by_cases hk : k = f
    · rw [if_pos hk]
      subst hk
      exact ⟨by simp, fun g h => by simpa using h⟩
    · rw [if_neg hk]
      refine ⟨?_, fun g h => ?_⟩
      · rw [List.map_cons]
        exact List.mem_cons_of_mem _ i1
      · rw [List.map_cons] at h ⊢
        rcases List.mem_cons.mp h with e | e
        · exact List.mem_cons.mpr (.inl e)
        · exact List.mem_cons_of_mem _ (i2 g e)
theorem length_putF (f : Str) (v : V) : ∀ fs : List (Str × V), (putF f v fs).length ≤ fs.length + 1
  | [] => by simp [putF]
  | (k, x) :: r => by
    have ih := length_putF f v r
    rw [show putF f v ((k, x) :: r) = (if k = f then (k, v) :: r else (k, x) :: putF f v r) from rfl]
    by_cases hk : k = f
    · rw [if_pos hk, List.length_cons, List.length_cons]; (first | lia | omega)
    · rw [if_neg hk, List.length_cons, List.length_cons]; (first | lia | omega)

theorem RelO.some_of {v : V} {o : Option Value} (r : RelO (some v) o) : ∃ u, o = some u ∧ RelV v u := by
  cases o with
  | none => exact (show False from r).elim
  | some u => exact ⟨u, rfl, r⟩
theorem RelO.none_of {o : Option Value} (r : RelO none o) : o = none := by
  cases o with
  | none => rfl
  | some u => exact (show False from r).elim
theorem handed_of {v : V} {u : Value} (r : RelV v u) : PySem.W.handedIn u = true := by
  cases v with
  | non => cases (show u = Value.none from r); rfl
  | bl b => cases (show u = Value.bool b from r); rfl
  | int i => obtain ⟨t, e⟩ := (show ∃ t, u = Value.int i t from r); cases e; rfl
  | str x => obtain ⟨t, e⟩ := (show ∃ t, u = Value.str x t from r); cases e; rfl
  | byt b => obtain ⟨t, e⟩ := (show ∃ t, u = Value.bytes b t from r); cases e; rfl
  | flt b => obtain ⟨t, e⟩ := (show ∃ t, u = Value.float b t from r); cases e; rfl
  | ref a => cases (show u = Value.ref a from r); rfl
  | ty n => cases (show u = Value.type n from r); rfl

section
variable {P : Program} {w : World} {H H' : Hp} {h h' : Heap} {a C dx : Addr} {fs fs' : List (Str × V)}
theorem ins_get (hok : HOk P w H h) (e : H a = some (.ins C dx fs)) : ∃ mA, ObjM h a dx C mA ∧ (∀ f, RelO (fs.lookup f) (mA f)) ∧ PySem.Within mA (fs.map (·.1)) ∧ fs.length ≤ 1000 ∧ H dx = some (.own a) := by
  obtain ⟨d, z, ne, ob, mA, n, r, q⟩ := (show ObjOk P w H h a (.ins C dx fs) from hok a _ e)
  exact ⟨mA, ⟨ob, n, ne⟩, r, q, z, d⟩
end

/-! ### what of the text a class must have -/
structure Cls (K : PySem.W.Frag) (C : Addr) : Prop where
  pg : PySem.W.plainGet K C Str.empty = true
  hd : PySem.W.hasDictIn K C = true
  po : PySem.W.plainOver K C = true
  sa : PySem.W.findIn K (.ref C) "__setattr__" = some (some (.builtin "object.__setattr__"))
theorem Cls.get {K : PySem.W.Frag} {C : Addr} (c : Cls K C) (f : Str) : PySem.W.plainGet K C f = true := c.pg
/-- no class of it has the name -/
def NoAttr (K : PySem.W.Frag) (C : Addr) (f : Str) : Prop := PySem.W.findIn K (.ref C) f = some none
theorem NoAttr.taker {K : PySem.W.Frag} {C : Addr} {f : Str} (n : NoAttr K C f) : PySem.W.takerIn K C f = some none := by
  unfold PySem.W.takerIn
  rw [show PySem.W.findIn K (.ref C) f = some none from n]
  rfl
/-- a method: a plain def of the class or of one above it -/
structure Meth (K : PySem.W.Frag) (C : Addr) (m : Str) (f : Addr) : Prop where
  at_ : PySem.W.findIn K (.ref C) m = some (some (.ref f))
  fn : PySem.W.isFn K (.ref f) = true
  kp : PySem.W.keepIn K (.ref f) = true

section
variable {X : Cx} {pins : List (Addr × Obj)} {σ : St} {H : Hp} {s : Shared} {a C dx : Addr} {fs : List (Str × V)} {f : Str} {v : V} {A : Around} {E : Value → Shared → Prop}

theorem getattr_ok {b : Bool} {Q : Value → Shared → Prop} (I : Inv X pins σ H s) (e : H a = some (.ins C dx fs)) (c : Cls X.K C) (n : NoAttr X.K C f) (l : fs.lookup f = some v)
    (h : ∀ u s', Inv X pins σ H s' → RelV v u → Q u s') : wpAny (model X.prog X.w) A (getAttr (.ref a) f b) Q E s := by
  obtain ⟨mA, O, r, _, _, _⟩ := ins_get I.hok e
  obtain ⟨u, hu, ru⟩ := RelO.some_of (v := v) (o := mA f) (by rw [← l]; exact r f)
  exact get_map I.kIn O (c.get f) c.hd n hu (handed_of ru) (h u _ (I.tok _) ru)

theorem getmeth_ok {m : Str} {g : Addr} {pl : Sem Bool} {Q : Value × List Value → Shared → Prop} (I : Inv X pins σ H s) (e : H a = some (.ins C dx fs)) (c : Cls X.K C) (k : Meth X.K C m g) (l : fs.lookup m = none)
    (h : Q (.ref g, [.ref a]) s) : wpAny (model X.prog X.w) A (getMethod (.ref a) m pl) Q E s := by
  obtain ⟨mA, O, r, _, _, _⟩ := ins_get I.hok e
  have hn : mA m = none := RelO.none_of (by rw [← l]; exact r m)
  exact get_meth I.kIn O (c.get m) k.at_ k.fn hn h

theorem setattr_ok {y : V} {u : Value} {Q : Unit → Shared → Prop} (I : Inv X pins σ H s) (e : H a = some (.ins C dx fs)) (c : Cls X.K C) (n : NoAttr X.K C f) (hl : fs.length < 1000) (ry : RelV y u)
    (h : ∀ s', Inv X pins σ (upd H a (.ins C dx (putF f y fs))) s' → Q () s') : wpAny (model X.prog X.w) A (setAttr (.ref a) f u) Q E s := by
  obtain ⟨mA, O, r, wi, _, ho⟩ := ins_get I.hok e
  have hz : (fs.map (·.1)).length ≤ sizeLine := by rw [List.length_map, sizeLine_eq]; (first | lia | omega)
  refine set_map I.kIn O c.sa c.po n.taker c.hd wi hz fun h' O' sb => h _ ?_
  have hd : ∃ o, h'.get? dx = some o := let ⟨o, _, _, e', _⟩ := O'.ns; ⟨o, e'⟩
  refine I.write (x := a) (e := dx) (by rw [e]; exact True.intro) (.inr ho) (fun b q hb z => (sb.2 b hb).trans z) hd ?_
  refine ⟨by rw [upd_ne O.ne]; exact ho, ?_, O.ne, O'.obj, _, O'.ns, fun g => ?_, fun g hg => ?_⟩
  · have := length_putF f y fs; (first | lia | omega)
  · show RelO ((putF f y fs).lookup g) (if g = f then some u else mA g)
    rw [lookup_putF]
    by_cases q : g = f
    · rw [if_pos q, if_pos q]; exact ry
    · rw [if_neg q, if_neg q]; exact r g
  · by_cases q : g = f
    · rw [q]; exact (keys_putF f y fs).1
    · refine (keys_putF f y fs).2 g (wi g fun z => hg ?_)
      show (if g = f then some u else mA g) = none
      rw [if_neg q]; exact z

/-- a new instance, tracked, without attributes -/
theorem Inv.made (I : Inv X pins σ H s) : Inv X pins σ (upd (upd H s.heap.objs.size (.own (s.heap.objs.size + 1))) (s.heap.objs.size + 1) (.ins C s.heap.objs.size []))
    { s with heap := (s.heap.push PySem.W.emptyDict).push (PySem.W.instObj C s.heap.objs.size) } := by
  have e1 : (s.heap.push PySem.W.emptyDict).get? s.heap.objs.size = some PySem.W.emptyDict := Heap.get?_push_size s.heap rfl
  have e2 : ((s.heap.push PySem.W.emptyDict).push (PySem.W.instObj C s.heap.objs.size)).get? (s.heap.objs.size + 1) = some (PySem.W.instObj C s.heap.objs.size) := by
    have := Heap.get?_push_size (s.heap.push PySem.W.emptyDict) (o := PySem.W.instObj C s.heap.objs.size) rfl
    rwa [Heap.size_push] at this
  have e3 : (s.heap.push PySem.W.emptyDict).Ns s.heap.objs.size (fun _ => none) := ⟨PySem.W.emptyDict, #[], _, e1, rfl, (fun e he => absurd he (by simp)), fun _ => rfl⟩
  have I1 := I.laid (a := s.heap.objs.size) (o := .own (s.heap.objs.size + 1)) (h' := s.heap.push PySem.W.emptyDict) (t' := s.toks) (fun b u q => Heap.get?_push_of_some _ q) (Nat.le_refl _) ⟨_, e1⟩
  refine I1.laid (a := s.heap.objs.size + 1) (o := .ins C s.heap.objs.size []) (t' := s.toks) (fun b u q => Heap.get?_push_of_some _ q) (Nat.le_of_eq (Heap.size_push _ _)) ?_
  have ne : s.heap.objs.size ≠ s.heap.objs.size + 1 := Nat.ne_of_lt (Nat.lt_succ_self _)
  refine ⟨by rw [upd_ne ne, upd_same], Nat.zero_le _, ne, e2, fun _ => none, (Heap.Ns1.of_empty e3).at fun o q => Heap.get?_push_of_some _ q, fun _ => True.intro, fun y hy => absurd rfl hy⟩

/-- e.f where nothing but the object is asked: through attributeBase (super) and the last hold -/
theorem attr_of {prog : Program} {w : World} {env : Env} {e : Expr} {f : Str} {pos : Pos} {s : Shared} {Q : Value → Shared → Prop} (hb : attributeBase e f env (eval e env) = eval e env)
    (h : wpAny (model prog w) A (eval e env) (fun o s₁ => wpAny (model prog w) A (getAttr o f true) Q E s₁) E s) : wpAny (model prog w) A (eval (.Attribute e f pos) env) Q E s :=
  Attribute_any_ h (by rw [arm_eval_Attribute, hb])
end

/-! ### readings and rules -/
/-- e.f, an attribute of the instance -/
def tFld (K : PySem.W.Frag) (ta : TE) (f : Str) : TE := fun σ H Q => ta σ H fun x H1 => ∃ a C dx fs v, x = .ref a ∧ H1 a = some (.ins C dx fs) ∧ Cls K C ∧ NoAttr K C f ∧ fs.lookup f = some v ∧ Q v H1
/-- e.f = value -/
def sFld (K : PySem.W.Frag) (ta tv : TE) (f : Str) : TS := fun D σ H => tv σ H fun y H1 => ta σ H1 fun x H2 => ∃ a C dx fs, x = .ref a ∧ H2 a = some (.ins C dx fs) ∧ Cls K C ∧ NoAttr K C f ∧ fs.length < 1000 ∧
  D.nx σ (upd H2 a (.ins C dx (putF f y fs)))

section
variable {X : Cx} {o e value : Expr} {f : Str} {pos pos' tpos : Pos} {ta tv : TE}
theorem pe_fld (he : PE X e ta) (hb : attributeBase e f X.env (eval e X.env) = eval e X.env) : PE X (.Attribute e f pos) (tFld X.K ta f) := by
  intro pins s σ H Q I h
  refine attr_of hb (thn (he pins s σ H _ I h) fun u s1 ⟨x, H1, I1, rx, a, C, dx, fs, v, ex, ea, c, n, l, q⟩ => ?_)
  subst ex
  obtain rfl : u = Value.ref a := rx
  exact getattr_ok I1 ea c n l fun u' s2 I2 ru => ⟨v, H1, I2, ru, q⟩
theorem ps_fld (ha : PE X o ta) (hv : PE X value tv) (hs : swapsWith value (some (.Attribute o f pos')) pos.line X.env = pure false) : PS X (.Assign [.Attribute o f pos'] value pos) (sFld X.K ta tv f) := by
  intro pins s σ H D I h
  refine plainObj_wpAny_Assign_Attribute (thn (hv pins s σ H _ I h) fun u s1 ⟨y, H1, I1, ry, q⟩ => thn (ha pins s1 σ H1 _ I1 q) fun ov s2 ⟨x, H2, I2, rx, a, C, dx, fs, ex, ea, c, n, l, q2⟩ => ?_) hs
  subst ex
  obtain rfl : ov = Value.ref a := rx
  exact setattr_ok I2 ea c n l ry fun s3 I3 => ⟨σ, _, I3, q2⟩

end

/-! ### isinstance -/
section
variable {X : Cx} {pins : List (Addr × Obj)} {σ : St} {H : Hp} {s : Shared} {A : Around} {E : Value → Shared → Prop} {Q : Value → Shared → Prop} {c : Value} {b : Bool}
/-- the type of a value, as the fragment's deciders take it; for an instance its class -/
inductive TyOf (K : PySem.W.Frag) (H : Hp) : V → Value → Prop where
  | non : TyOf K H .non (.type "NoneType")
  | bl (x : Bool) : TyOf K H (.bl x) (.type "bool")
  | int (i : Int) : TyOf K H (.int i) (.type "int")
  | str (x : Str) : TyOf K H (.str x) (.type "str")
  | flt (x : UInt64) : TyOf K H (.flt x) (.type "float")
  | lst {a : Addr} {xs : List V} (e : H a = some (.lst xs)) : TyOf K H (.ref a) (.type "list")
  | frz {a : Addr} {o : Obj} {xs : List V} (e : H a = some (.frz o (.lst xs))) : TyOf K H (.ref a) (.type "list")
  | tup {a : Addr} {xs : List V} (e : H a = some (.tup xs)) : TyOf K H (.ref a) (.type "tuple")
  | dK {a : Addr} {kvs : List (Key × V)} (e : H a = some (.dK kvs)) : TyOf K H (.ref a) (.type "dict")
  | dT {a : Addr} {kvs : List (List Key × V)} (e : H a = some (.dT kvs)) : TyOf K H (.ref a) (.type "dict")
  | ins {a C dx : Addr} {fs : List (Str × V)} (e : H a = some (.ins C dx fs)) (cl : Cls K C) (ha : PySem.W.findIn K (.ref C) "__class__" = some (some (.builtin "object.__class__")))
      (hn : PySem.W.specialIn K (.builtin "object.__class__") "__get__" = some (some (.builtin "getset_descriptor.__get__"))) (htk : PySem.W.takesIn K (.builtin "object.__class__") = some true)
      (hm : PySem.W.mroIn K C (.type "object") = some true) : TyOf K H (.ref a) (.ref C)
/-- isinstance(x, c) for one class c, a built-in or an own one: kitOne's answer -/
theorem isinst_ok {x : V} {u t : Value} (I : Inv X pins σ H s) (rx : RelV x u) (ty : TyOf X.K H x t) (e : PySem.W.kitOne X.K t c = some b) (h : ∀ tk, Q (.bool b) { s with toks := tk }) :
    wpAny (model X.prog X.w) A (call (.builtin "isinstance") [u, c]) Q E s := by
  cases ty with
  | non => cases (show u = Value.none from rx); exact PySem.W.kia_one PySem.W.kitx_none I.kIn True.intro e (fun z => nomatch z) h
  | bl y => cases (show u = Value.bool y from rx); exact PySem.W.kia_one PySem.W.kitx_bool I.kIn True.intro e (fun z => nomatch z) h
  | int i => obtain ⟨t, q⟩ := (show ∃ t, u = Value.int i t from rx); cases q; exact PySem.W.kia_one PySem.W.kitx_int I.kIn True.intro e (fun z => nomatch z) h
  | str y => obtain ⟨t, q⟩ := (show ∃ t, u = Value.str y t from rx); cases q; exact PySem.W.kia_one PySem.W.kitx_str I.kIn True.intro e (fun z => nomatch z) h
  | flt y => obtain ⟨t, q⟩ := (show ∃ t, u = Value.float y t from rx); cases q; exact PySem.W.kia_one PySem.W.kitx_float I.kIn True.intro e (fun z => nomatch z) h
  | @lst a xs ea =>
    cases (show u = Value.ref a from rx)
    obtain ⟨_, _, n, _, h1⟩ := (show ObjOk X.prog X.w H s.heap a (.lst xs) from I.hok a _ ea)
    exact PySem.W.kia_one PySem.W.kitx_list I.kIn ⟨_, h1, rfl⟩ e (fun z => nomatch z) h
  | @frz a ob xs ea =>
    cases (show u = Value.ref a from rx)
    obtain ⟨_, _, _, n, _, h1⟩ := (show ObjOk X.prog X.w H s.heap a (.frz ob (.lst xs)) from I.hok a _ ea)
    exact PySem.W.kia_one PySem.W.kitx_list I.kIn ⟨_, h1, rfl⟩ e (fun z => nomatch z) h
  | @tup a xs ea =>
    cases (show u = Value.ref a from rx)
    obtain ⟨_, _, _, p⟩ := (show ObjOk X.prog X.w H s.heap a (.tup xs) from I.hok a _ ea)
    obtain ⟨o, h1, h2, _⟩ := p
    exact PySem.W.kia_one PySem.W.kitx_tuple I.kIn ⟨o, h1, h2⟩ e (fun z => nomatch z) h
  | @dK a kvs ea =>
    cases (show u = Value.ref a from rx)
    obtain ⟨_, _, vs, _, p⟩ := (show ObjOk X.prog X.w H s.heap a (.dK kvs) from I.hok a _ ea)
    obtain ⟨o, es, ep, h1, h2, _⟩ := p
    exact PySem.W.kia_one PySem.W.kitx_dict I.kIn ⟨o, h1, h2.1⟩ e (fun z => nomatch z) h
  | @dT a kvs ea =>
    cases (show u = Value.ref a from rx)
    obtain ⟨_, _, xs, _, o, es, ep, h1, h2, _⟩ := (show ObjOk X.prog X.w H s.heap a (.dT kvs) from I.hok a _ ea)
    exact PySem.W.kia_one PySem.W.kitx_dict I.kIn ⟨o, h1, h2.1⟩ e (fun z => nomatch z) h
  | @ins a C dx fs ea cl ha hn htk hm =>
    cases (show u = Value.ref a from rx)
    obtain ⟨mA, O, _⟩ := ins_get I.hok ea
    obtain ⟨od, J, _⟩ := O.look
    exact PySem.W.kia_one (PySem.W.kitx_own (cl.get _) cl.hd ha hn htk hm) I.kIn J e (fun z => nomatch z) h
end
end L2

namespace L2
open PySem PySem.Spec PyProof.Rows

/-! ### room -/
structure Room (k : Nat) (A : Around) : Prop where
  hd : A.handled = none
  dp : A.depth + 3 * k + 5 < recursionLimit
  un : A.units + 16 * k + 200 < cLine
theorem Room.mono {j k : Nat} {A : Around} (r : Room k A) (h : j ≤ k) : Room j A := ⟨r.hd, by have := r.dp; (first | lia | omega), by have := r.un; (first | lia | omega)⟩
theorem Room.deeper {k : Nat} {A : Around} (r : Room (k + 1) A) (env : Env) : Room k (A.deeper env) :=
  ⟨r.hd, by have := r.dp; show A.depth + 1 + 3 * k + 5 < _; (first | lia | omega), by have := r.un; show A.units + 3 + 16 * k + 200 < _; (first | lia | omega)⟩
theorem Room.in1 {k : Nat} {A : Around} (r : Room (k + 1) A) : Room k A.in1 :=
  ⟨r.hd, by have := r.dp; show A.depth + 3 * k + 5 < _; (first | lia | omega), by have := r.un; show A.units + 1 + 16 * k + 200 < _; (first | lia | omega)⟩
theorem make_depth {A : Around} {C : Addr} {us : List Value} {kw : List (Str × Value)} : (A.under (.builtin "type.__call__" ⟨.ref C :: us, kw⟩)).depth = A.depth + 1 := by
  first | rfl | simp [Around.under, Code.weight, Code.isCreation, Code.isGuard, Code.isCaller, Code.frames, Code.isFrame, guardIds]
theorem make_units {A : Around} {C : Addr} {us : List Value} {kw : List (Str × Value)} : (A.under (.builtin "type.__call__" ⟨.ref C :: us, kw⟩)).units = A.units + 1 := by
  first | rfl | simp [Around.under, Code.cUnits, Code.frames, Code.isFrame]
theorem Room.make {k : Nat} {A : Around} (r : Room (k + 1) A) (C : Addr) (us : List Value) (kw : List (Str × Value)) : Room k (A.under (.builtin "type.__call__" ⟨.ref C :: us, kw⟩)) :=
  ⟨r.hd, by have := r.dp; rw [make_depth]; (first | lia | omega), by have := r.un; rw [make_units]; (first | lia | omega)⟩
theorem Room.depth {k : Nat} {A : Around} (r : Room k A) : A.depth < recursionLimit := by have := r.dp; (first | lia | omega)
theorem Room.units {k : Nat} {A : Around} (r : Room k A) : A.units + 64 < cLine := by have := r.un; (first | lia | omega)

/-! ### argument lists and displays -/
def tNil : TA := fun _ H Q => Q [] H
def tCons (ta : TE) (tr : TA) : TA := fun σ H Q => ta σ H fun x H1 => tr σ H1 fun xs H2 => Q (x :: xs) H2
section
variable {X : Cx} {e : Expr} {es : List Expr} {te : TE} {t : TA} {pos : Pos}
theorem pa_nil : PA X [] tNil := fun _ _ _ _ H Q I h => Calls.spliced_nil ⟨[], H, I, .nil, h⟩
theorem pa_cons (ha : PE X e te) (hr : PA X es t) (hs : starEach (e :: es) X.env = (false, eval e X.env) :: starEach es X.env := by rfl) : PA X (e :: es) (tCons te t) := by
  intro pos pins s σ H Q I h
  rw [hs]
  show wpAny _ _ (spliced ((false, eval e X.env) :: backTo pos (starEach es X.env))) _ _ s
  refine Calls.spliced_cons (thn (ha pins s σ H _ I h) fun u s1 ⟨x, H1, I1, r1, q1⟩ => ?_)
  exact thn (hr pos pins s1 σ H1 _ I1 q1) fun us s2 ⟨xs, H2, I2, r2, q2⟩ => ⟨x :: xs, H2, I2, .cons r1 r2, q2⟩

/-- a tuple, a list of written items -/
def tTup (t : TA) : TE := fun σ H Q => t σ H fun xs H1 => xs.length ≤ sizeLine ∧ ∀ p, H1 p = none → Q (.ref p) (upd H1 p (.tup xs))
def tLst (t : TA) : TE := fun σ H Q => t σ H fun xs H1 => xs.length ≤ sizeLine ∧ ∀ p, H1 p = none → Q (.ref p) (upd H1 p (.lst xs))
theorem pe_tup {x1} (h : PA X es t) : PE X (.Tuple es x1 pos) (tTup t) := by
  intro pins s σ H Q I hq
  refine wpAny_Tuple_spliced (thn (h pos pins s σ H _ I hq) fun us s1 ⟨xs, H1, I1, r, z, q⟩ => ⟨by rw [← r.length]; exact z, ?_⟩)
  have hf : H1 s1.heap.objs.size = none := I1.hok.fresh (Nat.le_refl _)
  refine ⟨.ref s1.heap.objs.size, upd H1 s1.heap.objs.size (.tup xs), I1.laid (t' := s1.toks) (fun b u e => Heap.get?_push_of_some _ e) (Nat.le_refl _) ?_, rfl, q _ hf⟩
  exact ⟨z, us, r, ⟨_, Heap.get?_push_size _ rfl, rfl, _, rfl⟩⟩
theorem pe_lst (h : PA X es t) : PE X (.List es pos) (tLst t) := by
  intro pins s σ H Q I hq
  refine wpAny_List_spliced (thn (h pos pins s σ H _ I hq) fun us s1 ⟨xs, H1, I1, r, z, q⟩ => ⟨by rw [← r.length]; exact z, ?_⟩)
  have hf : H1 s1.heap.objs.size = none := I1.hok.fresh (Nat.le_refl _)
  refine ⟨.ref s1.heap.objs.size, upd H1 s1.heap.objs.size (.lst xs), I1.laid (t' := s1.toks) (fun b u e => Heap.get?_push_of_some _ e) (Nat.le_refl _) ?_, rfl, q _ hf⟩
  exact ⟨z, us, 0, r, Heap.get?_push_size _ rfl⟩
end

/-! ### what a def promises -/
/-- a def's promise: the bound arguments in the parameters' order, the heap, the wanted end, the wanted exception -/
abbrev Sp := List V → Hp → VK → XK → Prop
/-- how an exception lies behind a call (file 08 gives it): the callers' frames, abstract heap and state ahead of the call, the wish, the exception, the state -/
abbrev CXT := List Env → Hp → Shared → XK → Value → Shared → Prop

/-- the state at a call -/
structure Env0 (P : Program) (w : World) (K : PySem.W.Frag) (mg : Str → Option Value) (base : Heap) (A : Around) (outer : List Env) (s : Shared) (H : Hp) : Prop where
  frames : A.frames = some outer
  mod : Mod K mg base
  bs : ∀ b o, base.get? b = some o → s.heap.get? b = some o ∧ H b = none
  bsz : base.objs.size ≤ s.heap.objs.size
  funs : s.heap.FunFrames base outer
  frf : ∀ b ∈ frs outer, H b = none
  hok : HOk P w H s.heap
  bare : AllBare s.gens
/-- a call's end -/
def CE (outer : List Env) (P : Program) (w : World) (H : Hp) (s : Shared) (Q : VK) (u : Value) (s' : Shared) : Prop :=
  ∃ v H', s'.os = s.os ∧ AllBare s'.gens ∧ Un (frs outer) [] H H' s.heap s'.heap ∧ HOk P w H' s'.heap ∧ RelV v u ∧ Q v H'
def CR (CX : CXT) (outer : List Env) (P : Program) (w : World) (H : Hp) (s : Shared) (Q : VK) (E : XK) (r : Result) (s' : Shared) : Prop :=
  match r with
  | .ok (.ret u) => CE outer P w H s Q u s'
  | .ok _ => False
  | .error e => CX outer H s E e s'
structure FnOk (P : Program) (w : World) (K : PySem.W.Frag) (mg : Str → Option Value) (base : Heap) (CX : CXT) (k : Nat) (f : Addr) (fd : FuncData) (ps : List Str) (sp : Sp) : Prop where
  len : ∀ vs H Q E, sp vs H Q E → vs.length = ps.length
  run : ∀ (A : Around) (outer : List Env) (s : Shared) (H : Hp) (args : Args) (us : List Value) (vs : List V) (Q : VK) (E : XK), Room k A → Env0 P w K mg base A outer s H → BindsTo s fd args (ps.zip us) → Vals vs us → sp vs H Q E →
    codeAny (model P w) A (.call (.ref f) args) (CR CX outer P w H s Q E) s

theorem Env0.make {P : Program} {w : World} {K : PySem.W.Frag} {mg : Str → Option Value} {base : Heap} {A : Around} {outer : List Env} {s : Shared} {H : Hp} (e : Env0 P w K mg base A outer s H) (C : Addr) (us : List Value) (kw : List (Str × Value)) :
    Env0 P w K mg base (A.under (.builtin "type.__call__" ⟨.ref C :: us, kw⟩)) outer s H := ⟨by first | exact e.frames | (simpa [Around.under, Code.envs, Code.isFrame, pushEnvs] using e.frames), e.mod, e.bs, e.bsz, e.funs, e.frf, e.hok, e.bare⟩
theorem Env0.in1 {P : Program} {w : World} {K : PySem.W.Frag} {mg : Str → Option Value} {base : Heap} {A : Around} {outer : List Env} {s : Shared} {H : Hp} (e : Env0 P w K mg base A outer s H) :
    Env0 P w K mg base A.in1 outer s H := ⟨e.frames, e.mod, e.bs, e.bsz, e.funs, e.frf, e.hok, e.bare⟩

section
variable {X : Cx} {pins : List (Addr × Obj)} {σ : St} {H : Hp} {s s' : Shared}
/-- from a body: what a callee wants -/
theorem Inv.env0 (I : Inv X pins σ H s) : Env0 X.prog X.w X.K X.mg X.base X.A X.stack s H :=
  ⟨I.ok.frames, I.ok.mod, I.bs, Nat.le_trans I.ok.bsz I.sz, I.stack, I.stkFree, I.hok, I.bare⟩
/-- behind a call -/
theorem Inv.after {Q : VK} {u : Value} (I : Inv X pins σ H s) (h : CE X.stack X.prog X.w H s Q u s') : EP X pins σ Q u s' := by
  obtain ⟨v, H', os, bare, un, hok, r, q⟩ := h
  obtain ⟨hh, g, d, t, os'⟩ := s'
  obtain rfl : os' = s.os := os
  exact ⟨v, H', I.call (h' := hh) (g' := g) (d' := d) (t' := t) (ch := []) un hok bare (fun b z => absurd z (by simp)), r, q⟩
end

/-! ### calls -/
/-- f(..): the written arguments, then the defaults dvs; E: what is wanted of an exception -/
def tCall (sp : Sp) (dvs : List V) (E : XK) (t : TA) : TE := fun σ H Q => t σ H fun vs H1 => sp (vs ++ dvs) H1 Q E
/-- o.m(..) of an instance of the class at C -/
def tMeth (C : Addr) (m : Str) (sp : Sp) (dvs : List V) (E : XK) (ta : TE) (t : TA) : TE := fun σ H Q => ta σ H fun x H1 => ∃ a dx fs, x = .ref a ∧ H1 a = some (.ins C dx fs) ∧ fs.lookup m = none ∧
  t σ H1 fun vs H2 => sp (x :: (vs ++ dvs)) H2 Q E
/-- C(..): a new instance and its dict, then __init__ -/
def tMake (C : Addr) (sp : Sp) (dvs : List V) (E : XK) (t : TA) : TE := fun σ H Q => t σ H fun vs H1 => ∀ x dx, H1 x = none → H1 dx = none → dx ≠ x →
  sp (.ref x :: (vs ++ dvs)) (upd (upd H1 dx (.own x)) x (.ins C dx [])) (fun v H2 => v = .non ∧ Q (.ref x) H2) E

/-- how the parameters are bound: us the positional arguments, kw the keywords' values by name, ds the defaults that fill up -/
def Binds (K : PySem.W.Frag) (fd : FuncData) (ps : List Str) (ds : List Value) : Prop :=
  ∀ (s : Shared) (us : List Value), K.In s.heap → (us ++ ds).length = ps.length → BindsTo s fd ⟨us, []⟩ (ps.zip (us ++ ds))
/-- every parameter is given -/
theorem Binds.all {K : PySem.W.Frag} {fd : FuncData} {ps : List Str} (h : ∀ us : List Value, us.length = ps.length → bindArgs fd ⟨us, []⟩ = pure (ps.zip us)) : Binds K fd ps [] := fun s us _ hl => by
  rw [List.append_nil] at hl ⊢
  exact .of_eq (h us hl)

/-- an exception of a callee reaches what this body wants of exceptions -/
def Passes (CX : CXT) (X : Cx) (E : XK) : Prop := ∀ (pins : List (Addr × Obj)) (σ : St) (H : Hp) (s : Shared) (e : Value) (s' : Shared), Inv X pins σ H s → CX X.stack H s E e s' → X.xe e s'

section
variable {X : Cx} {CX : CXT} {k : Nat} {f C : Addr} {fd : FuncData} {ps : List Str} {sp : Sp} {dvs : List V} {ds : List Value} {E : XK} {x m : Str} {p pos apos : Pos} {e o : Expr} {es : List Expr} {ta : TE} {t : TA}

/-- the callee runs -/
theorem run_fn {pins : List (Addr × Obj)} {σ : St} {H : Hp} {s : Shared} {Q : VK} {us : List Value} {vs : List V} (F : FnOk X.prog X.w X.K X.mg X.base CX k f fd ps sp) (hr : Room k X.A) (hb : Binds X.K fd ps ds) (hd : Vals dvs ds) (hx : Passes CX X E)
    (I : Inv X pins σ H s) (r : Vals vs us) (h : sp (vs ++ dvs) H Q E) : wpAny (model X.prog X.w) X.A (call (.ref f) us) (EP X pins σ Q) X.xe s := by
  have r2 : Vals (vs ++ dvs) (us ++ ds) := r.append hd
  have hl : (us ++ ds).length = ps.length := by rw [← r2.length]; exact F.len _ _ _ _ h
  refine wpAny_call (codeAny_mono (F.run X.A X.stack s H ⟨us, []⟩ (us ++ ds) (vs ++ dvs) Q E hr I.env0 (hb s us I.kIn hl) r2 h) fun r s' hq => ?_)
  cases r with
  | error e => exact hx pins σ H s e s' I hq
  | ok fl =>
    cases fl with
    | ret u => exact I.after hq
    | next => exact False.elim hq
    | brk => exact False.elim hq
    | cont => exact False.elim hq

theorem pe_call (F : FnOk X.prog X.w X.K X.mg X.base CX k f fd ps sp) (hr : Room k X.A) (hg : Gl X x) (hm : X.mg x = some (.ref f)) (hk : PySem.W.keepIn X.K (.ref f) = true) (hb : Binds X.K fd ps ds) (hd : Vals dvs ds) (hx : Passes CX X E)
    (ha : PA X (e :: es) t) (hdb : (x == ("__debug__" : Str)) = false := by decide) (he : starEach (e :: es) X.env = (false, eval e X.env) :: starEach es X.env := by rfl) (hpl : (backTo pos (starEach es X.env)).any (·.1) = false := by rfl) :
    PE X (.Call (.Name x p) (e :: es) [] pos) (tCall sp dvs E t) := by
  intro pins s σ H Q I h
  refine wpAny_Call_Name_kw (ld_glob I hg hm ?_ hdb)
  refine PySem.W.callWith_K (h₀ := X.base) I.ok.mod.kin hk (thn (ha pos pins s σ H _ I h) fun us s1 ⟨vs, H1, I1, r, q⟩ => ⟨I1.kIn, ?_⟩) he hpl
  exact run_fn F hr hb hd hx I1 r q

/-- o.m(e, ..) -/
theorem pe_meth {pl : Sem Bool} (he : PE X o ta) (c : Cls X.K C) (hm : Meth X.K C m f) (F : FnOk X.prog X.w X.K X.mg X.base CX k f fd ps sp) (hr : Room k X.A) (hb : Binds X.K fd ps ds) (hd : Vals dvs ds) (hx : Passes CX X E) (ha : PA X (e :: es) t)
    (hst : starEach (e :: es) X.env = (false, eval e X.env) :: starEach es X.env := by rfl) (hpl : (backTo pos (starEach es X.env)).any (·.1) = false := by rfl)
    (ht : eval (.Call (.Attribute o m apos) (e :: es) [] pos) X.env = (do
      let ov ← eval o X.env
      standAt apos.atName
      let (f, first) ← holding [ov] (getMethod ov m pl)
      callWith pos f first (backTo pos (starEach (e :: es) X.env)) (backToKw pos (keywordEach [] X.env))) := by rfl) :
    PE X (.Call (.Attribute o m apos) (e :: es) [] pos) (tMeth C m sp dvs E ta t) := by
  intro pins s σ H Q I h
  refine PySem.W.methodCall_KW (pl := pl) (thn (he pins s σ H _ I h) fun u s1 ⟨x, H1, I1, rx, a, dx, fs, ex, ea, l, q⟩ => ?_) ht
  subst ex
  obtain rfl : u = Value.ref a := rx
  refine getmeth_ok I1 ea c hm l ?_
  refine PySem.W.callWith_K (first := [.ref a]) (h₀ := X.base) I.ok.mod.kin hm.kp (thn (ha pos pins s1 σ H1 _ I1 q) fun us s2 ⟨vs, H2, I2, r, q2⟩ => ⟨I2.kIn, ?_⟩) hst hpl
  exact run_fn (us := .ref a :: us) (vs := .ref a :: vs) F hr hb hd hx I2 (.cons rfl r) q2

/-- what a class must have to be made -/
structure Mk (K : PySem.W.Frag) (C f : Addr) : Prop where
  makes : PySem.W.makesIn K C = true
  init : PySem.W.findIn K (.ref C) "__init__" = some (some (.ref f))
  fn : PySem.W.isFn K (.ref f) = true
  kp : PySem.W.keepIn K (.ref C) = true

theorem run_make {pins : List (Addr × Obj)} {σ : St} {H : Hp} {s : Shared} {Q : VK} {us : List Value} {vs : List V} (M : Mk X.K C f) (F : FnOk X.prog X.w X.K X.mg X.base CX k f fd ps sp) (hr : Room (k + 1) X.A) (hb : Binds X.K fd ps ds) (hd : Vals dvs ds)
    (hx : Passes CX X E) (I : Inv X pins σ H s) (r : Vals vs us)
    (h : ∀ x dx, H x = none → H dx = none → dx ≠ x → sp (.ref x :: (vs ++ dvs)) (upd (upd H dx (.own x)) x (.ins C dx [])) (fun v H2 => v = .non ∧ Q (.ref x) H2) E) :
    wpAny (model X.prog X.w) X.A (call (.ref C) us) (EP X pins σ Q) X.xe s := by
  have hq := h (s.heap.objs.size + 1) s.heap.objs.size (I.hok.fresh (Nat.le_succ _)) (I.hok.fresh (Nat.le_refl _)) (Nat.ne_of_lt (Nat.lt_succ_self _))
  have I2 := Inv.made (C := C) I
  have r2 : Vals (V.ref (s.heap.objs.size + 1) :: (vs ++ dvs)) (Value.ref (s.heap.objs.size + 1) :: (us ++ ds)) := .cons rfl (r.append hd)
  have hl : (Value.ref (s.heap.objs.size + 1) :: us ++ ds).length = ps.length := by
    have e := r2.length
    rw [F.len _ _ _ _ hq] at e
    exact e.symm
  refine wpAny_call (make_map (f := f) I.kIn M.makes M.init (beq_iff_eq.mp M.fn) (codeAny_mono (F.run _ X.stack _ _ ⟨Value.ref (s.heap.objs.size + 1) :: us, []⟩ (Value.ref (s.heap.objs.size + 1) :: (us ++ ds)) _ _ E (hr.make C us [])
    (I2.env0.make C us []) (hb _ (Value.ref (s.heap.objs.size + 1) :: us) I2.kIn hl) r2 hq) fun r s' hq' => ?_))
  cases r with
  | error e => exact hx pins σ _ _ e s' I2 hq'
  | ok fl =>
    cases fl with
    | ret u =>
      obtain ⟨v, H', I3, rv, ev, q3⟩ := I2.after hq'
      subst ev
      exact ⟨rv, ⟨V.ref (s.heap.objs.size + 1), H', I3, rfl, q3⟩⟩
    | next => exact False.elim hq'
    | brk => exact False.elim hq'
    | cont => exact False.elim hq'
theorem pe_make (M : Mk X.K C f) (F : FnOk X.prog X.w X.K X.mg X.base CX k f fd ps sp) (hr : Room (k + 1) X.A) (hg : Gl X x) (hm : X.mg x = some (.ref C)) (hb : Binds X.K fd ps ds) (hd : Vals dvs ds) (hx : Passes CX X E)
    (ha : PA X (e :: es) t) (hdb : (x == ("__debug__" : Str)) = false := by decide) (he : starEach (e :: es) X.env = (false, eval e X.env) :: starEach es X.env := by rfl) (hpl : (backTo pos (starEach es X.env)).any (·.1) = false := by rfl) :
    PE X (.Call (.Name x p) (e :: es) [] pos) (tMake C sp dvs E t) := by
  intro pins s σ H Q I h
  refine wpAny_Call_Name_kw (ld_glob I hg hm ?_ hdb)
  refine PySem.W.callWith_K (h₀ := X.base) I.ok.mod.kin M.kp (thn (ha pos pins s σ H _ I h) fun us s1 ⟨vs, H1, I1, r, q⟩ => ⟨I1.kIn, ?_⟩) he hpl
  exact run_make M F hr hb hd hx I1 r q
end

/-! ### keywords -/
/-- the values of the keywords, from the left -/
def PK (X : Cx) (kws : List Keyword) (t : TA) : Prop :=
  ∀ (pos : Pos) (pins : List (Addr × Obj)) (s : Shared) (σ : St) (H : Hp) (Q : List V → Hp → Prop), Inv X pins σ H s → t σ H Q → wpAny (model X.prog X.w) X.A (evalAll ((backToKw pos (keywordEach kws X.env)).map (·.2))) (AP X pins σ Q) X.xe s
section
variable {X : Cx} {CX : CXT} {k : Nat} {f C : Addr} {fd : FuncData} {ps ks : List Str} {sp : Sp} {E : XK} {x m : Str} {p pos apos kpos : Pos} {e o : Expr} {es : List Expr} {kws : List Keyword} {te ta : TE} {t tk : TA} {nm : Option Str}
theorem pk_nil : PK X [] tNil := fun _ _ _ _ H Q I h => wpAny_evalAll_nil ⟨[], H, I, .nil, h⟩
theorem pk_cons (ha : PE X e te) (hr : PK X kws t) : PK X (⟨nm, e, kpos⟩ :: kws) (tCons te t) := by
  intro pos pins s σ H Q I h
  show wpAny _ _ (evalAll ((do let v ← eval e X.env; standAt pos; pure v) :: (backToKw pos (keywordEach kws X.env)).map (·.2))) _ _ s
  refine wpAny_evalAll_cons (wpAny_bind (thn (ha pins s σ H _ I h) fun u s1 ⟨x, H1, I1, r1, q1⟩ => wpAny_bind (wpAny_standAt (wpAny_pure ?_))))
  exact thn (hr pos pins s1 σ H1 _ I1 q1) fun us s2 ⟨xs, H2, I2, r2, q2⟩ => ⟨x :: xs, H2, I2, .cons r1 r2, q2⟩

variable {g : List Value → List Value → List Value} {gV : List V → List V → List V}
end

/-! ### a def's body keeps its promise -/
/-- names: the parameters first -/
structure FnScope (N P : List Str) (sc : Scope) : Prop where
  kind : sc.kind = .function
  co : sc.isCoroutine = false
  gen : sc.isGenerator = false
  nd : N.Nodup
  pre : N.take P.length = P
  par : ∀ x ∈ P, sc.names.lookup x = some .local ∨ sc.names.lookup x = some .cell
  nofree : ∀ y ∈ sc.names, y.2 ≠ .free

theorem bindL_out {kindOf : Str → Option NameKind} {x : Str} : ∀ {binds : List (Str × Value)} {m : Str → Option Value}, (∀ v, (x, v) ∉ binds) → bindL kindOf binds m x = m x
  | [], _, _ => rfl
  | (n, v) :: r, m, h => by
    unfold bindL
    rw [bindL_out fun w hw => h w (List.mem_cons_of_mem _ hw)]
    split
    · have : x ≠ n := by rintro rfl; exact h v List.mem_cons_self
      simp [this]
    · rfl
theorem bindC_out {kindOf : Str → Option NameKind} {x : Str} : ∀ {binds : List (Str × Value)} {m : Str → Option Value}, (∀ v, (x, v) ∉ binds) → bindC kindOf binds m x = m x
  | [], _, _ => rfl
  | (n, v) :: r, m, h => by
    unfold bindC
    rw [bindC_out fun w hw => h w (List.mem_cons_of_mem _ hw)]
    split
    · rfl
    · have : x ≠ n := by rintro rfl; exact h v List.mem_cons_self
      simp [this]
theorem bindL_get {kindOf : Str → Option NameKind} {x : Str} {v : Value} : ∀ {P : List Str} {vs : List Value} {i : Nat} {m : Str → Option Value}, P.Nodup → P[i]? = some x → vs[i]? = some v → kindOf x = some .local →
    bindL kindOf (P.zip vs) m x = some v
  | [], _, _, _, _, h, _, _ => by simp at h
  | _ :: _, [], _, _, _, _, h, _ => by simp at h
  | p :: P, w :: vs, 0, m, nd, h1, h2, hk => by
    simp at h1 h2; subst h1; subst h2
    show bindL kindOf ((p, w) :: P.zip vs) m p = _
    unfold bindL
    rw [bindL_out fun v hv => (List.nodup_cons.mp nd).1 (List.of_mem_zip hv).1, if_pos hk]
    simp
  | p :: P, w :: vs, i + 1, m, nd, h1, h2, hk => by
    show bindL kindOf ((p, w) :: P.zip vs) m x = _
    unfold bindL
    exact bindL_get (i := i) (List.nodup_cons.mp nd).2 (by simpa using h1) (by simpa using h2) hk
theorem bindC_get {kindOf : Str → Option NameKind} {x : Str} {v : Value} : ∀ {P : List Str} {vs : List Value} {i : Nat} {m : Str → Option Value}, P.Nodup → P[i]? = some x → vs[i]? = some v → kindOf x ≠ some .local →
    bindC kindOf (P.zip vs) m x = some v
  | [], _, _, _, _, h, _, _ => by simp at h
  | _ :: _, [], _, _, _, _, h, _ => by simp at h
  | p :: P, w :: vs, 0, m, nd, h1, h2, hk => by
    simp at h1 h2; subst h1; subst h2
    show bindC kindOf ((p, w) :: P.zip vs) m p = _
    unfold bindC
    rw [bindC_out fun v hv => (List.nodup_cons.mp nd).1 (List.of_mem_zip hv).1, if_neg hk]
    simp
  | p :: P, w :: vs, i + 1, m, nd, h1, h2, hk => by
    show bindC kindOf ((p, w) :: P.zip vs) m x = _
    unfold bindC
    exact bindC_get (i := i) (List.nodup_cons.mp nd).2 (by simpa using h1) (by simpa using h2) hk

/-- the names' values at the entry -/
def start (N : List Str) (vs : List V) : St := vs.map some ++ List.replicate (N.length - vs.length) none

/-- the context of a def's body, at its entry; an exception leaves the frame, then lies as CX says -/
def cxOf (CX : CXT) (P : Program) (w : World) (K : PySem.W.Frag) (mg : Str → Option Value) (base : Heap) (N : List Str) (qual : Str) (scope : Scope) (f : Addr) (cd : Value) (A : Around) (outer : List Env) (s : Shared) (H : Hp) (E : XK) : Cx where
  prog := P
  w := w
  K := K
  mg := mg
  base := base
  A := A.deeper (envOfC qual scope s.heap.objs.size f cd)
  N := N
  s₀ := s
  H₀ := H
  env := envOfC qual scope s.heap.objs.size f cd
  outer := outer
  stack := envOfC qual scope s.heap.objs.size f cd :: outer
  ex := []
  calm := true
  fn := fun _ => true
  pn := []
  xe := fun e s' => wpAny (model P w) (A.deeper (envOfC qual scope s.heap.objs.size f cd)) (leaving (envOfC qual scope s.heap.objs.size f cd) e) (fun _ s'' => CX outer H s E e s'') (fun e' s'' => CX outer H s E e' s'') s'

theorem cell_has {sc : Scope} {n : Nat} {x : Str} (h : sc.names.lookup x = some .cell) : ∃ c, (cellsFrom n sc.names []).lookup x = some c := by
  have q := PySem.W.cellsFrom_some sc.names n [] (.inl h)
  exact Option.isSome_iff_exists.mp q

theorem inv_start {CX : CXT} {P : Program} {w : World} {K : PySem.W.Frag} {mg : Str → Option Value} {base : Heap} {N ps : List Str} {qual : Str} {scope : Scope} {f : Addr} {cd : Value} {A : Around} {outer : List Env} {s s1 : Shared} {H : Hp} {E : XK} {us : List Value} {vs : List V}
    (S : FnScope N ps scope) (hd : A.handled = none) (e0 : Env0 P w K mg base A outer s H) (hl : vs.length = ps.length) (r : Vals vs us)
    (x : InCallC s s.heap.objs.size (bindL (envOfC qual scope s.heap.objs.size f cd).kindOf (ps.zip us) fun _ => none) (cellsFrom (s.heap.objs.size + 1) scope.names []) (bindC (envOfC qual scope s.heap.objs.size f cd).kindOf (ps.zip us) fun _ => none) s1) :
    Inv (cxOf CX P w K mg base N qual scope f cd A outer s H E) [] (start N vs) H s1 := by
  have hpl : ps.length ≤ N.length := by have := congrArg List.length S.pre; rw [List.length_take] at this; (first | lia | omega)
  obtain ⟨h1, tk, rfl, hk⟩ := x.done
  have noA : ∀ b : Addr, b ∉ (cxOf CX P w K mg base N qual scope f cd A outer s H E).ex := fun b z => absurd (show b ∈ ([] : List Addr) from z) (by simp)
  refine ⟨⟨e0.mod, S.kind, rfl, rfl, Nat.le_refl _, fun y z c h1 h2 => ?_, fun y hy => ?_, fun y c _ h => ?_, fun _ => hd, Around.frames_deeper e0.frames, .inr ⟨rfl, rfl⟩, fun b z => absurd z (noA b), e0.bs, e0.bsz, fun b _ _ => noA b, fun b z => absurd z (noA b), e0.funs, e0.frf⟩,
    rfl, e0.bare, Un.kept hk, ⟨_, x.toInCall.ns, fun i y v h1 h2 h3 => ?_⟩, fun y c h => ⟨_, x.cell y c h⟩, e0.hok.fresh (Nat.le_refl _), fun y c h => ?_, fun p hp => absurd (show p ∈ ([] : List (Addr × Obj)) from hp) (by simp), e0.hok.kept hk, ?_⟩
  · exact name_of_addr x.apart (PySem.mem_of_lookup h1) (PySem.mem_of_lookup h2)
  · have hy : scope.names.lookup y = some .cell ∨ scope.names.lookup y = some .free := hy
    rcases hy with hy | hy
    · exact cell_has hy
    · exact absurd rfl (S.nofree _ (PySem.mem_of_lookup hy))
  · exact Nat.le_of_lt (x.above y c (PySem.mem_of_lookup h))
  · have hi : i < vs.length := by
      unfold start at h2
      by_cases hi : i < vs.length
      · exact hi
      · rw [List.getElem?_append_right (by simpa using hi)] at h2
        rw [List.getElem?_replicate] at h2
        split at h2 <;> cases h2
    have ha : vs[i]? = some v := by
      unfold start at h2
      rw [List.getElem?_append_left (by simpa using hi), List.getElem?_map] at h2
      cases e : vs[i]? with
      | none => rw [e] at h2; cases h2
      | some a => rw [e] at h2; cases h2; rfl
    obtain ⟨u, hu, rv⟩ := r.get ha
    have hp : ps[i]? = some y := by
      rw [← S.pre, List.getElem?_take_of_lt (by (first | lia | omega))]; exact h1
    have ndP : ps.Nodup := by rw [← S.pre]; exact S.nd.sublist (List.take_sublist _ _)
    refine ⟨u, rv, ?_⟩
    rcases S.par y (List.mem_of_getElem? hp) with k | k
    · exact .inl ⟨k, bindL_get ndP hp hu k⟩
    · obtain ⟨c, e⟩ := cell_has (n := s.heap.objs.size + 1) k
      refine .inr ⟨.inl k, c, e, ?_⟩
      have q := x.cell y c e
      rw [bindC_get ndP hp hu (by show scope.names.lookup y ≠ _; rw [k]; decide)] at q
      exact q
  · exact e0.hok.fresh (Nat.le_of_lt (x.above y c (PySem.mem_of_lookup h)))
  · unfold start
    show _ = N.length
    rw [List.length_append, List.length_map, List.length_replicate]
    (first | lia | omega)

/-- THE RULE: a def (or a method) of the text, by its body. The body's reading t is chosen for each entry; it is run at the parameters' values -/
theorem fn_of {CX : CXT} {P : Program} {w : World} {K : PySem.W.Frag} {mg : Str → Option Value} {base : Heap} {k : Nat} {f : Addr} {name qual : Str} {params : Arguments} {body : List Stmt} {scope : Scope} {dV kV doc pm cdv ct oc : Value} {an od : Option Addr}
    {osl : Array (Option Value)} {N ps : List Str} {sp : Sp} (lk : K.lookup f = some ⟨oc, od, .func (PySem.W.fnOf name qual params body scope dV kV doc pm an cdv ct), osl⟩) (hcd : PySem.W.codeIn K cdv qual = true) (S : FnScope N ps scope)
    (len : ∀ vs H Q E, sp vs H Q E → vs.length = ps.length)
    (hbody : ∀ (A : Around) (outer : List Env) (s : Shared) (H : Hp) (vs : List V) (Q : VK) (E : XK), Room k (A.deeper (envOfC qual scope s.heap.objs.size f cdv)) → sp vs H Q E →
      ∃ t, PSs (cxOf CX P w K mg base N qual scope f cdv A outer s H E) body t ∧ t { nx := fun _ H' => Q .non H', rt := Q } (start N vs) H) :
    FnOk P w K mg base CX (k + 1) f (PySem.W.fnOf name qual params body scope dV kV doc pm an cdv ct) ps sp := by
  refine ⟨len, fun A outer s H args us vs Q E hr e0 hb r hsp => ?_⟩
  have hl := len _ _ _ _ hsp
  have KX : K.In s.heap := e0.mod.kin.keeps fun b o e => (e0.bs b o e).1
  have lim : s.heap.NoLimit := e0.mod.nolimit.keeps fun b o e => (e0.bs b o e).1
  have hkind : ∀ y ∈ ps.zip us, scope.names.lookup y.1 = some .local ∨ (scope.names.lookup y.1 = some .cell ∧ ((cellsFrom (s.heap.objs.size + 1) scope.names []).lookup y.1).isSome = true) := fun ⟨n, v⟩ hy => by
    rcases S.par n (List.of_mem_zip hy).1 with q | q
    · exact .inl q
    · exact .inr ⟨q, PySem.W.cellsFrom_some _ _ _ (.inl q)⟩
  refine codeAny_call_function hr.depth (KX _ _ lk) rfl S.co S.gen rfl (PySem.W.codeRec_of KX hcd) (hb _ _ _ _ ?_)
  refine wpAny_newFunctionEnv_cells S.kind hkind fun env he s1 x => ?_
  subst he
  refine ⟨lim.keeps x.toInCall.keep, codeAny_func ?_⟩
  obtain ⟨t, ht, hq⟩ := hbody A outer s H vs Q E (hr.deeper _) hsp
  have I : Inv (cxOf CX P w K mg base N qual scope f cdv A outer s H E) [] (start N vs) H s1 := inv_start S hr.hd e0 hl r x
  refine wpAny_mono (ht [] s1 (start N vs) H _ I hq) (fun fl s' hs => ?_) fun e s' hs => hs
  have fin : ∀ {σ' : St} {H' : Hp} {v : V} {u : Value}, Inv (cxOf CX P w K mg base N qual scope f cdv A outer s H E) [] σ' H' s' → RelV v u → Q v H' → CE outer P w H s Q u s' :=
    fun {σ' H' v u} J rv q => ⟨v, H', J.os, J.bare, J.base, J.hok, rv, q⟩
  cases fl with
  | ret u =>
    obtain ⟨v, σ', H', J, rv, q⟩ := hs
    exact fin J rv q
  | next =>
    obtain ⟨σ', H', J, q⟩ := hs
    exact fin (v := V.non) (u := Value.none) J rfl q
  | brk =>
    obtain ⟨_, _, _, q⟩ := hs
    exact False.elim q
  | cont =>
    obtain ⟨_, _, _, q⟩ := hs
    exact False.elim q
end L2

namespace L2
open PySem PySem.Spec PyProof.Rows
section
variable {X : Cx} {x : Str} {p pos : Pos} {e : Expr} {es : List Expr} {t : TA} {id T : String} {r : List V → Hp → VK → Prop}

def tCB (r : List V → Hp → VK → Prop) (t : TA) : TE := fun σ H Q => t σ H fun vs H1 => r vs H1 Q
/-- f(e, ..), f a built-in function -/
theorem pe_callB (hc : CallR X (.builtin id) r) (hg : Gl X x) (hm : X.mg x = none) (hv : bootBuiltins x = some (.builtin id)) (ha : PA X (e :: es) t) (hn : x ≠ "__name__" := by decide) (hdb : (x == ("__debug__" : Str)) = false := by decide)
    (he : starEach (e :: es) X.env = (false, eval e X.env) :: starEach es X.env := by rfl) (hpl : (backTo pos (starEach es X.env)).any (·.1) = false := by rfl) : PE X (.Call (.Name x p) (e :: es) [] pos) (tCB r t) := by
  intro pins s σ H Q I h
  refine wpAny_Call_Name_kw (ld_blt I hg hm hv ?_ hn hdb)
  exact PyProof.Rows.callWith_builtin1 (thn (ha pos pins s σ H _ I h) fun us s1 ⟨vs, H1, I1, r1, q1⟩ => hc pins s1 σ H1 vs us Q I1 r1 q1) he hpl
/-- T(e, ..), T a built-in type -/
theorem pe_callTy (hc : CallR X (.type T) r) (hg : Gl X x) (hm : X.mg x = none) (hv : bootBuiltins x = some (.type T)) (ha : PA X (e :: es) t) (hn : x ≠ "__name__" := by decide) (hdb : (x == ("__debug__" : Str)) = false := by decide)
    (he : starEach (e :: es) X.env = (false, eval e X.env) :: starEach es X.env := by rfl) (hpl : (backTo pos (starEach es X.env)).any (·.1) = false := by rfl) : PE X (.Call (.Name x p) (e :: es) [] pos) (tCB r t) := by
  intro pins s σ H Q I h
  refine wpAny_Call_Name_kw (ld_blt I hg hm hv ?_ hn hdb)
  exact PyProof.Rows.callWith_type1 (thn (ha pos pins s σ H _ I h) fun us s1 ⟨vs, H1, I1, r1, q1⟩ => hc pins s1 σ H1 vs us Q I1 r1 q1) he hpl
end
end L2

namespace HT
open PySem PyProof.Rows

section
open PySem.SeqAt
open PySem.AutoSeq1 (wpAny_loadPart')
open PySem.MeetsSeq PySem.MeetsSeq2 PySem.MeetsSeq3

end

section
variable {prog : Program} {w : World} {A : Around} {E : Value → Shared → Prop} {s : Shared}

/-- t + u, t not empty -/
theorem cat_tup {t b : Addr} {vs ws : List Value} {Q : Value → Shared → Prop} (ht : IsTup s.heap t vs.toArray) (hb : IsTup s.heap b ws.toArray) (hv : vs ≠ [])
    (h1 : ws = [] → Q (.ref t) s) (h2 : ws ≠ [] → Q (.ref s.heap.objs.size) { s with heap := s.heap.push { cls := .type "tuple", data := .seq (vs ++ ws).toArray } })
    (hsz : vs.length + ws.length ≤ sizeLine) : wpAny (model prog w) A (binaryOp .Add (.ref t) (.ref b)) Q E s := by
  obtain ⟨⟨cls, dd, data, sl⟩, ho, hc, n, hd⟩ := id ht
  obtain ⟨⟨cls2, dd2, data2, sl2⟩, ho2, hc2, n2, hd2⟩ := id hb
  simp only at hc hd hc2 hd2
  subst hc hd hc2 hd2
  have e : vs.toArray ++ ws.toArray = (vs ++ ws).toArray := by simp
  by_cases hw : ws = []
  · exact concat_meets ⟨_, ho, rfl⟩ ⟨_, ho2, rfl⟩ noFill_tuple_add seq_tuple_add PySem.F.slot_tuple_add PySem.F.entry_tuple_add (PySem.F.args_tuple_add_2 _ _)
      (tuple_addW1 t b vs.toArray ws.toArray n n2 dd dd2 sl sl2 (by simpa using hv) (by simp [hw])) ⟨ho, ho2, h1 hw⟩
  · refine concat_meets ⟨_, ho, rfl⟩ ⟨_, ho2, rfl⟩ noFill_tuple_add seq_tuple_add PySem.F.slot_tuple_add PySem.F.entry_tuple_add (PySem.F.args_tuple_add_2 _ _)
      (tuple_addW2 t b vs.toArray ws.toArray n n2 dd dd2 sl sl2 (by simpa using hv) (by simpa using hw) (by rw [List.size_toArray, List.size_toArray]; exact hsz)) ⟨ho, ho2, ?_⟩
    rw [e]
    exact h2 hw

/-! ### t[a:b], not the whole -/
/-- a slice's bound as a place among n (d where it is left out) -/
def sIx (n d : Nat) : Option Int → Nat
  | none => d
  | some v => if v < 0 then (v + (n : Int)).toNat else min v.toNat n
theorem sIx_none (n d : Nat) : sIx n d none = d := rfl
theorem sIx_nat (n d k : Nat) : sIx n d (some (k : Int)) = min k n := by
  show (if (k : Int) < 0 then ((k : Int) + (n : Int)).toNat else min (k : Int).toNat n) = min k n
  rw [if_neg (by (first | lia | omega)), Int.toNat_natCast]
theorem sIx_le (n d : Nat) (hd : d ≤ n) (o : Option Int) : sIx n d o ≤ n := by
  cases o with
  | none => exact hd
  | some v =>
    show (if v < 0 then (v + (n : Int)).toNat else min v.toNat n) ≤ n
    by_cases hv : v < 0
    · rw [if_pos hv]; (first | lia | omega)
    · rw [if_neg hv]; exact Nat.min_le_right _ _
theorem clip_eq (v : Int) (n d : Nat) : (if v < 0 then max (v + (n : Int)) 0 else min v (n : Int)) = ((sIx n d (some v) : Nat) : Int) := by
  show (if v < 0 then max (v + (n : Int)) 0 else min v (n : Int)) = (((if v < 0 then (v + (n : Int)).toNat else min v.toNat n) : Nat) : Int)
  by_cases hv : v < 0
  · simp only [if_pos hv]; (first | lia | omega)
  · simp only [if_neg hv]; (first | lia | omega)
theorem adjust_gen (lo hi : Option Int) (n : Nat) : Builtin.Slice.sliceAdjust lo hi 1 (n : Int) = (((sIx n 0 lo : Nat) : Int), ((sIx n n hi : Nat) : Int)) := by
  have h1 : ¬ ((1 : Int) < 0) := by (first | lia | omega)
  unfold Builtin.Slice.sliceAdjust
  simp only [h1, if_false]
  refine Prod.ext ?_ ?_
  · cases lo with
    | none => rfl
    | some v => exact clip_eq v n 0
  · cases hi with
    | none => rfl
    | some v => exact clip_eq v n n
theorem places_gen (i j : Nat) : Builtin.Slice.slicePlaces (i : Int) (j : Int) 1 = j - i := by
  unfold Builtin.Slice.slicePlaces
  have h1 : (1 : Int) > 0 := by (first | lia | omega)
  simp only [h1, if_true, Int.ediv_one]
  split <;> (first | lia | omega)
theorem slicePart_ {v : Value} {o : Option Int} {Q : Option Int → Shared → Prop} (p : IsPart v o) (h : Q o s) : wpAny (model prog w) A (Builtin.Slice.slicePartIndex v) Q E s := by
  cases p with
  | none => exact slicePart_none h
  | int i t => exact slicePart_int h
theorem sliceApplied_gen {sl : Addr} {vl vu : Value} {lo hi : Option Int} {n : Nat} {Q : Int × Int × Nat → Shared → Prop} (hs : s.heap.IsSliceOf sl vl vu .none) (pl : IsPart vl lo) (pu : IsPart vu hi)
    (h : Q (((sIx n 0 lo : Nat) : Int), 1, sIx n n hi - sIx n 0 lo) s) : wpAny (model prog w) A (Builtin.Slice.sliceApplied (.ref sl) (pure (n : Int))) Q E s := by
  obtain ⟨os, hos, hcs, hds⟩ := id hs
  unfold Builtin.Slice.sliceApplied Builtin.Slice.sliceFields
  refine wpAny_bind (wpAny_bind (wpAny_field hos hds (x := vl) rfl (wpAny_bind (wpAny_field hos hds (x := vu) rfl (wpAny_bind (wpAny_field hos hds (x := .none) rfl (wpAny_pure ?_)))))))
  refine wpAny_bind (slicePart_none ?_)
  show wpAny _ _ (if ((1 : Int) == 0) = true then _ else _) _ _ s
  rw [if_neg (by decide)]
  refine wpAny_bind (slicePart_ pl (wpAny_bind (slicePart_ pu (wpAny_bind (wpAny_pure ?_)))))
  show wpAny _ _ (match Builtin.Slice.sliceAdjust lo hi 1 (n : Int) with | (lo, hi) => pure (lo, (1 : Int), Builtin.Slice.slicePlaces lo hi 1)) _ _ s
  rw [adjust_gen lo hi n]
  show wpAny _ _ (pure (((sIx n 0 lo : Nat) : Int), (1 : Int), Builtin.Slice.slicePlaces ((sIx n 0 lo : Nat) : Int) ((sIx n n hi : Nat) : Int) 1)) _ _ s
  rw [places_gen]
  exact wpAny_pure h
theorem pick_gen (xs : Array Value) (i k : Nat) : ((List.range k).filterMap fun (m : Nat) => xs[((i : Int) + (m : Int) * 1).toNat]?).toArray = ((xs.toList.drop i).take k).toArray := by
  have e : (fun (m : Nat) => xs[((i : Int) + (m : Int) * 1).toNat]?) = fun m => xs[i + m]? := by
    funext m
    have : ((i : Int) + (m : Int) * 1).toNat = i + m := by (first | lia | omega)
    rw [this]
  rw [e]
  have := pick_run xs i k
  rw [List.filterMap_map] at this
  have e2 : ((fun x => xs[x]?) ∘ fun x => i + x) = fun m => xs[i + m]? := rfl
  rw [e2] at this
  rw [this]

theorem getItem_tuple_cut {t sl : Addr} {items : Array Value} {vl vu : Value} {lo hi : Option Int} {Q : Value → Shared → Prop} (ht : IsTup s.heap t items) (hs : s.heap.IsSliceOf sl vl vu .none) (pl : IsPart vl lo) (pu : IsPart vu hi)
    (hw : ¬ (sIx items.size 0 lo = 0 ∧ sIx items.size items.size hi = items.size))
    (h : Q (.ref s.heap.objs.size) { s with heap := s.heap.push { cls := .type "tuple", data := .seq ((items.toList.drop (sIx items.size 0 lo)).take (sIx items.size items.size hi - sIx items.size 0 lo)).toArray } })
    (hsz : items.size ≤ sizeLine) : wpAny (model prog w) A (getItem (.ref t) (.ref sl)) Q E s := by
  have htake : sizeOk (.seq ((items.toList.drop (sIx items.size 0 lo)).take (sIx items.size items.size hi - sIx items.size 0 lo)).toArray) := by
    show ((items.toList.drop (sIx items.size 0 lo)).take (sIx items.size items.size hi - sIx items.size 0 lo)).toArray.size ≤ sizeLine
    rw [List.size_toArray, List.length_take, List.length_drop, Array.length_toList]
    (first | lia | omega)
  have hj : sIx items.size items.size hi ≤ items.size := sIx_le _ _ (Nat.le_refl _) hi
  obtain ⟨os, hos, hcs, hds⟩ := id hs
  have hTs : s.TypeIs (.ref sl) "slice" := ⟨os, hos, hcs⟩
  unfold getItem
  try with_reducible refine wpAny_holding ?_
  first | refine wpAny_bind (wpAny_pure ?_) | skip
  refine wpAny_bind (wpAny_sequenceKey ht.typeIs (by decide) ?_)
  refine wpAny_bind (wpAny_callSpecial?_slot (name := Str.ofString "__getitem__") ht.typeIs PyProof.Rows.slot_tuple_getitem
    (wpAny_call_entry PyProof.Rows.slot_tuple_getitem ht.typeIs entry_tuple_getitem ?_ (args_tuple_getitem _ _)))
  show wpAny _ _ (Builtin.Tuple.tupleItemsOf (.ref t) >>= _) _ _ s
  refine wpAny_bind (tupleItemsOf_ ht ?_)
  refine wpAny_bind (wpAny_typeOf hTs ?_)
  rw [if_pos (by decide)]
  refine wpAny_bind (sliceApplied_gen hs pl pu ?_)
  have hno : ¬ ((((sIx items.size 0 lo : Nat) : Int) == 0 && (1 : Int) == 1 && (sIx items.size items.size hi - sIx items.size 0 lo) == items.size) = true) := by
    intro q
    rw [Bool.and_eq_true, Bool.and_eq_true] at q
    have q1 : ((sIx items.size 0 lo : Nat) : Int) = 0 := eq_of_beq q.1.1
    have q2 : sIx items.size items.size hi - sIx items.size 0 lo = items.size := eq_of_beq q.2
    exact hw ⟨by (first | lia | omega), by (first | lia | omega)⟩
  show wpAny _ _ (if (((sIx items.size 0 lo : Nat) : Int) == 0 && (1 : Int) == 1 && (sIx items.size items.size hi - sIx items.size 0 lo) == items.size) = true then _ else _) _ _ s
  rw [if_neg hno, pick_gen]
  first
    | exact wpAny_bind (m := Builtin.Tuple.tupleExact _) (wpAny_newObj_type (wpAny_pure ⟨_, rfl, wpAny_pure h⟩) htake)
    | exact wpAny_bind (m := Builtin.Tuple.tupleExact _) (wpAny_newObj_type (wpAny_bind (wpAny_pure (wpAny_pure ⟨_, rfl, wpAny_pure h⟩))) htake)
    | exact wpAny_bind (wpAny_bind (m := Builtin.Tuple.tupleExact _) (wpAny_newObj_type (wpAny_pure (wpAny_pure ⟨_, rfl, wpAny_pure h⟩)) htake))
    | exact wpAny_bind (wpAny_bind (m := Builtin.Tuple.tupleExact _) (wpAny_newObj_type (wpAny_pure ⟨_, rfl, wpAny_pure h⟩) htake))
end
end HT

namespace L2
open PySem PySem.Spec PyProof.Rows

/-! ### the parts of a slice -/
abbrev TO := St → Hp → (Option Int → Hp → Prop) → Prop
/-- a slice's part (left out, or an int) -/
def PO (X : Cx) (e : Option Expr) (t : TO) : Prop :=
  ∀ (pins : List (Addr × Obj)) (s : Shared) (σ : St) (H : Hp) (Q : Option Int → Hp → Prop), Inv X pins σ H s → t σ H Q →
    wpAny (model X.prog X.w) X.A (evalPart e X.env) (fun u s' => ∃ o H', Inv X pins σ H' s' ∧ IsPart u o ∧ Q o H') X.xe s
def tNoPart : TO := fun _ H Q => Q none H
def tPart (t : TE) : TO := fun σ H Q => t σ H fun x H1 => ∃ i, x = .int i ∧ Q (some i) H1

section
variable {X : Cx} {e : Expr} {te : TE} {lo hi : Option Expr} {tl th : TO} {pos p2 : Pos}

theorem po_none : PO X none tNoPart := by
  intro pins s σ H Q I h
  rw [evalPart_none]
  exact wpAny_pure ⟨none, H, I, .none, h⟩
theorem po_some (h : PE X e te) : PO X (some e) (tPart te) := by
  intro pins s σ H Q I hw
  rw [evalPart_some]
  refine thn (h pins s σ H _ I hw) fun u s1 ⟨x, H1, I1, r1, q1⟩ => ?_
  obtain ⟨i, rfl, q⟩ := q1
  obtain ⟨t, rfl⟩ := r1
  exact ⟨some i, H1, I1, .int i t, q⟩

/-- what a slice of a value is, by values: the slice object stands at sl -/
def SlR (X : Cx) (r : V → Option Int → Option Int → Hp → VK → Prop) : Prop :=
  ∀ (pins : List (Addr × Obj)) (s : Shared) (σ : St) (H : Hp) (x : V) (v vl vu : Value) (lo hi : Option Int) (sl : Addr) (Q : VK), Inv X pins σ H s → RelV x v → s.heap.IsSliceOf sl vl vu .none → IsPart vl lo → IsPart vu hi → r x lo hi H Q →
    ∃ T id, typeLookup (.type T) "__getitem__" = pure (some (.builtin id)) ∧ s.TypeIs v T ∧ wpAny (model X.prog X.w) X.A (getItem v (.ref sl)) (EP X pins σ Q) X.xe s
def tSl (r : V → Option Int → Option Int → Hp → VK → Prop) (te : TE) (tl th : TO) : TE := fun σ H Q => te σ H fun x H1 => tl σ H1 fun l H2 => th σ H2 fun u H3 => r x l u H3 Q
/-- a[lo:hi], any a -/
theorem pe_slice {r : V → Option Int → Option Int → Hp → VK → Prop} (hr : SlR X r) (he : PE X e te) (hl : PO X lo tl) (hu : PO X hi th) : PE X (.Subscript e (.Slice lo hi none p2) pos) (tSl r te tl th) := by
  intro pins s σ H Q I h
  refine Subscript_ (thn (he pins s σ H _ I h) fun v s1 ⟨x, H1, I1, r1, q1⟩ => ?_)
  refine wpAny_Slice (thn (hl pins s1 σ H1 _ I1 q1) fun vl s2 ⟨l, H2, I2, pl, q2⟩ => thn (hu pins s2 σ H2 _ I2 q2) fun vu s3 ⟨u, H3, I3, pu, q3⟩ => ?_)
  rw [evalPart_none]
  refine wpAny_pure ?_
  have I4 : Inv X pins σ H3 { s3 with heap := s3.heap.push { cls := .type "slice", data := .fields #[vl, vu, .none] } } := I3.kept (t' := s3.toks) fun b ob q => Heap.get?_push_of_some _ q
  obtain ⟨T, id, hT, ht, hg⟩ := hr pins { s3 with heap := s3.heap.push { cls := .type "slice", data := .fields #[vl, vu, .none] } } σ H3 x v vl vu l u s3.heap.objs.size Q I4 r1 (Heap.IsSliceOf.new ..) pl pu q3
  show wpAny (model X.prog X.w) X.A (subscriptTail e (.Slice lo hi none p2) v (.ref s3.heap.objs.size)) (EP X pins σ Q) X.xe { s3 with heap := s3.heap.push { cls := .type "slice", data := .fields #[vl, vu, .none] } }
  exact tail_any (ops := [.ref s3.heap.objs.size, v]) ht hT hg (by with_unfolding_all rfl)

/-- the items of xs[lo:hi] -/
def cutV (xs : List V) (lo hi : Option Int) : List V := (xs.drop (HT.sIx xs.length 0 lo)).take (HT.sIx xs.length xs.length hi - HT.sIx xs.length 0 lo)
theorem cutV_length (xs : List V) (lo hi : Option Int) : (cutV xs lo hi).length ≤ xs.length := by
  unfold cutV
  rw [List.length_take, List.length_drop]
  (first | lia | omega)
/-- t[lo:hi], not the whole of it (the whole would be t itself) -/
def rSlT (K : PySem.W.Frag) : V → Option Int → Option Int → Hp → VK → Prop := fun x lo hi H Q => ∃ a xs, x = .ref a ∧ SqT K H a xs ∧
  ¬ (HT.sIx xs.length 0 lo = 0 ∧ HT.sIx xs.length xs.length hi = xs.length) ∧ ∀ p, H p = none → Q (.ref p) (upd H p (.tup (cutV xs lo hi)))
theorem sl_tup : SlR X (rSlT X.K) := by
  intro pins s σ H x v vl vu lo hi sl Q I rx hs pl pu h
  obtain ⟨a, xs, rfl, hx, hw, q⟩ := h
  cases rx
  obtain ⟨its, r, ht, hz⟩ := I.tuple hx
  have hlen : its.toArray.size = xs.length := by rw [List.size_toArray]; exact r.length.symm
  refine ⟨"tuple", _, PyProof.Rows.slot_tuple_getitem.lookup, ht.typeIs, ?_⟩
  refine HT.getItem_tuple_cut ht hs pl pu (by rw [hlen]; exact hw) ?_ (by rw [hlen]; exact hz)
  rw [hlen]
  refine ⟨.ref s.heap.objs.size, _, I.laid (t' := s.toks) (o := .tup (cutV xs lo hi)) (fun b ob q => Heap.get?_push_of_some _ q) (Nat.le_refl _) ?_, rfl, q _ (I.hok.fresh (Nat.le_refl _))⟩
  exact ⟨Nat.le_trans (cutV_length xs lo hi) hz, _, (r.drop (HT.sIx xs.length 0 lo)).take (HT.sIx xs.length xs.length hi - HT.sIx xs.length 0 lo), IsTup.new _ _⟩

/-! ### t < u, t + u -/
/-- t + u, t not empty: u empty gives t itself -/
def rCatT (K : PySem.W.Frag) : R2 := fun x y H Q => ∃ a b xs ys, x = .ref a ∧ y = .ref b ∧ SqT K H a xs ∧ SqT K H b ys ∧ xs ≠ [] ∧ xs.length + ys.length ≤ sizeLine ∧
  (ys = [] → Q (.ref a) H) ∧ (ys ≠ [] → ∀ p, H p = none → Q (.ref p) (upd H p (.tup (xs ++ ys))))
theorem Vals.nil_iff {xs : List V} {us : List Value} (r : Vals xs us) : us = [] ↔ xs = [] := by
  cases r with
  | nil => simp
  | cons _ _ => simp
theorem op_catT : OpR X (binaryOp .Add) (rCatT X.K) := by
  intro pins s σ H x y v u Q I rx ry h
  obtain ⟨a, b, xs, ys, rfl, rfl, ha, hb, hx, hz, q1, q2⟩ := h
  cases rx
  cases ry
  obtain ⟨its, r1, p1, _⟩ := I.tuple ha
  obtain ⟨its2, r2, p2, _⟩ := I.tuple hb
  refine HT.cat_tup p1 p2 (fun z => hx (r1.nil_iff.mp z)) (fun z => ⟨.ref a, H, I, rfl, q1 (r2.nil_iff.mp z)⟩) (fun z => ?_) (by rw [← r1.length, ← r2.length]; exact hz)
  refine ⟨.ref s.heap.objs.size, _, I.laid (t' := s.toks) (o := .tup (xs ++ ys)) (fun b ob q => Heap.get?_push_of_some _ q) (Nat.le_refl _) ?_, rfl, q2 (fun w => z (r2.nil_iff.mpr w)) _ (I.hok.fresh (Nat.le_refl _))⟩
  exact ⟨by rw [List.length_append]; exact hz, _, r1.append r2, IsTup.new _ _⟩
end
end L2

namespace L2
open PySem PySem.Spec PyProof.Rows

/-! ### places -/
/-- the place that an index of any sign means -/
def ixN (n : Nat) (i : Int) : Option Nat := if 0 ≤ i then (if i < n then some i.toNat else none) else if -(n : Int) ≤ i then some (i + n).toNat else none
def atI {α : Type} (xs : List α) (i : Int) : Option α := (ixN xs.length i).bind fun j => xs[j]?
theorem ixN_seq {n : Nat} {i : Int} {j : Nat} (h : ixN n i = some j) : seqIndex? i n = some j ∧ j < n ∧ -(n : Int) ≤ i ∧ i < n := by
  unfold ixN at h
  by_cases h0 : 0 ≤ i
  · rw [if_pos h0] at h
    by_cases h1 : i < n
    · rw [if_pos h1] at h
      have e : i.toNat = j := Option.some.inj h
      exact ⟨by rw [seqIndex_of h0 h1, e], by (first | lia | omega), by (first | lia | omega), h1⟩
    · rw [if_neg h1] at h; cases h
  · rw [if_neg h0] at h
    by_cases h1 : -(n : Int) ≤ i
    · rw [if_pos h1] at h
      have e : (i + n).toNat = j := Option.some.inj h
      exact ⟨by rw [seqIndex_neg (by (first | lia | omega)) h1, e], by (first | lia | omega), h1, by (first | lia | omega)⟩
    · rw [if_neg h1] at h; cases h
theorem atI_get {α : Type} {xs : List α} {i : Int} {v : α} (h : atI xs i = some v) : ∃ j, seqIndex? i xs.length = some j ∧ xs[j]? = some v ∧ j < xs.length ∧ -(xs.length : Int) ≤ i ∧ i < xs.length := by
  unfold atI at h
  cases e : ixN xs.length i with
  | none => rw [e] at h; cases h
  | some j =>
    rw [e] at h
    obtain ⟨h1, h2, h3, h4⟩ := ixN_seq e
    exact ⟨j, h1, h, h2, h3, h4⟩
theorem atI_nat {α : Type} {xs : List α} {j : Nat} {v : α} (h : xs[j]? = some v) : atI xs (j : Int) = some v := by
  have hj : j < xs.length := (List.getElem?_eq_some_iff.mp h).1
  have e : ixN xs.length (j : Int) = some j := by
    unfold ixN
    rw [if_pos (by (first | lia | omega)), if_pos (by (first | lia | omega))]; simp
  unfold atI; rw [e]; exact h

/-! ### what may be subscripted -/
/-- what stands as an index of a plain subscript -/
def PlainIx (b : Expr) : Prop := ∀ o i, subscripted b false o i = operate [o, i] (getItem o i)
/-- a subscript by values -/
def IxR (X : Cx) (r : R2) : Prop :=
  ∀ (value slice : Expr) (pins : List (Addr × Obj)) (s : Shared) (σ : St) (H : Hp) (x y : V) (v u : Value) (Q : VK), Inv X pins σ H s → RelV x v → RelV y u → r x y H Q →
    subscripted slice false v u = operate [v, u] (getItem v u) → wpAny (model X.prog X.w) X.A (subscriptTail value slice v u) (EP X pins σ Q) X.xe s
/-- a call of a builtin's method by values: the receiver, the arguments -/
def MtR (X : Cx) (id : String) (r : V → List V → Hp → VK → Prop) : Prop :=
  ∀ (pins : List (Addr × Obj)) (s : Shared) (σ : St) (H : Hp) (x : V) (xs : List V) (v : Value) (us : List Value) (Q : VK), Inv X pins σ H s → RelV x v → Vals xs us → r x xs H Q →
    wpAny (model X.prog X.w) X.A (call (.builtin id) (v :: us)) (EP X pins σ Q) X.xe s
section
variable {X : Cx} {a b : Expr} {ta tb : TE} {pos : Pos}
/-- a[b] -/
theorem pe_ix {r : R2} (hr : IxR X r) (ha : PE X a ta) (hb : PE X b tb) (hs : PlainIx b) : PE X (.Subscript a b pos) (tOp r ta tb) := by
  intro pins s σ H Q I h
  exact Subscript_ (binT ha hb I h fun v u s2 x y H2 I2 rx ry q => hr a b pins s2 σ H2 x y v u Q I2 rx ry q (hs _ _))

def rIxL (K : PySem.W.Frag) : R2 := fun x y H Q => ∃ p xs i v, x = .ref p ∧ y = .int i ∧ SqL K H p xs ∧ atI xs i = some v ∧ Q v H
def rIxT (K : PySem.W.Frag) : R2 := fun x y H Q => ∃ p xs i v, x = .ref p ∧ y = .int i ∧ SqT K H p xs ∧ atI xs i = some v ∧ Q v H
theorem ix_list : IxR X (rIxL X.K) := by
  intro value slice pins s σ H x y v u Q I rx ry h hs
  obtain ⟨p, xs, i, z, rfl, rfl, hq, he, q⟩ := h
  cases rx
  obtain ⟨t, rfl⟩ := ry
  obtain ⟨its, r, pl, hz⟩ := I.list hq
  obtain ⟨j, h1, h2, h3, h4, h5⟩ := atI_get he
  obtain ⟨w, ew, rw'⟩ := r.get h2
  have hl := r.length
  have hn := line63
  have fin : EP X pins σ Q w s := ⟨z, H, I, rw', q⟩
  by_cases h0 : 0 ≤ i
  · have hj : i.toNat = j := by
      rw [seqIndex_of h0 h5] at h1
      exact Option.some.inj h1
    exact item_listR pl.isList h0 (by (first | lia | omega)) (by rw [hj]; simpa using ew) fin hs
  · have hj : (i + (its.toArray.size : Int)).toNat = j := by
      rw [seqIndex_neg (by (first | lia | omega)) h4] at h1
      rw [List.size_toArray, ← hl]
      exact Option.some.inj h1
    exact subscriptTail_builtinR (x := w) pl.isList.typeIs slot_list_getitem.lookup
      (wpAny_getItem_list_neg (Q := fun r s' => r = w ∧ EP X pins σ Q r s') pl.isList (by (first | lia | omega)) (by rw [List.size_toArray] <;> (first | lia | omega)) (by (first | lia | omega)) (by rw [hj]; simpa using ew) ⟨rfl, fin⟩) hs
theorem ix_tup : IxR X (rIxT X.K) := by
  intro value slice pins s σ H x y v u Q I rx ry h hs
  obtain ⟨p, xs, i, z, rfl, rfl, hq, he, q⟩ := h
  cases rx
  obtain ⟨t, rfl⟩ := ry
  obtain ⟨its, r, pl, hz⟩ := I.tuple hq
  obtain ⟨j, h1, h2, h3, h4, h5⟩ := atI_get he
  obtain ⟨w, ew, rw'⟩ := r.get h2
  have hl := r.length
  have hn := line63
  have fin : EP X pins σ Q w s := ⟨z, H, I, rw', q⟩
  exact subscriptTail_builtinR (x := w) pl.typeIs slot_tuple_getitem.lookup
    (getItem_tuple (j := j) (Q := fun r s' => r = w ∧ EP X pins σ Q r s') pl (by (first | lia | omega)) (by (first | lia | omega)) (by rw [List.size_toArray, ← hl]; exact h1) (by simpa using ew) ⟨rfl, fin⟩) hs

/-! ### xs[i] = v, any sign -/
/-- the list's object behind a store -/
theorem mapSeq_set (its : List Value) (n j : Nat) (u : Value) : Obj.mapSeq (·.setIfInBounds j u) { cls := .type "list", data := .seq its.toArray n } = { cls := .type "list", data := .seq (its.set j u).toArray n } := by
  simp [Obj.mapSeq]
theorem Inv.lst {pins : List (Addr × Obj)} {σ : St} {H : Hp} {s : Shared} {p : Addr} {xs : List V} (I : Inv X pins σ H s) (h : H p = some (.lst xs)) :
    ∃ (its : List Value) (n : Nat), Vals xs its ∧ s.heap.get? p = some { cls := .type "list", data := .seq its.toArray n } ∧ xs.length ≤ sizeLine := by
  obtain ⟨z, its, n, r, e⟩ := I.hok p _ h
  exact ⟨its, n, r, e, z⟩
/-- the list at p is written by an update of its object -/
theorem Inv.lstUpd {pins : List (Addr × Obj)} {σ : St} {H : Hp} {s : Shared} {p : Addr} {xs ys : List V} {its its' : List Value} {n n' : Nat} {f : Obj → Obj} (I : Inv X pins σ H s) (h : H p = some (.lst xs))
    (ho : s.heap.get? p = some { cls := .type "list", data := .seq its.toArray n }) (hf : f { cls := .type "list", data := .seq its.toArray n } = { cls := .type "list", data := .seq its'.toArray n' }) (r : Vals ys its') (hz : ys.length ≤ sizeLine) (t : Nat) :
    Inv X pins σ (upd H p (.lst ys)) { s with heap := s.heap.update p f, toks := t } := by
  have e : (s.heap.update p f).get? p = some { cls := .type "list", data := .seq its'.toArray n' } := by
    rw [Heap.get?_update_self f ho (by rw [hf] <;> rfl), hf]
  refine I.write (x := p) (e := p) (by rw [h]; trivial) (.inl rfl) (fun b u hb q => (Heap.get?_update_other _ _ (Ne.symm hb)).trans q) ⟨_, e⟩ ?_
  exact ⟨hz, its', n', r, e⟩
def rSetL : V → V → V → Hp → (Hp → Prop) → Prop := fun o i v H Q => ∃ p xs k j, o = .ref p ∧ i = .int k ∧ H p = some (.lst xs) ∧ ixN xs.length k = some j ∧ Q (upd H p (.lst (xs.set j v)))
theorem set_list : PSet X rSetL := by
  intro pins s σ H o i v ov iv u Q I ro ri rv h
  obtain ⟨p, xs, k, j, rfl, rfl, hp, hj, q⟩ := h
  cases ro
  obtain ⟨t, rfl⟩ := ri
  obtain ⟨its, n, r, ho, hz⟩ := I.lst hp
  obtain ⟨h1, h2, h3, h4⟩ := ixN_seq hj
  have hl := r.length
  have hn := line63
  have I' : Inv X pins σ (upd H p (.lst (xs.set j v))) { s with heap := s.heap.update p (Obj.mapSeq (·.setIfInBounds j u)) } :=
    I.lstUpd hp ho (mapSeq_set its n j u) (r.set rv j) (by rw [List.length_set]; exact hz) s.toks
  by_cases h0 : 0 ≤ k
  · have hk : k.toNat = j := by
      rw [seqIndex_of h0 h4] at h1
      exact Option.some.inj h1
    exact PySem.W.ki_setAt ho h0 (by (first | lia | omega)) (by rw [List.size_toArray, ← hl]; exact h4) (by rw [hk]; exact ⟨_, I', q⟩)
  · have hk : (k + (its.toArray.size : Int)).toNat = j := by
      rw [seqIndex_neg (by (first | lia | omega)) h3] at h1
      rw [List.size_toArray, ← hl]
      exact Option.some.inj h1
    exact PySem.W.ki_setBack ho (by (first | lia | omega)) (by rw [List.size_toArray, ← hl]; exact h3) (by (first | lia | omega)) (by rw [hk]; exact ⟨_, I', q⟩)

/-! ### slices -/
theorem slice_bounds (lo hi : Option Int) (n : Nat) : (sliceBounds lo hi none n).1 = ((HT.sIx n 0 lo : Nat) : Int) ∧ (sliceBounds lo hi none n).2.1 = ((HT.sIx n n hi : Nat) : Int) ∧ (sliceBounds lo hi none n).2.2 = 1 := by
  refine ⟨?_, ?_, rfl⟩
  · cases lo with
    | none => simp [sliceBounds, HT.sIx]
    | some i =>
      simp only [sliceBounds, HT.sIx, Option.getD_none, show (1 : Int) > 0 by decide, if_true]
      by_cases h : i < 0
      · simp only [h, if_true] <;> (first | lia | omega)
      · simp only [h, if_false] <;> (first | lia | omega)
  · cases hi with
    | none => simp [sliceBounds, HT.sIx]
    | some i =>
      simp only [sliceBounds, HT.sIx, Option.getD_none, show (1 : Int) > 0 by decide, if_true]
      by_cases h : i < 0
      · simp only [h, if_true] <;> (first | lia | omega)
      · simp only [h, if_false] <;> (first | lia | omega)
theorem slicePick_cut (its : List Value) (lo hi : Option Int) : slicePick its.toArray lo hi none = ((its.drop (HT.sIx its.length 0 lo)).take (HT.sIx its.length its.length hi - HT.sIx its.length 0 lo)).toArray := by
  obtain ⟨h1, h2, h3⟩ := slice_bounds lo hi its.toArray.size
  unfold slicePick
  rw [h1, h2, h3]
  simp only [sliceRange_one, pick_run, List.size_toArray] <;> rfl
/-- xs[lo:hi] of a list: a new list -/
def rSlL (K : PySem.W.Frag) : V → Option Int → Option Int → Hp → VK → Prop := fun x lo hi H Q => ∃ a xs, x = .ref a ∧ SqL K H a xs ∧ ∀ p, H p = none → Q (.ref p) (upd H p (.lst (cutV xs lo hi)))
theorem sl_list : SlR X (rSlL X.K) := by
  intro pins s σ H x v vl vu lo hi sl Q I rx hs pl pu h
  obtain ⟨a, xs, rfl, hx, q⟩ := h
  cases rx
  obtain ⟨its, r, ht, hz⟩ := I.list hx
  have hlen := r.length
  refine ⟨"list", _, slot_list_getitem.lookup, ht.isList.typeIs, ?_⟩
  refine wpAny_getItem_list_slice ht.isList hs pl pu .none (by simp) ?_ (by rw [List.size_toArray] <;> (first | lia | omega))
  rw [slicePick_cut, ← hlen]
  refine ⟨.ref s.heap.objs.size, _, I.laid (t' := s.toks) (o := .lst (cutV xs lo hi)) (fun b ob q => Heap.get?_push_of_some _ q) (Nat.le_refl _) ?_, rfl, q _ (I.hok.fresh (Nat.le_refl _))⟩
  exact ⟨Nat.le_trans (cutV_length xs lo hi) hz, _, 0, (r.drop (HT.sIx xs.length 0 lo)).take (HT.sIx xs.length xs.length hi - HT.sIx xs.length 0 lo), Heap.get?_push_size _ rfl⟩

/-! ### in, not in: flat items -/
def flatV : V → Bool
  | .non => true
  | .bl _ => true
  | .int _ => true
  | .str _ => true
  | _ => false
/-- == of flat values -/
def eqV : V → V → Bool
  | .non, .non => true
  | .bl a, .bl b => a == b
  | .bl a, .int b => (if a then 1 else 0) == b
  | .int a, .bl b => a == (if b then 1 else 0)
  | .int a, .int b => a == b
  | .str a, .str b => a == b
  | _, _ => false
theorem eqAt_V {A : Around} {s : Shared} {y x : V} {u v : Value} (ry : RelV y u) (rx : RelV x v) (fy : flatV y = true) (fx : flatV x = true) : SeqAt.EqAt A s u v (eqV y x) := by
  cases y with
  | non =>
    cases ry
    cases x with
    | non => cases rx; exact SeqAt.EqAt.same _
    | bl b => cases rx; exact SeqAt.EqAt.none_bool b
    | int b => obtain ⟨t, rfl⟩ := rx; exact SeqAt.EqAt.none_int b t
    | str b => obtain ⟨t, rfl⟩ := rx; exact SeqAt.EqAt.none_str b t
    | _ => exact absurd (show false = true from fx) Bool.false_ne_true
  | bl a =>
    cases ry
    cases x with
    | non => cases rx; exact SeqAt.EqAt.bool_none a
    | bl b => cases rx; exact SeqAt.EqAt.bool_bool a b
    | int b => obtain ⟨t, rfl⟩ := rx; exact SeqAt.EqAt.bool_int a b t
    | str b => obtain ⟨t, rfl⟩ := rx; exact SeqAt.EqAt.bool_str a b t
    | _ => exact absurd (show false = true from fx) Bool.false_ne_true
  | int a =>
    obtain ⟨t', rfl⟩ := ry
    cases x with
    | non => cases rx; exact SeqAt.EqAt.int_none a t'
    | bl b => cases rx; exact SeqAt.EqAt.int_bool a t' b
    | int b => obtain ⟨t, rfl⟩ := rx; exact SeqAt.EqAt.int_int a t' b t
    | str b => obtain ⟨t, rfl⟩ := rx; exact SeqAt.EqAt.int_str a t' b t
    | _ => exact absurd (show false = true from fx) Bool.false_ne_true
  | str a =>
    obtain ⟨t', rfl⟩ := ry
    cases x with
    | non => cases rx; exact SeqAt.EqAt.str_none a t'
    | bl b => cases rx; exact SeqAt.EqAt.str_bool a t' b
    | int b => obtain ⟨t, rfl⟩ := rx; exact SeqAt.EqAt.str_int a t' b t
    | str b => obtain ⟨t, rfl⟩ := rx; exact SeqAt.EqAt.str_str a t' b t
    | _ => exact absurd (show false = true from fx) Bool.false_ne_true
  | _ => exact absurd (show false = true from fy) Bool.false_ne_true
/-- the items' answers, read off the values (a value's own answer does not lean on its token) -/
def eqU (x : V) (u : Value) : Bool := match u with
  | .none => eqV .non x
  | .bool b => eqV (.bl b) x
  | .int i _ => eqV (.int i) x
  | .str z _ => eqV (.str z) x
  | _ => false
theorem eqU_of {x y : V} {u : Value} (r : RelV y u) (f : flatV y = true) : eqU x u = eqV y x := by
  cases y with
  | non => cases r; rfl
  | bl b => cases r; rfl
  | int i => obtain ⟨t, rfl⟩ := r; rfl
  | str z => obtain ⟨t, rfl⟩ := r; rfl
  | _ => exact absurd (show false = true from f) Bool.false_ne_true
theorem any_eqU {x : V} : ∀ {xs : List V} {us : List Value}, Vals xs us → xs.all flatV = true → us.any (eqU x) = xs.any fun y => eqV y x
  | _, _, .nil, _ => rfl
  | y :: xs, u :: us, .cons r t, f => by
    rw [List.all_cons, Bool.and_eq_true] at f
    rw [List.any_cons, List.any_cons, eqU_of r f.1, any_eqU t f.2]
theorem mem_eqAt {A : Around} {s : Shared} {x : V} {v : Value} (rx : RelV x v) (fx : flatV x = true) : ∀ {xs : List V} {us : List Value}, Vals xs us → xs.all flatV = true → ∀ u ∈ us, SeqAt.EqAt A s u v (eqU x u)
  | _, _, .nil, _ => fun u hu => by cases hu
  | y :: xs, u :: us, .cons r t, f => fun u' hu => by
    rw [List.all_cons, Bool.and_eq_true] at f
    rcases List.mem_cons.mp hu with rfl | hu
    · rw [eqU_of r f.1]; exact eqAt_V r rx f.1 fx
    · exact mem_eqAt rx fx t f.2 u' hu
def inV (x : V) (xs : List V) : Bool := xs.any fun y => eqV y x
/-- x in a list or tuple of flat items -/
def rIn (K : PySem.W.Frag) (neg : Bool) : R2 := fun x y H Q => ∃ p xs, y = .ref p ∧ (SqL K H p xs ∨ SqT K H p xs) ∧ flatV x = true ∧ xs.all flatV = true ∧ Q (.bl (if neg then !inV x xs else inV x xs)) H
theorem op_in_seq : OpR X (compareOp .In) (rIn X.K false) := by
  intro pins s σ H x y v u Q I rx ry h
  obtain ⟨p, xs, rfl, hq, fx, fs, q⟩ := h
  cases ry
  rcases hq with hq | hq
  · obtain ⟨its, r, pl, hz⟩ := I.list hq
    refine SeqAt.in_listAt (eqU x) pl.isList (fun w hw => mem_eqAt rx fx r fs w (by simpa using hw)) ⟨.bl _, H, I, rfl, ?_⟩
    rw [show its.toArray.any (eqU x) = its.any (eqU x) by simp, any_eqU r fs]
    exact q
  · obtain ⟨its, r, pl, hz⟩ := I.tuple hq
    refine SeqAt.in_tupleAt (eqU x) pl (fun w hw => mem_eqAt rx fx r fs w (by simpa using hw)) ⟨.bl _, H, I, rfl, ?_⟩
    rw [show its.toArray.any (eqU x) = its.any (eqU x) by simp, any_eqU r fs]
    exact q
theorem op_notIn_seq : OpR X (compareOp .NotIn) (rIn X.K true) := by
  intro pins s σ H x y v u Q I rx ry h
  obtain ⟨p, xs, rfl, hq, fx, fs, q⟩ := h
  cases ry
  rcases hq with hq | hq
  · obtain ⟨its, r, pl, hz⟩ := I.list hq
    refine SeqAt.notIn_listAt (eqU x) pl.isList (fun w hw => mem_eqAt rx fx r fs w (by simpa using hw)) ⟨.bl _, H, I, rfl, ?_⟩
    rw [show its.toArray.any (eqU x) = its.any (eqU x) by simp, any_eqU r fs]
    exact q
  · obtain ⟨its, r, pl, hz⟩ := I.tuple hq
    refine SeqAt.notIn_tupleAt (eqU x) pl (fun w hw => mem_eqAt rx fx r fs w (by simpa using hw)) ⟨.bl _, H, I, rfl, ?_⟩
    rw [show its.toArray.any (eqU x) = its.any (eqU x) by simp, any_eqU r fs]
    exact q

/-! ### len, list(x), tuple(x) of any list or tuple that is read -/
theorem call_len_seq : CallR X (.builtin "len") (fun xs H Q => ∃ p ys, xs = [.ref p] ∧ (SqL X.K H p ys ∨ SqT X.K H p ys) ∧ Q (.int ys.length) H) := by
  intro pins s σ H xs us Q I r h
  obtain ⟨p, ys, rfl, hq, q⟩ := h
  obtain ⟨u, rfl, rx⟩ := vals1 r
  cases rx
  have hn := line63
  rcases hq with hq | hq
  · obtain ⟨its, r', pl, hz⟩ := I.list hq
    have hlen := r'.length
    exact Calls.call_len_list pl.isList (by simp only [List.size_toArray] <;> (first | lia | omega)) ⟨.int ys.length, H, I.tok _, ⟨s.toks + 1, by rw [List.size_toArray, hlen]⟩, q⟩
  · obtain ⟨its, r', pl, hz⟩ := I.tuple hq
    have hlen := r'.length
    exact len_tuple pl (by simp only [List.size_toArray] <;> (first | lia | omega)) ⟨.int ys.length, H, I.tok _, ⟨s.toks + 1, by rw [List.size_toArray, hlen]⟩, q⟩
theorem call_list_of : CallR X (.type "list") (fun xs H Q => ∃ p ys, xs = [.ref p] ∧ (SqL X.K H p ys ∨ SqT X.K H p ys) ∧ ∀ l, H l = none → Q (.ref l) (upd H l (.lst ys))) := by
  intro pins s σ H xs us Q I r h
  obtain ⟨p, ys, rfl, hq, q⟩ := h
  obtain ⟨u, rfl, rx⟩ := vals1 r
  cases rx
  have fin : ∀ (its : List Value), Vals ys its → ys.length ≤ sizeLine → ∀ (h' : Heap) (c' : Nat), (∀ b o', s.heap.get? b = some o' → h'.get? b = some o') →
      h'.get? s.heap.objs.size = some { cls := .type "list", dict := none, data := .seq its.toArray c', slots := #[] } → EP X pins σ Q (.ref s.heap.objs.size) { s with heap := h' } := fun its r' hz h' c' kp e =>
    ⟨.ref s.heap.objs.size, _, I.laid (t' := s.toks) kp (Nat.le_refl _) (show ObjOk X.prog X.w _ h' _ (.lst ys) from ⟨hz, its, c', r', e⟩), rfl, q _ (I.hok.fresh (Nat.le_refl _))⟩
  rcases hq with hq | hq
  · obtain ⟨its, r', pl, hz⟩ := I.list hq
    have hlen := r'.length
    obtain ⟨o, ho, hc, n, hd⟩ := pl.isList
    exact call_list_seq p (.inl rfl) ho hc hd (fun h' c' kp e => fin its r' hz h' c' kp e) (by simp only [List.size_toArray] <;> (first | lia | omega))
  · obtain ⟨its, r', pl, hz⟩ := I.tuple hq
    have hlen := r'.length
    obtain ⟨o, ho, hc, n, hd⟩ := pl
    exact call_list_seq p (.inr rfl) ho hc hd (fun h' c' kp e => fin its r' hz h' c' kp e) (by simp only [List.size_toArray] <;> (first | lia | omega))

/-! ### the call of a builtin's method: o.m(..) -/
/-- the value is of that builtin type -/
def tyV (K : PySem.W.Frag) (T : String) (x : V) (H : Hp) : Prop := match x with
  | .str _ => T = "str"
  | .int _ => T = "int"
  | .ref p => (T = "list" ∧ ∃ xs, SqL K H p xs) ∨ (T = "tuple" ∧ ∃ o, K.lookup p = some o ∧ o.cls = .type "tuple" ∧ o.dict = none) ∨
      (T = "dict" ∧ ((∃ kvs, H p = some (.dK kvs)) ∨ ∃ kvs, H p = some (.dT kvs))) ∨ (T = "set" ∧ ∃ S n, H p = some (.set S n))
  | _ => False
theorem tyV_is {pins : List (Addr × Obj)} {σ : St} {H : Hp} {s : Shared} {T : String} {x : V} {v : Value} (I : Inv X pins σ H s) (r : RelV x v) (ty : tyV X.K T x H) :
    s.TypeIs v T ∧ ∀ a, v = .ref a → ∃ ob, s.heap.get? a = some ob ∧ ob.dict = none := by
  cases x with
  | str z =>
    obtain ⟨t, rfl⟩ := r
    cases (show T = "str" from ty)
    exact ⟨typeIs_str s z t, fun _ e => nomatch e⟩
  | int i =>
    obtain ⟨t, rfl⟩ := r
    cases (show T = "int" from ty)
    exact ⟨typeIs_int s i t, fun _ e => nomatch e⟩
  | ref p =>
    cases r
    rcases ty with ⟨rfl, xs, hq⟩ | ⟨rfl, o, hk, hc, hd⟩ | ⟨rfl, hk⟩ | ⟨rfl, S, n, hk⟩
    · obtain ⟨its, _, pl, _⟩ := I.list hq
      refine ⟨pl.isList.typeIs, fun a e => ?_⟩
      cases e
      obtain ⟨o, n, e, c, hd, _⟩ := pl
      exact ⟨o, e, hd⟩
    · refine ⟨⟨o, I.kIn p o hk, hc⟩, fun a e => ?_⟩
      cases e
      exact ⟨o, I.kIn _ o hk, hd⟩
    · have z : ∃ o, s.heap.get? p = some o ∧ o.ExactDict := by
        rcases hk with ⟨kvs, hk⟩ | ⟨kvs, hk⟩
        · obtain ⟨_, _, _, _, o, _, _, e, ex, _⟩ := I.hok p _ hk
          exact ⟨o, e, ex⟩
        · obtain ⟨_, _, _, _, o, _, _, e, ex, _⟩ := I.hok p _ hk
          exact ⟨o, e, ex⟩
      obtain ⟨o, e, ex⟩ := z
      refine ⟨⟨o, e, ex.1⟩, fun a e2 => ?_⟩
      cases e2
      exact ⟨o, e, ex.2.1⟩
    · obtain ⟨o, _, _, _, e, ex, _⟩ := I.hok p _ hk
      refine ⟨⟨o, e, ex.1⟩, fun a e2 => ?_⟩
      cases e2
      exact ⟨o, e, ex.2.1⟩
  | _ => exact False.elim ty
def tBM0 (K : PySem.W.Frag) (T : String) (r : V → List V → Hp → VK → Prop) (to : TE) : TE := fun σ H Q => to σ H fun x H1 => tyV K T x H1 ∧ r x [] H1 Q
def tBM (K : PySem.W.Frag) (T : String) (r : V → List V → Hp → VK → Prop) (to : TE) (t : TA) : TE := fun σ H Q => to σ H fun x H1 => tyV K T x H1 ∧ t σ H1 fun xs H2 => r x xs H2 Q
variable {o e : Expr} {es : List Expr} {to : TE} {t : TA} {name : Str} {apos cpos : Pos} {T id : String} {r : V → List V → Hp → VK → Prop}
theorem pe_bm0 (pa : PlainAttrs T) (slot : Slot T name id) (hty : typeOf (.builtin id) = pure (.type "method_descriptor")) (hm : MtR X id r) (ho : PE X o to)
    (hbase : attributeBase o name X.env (eval o X.env) = eval o X.env := by rfl) (hline : (apos.endLine == cpos.line) = true := by rfl) : PE X (.Call (.Attribute o name apos) [] [] cpos) (tBM0 X.K T r to) := by
  intro pins s σ H Q I h
  refine wpAny_Call_method0_late hbase hline (thn (ho pins s σ H _ I h) fun v s1 ⟨x, H1, I1, r1, ty, q1⟩ => ?_)
  obtain ⟨h1, h2⟩ := tyV_is I1 r1 ty
  exact ⟨T, id, pa, slot, hty, h1, h2, Calls.callWith_builtin rfl (PySem.evalArgs_none (hm pins s1 σ H1 x [] v [] Q I1 r1 .nil q1))⟩
theorem pe_bm (pa : PlainAttrs T) (slot : Slot T name id) (hty : typeOf (.builtin id) = pure (.type "method_descriptor")) (hm : MtR X id r) (ho : PE X o to) (ha : PA X (e :: es) t)
    (hbase : attributeBase o name X.env (eval o X.env) = eval o X.env := by rfl)
    (hfew : ((backTo cpos (starEach (e :: es) X.env)).all (fun x => !x.1) && (backToKw cpos (keywordEach [] X.env)).all (fun x => x.1.isSome)
      && decide ((e :: es).length + ([] : List Keyword).length + (if ([] : List Keyword).isEmpty then 0 else 1) < 30)) = true := by rfl)
    (hline : (apos.endLine == cpos.line) = true := by rfl) (hs : starEach (e :: es) X.env = (false, eval e X.env) :: starEach es X.env := by rfl) (hplain : (backTo cpos (starEach es X.env)).any (·.1) = false := by rfl) :
    PE X (.Call (.Attribute o name apos) (e :: es) [] cpos) (tBM X.K T r to t) := by
  intro pins s σ H Q I h
  refine wpAny_Call_method_late hbase hfew hline rfl (thn (ho pins s σ H _ I h) fun v s1 ⟨x, H1, I1, r1, ty, q1⟩ => ?_)
  obtain ⟨h1, h2⟩ := tyV_is I1 r1 ty
  refine ⟨T, id, pa, slot, hty, h1, h2, ?_⟩
  have hA := ha cpos pins s1 σ H1 _ I1 q1
  rw [hs] at hA ⊢
  refine Calls.callWith_builtin (by show (false || (backTo cpos (starEach es X.env)).any (·.1)) = false; rw [hplain] <;> rfl) (Calls.evalArgs_plain ?_)
  exact thn hA fun us s2 ⟨vs, H2, I2, r2, q2⟩ => hm pins s2 σ H2 x vs v us Q I2 r1 r2 q2
/- xs.append(e), list.index on a module's tuple .. are MtR facts of 06m -/
end
end L2

namespace L2
open PySem PySem.Spec PyProof.Rows

def MtM (X : Cx) (id : String) (r : V → List V → Hp → VK → Prop) : Prop :=
  ∀ (pins : List (Addr × Obj)) (s : Shared) (σ : St) (H : Hp) (x : V) (xs : List V) (v : Value) (us : List Value) (Q : VK), Inv X pins σ H s → RelV x v → Vals xs us → r x xs H Q →
    wpAny (model X.prog X.w) X.A (call (.builtin id) (v :: us)) (EP X pins σ Q) X.xe s

/-! ### lists of values -/
theorem Vals.one : ∀ {x : V} {us : List Value}, Vals [x] us → ∃ u, us = [u] ∧ RelV x u
  | _, _, .cons r .nil => ⟨_, rfl, r⟩
theorem Vals.two : ∀ {x y : V} {us : List Value}, Vals [x, y] us → ∃ u v, us = [u, v] ∧ RelV x u ∧ RelV y v
  | _, _, _, .cons r (.cons q .nil) => ⟨_, _, rfl, r, q⟩
theorem Vals.zero : ∀ {us : List Value}, Vals [] us → us = []
  | _, .nil => rfl
theorem Vals.eraseIdx : ∀ {xs : List V} {us : List Value} (i : Nat), Vals xs us → Vals (xs.eraseIdx i) (us.eraseIdx i)
  | _, _, _, .nil => .nil
  | _, _, 0, .cons _ t => t
  | _, _, i + 1, .cons r t => .cons r (Vals.eraseIdx i t)
theorem len_erase {α : Type} : ∀ (l : List α) (i : Nat), (l.eraseIdx i).length ≤ l.length
  | [], _ => Nat.le_refl _
  | _ :: _, 0 => Nat.le_succ _
  | _ :: r, i + 1 => Nat.succ_le_succ (len_erase r i)

section
variable {X : Cx} {pins : List (Addr × Obj)} {σ : St} {H : Hp} {s : Shared} {l b : Addr} {xs ys zs : List V}

/-! ### the two steps: a tracked list is rewritten, a new list is laid -/
theorem Inv.lset {its its' : List Value} {n : Nat} {f : Array Value → Array Value} {t' : Nat} (I : Inv X pins σ H s) (hH : H l = some (.lst xs))
    (e : s.heap.get? l = some { cls := .type "list", data := .seq its.toArray n }) (hf : f its.toArray = its'.toArray) (hv : Vals ys its') (hz : ys.length ≤ sizeLine) :
    Inv X pins σ (upd H l (.lst ys)) { s with heap := s.heap.update l (Obj.mapSeq f), toks := t' } := by
  have q := PySem.IsL.update e f
  rw [hf] at q
  refine I.write (x := l) (e := l) (by rw [hH]; exact trivial) (.inl rfl) (fun b' u hb hu => (Heap.get?_update_other s.heap (Obj.mapSeq f) (Ne.symm hb)).trans hu) ⟨_, q⟩ ?_
  exact ⟨hz, its', _, hv, q⟩
theorem Inv.lnew {its : List Value} {t' : Nat} (I : Inv X pins σ H s) (hv : Vals ys its) (hz : ys.length ≤ sizeLine) :
    Inv X pins σ (upd H s.heap.objs.size (.lst ys)) { s with heap := s.heap.push { cls := .type "list", data := .seq its.toArray }, toks := t' } :=
  I.laid (fun _ _ q => Heap.get?_push_of_some _ q) (Nat.le_refl _) ⟨hz, its, 0, hv, Heap.get?_push_size _ rfl⟩
theorem Inv.fresh (I : Inv X pins σ H s) : H s.heap.objs.size = none := I.hok.fresh (Nat.le_refl _)
theorem Inv.lstM (I : Inv X pins σ H s) (hH : H l = some (.lst xs)) : xs.length ≤ sizeLine ∧ ∃ (its : List Value) (n : Nat), Vals xs its ∧ xs.length = its.length ∧ s.heap.get? l = some { cls := .type "list", data := .seq its.toArray n } := by
  obtain ⟨z, its, n, r, e⟩ := I.hok l _ hH
  exact ⟨z, its, n, r, r.length, e⟩

theorem notLongL {n : Nat} (h : n ≤ sizeLine) : Builtin.List.listTooLong n = false := by
  unfold Builtin.List.listTooLong
  exact decide_eq_false (by (first | lia | omega))
end

section
variable {X : Cx}

/-! ### methods -/
def rAppend : V → List V → Hp → VK → Prop := fun x vs H Q => ∃ l xs y, x = .ref l ∧ vs = [y] ∧ H l = some (.lst xs) ∧ xs.length < sizeLine ∧ Q .non (upd H l (.lst (xs ++ [y])))
theorem mt_append : MtM X "list.append" rAppend := by
  intro pins s σ H x vs v us Q I rx rv h
  obtain ⟨l, xs, y, rfl, rfl, hH, hz, q⟩ := h
  cases rx
  obtain ⟨u, rfl, ru⟩ := rv.one
  obtain ⟨z, its, n, r, hl, e⟩ := I.lstM hH
  refine call_meets F.slot_list_append ⟨_, e, rfl⟩ F.entry_list_append (F.args_list_append_2 _ _) (PySem.list_append l its.toArray n u (by rw [List.size_toArray]; (first | lia | omega))) ⟨e, ?_⟩
  refine ⟨.non, _, I.lset (its' := its ++ [u]) hH e (by simp) (r.append (.cons ru .nil)) ?_, rfl, q⟩
  rw [List.length_append, List.length_singleton]
  (first | lia | omega)

def rExtend : V → List V → Hp → VK → Prop := fun x vs H Q => ∃ l b xs zs, x = .ref l ∧ vs = [.ref b] ∧ H l = some (.lst xs) ∧ H b = some (.lst zs) ∧ xs.length + zs.length ≤ sizeLine ∧ Q .non (upd H l (.lst (xs ++ zs)))
theorem mt_extend : MtM X "list.extend" rExtend := by
  intro pins s σ H x vs v us Q I rx rv h
  obtain ⟨l, b, xs, zs, rfl, rfl, hH, hB, hz, q⟩ := h
  cases rx
  obtain ⟨u, rfl, ru⟩ := rv.one
  cases ru
  obtain ⟨z, its, n, r, hl, e⟩ := I.lstM hH
  obtain ⟨z2, its2, n2, r2, hl2, e2⟩ := I.lstM hB
  have hsz : its.toArray.size + its2.toArray.size ≤ sizeLine := by rw [List.size_toArray, List.size_toArray]; (first | lia | omega)
  have hlong : ¬ (!its.toArray.isEmpty && Builtin.List.listTooLong (its.toArray.size + its2.toArray.size)) = true := by
    rw [notLongL hsz, Bool.and_false]
    exact Bool.false_ne_true
  refine call_meets F.slot_list_extend ⟨_, e, rfl⟩ F.entry_list_extend (F.args_list_extend_2 _ _)
    (AutoSeq1.list_extend_list_list_0 l its.toArray n b its2.toArray n2 hlong (by rw [List.size_toArray]; (first | lia | omega)) (by (first | lia | omega))) ⟨e, e2, ?_⟩
  refine ⟨.non, _, I.lset (its' := its ++ its2) hH e (by simp) (r.append r2) ?_, rfl, q⟩
  rw [List.length_append]
  (first | lia | omega)

def rPopAt : V → List V → Hp → VK → Prop := fun x vs H Q => ∃ l xs i k y, x = .ref l ∧ vs = [.int i] ∧ H l = some (.lst xs) ∧ -(2 ^ 63) ≤ i ∧ i < 2 ^ 63 ∧ seqIndex? i xs.length = some k ∧ xs[k]? = some y ∧ Q y (upd H l (.lst (xs.eraseIdx k)))
theorem mt_popAt : MtM X "list.pop" rPopAt := by
  intro pins s σ H x vs v us Q I rx rv h
  obtain ⟨l, xs, i, k, y, rfl, rfl, hH, h1, h2, hk, hy, q⟩ := h
  cases rx
  obtain ⟨u, rfl, ru⟩ := rv.one
  obtain ⟨t, rfl⟩ := ru
  obtain ⟨z, its, n, r, hl, e⟩ := I.lstM hH
  obtain ⟨w, hw, rw'⟩ := r.get hy
  refine call_meets F.slot_list_pop ⟨_, e, rfl⟩ F.entry_list_pop (F.args_list_pop_2 _ _)
    (MeetsSeq.list_pop_at l its.toArray n i t k w (fitsIndex_both h1 h2) (by rw [List.size_toArray, ← hl]; exact hk) (by rw [← Array.getElem?_toList]; exact hw) (by rw [List.size_toArray]; (first | lia | omega))) ⟨e, ?_⟩
  refine ⟨y, _, I.lset (its' := its.eraseIdx k) hH e ?_ (r.eraseIdx k) ?_, rw', q⟩
  · show its.toArray.eraseIdxIfInBounds k = (its.eraseIdx k).toArray
    rw [List.eraseIdxIfInBounds_toArray]
  · have := len_erase xs k
    (first | lia | omega)

def rClear : V → List V → Hp → VK → Prop := fun x vs H Q => ∃ l xs, x = .ref l ∧ vs = [] ∧ H l = some (.lst xs) ∧ Q .non (upd H l (.lst []))
theorem mt_clear : MtM X "list.clear" rClear := by
  intro pins s σ H x vs v us Q I rx rv h
  obtain ⟨l, xs, rfl, rfl, hH, q⟩ := h
  cases rx
  have hus := rv.zero
  subst hus
  obtain ⟨z, its, n, r, hl, e⟩ := I.lstM hH
  refine call_meets F.slot_list_clear ⟨_, e, rfl⟩ F.entry_list_clear (F.args_list_clear_1 _) (AutoSeq1.list_clear_list_0 l its.toArray n (by rw [List.size_toArray]; (first | lia | omega))) ⟨e, ?_⟩
  exact ⟨.non, _, I.lset (its' := []) (ys := []) hH e rfl .nil (Nat.zero_le _), rfl, q⟩

/-! ### list + list, list += list, list * int -/
def rCat : R2 := fun x y H Q => ∃ l b xs zs, x = .ref l ∧ y = .ref b ∧ H l = some (.lst xs) ∧ H b = some (.lst zs) ∧ xs.length + zs.length ≤ sizeLine ∧ ∀ p, H p = none → Q (.ref p) (upd H p (.lst (xs ++ zs)))
theorem op_cat : OpR X (binaryOp .Add) rCat := by
  intro pins s σ H x y v u Q I rx ry h
  obtain ⟨l, b, xs, zs, rfl, rfl, hH, hB, hz, q⟩ := h
  cases rx
  cases ry
  obtain ⟨z, its, n, r, hl, e⟩ := I.lstM hH
  obtain ⟨z2, its2, n2, r2, hl2, e2⟩ := I.lstM hB
  refine PySem.P.add_list e e2 ?_ (by rw [List.size_toArray, List.size_toArray]; (first | lia | omega))
  have ea : its.toArray ++ its2.toArray = (its ++ its2).toArray := by simp
  rw [ea]
  exact ⟨.ref _, _, I.lnew (t' := s.toks) (r.append r2) (by rw [List.length_append]; (first | lia | omega)), rfl, q _ I.fresh⟩

/-! ### del xs[i] -/
end

/-! ### xs[a:b] = ys -/
section
variable {prog : Program} {w : World} {A : Around} {E : Value → Shared → Prop} {s : Shared}
set_option maxRecDepth 100000 in
end

section
variable {X : Cx}
end
end L2

namespace Att
open PySem PySem.W PySem.Calls PyProof.Rows

/-! ### the script -/
theorem ints_of_wellAll {P : Params} {h : Heap} : ∀ (ns : List Int) (vs : List Value), WellAll P h vs (ns.map WData.int) → IntsAre vs ns := by
  intro ns
  induction ns with
  | nil =>
    intro vs w
    rw [List.map_nil] at w
    cases w
    exact .nil
  | cons n ns ih =>
    intro vs w
    rw [List.map_cons] at w
    cases w with
    | cons a b =>
      cases a
      exact .cons _ _ (ih _ b)

theorem script_of {l : OpenLaw} {n : Nat} (hn : l.most = some n) {P : Params} {h : Heap} {args : List WData} {vals : List Value}
    (hpre : l.row.toRowW.claim.pre args = true) (hwl : WellAll P h vals args) :
    ∃ a vs ns, vals = [Value.ref a] ∧ args = [WData.list (ns.map WData.int)] ∧ h.get? a = some { cls := .type "list", data := .seq vs.toArray } ∧ IntsAre vs ns ∧ ns.length ≤ n := by
  have hsh : WShape.hasAll [] args [.list .int] = true := (pre_splitW hpre).1
  have hc : l.pre.holds [] { args := args } = true := (pre_splitW hpre).2
  obtain ⟨d, r, rfl, h1, h2⟩ := hasAllW_cons hsh
  obtain rfl := hasAllW_nil h2
  obtain ⟨xs, rfl, h3⟩ := hasW_list h1
  obtain ⟨ns, rfl⟩ := items_int h3
  have hlen : ns.length ≤ n := by
    unfold OpenLaw.pre at hc
    have h4 : (WTm.not (.lt (.lit (.int (n : Int))) (.len (.arg 0)))).holds [] { args := [.list (ns.map .int)] } = true := by
      have h4 := (holds_andW hc).1
      rw [hn] at h4
      exact h4
    have h5 := condW_of h4 (w_not (w_lt w_lit (w_len_list (w_arg rfl))))
    rw [List.length_map] at h5
    refine Nat.le_of_not_lt fun q => ?_
    have q' : (n : Int) < ((ns.length : Nat) : Int) := by (first | lia | omega)
    first
      | (rw [decide_eq_true q'] at h5; exact absurd h5 (by decide))
      | (simp at h5; (first | lia | omega))
  cases hwl with
  | cons w1 w2 =>
    cases w2
    cases w1 with
    | list ho hall => exact ⟨_, _, ns, rfl, rfl, ho, ints_of_wellAll ns _ hall, hlen⟩

theorem post_true (l : OpenLaw) (args : List WData) : l.row.toRowW.claim.post args (.bool true) args = true :=
  postW_of (r := l.row.toRowW) (X := (true == true))
    (show WShape.has [] (.bool true) .bool = true by first | rfl | decide | simp [WShape.has, WShape.arms, WShape.armsAll])
    (show (WTm.eq .res (.lit (.bool true))).value [] { args := args, res := some (.bool true), after := args } = some (.bool (true == true)) from w_eq_bool (w_res rfl) w_lit) rfl

/-! ### the attachment: holds_open's last premise (the goal 'hc' behind k_head) from a wpAny of the law's body -/

/-- the same from a codeAny of the CALL (for a layer whose function contracts speak of calls) -/
theorem attach_call {l : OpenLaw} {n : Nat} {q : Program} {loose : List Str} {XP : (Str → Option Value) → Heap → Prop} {YP : World → Heap → Prop} {d : DefRec}
    (hn : l.most = some n) (hdf : d.params.defaults = [])
    (call : ∀ (w : World) (s₀ s₁ : Shared) (mg mb : Str → Option Value) (fa : Addr) (o : Obj) (pm cd doc : Value) (a : Addr) (vs : List Value) (ns : List Int),
      Ground q loose [] XP w s₀ mg mb s₁.heap → YP w s₁.heap →
      s₁.heap.get? fa = some o → o.data = .func (docDef d.name d.params d.body d.scope pm cd doc) → s₁.heap.CodeRec cd d.name → mg d.name = some (.ref fa) →
      s₁.heap.get? a = some { cls := .type "list", data := .seq vs.toArray } → IntsAre vs ns → ns.length ≤ n → s₁.gens = #[] →
      codeAny (model l.prog w) callerA (.call (.ref fa) ⟨[.ref a], []⟩) (fun r s' => r = .ok (.ret (.bool true)) ∧ OldK s₁.heap s'.heap ∧ s'.os = s₁.os ∧ AllBare s'.gens) s₁) :
    WalkO q loose XP YP l.row.toRowW d [] (fun f vs => PySem.call f vs) := by
  intro w s₀ s₁ mg mb G Y fa o pm cd doc dV kV ho hd hcd hD hmg hg args vals as hpre hlay hrd hwl hlo
  obtain rfl : dV = .none := Dflts.none hD hdf
  obtain rfl : kV = .none := Dflts.noKw hD
  obtain ⟨a, vs, ns, rfl, rfl, hobj, hints, hlen⟩ := script_of hn hpre hwl
  refine enter_call (codeAny_mono (call w s₀ s₁ mg mb fa o pm cd doc a vs ns G Y ho (fd_plain hd) hcd hmg hobj hints hlen hg) fun r s' hq => ?_)
  obtain ⟨rfl, h2, h3, h4⟩ := hq
  exact ⟨.inl ⟨.bool true, .bool true, [], rfl, fun _ => rfl, .bool true, post_true l _, fun _ => ⟨List.Pairwise.nil, fun _ hm => (nomatch hm)⟩⟩, h2, h3, h4⟩

/-! ### rules over ANY heap (no ledger) from facts about the written part K: the library's own take a ledger (News) for what they write -/
section
variable {prog : Program} {w : World} {A : Around} {E : Value → Shared → Prop} {s : Shared} {K : Frag}

/-! the whole heap as the ledger: makes every rule that writes through a ledger a rule over any heap -/

end
end Att

namespace L2
open PySem PySem.Spec PyProof.Rows

theorem vals_ints : ∀ {vs : List Value} {ns : List Int}, IntsAre vs ns → Vals (ns.map V.int) vs
  | _, _, .nil => .nil
  | _, _, .cons n t h => .cons ⟨t, rfl⟩ (vals_ints h)

/-- nothing is tracked but the script, known to the object (or it is an object of the module) -/
def Only (H : Hp) : Prop := ∀ b, H b = none ∨ ∃ o xs, H b = some (.frz o (.lst xs))

/-- THE HEAD: the law's promise, at the heap behind the top. F, the promise of the law's def, may use that base is part of the heap (so K.In base, base.Ns mainGlobals mg stand in Mod) -/
theorem law_call {P : Program} {w : World} {K : PySem.W.Frag} {mg mb : Str → Option Value} {CX : CXT} {k : Nat} {fa a : Addr} {fd : FuncData} {x : Str} {sp : Sp} {s₁ : Shared} {vs : List Value} {ns : List Int}
    (KX : K.In s₁.heap) (hns : s₁.heap.Ns mainGlobals mg) (hb : s₁.heap.Ns builtinsNs mb) (hbb : ∀ x : Str, x ≠ "__name__" → mb x = bootBuiltins x) (hlim : s₁.heap.NoLimit) (hg : s₁.gens = #[])
    (ha : s₁.heap.get? a = some { cls := .type "list", data := .seq vs.toArray }) (hi : IntsAre vs ns) (hl : ns.length ≤ sizeLine) (hr : Room k callerA)
    (F : ∀ base : Heap, K.In base → base.Ns mainGlobals mg → FnOk P w K mg base CX k fa fd [x] sp) (hbind : ∀ (s : Shared) (u : Value), BindsTo s fd ⟨[u], []⟩ [(x, u)])
    (hsp : ∀ H : Hp, Only H → SqL K H a (ns.map V.int) → sp [.ref a] H (fun v _ => v = .bl true) fun _ _ _ => False)
    (hCX : ∀ H e s', CX [] H s₁ (fun _ _ _ => False) e s' → False) :
    codeAny (model P w) callerA (.call (.ref fa) ⟨[.ref a], []⟩) (fun r s' => r = .ok (.ret (.bool true)) ∧ OldK s₁.heap s'.heap ∧ s'.os = s₁.os ∧ AllBare s'.gens) s₁ := by
  have rv := vals_ints hi
  have lenV := hi.length
  -- from an abstract heap in which nothing but the script may be tracked
  have core : ∀ H : Hp, Only H → SqL K H a (ns.map V.int) → HOk P w H s₁.heap → (∀ b, H b ≠ none → b = a) → (H a ≠ none → K.lookup a = none) →
      codeAny (model P w) callerA (.call (.ref fa) ⟨[.ref a], []⟩) (fun r s' => r = .ok (.ret (.bool true)) ∧ OldK s₁.heap s'.heap ∧ s'.os = s₁.os ∧ AllBare s'.gens) s₁ := by
    intro H hO hS hok hA hK
    have base_of : ∀ {b : Addr} {o : Obj}, s₁.heap.get? b = some o → H b = none → (hidT s₁.heap H).get? b = some o := fun e n => hidT_get e n
    have noA : ∀ {b : Addr} {o : Obj} {es : Array DictEntry} {ep : Nat}, s₁.heap.get? b = some o → o.data = .dict es ep → H b = none := fun {b o es ep} e d => by
      cases q : H b with
      | none => rfl
      | some u =>
        have e' : b = a := hA b (by rw [q]; simp)
        subst e'
        rw [ha] at e; cases e
        have d' : Data.seq vs.toArray _ = Data.dict es ep := d
        cases d'
    have nsK : ∀ {b : Addr} {m : Str → Option Value}, s₁.heap.Ns b m → (hidT s₁.heap H).Ns b m := fun {b m} ⟨o, es, ep, e, d, r⟩ => ⟨o, es, ep, base_of e (noA e d), d, r⟩
    have hKb : K.In (hidT s₁.heap H) := fun b o e => base_of (KX b o e) (by
      cases q : H b with
      | none => rfl
      | some u =>
        have e' : b = a := hA b (by rw [q]; simp)
        subst e'
        rw [hK (by rw [q]; simp)] at e; cases e)
    have hM : Mod K mg (hidT s₁.heap H) := ⟨hKb, nsK hns, ⟨mb, nsK hb, hbb⟩, let ⟨mc, h1, h2⟩ := hlim; ⟨mc, nsK h1, h2⟩⟩
    have e0 : Env0 P w K mg (hidT s₁.heap H) callerA [] s₁ H := ⟨rfl, hM, fun b o e => of_hidT e, Nat.le_of_eq (hidT_size _ _), trivial, fun b hb => absurd (show b ∈ ([] : List Addr) from hb) (by simp), hok, .of_eq hg⟩
    refine codeAny_mono ((F _ hKb (nsK hns)).run callerA [] s₁ H ⟨[.ref a], []⟩ [.ref a] [.ref a] _ _ hr e0 (hbind s₁ (.ref a)) (.cons rfl .nil) (hsp H hO hS)) fun r s' h => ?_
    cases r with
    | error e => exact (hCX H e s' h).elim
    | ok fl =>
      cases fl with
      | next => exact False.elim h
      | brk => exact False.elim h
      | cont => exact False.elim h
      | ret u =>
        obtain ⟨v, H', os, bare, un, hok', r', q⟩ := h
        have q' : v = .bl true := q
        subst q'
        obtain rfl : u = Value.bool true := r'
        refine ⟨rfl, OldK.of_keep fun b o e => ?_, os, bare⟩
        cases q : H b with
        | none => exact un.keep b o e q (by intro z; exact absurd (show b ∈ ([] : List Addr) from z) (by simp)) (by simp)
        | some u =>
          rcases hO b with z | ⟨ob, xs, z⟩
          · rw [q] at z; cases z
          · have z2 := un.frzs b ob _ z
            obtain ⟨e1, _⟩ := hok b _ z
            obtain ⟨e2, _⟩ := hok' b _ z2
            rw [e] at e1; cases e1
            exact e2
  cases hk : K.lookup a with
  | some o =>
    -- the script is one of the module's own objects
    have e := KX a o hk
    rw [ha] at e
    cases e
    refine core (fun _ => none) (fun _ => .inl rfl) (.inr ⟨_, vs.toArray, _, hk, rfl, rfl, rfl, by rw [List.size_toArray, lenV]; exact hl, by simpa using rv⟩) (fun b u z => by have z' : (none : Option HO) = some u := z; cases z') (fun b z => absurd rfl z) fun z => absurd rfl z
  | none =>
    refine core (fun b => if b = a then some (.frz { cls := .type "list", data := .seq vs.toArray } (.lst (ns.map V.int))) else none) (fun b => ?_) (.inl (.inr ⟨{ cls := .type "list", data := .seq vs.toArray }, if_pos rfl⟩)) (fun b u z => ?_) (fun b z => ?_) fun _ => hk
    · by_cases hb : b = a
      · exact .inr ⟨_, _, if_pos hb⟩
      · exact .inl (if_neg hb)
    · by_cases hb : b = a
      · have z' := (if_pos hb).symm.trans z
        cases z'
        subst hb
        exact ⟨ha, by rw [List.length_map]; exact hl, vs, _, rv, ha⟩
      · have z' := (if_neg hb).symm.trans z
        cases z'
    · by_cases hb : b = a
      · exact hb
      · exact absurd (if_neg hb) z
end L2

namespace L2
open PySem PySem.Spec PyProof.Rows

/-- the goal that k_head leaves (case hc), from the law's promise. F gives the function object fd (K's own) once, then the promise over every base -/
theorem walk_of {l : PySem.W.OpenLaw} {n k : Nat} {q : Program} {loose : List Str} {XP : (Str → Option Value) → Heap → Prop} {YP : World → Heap → Prop} {d : DefRec} {K : Params → PySem.W.Frag} {CX : World → CXT} {sp : World → Sp} {x : Str}
    (hn : l.most = some n) (hn2 : n ≤ sizeLine) (hdf : d.params.defaults = []) (hr : Room k callerA)
    (hY : ∀ (w : World) (h : Heap), YP w h → (K w.params).In h)
    (F : ∀ (w : World) (mg : Str → Option Value) (fa : Addr) (h : Heap), (K w.params).In h → h.Ns mainGlobals mg → mg d.name = some (.ref fa) →
      ∃ fd : FuncData, (∀ (s : Shared) (u : Value), BindsTo s fd ⟨[u], []⟩ [(x, u)]) ∧
        ∀ base : Heap, (K w.params).In base → base.Ns mainGlobals mg → FnOk l.prog w (K w.params) mg base (CX w) k fa fd [x] (sp w))
    (hsp : ∀ (w : World) (H : Hp) (a : Addr) (ns : List Int), ns.length ≤ n → Only H → SqL (K w.params) H a (ns.map V.int) → sp w [.ref a] H (fun v _ => v = .bl true) fun _ _ _ => False)
    (hCX : ∀ (w : World) (H : Hp) (s : Shared) (e : Value) (s' : Shared), CX w [] H s (fun _ _ _ => False) e s' → False) :
    PySem.W.WalkO q loose XP YP l.row.toRowW d [] (fun f vs => PySem.call f vs) := by
  refine Att.attach_call hn hdf fun w s₀ s₁ mg mb fa o pm cd doc a vs ns G Y ho hd hcd hmg hobj hints hlen hg => ?_
  have KX := hY w _ Y
  obtain ⟨fd, hb, hF⟩ := F w mg fa _ KX G.T.g hmg
  exact law_call KX G.T.g G.T.b G.T.builtins G.T.nolimit hg hobj hints (Nat.le_trans hlen hn2) hr hF hb (fun H hO hS => hsp w H a ns hlen hO hS) fun H e s' => hCX w H s₁ e s'
end L2

/- THE LAST THEOREM (shape; LID, My.* are yours):
   My.Adr: a structure of the addresses that your layer names (classes, functions); My.Txt K t: a structure (Prop) of the equations over K;
   My.txt_mk : {K} {implicit addresses ..} (e1 : nsIn K mainGlobals "law" = some (some (.ref f))) (e2 : K.lookup f = some ⟨oc, od, .func (fnOf "law" "law" params body scope dV kV doc pm an cdv ct), sl⟩) (e3 : codeIn K cdv "law" = true) .. : ∃ t, My.Txt K t

set_option maxRecDepth 100000 in
set_option maxHeartbeats 0 in
theorem PySem.Challenge.cw_LID_holds : PySem.Challenge.rw_LID.Holds := by
  w_on; o_law; k_head; (case hw => w_witness2)
  k_fill
  refine L2.walk_of (l := PySem.Challenge.rw_LID) (n := 63) (k := 40) (x := "script") (CX := fun w => ..) (sp := fun _ => My.sp_law) rfl (by decide) rfl ⟨rfl, by decide, by decide⟩ (fun w h Y => PySem.W.kIn_of Y) ?F ?S ?C
  case F =>
    intro w mg fa h KX G hmg
    have T : ∃ t, My.Txt (L2.KOf KX) t := by
      dsimp only [L2.KOf]                          -- K must stand as «<heap const> w.params» for k_is
      refine' My.txt_mk ?e1 ?e2 ?e3 ..
      (case e1 => PySem.W.k_is)                    -- in the order: a name -> its address -> its object -> its parts
      (case e2 => PySem.W.k_is)
      ..
    obtain ⟨t, T⟩ := T
    have e0 := hmg.symm.trans (PySem.W.mg_of KX G T.law)
    cases e0                                       -- fa is the law's own address
    exact ⟨_, fun s u => .of_eq rfl, fun base kb nb => My.law_fn T kb nb⟩     -- if «.of_eq rfl» comes too early: refine' ⟨_, ?b, fun base kb nb => My.law_fn T kb nb⟩; exact fun s u => .of_eq rfl
  case S => exact fun w H a ns hl hO hS => ..
  case C => exact ..
(the tactic k_is has no namespace: write k_is) -/

/-! SHORT WORDS over the layer: a def of the text, its body, what a loop and a test want. -/
namespace L2
open PySem PySem.Spec PyProof.Rows

/-! ### the text by places -/
/-- the j-th statement of a class's body -/
def inClass (s : Stmt) (j : Nat) : Stmt := match s with
  | .ClassDef _ _ _ body _ _ _ _ _ _ _ => body.getD j (.Pass ⟨0, 0, 0, 0⟩)
  | _ => .Pass ⟨0, 0, 0, 0⟩
def defArgs (s : Stmt) : Arguments := match s with
  | .FunctionDef _ a _ _ _ _ _ _ _ _ => a
  | _ => { posonlyargs := [], args := [], vararg := none, kwonlyargs := [], kw_defaults := [], kwarg := none, defaults := [] }
def defBody (s : Stmt) : List Stmt := match s with
  | .FunctionDef _ _ b _ _ _ _ _ _ _ => b
  | _ => []
def defScope (s : Stmt) : Scope := match s with
  | .FunctionDef _ _ _ _ _ _ sc _ _ _ => sc
  | _ => { kind := .function, names := [], isGenerator := false, isCoroutine := false }

/-! ### no exception leaves a def -/
abbrev CX0 : CXT := fun _ _ _ _ _ _ => False
abbrev E0 : XK := fun _ _ _ => False
theorem pass0 {X : Cx} : Passes CX0 X E0 := fun _ _ _ _ _ _ _ h => h.elim

/-! ### a def (or method) of the text as it stands behind the top -/
structure Fun (K : PySem.W.Frag) (x qual : Str) (st : Stmt) (f : Addr) (fd : FuncData) : Prop where
  ex : ∃ (oc : Value) (od : Option Addr) (kV doc pm : Value) (an : Option Addr) (cdv ct : Value) (osl : Array (Option Value)),
    fd = PySem.W.fnOf x qual (defArgs st) (defBody st) (defScope st) .none kV doc pm an cdv ct ∧ K.lookup f = some ⟨oc, od, .func fd, osl⟩ ∧ PySem.W.codeIn K cdv qual = true
  kp : PySem.W.keepIn K (.ref f) = true
section
variable {P : Program} {w : World} {K : PySem.W.Frag} {mg : Str → Option Value} {base : Heap}
/-- THE RULE for a def: its body as a term of rules, and the reading of that term -/
theorem Fun.ok {x qual : Str} {st : Stmt} {f : Addr} {fd : FuncData} {N ps : List Str} {k : Nat} {sp : Sp} (F : Fun K x qual st f fd) (S : FnScope N ps (defScope st)) (len : ∀ vs H Q E, sp vs H Q E → vs.length = ps.length)
    (hbody : ∀ (cdv : Value) (A : Around) (outer : List Env) (s : Shared) (H : Hp) (vs : List V) (Q : VK) (E : XK), Room k (A.deeper (envOfC qual (defScope st) s.heap.objs.size f cdv)) → sp vs H Q E →
      ∃ t, PSs (cxOf CX0 P w K mg base N qual (defScope st) f cdv A outer s H E).nox (defBody st) t ∧ t { nx := fun _ H' => Q .non H', rt := Q } (start N vs) H) : FnOk P w K mg base CX0 (k + 1) f fd ps sp := by
  obtain ⟨oc, od, kV, doc, pm, an, cdv, ct, osl, rfl, lk, hcd⟩ := F.ex
  refine fn_of lk hcd S len fun A outer s H vs Q E hr hsp => ?_
  obtain ⟨t, h, q⟩ := hbody cdv A outer s H vs Q E hr hsp
  exact ⟨t, h.nox, q⟩
/-- how its arguments bind (no defaults): h is «fun _ _ _ _ _ _ us hl => match us, hl with | [_, _], _ => rfl», one _ a parameter -/
theorem Fun.binds {x qual : Str} {st : Stmt} {f : Addr} {fd : FuncData} {ps : List Str} (F : Fun K x qual st f fd)
    (h : ∀ (kV doc pm : Value) (an : Option Addr) (cdv ct : Value) (us : List Value), us.length = ps.length → bindArgs (PySem.W.fnOf x qual (defArgs st) (defBody st) (defScope st) .none kV doc pm an cdv ct) ⟨us, []⟩ = pure (ps.zip us)) : Binds K fd ps [] := by
  obtain ⟨oc, od, kV, doc, pm, an, cdv, ct, osl, rfl, lk, hcd⟩ := F.ex
  exact .all (h kV doc pm an cdv ct)
theorem fun_mk {x qual : Str} {st : Stmt} {f : Addr} {oc : Value} {od an : Option Addr} {osl : Array (Option Value)} {kV doc pm cdv ct : Value} (l : K.lookup f = some ⟨oc, od, .func (PySem.W.fnOf x qual (defArgs st) (defBody st) (defScope st) .none kV doc pm an cdv ct), osl⟩)
    (c : PySem.W.codeIn K cdv qual = true) (k : PySem.W.keepIn K (.ref f) = true) : Fun K x qual st f (PySem.W.fnOf x qual (defArgs st) (defBody st) (defScope st) .none kV doc pm an cdv ct) := ⟨⟨oc, od, kV, doc, pm, an, cdv, ct, osl, rfl, l, c⟩, k⟩
end
theorem hu_of {A : Around} {k : Nat} (hr : Room k A) : A.units + 1 < cLine := Nat.lt_of_le_of_lt (Nat.add_le_add_left (by decide : 1 ≤ 64) _) hr.units

/-! ### expressions in short: the name that stands in the i-th slot -/
section
variable {X : Cx}
theorem pv (i : Nat) {x : Str} {pos : Pos} (hN : X.N[i]? = some x := by rfl) (hv : Vis X.env.scope x := by first | exact Or.inl rfl | exact Or.inr (Or.inl rfl) | exact Or.inr (Or.inr rfl)) (hd : (x == ("__debug__" : Str)) = false := by decide)
    (hcd : (x == ("__classdict__" : Str)) = false := by decide) : PE X (.Name x pos) (tVar i) := pe_var hN hv hd hcd
end

/-! ### tests -/
theorem iteF {A B : Prop} (h : B) : if false = true then A else B := by
  rw [if_neg Bool.false_ne_true]
  exact h
theorem iteT {A B : Prop} (h : A) : if true = true then A else B := by
  rw [if_pos rfl]
  exact h
theorem ite2 {c A B : Prop} [Decidable c] (h1 : c → A) (h2 : ¬ c → B) : if c then A else B := by
  by_cases h : c
  · rw [if_pos h]
    exact h1 h
  · rw [if_neg h]
    exact h2 h
theorem iteNS {c A B : Prop} [Decidable c] (hc : c) (h : B) : if (!decide c) = true then A else B := by
  rw [decide_eq_true hc]
  exact iteF h

/-! ### heaps -/
/-- all that was tracked is as it was -/
def Same (H H' : Hp) : Prop := ∀ b o, H b = some o → H' b = some o
theorem Same.refl (H : Hp) : Same H H := fun _ _ h => h
theorem Same.trans {H H1 H2 : Hp} (a : Same H H1) (b : Same H1 H2) : Same H H2 := fun c o h => b c o (a c o h)
theorem Same.free {H H' : Hp} (e : Same H H') {l : Addr} (h : H' l = Option.none) : H l = Option.none := by
  cases q : H l with
  | none => rfl
  | some o =>
    rw [e l o q] at h
    cases h
theorem Same.seq {K : PySem.W.Frag} {H H' : Hp} {a : Addr} {xs : List V} (e : Same H H') (h : SqL K H a xs) : SqL K H' a xs := by
  rcases h with (h | ⟨o, h⟩) | h
  · exact .inl (.inl (e _ _ h))
  · exact .inl (.inr ⟨o, e _ _ h⟩)
  · exact .inr h

end L2

set_option Elab.async false
set_option linter.all false
set_option maxRecDepth 100000
namespace L2
open PySem PySem.Spec PyProof.Rows

/-! ### lists of pairs as tables -/
section
variable {κ : Type} [DecidableEq κ]
def valV (kvs : List (κ × V)) (k : κ) : Option V := (kvs.find? fun kv => decide (kv.1 = k)).map (·.2)
/-- in its place, or at the end -/
def putK (kvs : List (κ × V)) (k : κ) (v : V) : List (κ × V) :=
  if (kvs.any fun kv => decide (kv.1 = k)) = true then kvs.map (fun kv => if kv.1 = k then (kv.1, v) else kv) else kvs ++ [(k, v)]

theorem valV_pos {p : κ × V} {r : List (κ × V)} {k : κ} (e : p.1 = k) : valV (p :: r) k = some p.2 := by simp [valV, List.find?_cons, e]
theorem valV_neg {p : κ × V} {r : List (κ × V)} {k : κ} (e : ¬ p.1 = k) : valV (p :: r) k = valV r k := by simp [valV, List.find?_cons, e]
theorem valV_any (k : κ) : ∀ kvs : List (κ × V), (kvs.any fun kv => decide (kv.1 = k)) = (valV kvs k).isSome
  | [] => rfl
  | p :: r => by
    rw [List.any_cons]
    by_cases e : p.1 = k
    · simp only [valV_pos e, decide_eq_true e, Bool.true_or, Option.isSome_some]
    · rw [valV_neg e, decide_eq_false e, Bool.false_or]; exact valV_any k r
theorem length_putK (kvs : List (κ × V)) (k : κ) (v : V) : (putK kvs k v).length ≤ kvs.length + 1 := by
  unfold putK
  split
  · rw [List.length_map]; (first | lia | omega)
  · rw [List.length_append, List.length_cons, List.length_nil]; (first | lia | omega)
theorem putK_new {kvs : List (κ × V)} {k : κ} (v : V) (h : valV kvs k = none) : putK kvs k v = kvs ++ [(k, v)] := by
  unfold putK
  rw [valV_any, h]
  exact if_neg (by decide)

theorem RelO.isSome_eq {o : Option V} {u : Option Value} (r : RelO o u) : o.isSome = u.isSome := by
  cases o with
  | none => cases u with
    | none => rfl
    | some _ => exact (show False from r).elim
  | some _ => cases u with
    | none => exact (show False from r).elim
    | some _ => rfl

/-- raw tables of the same keys -/
theorem KV.val {kvs : List (κ × V)} {vs : List (κ × Value)} (r : KV kvs vs) (k : κ) : RelO (valV kvs k) (valueAt vs k) := by
  unfold KV at r
  induction r with
  | nil => exact True.intro
  | @cons p q ps qs h t ih =>
    obtain ⟨h1, h2⟩ := h
    by_cases e : p.1 = k
    · have e' : q.1 = k := h1.symm.trans e
      have b : valueAt (q :: qs) k = some q.2 := by simp [valueAt, List.find?_cons, e']
      rw [valV_pos e, b]; exact h2
    · have e' : ¬ q.1 = k := fun z => e (h1.trans z)
      have b : valueAt (q :: qs) k = valueAt qs k := by simp [valueAt, List.find?_cons, e']
      rw [valV_neg e, b]; exact ih
theorem KV.any {kvs : List (κ × V)} {vs : List (κ × Value)} (r : KV kvs vs) (k : κ) : (kvs.any fun kv => decide (kv.1 = k)) = vs.any fun kv => decide (kv.1 = k) := by
  unfold KV at r
  induction r with
  | nil => rfl
  | cons h t ih => rw [List.any_cons, List.any_cons, ih, h.1]
theorem KV.repl {kvs : List (κ × V)} {vs : List (κ × Value)} (r : KV kvs vs) (k : κ) {y : V} {u : Value} (ry : RelV y u) :
    KV (kvs.map fun kv => if kv.1 = k then (kv.1, y) else kv) (vs.map fun kv => if kv.1 = k then (kv.1, u) else kv) := by
  unfold KV at r ⊢
  induction r with
  | nil => exact .nil
  | @cons p q ps qs h t ih =>
    rw [List.map_cons, List.map_cons]
    refine .cons ?_ ih
    obtain ⟨h1, h2⟩ := h
    by_cases e : p.1 = k
    · rw [if_pos e, if_pos (h1.symm.trans e)]; exact ⟨h1, ry⟩
    · rw [if_neg e, if_neg (fun z => e (h1.trans z))]; exact ⟨h1, h2⟩
theorem KV.put {kvs : List (κ × V)} {vs : List (κ × Value)} (r : KV kvs vs) (k : κ) {y : V} {u : Value} (ry : RelV y u) : KV (putK kvs k y) (stored vs k u) := by
  unfold putK stored
  rw [r.any k]
  by_cases e : (vs.any fun kv => decide (kv.1 = k)) = true
  · rw [if_pos e, if_pos e]; exact r.repl k ry
  · rw [if_neg e, if_neg e]; exact Paired.snoc r ⟨rfl, ry⟩
theorem KV.length {kvs : List (κ × V)} {vs : List (κ × Value)} (r : KV kvs vs) : kvs.length = vs.length := Paired.length r
end

/-! ### a tracked dict, its keys ints and texts or tuples of these -/
theorem kV_is {P : Program} {w : World} {k : Key} {u : Value} (r : RelV (kV k) u) : (mixKind P w).is k u = true := by
  cases k with
  | inl i => obtain ⟨t, e⟩ := (show ∃ t, u = Value.int i t from r); subst e; exact mixKind_int P w i t
  | inr x => obtain ⟨t, e⟩ := (show ∃ t, u = Value.str x t from r); subst e; exact mixKind_str P w x t
theorem items_are {P : Program} {w : World} : ∀ {ks : List Key} {us : List Value}, Vals (ks.map kV) us → ItemsAre (mixKind P w) ks us
  | [], _, r => by rw [List.map_nil] at r; cases r; exact .nil
  | k :: ks, _, r => by
    rw [List.map_cons] at r
    cases r with
    | cons h t => exact .cons (kV_is h) (items_are t)

/-- raw entries of a dict with tuple keys -/
abbrev KT (H : Hp) : List (List Key × V) → List (List Key × Addr × Value) → Prop := Paired fun p q => p.1 = q.1 ∧ H q.2.1 = some (.tup (p.1.map kV)) ∧ RelV p.2 q.2.2
theorem KT.val {H : Hp} {kvs : List (List Key × V)} {xs : List (List Key × Addr × Value)} (r : KT H kvs xs) (k : List Key) : RelO (valV kvs k) ((atKey xs k).map (·.2)) := by
  induction r with
  | nil => exact True.intro
  | @cons p q ps qs h t ih =>
    obtain ⟨h1, _, h2⟩ := h
    by_cases e : p.1 = k
    · have e' : q.1 = k := h1.symm.trans e
      have b : atKey (q :: qs) k = some q.2 := by simp [atKey, List.find?_cons, e']
      rw [valV_pos e, b]; exact h2
    · have e' : ¬ q.1 = k := fun z => e (h1.trans z)
      have b : atKey (q :: qs) k = atKey qs k := by simp [atKey, List.find?_cons, e']
      rw [valV_neg e, b]; exact ih
theorem KT.repl {H : Hp} {kvs : List (List Key × V)} {xs : List (List Key × Addr × Value)} (r : KT H kvs xs) (k : List Key) {y : V} {u : Value} (ry : RelV y u) :
    KT H (kvs.map fun kv => if kv.1 = k then (kv.1, y) else kv) (xs.map (putAt k u)) := by
  induction r with
  | nil => exact .nil
  | @cons p q ps qs h t ih =>
    rw [List.map_cons, List.map_cons]
    refine .cons ?_ ih
    obtain ⟨h1, h2, h3⟩ := h
    unfold putAt
    by_cases e : p.1 = k
    · rw [if_pos e, if_pos (h1.symm.trans e)]; exact ⟨h1, h2, ry⟩
    · rw [if_neg e, if_neg (fun z => e (h1.trans z))]; exact ⟨h1, h2, h3⟩
theorem KT.put {H : Hp} {kvs : List (List Key × V)} {xs : List (List Key × Addr × Value)} (r : KT H kvs xs) (k : List Key) {b : Addr} {y : V} {u : Value} (hb : H b = some (.tup (k.map kV))) (ry : RelV y u) :
    KT H (putK kvs k y) (storedH xs k b u) := by
  have e : (kvs.any fun kv => decide (kv.1 = k)) = (atKey xs k).isSome := by
    rw [valV_any, (r.val k).isSome_eq, Option.isSome_map]
  unfold putK storedH
  rw [e]
  by_cases q : (atKey xs k).isSome = true
  · rw [if_pos q, if_pos q]; exact r.repl k ry
  · rw [if_neg q, if_neg q]; exact Paired.snoc r ⟨rfl, hb, ry⟩
theorem KT.keeps {H H' : Hp} {kvs : List (List Key × V)} {xs : List (List Key × Addr × Value)} (r : KT H kvs xs) (ht : ∀ b ys, H b = some (.tup ys) → H' b = some (.tup ys)) : KT H' kvs xs :=
  Paired.mapP r fun _ _ z => ⟨z.1, ht _ _ z.2.1, z.2.2⟩

section
variable {P : Program} {w : World} {H : Hp} {h : Heap} {a : Addr}
theorem rd_of {u : HO} (ok : HOk P w H h) (e : Rd H a u) : ObjOk P w H h a u := e.ok ok
theorem dk_rd {kvs : List (Key × V)} (ok : HOk P w H h) (e : Rd H a (.dK kvs)) : kvs.length ≤ sizeLine ∧ (a == sysModules) = false ∧ ∃ vs, KV kvs vs ∧ h.DictOf (mixKind P w) a vs :=
  show ObjOk P w H h a (.dK kvs) from rd_of ok e
theorem dk_of {kvs : List (Key × V)} (ok : HOk P w H h) (e : H a = some (.dK kvs)) : kvs.length ≤ sizeLine ∧ (a == sysModules) = false ∧ ∃ vs, KV kvs vs ∧ h.DictOf (mixKind P w) a vs := dk_rd ok (.inl e)
/-- a tracked tuple of ints and texts is a key -/
theorem key_of {ks : List Key} (ok : HOk P w H h) (e : H a = some (.tup (ks.map kV))) : (tupleKind (mixKind P w)).is h ks a := by
  obtain ⟨_, its, r, o, h1, h2, n, h3⟩ := (show ObjOk P w H h a (.tup (ks.map kV)) from ok a _ e)
  exact ⟨o, its.toArray, n, h1, h2, h3, by simpa using items_are r⟩
theorem dt_rd {kvs : List (List Key × V)} (ok : HOk P w H h) (e : Rd H a (.dT kvs)) : kvs.length ≤ sizeLine ∧ (a == sysModules) = false ∧
    ∃ xs, KT H kvs xs ∧ h.DictOfH (tupleKind (mixKind P w)) a xs := by
  obtain ⟨z, y, xs, r, o, es, ep, h1, h2, h3, h4, h5⟩ := (show ObjOk P w H h a (.dT kvs) from rd_of ok e)
  refine ⟨z, y, xs, r, o, es, ep, h1, h2, h3, h4, fun x hx => ?_, h5⟩
  have all : ∀ {l : List (List Key × V)} {m : List (List Key × Addr × Value)}, KT H l m → ∀ x ∈ m, (tupleKind (mixKind P w)).is h x.1 x.2.1 := by
    intro l m q
    induction q with
    | nil => intro x hx; exact nomatch hx
    | @cons p q ps qs hq t ih =>
      intro x hx
      rcases List.mem_cons.mp hx with e | hx
      · subst e
        exact key_of ok (by rw [← hq.1]; exact hq.2.1)
      · exact ih x hx
  exact all r x hx
theorem dt_of {kvs : List (List Key × V)} (ok : HOk P w H h) (e : H a = some (.dT kvs)) : kvs.length ≤ sizeLine ∧ (a == sysModules) = false ∧
    ∃ xs, KT H kvs xs ∧ h.DictOfH (tupleKind (mixKind P w)) a xs := dt_rd ok (.inl e)
end

/-- what the dict at a holds at the key y -/
def DGet (H : Hp) (a : Addr) (y : V) (r : Option V) : Prop :=
  (∃ kvs k, Rd H a (.dK kvs) ∧ y = kV k ∧ r = valV kvs k) ∨ ∃ kvs k b, Rd H a (.dT kvs) ∧ y = .ref b ∧ H b = some (.tup (k.map kV)) ∧ r = valV kvs k
/-- the heap behind a[y] = v -/
def DPut (H : Hp) (a : Addr) (y v : V) (H' : Hp) : Prop :=
  (∃ kvs k, H a = some (.dK kvs) ∧ y = kV k ∧ kvs.length < sizeLine ∧ H' = upd H a (.dK (putK kvs k v))) ∨
  ∃ kvs k b, H a = some (.dT kvs) ∧ y = .ref b ∧ H b = some (.tup (k.map kV)) ∧ kvs.length < sizeLine ∧ H' = upd H a (.dT (putK kvs k v))
theorem DGet.k {H : Hp} {a : Addr} {kvs : List (Key × V)} {k : Key} (e : H a = some (.dK kvs)) : DGet H a (kV k) (valV kvs k) := .inl ⟨kvs, k, .inl e, rfl, rfl⟩
theorem DPut.k {H : Hp} {a : Addr} {kvs : List (Key × V)} {k : Key} {v : V} (e : H a = some (.dK kvs)) (hl : kvs.length < sizeLine) : DPut H a (kV k) v (upd H a (.dK (putK kvs k v))) := .inl ⟨kvs, k, e, rfl, hl, rfl⟩

section
variable {X : Cx} {pins : List (Addr × Obj)} {σ : St} {H : Hp} {s : Shared} {a : Addr} {y v : V} {u r : Value} {o : Option V} {A : Around} {E : Value → Shared → Prop}

theorem Inv.big (I : Inv X pins σ H s) : sysModules < s.heap.objs.size := by
  have h : mainGlobals < s.heap.objs.size := (I.mod.glob.keeps I.bk).lt
  exact Nat.lt_trans (by decide) h

theorem d_notIn {Q : Value → Shared → Prop} (hu : A.units + 1 < cLine) (I : Inv X pins σ H s) (g : DGet H a y o) (ry : RelV y u) (h : ∀ s', Inv X pins σ H s' → Q (.bool (!o.isSome)) s') :
    wpAny (model X.prog X.w) A (compareOp .NotIn u (.ref a)) Q E s := by
  rcases g with ⟨kvs, k, e, ey, l⟩ | ⟨kvs, k, b, e, ey, eb, l⟩
  · subst ey
    obtain ⟨z, hd, vs, rel, dd⟩ := dk_rd I.hok e
    refine wpAny_notIn_of (kV_is ry) hd dd.mapOf ?_
    rw [← (rel.val k).isSome_eq, ← l]
    exact h _ (I.tok _)
  · subst ey
    cases (show u = Value.ref b from ry)
    obtain ⟨z, hd, xs, rel, dd⟩ := dt_rd I.hok e
    refine wpAny_notIn_heap (tupleKind_room_in1 hu) (key_of I.hok eb) hd dd ?_
    have q := (rel.val k).isSome_eq
    rw [Option.isSome_map] at q
    rw [← q, ← l]
    exact h _ (I.tok _)
/-- a dict's object is replaced -/
theorem d_write {h' : Heap} {t' : Nat} {ob : HO} (I : Inv X pins σ H s) (mu : Mut (H a)) (hs : Heap.SameBut a s.heap h') (he : ∃ q, h'.get? a = some q) (new : ObjOk X.prog X.w (upd H a ob) h' a ob) :
    Inv X pins σ (upd H a ob) { s with heap := h', toks := t' } :=
  I.write (x := a) (e := a) mu (.inl rfl) (fun b q hb z => (hs.2 b hb).trans z) he new
theorem dk_new {P : Program} {w : World} {H' : Hp} {h' : Heap} {kvs : List (Key × V)} {vs : List (Key × Value)} (z : kvs.length ≤ sizeLine) (hd : (a == sysModules) = false) (rel : KV kvs vs) (dd : h'.DictOf (mixKind P w) a vs) :
    ObjOk P w H' h' a (.dK kvs) := ⟨z, hd, vs, rel, dd⟩
/-- d[y] = v -/
theorem d_setItem {H' : Hp} {Q : Unit → Shared → Prop} (hu : A.units + 1 < cLine) (I : Inv X pins σ H s) (g : DPut H a y v H') (ry : RelV y u) (rv : RelV v r) (h : ∀ s', Inv X pins σ H' s' → Q () s') :
    wpAny (model X.prog X.w) A (setItem (.ref a) u r) Q E s := by
  rcases g with ⟨kvs, k, e, ey, l, eH⟩ | ⟨kvs, k, b, e, ey, eb, l, eH⟩
  · subst ey eH
    obtain ⟨z, hd, vs, rel, dd⟩ := dk_of I.hok e
    have hz : vs.length ≤ sizeLine := by rw [← rel.length]; exact z
    have hl : (putK kvs k v).length ≤ sizeLine := by have := length_putK kvs k v; (first | lia | omega)
    refine wpAny_setItem_pairs (hsz := hz) (kV_is ry) dd fun h' dd' hs => h _ ?_
    have he : ∃ q, h'.get? a = some q := let ⟨q, _, _, hq, _⟩ := dd'; ⟨q, hq⟩
    exact d_write I (by rw [e]; exact True.intro) hs he (dk_new hl hd (rel.put k rv) dd')
  · subst ey eH
    cases (show u = Value.ref b from ry)
    obtain ⟨z, hd, xs, rel, dd⟩ := dt_of I.hok e
    have hz : xs.length ≤ sizeLine := by rw [← Paired.length rel]; exact z
    have hl : (putK kvs k v).length ≤ sizeLine := by have := length_putK kvs k v; (first | lia | omega)
    refine wpAny_setItem_heap (hsz := hz) (tupleKind_room_in1 hu) (key_of I.hok eb) dd fun h' dd' hs => h _ ?_
    obtain ⟨q, es, ep, hq, h2, h3, h4, _, h5⟩ := dd'
    refine d_write I (by rw [e]; exact True.intro) hs ⟨q, hq⟩ ⟨hl, hd, _, (rel.put k eb rv).keeps fun c ys ec => ?_, q, es, ep, hq, h2, h3, h4, h5⟩
    rw [upd_ne (ne_of ec e (fun z => nomatch z))]
    exact ec
end

section
variable {X : Cx} {pins : List (Addr × Obj)} {σ : St} {H : Hp} {s : Shared} {a : Addr} {kvs : List (Key × V)} {k : Key} {u : Value} {A : Around} {E : Value → Shared → Prop}
end

/-! ### readings and rules -/

def tDNotIn (ty td : TE) : TE := fun σ H Q => ty σ H fun y H1 => td σ H1 fun x H2 => ∃ a o, x = .ref a ∧ DGet H2 a y o ∧ Q (.bl (!o.isSome)) H2
/-- d[y] = v -/
def sDPut (td ty tv : TE) : TS := fun D σ H => tv σ H fun v H1 => td σ H1 fun x H2 => ty σ H2 fun y H3 => ∃ a H4, x = .ref a ∧ DPut H3 a y v H4 ∧ D.nx σ H4

section
variable {X : Cx} {o i e value : Expr} {pos pos' tpos : Pos} {td ty tv : TE}
theorem pc_dnotin (hu : X.A.units + 1 < cLine) (hi : PE X i ty) (ho : PE X o td) : PC X .NotIn i o (tDNotIn ty td) := by
  intro pins s σ H Q I h
  refine thn (hi pins s σ H _ I h) fun iv s1 ⟨y, H1, I1, ry, q1⟩ => thn (ho pins s1 σ H1 _ I1 q1) fun u s2 ⟨x, H2, I2, rx, a, ov, ex, g, q2⟩ => ?_
  subst ex
  obtain rfl : u = Value.ref a := rx
  exact d_notIn hu I2 g ry fun s3 I3 => ⟨.bl (!ov.isSome), H2, I3, rfl, q2⟩
theorem ps_dput (hu : X.A.units + 1 < cLine) (ho : PE X o td) (hi : PE X i ty) (hv : PE X value tv) (hs : swapsWith value (some (.Subscript o i pos')) pos.line X.env = pure false) :
    PS X (.Assign [.Subscript o i pos'] value pos) (sDPut td ty tv) := by
  intro pins s σ H D I h
  refine wpAny_Assign_Subscript (thn (hv pins s σ H _ I h) fun r s1 ⟨v, H1, I1, rv, q1⟩ => thn (ho pins s1 σ H1 _ I1 q1) fun u s2 ⟨x, H2, I2, rx, q2⟩ => thn (hi pins s2 σ H2 _ I2 q2) fun iv s3 ⟨y, H3, I3, ry, a, H4, ex, g, q3⟩ => ?_) hs
  subst ex
  obtain rfl : u = Value.ref a := rx
  exact d_setItem hu I3 g ry rv fun s4 I4 => ⟨σ, H4, I4, q3⟩
end

/-! ### displays -/
theorem dk_empty {P : Program} {w : World} {H : Hp} (h : Heap) (hb : sysModules < h.objs.size) : ObjOk P w H (h.push { cls := .type "dict", data := .dict #[] }) h.objs.size (.dK []) :=
  ⟨Nat.zero_le _, beq_eq_false_iff_ne.mpr (Ne.symm (Nat.ne_of_lt hb)), [], .nil, Heap.DictOf.new h⟩
/-- {}, to be a dict of the kind that is wanted -/
def tDNewK : TE := fun _ H Q => ∀ p, H p = none → Q (.ref p) (upd H p (.dK []))
section
variable {X : Cx} {pos : Pos}
theorem pe_dnewK : PE X (.Dict [] [] pos) tDNewK := fun pins s σ H Q I h =>
  wpAny_Dict_empty ⟨.ref s.heap.objs.size, _, I.laid (a := s.heap.objs.size) (o := .dK []) (t' := s.toks) (fun _ _ q => Heap.get?_push_of_some _ q) (Nat.le_refl _) (dk_empty s.heap I.big), rfl, h _ (I.hok.fresh (Nat.le_refl _))⟩
end

/-! ### methods -/

section
variable {X : Cx} {pins : List (Addr × Obj)} {σ : St} {H : Hp} {s : Shared} {a : Addr} {y d : V} {u r : Value} {o : Option V} {A : Around} {E : Value → Shared → Prop}
end

section
variable {X : Cx} {o e f : Expr} {apos cpos : Pos} {td ty tx : TE}
end

/-! ### dict(d): a copy -/
section
variable {X : Cx} {pins : List (Addr × Obj)} {σ : St} {H : Hp} {s : Shared} {a : Addr} {kvs : List (Key × V)} {A : Around} {E : Value → Shared → Prop}
end

section
variable {X : Cx} {pins : List (Addr × Obj)} {σ : St} {H : Hp} {s : Shared} {a : Addr} {y : V} {u : Value} {A : Around} {E : Value → Shared → Prop}
end
end L2

namespace L2
open PySem PySem.Spec PyProof.Rows
section
variable {X : Cx}
end
/-! ### a dict's pairs: keys that differ -/
section
variable {κ : Type} [DecidableEq κ]
end
end L2

set_option Elab.async false
set_option linter.all false
set_option maxRecDepth 100000
set_option maxHeartbeats 4000000
/-! A list comprehension with one clause and at most one test, over the hand layer. -/
namespace L2
open PySem PySem.Spec PyProof.Rows

/-! ### what a block closes over -/
def closL (cells : List (Str × Addr)) : List (Str × NameKind) → List (Str × Addr) → List (Str × Addr)
  | [], cs => cs
  | (n, k) :: r, cs => closL cells r (if (k == NameKind.free) = true then (match cells.lookup n with | some c => (n, c) :: cs | none => cs) else cs)
theorem closureFor_closL {scope : Scope} {env : Env} (h : ∀ y ∈ scope.names, y.2 = .free → ∃ c, env.cells.lookup y.1 = some c) : closureFor scope env = pure (closL env.cells scope.names []) := by
  have all : ∀ (names : List (Str × NameKind)) (cs : List (Str × Addr)), (∀ y ∈ names, y.2 = .free → ∃ c, env.cells.lookup y.1 = some c) →
      (forIn names cs fun (y : Str × NameKind) (cs : List (Str × Addr)) => (do if (y.2 == NameKind.free) = true then (do let c ← cellOf env y.1; pure (ForInStep.yield ((y.1, c) :: cs))) else pure (ForInStep.yield cs) : Sem (ForInStep (List (Str × Addr))))) = (pure (closL env.cells names cs) : Sem (List (Str × Addr))) := by
    intro names
    induction names with
    | nil => intro cs _; rfl
    | cons y r ih =>
      intro cs hy
      obtain ⟨n, k⟩ := y
      rw [List.forIn_cons]
      have hr : ∀ y ∈ r, y.2 = .free → ∃ c, env.cells.lookup y.1 = some c := fun y hm => hy y (List.mem_cons_of_mem _ hm)
      by_cases hk : (k == NameKind.free) = true
      · obtain ⟨c, hc⟩ := hy (n, k) List.mem_cons_self (by simpa using hk)
        have hc' : env.cells.lookup n = some c := hc
        have e1 : cellOf env n = pure c := by unfold cellOf; rw [hc']
        dsimp only
        rw [if_pos hk, e1]
        show (forIn r ((n, c) :: cs) _ : Sem _) = _
        rw [ih _ hr]
        unfold closL
        rw [if_pos hk, hc']
        rw [closL.eq_def]
      · dsimp only
        rw [if_neg hk]
        show (forIn r cs _ : Sem _) = _
        rw [ih _ hr]
        unfold closL
        rw [if_neg hk]
        rw [closL.eq_def]
  unfold closureFor
  have q := all scope.names [] h
  first
    | exact q
    | exact (congrArg (fun m : Sem (List (Str × Addr)) => m >>= pure) q).trans rfl
theorem closL_sub {cells : List (Str × Addr)} : ∀ {names : List (Str × NameKind)} {cs : List (Str × Addr)} {x : Str} {c : Addr}, (∀ x c, cs.lookup x = some c → cells.lookup x = some c) → (closL cells names cs).lookup x = some c → cells.lookup x = some c
  | [], cs, x, c, h, e => h x c e
  | (n, k) :: r, cs, x, c, h, e => by
    unfold closL at e
    refine closL_sub (names := r) (fun x c e => ?_) e
    by_cases hk : (k == NameKind.free) = true
    · rw [if_pos hk] at e
      cases q : cells.lookup n with
      | none => rw [q] at e; exact h x c e
      | some d =>
        rw [q] at e
        simp only [List.lookup_cons] at e
        cases hx : x == n with
        | true =>
          rw [hx] at e
          have e' : d = c := Option.some.inj e
          rw [← e', show x = n from beq_iff_eq.mp hx]
          exact q
        | false => rw [hx] at e; exact h x c e
    · rw [if_neg hk] at e; exact h x c e
theorem closL_keep {cells : List (Str × Addr)} : ∀ {names : List (Str × NameKind)} {cs : List (Str × Addr)} {x : Str}, (cs.lookup x).isSome = true → ((closL cells names cs).lookup x).isSome = true
  | [], cs, x, h => h
  | (n, k) :: r, cs, x, h => by
    unfold closL
    refine closL_keep (names := r) ?_
    by_cases hk : (k == NameKind.free) = true
    · rw [if_pos hk]
      cases q : cells.lookup n with
      | none => exact h
      | some d =>
        show (List.lookup x ((n, d) :: cs)).isSome = true
        simp only [List.lookup_cons]
        cases x == n with
        | true => rfl
        | false => exact h
    · rw [if_neg hk]; exact h
theorem closL_has {cells : List (Str × Addr)} : ∀ {names : List (Str × NameKind)} {cs : List (Str × Addr)} {x : Str} {c : Addr}, (x, NameKind.free) ∈ names → cells.lookup x = some c → ((closL cells names cs).lookup x).isSome = true
  | [], _, _, _, h, _ => by simp at h
  | (n, k) :: r, cs, x, c, h, e => by
    unfold closL
    rcases List.mem_cons.mp h with q | q
    · cases q
      refine closL_keep ?_
      rw [if_pos (by decide), e]
      show (List.lookup _ ((_, c) :: cs)).isSome = true
      simp [List.lookup_cons]
    · exact closL_has q e

/-! ### the block's names -/
theorem lookup_mem {names : List (Str × NameKind)} {x : Str} {k : NameKind} (h : names.lookup x = some k) : (x, k) ∈ names := PySem.mem_of_lookup h
theorem lookup_relabel {env : Env} : ∀ {names : List (Str × NameKind)} {x : Str}, (names.map fun (n, k) => if (k == NameKind.free && env.scope.kind == .function && env.kindOf n == some .cell) then (n, NameKind.cell) else (n, k)).lookup x =
    (match names.lookup x with | some k => some (if (k == NameKind.free && env.scope.kind == .function && env.kindOf x == some .cell) = true then NameKind.cell else k) | none => none)
  | [], _ => rfl
  | (n, k) :: r, x => by
    have ih := @lookup_relabel env r x
    show List.lookup x ((if (k == NameKind.free && env.scope.kind == .function && env.kindOf n == some .cell) = true then (n, NameKind.cell) else (n, k)) :: _) = _
    cases hx : x == n with
    | true =>
      have e : x = n := beq_iff_eq.mp hx
      subst e
      by_cases hc : (k == NameKind.free && env.scope.kind == .function && env.kindOf x == some .cell) = true
      · rw [if_pos hc]; simp only [List.lookup_cons, hx]; rw [if_pos hc]
      · rw [if_neg hc]; simp only [List.lookup_cons, hx]; rw [if_neg hc]
    | false =>
      by_cases hc : (k == NameKind.free && env.scope.kind == .function && env.kindOf n == some .cell) = true
      · rw [if_pos hc]; simp only [List.lookup_cons, hx]; exact ih
      · rw [if_neg hc]; simp only [List.lookup_cons, hx]; exact ih
/-- M: the outer names as the block sees them (an outer name that the block hides stands as the empty text) -/
def capB (names : List (Str × NameKind)) (kind : Str → Option NameKind) : List Str → List Str → Bool
  | [], [] => true
  | y :: M, z :: N => (match names.lookup y with
      | some .free => y == z && (kind y == some .cell || kind y == some .free)
      | some .local => false
      | some .cell => false
      | _ => true) && capB names kind M N
  | _, _ => false
structure CompOk (scope : Scope) (env : Env) (x : Str) (M N : List Str) : Prop where
  kind : scope.kind = .function
  vr : scope.names.lookup x = some .local
  cell : (scope.names.all fun y => y.2 != .cell) = true
  own : (scope.names.all fun y => y.2 != .local || scope.names.lookup y.1 == some .local) = true
  free : (scope.names.all fun y => y.2 != .free || env.kindOf y.1 == some .cell || env.kindOf y.1 == some .free) = true
  cap : capB scope.names env.kindOf M N = true
  nd : (x :: M).Nodup
theorem capB_get {names : List (Str × NameKind)} {kind : Str → Option NameKind} : ∀ {M N : List Str} {i : Nat} {y : Str}, capB names kind M N = true → M[i]? = some y → (names.lookup y = some .local ∨ names.lookup y = some .cell ∨ names.lookup y = some .free) →
    N[i]? = some y ∧ names.lookup y = some .free ∧ (kind y = some .cell ∨ kind y = some .free)
  | [], _, _, _, _, h, _ => by simp at h
  | _ :: _, [], _, _, h, _, _ => by simp [capB] at h
  | z :: M, n :: N, 0, y, h, e, v => by
    have e' : z = y := by simpa using e
    subst e'
    unfold capB at h
    rw [Bool.and_eq_true] at h
    obtain ⟨h1, _⟩ := h
    rcases v with v | v | v
    · rw [v] at h1; cases h1
    · rw [v] at h1; cases h1
    · rw [v] at h1
      rw [Bool.and_eq_true, Bool.or_eq_true] at h1
      obtain ⟨h2, h3⟩ := h1
      have e2 : z = n := beq_iff_eq.mp h2
      refine ⟨by rw [e2]; rfl, v, ?_⟩
      rcases h3 with h3 | h3
      · exact .inl (beq_iff_eq.mp h3)
      · exact .inr (beq_iff_eq.mp h3)
  | z :: M, n :: N, i + 1, y, h, e, v => by
    unfold capB at h
    rw [Bool.and_eq_true] at h
    exact capB_get (M := M) (N := N) (i := i) h.2 (by simpa using e) v
theorem capB_len {names : List (Str × NameKind)} {kind : Str → Option NameKind} : ∀ {M N : List Str}, capB names kind M N = true → M.length = N.length
  | [], [], _ => rfl
  | [], _ :: _, h => by simp [capB] at h
  | _ :: _, [], h => by simp [capB] at h
  | z :: M, n :: N, h => by
    unfold capB at h
    rw [Bool.and_eq_true] at h
    rw [List.length_cons, List.length_cons, capB_len h.2]

/-! ### the block's context -/
structure Blk where
  cl : List (Str × Addr)
  C : Addr
  s1 : Shared
  H1 : Hp
  fp : List Addr
@[reducible] def cxC (X : Cx) (scope : Scope) (N' : List Str) (B : Blk) : Cx :=
  { prog := X.prog, w := X.w, K := X.K, mg := X.mg, base := X.base, A := X.A, N := N', s₀ := B.s1, H₀ := B.H1, env := compEnvC scope B.cl B.C X.env, outer := X.stack, stack := X.stack, ex := B.fp, fn := fun _ => false, calm := X.calm, pn := [],
    xe := fun _ _ => False }

section
variable {X : Cx} {pins : List (Addr × Obj)} {σ : St} {H H' : Hp} {s : Shared}
end

/-! ### the loop of a block, with the step ahead of the store -/
section
variable {prog : Program} {w : World} {A : Around} {R : Result → Shared → Prop} {s : Shared}
theorem compLoop_go {elt target iter : Expr} {ifs : List Expr} {scope : Scope} {pos : Pos} {it acc : Value} {env : Env} (I : Nat → Shared → Prop)
    (turn : ∀ n s, I n s → wpAny (model prog w) A (pyNext it) (fun r s₁ => match r with
      | none => R (.ok .next) s₁
      | some v => wpAny (model prog w) A (letOwnedTupleGo target it v) (fun _ s₀ => wpAny (model prog w) A (assign target env v) (fun _ s₂ =>
          wpAny (model prog w) A (forIn ifs true fun c r => if r = true then do let ok ← isTrue c env (eval c env); pure (ForInStep.yield ok) else pure (ForInStep.yield r)) (fun ok s₃ =>
            if ok = true then wpAny (model prog w) A (eval elt env) (fun x s₄ =>
              wpAny (model prog w) A (call (.builtin "list.append") [acc, x]) (fun _ s₅ => ∃ m, m < n ∧ I m s₅) (notedBy (model prog w) A env fun e s' => R (.error e) s') s₄) (notedBy (model prog w) A env fun e s' => R (.error e) s') s₃
            else ∃ m, m < n ∧ I m s₃) (notedBy (model prog w) A env fun e s' => R (.error e) s') s₂) (notedBy (model prog w) A env fun e s' => R (.error e) s') s₀) (notedBy (model prog w) A env fun e s' => R (.error e) s') s₁) (notedBy (model prog w) A env fun e s' => R (.error e) s') s)
    (n : Nat) (h : I n s) :
    codeAny (model prog w) A (.compLoop (.ListComp elt [⟨target, iter, ifs, 0⟩] scope pos) 0 it acc env) R s := by
  refine codeAny_loop rfl I (fun n s hI => ?_) n h
  show wpAny _ A ((compTurn (.ListComp elt [⟨target, iter, ifs, 0⟩] scope pos) 0 it acc env).onRaise (fun x => do noteFrame x env; theTreesLotGoes x)) _ _ s
  refine wpAny_noted ?_
  rw [compTurn_list]
  refine wpAny_bind (wpAny_standAt (wpAny_bind (wpAny_mono (turn n s hI) (fun r s₁ h₁ => ?_) fun _ _ h' => h')))
  cases r with
  | none => exact wpAny_pure h₁
  | some v =>
    refine wpAny_bind (wpAny_mono h₁ (fun _ s₀ h₀ => ?_) fun _ _ h' => h')
    refine wpAny_bind (wpAny_mono h₀ (fun _ s₂ h₂ => wpAny_bind (wpAny_mono h₂ (fun ok s₃ h₃ => ?_) fun _ _ h' => h')) fun _ _ h' => h')
    cases ok with
    | false => exact wpAny_pure ⟨rfl, h₃⟩
    | true =>
      exact wpAny_bind (wpAny_bind (wpAny_mono h₃ (fun x s₄ h₄ => wpAny_bind (wpAny_mono h₄ (fun _ s₅ h₅ => wpAny_pure (wpAny_pure ⟨rfl, h₅⟩)) fun _ _ h' => h')) fun _ _ h' => h'))
end

/-! ### the tests of a block -/
def PTs (X : Cx) (ifs : List Expr) (t : TT) : Prop :=
  ∀ (pins : List (Addr × Obj)) (s : Shared) (σ : St) (H : Hp) (Q : Bool → Hp → Prop), Inv X pins σ H s → t σ H Q →
    wpAny (model X.prog X.w) X.A (forIn ifs true fun c r => if r = true then do let ok ← isTrue c X.env (eval c X.env); pure (ForInStep.yield ok) else pure (ForInStep.yield r)) (TP X pins σ Q) X.xe s
def tTrue : TT := fun _ H Q => Q true H
section
variable {X : Cx}
theorem pts_nil : PTs X [] tTrue := fun _ _ _ H _ I h => wpAny_tests_nil ⟨H, I, h⟩
theorem pts_one {c : Expr} {t : TT} (h : PT X c t) : PTs X [c] t := fun pins s σ H Q I hq => wpAny_tests_one (h pins s σ H Q I hq)
end

/-- the reading: the source, then an invariant W by the turn, a measure, the items so far and the heap (the list itself comes at the end) -/
def CompW (J : It) (σ : St) (tc : Blk → TT) (te : Blk → TE) (F : VK) (H1 : Hp) : Prop :=
  ∃ W : Nat → Nat → List V → Hp → Prop, (∃ m, W 0 m [] H1) ∧ ∀ i m ys H2, W i m ys H2 →
    (J.stop i H2 ∧ ∀ acc, H2 acc = none → F (.ref acc) (upd H2 acc (.lst ys))) ∨ (J.go i H2 ∧ ∀ x H3, J.yld i H2 x H3 → ∀ B : Blk, tc B (some x :: σ) H3 fun b H4 =>
      if b = true then te B (some x :: σ) H4 fun y H5 => ys.length < sizeLine ∧ ∃ m', m' < m ∧ W (i + 1) m' (ys ++ [y]) H5 else ∃ m', m' < m ∧ W (i + 1) m' ys H4)
def tComp (wi : TI) (tc : Blk → TT) (te : Blk → TE) : TE := fun σ H Q => wi σ H fun J H1 => CompW J σ tc te Q H1

theorem HOk.track {P : Program} {w : World} {H : Hp} {h : Heap} {D : Addr} {o : HO} (x : HOk P w H h) (hn : H D = none) (new : ObjOk P w (upd H D o) h D o) : HOk P w (upd H D o) h := fun b u e => by
  by_cases hb : b = D
  · subst hb; rw [upd_same] at e; cases e; exact new
  · rw [upd_ne hb] at e
    exact (x b u e).stay (fun c v _ q => q) (fun c q => by rw [upd_ne (ne_of_none q hn)]; exact q) fun c xs q => by rw [upd_ne (ne_of_none q hn)]; exact q
theorem Un.track {fs ex : List Addr} {H H' : Hp} {h0 h h' : Heap} {D : Addr} {o : HO} (u : Un fs (D :: ex) H H' h h') (k : ∀ b u, h0.get? b = some u → h.get? b = some u) (hD : h0.objs.size ≤ D) (hn : H' D = none) : Un fs ex H (upd H' D o) h0 h' := by
  have ne : ∀ {b : Addr} {ob : Obj}, h0.get? b = some ob → b ≠ D := fun {b ob} e => Nat.ne_of_lt (Nat.lt_of_lt_of_le (Heap.lt_size e) hD)
  have nx : ∀ {b : Addr} {ob : Obj}, h0.get? b = some ob → b ∉ ex → b ∉ D :: ex := fun {b ob} e hx z => (List.mem_cons.mp z).elim (ne e) hx
  refine ⟨fun b ob e n hf hx => u.keep b ob (k b ob e) n hf (nx e hx), fun b ob e n hf hx => u.slot b ob (k b ob e) n hf (nx e hx), fun b ob e n hx => ?_, fun b ob e hx => u.there b ob (k b ob e) (nx e hx), fun b xs e => ?_, fun b ob xs e => ?_, fun b ps e => ?_⟩
  · rw [upd_ne (ne e)]; exact u.free b ob (k b ob e) n (nx e hx)
  · have q := u.tups b xs e
    rw [upd_ne (ne_of_none q hn)]; exact q
  · have q := u.frzs b ob xs e
    rw [upd_ne (ne_of_none q hn)]; exact q
  · obtain ⟨more, q⟩ := u.tbls b ps e
    exact ⟨more, by rw [upd_ne (ne_of_none q hn)]; exact q⟩

section
variable {X : Cx} {pins : List (Addr × Obj)} {σ : St} {H : Hp} {s : Shared}
theorem CompOk.hfree {scope : Scope} {x : Str} {M : List Str} (I : Inv X pins σ H s) (ok : CompOk scope X.env x M X.N) : ∀ y ∈ scope.names, y.2 = .free → ∃ c, X.env.cells.lookup y.1 = some c := fun y hy hk => by
  have q := List.all_eq_true.mp ok.free y hy
  rw [hk] at q
  have q' : (X.env.kindOf y.1 == some .cell || X.env.kindOf y.1 == some .free) = true := by simpa using q
  rw [Bool.or_eq_true] at q'
  exact I.ok.has y.1 (q'.imp (fun z => beq_iff_eq.mp z) fun z => beq_iff_eq.mp z)
theorem CompOk.hcell {scope : Scope} {env : Env} {x : Str} {M N : List Str} (ok : CompOk scope env x M N) : ∀ y ∈ scope.names, y.2 ≠ .cell := fun y hy hk => by
  have q := List.all_eq_true.mp ok.cell y hy
  rw [hk] at q
  exact absurd q (by decide)
theorem CompOk.hnames {scope : Scope} {env : Env} {x : Str} {M N : List Str} (ok : CompOk scope env x M N) : ∀ y ∈ scope.names, y.2 = .local → scope.names.lookup y.1 = some .local := fun y hy hk => by
  have q := List.all_eq_true.mp ok.own y hy
  rw [hk] at q
  have q' : (scope.names.lookup y.1 == some .local) = true := by simpa using q
  exact beq_iff_eq.mp q'
/-- what the block sees of a name -/
theorem CompOk.see {scope : Scope} {x : Str} {M N : List Str} {env : Env} (ok : CompOk scope env x M N) {y : Str} (v : Vis (relabel scope env) y) : scope.names.lookup y = some .local ∨ scope.names.lookup y = some .cell ∨ scope.names.lookup y = some .free := by
  unfold Vis relabel at v
  simp only [lookup_relabel] at v
  cases e : scope.names.lookup y with
  | none => rw [e] at v; simp at v
  | some k =>
    rw [e] at v
    cases k <;> simp_all
theorem CompOk.cellOrFree {scope : Scope} {x : Str} {M N : List Str} {env : Env} (ok : CompOk scope env x M N) {y : Str} (v : (relabel scope env).names.lookup y = some .cell ∨ (relabel scope env).names.lookup y = some .free) : scope.names.lookup y = some .free := by
  unfold relabel at v
  simp only [lookup_relabel] at v
  cases e : scope.names.lookup y with
  | none => rw [e] at v; simp at v
  | some k =>
    have hc := ok.hcell (y, k) (lookup_mem e)
    rw [e] at v
    cases k <;> simp_all
theorem CompOk.back {scope : Scope} {x : Str} {M N : List Str} {env : Env} (ok : CompOk scope env x M N) {y : Str} (v : scope.names.lookup y = some .free) : (relabel scope env).names.lookup y = some .cell ∨ (relabel scope env).names.lookup y = some .free := by
  unfold relabel
  simp only [lookup_relabel, v]
  by_cases hc : (NameKind.free == NameKind.free && env.scope.kind == .function && env.kindOf y == some .cell) = true
  · rw [if_pos hc]; exact .inl rfl
  · rw [if_neg hc]; exact .inr rfl

theorem comp_core {elt iter : Expr} {x : Str} {px : Pos} {ifs : List Expr} {scope : Scope} {pos : Pos} {M : List Str} {tc : Blk → TT} {te : Blk → TE} {J : It} {fp : List Addr} {it : Addr} {tn : Nat → Heap → Prop} {F : V → Hp → Prop} {E : Value → Shared → Prop}
    {RR : Value → Addr → Result → Shared → Prop}
    (I : Inv X pins σ H s) (ok : CompOk scope X.env x M X.N) (hc : X.calm = true) (T : Turn X.prog X.w X.K (.Name x px) J fp it tn) (st : tn 0 s.heap) (hf : ∀ b ∈ fp, FpOk X pins H b)
    (ht : ∀ B : Blk, PTs (cxC X scope (x :: M) B) ifs (tc B)) (he : ∀ B : Blk, PE (cxC X scope (x :: M) B) elt (te B))
    (hR : CompW J σ tc te F H)
    (hRR : ∀ (acc C : Addr) (Hn : Hp) (s' : Shared) (m : Str → Option Value), Inv X pins σ Hn s' → FpOk X pins Hn C → s'.heap.Ns C m → F (.ref acc) Hn → RR (.ref acc) C (.ok .next) s') :
    wpAny (model X.prog X.w) X.A (newList []) (fun acc s₃ => wpAny (model X.prog X.w) X.A (newFunctionEnv scope X.env.globals (closL X.env.cells scope.names []) [] X.env.qual none .none (some X.env)) (fun cenv s₄ =>
      codeAny (model X.prog X.w) X.A (.compStart (.ListComp elt [⟨.Name x px, iter, ifs, 0⟩] scope pos) 0 (.ref it) acc { cenv with scope := relabel scope X.env }) (RR acc cenv.locals) s₄) E s₃) E s := by
  refine wpAny_newObj_type (wpAny_newFunctionEnv ok.hcell (by intro y hy; simp at hy) (fun h₁ hns₁ hsb₁ => ?_) ok.kind)
  have I3 : Inv X pins σ H { s with heap := s.heap.push { cls := .type "list", data := .seq ([] : List Value).toArray } } := I.kept (t' := s.toks) fun b o e => Heap.get?_push_of_some _ e
  obtain ⟨W, ⟨m0, w0⟩, turn⟩ := hR
  have hDob : (s.heap.push { cls := .type "list", data := .seq ([] : List Value).toArray }).get? s.heap.objs.size = some { cls := .type "list", data := .seq ([] : List Value).toArray } := Heap.get?_push_size _ rfl
  have hsz3 : (s.heap.push { cls := .type "list", data := .seq ([] : List Value).toArray }).objs.size = s.heap.objs.size + 1 := Heap.size_push _ _
  have old : ∀ b o, s.heap.get? b = some o → (s.heap.push { cls := .type "list", data := .seq ([] : List Value).toArray }).get? b = some o := fun b o e => Heap.get?_push_of_some _ e
  generalize hs3 : ({ s with heap := s.heap.push { cls := .type "list", data := .seq ([] : List Value).toArray } } : Shared) = s3 at I3
  have hh3 : s.heap.push { cls := .type "list", dict := none, data := .seq ([] : List Value).toArray } = s3.heap := by rw [← hs3]
  dsimp only at hns₁ hsb₁ ⊢
  rw [hh3] at hns₁ hsb₁ hDob hsz3 old
  -- the frame of the block
  have old1 : ∀ b o, s3.heap.get? b = some o → h₁.get? b = some o := fun b o e => (hsb₁.2 b (Nat.ne_of_lt (Heap.lt_size e))).trans (Heap.get?_push_of_some _ e)
  have hclx : ∀ y c, (closL X.env.cells scope.names []).lookup y = some c → X.env.cells.lookup y = some c := fun y c e => closL_sub (fun _ _ z => by simp at z) e
  have fD : FpOk X pins H s.heap.objs.size := I.fpOk (Nat.le_refl _) I.fresh
  have hf' : ∀ b ∈ s.heap.objs.size :: fp, FpOk X pins H b := fun b hb => by
    rcases List.mem_cons.mp hb with z | z
    · rw [z]; exact fD
    · exact hf b z
  have hfp3 : ∀ b ∈ s.heap.objs.size :: fp, b < s3.heap.objs.size := fun b hb => by
    rcases List.mem_cons.mp hb with z | z
    · rw [z]; exact Heap.lt_size hDob
    · obtain ⟨o, e, _⟩ := T.obj 0 _ st b z
      exact Heap.lt_size (old b o e)
  have hDfp : s.heap.objs.size ∉ fp := fun z => by
    obtain ⟨o, e, _⟩ := T.obj 0 _ st _ z
    exact Nat.lt_irrefl _ (Heap.lt_size e)
  have hkx : (relabel scope X.env).names.lookup x = some .local := by
    unfold relabel
    exact lookup_relabel_local ok.vr
  let B : Blk := ⟨closL X.env.cells scope.names [], s3.heap.objs.size, s3, H, s.heap.objs.size :: fp⟩
  have hYok : (cxC X scope (x :: M) B).Ok := by
    refine ⟨I3.ok.mod, ok.kind, I3.ok.glob, I3.ok.blt, Nat.le_refl _, fun y z c h1 h2 => I3.ok.inj y z c (hclx _ _ h1) (hclx _ _ h2), fun y hy => ?_, fun y c hy _ => (by cases hy), I3.ok.hd, I3.ok.frames, .inl rfl, fun b hb => ⟨Nat.ne_of_lt (hfp3 b hb), fun y c e => (hf' b hb).2.2.2.2.1 y c (hclx _ _ e)⟩,
      I3.bs, Nat.le_trans I3.ok.bsz I3.sz, fun b o e hb => ?_, fun b hb hb' => ?_, I3.stack, I3.stkFree⟩
    · have q := ok.cellOrFree hy
      obtain ⟨c, e⟩ := ok.hfree I3 (y, .free) (lookup_mem q) rfl
      exact Option.isSome_iff_exists.mp (closL_has (lookup_mem q) e)
    · rcases (hf' b hb).2.2.2.1 with z | z
      · exact I3.ok.noex b o e z
      · exact absurd (Nat.lt_of_lt_of_le (Heap.lt_size e) (Nat.le_trans I3.ok.bsz z)) (Nat.lt_irrefl _)
    · rcases List.mem_cons.mp (I3.stkSub b hb') with z | z
      · exact (hf' b hb).2.1 z
      · exact (hf' b hb).2.2.1 z
  have IB : Inv (cxC X scope (x :: M) B) [] (none :: σ) H { s3 with heap := h₁ } := by
    refine ⟨hYok, rfl, I3.bare, Un.kept old1, ⟨_, hns₁, fun i y v h1 h2 h3 => ?_⟩, fun y c e => ?_, I3.hok.fresh (Nat.le_refl _), fun y c e => I3.freeC y c (hclx y c e), fun p hp => absurd (show p ∈ ([] : List (Addr × Obj)) from hp) (by simp), I3.hok.kept old1, ?_⟩
    · cases i with
      | zero => cases (show (some (none : Option V)) = some (some v) from h2)
      | succ i =>
        have h1' : M[i]? = some y := by simpa using h1
        have h2' : σ[i]? = some (some v) := by simpa using h2
        obtain ⟨hN, hfr, hk⟩ := capB_get ok.cap h1' (ok.see h3)
        obtain ⟨m, _, hl⟩ := I3.loc
        have hv : Vis X.env.scope y := hk.elim (fun z => .inr (.inl z)) fun z => .inr (.inr z)
        obtain ⟨u, r, l⟩ := hl i y v hN h2' hv
        refine ⟨u, r, .inr ⟨ok.back hfr, ?_⟩⟩
        rcases l with ⟨hk', _⟩ | ⟨_, c, hc', hcell⟩
        · rw [hk'] at hk; simp at hk
        · obtain ⟨d, hd⟩ := Option.isSome_iff_exists.mp (closL_has (cs := []) (lookup_mem hfr) hc')
          have e := hclx y d hd
          rw [hc'] at e
          cases e
          refine ⟨c, hd, ?_⟩
          obtain ⟨o, ho, hod⟩ := hcell
          exact ⟨o, old1 c o ho, hod⟩
    · obtain ⟨v, o, ho, hod⟩ := I3.cell y c (hclx y c e)
      exact ⟨v, o, old1 c o ho, hod⟩
    · show (none :: σ).length = (x :: M).length
      rw [List.length_cons, List.length_cons, I3.len, capB_len ok.cap]
  -- back to the caller's state
  have back : ∀ {σ' : St} {Hn : Hp} {s' : Shared} {ys : List V} {its : List Value} {n : Nat}, Inv (cxC X scope (x :: M) B) [] σ' Hn s' → Hn s.heap.objs.size = none → s'.heap.get? s.heap.objs.size = some { cls := .type "list", data := .seq its.toArray n } → Vals ys its →
      ys.length ≤ sizeLine → Inv X pins σ (upd Hn s.heap.objs.size (.lst ys)) s' ∧ FpOk X pins (upd Hn s.heap.objs.size (.lst ys)) s3.heap.objs.size := fun {σ' Hn s' ys its n} J hn ho hv hz => by
    have hnC : (upd Hn s.heap.objs.size (.lst ys)) s3.heap.objs.size = none := by
      rw [upd_ne (by rw [hsz3]; exact Nat.succ_ne_self _)]
      exact J.free
    have hos : s3.os = s.os := by rw [← hs3]
    refine ⟨I.call' (ch := fp) (J.os.trans hos) (J.base.track old (Nat.le_refl _) hn) (J.hok.track hn ⟨hz, its, n, hv, ho⟩) J.bare fun b hb => ?_, I.fpOk (by rw [hsz3]; exact Nat.le_succ _) hnC⟩
    obtain ⟨_, f1, _, f3, f4, f5⟩ := hf b hb
    exact ⟨f3, f1, f4, f5⟩
  have stat : ∀ {Hn : Hp}, (∀ b ∈ s.heap.objs.size :: fp, Hn b = none) → ∀ b ∈ s.heap.objs.size :: fp, FpOk (cxC X scope (x :: M) B) [] Hn b := fun hn b hb =>
    ⟨hn b hb, Nat.ne_of_lt (hfp3 b hb), fun hb' => (List.mem_cons.mp (I3.stkSub b hb')).elim (hf' b hb).2.1 (hf' b hb).2.2.1, .inl hb, fun y c e => (hf' b hb).2.2.2.2.1 y c (hclx y c e), fun p hp => absurd (show p ∈ ([] : List (Addr × Obj)) from hp) (by simp)⟩
  have stat1 : ∀ {Hn : Hp}, (∀ b ∈ s.heap.objs.size :: fp, Hn b = none) → ∀ b ∈ fp, FpOk (cxC X scope (x :: M) B) [] Hn b := fun hn b hb => stat hn b (List.mem_cons_of_mem _ hb)
  have st1 : tn 0 h₁ := T.keep _ _ _ st fun b hb o e => old1 b o (old b o e)
  have elimE : ∀ {E' : Value → Shared → Prop} (e : Value) (s' : Shared), (cxC X scope (x :: M) B).xe e s' → E' e s' := fun _ _ z => False.elim z
  have loop : ∀ s4 : Shared, s4 = { s3 with heap := h₁ } → codeAny (model X.prog X.w) X.A (.compLoop (.ListComp elt [⟨.Name x px, iter, ifs, 0⟩] scope pos) 0 (.ref it) (.ref s.heap.objs.size) (compEnvC scope (closL X.env.cells scope.names []) s3.heap.objs.size X.env))
      (RR (.ref s.heap.objs.size) s3.heap.objs.size) s4 := by
    rintro s4 rfl
    refine compLoop_go (fun n s' => ∃ i ys its k Hn vx, Inv (cxC X scope (x :: M) B) [] (vx :: σ) Hn s' ∧ tn i s'.heap ∧ (∀ b ∈ s.heap.objs.size :: fp, Hn b = none) ∧ s'.heap.get? s.heap.objs.size = some { cls := .type "list", data := .seq its.toArray k } ∧ Vals ys its ∧ ys.length ≤ sizeLine ∧ W i n ys Hn) ?_ m0
      ⟨0, [], [], 0, _, none, IB, st1, fun b hb => (hf' b hb).1, old1 _ _ hDob, .nil, Nat.zero_le _, w0⟩
    rintro n s5 ⟨i, ys, its, k, Hn, vx, J5, st5, fr5, ho5, hv5, hz5, w5⟩
    rcases turn i n ys Hn w5 with ⟨stop, q⟩ | ⟨go, step⟩
    · refine wpAny_mono (T.done (cxC X scope (x :: M) B) rfl rfl rfl hc i (pinsAt [s.heap.objs.size] s5.heap) s5 (vx :: σ) Hn (fun _ _ => False) (J5.pinned (fp := [s.heap.objs.size]) (fun b hb => stat fr5 b (by rw [List.mem_singleton.mp hb]; exact List.mem_cons_self)) fun b hb => ?_) (fun b hb => ?_) st5 stop) (fun r s6 ⟨hr, J6⟩ => ?_) fun _ _ z => False.elim z
      · rw [List.mem_singleton.mp hb]
        exact ⟨_, ho5, fun v z => by cases z⟩
      · obtain ⟨g0, g1, g2, g3, g4, _⟩ := stat1 fr5 b hb
        refine ⟨g0, g1, g2, g3, g4, fun p hp z => ?_⟩
        obtain ⟨hp', _⟩ := of_pinsAt (show p ∈ pinsAt [s.heap.objs.size] s5.heap from hp)
        rw [List.mem_singleton.mp hp'] at z
        rw [← z] at hb
        exact hDfp hb
      · subst hr
        have ho6 := (J6.pin (s.heap.objs.size, _) (List.mem_append_right _ (mem_pinsAt (List.mem_singleton.mpr rfl) ho5))).1
        obtain ⟨b1, b2⟩ := back (J6.pins_of fun p hp => absurd hp (by simp)) (fr5 _ List.mem_cons_self) ho6 hv5 hz5
        obtain ⟨m6, hn6, _⟩ := J6.loc
        exact hRR _ _ _ s6 m6 b1 b2 hn6 (q _ (fr5 _ List.mem_cons_self))
    · refine wpAny_mono (T.item (cxC X scope (x :: M) B) rfl rfl rfl hc i (pinsAt [s.heap.objs.size] s5.heap) s5 (vx :: σ) Hn (fun _ _ => False) (J5.pinned (fp := [s.heap.objs.size]) (fun b hb => stat fr5 b (by rw [List.mem_singleton.mp hb]; exact List.mem_cons_self)) fun b hb => ?_) (fun b hb => ?_) st5 go) (fun r s6 ⟨u, hr, h6⟩ => ?_) fun _ _ z => False.elim z
      · rw [List.mem_singleton.mp hb]
        exact ⟨_, ho5, fun v z => by cases z⟩
      · obtain ⟨g0, g1, g2, g3, g4, _⟩ := stat1 fr5 b hb
        refine ⟨g0, g1, g2, g3, g4, fun p hp z => ?_⟩
        obtain ⟨hp', _⟩ := of_pinsAt (show p ∈ pinsAt [s.heap.objs.size] s5.heap from hp)
        rw [List.mem_singleton.mp hp'] at z
        rw [← z] at hb
        exact hDfp hb
      · subst hr
        refine wpAny_mono h6 (fun _ s7 ⟨xv, H7, J7, r7, y7, st7, fr7⟩ => ?_) fun _ _ z => False.elim z
        have hp7 := J7.pin (s.heap.objs.size, _) (List.mem_append_right _ (mem_pinsAt (List.mem_singleton.mpr rfl) ho5))
        have ho7 := hp7.1
        have fr7' : ∀ b ∈ s.heap.objs.size :: fp, H7 b = none := fun b hb => by
          rcases List.mem_cons.mp hb with z | z
          · rw [z]; exact hp7.2.1
          · exact fr7 b z
        have J7' := (Inv.pins_of (pins' := []) J7 fun p hp => absurd hp (by simp)).pinned (stat fr7') fun b hb => by
          rcases List.mem_cons.mp hb with z | z
          · rw [z]; exact ⟨_, ho7, fun v z => by cases z⟩
          · exact T.obj _ _ st7 b z
        have kept : ∀ {b : Addr} {o : Obj} {σ8 : St} {H8 : Hp} {s8 : Shared}, Inv (cxC X scope (x :: M) B) ([] ++ pinsAt (s.heap.objs.size :: fp) s7.heap) σ8 H8 s8 → b ∈ s.heap.objs.size :: fp → s7.heap.get? b = some o → s8.heap.get? b = some o ∧ H8 b = none := fun {b o σ8 H8 s8} J8 hb e =>
          let z := J8.pin (b, o) (List.mem_append_right _ (List.mem_append_right _ (mem_pinsAt hb e)))
          ⟨z.1, z.2.1⟩
        have none8 : ∀ {σ8 : St} {H8 : Hp} {s8 : Shared}, Inv (cxC X scope (x :: M) B) ([] ++ pinsAt (s.heap.objs.size :: fp) s7.heap) σ8 H8 s8 → ∀ b ∈ s.heap.objs.size :: fp, H8 b = none := fun {σ8 H8 s8} J8 b hb => by
          rcases List.mem_cons.mp hb with z | z
          · rw [z]; exact (kept J8 List.mem_cons_self ho7).2
          · obtain ⟨o, e, _⟩ := T.obj _ _ st7 b z
            exact (kept J8 hb e).2
        refine wpAny_mono (pg_name (X := cxC X scope (x :: M) B) (i := 0) (x := x) (pos := px) ok.nd rfl (.inl hkx) (.inr hkx) _ s7 (vx :: σ) H7 xv u (fun σ8 H8 => σ8 = some xv :: σ ∧ tc B (some xv :: σ) H8 fun b H4 =>
            if b = true then te B (some xv :: σ) H4 fun y H5 => ys.length < sizeLine ∧ ∃ m', m' < n ∧ W (i + 1) m' (ys ++ [y]) H5 else ∃ m', m' < n ∧ W (i + 1) m' ys H4)
          J7' r7 ⟨rfl, step xv H7 y7 B⟩) (fun _ s8 ⟨σ8, H8, J8, e8, q8⟩ => ?_) elimE
        subst e8
        refine wpAny_mono (ht B _ s8 (some xv :: σ) H8 _ J8 q8) (fun b s9 ⟨H9, J9, q9⟩ => ?_) elimE
        cases b with
        | false =>
          rw [if_neg Bool.false_ne_true] at q9
          obtain ⟨m', hm, w9⟩ := q9
          show if false = true then _ else _
          rw [if_neg Bool.false_ne_true]
          exact ⟨m', hm, i + 1, ys, its, k, H9, some xv, J9.unpinned, T.keep _ _ _ st7 fun b hb o e => (kept J9 (List.mem_cons_of_mem _ hb) e).1, none8 J9, (kept J9 List.mem_cons_self ho7).1, hv5, hz5, w9⟩
        | true =>
          rw [if_pos rfl] at q9
          show if true = true then _ else _
          rw [if_pos rfl]
          refine wpAny_mono (he B _ s9 _ H9 _ J9 q9) (fun y' s10 ⟨y, H10, J10, r10, hz, m', hm, w10⟩ => ?_) elimE
          have ho10 := (kept J10 List.mem_cons_self ho7).1
          have hl5 := hv5.length
          refine call_meets PySem.F.slot_list_append ⟨_, ho10, rfl⟩ PySem.F.entry_list_append (PySem.F.args_list_append_2 _ _) (PySem.list_append s.heap.objs.size its.toArray k y' (by rw [List.size_toArray]; (first | lia | omega))) ⟨ho10, ?_⟩
          have n10 := none8 J10
          obtain ⟨g0, g1, g2, g3, g4, g5⟩ := stat n10 s.heap.objs.size List.mem_cons_self
          have q := PySem.IsL.update ho10 (fun a => a.push y')
          have eq1 : its.toArray.push y' = (its ++ [y']).toArray := by simp
          rw [eq1] at q
          refine ⟨m', hm, i + 1, ys ++ [y], its ++ [y'], _, H10, some xv, (J10.pins_of (pins' := []) fun p hp => absurd hp (by simp)).turned (it := s.heap.objs.size) (fun b o hb e => (Heap.get?_update_other s10.heap _ (Ne.symm hb)).trans e) g0 g1 g3 g4 g5,
            T.keep _ _ _ st7 (fun b hb o e => ?_), n10, q, hv5.append (.cons r10 .nil), ?_, w10⟩
          · refine (Heap.get?_update_other s10.heap _ (fun z => hDfp ?_)).trans (kept J10 (List.mem_cons_of_mem _ hb) e).1
            rw [z]; exact hb
          · rw [List.length_append, List.length_singleton]
            (first | lia | omega)
  exact codeAny_compStart_list (loop _ rfl) (T.self _ 0 _ _ _ st1 (loop _ rfl))

/-- [elt for x in iter if ..] -/
theorem pe_comp {elt iter : Expr} {x : Str} {px : Pos} {ifs : List Expr} {scope : Scope} {pos : Pos} {M : List Str} {wi : TI} {tc : Blk → TT} {te : Blk → TE}
    (ok : CompOk scope X.env x M X.N) (hc : X.calm = true) (hi : PI X (.Name x px) iter wi)
    (ht : ∀ B : Blk, PTs (cxC X scope (x :: M) B) ifs (tc B)) (he : ∀ B : Blk, PE (cxC X scope (x :: M) B) elt (te B))
    (hs : ∀ x, foldedSetIterable iter X.env x = pure x := by intro _; rfl) : PE X (.ListComp elt [⟨.Name x px, iter, ifs, 0⟩] scope pos) (tComp wi tc te) := by
  intro pins s σ H Q I h
  rw [eval_ListComp]
  refine wpAny_comprehension_free (use := none) rfl hs (closureFor_closL (ok.hfree I)) ok.kind ok.hnames (thn (hi pins s σ H _ I h) fun v s1 h1 => thn h1 fun itv s2 h2 => ?_)
  obtain ⟨it, fp, tn, J, H2, e, I2, T, st2, f2, hR⟩ := h2
  subst e
  refine comp_core (RR := fun acc C => compPost (model X.prog X.w) X.A X.xe none (EP X pins σ Q) acc C) I2 ok hc T st2 f2 ht he hR fun acc C Hn s' m J fC hn q => ?_
  obtain ⟨f0, f1, f2, f3, f4, f5⟩ := fC
  exact ⟨m, hn, fun h' sb => ⟨.ref acc, Hn, J.turned (t' := s'.toks) (fun b o hb e => (sb.2 b hb).trans e) f0 f1 f3 f4 f5, rfl, q⟩⟩

/-- y = [elt for x in iter if ..] where the store comes ahead of the block's end -/
def tSetC (i : Nat) (t : TE) : TS := fun D σ H => t σ H fun v H1 => D.nx (σ.set i (some v)) H1
theorem ps_setC {elt iter : Expr} {x y : Str} {px py : Pos} {ifs : List Expr} {scope : Scope} {pos spos : Pos} {M : List Str} {wi : TI} {tc : Blk → TT} {te : Blk → TE} {i : Nat}
    (hN : X.N.Nodup) (hy : X.N[i]? = some y) (hl : Loc X.env.scope y)
    (ok : CompOk scope X.env x M X.N) (hc : X.calm = true) (hi : PI X (.Name x px) iter wi)
    (ht : ∀ B : Blk, PTs (cxC X scope (x :: M) B) ifs (tc B)) (he : ∀ B : Blk, PE (cxC X scope (x :: M) B) elt (te B))
    (hsw : swapsWith (.ListComp elt [⟨.Name x px, iter, ifs, 0⟩] scope pos) (some (.Name y py)) spos.line X.env = pure true := by rfl)
    (hs : ∀ x, foldedSetIterable iter X.env x = pure x := by intro _; rfl)
    (hf : X.fn y = true ∨ X.env.scope.names.lookup y = some .local := by first | exact .inl rfl | exact .inr rfl | assumption) :
    PS X (.Assign [.Name y py] (.ListComp elt [⟨.Name x px, iter, ifs, 0⟩] scope pos) spos) (tSetC i (tComp wi tc te)) := by
  intro pins s σ H D I h
  rw [exec_Assign_Name_used _ _ _ _ hsw]
  refine wpAny_bind (wpAny_standAt (wpAny_bind ?_))
  show wpAny _ _ (do let _ ← comprehension (.ListComp elt [⟨.Name x px, iter, ifs, 0⟩] scope pos) scope X.env _ (newList []) false (eval iter X.env) (some (assign (.Name y py) X.env))) _ _ s
  refine wpAny_bind (wpAny_mono (wpAny_comprehension_free (Q := fun _ s' => SP X pins D .next s') (use := some (assign (.Name y py) X.env)) rfl hs (closureFor_closL (ok.hfree I)) ok.kind ok.hnames (thn (hi pins s σ H _ I h) fun v s1 h1 => thn h1 fun itv s2 h2 => ?_))
    (fun _ s' hq => wpAny_pure (wpAny_pure hq)) fun _ _ e => e)
  obtain ⟨it, fp, tn, J, H2, e, I2, T, st2, f2, hR⟩ := h2
  subst e
  refine comp_core (RR := fun acc C => compPost (model X.prog X.w) X.A X.xe (some (assign (.Name y py) X.env)) (fun _ s' => SP X pins D .next s') acc C) I2 ok hc T st2 f2 ht he hR fun acc C Hn s' m J fC hn q => ?_
  have hob : ∃ o, s'.heap.get? C = some o ∧ ∀ v, o.data ≠ .cell v := by
    obtain ⟨o, es, ep, ho, hd, _⟩ := hn
    exact ⟨o, ho, fun v z => by rw [hd] at z; cases z⟩
  have J' := J.pinned (fp := [C]) (fun b hb => by rw [List.mem_singleton.mp hb]; exact fC) fun b hb => by rw [List.mem_singleton.mp hb]; exact hob
  obtain ⟨f0, f1, f2, f3, f4, f5⟩ := fC
  refine thn (pg_name (pos := py) hN hy hl hf _ s' σ Hn (.ref acc) (.ref acc) (fun σ' H' => σ' = σ.set i (some (.ref acc)) ∧ H' = Hn) J' rfl ⟨rfl, rfl⟩) fun _ s'' ⟨σ', H', J2, e1, e2⟩ => ?_
  subst e1 e2
  obtain ⟨oC, hoC, _⟩ := hob
  have hC := (J2.pin (C, oC) (List.mem_append_right _ (List.mem_append_right _ (mem_pinsAt (List.mem_singleton.mpr rfl) hoC)))).1
  refine ⟨m, ?_, fun h' sb => ⟨_, _, J2.unpinned.turned (t' := s''.toks) (fun b o hb e => (sb.2 b hb).trans e) f0 f1 f3 f4 f5, q⟩⟩
  obtain ⟨o, es, ep, ho, r⟩ := hn
  rw [hoC] at ho
  cases ho
  exact ⟨oC, es, ep, hC, r⟩
end

end L2

set_option Elab.async false
set_option linter.all false
set_option maxRecDepth 100000
set_option maxHeartbeats 4000000
/-! More rules: f-strings, join, split, int of a text, all, sets, ranges, isinstance, deep data. -/
namespace L2
open PySem PySem.Spec PyProof.Rows
section
variable {X : Cx}

/-! ### f-strings -/

/-! ### texts: join, split, int -/

/-! ### a text's signs -/

/-! ### all of a list of bools -/

/-! ### sets of ints: set(xs), len -/
theorem ints_vals : ∀ {ns : List Int} {its : List Value}, Vals (ns.map V.int) its → IntsAre its ns
  | [], _, .nil => .nil
  | n :: ns, _, .cons r t => by
    obtain ⟨tk, rfl⟩ := r
    exact .cons n tk (ints_vals t)

/-! ### range objects -/
theorem call_range1 : CallR X (.type "range") (fun xs H Q => ∃ n : Int, xs = [.int n] ∧ ∀ l, H l = none → Q (.ref l) (upd H l (.rng 0 n))) := by
  intro pins s σ H xs us Q I r h
  obtain ⟨n, rfl, q⟩ := h
  obtain ⟨u, rfl, t, rfl⟩ := vals1 r
  exact call_range_1 ⟨.ref _, upd H s.heap.objs.size (.rng 0 n), I.laid (o := .rng 0 n) (fun b o e => Heap.get?_push_of_some _ e) (Nat.le_refl _) ⟨_, _, _, Heap.get?_push_size _ rfl⟩, rfl, q _ I.fresh⟩
theorem small_of {n : Int} (h0 : 0 ≤ n) (h1 : n ≤ 1000000) : Builtin.Range.small 0 n 1 = true ∧ Builtin.Range.rangeSize 0 n 1 = n.toNat := by
  have e : Builtin.Range.rangeSize 0 n 1 = n.toNat := by
    unfold Builtin.Range.rangeSize
    simp
    (first | lia | omega)
  refine ⟨?_, e⟩
  unfold Builtin.Range.small
  rw [e]
  simp [Builtin.Range.rangeFitsLong]
  (first | lia | omega)
theorem call_list_rng (hc : X.calm = true) : CallR X (.type "list") (fun xs H Q => ∃ (p : Addr) (n : Int), xs = [.ref p] ∧ H p = some (.rng 0 n) ∧ 0 ≤ n ∧ n ≤ 1000000 ∧ ∀ l, H l = none → Q (.ref l) (upd H l (.lst ((List.range n.toNat).map fun i : Nat => V.int i)))) := by
  intro pins s σ H xs us Q I r h
  obtain ⟨p, n, rfl, hp, h0, h1, q⟩ := h
  obtain ⟨u, rfl, ru⟩ := vals1 r
  cases ru
  obtain ⟨t, u, v, e⟩ := I.hok p _ hp
  obtain ⟨hs, hn⟩ := small_of h0 h1
  refine call_list_range (I.ok.hd hc) e hs hn (by (first | lia | omega)) fun h' tk acc c' kk hl hit => ?_
  refine ⟨.ref _, _, I.laid (o := .lst ((List.range n.toNat).map fun i : Nat => V.int i)) (t' := tk) kk (Nat.le_refl _) ⟨?_, acc.toList, c', ?_, by simpa using hl⟩, rfl, q _ I.fresh⟩
  · rw [List.length_map, List.length_range, sizeLine_eq]; (first | lia | omega)
  · have hsz : acc.size = n.toNat := hit.1
    have all : ∀ (k : Nat) (i : Nat) (l : List Value), l.length = k → (∀ j v, l[j]? = some v → ∃ t, v = Value.int ((i + j : Nat) : Int) t) → Vals ((List.range' i k).map fun i : Nat => V.int i) l := by
      intro k
      induction k with
      | zero =>
        intro i l hl _
        rw [List.length_eq_zero_iff.mp hl]
        exact .nil
      | succ k ih =>
        intro i l hl hv
        cases l with
        | nil => cases hl
        | cons a l =>
          rw [List.range'_succ]
          refine .cons ?_ (ih (i + 1) l (by simpa using hl) fun j v e => ?_)
          · obtain ⟨t, e⟩ := hv 0 a rfl
            exact ⟨t, by simpa using e⟩
          · obtain ⟨t, e⟩ := hv (j + 1) v (by simpa using e)
            exact ⟨t, by rw [e]; congr 1; (first | lia | omega)⟩
    have q := all n.toNat 0 acc.toList (by simpa using hsz) fun j v e => by
      obtain ⟨t, e'⟩ := hit.2 j v (by simpa using e)
      exact ⟨t, by rw [e']; congr 1; (first | lia | omega)⟩
    rw [List.range_eq_range']
    exact q

/-! ### isinstance -/
theorem call_isinst : CallR X (.builtin "isinstance") (fun xs H Q => ∃ x n t b, xs = [x, .ty n] ∧ TyOf X.K H x t ∧ PySem.W.kitOne X.K t (.type n) = some b ∧ Q (.bl b) H) := by
  intro pins s σ H xs us Q I r h
  obtain ⟨x, n, t, b, rfl, ty, e, q⟩ := h
  obtain ⟨u, w', rfl, rx, rn⟩ := vals2 r
  cases rn
  exact isinst_ok I rx ty e fun tk => ⟨.bl b, H, I.tok _, rfl, q⟩
end

/-! ### deep data -/
mutual
inductive Den (K : PySem.W.Frag) (H : Hp) : V → PyData → Prop
  | non : Den K H .non .none
  | bl (b : Bool) : Den K H (.bl b) (.bool b)
  | int (i : Int) : Den K H (.int i) (.int i)
  | str (x : Str) : Den K H (.str x) (.str x)
  | list {a : Addr} {xs : List V} {ds : List PyData} : SqL K H a xs → DenAll K H xs ds → Den K H (.ref a) (.list ds)
  | tuple {a : Addr} {xs : List V} {ds : List PyData} : SqT K H a xs → DenAll K H xs ds → Den K H (.ref a) (.tuple ds)
inductive DenAll (K : PySem.W.Frag) (H : Hp) : List V → List PyData → Prop
  | nil : DenAll K H [] []
  | cons {x : V} {xs : List V} {d : PyData} {ds : List PyData} : Den K H x d → DenAll K H xs ds → DenAll K H (x :: xs) (d :: ds)
end
section
variable {X : Cx}
mutual
theorem Den.reads {pins : List (Addr × Obj)} {σ : St} {H : Hp} {s : Shared} (I : Inv X pins σ H s) : ∀ {v : V} {d : PyData} {u : Value}, Den X.K H v d → RelV v u → ∃ as, Reads s.heap u d as
  | _, _, _, .non, r => by cases r; exact ⟨_, .none⟩
  | _, _, _, .bl b, r => by cases r; exact ⟨_, .bool b⟩
  | _, _, _, .int i, r => by obtain ⟨t, rfl⟩ := r; exact ⟨_, .int i t⟩
  | _, _, _, .str x, r => by obtain ⟨t, rfl⟩ := r; exact ⟨_, .str x t⟩
  | _, _, _, .list hq hd, r => by
    cases r
    obtain ⟨its, rv, pl, _⟩ := I.list hq
    obtain ⟨as, ra⟩ := DenAll.reads I hd rv
    obtain ⟨o, n, e, hc, _, hdat⟩ := pl
    exact ⟨_, .list e hc hdat (by simpa using ra)⟩
  | _, _, _, .tuple hq hd, r => by
    cases r
    obtain ⟨its, rv, pl, _⟩ := I.tuple hq
    obtain ⟨as, ra⟩ := DenAll.reads I hd rv
    obtain ⟨o, e, hc, n, hdat⟩ := pl
    exact ⟨_, .tuple e hc hdat (by simpa using ra)⟩
theorem DenAll.reads {pins : List (Addr × Obj)} {σ : St} {H : Hp} {s : Shared} (I : Inv X pins σ H s) : ∀ {vs : List V} {ds : List PyData} {us : List Value}, DenAll X.K H vs ds → Vals vs us → ∃ as, ReadsAll s.heap us ds as
  | _, _, _, .nil, .nil => ⟨_, .nil⟩
  | _, _, _, .cons h t, .cons r rs => by
    obtain ⟨as, ra⟩ := Den.reads I h r
    obtain ⟨bs, rb⟩ := DenAll.reads I t rs
    exact ⟨_, .cons ra rb⟩
end
mutual
theorem Den.mono {K : PySem.W.Frag} {H H' : Hp} (e : Same H H') : ∀ {v : V} {d : PyData}, Den K H v d → Den K H' v d
  | _, _, .non => .non
  | _, _, .bl b => .bl b
  | _, _, .int i => .int i
  | _, _, .str x => .str x
  | _, _, .list hq hd => .list (e.seq hq) (DenAll.mono e hd)
  | _, _, .tuple hq hd => .tuple (by
      rcases hq with (h | ⟨o, h⟩) | h
      · exact .inl (.inl (e _ _ h))
      · exact .inl (.inr ⟨o, e _ _ h⟩)
      · exact .inr h) (DenAll.mono e hd)
theorem DenAll.mono {K : PySem.W.Frag} {H H' : Hp} (e : Same H H') : ∀ {vs : List V} {ds : List PyData}, DenAll K H vs ds → DenAll K H' vs ds
  | _, _, .nil => .nil
  | _, _, .cons h t => .cons (Den.mono e h) (DenAll.mono e t)
end
theorem DenAll.ints {K : PySem.W.Frag} {H : Hp} : ∀ (ns : List Int), DenAll K H (ns.map V.int) (ns.map PyData.int)
  | [] => .nil
  | n :: ns => .cons (.int n) (DenAll.ints ns)
theorem op_eqD {k : Nat} (hr : Room k X.A) : OpR X (compareOp .Eq) (fun x y H Q => ∃ d e, Den X.K H x d ∧ Den X.K H y e ∧ d.canLay0 = true ∧ e.canLay0 = true ∧ min d.depth e.depth ≤ 60 ∧ Q (.bl (PyData.eqv d e)) H) := by
  intro pins s σ H x y v u Q I rx ry h
  obtain ⟨d, e, hd, he, cd, ce, hz, q⟩ := h
  obtain ⟨as, ra⟩ := hd.reads I rx
  obtain ⟨bs, rb⟩ := he.reads I ry
  have hu := hr.units
  exact SeqAt.compareEq_reads ra rb cd ce (by (first | lia | omega)) ⟨.bl _, H, I, rfl, q⟩
theorem op_neD {k : Nat} (hr : Room k X.A) : OpR X (compareOp .NotEq) (fun x y H Q => ∃ d e, Den X.K H x d ∧ Den X.K H y e ∧ d.canLay0 = true ∧ e.canLay0 = true ∧ min d.depth e.depth ≤ 60 ∧ Q (.bl (!PyData.eqv d e)) H) := by
  intro pins s σ H x y v u Q I rx ry h
  obtain ⟨d, e, hd, he, cd, ce, hz, q⟩ := h
  obtain ⟨as, ra⟩ := hd.reads I rx
  obtain ⟨bs, rb⟩ := he.reads I ry
  have hu := hr.units
  exact SeqAt.compareNe_reads ra rb cd ce (by (first | lia | omega)) ⟨.bl _, H, I, rfl, q⟩
end
end L2

set_option Elab.async false
set_option linter.all false
set_option maxRecDepth 100000
set_option maxHeartbeats 4000000
/-! Comprehensions by an invariant. -/
namespace L2
open PySem PySem.Spec PyProof.Rows
section
variable {σ : St} {tc : Blk → TT} {te : Blk → TE} {F : VK} {H1 : Hp}
/-- over a list that stays as it is -/
theorem comp_list {K : PySem.W.Frag} {a : Addr} {xs : List V} (P : Nat → List V → Hp → Prop) (hz : xs.length ≤ sizeLine) (h0 : P 0 [] H1) (hP : ∀ i ys H, P i ys H → SqL K H a xs ∧ ys.length ≤ i)
    (hs : ∀ (i : Nat) (x : V) (ys : List V) (H : Hp) (B : Blk) (N1 : VK) (N2 : Hp → Prop), xs[i]? = some x → P i ys H → (∀ y H5, P (i + 1) (ys ++ [y]) H5 → N1 y H5) → (∀ H4, P (i + 1) ys H4 → N2 H4) →
      tc B (some x :: σ) H fun b H4 => if b = true then te B (some x :: σ) H4 N1 else N2 H4)
    (hd : ∀ ys H, P xs.length ys H → ∀ acc, H acc = none → F (.ref acc) (upd H acc (.lst ys))) : CompW (Itl K a) σ tc te F H1 := by
  refine ⟨fun i m ys H => m = xs.length - i ∧ i ≤ xs.length ∧ P i ys H, ⟨_, rfl, Nat.zero_le _, h0⟩, ?_⟩
  rintro i m ys H ⟨rfl, hi, p⟩
  obtain ⟨hq, hl⟩ := hP i ys H p
  by_cases hlt : i < xs.length
  · refine .inr ⟨⟨xs, xs[i], hq, by simp [hlt]⟩, fun x H3 y B => ?_⟩
    obtain ⟨e, y⟩ := y
    subst e
    exact hs i x ys _ B _ _ (y xs hq) p (fun y H5 p' => ⟨by (first | lia | omega), _, by (first | lia | omega), rfl, by (first | lia | omega), p'⟩) fun H4 p' => ⟨_, by (first | lia | omega), rfl, by (first | lia | omega), p'⟩
  · have e : i = xs.length := by (first | lia | omega)
    subst e
    exact .inl ⟨⟨xs, hq, Nat.le_refl _⟩, fun acc hn => hd ys H p acc hn⟩
theorem comp_range {lo : Int} {n : Nat} (P : Nat → List V → Hp → Prop) (hz : n ≤ sizeLine) (h0 : P 0 [] H1) (hP : ∀ i ys H, P i ys H → ys.length ≤ i)
    (hs : ∀ (i : Nat) (ys : List V) (H : Hp) (B : Blk) (N1 : VK) (N2 : Hp → Prop), i < n → P i ys H → (∀ y H5, P (i + 1) (ys ++ [y]) H5 → N1 y H5) → (∀ H4, P (i + 1) ys H4 → N2 H4) →
      tc B (some (.int (lo + i)) :: σ) H fun b H4 => if b = true then te B (some (.int (lo + i)) :: σ) H4 N1 else N2 H4)
    (hd : ∀ ys H, P n ys H → ∀ acc, H acc = none → F (.ref acc) (upd H acc (.lst ys))) : CompW (Itr lo n) σ tc te F H1 := by
  refine ⟨fun i m ys H => m = n - i ∧ i ≤ n ∧ P i ys H, ⟨_, rfl, Nat.zero_le _, h0⟩, ?_⟩
  rintro i m ys H ⟨rfl, hi, p⟩
  have hl := hP i ys H p
  by_cases hlt : i < n
  · refine .inr ⟨hlt, fun x H3 y B => ?_⟩
    obtain ⟨e, y⟩ := y
    subst e y
    exact hs i ys _ B _ _ hlt p (fun y H5 p' => ⟨by (first | lia | omega), _, by (first | lia | omega), rfl, by (first | lia | omega), p'⟩) fun H4 p' => ⟨_, by (first | lia | omega), rfl, by (first | lia | omega), p'⟩
  · have e : i = n := by (first | lia | omega)
    subst e
    exact .inl ⟨Nat.le_refl _, fun acc hn => hd ys H p acc hn⟩
end
/-! ### without a test -/
section
variable {σ : St} {te : Blk → TE} {F : VK} {H1 : Hp}
theorem comp_list0 {K : PySem.W.Frag} {a : Addr} {xs : List V} (P : Nat → List V → Hp → Prop) (hz : xs.length ≤ sizeLine) (h0 : P 0 [] H1) (hP : ∀ i ys H, P i ys H → SqL K H a xs ∧ ys.length ≤ i)
    (hs : ∀ (i : Nat) (x : V) (ys : List V) (H : Hp) (B : Blk) (N1 : VK), xs[i]? = some x → P i ys H → (∀ y H5, P (i + 1) (ys ++ [y]) H5 → N1 y H5) → te B (some x :: σ) H N1)
    (hd : ∀ ys H, P xs.length ys H → ∀ acc, H acc = none → F (.ref acc) (upd H acc (.lst ys))) : CompW (Itl K a) σ (fun _ => tTrue) te F H1 :=
  comp_list P hz h0 hP (fun i x ys H B N1 N2 hx p n1 _ => @iteT (te B (some x :: σ) H N1) (N2 H) (hs i x ys H B N1 hx p n1)) hd
theorem comp_range0 {lo : Int} {n : Nat} (P : Nat → List V → Hp → Prop) (hz : n ≤ sizeLine) (h0 : P 0 [] H1) (hP : ∀ i ys H, P i ys H → ys.length ≤ i)
    (hs : ∀ (i : Nat) (ys : List V) (H : Hp) (B : Blk) (N1 : VK), i < n → P i ys H → (∀ y H5, P (i + 1) (ys ++ [y]) H5 → N1 y H5) → te B (some (.int (lo + i)) :: σ) H N1)
    (hd : ∀ ys H, P n ys H → ∀ acc, H acc = none → F (.ref acc) (upd H acc (.lst ys))) : CompW (Itr lo n) σ (fun _ => tTrue) te F H1 :=
  comp_range P hz h0 hP (fun i ys H B N1 N2 hx p n1 _ => @iteT (te B (some (.int (lo + i)) :: σ) H N1) (N2 H) (hs i ys H B N1 hx p n1)) hd
end
/-! ### lists -/
theorem erase_map {α β : Type} (f : α → β) : ∀ (l : List α) (k : Nat), (l.map f).eraseIdx k = (l.eraseIdx k).map f
  | [], _ => rfl
  | _ :: _, 0 => rfl
  | a :: l, k + 1 => by
    show f a :: (l.map f).eraseIdx k = f a :: (l.eraseIdx k).map f
    rw [erase_map f l k]
theorem erase_perm {α : Type} : ∀ {l : List α} {k : Nat} {y : α}, l[k]? = some y → (y :: l.eraseIdx k).Perm l
  | [], _, _, h => by simp at h
  | a :: l, 0, y, h => by
    have e : a = y := by simpa using h
    subst e
    exact .refl _
  | a :: l, k + 1, y, h => by
    have ih := erase_perm (l := l) (k := k) (y := y) (by simpa using h)
    exact (List.Perm.swap a y _).trans (ih.cons a)
/-! ### heaps that only grow -/
theorem Same.new {H : Hp} {a : Addr} {o : HO} (h : H a = none) : Same H (upd H a o) := fun b u e => by rw [upd_ne (ne_of_none e h)]; exact e
theorem Same.up {H H' : Hp} {a : Addr} {o : HO} (s : Same H H') (h : H' a = none) : Same H (upd H' a o) := s.trans (Same.new h)
theorem Same.wr {H H' : Hp} {a : Addr} {o : HO} (s : Same H H') (h : H a = none) : Same H (upd H' a o) := fun b u e => by rw [upd_ne (ne_of_none e h)]; exact s b u e
end L2

set_option Elab.async false
set_option linter.all false
set_option maxRecDepth 100000
set_option maxHeartbeats 4000000
/-! Short words: defs of the text that are called, builtins by their names. -/
namespace L2
open PySem PySem.Spec PyProof.Rows
/-- a def of the text that keeps a promise, as it is called -/
def Callee (P : Program) (w : World) (K : PySem.W.Frag) (mg : Str → Option Value) (base : Heap) (k : Nat) (x : Str) (ps : List Str) (sp : Sp) : Prop :=
  ∃ (f : Addr) (fd : FuncData), mg x = some (.ref f) ∧ PySem.W.keepIn K (.ref f) = true ∧ Binds K fd ps [] ∧ FnOk P w K mg base CX0 k f fd ps sp
/-- a def of the text at its address -/
structure FnAt (K : PySem.W.Frag) (mg : Str → Option Value) (x : Str) (st : Stmt) (ps : List Str) (f : Addr) (fd : FuncData) : Prop where
  fn : Fun K x x st f fd
  bd : Binds K fd ps []
  mg : mg x = some (.ref f)
theorem FnAt.callee {P : Program} {w : World} {K : PySem.W.Frag} {mg : Str → Option Value} {base : Heap} {k : Nat} {x : Str} {st : Stmt} {ps : List Str} {f : Addr} {fd : FuncData} {sp : Sp} (F : FnAt K mg x st ps f fd) (h : FnOk P w K mg base CX0 k f fd ps sp) : Callee P w K mg base k x ps sp :=
  ⟨f, fd, F.mg, F.fn.kp, F.bd, h⟩
section
variable {X : Cx} {k : Nat} {x : Str} {ps : List Str} {sp : Sp} {e : Expr} {es : List Expr} {t : TA} {te : TE} {p pos : Pos}
theorem pe_fn (C : Callee X.prog X.w X.K X.mg X.base k x ps sp) (hr : Room k X.A) (ha : PA X (e :: es) t) (hg : Gl X x := by rfl) (hdb : (x == ("__debug__" : Str)) = false := by decide)
    (he : starEach (e :: es) X.env = (false, eval e X.env) :: starEach es X.env := by rfl) (hpl : (backTo pos (starEach es X.env)).any (·.1) = false := by rfl) : PE X (.Call (.Name x p) (e :: es) [] pos) (tCall sp [] E0 t) := by
  obtain ⟨f, fd, hm, hk, hb, F⟩ := C
  exact pe_call F hr hg hm hk hb .nil pass0 ha hdb he hpl
/-- a built-in type as a value -/
theorem pe_ty {n : String} (hm : X.mg x = none) (hv : bootBuiltins x = some (.type n)) (hg : Gl X x := by rfl) (hn : x ≠ "__name__" := by decide) (hd : (x == ("__debug__" : Str)) = false := by decide) : PE X (.Name x pos) (tC (.ty n)) := pe_bltn hg hm hv rfl hn hd
end
/-- the names of builtins that the module leaves alone -/
structure Blt (mg : Str → Option Value) : Prop where
  len : mg "len" = none
  range : mg "range" = none
  list : mg "list" = none
  str : mg "str" = none
  int : mg "int" = none
  bool : mg "bool" = none
  tuple : mg "tuple" = none
  isinstance : mg "isinstance" = none
  set : mg "set" = none
  all : mg "all" = none
  sorted : mg "sorted" = none
  max : mg "max" = none
  min : mg "min" = none
theorem blt_mk {K : PySem.W.Frag} {h : Heap} {mg : Str → Option Value} (X : K.In h) (G : h.Ns mainGlobals mg)
    (z1 : PySem.W.nsIn K mainGlobals "len" = some none) (z2 : PySem.W.nsIn K mainGlobals "range" = some none) (z3 : PySem.W.nsIn K mainGlobals "list" = some none) (z4 : PySem.W.nsIn K mainGlobals "str" = some none)
    (z5 : PySem.W.nsIn K mainGlobals "int" = some none) (z6 : PySem.W.nsIn K mainGlobals "bool" = some none) (z7 : PySem.W.nsIn K mainGlobals "tuple" = some none) (z8 : PySem.W.nsIn K mainGlobals "isinstance" = some none)
    (z9 : PySem.W.nsIn K mainGlobals "set" = some none) (z10 : PySem.W.nsIn K mainGlobals "all" = some none) (z11 : PySem.W.nsIn K mainGlobals "sorted" = some none) (z12 : PySem.W.nsIn K mainGlobals "max" = some none)
    (z13 : PySem.W.nsIn K mainGlobals "min" = some none) : Blt mg :=
  ⟨PySem.W.mg_none_of X G z1, PySem.W.mg_none_of X G z2, PySem.W.mg_none_of X G z3, PySem.W.mg_none_of X G z4, PySem.W.mg_none_of X G z5, PySem.W.mg_none_of X G z6, PySem.W.mg_none_of X G z7, PySem.W.mg_none_of X G z8,
    PySem.W.mg_none_of X G z9, PySem.W.mg_none_of X G z10, PySem.W.mg_none_of X G z11, PySem.W.mg_none_of X G z12, PySem.W.mg_none_of X G z13⟩
section
variable {X : Cx} {e e2 : Expr} {te te2 : TE} {p pos : Pos} {t : TA}
theorem pe_len (B : Blt X.mg) {r : List V → Hp → VK → Prop} (hc : CallR X (.builtin "len") r) (h : PE X e te) (hg : Gl X "len" := by rfl) (he : starEach [e] X.env = (false, eval e X.env) :: starEach [] X.env := by rfl) : PE X (.Call (.Name "len" p) [e] [] pos) (tCB r (tCons te tNil)) :=
  pe_callB hc hg B.len boot_len (pa_cons h pa_nil he) (by decide) (by decide) he rfl
theorem pe_isi (B : Blt X.mg) {n : String} {x : Str} {px : Pos} (h : PE X e te) (hm : X.mg x = none) (hv : bootBuiltins x = some (.type n)) (hgx : Gl X x := by rfl) (hg : Gl X "isinstance" := by rfl) (hn : x ≠ "__name__" := by decide) (hd : (x == ("__debug__" : Str)) = false := by decide)
    (he : starEach [e, .Name x px] X.env = (false, eval e X.env) :: starEach [.Name x px] X.env := by rfl) (hpl : (backTo pos (starEach [.Name x px] X.env)).any (·.1) = false := by rfl) : PE X (.Call (.Name "isinstance" p) [e, .Name x px] [] pos)
      (tCB (fun xs H Q => ∃ x n t b, xs = [x, .ty n] ∧ TyOf X.K H x t ∧ PySem.W.kitOne X.K t (.type n) = some b ∧ Q (.bl b) H) (tCons te (tCons (tC (.ty n)) tNil))) :=
  pe_callB call_isinst hg B.isinstance PyProof.Rows.Boot.«isinstance» (pa_cons h (pa_cons (pe_ty hm hv hgx hn hd) pa_nil) he) (by decide) (by decide) he hpl
end
end L2

set_option Elab.async false
set_option linter.all false
set_option maxRecDepth 100000
set_option maxHeartbeats 4000000
/-! The tree of questions that a sort of fewer than 64 items asks, answered by distinct numbers: it sorts. -/
namespace Srt
open PySem PySem.W PyProof.Rows
def ev {α : Type} (K : Nat → Int) : KasT α → α
  | .ret a => a
  | .ask i j k => ev K (k (decide (K i < K j)))
theorem ev_bind {α β : Type} (K : Nat → Int) (f : α → KasT β) : ∀ t : KasT α, ev K (t.bind f) = ev K (f (ev K t))
  | .ret _ => rfl
  | .ask i j k => ev_bind K f (k (decide (K i < K j)))
def ky (K : Nat → Int) (p : Array Nat) (i : Nat) : Int := K (p.getD i 0)
structure Ok (K : Nat → Int) (n : Nat) (p : Array Nat) : Prop where
  perm : p.toList.Perm (List.range n)
theorem Ok.size {K : Nat → Int} {n : Nat} {p : Array Nat} (h : Ok K n p) : p.size = n := by
  have := h.perm.length_eq
  simpa using this
theorem Ok.of {K : Nat → Int} {n : Nat} {p q : Array Nat} (h : Ok K n p) (e : q.Perm p) : Ok K n q := ⟨(Array.perm_iff_toList_perm.mp e).trans h.perm⟩
def Inj (K : Nat → Int) (n : Nat) : Prop := ∀ i j, i < n → j < n → K i = K j → i = j
theorem Ok.ne {K : Nat → Int} {n : Nat} {p : Array Nat} (h : Ok K n p) (inj : Inj K n) {i j : Nat} (hi : i < n) (hj : j < n) (hij : i ≠ j) : ky K p i ≠ ky K p j := by
  intro e
  have hs := h.size
  have nd : p.toList.Nodup := h.perm.nodup_iff.mpr List.nodup_range
  have e1 : p.getD i 0 = p[i] := by simp [Array.getD, hs, hi]
  have e2 : p.getD j 0 = p[j] := by simp [Array.getD, hs, hj]
  unfold ky at e
  rw [e1, e2] at e
  have m1 : p[i] < n := List.mem_range.mp (h.perm.mem_iff.mp (by simp))
  have m2 : p[j] < n := List.mem_range.mp (h.perm.mem_iff.mp (by simp))
  have e3 := inj _ _ m1 m2 e
  have e4 : p.toList[i]'(by simp [hs, hi]) = p.toList[j]'(by simp [hs, hj]) := by simpa using e3
  exact hij ((List.getElem_inj nd).mp e4)
def Up (K : Nat → Int) (p : Array Nat) (m : Nat) : Prop := ∀ i j, i < j → j < m → ky K p i < ky K p j
def Dn (K : Nat → Int) (p : Array Nat) (m : Nat) : Prop := ∀ i j, i < j → j < m → ky K p j < ky K p i
section
variable {K : Nat → Int} {n : Nat}
theorem up_succ {p : Array Nat} {m : Nat} (h : Up K p m) (hm : 1 ≤ m) (h1 : ky K p (m - 1) < ky K p m) : Up K p (m + 1) := fun i j hij hj => by
  by_cases e : j = m
  · subst e
    by_cases e2 : i = j - 1
    · subst e2; exact h1
    · exact Int.lt_trans (h i (j - 1) (by (first | lia | omega)) (by (first | lia | omega))) h1
  · exact h i j hij (by (first | lia | omega))
theorem dn_succ {p : Array Nat} {m : Nat} (h : Dn K p m) (hm : 1 ≤ m) (h1 : ky K p m < ky K p (m - 1)) : Dn K p (m + 1) := fun i j hij hj => by
  by_cases e : j = m
  · subst e
    by_cases e2 : i = j - 1
    · subst e2; exact h1
    · exact Int.lt_trans h1 (h i (j - 1) (by (first | lia | omega)) (by (first | lia | omega)))
  · exact h i j hij (by (first | lia | omega))
theorem asc_ok (inj : Inj K n) {p : Array Nat} (ok : Ok K n p) : ∀ (f m : Nat), 1 ≤ m → m + f ≤ n → Up K p m →
    m ≤ ev K (kas_asc p f m) ∧ ev K (kas_asc p f m) ≤ m + f ∧ Up K p (ev K (kas_asc p f m)) ∧ (ev K (kas_asc p f m) = m + f ∨ (ev K (kas_asc p f m) < n ∧ ky K p (ev K (kas_asc p f m)) < ky K p (ev K (kas_asc p f m) - 1)))
  | 0, m, _, _, h => ⟨Nat.le_refl _, Nat.le_refl _, h, .inl rfl⟩
  | f + 1, m, h1, hn, h => by
    unfold kas_asc ev
    by_cases c : K (p.getD m 0) < K (p.getD (m - 1) 0)
    · rw [decide_eq_true c]; dsimp only; rw [if_pos rfl]
      exact ⟨Nat.le_refl _, Nat.le_add_right _ _, h, .inr ⟨by show m < n; (first | lia | omega), c⟩⟩
    · rw [decide_eq_false c]; dsimp only; rw [if_neg Bool.false_ne_true]
      have hne := ok.ne inj (i := m) (j := m - 1) (by (first | lia | omega)) (by (first | lia | omega)) (by (first | lia | omega))
      have hlt : ky K p (m - 1) < ky K p m := by
        have : ¬ ky K p m < ky K p (m - 1) := c
        (first | lia | omega)
      obtain ⟨a1, a2, a3, a4⟩ := asc_ok inj ok f (m + 1) (by (first | lia | omega)) (by (first | lia | omega)) (up_succ h h1 hlt)
      refine ⟨by (first | lia | omega), by (first | lia | omega), a3, ?_⟩
      rcases a4 with a4 | a4
      · exact .inl (by (first | lia | omega))
      · exact .inr a4
theorem desc_ok (inj : Inj K n) {p : Array Nat} (ok : Ok K n p) : ∀ (f m : Nat), 1 ≤ m → m + f ≤ n → Dn K p m →
    ∃ r, ev K (kas_desc f p m 0) = (p, r, 0) ∧ m ≤ r ∧ r ≤ m + f ∧ Dn K p r
  | 0, m, _, _, h => ⟨m, rfl, Nat.le_refl _, Nat.le_refl _, h⟩
  | f + 1, m, h1, hn, h => by
    unfold kas_desc ev
    by_cases c : K (p.getD m 0) < K (p.getD (m - 1) 0)
    · rw [decide_eq_true c]; dsimp only; rw [if_pos rfl, if_neg (by (first | lia | omega))]
      obtain ⟨r, e, b1, b2, b3⟩ := desc_ok inj ok f (m + 1) (by (first | lia | omega)) (by (first | lia | omega)) (dn_succ h h1 c)
      exact ⟨r, e, by (first | lia | omega), by (first | lia | omega), b3⟩
    · rw [decide_eq_false c]; dsimp only; rw [if_neg Bool.false_ne_true]
      have hne := ok.ne inj (i := m) (j := m - 1) (by (first | lia | omega)) (by (first | lia | omega)) (by (first | lia | omega))
      have hlt : K (p.getD (m - 1) 0) < K (p.getD m 0) := by
        have : ¬ ky K p m < ky K p (m - 1) := c
        have h2 : ky K p (m - 1) < ky K p m := by (first | lia | omega)
        exact h2
      unfold ev
      rw [decide_eq_true hlt]; dsimp only; rw [if_pos rfl]
      exact ⟨m, rfl, Nat.le_refl _, by (first | lia | omega), h⟩
theorem ky_mirror {p : Array Nat} {j : Nat} (hj : j ≤ p.size) (k : Nat) : ky K (kas_rev p 0 j) k = if k < j then ky K p (j - 1 - k) else ky K p k := by
  have e := getElem?_mirror_all (xs := p) (i := 0) (j := j) hj k
  have g : ∀ (q : Array Nat) (i : Nat), q.getD i 0 = (q[i]?).getD 0 := fun q i => by simp [Array.getD_eq_getD_getElem?]
  unfold ky kas_rev
  rw [g, e, g, g]
  by_cases h : k < j
  · rw [if_pos ⟨Nat.zero_le _, h⟩, if_pos h]
    simp
  · rw [if_neg (fun z => h z.2), if_neg h]
theorem rev_up {p : Array Nat} {m : Nat} (hm : m ≤ p.size) (h : Dn K p m) : Up K (kas_rev p 0 m) m := fun i j hij hj => by
  rw [ky_mirror hm, ky_mirror hm, if_pos (by (first | lia | omega)), if_pos hj]
  exact h _ _ (by (first | lia | omega)) (by (first | lia | omega))
theorem tail3_ok (inj : Inj K n) {p : Array Nat} (ok : Ok K n p) {m : Nat} (h1 : 1 ≤ m) (hn : m ≤ n) (h : Dn K p m) :
    ∃ r q, ev K (kas_tail3 m n p) = (r, q) ∧ Ok K n q ∧ 1 ≤ r ∧ r ≤ n ∧ Up K q r := by
  unfold kas_tail3
  rw [ev_bind]
  have ok' : Ok K n (kas_rev p 0 m) := ok.of (mirror_perm _ _ _ _)
  obtain ⟨a1, a2, a3, _⟩ := asc_ok inj ok' (n - m) m h1 (by (first | lia | omega)) (rev_up (by rw [ok.size]; exact hn) h)
  exact ⟨_, _, rfl, ok', by (first | lia | omega), by (first | lia | omega), a3⟩
theorem descPart_ok (inj : Inj K n) {p : Array Nat} (ok : Ok K n p) {m : Nat} (hn : m + 1 ≤ n) (h : Dn K p (m + 1)) :
    ∃ r q, ev K (kas_descPart m n p) = (r, q) ∧ Ok K n q ∧ 1 ≤ r ∧ r ≤ n ∧ Up K q r := by
  unfold kas_descPart
  rw [ev_bind]
  obtain ⟨r, e, b1, b2, b3⟩ := desc_ok inj ok (n - (m + 1)) (m + 1) (by (first | lia | omega)) (by (first | lia | omega)) h
  rw [e]
  dsimp only
  rw [if_neg (by (first | lia | omega))]
  exact tail3_ok inj ok (by (first | lia | omega)) (by (first | lia | omega)) b3
theorem count_ok (inj : Inj K n) {p : Array Nat} (ok : Ok K n p) (hn : 2 ≤ n) : ∃ r q, ev K (kas_count n p) = (r, q) ∧ Ok K n q ∧ 1 ≤ r ∧ r ≤ n ∧ Up K q r := by
  unfold kas_count
  rw [ev_bind]
  obtain ⟨a1, a2, a3, a4⟩ := asc_ok inj ok (n - 1) 1 (Nat.le_refl _) (by (first | lia | omega)) (fun i j hij hj => by (first | lia | omega))
  generalize ev K (kas_asc p (n - 1) 1) = m at a1 a2 a3 a4 ⊢
  by_cases hm : m = n
  · rw [if_pos (by simp [hm])]
    exact ⟨_, _, rfl, ok, by (first | lia | omega), by (first | lia | omega), a3⟩
  · rw [if_neg (by simpa using hm)]
    by_cases h1 : m > 1
    · rw [if_pos h1]
      unfold ev
      rw [decide_eq_true (show K (p.getD 0 0) < K (p.getD (m - 1) 0) from a3 0 (m - 1) (by (first | lia | omega)) (by (first | lia | omega)))]; dsimp only; rw [if_pos rfl]
      exact ⟨_, _, rfl, ok, by (first | lia | omega), by (first | lia | omega), a3⟩
    · rw [if_neg h1]
      have em : m = 1 := by (first | lia | omega)
      subst em
      rcases a4 with a4 | a4
      · exact absurd a4 (by (first | lia | omega))
      · exact descPart_ok inj ok (by (first | lia | omega)) fun i j hij hj => by
          have e1 : i = 0 := by (first | lia | omega)
          have e2 : j = 1 := by (first | lia | omega)
          subst e1 e2
          exact a4.2
theorem place_ok (inj : Inj K n) {p : Array Nat} (ok : Ok K n p) {k : Nat} (hk : k < n) (h : Up K p k) : ∀ (f l r : Nat), r - l ≤ f → l ≤ r → r ≤ k → (∀ i, i < l → ky K p i < ky K p k) → (∀ i, r ≤ i → i < k → ky K p k < ky K p i) →
    ∃ q, ev K (kas_place p k f l r) = q ∧ q ≤ k ∧ (∀ i, i < q → ky K p i < ky K p k) ∧ (∀ i, q ≤ i → i < k → ky K p k < ky K p i)
  | 0, l, r, hf, hlr, hr, h1, h2 => ⟨l, rfl, by (first | lia | omega), h1, fun i hi => h2 i (by (first | lia | omega))⟩
  | f + 1, l, r, hf, hlr, hr, h1, h2 => by
    unfold kas_place
    by_cases hg : l ≥ r
    · rw [if_pos hg]
      exact ⟨l, rfl, by (first | lia | omega), h1, fun i hi => h2 i (by (first | lia | omega))⟩
    · rw [if_neg hg]
      unfold ev
      by_cases c : K (p.getD k 0) < K (p.getD ((l + r) / 2) 0)
      · rw [decide_eq_true c]; dsimp only; rw [if_pos rfl]
        refine place_ok inj ok hk h f l ((l + r) / 2) (by (first | lia | omega)) (by (first | lia | omega)) (by (first | lia | omega)) h1 fun i hi hik => ?_
        by_cases e : i = (l + r) / 2
        · subst e; exact c
        · exact Int.lt_trans c (h _ _ (by (first | lia | omega)) hik)
      · rw [decide_eq_false c]; dsimp only; rw [if_neg Bool.false_ne_true]
        have hne := ok.ne inj (i := k) (j := (l + r) / 2) hk (by (first | lia | omega)) (by (first | lia | omega))
        have hlt : ky K p ((l + r) / 2) < ky K p k := by
          have : ¬ ky K p k < ky K p ((l + r) / 2) := c
          (first | lia | omega)
        refine place_ok inj ok hk h f ((l + r) / 2 + 1) r (by (first | lia | omega)) (by (first | lia | omega)) hr (fun i hi => ?_) h2
        by_cases e : i = (l + r) / 2
        · subst e; exact hlt
        · exact Int.lt_trans (h _ _ (show i < (l + r) / 2 by (first | lia | omega)) (by (first | lia | omega))) hlt
theorem ky_bubble {p : Array Nat} {src d : Nat} (hs : src < p.size) (hd : d ≤ src) (k : Nat) : ky K (bubble p src d) k = if k = src - d then ky K p src else if src - d < k ∧ k ≤ src then ky K p (k - 1) else ky K p k := by
  have e := getElem?_bubble hs d hd k
  have g : ∀ (q : Array Nat) (i : Nat), q.getD i 0 = (q[i]?).getD 0 := fun q i => by simp [Array.getD_eq_getD_getElem?]
  unfold ky
  rw [g, e, g, g, g]
  by_cases h1 : k = src - d
  · rw [if_pos h1, if_pos h1]
  · rw [if_neg h1, if_neg h1]
    by_cases h2 : src - d < k ∧ k ≤ src
    · rw [if_pos h2, if_pos h2]
    · rw [if_neg h2, if_neg h2]
theorem bin_ok (inj : Inj K n) : ∀ (f : Nat) (p : Array Nat) (k : Nat), Ok K n p → k + f ≤ n → Up K p k → ∃ q, ev K (kas_bin f p k) = q ∧ Ok K n q ∧ Up K q (k + f)
  | 0, p, k, ok, _, h => ⟨p, rfl, ok, h⟩
  | f + 1, p, k, ok, hn, h => by
    unfold kas_bin
    rw [ev_bind]
    obtain ⟨l, e, hl, b1, b2⟩ := place_ok inj ok (show k < n by (first | lia | omega)) h k 0 k (by (first | lia | omega)) (by (first | lia | omega)) (Nat.le_refl _) (fun i hi => by (first | lia | omega)) (fun i hi hk => by (first | lia | omega))
    rw [e]
    have hs : k < p.size := by rw [ok.size]; (first | lia | omega)
    have kb := fun i => ky_bubble (K := K) (p := p) (src := k) (d := k - l) hs (by (first | lia | omega)) i
    obtain ⟨q, e2, ok2, u2⟩ := bin_ok inj f (bubble p k (k - l)) (k + 1) (ok.of (bubble_perm _ _ _)) (by (first | lia | omega)) (fun i j hij hj => by
      rw [kb i, kb j]
      have ekl : k - (k - l) = l := by (first | lia | omega)
      rw [ekl]
      by_cases i1 : i = l
      · rw [if_pos i1, if_neg (by (first | lia | omega)), if_pos ⟨by (first | lia | omega), by (first | lia | omega)⟩]
        exact b2 (j - 1) (by (first | lia | omega)) (by (first | lia | omega))
      · rw [if_neg i1]
        by_cases j1 : j = l
        · rw [if_pos j1, if_neg (by (first | lia | omega))]
          exact b1 i (by (first | lia | omega))
        · rw [if_neg j1]
          by_cases i2 : l < i
          · rw [if_pos ⟨i2, by (first | lia | omega)⟩, if_pos ⟨by (first | lia | omega), by (first | lia | omega)⟩]
            exact h _ _ (by (first | lia | omega)) (by (first | lia | omega))
          · rw [if_neg (fun z => i2 z.1)]
            by_cases j2 : l < j
            · rw [if_pos ⟨j2, by (first | lia | omega)⟩]
              exact h _ _ (by (first | lia | omega)) (by (first | lia | omega))
            · rw [if_neg (fun z => j2 z.1)]
              exact h _ _ hij (by (first | lia | omega)))
    refine ⟨q, e2, ok2, ?_⟩
    rw [show k + (f + 1) = k + 1 + f by (first | lia | omega)]
    exact u2
theorem sort_ok (inj : Inj K n) (hn : 2 ≤ n) : Ok K n (ev K (kas_sort n)) ∧ Up K (ev K (kas_sort n)) n := by
  unfold kas_sort
  rw [ev_bind]
  have ok0 : Ok K n (List.toArray (List.range n)) := ⟨by simp⟩
  obtain ⟨r, q, e, ok, h1, h2, u⟩ := count_ok inj ok0 hn
  rw [e]
  dsimp only
  by_cases hr : r < n
  · rw [if_pos hr]
    have em : max r 1 = r := by (first | lia | omega)
    rw [em]
    obtain ⟨q2, e2, ok2, u2⟩ := bin_ok inj (n - r) q r ok (by (first | lia | omega)) u
    rw [e2]
    exact ⟨ok2, by rw [show r + (n - r) = n by (first | lia | omega)] at u2; exact u2⟩
  · rw [if_neg hr]
    have : r = n := by (first | lia | omega)
    subst this
    exact ⟨ok, u⟩
end
end Srt

set_option Elab.async false
set_option linter.all false
set_option maxRecDepth 100000
set_option maxHeartbeats 4000000
/-! Sorting, places in lists, bound methods. -/
namespace L2
open PySem PySem.Spec PyProof.Rows
section
variable {X : Cx}
theorem call_sorted : CallR X (.builtin "sorted") (fun xs H Q => ∃ (p : Addr) (ns : List Int), xs = [.ref p] ∧ SqL X.K H p (ns.map V.int) ∧ ns.length < 64 ∧
    ∀ (ms : List Int) (l : Addr), ms.Perm ns → ms.Pairwise (· ≤ ·) → H l = none → Q (.ref l) (upd H l (.lst (ms.map V.int)))) := by
  intro pins s σ H xs us Q I r h
  obtain ⟨p, ns, rfl, hq, hz, q⟩ := h
  obtain ⟨u, rfl, ru⟩ := vals1 r
  cases ru
  obtain ⟨its, rv, pl, _⟩ := I.list hq
  have hlen := rv.length
  rw [List.length_map] at hlen
  refine sorted_ints pl.isList (ints_vals rv) (by (first | lia | omega)) fun out ms hi hp hs => ?_
  obtain ⟨e, he⟩ := sortedAll_at s.heap its out
  have hfr : H (s.heap.objs.size + 1) = none := I.hok.fresh (Nat.le_succ _)
  refine ⟨.ref _, _, I.laid (o := .lst (ms.map V.int)) (t' := s.toks) (fun _ _ => sortedAll_old) (Nat.le_succ _) ⟨?_, out.toList, e, vals_ints hi, by simpa using he⟩, rfl, q ms _ hp hs hfr⟩
  rw [List.length_map, hp.length_eq, sizeLine_eq]
  (first | lia | omega)
end

/-! ### the keys of a dict, sorted -/
section
variable {prog : Program} {w : World} {A : Around} {E : Value → Shared → Prop} {s : Shared}
theorem collect_dict {K : Type} [DecidableEq K] {knd : PySem.KeyKind prog w K} {d : Addr} {kvs : List (K × Value)} {ep : Nat} {R : List Value → Shared → Prop} (hh : A.handled = none) (lo : (d == sysModules) = false) (hm : s.heap.DictAt knd d kvs ep) (hn : kvs.length ≤ sizeLine)
    (h : ∀ (h' : Heap) (tk : Nat) (acc : Array Value), (∀ b o, s.heap.get? b = some o → h'.get? b = some o) → s.heap.objs.size < h'.objs.size → ItemsOf (fun i v => ∃ k x, kvs[i]? = some (k, x) ∧ knd.is k v = true) acc kvs.length → R acc.toList { s with heap := h', toks := tk }) :
    wpAny (model prog w) A (collect (.ref d)) R E s := by
  have hd : d < s.heap.objs.size := hm.lt_size
  unfold collect
  refine wpAny_bind (wpAny_runValue (codeAny_builtin entry_proto_collect' ?_))
  rw [Around.under_plainId PySem.F.plain_proto_collect _]
  show wpAny _ A.in1 (newList [] >>= fun l => again (.builtin "list.__iadd__" ⟨[l, .ref d], []⟩)) _ _ s
  refine wpAny_bind (wpAny_newObj_type ?_)
  refine wpAny_pure ⟨plainId_quiet PySem.F.plain_list_iadd _, codeAny_builtin entry_list_iadd' ?_⟩
  rw [Around.under_plainId PySem.F.plain_list_iadd _]
  have hS₁ : (s.heap.push { cls := .type "list", data := .seq ([] : List Value).toArray }).get? s.heap.objs.size = some { cls := .type "list", data := .seq #[] } := Heap.get?_push_size _ rfl
  show wpAny _ A.in1 (Builtin.List.listExtendWith (.ref s.heap.objs.size) (.ref d) (.ref s.heap.objs.size)) _ _ _
  have key := PySem.W.kdl_extend (A := A) (s := { s with heap := s.heap.push { cls := .type "list", data := .seq ([] : List Value).toArray } }) (PySem.W.kdl_dict (knd := knd) (kvs := kvs) (ep := ep) lo)
    (R := fun (q : Result) (s' : Shared) => ∃ (h' : Heap) (tk : Nat) (acc' : Array Value) (c' : Nat), q = .ok (.ret (.ref s.heap.objs.size)) ∧ s' = { s with heap := h', toks := tk } ∧
      (∀ b o, s.heap.get? b = some o → h'.get? b = some o) ∧ h'.get? s.heap.objs.size = some { cls := .type "list", dict := none, data := .seq acc' c', slots := #[] } ∧ ItemsOf (fun i v => ∃ k x, kvs[i]? = some (k, x) ∧ knd.is k v = true) acc' kvs.length)
    hh (hm.push _) s.heap.objs.size (Nat.ne_of_gt hd) (Nat.ne_of_gt hd) (.ref s.heap.objs.size) 0 hS₁
    (fun h' tk acc' c' hk hS' hacc => ⟨h', tk, acc', c', rfl, rfl, fun b o e => hk b o (Nat.ne_of_lt (Heap.lt_size e)) (Heap.get?_push_of_some _ e), hS', hacc⟩) hn
  refine wpAny_mono key (fun fin s' x => ?_) fun e s' x => ?_
  · cases fin with
    | done f =>
      obtain ⟨h', tk, acc', c', e, rfl, hk, hS', hacc⟩ := x
      cases e
      show wpAny _ A (load s.heap.objs.size >>= _) _ _ _
      refine wpAny_bind (wpAny_load hS' ?_)
      exact wpAny_pure (h h' tk acc' hk (Heap.lt_size hS') hacc)
    | again c₁ =>
      refine ⟨x.1, codeAny_mono x.2 fun q s₂ y => ?_⟩
      obtain ⟨h', tk, acc', c', rfl, rfl, hk, hS', hacc⟩ := y
      show wpAny _ A (load s.heap.objs.size >>= _) _ _ _
      refine wpAny_bind (wpAny_load hS' ?_)
      exact wpAny_pure (h h' tk acc' hk (Heap.lt_size hS') hacc)
  · obtain ⟨_, _, _, _, e', _⟩ := x
    cases e'
end
section
variable {X : Cx}
theorem keys_ints : ∀ {ks : List Int} {vs : List V} {ws : List (Key × Value)} {us : List Value}, ks.length = vs.length → KV ((ks.zip vs).map fun p => ((Sum.inl p.1 : Key), p.2)) ws → us.length = ws.length →
    (∀ (j : Nat) (v : Value), us[j]? = some v → ∃ (k : Key) (x : Value), ws[j]? = some (k, x) ∧ keyIs k v = true) → IntsAre us ks
  | [], [], _, us, _, r, hl, _ => by
    cases r
    have : us = [] := List.length_eq_zero_iff.mp hl
    subst this
    exact .nil
  | k :: ks, v :: vs, _, us, hk, r, hl, h => by
    cases r with
    | cons r1 r2 =>
      rename_i b bs
      cases us with
      | nil => simp at hl
      | cons u us =>
        obtain ⟨k', x', e, hi⟩ := h 0 u rfl
        have e' : b = (k', x') := by simpa using e
        have ek : (Sum.inl k : Key) = k' := by rw [← show b.1 = k' by rw [e']]; exact r1.1
        rw [← ek] at hi
        obtain ⟨t, rfl⟩ := Value.isInt_shape (k := k) (v := u) hi
        exact .cons k t (keys_ints (by simpa using hk) r2 (by simpa using hl) fun j v e => by simpa using h (j + 1) v (by simpa using e))
  | [], _ :: _, _, _, h, _, _, _ => by simp at h
  | _ :: _, [], _, _, h, _, _, _ => by simp at h
/-- a dict whose keys are ints: its pairs -/
def intD (ks : List Int) (vs : List V) : List (Key × V) := (ks.zip vs).map fun p => ((Sum.inl p.1 : Key), p.2)
theorem call_sortedD (hc : X.calm = true) : CallR X (.builtin "sorted") (fun xs H Q => ∃ (p : Addr) (ks : List Int) (vs : List V), xs = [.ref p] ∧ ks.length = vs.length ∧ H p = some (.dK (intD ks vs)) ∧ ks.length < 64 ∧
    ∀ (ms : List Int) (l : Addr), ms.Perm ks → ms.Pairwise (· ≤ ·) → H l = none → Q (.ref l) (upd H l (.lst (ms.map V.int)))) := by
  intro pins s σ H xs us Q I r h
  obtain ⟨p, ks, vs, rfl, hkv, hp, hz, q⟩ := h
  obtain ⟨u, rfl, ru⟩ := vals1 r
  cases ru
  obtain ⟨_, lo, ws, rel, dd⟩ := I.hok p _ hp
  obtain ⟨ep, da⟩ := dd.dictAt
  have hwl : ws.length = ks.length := by
    have e : (intD ks vs).length = ws.length := Paired.length rel
    unfold intD at e
    rw [List.length_map, List.length_zip] at e
    (first | lia | omega)
  refine Calls.call_function_entry kind_sorted plain_sorted entry_sorted (args_sorted1 _) ?_
  unfold Builtin.«sorted»
  refine wpAny_bind (m := checkCount "sorted" 1 1 _) (wpAny_pure ?_)
  refine wpAny_bind (collect_dict (by show X.A.handled = none; exact I.ok.hd hc) lo da (by rw [hwl, sizeLine_eq]; (first | lia | omega)) fun h1 tk acc hk hlt hacc => ?_)
  have hi : IntsAre acc.toList ks := keys_ints hkv rel (by rw [Array.length_toList]; exact hacc.1) fun j v e => hacc.2 j v (by rw [← Array.getElem?_toList]; exact e)
  have hal : acc.toList.length = ks.length := hi.length
  refine wpAny_bind (wpAny_newList ?_ (by rw [hal, sizeLine_eq]; (first | lia | omega)))
  have hoL : (h1.push (seqObj "list" acc.toList.toArray 0)).get? h1.objs.size = some (seqObj "list" acc.toList.toArray 0) := Heap.get?_push_size _ rfl
  refine wpAny_bind (wpAny_holding (wpAny_call_entry slot_list_sort ⟨_, hoL, rfl⟩ entry_list_sort (list_sort_tree (s := { s with heap := h1.push (seqObj "list" acc.toList.toArray 0), toks := tk }) hoL hi (by (first | lia | omega)) fun out ms a1 a2 a3 => ⟨_, rfl, ?_⟩) (args_list_sort _)))
  refine wpAny_pure ⟨_, rfl, ?_⟩
  obtain ⟨e, he⟩ := sortedHeap_at (vs := acc.toList) (out := out) hoL
  have hfr : H h1.objs.size = none := I.hok.fresh (Nat.le_of_lt hlt)
  refine ⟨.ref _, _, I.laid (o := .lst (ms.map V.int)) (t' := tk) (fun b o eb => ?_) (Nat.le_of_lt hlt) ⟨?_, out.toList, e, vals_ints a1, by simpa using he⟩, rfl, q ms _ a2 a3 hfr⟩
  · have hb1 := hk b o eb
    have hb2 := Heap.lt_size hb1
    rw [sortedHeap_old (Nat.ne_of_lt hb2) (by rw [size_push']; exact Nat.lt_succ_of_lt hb2)]
    exact Heap.get?_push_of_some _ hb1
  · rw [List.length_map, a2.length_eq, sizeLine_eq]
    (first | lia | omega)
end
end L2

set_option Elab.async false
set_option linter.all false
set_option maxRecDepth 100000
set_option maxHeartbeats 4000000
/-! The questions of a sort of n items ask only for items below n. -/
namespace Srt
open PySem PySem.W PyProof.Rows
/-- all questions are below n, the end keeps P -/
def Ins {α : Type} (n : Nat) (P : α → Prop) : KasT α → Prop
  | .ret a => P a
  | .ask i j k => i < n ∧ j < n ∧ ∀ b, Ins n P (k b)
theorem Ins.bind {α β : Type} {n : Nat} {P : α → Prop} {R : β → Prop} {f : α → KasT β} (hf : ∀ a, P a → Ins n R (f a)) : ∀ {t : KasT α}, Ins n P t → Ins n R (t.bind f)
  | .ret a, h => hf a h
  | .ask _ _ k, h => ⟨h.1, h.2.1, fun b => Ins.bind hf (h.2.2 b)⟩
theorem Ins.ite {α : Type} {n : Nat} {P : α → Prop} {c : Prop} [Decidable c] {t u : KasT α} (h1 : Ins n P t) (h2 : Ins n P u) : Ins n P (if c then t else u) := by
  split
  · exact h1
  · exact h2
/-- the entries are below n -/
def Below (n : Nat) (p : Array Nat) : Prop := ∀ x ∈ p.toList, x < n
theorem Below.get {n : Nat} {p : Array Nat} (hn : 0 < n) (h : Below n p) (i : Nat) : p.getD i 0 < n := by
  by_cases hi : i < p.size
  · have e : p.getD i 0 = p[i] := by simp [Array.getD, hi]
    rw [e]
    exact h _ (by simp)
  · have e : p.getD i 0 = 0 := by simp [Array.getD, hi]
    rw [e]; exact hn
theorem Below.of {n : Nat} {p q : Array Nat} (h : Below n p) (e : q.Perm p) : Below n q := fun x hx => h x ((Array.perm_iff_toList_perm.mp e).mem_iff.mp hx)
theorem Below.rev {n : Nat} {p : Array Nat} (h : Below n p) (i j : Nat) : Below n (kas_rev p i j) := h.of (mirror_perm _ _ _ _)
section
variable {n : Nat}
theorem asc_in (hn : 0 < n) {p : Array Nat} (h : Below n p) : ∀ (f m : Nat), Ins n (fun _ => True) (kas_asc p f m)
  | 0, _ => trivial
  | f + 1, m => ⟨h.get hn _, h.get hn _, fun _ => Ins.ite trivial (asc_in hn h f (m + 1))⟩
theorem desc_in (hn : 0 < n) : ∀ (f : Nat) (p : Array Nat) (m q : Nat), Below n p → Ins n (fun r => Below n r.1) (kas_desc f p m q)
  | 0, p, _, _, h => h
  | f + 1, p, m, q, h => ⟨h.get hn _, h.get hn _, fun _ => Ins.ite (Ins.ite (desc_in hn f _ _ _ (h.rev _ _)) (desc_in hn f _ _ _ h)) ⟨h.get hn _, h.get hn _, fun _ => Ins.ite h (desc_in hn f _ _ _ h)⟩⟩
theorem tail3_in (hn : 0 < n) {p : Array Nat} (h : Below n p) (m r : Nat) : Ins n (fun r => Below n r.2) (kas_tail3 m r p) := by
  unfold kas_tail3
  refine Ins.bind (P := fun _ => True) (fun _ _ => ?_) (asc_in hn (h.rev _ _) _ _)
  exact h.rev _ _
theorem descPart_in (hn : 0 < n) {p : Array Nat} (h : Below n p) (m r : Nat) : Ins n (fun r => Below n r.2) (kas_descPart m r p) := by
  unfold kas_descPart
  refine Ins.bind (P := fun r => Below n r.1) (fun _ hb => ?_) (desc_in hn _ _ _ _ h)
  exact Ins.ite (tail3_in hn (Below.rev hb _ _) _ _) (tail3_in hn hb _ _)
theorem count_in (hn : 0 < n) {p : Array Nat} (h : Below n p) (r : Nat) : Ins n (fun r => Below n r.2) (kas_count r p) := by
  unfold kas_count
  refine Ins.bind (P := fun _ => True) (fun m _ => ?_) (asc_in hn h _ _)
  refine Ins.ite h (Ins.ite ?_ (descPart_in hn h _ _))
  exact ⟨h.get hn _, h.get hn _, fun _ => Ins.ite h (descPart_in hn (h.rev _ _) _ _)⟩
theorem place_in (hn : 0 < n) {p : Array Nat} (h : Below n p) (k : Nat) : ∀ (f l r : Nat), Ins n (fun _ => True) (kas_place p k f l r)
  | 0, _, _ => trivial
  | f + 1, l, r => Ins.ite trivial ⟨h.get hn _, h.get hn _, fun _ => Ins.ite (place_in hn h k f _ _) (place_in hn h k f _ _)⟩
theorem bin_in (hn : 0 < n) : ∀ (f : Nat) (p : Array Nat) (k : Nat), Below n p → Ins n (Below n) (kas_bin f p k)
  | 0, _, _, h => h
  | f + 1, p, k, h => Ins.bind (P := fun _ => True) (fun _ _ => bin_in hn f _ _ (h.of (bubble_perm _ _ _))) (place_in hn h k _ _ _)
theorem sort_in (hn : 0 < n) : Ins n (Below n) (kas_sort n) := by
  have h0 : Below n (List.toArray (List.range n)) := fun x hx => List.mem_range.mp (by simpa using hx)
  unfold kas_sort
  refine Ins.bind (P := fun r => Below n r.2) (fun _ hb => ?_) (count_in hn h0 n)
  exact Ins.ite (bin_in hn _ _ _ hb) hb
variable {K : Nat → Int}
theorem wp_in {α : Type} {P : α → Prop} {cmp : Nat → Nat → (Bool → Shared → Prop) → Shared → Prop} {I : Shared → Prop} {Q : α → Shared → Prop} (hc : ∀ i j C s, i < n → j < n → I s → (∀ s', I s' → C (decide (K i < K j)) s') → cmp i j C s) :
    ∀ (t : KasT α) (s : Shared), Ins n P t → I s → (∀ s', I s' → Q (ev K t) s') → t.kasWp cmp Q s
  | .ret a, s, _, hi, h => h s hi
  | .ask i j k, s, hn, hi, h => hc i j _ s hn.1 hn.2.1 hi fun s' hi' => wp_in hc (k (decide (K i < K j))) s' (hn.2.2 _) hi' h
end
end Srt

set_option Elab.async false
set_option linter.all false
set_option maxRecDepth 100000
set_option maxHeartbeats 4000000
/-! Bound methods as values; sorted(.., key = a bound method). -/
namespace L2
open PySem PySem.Spec PyProof.Rows
/-- a method taken as a value -/
structure BMeth (K : PySem.W.Frag) (C : Addr) (m : Str) (f : Addr) : Prop where
  at_ : PySem.W.findIn K (.ref C) m = some (some (.ref f))
  fn : PySem.W.isFn K (.ref f) = true
  gt : PySem.W.specialIn K (.ref f) "__get__" = some (some (.builtin "function.__get__"))
  tk : PySem.W.takesIn K (.ref f) = some false
  cp : PySem.W.copiedNames.contains m = false
def tBound (C f : Addr) (m : Str) (ta : TE) : TE := fun σ H Q => ta σ H fun x H1 => ∃ a dx fs, x = .ref a ∧ H1 a = some (.ins C dx fs) ∧ fs.lookup m = none ∧ ∀ p, H1 p = none → Q (.ref p) (upd H1 p (.met f a))
section
variable {X : Cx} {pins : List (Addr × Obj)} {σ : St} {H : Hp} {s : Shared} {h' : Heap}
theorem pe_bound {e : Expr} {ta : TE} {C f : Addr} {m : Str} {pos : Pos} (he : PE X e ta) (c : Cls X.K C) (k : BMeth X.K C m f) (hb : attributeBase e m X.env (eval e X.env) = eval e X.env) : PE X (.Attribute e m pos) (tBound C f m ta) := by
  intro pins s σ H Q I h
  refine attr_of hb (thn (he pins s σ H _ I h) fun u s1 ⟨x, H1, I1, rx, a, dx, fs, ex, ea, l, q⟩ => ?_)
  subst ex
  obtain rfl : u = Value.ref a := rx
  obtain ⟨mA, O, r, _, _, _⟩ := ins_get I1.hok ea
  have hn : mA m = none := RelO.none_of (by rw [← l]; exact r m)
  obtain ⟨od, J, hl⟩ := O.look
  refine PySem.W.get_bind I1.kIn J (PySem.W.plainGet_of (c.get m)).1 (PySem.W.findObj_fn c.hd k.at_ k.gt k.tk k.cp (by rw [hl, hn])) (PySem.W.plainGet_of (c.get m)).2 ?_
  refine wpAny_call (PySem.W.fn_get (s := { s1 with toks := s1.toks + 1 }) I1.kIn (beq_iff_eq.mp k.fn) (PySem.W.handed_on rfl ?_))
  have hfr : H1 s1.heap.objs.size = none := I1.fresh
  refine ⟨.ref _, _, I1.laid (o := .met f a) (t' := s1.toks + 1) (fun b u e => Heap.get?_push_of_some _ e) (Nat.le_refl _) ?_, rfl, q _ hfr⟩
  exact Heap.get?_push_size _ rfl

/-- an untracked record of ours changes, and is tracked from now on -/
theorem Inv.track {t' : Nat} {it : Addr} {o : HO} (I : Inv X pins σ H s) (k : ∀ b u, b ≠ it → s.heap.get? b = some u → h'.get? b = some u) (hn : H it = none) (hL : it ≠ X.env.locals)
    (h1 : it ∈ X.ex ∨ X.s₀.heap.objs.size ≤ it) (h2 : ∀ x c, X.env.cells.lookup x = some c → c ≠ it) (h3 : ∀ p ∈ X.pn ++ pins, p.1 ≠ it) (new : ObjOk X.prog X.w (upd H it o) h' it o) :
    Inv X pins σ (upd H it o) { s with heap := h', toks := t' } := by
  have nit : ∀ b u, H b = some u → b ≠ it := fun b u e z => by rw [z, hn] at e; cases e
  refine I.step (g' := s.gens) (d' := s.drawn) (ch := [it]) (fun b hb => ?_) (fun b o _ _ hc e _ => k b o (fun z => hc (by simp [z])) e) (fun b o _ _ hc e _ => ⟨o.slots, k b o (fun z => hc (by simp [z])) e⟩) (fun b _ hc _ n => by rw [upd_ne (fun z => hc (by simp [z]))]; exact n)
    (fun b o hc e => ⟨o, k b o (fun z => hc (by simp [z])) e⟩) (fun b xs e => by rw [upd_ne (nit b _ e)]; exact e) (fun b u xs e => by rw [upd_ne (nit b _ e)]; exact e) (fun b ps e => ⟨#[], by rw [upd_ne (nit b _ e), e]; simp⟩) (fun m hm => ?_) (fun b u e => ?_) I.bare
  · have e : b = it := by simpa using hb
    subst e
    exact ⟨h1, hL, h2, h3⟩
  · obtain ⟨o, es, ep, ho, r⟩ := hm
    exact ⟨o, es, ep, k _ o (Ne.symm hL) ho, r⟩
  · by_cases hb : b = it
    · subst hb
      rw [upd_same] at e
      cases e
      exact new
    · rw [upd_ne hb] at e
      refine (I.hok b u e).stay (fun c v hc q => k c v ?_ q) (fun c q => by rw [upd_ne (nit c _ q)]; exact q) fun c xs q => by rw [upd_ne (nit c _ q)]; exact q
      rcases hc with z | z
      · rw [z]; exact hb
      · exact nit c _ z
theorem Inv.nocell {it : Addr} {o : Obj} (I : Inv X pins σ H s) (e : s.heap.get? it = some o) (hd : ∀ v, o.data ≠ .cell v) : ∀ x c, X.env.cells.lookup x = some c → c ≠ it := fun x c q z => by
  subst z
  obtain ⟨v, ob, ho, hdt⟩ := I.cell x c q
  rw [e] at ho
  cases ho
  exact hd v hdt
/-- the first pinned record changes -/
theorem Inv.repin {t' : Nat} {it : Addr} {o o' : Obj} (I : Inv X ((it, o) :: pins) σ H s) (h1 : X.s₀.heap.objs.size ≤ it) (h3 : ∀ p ∈ X.pn ++ pins, p.1 ≠ it) (hd : ∀ v, o'.data ≠ .cell v)
    (k : ∀ b u, b ≠ it → s.heap.get? b = some u → h'.get? b = some u) (e : h'.get? it = some o') : Inv X ((it, o') :: pins) σ H { s with heap := h', toks := t' } := by
  have p0 := I.pin (it, o) (List.mem_append_right _ (.head _))
  have I' : Inv X pins σ H s := I.pins_of fun p hp => I.pin p (List.mem_append_right _ (.tail _ hp))
  have J := I'.turned (t' := t') k p0.2.1 p0.2.2.1 (.inr h1) (I'.nocell p0.1 p0.2.2.2.2) h3
  refine J.pins_of fun p hp => ?_
  rcases List.mem_cons.mp hp with rfl | hp
  · exact ⟨e, p0.2.1, p0.2.2.1, p0.2.2.2.1, hd⟩
  · exact J.pin p (List.mem_append_right _ hp)
end
end L2

set_option Elab.async false
set_option linter.all false
set_option maxRecDepth 100000
set_option maxHeartbeats 4000000
/-! sorted(xs, key = o.m): ints by a key that is a pair of ints. -/
namespace L2
open PySem PySem.Spec PyProof.Rows PySem.W
def KeyAt (H : Hp) (k : Int × Int) (u : Value) : Prop := ∃ t, u = .ref t ∧ H t = some (.tup [.int k.1, .int k.2])
abbrev Keys (H : Hp) : List (Int × Int) → List Value → Prop := Paired (KeyAt H)
theorem Keys.get {H : Hp} : ∀ {kz : List (Int × Int)} {ks : List Value} {i : Nat} {k : Int × Int}, Keys H kz ks → kz[i]? = some k → ∃ u, ks[i]? = some u ∧ KeyAt H k u
  | _ :: _, _ :: _, 0, _, .cons r _, e => by cases e; exact ⟨_, rfl, r⟩
  | _ :: kz, _ :: ks, i + 1, k, .cons _ r, e => by
    obtain ⟨u, e1, e2⟩ := Keys.get (i := i) (k := k) r (by simpa using e)
    exact ⟨u, by simpa using e1, e2⟩
theorem Keys.up {H H1 : Hp} (h : Same H H1) {kz : List (Int × Int)} {ks : List Value} (r : Keys H kz ks) : Keys H1 kz ks := Paired.mapP r fun _ _ ⟨t, e, z⟩ => ⟨t, e, h t _ z⟩
theorem Keys.snoc {H : Hp} {k : Int × Int} {u : Value} (z : KeyAt H k u) : ∀ {kz : List (Int × Int)} {ks : List Value}, Keys H kz ks → Keys H (kz ++ [k]) (ks ++ [u])
  | [], [], _ => .cons z .nil
  | _ :: _, _ :: _, .cons r1 r2 => .cons r1 (Keys.snoc z r2)
section
variable {X : Cx} {pins : List (Addr × Obj)} {σ : St} {H : Hp} {s : Shared} {h' : Heap} {A : Around} {E : Value → Shared → Prop} {P : PySem.Fin → Shared → Prop}
theorem key_tup {k : Int × Int} {u : Value} (hok : HOk X.prog X.w H s.heap) (z : KeyAt H k u) : ∃ t o n t1 t2, u = .ref t ∧ s.heap.get? t = some o ∧ o.cls = .type "tuple" ∧ o.data = .seq #[.int k.1 t1, .int k.2 t2] n := by
  obtain ⟨t, rfl, e⟩ := z
  obtain ⟨_, its, r, o, ho, hc, n, hd⟩ := hok t _ e
  obtain ⟨u1, u2, rfl, r1, r2⟩ := vals2 r
  obtain ⟨t1, rfl⟩ := r1
  obtain ⟨t2, rfl⟩ := r2
  exact ⟨t, o, n, t1, t2, rfl, ho, hc, hd⟩
theorem key_tups (hok : HOk X.prog X.w H s.heap) : ∀ {kz : List (Int × Int)} {ks : List Value}, Keys H kz ks → ∃ fs, KatTups s.heap ks fs ∧ fs.length = kz.length ∧ ∀ v ∈ fs, ∃ a t, v = Value.int a t
  | [], [], _ => ⟨[], .nil, rfl, fun _ h => nomatch h⟩
  | k :: kz, u :: ks, .cons r1 r2 => by
    obtain ⟨fs, h1, h2, h3⟩ := key_tups hok r2
    obtain ⟨t, o, n, t1, t2, rfl, ho, hc, hd⟩ := key_tup hok r1
    exact ⟨.int k.1 t1 :: fs, .cons ho hc hd rfl h1, by simp [h2], fun v hv => by
      rcases List.mem_cons.mp hv with rfl | hv
      · exact ⟨_, _, rfl⟩
      · exact h3 v hv⟩

theorem sort_tail {kS D : Addr} {ks out : List Value} {e e1 : Nat} {ms : List Int} {st : SortSt}
    (I : Inv X ((kS, seqObj "list" ks.toArray e) :: (D, seqObj "list" #[] e1) :: pins) σ H s) (h0 : X.s₀.heap.objs.size ≤ D) (h1 : X.s₀.heap.objs.size ≤ kS) (hne : D ≠ kS) (hp : ∀ p ∈ X.pn ++ pins, p.1 ≠ D ∧ p.1 ≠ kS)
    (hout : (arrOf st).map (·.2) = out.toArray) (hi : Vals (ms.map V.int) out) (hz : ms.length < 64) (hkz : ks.length < 64) (hf : failedOf st = none)
    (q : ∀ s', Inv X pins σ (upd H D (.lst (ms.map V.int))) s' → P (.done (.ret .none)) s') : wpAny (model X.prog X.w) A (ksk_tail D false e1 (.ref kS) st) P E s := by
  have pk := I.pin (kS, seqObj "list" ks.toArray e) (List.mem_append_right _ (.head _))
  have pd := I.pin (D, seqObj "list" #[] e1) (List.mem_append_right _ (.tail _ (.head _)))
  have hol : out.length = ms.length := by rw [← hi.length, List.length_map]
  have I1 : Inv X ((D, seqObj "list" #[] e1) :: pins) σ H s := I.pins_of fun p hp => I.pin p (List.mem_append_right _ (.tail _ hp))
  have s1 := Heap.SameBut.update s.heap kS (Obj.mapSeq fun _ => (#[] : Array Value))
  have J1 := I1.turned (h' := s.heap.update kS (Obj.mapSeq fun _ => (#[] : Array Value))) (t' := s.toks) (it := kS) (fun b o hb eb => (s1.2 b hb).trans eb) pk.2.1 pk.2.2.1 (.inr h1) (I1.nocell pk.1 pk.2.2.2.2) (fun p hp' => by
    rcases List.mem_append.mp hp' with z | z
    · exact (hp p (List.mem_append_left _ z)).2
    · rcases List.mem_cons.mp z with rfl | z
      · exact hne
      · exact (hp p (List.mem_append_right _ z)).2)
  have J2 : Inv X pins σ H { s with heap := s.heap.update kS (Obj.mapSeq fun _ => (#[] : Array Value)) } := J1.pins_of fun p hp => J1.pin p (List.mem_append_right _ (.tail _ hp))
  have pd1 := J1.pin (D, seqObj "list" #[] e1) (List.mem_append_right _ (.head _))
  have s2 := Heap.SameBut.update (s.heap.update kS (Obj.mapSeq fun _ => (#[] : Array Value))) D (Obj.mapSeq fun _ => out.toArray)
  obtain ⟨c2, hc2⟩ : ∃ c2, ((s.heap.update kS (Obj.mapSeq fun _ => (#[] : Array Value))).update D (Obj.mapSeq fun _ => out.toArray)).get? D = some (seqObj "list" out.toArray c2) := ⟨_, get?_update_seq pd1.1 fun _ => out.toArray⟩
  have J3 := J2.track (h' := (s.heap.update kS (Obj.mapSeq fun _ => (#[] : Array Value))).update D (Obj.mapSeq fun _ => out.toArray)) (t' := s.toks) (it := D) (o := .lst (ms.map V.int)) (fun b o hb eb => (s2.2 b hb).trans eb) pd1.2.1 pd1.2.2.1 (.inr h0) (J2.nocell pd1.1 pd1.2.2.2.2)
    (fun p hp' => (hp p hp').1) ⟨by rw [List.length_map, sizeLine_eq]; (first | lia | omega), out, c2, hi, hc2⟩
  unfold ksk_tail
  dsimp only
  rw [hout]
  refine wpAny_bind (listUpdate_at pk.1 rfl ?_ (by rw [List.size_toArray, sizeLine_eq]; (first | lia | omega)) (Nat.zero_le _))
  refine wpAny_bind (wpAny_letGo ?_)
  refine wpAny_bind (seqEpoch_at pd1.1 rfl ?_)
  simp only [Bool.false_eq_true, if_false]
  refine wpAny_bind (listUpdate_at pd1.1 rfl ?_ (Nat.zero_le _) (by rw [List.size_toArray, sizeLine_eq]; (first | lia | omega)))
  rw [hf]
  simp only [bne_self_eq_false, Bool.false_eq_true, if_false]
  exact wpAny_pure (q _ J3)

theorem lex_lt {a b c d : Int} (hb : 0 ≤ b ∧ b < 1000) (hd : 0 ≤ d ∧ d < 1000) : (a * 1000 + b < c * 1000 + d) ↔ (a < c ∨ (a = c ∧ b < d)) := by (first | lia | omega)

theorem ask_ok {ns : List Int} {ks : List Value} {ka kb : Int → Int} (hok : HOk X.prog X.w H s.heap) (hk : Keys H (ns.map fun n => (ka n, kb n)) ks) (hb : ∀ n ∈ ns, 0 ≤ kb n ∧ kb n < 1000) {i j : Nat} (hi : i < ns.length) (hj : j < ns.length) {C : Bool → Shared → Prop}
    (h : C (decide (ka (ns.getD i 0) * 1000 + kb (ns.getD i 0) < ka (ns.getD j 0) * 1000 + kb (ns.getD j 0))) s) : kas_ask X.prog X.w A (tuples' true) ks i j C s := by
  have gi : ns.getD i 0 = ns[i] := by simp [hi]
  have gj : ns.getD j 0 = ns[j] := by simp [hj]
  obtain ⟨u, eu, zu⟩ := hk.get (i := i) (k := (ka ns[i], kb ns[i])) (by simp [hi])
  obtain ⟨v, ev, zv⟩ := hk.get (i := j) (k := (ka ns[j], kb ns[j])) (by simp [hj])
  obtain ⟨t, o, n, t1, t2, rfl, ho, hc, hd⟩ := key_tup hok zu
  obtain ⟨t', o', n', t1', t2', rfl, ho', hc', hd'⟩ := key_tup hok zv
  have hbi := hb ns[i] (List.getElem_mem hi)
  have hbj := hb ns[j] (List.getElem_mem hj)
  rw [gi, gj] at h
  have L := lex_lt (a := ka ns[i]) (c := ka ns[j]) hbi hbj
  unfold kas_ask
  rw [show ks.getD i Value.none = .ref t by simp [List.getD, eu], show ks.getD j Value.none = .ref t' by simp [List.getD, ev]]
  refine kat_lt ho hd ho' hd' ?_
  show KatLex X.prog X.w A true (decide (2 < 2)) C [(.int (ka ns[i]) t1, .int (ka ns[j]) t1'), (.int (kb ns[i]) t2, .int (kb ns[j]) t2')] 0 s
  refine kat_cons (wpAny_eqBool_int (kat_go (fun he => kat_yes (kat_cons (wpAny_eqBool_int (kat_go (fun he2 => kat_yes (kat_nil ?_)) fun he2 => kat_no ?_)))) fun he => kat_no ?_))
  · have e1 : ka ns[i] = ka ns[j] := by simpa using he
    have e2 : kb ns[i] = kb ns[j] := by simpa using he2
    have e3 : decide (ka ns[i] * 1000 + kb ns[i] < ka ns[j] * 1000 + kb ns[j]) = decide (2 < 2) := by rw [e1, e2]; simp
    rw [e3] at h
    exact h
  · have e1 : ka ns[i] = ka ns[j] := by simpa using he
    show wpAny _ A (oneLt' false _ _) _ _ _
    have e3 : decide (ka ns[i] * 1000 + kb ns[i] < ka ns[j] * 1000 + kb ns[j]) = decide (kb ns[i] < kb ns[j]) := by
      rw [decide_eq_decide, L]; (first | lia | omega)
    rw [e3] at h
    exact kat_one _ _ (PyProof.Rows.lt_int h)
  · have e1 : ¬ ka ns[i] = ka ns[j] := by simpa using he
    show wpAny _ A (oneLt' true _ _) _ _ _
    refine oneLt_int ?_
    have e3 : decide (ka ns[i] * 1000 + kb ns[i] < ka ns[j] * 1000 + kb ns[j]) = decide (ka ns[i] < ka ns[j]) := by
      rw [decide_eq_decide, L]; (first | lia | omega)
    rw [e3] at h
    exact h
end
end L2

set_option Elab.async false
set_option linter.all false
set_option maxRecDepth 100000
set_option maxHeartbeats 4000000
namespace L2
open PySem PySem.Spec PyProof.Rows PySem.W
theorem range_getD (ns : List Int) : (List.range ns.length).map (fun i => ns.getD i 0) = ns := by
  apply List.ext_getElem
  · simp
  · intro i h1 h2
    simp [h2]
theorem vals_pick {ns : List Int} {vs : List Value} (hv : Vals (ns.map V.int) vs) : ∀ (l : List Nat), (∀ i ∈ l, i < ns.length) → Vals ((l.map fun i => ns.getD i 0).map V.int) (l.map fun i => vs.getD i Value.none)
  | [], _ => .nil
  | i :: l, h => by
    have hi := h i (.head _)
    refine .cons ?_ (vals_pick hv l fun j hj => h j (.tail _ hj))
    obtain ⟨u, e, r⟩ := hv.get (i := i) (x := .int ns[i]) (by simp [hi])
    have e1 : ns.getD i 0 = ns[i] := by simp [hi]
    have e2 : vs.getD i Value.none = u := by simp [List.getD, e]
    show RelV (V.int (ns.getD i 0)) (vs.getD i Value.none)
    rw [e1, e2]
    exact r
section
variable {X : Cx} {pins : List (Addr × Obj)} {σ : St} {H : Hp} {s : Shared} {h' : Heap} {A : Around} {E : Value → Shared → Prop} {P : PySem.Fin → Shared → Prop}
theorem sort_end {kS D : Addr} {ns : List Int} {vs ks : List Value} {e e1 : Nat} {ka kb : Int → Int}
    (I : Inv X ((kS, seqObj "list" ks.toArray e) :: (D, seqObj "list" #[] e1) :: pins) σ H s) (h0 : X.s₀.heap.objs.size ≤ D) (h1 : X.s₀.heap.objs.size ≤ kS) (hne : D ≠ kS) (hp : ∀ p ∈ X.pn ++ pins, p.1 ≠ D ∧ p.1 ≠ kS)
    (hv : Vals (ns.map V.int) vs) (hk : Keys H (ns.map fun n => (ka n, kb n)) ks) (hb : ∀ n ∈ ns, 0 ≤ kb n ∧ kb n < 1000) (nd : (ns.map fun n => ka n * 1000 + kb n).Nodup) (hz : ns.length < 64)
    (q : ∀ (ms : List Int) (s' : Shared), ms.Perm ns → ms.Pairwise (fun x y => ka x * 1000 + kb x < ka y * 1000 + kb y) → Inv X pins σ (upd H D (.lst (ms.map V.int))) s' → P (.done (.ret .none)) s') :
    wpAny (model X.prog X.w) A (ksk_end D false vs.toArray e1 (.ref kS) ks.toArray) P E s := by
  have hvl : vs.length = ns.length := by rw [← hv.length, List.length_map]
  have hkl : ks.length = ns.length := by
    have := Paired.length hk
    rw [List.length_map] at this
    exact this.symm
  unfold ksk_end
  dsimp only
  simp only [Bool.false_eq_true, if_false]
  by_cases h2 : vs.toArray.size < 2
  · rw [if_pos h2, if_pos h2]
    rw [List.size_toArray] at h2
    refine wpAny_bind (wpAny_pure ?_)
    rw [StateT.run_pure]
    refine wpAny_bind (wpAny_pure ?_)
    dsimp only
    refine sort_tail (st := SortSt.mk' general' (ks.toArray.zip vs.toArray) #[] 7 none) (out := vs) (ms := ns) I h0 h1 hne hp ?_ hv hz (by (first | lia | omega)) rfl fun s' J => q ns s' (List.Perm.refl _) ?_ J
    · show (ks.toArray.zip vs.toArray).map (·.2) = vs.toArray
      apply Array.toList_inj.mp
      rw [Array.toList_map, ksk_zip]
      exact List.map_snd_zip (by show vs.length ≤ ks.length; (first | lia | omega))
    · match ns, hvl with
      | [], _ => exact .nil
      | [x], _ => exact List.pairwise_singleton _ _
      | _ :: _ :: _, h => simp at h; (first | lia | omega)
  · rw [if_neg h2, if_neg h2]
    rw [List.size_toArray] at h2
    obtain ⟨fs, t1, t2, t3⟩ := key_tups (X := X) (s := s) I.hok hk
    rw [List.length_map] at t2
    refine wpAny_bind (kat_kind (T := Value.type "int") t1 (by (first | lia | omega)) (fun v hv => ?_) rfl ?_)
    · obtain ⟨a, t, rfl⟩ := t3 v hv
      exact .now
    · have inj : Srt.Inj (fun i => ka (ns.getD i 0) * 1000 + kb (ns.getD i 0)) vs.length := fun i j hi hj ek => by
        rw [hvl] at hi hj
        have gi : ns.getD i 0 = ns[i] := by simp [hi]
        have gj : ns.getD j 0 = ns[j] := by simp [hj]
        have ek' : (ns.map fun n => ka n * 1000 + kb n)[i]'(by simpa using hi) = (ns.map fun n => ka n * 1000 + kb n)[j]'(by simpa using hj) := by
          rw [List.getElem_map, List.getElem_map, ← gi, ← gj]; exact ek
        exact (List.getElem_inj nd).mp ek'
      obtain ⟨ok, up⟩ := Srt.sort_ok inj (by (first | lia | omega))
      refine wpAny_bind (wpAny_mono (kat_run (Q := fun st' s' => s' = s ∧ arrOf st' = (Srt.ev (fun i => ka (ns.getD i 0) * 1000 + kb (ns.getD i 0)) (kas_sort vs.length)).map (kas_item (ks.toArray.zip vs.toArray)) ∧ failedOf st' = none)
        (G := fun p s' => s' = s ∧ p = Srt.ev (fun i => ka (ns.getD i 0) * 1000 + kb (ns.getD i 0)) (kas_sort vs.length)) (vs := vs) (ks := ks) (by (first | lia | omega)) (by (first | lia | omega)) (by (first | lia | omega))
        (fun p st' s' a1 a2 a3 a4 => ⟨a4.1, by rw [a2, a4.2], a3⟩)
        (Srt.wp_in (n := vs.length) (K := fun i => ka (ns.getD i 0) * 1000 + kb (ns.getD i 0)) (I := fun s' => s' = s) (fun i j C s' hi hj hs hC => ?_) _ s (Srt.sort_in (by (first | lia | omega))) rfl fun s' hs => ⟨hs, rfl⟩)) ?_ fun _ _ x => x)
      · subst hs
        exact ask_ok I.hok hk hb (by (first | lia | omega)) (by (first | lia | omega)) (hC _ rfl)
      · rintro ⟨⟨⟩, st'⟩ s' ⟨rfl, har, hf⟩
        dsimp only
        have hbel : ∀ i ∈ (Srt.ev (fun i => ka (ns.getD i 0) * 1000 + kb (ns.getD i 0)) (kas_sort vs.length)).toList, i < ns.length := fun i hi => by
          rw [← hvl]
          exact List.mem_range.mp (ok.perm.mem_iff.mp hi)
        have hpl := ok.size
        generalize Srt.ev (fun i => ka (ns.getD i 0) * 1000 + kb (ns.getD i 0)) (kas_sort vs.length) = p at har hbel hpl ok up
        refine sort_tail (st := st') (out := p.toList.map fun i => vs.getD i Value.none) (ms := p.toList.map fun i => ns.getD i 0) I h0 h1 hne hp (kat_snds (by (first | lia | omega)) har) (vals_pick hv _ hbel) (by rw [List.length_map, Array.length_toList]; (first | lia | omega)) (by (first | lia | omega)) hf fun s' J => q _ s' ?_ ?_ J
        · have e := ok.perm.map (fun i => ns.getD i 0)
          rw [hvl, range_getD] at e
          exact e
        · rw [List.pairwise_map, List.pairwise_iff_getElem]
          intro i j hi hj hij
          have hj' : j < p.size := by simpa using hj
          have hi' : i < p.size := by simpa using hi
          have u := up i j hij (by (first | lia | omega))
          unfold Srt.ky at u
          have e1 : p.getD i 0 = p.toList[i] := by simp [Array.getD, hi']
          have e2 : p.getD j 0 = p.toList[j] := by simp [Array.getD, hj']
          rw [e1, e2] at u
          exact u
end
end L2

set_option Elab.async false
set_option linter.all false
set_option maxRecDepth 100000
set_option maxHeartbeats 4000000
namespace L2
open PySem PySem.Spec PyProof.Rows PySem.W
section
variable {X : Cx} {pins : List (Addr × Obj)} {σ : St} {H : Hp} {s : Shared} {E : Value → Shared → Prop}
/-- a call of a bound method -/
theorem call_met {A : Around} {q a f : Addr} {fd : FuncData} {ps : List Str} {k : Nat} {sp : Sp} {us : List Value} {vs : List V} {Q : VK} (I : Inv X pins σ H s) (hm : H q = some (.met f a)) (F : FnOk X.prog X.w X.K X.mg X.base CX0 k f fd ps sp) (hr : Room k A)
    (hE : Env0 X.prog X.w X.K X.mg X.base A X.stack s H) (hb : Binds X.K fd ps []) (r : Vals vs us) (h : sp (.ref a :: vs) H Q E0) : wpAny (model X.prog X.w) A (call (.ref q) us) (EP X pins σ Q) E s := by
  have r2 : Vals (.ref a :: vs) (.ref a :: us) := .cons rfl r
  have hl : (.ref a :: us ++ [] : List Value).length = ps.length := by rw [List.append_nil, ← r2.length]; exact F.len _ _ _ _ h
  have hbt := hb s (.ref a :: us) I.kIn hl
  rw [List.append_nil] at hbt
  refine wpAny_call (method_call (I.hok q _ hm) (codeAny_mono (F.run A X.stack s H ⟨.ref a :: us, []⟩ (.ref a :: us) (.ref a :: vs) Q E0 hr hE hbt r2 h) fun r s' hq => ?_))
  cases r with
  | error e => exact hq.elim
  | ok fl =>
    cases fl with
    | ret u => exact I.after hq
    | next => exact False.elim hq
    | brk => exact False.elim hq
    | cont => exact False.elim hq
theorem take_snoc {α : Type} {l : List α} {i : Nat} {x : α} (h : l[i]? = some x) : l.take (i + 1) = l.take i ++ [x] := by
  rw [List.take_add_one, h]; rfl
theorem sort_rest {P : PySem.Fin → Shared → Prop} {A : Around} {kS D q a f : Addr} {ns : List Int} {vs : List Value} {e1 : Nat} {ka kb : Int → Int} {fd : FuncData} {ps : List Str} {k : Nat} {sp : Sp}
    (I : Inv X ((kS, seqObj "list" #[] 0) :: (D, seqObj "list" #[] e1) :: pins) σ H s) (h0 : X.s₀.heap.objs.size ≤ D) (h1 : X.s₀.heap.objs.size ≤ kS) (hne : D ≠ kS) (hp : ∀ p ∈ X.pn ++ pins, p.1 ≠ D ∧ p.1 ≠ kS)
    (hv : Vals (ns.map V.int) vs) (hb : ∀ n ∈ ns, 0 ≤ kb n ∧ kb n < 1000) (nd : (ns.map fun n => ka n * 1000 + kb n).Nodup) (hz : ns.length < 64)
    (hm : H q = some (.met f a)) (F : FnOk X.prog X.w X.K X.mg X.base CX0 k f fd ps sp) (hr : Room k A) (hA : ∀ (s : Shared) (H : Hp), Env0 X.prog X.w X.K X.mg X.base X.A X.stack s H → Env0 X.prog X.w X.K X.mg X.base A X.stack s H) (hbd : Binds X.K fd ps [])
    (hk : ∀ n ∈ ns, ∀ H1, Same H H1 → sp [.ref a, .int n] H1 (fun v H2 => Same H1 H2 ∧ ∃ t, v = .ref t ∧ H2 t = some (.tup [.int (ka n), .int (kb n)])) E0)
    (done : ∀ (ms : List Int) (s' : Shared) (H1 : Hp), ms.Perm ns → ms.Pairwise (fun x y => ka x * 1000 + kb x < ka y * 1000 + kb y) → Same H H1 → H1 D = none → Inv X pins σ (upd H1 D (.lst (ms.map V.int))) s' → P (.done (.ret .none)) s') :
    wpAny (model X.prog X.w) A (ksk_rest D (.ref q) false vs.toArray e1 (.ref kS)) P E s := by
  have hvl : vs.length = ns.length := by rw [← hv.length, List.length_map]
  unfold ksk_rest
  refine wpAny_bind (wpAny_rule ?_)
  rw [List.forIn_toArray]
  refine wpAny_bind (ksk_fold (fun i s' => ∃ H1 ks e, Inv X ((kS, seqObj "list" (List.toArray ks) e) :: (D, seqObj "list" #[] e1) :: pins) σ H1 s' ∧ Same H H1 ∧ Keys H1 ((ns.map fun n => (ka n, kb n)).take i) ks) vs 0 s ⟨H, [], 0, I, Same.refl H, .nil⟩ (fun j x s' hx hJ => ?_) fun s' hJ => ?_)
  · obtain ⟨H1, ks, e, J, sm, kk⟩ := hJ
    rw [Nat.zero_add] at kk ⊢
    have hj : j < ns.length := by
      rw [← hvl]
      exact (List.getElem?_eq_some_iff.mp hx).1
    obtain ⟨x', ex, rx⟩ := hv.get (i := j) (x := .int ns[j]) (by simp [hj])
    rw [hx] at ex
    cases ex
    have hksl : ks.length ≤ ns.length := by
      have := Paired.length kk
      rw [List.length_take, List.length_map] at this
      (first | lia | omega)
    refine wpAny_bind (wpAny_attempt (wpAny_mono (call_met (E := fun _ _ => False) (vs := [.int ns[j]]) J (sm q _ hm) F hr (hA s' H1 J.env0) hbd (.cons rx .nil) (hk ns[j] (List.getElem_mem hj) H1 sm)) (fun u s2 hu => ?_) fun _ _ hF => hF.elim))
    obtain ⟨v, H2, J2, rv, sm2, t, rfl, ht⟩ := hu
    obtain rfl : u = Value.ref t := rv
    have pk := J2.pin (kS, seqObj "list" (List.toArray ks) e) (List.mem_append_right _ (.head _))
    have ea : (List.toArray ks).push (Value.ref t) = List.toArray (ks ++ [Value.ref t]) := by simp
    have s1 := Heap.SameBut.update s2.heap kS (Obj.mapSeq (·.push (Value.ref t)))
    obtain ⟨c2, hc2⟩ : ∃ c2, (s2.heap.update kS (Obj.mapSeq (·.push (Value.ref t)))).get? kS = some (seqObj "list" (List.toArray (ks ++ [Value.ref t])) c2) := ⟨_, by rw [← ea]; exact get?_update_seq pk.1 (·.push (Value.ref t))⟩
    dsimp only
    refine wpAny_bind (listUpdate_at pk.1 rfl ?_ (by rw [List.size_toArray, sizeLine_eq]; (first | lia | omega)) (Nat.le_trans (Nat.le_of_eq (Array.size_push ..)) (by rw [List.size_toArray, sizeLine_eq]; (first | lia | omega))))
    refine wpAny_pure ⟨rfl, H2, ks ++ [Value.ref t], c2, J2.repin (t' := s2.toks) (o' := seqObj "list" (List.toArray (ks ++ [Value.ref t])) c2) h1 (fun p hp' => ?_) (fun v z => nomatch z) (fun b o hb eb => (s1.2 b hb).trans eb) hc2, sm.trans sm2, ?_⟩
    · rcases List.mem_append.mp hp' with z | z
      · exact (hp p (List.mem_append_left _ z)).2
      · rcases List.mem_cons.mp z with rfl | z
        · exact hne
        · exact (hp p (List.mem_append_right _ z)).2
    · rw [take_snoc (x := (ka ns[j], kb ns[j])) (by simp [hj])]
      exact Keys.snoc ⟨t, rfl, ht⟩ (kk.up sm2)
  · obtain ⟨H1, ks, e, J, sm, kk⟩ := hJ
    rw [Nat.zero_add, hvl, List.take_of_length_le (by simp)] at kk
    have pk := J.pin (kS, seqObj "list" (List.toArray ks) e) (List.mem_append_right _ (.head _))
    have pd := J.pin (D, seqObj "list" #[] e1) (List.mem_append_right _ (.tail _ (.head _)))
    refine wpAny_bind (listItems_at pk.1 rfl ?_)
    exact sort_end J h0 h1 hne hp hv kk hb nd hz fun ms s'' p1 p2 J' => done ms s'' H1 p1 p2 sm pd.2.1 J'

/-- sorted(xs, key = o.m) -/
theorem sorted_key {p q a f : Addr} {ns : List Int} {ka kb : Int → Int} {fd : FuncData} {ps : List Str} {k : Nat} {sp : Sp} {Q : VK} (I : Inv X pins σ H s) (hq : SqL X.K H p (ns.map V.int)) (hz : ns.length < 64) (hb : ∀ n ∈ ns, 0 ≤ kb n ∧ kb n < 1000)
    (nd : (ns.map fun n => ka n * 1000 + kb n).Nodup) (hm : H q = some (.met f a)) (F : FnOk X.prog X.w X.K X.mg X.base CX0 k f fd ps sp) (hr : Room (k + 2) X.A) (hbd : Binds X.K fd ps [])
    (hk : ∀ n ∈ ns, ∀ H1, Same H H1 → sp [.ref a, .int n] H1 (fun v H2 => Same H1 H2 ∧ ∃ t, v = .ref t ∧ H2 t = some (.tup [.int (ka n), .int (kb n)])) E0)
    (done : ∀ (ms : List Int) (l : Addr) (H1 : Hp), ms.Perm ns → ms.Pairwise (fun x y => ka x * 1000 + kb x < ka y * 1000 + kb y) → Same H H1 → H1 l = none → Q (.ref l) (upd H1 l (.lst (ms.map V.int)))) :
    wpAny (model X.prog X.w) X.A (call (.builtin "sorted") [.ref p] [(Str.ofString "key", .ref q)]) (EP X pins σ Q) E s := by
  obtain ⟨vs, rv, pl, _⟩ := I.list hq
  have hvl : vs.length = ns.length := by rw [← rv.length, List.length_map]
  refine call_function_entry_kw kind_sorted plain_sorted entry_sorted (ksk_s1 _ _) ?_
  unfold Builtin.«sorted»
  refine wpAny_bind (m := checkCount "sorted" 1 1 _) (wpAny_pure ?_)
  refine wpAny_bind (collect_list pl.isList ?_ (by rw [sizeLine_eq]; (first | lia | omega)))
  refine wpAny_bind (wpAny_newList ?_ (by rw [sizeLine_eq]; (first | lia | omega)))
  have hsz : ((s.heap.push (seqObj "list" #[] 0)).update s.heap.objs.size (Obj.mapSeq (· ++ vs.toArray))).objs.size = s.heap.objs.size + 1 := by
    rw [Heap.size_update, size_push']
  have hoL : (((s.heap.push (seqObj "list" #[] 0)).update s.heap.objs.size (Obj.mapSeq (· ++ vs.toArray))).push (seqObj "list" vs.toArray 0)).get? (s.heap.objs.size + 1) = some (seqObj "list" vs.toArray 0) := by
    rw [← hsz]; exact Heap.get?_push_size _ rfl
  have keep : ∀ b o, s.heap.get? b = some o → (((s.heap.push (seqObj "list" #[] 0)).update s.heap.objs.size (Obj.mapSeq (· ++ vs.toArray))).push (seqObj "list" vs.toArray 0)).get? b = some o := fun b o q => by
    have hlt : b < s.heap.objs.size := Heap.lt_size q
    rw [Heap.get?_push_ne _ _ _ (by rw [hsz]; exact Nat.ne_of_lt (Nat.lt_succ_of_lt hlt)), Heap.get?_update_ne _ _ _ _ (Nat.ne_of_lt hlt), Heap.get?_push_ne _ _ _ (Nat.ne_of_lt hlt)]
    exact q
  have hsz2 : (((s.heap.push (seqObj "list" #[] 0)).update s.heap.objs.size (Obj.mapSeq (· ++ vs.toArray))).push (seqObj "list" vs.toArray 0)).objs.size = s.heap.objs.size + 2 := by
    rw [size_push', hsz]
  show wpAny _ _ _ _ _ { s with heap := ((s.heap.push (seqObj "list" #[] 0)).update s.heap.objs.size (Obj.mapSeq (· ++ vs.toArray))).push (seqObj "list" vs.toArray 0) }
  rw [hsz]
  generalize ((s.heap.push (seqObj "list" #[] 0)).update s.heap.objs.size (Obj.mapSeq (· ++ vs.toArray))).push (seqObj "list" vs.toArray 0) = h1 at hoL keep hsz2
  refine wpAny_bind (wpAny_holding (wpAny_call_entry_kw slot_list_sort ⟨_, hoL, rfl⟩ entry_list_sort ?body (ksk_l1 _ _)))
  show wpAny (model X.prog X.w) X.A.in1.in1 (Builtin.«list.sort» ⟨[.ref (s.heap.objs.size + 1)], [(Str.ofString "key", .ref q)]⟩) _ _ _
  rw [ksk_t1]
  unfold ksk_tree
  have sU := Heap.SameBut.update h1 (s.heap.objs.size + 1) (Obj.mapSeq fun _ => (#[] : Array Value))
  obtain ⟨e1, ho1⟩ : ∃ e1, (h1.update (s.heap.objs.size + 1) (Obj.mapSeq fun _ => (#[] : Array Value))).get? (s.heap.objs.size + 1) = some (seqObj "list" #[] e1) := ⟨_, get?_update_seq hoL fun _ => #[]⟩
  have hsz3 : (h1.update (s.heap.objs.size + 1) (Obj.mapSeq fun _ => (#[] : Array Value))).objs.size = s.heap.objs.size + 2 := by rw [Heap.size_update, hsz2]
  have keep2 : ∀ b o, s.heap.get? b = some o → (h1.update (s.heap.objs.size + 1) (Obj.mapSeq fun _ => (#[] : Array Value))).get? b = some o := fun b o q =>
    (sU.2 b (Nat.ne_of_lt (Nat.lt_succ_of_lt (Heap.lt_size q)))).trans (keep b o q)
  refine wpAny_bind (listItems_at hoL rfl ?_)
  refine wpAny_bind (listUpdate_at hoL rfl ?_ (by rw [List.size_toArray, sizeLine_eq]; (first | lia | omega)) (Nat.zero_le _))
  refine wpAny_bind (seqEpoch_at ho1 rfl ?_)
  refine wpAny_bind (wpAny_newTuple ?_ (by show vs.length ≤ _; rw [sizeLine_eq]; (first | lia | omega)))
  refine wpAny_bind (wpAny_newList ?_ (Nat.zero_le _))
  refine wpAny_holding ?_
  have hsz4 : ((h1.update (s.heap.objs.size + 1) (Obj.mapSeq fun _ => (#[] : Array Value))).push (seqObj "tuple" vs.toArray 0)).objs.size = s.heap.objs.size + 3 := by rw [size_push', hsz3]
  have hD : (((h1.update (s.heap.objs.size + 1) (Obj.mapSeq fun _ => (#[] : Array Value))).push (seqObj "tuple" vs.toArray 0)).push (seqObj "list" #[] 0)).get? (s.heap.objs.size + 1) = some (seqObj "list" #[] e1) :=
    Heap.get?_push_of_some _ (Heap.get?_push_of_some _ ho1)
  have hK : (((h1.update (s.heap.objs.size + 1) (Obj.mapSeq fun _ => (#[] : Array Value))).push (seqObj "tuple" vs.toArray 0)).push (seqObj "list" #[] 0)).get? (s.heap.objs.size + 3) = some (seqObj "list" #[] 0) := by
    rw [← hsz4]; exact Heap.get?_push_size _ rfl
  have keep3 : ∀ b o, s.heap.get? b = some o → (((h1.update (s.heap.objs.size + 1) (Obj.mapSeq fun _ => (#[] : Array Value))).push (seqObj "tuple" vs.toArray 0)).push (seqObj "list" #[] 0)).get? b = some o := fun b o q =>
    Heap.get?_push_of_some _ (Heap.get?_push_of_some _ (keep2 b o q))
  show wpAny _ _ (ksk_rest _ _ _ _ _ (.ref ((h1.update (s.heap.objs.size + 1) (Obj.mapSeq fun _ => (#[] : Array Value))).push (seqObj "tuple" vs.toArray 0)).objs.size)) _ _ { s with heap := ((h1.update (s.heap.objs.size + 1) (Obj.mapSeq fun _ => (#[] : Array Value))).push (seqObj "tuple" vs.toArray 0)).push (seqObj "list" #[] 0) }
  rw [hsz4]
  generalize ((h1.update (s.heap.objs.size + 1) (Obj.mapSeq fun _ => (#[] : Array Value))).push (seqObj "tuple" vs.toArray 0)).push (seqObj "list" #[] 0) = h2 at hD hK keep3
  have J : Inv X pins σ H { s with heap := h2 } := I.kept (t' := s.toks) keep3
  have hlt := I.lt
  have hsz0 := I.sz
  have J2 : Inv X ((s.heap.objs.size + 3, seqObj "list" #[] 0) :: (s.heap.objs.size + 1, seqObj "list" #[] e1) :: pins) σ H { s with heap := h2 } := J.pins_of fun p hp => by
    rcases List.mem_cons.mp hp with rfl | hp
    · exact ⟨hK, I.hok.fresh (by (first | lia | omega)), Nat.ne_of_gt (Nat.lt_of_lt_of_le hlt (Nat.le_add_right _ 3)), I.nofs (by (first | lia | omega)), fun v z => nomatch z⟩
    · rcases List.mem_cons.mp hp with rfl | hp
      · exact ⟨hD, I.hok.fresh (by (first | lia | omega)), Nat.ne_of_gt (Nat.lt_of_lt_of_le hlt (Nat.le_add_right _ 1)), I.nofs (by (first | lia | omega)), fun v z => nomatch z⟩
      · exact J.pin p (List.mem_append_right _ hp)
  refine sort_rest J2 (by (first | lia | omega)) (by (first | lia | omega)) (Nat.ne_of_lt (Nat.add_lt_add_left (by decide) _)) (fun p hp => ?_) rv hb nd hz hm F (hr.in1.in1) (fun s H e => e.in1.in1) hbd hk fun ms s' H1 p1 p2 sm hn J3 => ?_
  · have hl := Heap.lt_size (I.pin p hp).1
    exact ⟨Nat.ne_of_lt (Nat.lt_of_lt_of_le hl (Nat.le_add_right _ 1)), Nat.ne_of_lt (Nat.lt_of_lt_of_le hl (Nat.le_add_right _ 3))⟩
  · exact ⟨_, rfl, wpAny_pure ⟨_, rfl, .ref _, _, J3, rfl, done ms _ H1 p1 p2 sm hn⟩⟩
end
end L2

set_option Elab.async false
set_option linter.all false
set_option maxRecDepth 100000
set_option maxHeartbeats 4000000
/-! list.index, list.insert; the expression sorted(xs, key = ..). -/
namespace L2
open PySem PySem.Spec PyProof.Rows
section
variable {X : Cx}
def rIndex (K : PySem.W.Frag) : V → List V → Hp → VK → Prop := fun x vs H Q => ∃ (l : Addr) (ns : List Int) (k : Int), x = .ref l ∧ vs = [.int k] ∧ SqL K H l (ns.map V.int) ∧ k ∈ ns ∧ ns.length < 1000000 ∧ Q (.int (ns.idxOf k : Nat)) H
theorem mt_index : MtM X "list.index" (rIndex X.K) := by
  intro pins s σ H x vs v us Q I rx rv h
  obtain ⟨l, ns, k, rfl, rfl, hS, hk, hz, q⟩ := h
  cases rx
  obtain ⟨u, rfl, t, rfl⟩ := rv.one
  obtain ⟨its, r, pl, _⟩ := I.list hS
  have hi : IntsAre its ns := ints_vals r
  obtain ⟨⟨cls, dd, data, sl⟩, ho, hc, n, hd⟩ := id pl.isList
  simp only at hc hd
  subst hc hd
  have hlen := hi.length
  have hj : ns.idxOf k < ns.length := List.idxOf_lt_length_iff.mpr hk
  refine call_meets PySem.F.slot_list_index ⟨_, ho, rfl⟩ PySem.F.entry_list_index (PySem.F.args_list_index_2 _ _)
    (PySem.SeqAt.list_indexAt l its.toArray n dd sl (.int k t) (isInt k) (ns.idxOf k) (by simpa [hlen] using hj) (by (first | lia | omega)) ?_ ?_) ⟨ho, fun y hy => (eq_isInt k t hi y (by simpa using hy)).at _ _, ?_⟩
  · show isInt k its[ns.idxOf k] = true
    rw [isInt_at k hi _ (by (first | lia | omega)) hj]
    simpa using List.getElem_idxOf hj
  · intro j hjs hlt
    show isInt k its[j] = false
    rw [isInt_at k hi j (by simpa using hjs) (by (first | lia | omega))]
    exact ne_of_lt_idxOf hlt _
  · exact ⟨.int (ns.idxOf k : Nat), H, I.tok _, ⟨_, rfl⟩, q⟩
def rInsert : V → List V → Hp → VK → Prop := fun x vs H Q => ∃ (l : Addr) (xs : List V) (i : Int) (y : V), x = .ref l ∧ vs = [.int i, y] ∧ H l = some (.lst xs) ∧ 0 ≤ i ∧ i ≤ xs.length ∧ xs.length < 1000000 ∧ Q .non (upd H l (.lst (xs.take i.toNat ++ y :: xs.drop i.toNat)))
theorem mt_insert : MtM X "list.insert" rInsert := by
  intro pins s σ H x vs v us Q I rx rv h
  obtain ⟨l, xs, i, y, rfl, rfl, hH, h0, h1, hz, q⟩ := h
  cases rx
  obtain ⟨u, w', rfl, ⟨t, rfl⟩, ru⟩ := rv.two
  obtain ⟨z, its, n, r, hl, e⟩ := I.lstM hH
  have hfit : ¬(!Builtin.List.listFitsIndex i) = true := by
    unfold Builtin.List.listFitsIndex
    simp
    (first | lia | omega)
  refine call_meets PySem.F.slot_list_insert ⟨_, e, rfl⟩ PySem.F.entry_list_insert (PySem.F.args_list_insert_3 _ _ _) (AutoSeq1.list_insert_list_int_val_1 l its.toArray n i t w' hfit (by rw [List.size_toArray]; (first | lia | omega))) ⟨e, ?_⟩
  refine ⟨.non, _, I.lset (its' := its.take i.toNat ++ w' :: its.drop i.toNat) hH e ?_ ((r.take _).append (.cons ru (r.drop _))) ?_, rfl, q⟩
  · have e1 : (if i < 0 then (i + (its.toArray.size : Int)).toNat else min i.toNat its.toArray.size) = i.toNat := by
      rw [if_neg (by (first | lia | omega)), List.size_toArray]
      (first | lia | omega)
    show ((its.toArray.extract 0 (if i < 0 then (i + (its.toArray.size : Int)).toNat else min i.toNat its.toArray.size)).push w' ++ its.toArray.extract (if i < 0 then (i + (its.toArray.size : Int)).toNat else min i.toNat its.toArray.size)) = _
    rw [e1]
    apply Array.toList_inj.mp
    simp
    exact List.take_of_length_le (by rw [List.length_drop]; (first | lia | omega))
  · rw [List.length_append, List.length_cons, List.length_take, List.length_drop, sizeLine_eq]
    (first | lia | omega)
def rSortK (K : PySem.W.Frag) (f : Addr) (sp : Sp) : List V → List V → Hp → VK → Prop := fun vs zs H2 Q => ∃ (p q a : Addr) (ns : List Int) (ka kb : Int → Int), vs = [.ref p] ∧ zs = [.ref q] ∧ H2 q = some (.met f a) ∧ SqL K H2 p (ns.map V.int) ∧ ns.length < 64 ∧
  (∀ n ∈ ns, 0 ≤ kb n ∧ kb n < 1000) ∧ (ns.map fun n => ka n * 1000 + kb n).Nodup ∧
  (∀ n ∈ ns, ∀ H3, Same H2 H3 → sp [.ref a, .int n] H3 (fun v H4 => Same H3 H4 ∧ ∃ t, v = .ref t ∧ H4 t = some (.tup [.int (ka n), .int (kb n)])) E0) ∧
  ∀ (ms : List Int) (l : Addr) (H3 : Hp), ms.Perm ns → ms.Pairwise (fun x y => ka x * 1000 + kb x < ka y * 1000 + kb y) → Same H2 H3 → H3 l = none → Q (.ref l) (upd H3 l (.lst (ms.map V.int)))
def tSortK (K : PySem.W.Frag) (f : Addr) (sp : Sp) (te tk : TE) : TE := fun σ H Q => tCons te tNil σ H fun vs H1 => tCons tk tNil σ H1 fun zs H2 => rSortK K f sp vs zs H2 Q
theorem pe_sortK {e ke : Expr} {te tk : TE} {p pos kpos : Pos} {f : Addr} {fd : FuncData} {ps : List Str} {k : Nat} {sp : Sp} (B : Blt X.mg) (F : FnOk X.prog X.w X.K X.mg X.base CX0 k f fd ps sp) (hr : Room (k + 2) X.A) (hbd : Binds X.K fd ps [])
    (he : PE X e te) (hk : PE X ke tk) (hg : Gl X "sorted" := by rfl) (hst : starEach [e] X.env = (false, eval e X.env) :: starEach [] X.env := by rfl) :
    PE X (.Call (.Name "sorted" p) [e] [⟨some "key", ke, kpos⟩] pos) (tSortK X.K f sp te tk) := by
  intro pins s σ H Q I h
  refine wpAny_Call_Name_kw (ld_blt I hg B.sorted PyProof.Rows.boot_sorted ?_ (by decide) (by decide))
  refine PyProof.Rows.callWith_kw (thn ((pa_cons he pa_nil hst) pos pins s σ H _ I h) fun us s1 ⟨vs, H1, I1, r1, q1⟩ => ?_) (by rw [hst]; rfl) (by rw [hst]; rfl)
  refine thn ((pk_cons hk pk_nil) pos pins s1 σ H1 _ I1 q1) fun ws s2 ⟨zs, H2, I2, rz, q2⟩ => ?_
  obtain ⟨p, q, a, ns, ka, kb, rfl, rfl, hm, hS, hz, hb, nd, hsp, done⟩ := q2
  obtain ⟨u, rfl, ru⟩ := vals1 r1
  obtain ⟨v, rfl, rv⟩ := vals1 rz
  obtain rfl : u = Value.ref p := ru
  obtain rfl : v = Value.ref q := rv
  show wpAny _ _ (call (.builtin "sorted") [.ref p] [(Str.ofString "key", .ref q)]) _ _ _
  exact sorted_key I2 hS hz hb nd hm F hr hbd hsp done
end
end L2

set_option Elab.async false
set_option linter.all false
set_option maxRecDepth 100000
set_option maxHeartbeats 4000000
/-! A statement, then a rest, with what holds between them. -/
namespace L2
open PySem PySem.Spec PyProof.Rows
section
variable {X : Cx} {st : Stmt} {rest : List Stmt} {t u : TS}
def tMid (t u : TS) : TS := fun D σ H => ∃ Mid : St → Hp → Prop, t { D with nx := Mid } σ H ∧ ∀ σ' H', Mid σ' H' → u D σ' H'
theorem pss_mid (h1 : PS X st t) (h2 : PSs X rest u) : PSs X (st :: rest) (tMid t u) := by
  intro pins s σ H D I h
  obtain ⟨Mid, ha, hb⟩ := h
  refine wpAny_execs_cons (thn (h1 pins s σ H { D with nx := Mid } I ha) fun f s1 q => ?_)
  cases f with
  | next =>
    obtain ⟨σ', H', I', q⟩ := q
    exact h2 pins s1 σ' H' D I' (hb σ' H' q)
  | ret v => exact q
  | brk => exact q
  | cont => exact q
end
end L2

set_option Elab.async false
set_option linter.all false
set_option maxRecDepth 100000
/-! o[i] by values (for o[i] += e), the least of a list of ints. -/
namespace L2
open PySem PySem.Spec PyProof.Rows
section
variable {X : Cx}
theorem get_list : PGet X (rIxL X.K) := by
  intro pins s σ H o i ov iv Q I ro ri h
  obtain ⟨p, xs, k, z, rfl, rfl, hq, he, q⟩ := h
  cases ro
  obtain ⟨t, rfl⟩ := ri
  obtain ⟨its, r, pl, hz⟩ := I.list hq
  obtain ⟨j, h1, h2, h3, h4, h5⟩ := atI_get he
  obtain ⟨w, ew, rw'⟩ := r.get h2
  have hl := r.length
  have hn := line63
  by_cases h0 : 0 ≤ k
  · have hj : k.toNat = j := by
      rw [seqIndex_of h0 h5] at h1
      exact Option.some.inj h1
    exact wpAny_getItem_list pl.isList h0 (by (first | lia | omega)) (by rw [hj]; simpa using ew) ⟨z, H, I, rw', q⟩
  · have hj : (k + (its.toArray.size : Int)).toNat = j := by
      rw [seqIndex_neg (by (first | lia | omega)) h4] at h1
      rw [List.size_toArray, ← hl]
      exact Option.some.inj h1
    exact wpAny_getItem_list_neg pl.isList (by (first | lia | omega)) (by rw [List.size_toArray] <;> (first | lia | omega)) (by (first | lia | omega)) (by rw [hj]; simpa using ew) ⟨z, H, I, rw', q⟩
end
end L2

set_option Elab.async false
set_option linter.all false
set_option maxRecDepth 100000
/-! the least of a list of ints. -/
namespace L2
open PySem PySem.Spec PyProof.Rows
section
variable {X : Cx}
theorem call_minL (hc : X.calm = true) : CallR X (.builtin "min") (fun xs H Q => ∃ (p : Addr) (ns : List Int), xs = [.ref p] ∧ SqL X.K H p (ns.map V.int) ∧ ns ≠ [] ∧ ∀ M : Int, M ∈ ns → (∀ a ∈ ns, M ≤ a) → Q (.int M) H) := by
  intro pins s σ H xs us Q I r h
  obtain ⟨p, ns, rfl, hq, hne, q⟩ := h
  obtain ⟨u, rfl, ru⟩ := vals1 r
  cases ru
  obtain ⟨its, rv, pl, hz⟩ := I.list hq
  have hi : IntsAre its ns := ints_vals rv
  obtain ⟨xs, e⟩ := hi.allInts.items
  have hns : ns = xs.toList.map (·.1) := by
    rw [← hi.numsOf, ← nums_intItems, ← e]
  have hsz : 0 < xs.size := by
    have h3 : 0 < ns.length := List.length_pos_iff.mpr hne
    rw [hns, List.length_map, Array.length_toList] at h3; exact h3
  have hl := pl.isList
  rw [e] at hl
  refine min_intList (I.ok.hd hc) hl hsz fun v h' tk hv hk => ?_
  obtain ⟨t, rfl⟩ := intItems_at hv
  obtain ⟨h1, h2⟩ := argBest_lt (numAt xs) (xs.size - 1)
  refine ⟨.int _, H, I.kept (t' := tk) hk, ⟨t, rfl⟩, q _ ?_ fun a ha => ?_⟩
  · rw [hns, numAt_eq]; exact getD_mem (by rw [List.length_map, Array.length_toList]; (first | lia | omega))
  · rw [hns] at ha
    obtain ⟨j, hj, rfl⟩ := mem_getD ha
    rw [List.length_map, Array.length_toList] at hj
    rw [← numAt_eq]; exact h2 j (by (first | lia | omega))
end
end L2

set_option Elab.async false
set_option linter.all false
/-! A house's rank and choice over a fixed row: what is chosen, and how it goes with other choices. -/
namespace Hse
structure RowD where
  seats : Int
  kept : Int
  kind : Int
  opened : Bool
  points : List (Option Int)
  kinds : List Int
  tie : List Int
namespace RowD
def pt (R : RowD) (c : Int) : Option Int := R.points.getD c.toNat none
def kd (R : RowD) (c : Int) : Int := R.kinds.getD c.toNat 0
def able (R : RowD) (c : Int) : Bool := (R.pt c).isSome
def ka (R : RowD) (c : Int) : Int := -((R.pt c).getD 0)
def kb (R : RowD) (c : Int) : Int := ((R.tie.idxOf c : Nat) : Int)
def key (R : RowD) (c : Int) : Int := R.ka c * 1000 + R.kb c
def full (R : RowD) : List Int := (R.tie.filter R.able).mergeSort fun a b => decide (R.key a ≤ R.key b)
def rank (R : RowD) (p : Int → Bool) : List Int := R.full.filter p
def ofKind (R : RowD) (c : Int) : Bool := decide (R.kd c = R.kind)
def keep (R : RowD) (p : Int → Bool) : List Int := ((R.rank p).filter R.ofKind).take R.kept.toNat
def left (R : RowD) (p : Int → Bool) : List Int := (R.rank p).filter fun c => !decide (c ∈ R.keep p)
def free (R : RowD) (p : Int → Bool) : Int := if R.opened then R.seats - (R.keep p).length else R.seats - R.kept
def pick (R : RowD) (p : Int → Bool) : List Int := R.keep p ++ (R.left p).take (R.free p).toNat
end RowD
def inL (cs : List Int) (c : Int) : Bool := decide (c ∈ cs)
/-- a row for n comers -/
structure Good (R : RowD) (n : Nat) : Prop where
  pl : R.points.length = n
  kl : R.kinds.length = n
  td : R.tie.Nodup
  tm : ∀ x : Int, x ∈ R.tie ↔ 0 ≤ x ∧ x < n
  tl : R.tie.length = n
  k0 : 0 ≤ R.kept
  ks : R.kept ≤ R.seats
  nn : n ≤ 24
theorem take_sub {p p' : Int → Bool} (h : ∀ c, p' c = true → p c = true) : ∀ (L : List Int) (n n' : Nat), n ≤ n' → ∀ x, x ∈ (L.filter p).take n → p' x = true → x ∈ (L.filter p').take n'
  | [], n, n', _, x, hx, _ => by simp at hx
  | y :: L, n, n', hn, x, hx, hp => by
    cases hy : p y with
    | false =>
      have hy' : p' y = false := by
        cases e : p' y with
        | false => rfl
        | true => rw [h y e] at hy; cases hy
      rw [List.filter_cons, if_neg (by rw [hy]; simp)] at hx
      rw [List.filter_cons, if_neg (by rw [hy']; simp)]
      exact take_sub h L n n' hn x hx hp
    | true =>
      rw [List.filter_cons, if_pos hy] at hx
      cases n with
      | zero => simp at hx
      | succ m =>
        rw [List.take_succ_cons] at hx
        cases hy' : p' y with
        | false =>
          rw [List.filter_cons, if_neg (by rw [hy']; simp)]
          rcases List.mem_cons.mp hx with rfl | hx
          · rw [hp] at hy'; cases hy'
          · exact take_sub h L m n' (by (first | lia | omega)) x hx hp
        | true =>
          rw [List.filter_cons, if_pos hy']
          cases n' with
          | zero => (first | lia | omega)
          | succ m' =>
            rw [List.take_succ_cons]
            rcases List.mem_cons.mp hx with rfl | hx
            · exact List.mem_cons_self
            · exact List.mem_cons_of_mem _ (take_sub h L m m' (by (first | lia | omega)) x hx hp)
theorem filter_le {p p' : Int → Bool} (h : ∀ c, p' c = true → p c = true) (L : List Int) : (L.filter p').length ≤ (L.filter p).length := by
  rw [← List.countP_eq_length_filter, ← List.countP_eq_length_filter]
  exact List.countP_mono_left fun x _ => h x
theorem perm_of_sub : ∀ {l m : List Int}, l.Nodup → m.Nodup → (∀ x ∈ l, x ∈ m) → m.length ≤ l.length → l.Perm m
  | [], m, _, _, _, hl => by
    have : m = [] := List.length_eq_zero_iff.mp (by simpa using hl)
    rw [this]
  | x :: l, m, hl, hm, hs, hle => by
    have hx : x ∈ m := hs x List.mem_cons_self
    have hp : m.Perm (x :: m.erase x) := List.perm_cons_erase hx
    have hlm : m.length = (m.erase x).length + 1 := by rw [hp.length_eq, List.length_cons]
    have nd := hp.nodup_iff.mp hm
    refine List.Perm.trans (List.Perm.cons x (perm_of_sub (List.nodup_cons.mp hl).2 (List.nodup_cons.mp nd).2 (fun y hy => ?_) ?_)) hp.symm
    · have hy' := hp.mem_iff.mp (hs y (List.mem_cons_of_mem _ hy))
      rcases List.mem_cons.mp hy' with rfl | h
      · exact absurd hy (List.nodup_cons.mp hl).1
      · exact h
    · rw [List.length_cons] at hle; (first | lia | omega)
theorem len_sub : ∀ {l m : List Int}, l.Nodup → (∀ x ∈ l, x ∈ m) → l.length ≤ m.length
  | [], _, _, _ => Nat.zero_le _
  | x :: l, m, hl, hs => by
    have hx : x ∈ m := hs x List.mem_cons_self
    have hp : m.Perm (x :: m.erase x) := List.perm_cons_erase hx
    have := len_sub (l := l) (m := m.erase x) (List.nodup_cons.mp hl).2 fun y hy => by
      have hy' := hp.mem_iff.mp (hs y (List.mem_cons_of_mem _ hy))
      rcases List.mem_cons.mp hy' with rfl | h
      · exact absurd hy (List.nodup_cons.mp hl).1
      · exact h
    rw [hp.length_eq, List.length_cons, List.length_cons]
    (first | lia | omega)
theorem sorted_eq {l m : List Int} (hp : l.Perm m) (h1 : l.Pairwise (· ≤ ·)) (h2 : m.Pairwise (· ≤ ·)) : l = m :=
  hp.eq_of_pairwise (fun a b _ _ x y => Int.le_antisymm x y) h1 h2
section
variable {R : RowD} {n : Nat} {p p' : Int → Bool}
theorem key_inj (g : Good R n) {a b : Int} (ha : a ∈ R.tie) (hb : b ∈ R.tie) (e : R.key a = R.key b) : a = b := by
  have h1 := List.idxOf_lt_length_iff.mpr ha
  have h2 := List.idxOf_lt_length_iff.mpr hb
  have h3 := g.tl
  have h4 := g.nn
  unfold RowD.key RowD.kb at e
  have e2 : R.tie.idxOf a = R.tie.idxOf b := by (first | lia | omega)
  have e3 := List.getElem_idxOf h1
  have e4 := List.getElem_idxOf h2
  rw [← e3, ← e4]
  congr 1
theorem kb_rng (g : Good R n) {a : Int} (ha : a ∈ R.tie) : 0 ≤ R.kb a ∧ R.kb a < 1000 := by
  have h1 := List.idxOf_lt_length_iff.mpr ha
  have h3 := g.tl
  have h4 := g.nn
  unfold RowD.kb
  (first | lia | omega)
theorem full_perm : R.full.Perm (R.tie.filter R.able) := List.mergeSort_perm _ _
theorem full_nodup (g : Good R n) : R.full.Nodup := full_perm.nodup_iff.mpr (g.td.filter _)
theorem mem_full {c : Int} : c ∈ R.full ↔ c ∈ R.tie ∧ R.able c = true := by
  rw [full_perm.mem_iff, List.mem_filter]
theorem full_sorted (g : Good R n) : R.full.Pairwise (fun a b => R.key a < R.key b) := by
  have h1 : R.full.Pairwise (fun a b => decide (R.key a ≤ R.key b) = true) := List.pairwise_mergeSort (le := fun a b => decide (R.key a ≤ R.key b)) (fun a b c x y => decide_eq_true (Int.le_trans (of_decide_eq_true x) (of_decide_eq_true y))) (fun a b => by
    rcases Int.le_total (R.key a) (R.key b) with h | h
    · rw [decide_eq_true h]; rfl
    · rw [decide_eq_true h, Bool.or_true]) _
  have h2 := full_nodup g
  have h3 : R.full.Pairwise (fun a b => decide (R.key a ≤ R.key b) = true ∧ a ≠ b) := h1.and h2
  refine h3.imp_of_mem fun ha hb z => ?_
  have z1 := of_decide_eq_true z.1
  have z2 : R.key _ ≠ R.key _ := fun e => z.2 (key_inj g (mem_full.mp ha).1 (mem_full.mp hb).1 e)
  (first | lia | omega)
theorem rank_eq (g : Good R n) {ms cs : List Int} (hp : ms.Perm (cs.filter R.able)) (hs : ms.Pairwise (fun a b => R.key a < R.key b)) (hc : ∀ c ∈ cs, c ∈ R.tie) (nd : cs.Nodup) : ms = R.rank (inL cs) := by
  refine List.Perm.eq_of_pairwise (le := fun a b => R.key a < R.key b) (fun a b _ _ x y => absurd (Int.lt_trans x y) (Int.lt_irrefl _)) hs ((full_sorted g).filter _) ?_
  refine (List.perm_ext_iff_of_nodup (hp.nodup_iff.mpr (nd.filter _)) ((full_nodup g).filter _)).mpr fun a => ?_
  rw [hp.mem_iff, List.mem_filter]
  show _ ↔ a ∈ R.full.filter (inL cs)
  rw [List.mem_filter, mem_full]
  unfold inL
  rw [decide_eq_true_eq]
  exact ⟨fun ⟨h1, h2⟩ => ⟨⟨hc a h1, h2⟩, h1⟩, fun ⟨⟨_, h2⟩, h1⟩ => ⟨h1, h2⟩⟩
theorem rank_nodup (g : Good R n) : (R.rank p).Nodup := (full_nodup g).filter _
theorem keep_sub {c : Int} (h : c ∈ R.keep p) : c ∈ R.rank p := (List.mem_filter.mp (List.mem_of_mem_take h)).1
theorem left_sub {c : Int} (h : c ∈ R.left p) : c ∈ R.rank p ∧ c ∉ R.keep p := by
  have := List.mem_filter.mp h
  exact ⟨this.1, by simpa using this.2⟩
theorem keep_eq : R.keep p = (R.full.filter fun c => R.ofKind c && p c).take R.kept.toNat := by
  unfold RowD.keep RowD.rank
  rw [List.filter_filter]
theorem left_eq : R.left p = R.full.filter fun c => (!decide (c ∈ R.keep p)) && p c := by
  unfold RowD.left RowD.rank
  rw [List.filter_filter]
theorem keep_len (g : Good R n) : ((R.keep p).length : Int) ≤ R.kept := by
  have := List.length_take_le R.kept.toNat ((R.rank p).filter R.ofKind)
  have h := g.k0
  unfold RowD.keep
  (first | lia | omega)
theorem free_nonneg (g : Good R n) : 0 ≤ R.free p := by
  have := keep_len (p := p) g
  have := g.ks
  unfold RowD.free
  split <;> (first | lia | omega)
theorem pick_nodup (g : Good R n) : (R.pick p).Nodup := by
  unfold RowD.pick
  rw [List.nodup_append]
  refine ⟨((rank_nodup g).filter _).sublist (List.take_sublist _ _), ((rank_nodup g).filter _).sublist (List.take_sublist _ _), fun a ha b hb e => ?_⟩
  subst e
  exact (left_sub (List.mem_of_mem_take hb)).2 ha
theorem pick_sub {c : Int} (h : c ∈ R.pick p) : c ∈ R.full ∧ p c = true := by
  unfold RowD.pick at h
  rcases List.mem_append.mp h with h | h
  · exact List.mem_filter.mp (keep_sub h)
  · exact List.mem_filter.mp (left_sub (List.mem_of_mem_take h)).1
theorem keep_mono (h : ∀ c, p' c = true → p c = true) {c : Int} (hc : c ∈ R.keep p) (hp : p' c = true) : c ∈ R.keep p' := by
  have hk : R.ofKind c = true := (List.mem_filter.mp (List.mem_of_mem_take hc)).2
  rw [keep_eq] at hc ⊢
  exact take_sub (p := fun c => R.ofKind c && p c) (p' := fun c => R.ofKind c && p' c) (fun c z => by
    rw [Bool.and_eq_true] at z ⊢
    exact ⟨z.1, h c z.2⟩) _ _ _ (Nat.le_refl _) c hc (by rw [Bool.and_eq_true]; exact ⟨hk, hp⟩)
theorem keep_le (h : ∀ c, p' c = true → p c = true) : (R.keep p').length ≤ (R.keep p).length := by
  rw [keep_eq, keep_eq, List.length_take, List.length_take]
  have := filter_le (p := fun c => R.ofKind c && p c) (p' := fun c => R.ofKind c && p' c) (fun c z => by
    rw [Bool.and_eq_true] at z ⊢
    exact ⟨z.1, h c z.2⟩) R.full
  (first | lia | omega)
theorem left_imp (h : ∀ c, p' c = true → p c = true) (c : Int) (z : ((!decide (c ∈ R.keep p')) && p' c) = true) : ((!decide (c ∈ R.keep p)) && p c) = true := by
  rw [Bool.and_eq_true] at z ⊢
  refine ⟨?_, h c z.2⟩
  have z1 : c ∉ R.keep p' := by simpa using z.1
  have : c ∉ R.keep p := fun hc => z1 (keep_mono h hc z.2)
  simpa using this
theorem free_le (h : ∀ c, p' c = true → p c = true) : R.free p ≤ R.free p' := by
  have := keep_le (R := R) h
  unfold RowD.free
  split <;> (first | lia | omega)
theorem pick_mono (h : ∀ c, p' c = true → p c = true) {c : Int} (hc : c ∈ R.pick p) (hp : p' c = true) : c ∈ R.pick p' := by
  unfold RowD.pick at hc ⊢
  rw [List.mem_append] at hc ⊢
  rcases hc with hc | hc
  · exact .inl (keep_mono h hc hp)
  · by_cases hk : c ∈ R.keep p'
    · exact .inl hk
    · refine .inr ?_
      rw [left_eq] at hc ⊢
      refine take_sub (p := fun c => (!decide (c ∈ R.keep p)) && p c) (p' := fun c => (!decide (c ∈ R.keep p')) && p' c) (left_imp h) _ _ _ ?_ c hc ?_
      · have := free_le (R := R) h
        (first | lia | omega)
      · rw [Bool.and_eq_true]
        exact ⟨by simpa using hk, hp⟩
theorem pick_le (g : Good R n) (h : ∀ c, p' c = true → p c = true) : (R.pick p').length ≤ (R.pick p).length := by
  have h1 := keep_le (R := R) h
  have h2 : (R.left p').length ≤ (R.left p).length := by
    rw [left_eq, left_eq]
    exact filter_le (left_imp h) _
  have h3 := keep_len (p := p) g
  have h3' := keep_len (p := p') g
  have h4 := g.ks
  unfold RowD.pick RowD.free
  rw [List.length_append, List.length_append, List.length_take, List.length_take]
  split <;> (first | lia | omega)
theorem pick_perm (g : Good R n) (h : ∀ c, p' c = true → p c = true) (h2 : ∀ c ∈ R.pick p, p' c = true) : (R.pick p').Perm (R.pick p) :=
  (perm_of_sub (pick_nodup g) (pick_nodup g) (fun c hc => pick_mono h hc (h2 c hc)) (pick_le g h)).symm
end
end Hse

set_option Elab.async false
set_option linter.all false
/-! The law's own rank and choice, step by step. -/
namespace Hse
section
variable {R : RowD} {n : Nat}
theorem tie_sorted (h : R.tie.Nodup) : R.tie.Pairwise (fun a b => R.kb a < R.kb b) := by
  rw [List.pairwise_iff_getElem]
  intro i j hi hj hij
  unfold RowD.kb
  rw [h.idxOf_getElem i hi, h.idxOf_getElem j hj]
  (first | lia | omega)
theorem key_lt {x y : Int} (hx : 0 ≤ R.kb x ∧ R.kb x < 1000) (hy : 0 ≤ R.kb y ∧ R.kb y < 1000) : R.key x < R.key y ↔ R.ka x < R.ka y ∨ (R.ka x = R.ka y ∧ R.kb x < R.kb y) := by
  unfold RowD.key
  (first | lia | omega)
theorem ins_ok {out : List Int} {k : Int} {a : Nat} (hs : out.Pairwise (fun x y => R.key x < R.key y)) (hb : ∀ x ∈ out, 0 ≤ R.kb x ∧ R.kb x < 1000) (hk : 0 ≤ R.kb k ∧ R.kb k < 1000) (hlt : ∀ x ∈ out, R.kb x < R.kb k) (ha : a ≤ out.length)
    (h1 : ∀ y ∈ out.drop a, R.ka k < R.ka y) (h2 : a = 0 ∨ ∃ z, out[a - 1]? = some z ∧ R.ka z ≤ R.ka k) : (out.take a ++ k :: out.drop a).Pairwise (fun x y => R.key x < R.key y) := by
  have hs' := hs
  rw [← List.take_append_drop a out, List.pairwise_append] at hs'
  obtain ⟨p1, p2, p3⟩ := hs'
  have mt : ∀ x ∈ out.take a, x ∈ out := fun x hx => List.mem_of_mem_take hx
  have md : ∀ x ∈ out.drop a, x ∈ out := fun x hx => List.mem_of_mem_drop hx
  rw [List.pairwise_append, List.pairwise_cons]
  refine ⟨p1, ⟨fun y hy => (key_lt hk (hb y (md y hy))).mpr (.inl (h1 y hy)), p2⟩, fun x hx y hy => ?_⟩
  rcases List.mem_cons.mp hy with rfl | hy
  · rw [key_lt (hb x (mt x hx)) hk]
    have hl := hlt x (mt x hx)
    rcases h2 with rfl | ⟨z, hz, hzk⟩
    · simp at hx
    · obtain ⟨i, hi, rfl⟩ := List.getElem_of_mem hx
      have hia : i < a := by
        rw [List.length_take] at hi
        (first | lia | omega)
      have hal : a - 1 < out.length := by (first | lia | omega)
      have ez : z = out[a - 1] := by
        rw [List.getElem?_eq_getElem hal] at hz
        exact (Option.some.inj hz).symm
      have ex : (out.take a)[i] = out[i]'(by (first | lia | omega)) := List.getElem_take
      have hle : R.ka ((out.take a)[i]) ≤ R.ka z := by
        by_cases e : i = a - 1
        · rw [ex, ez]
          subst e
          exact Int.le_refl _
        · have hlt2 := List.pairwise_iff_getElem.mp hs i (a - 1) (by (first | lia | omega)) hal (by (first | lia | omega))
          rw [← ez, ← ex] at hlt2
          have := (key_lt (hb _ (mt _ hx)) (hb z (ez ▸ List.getElem_mem hal))).mp hlt2
          (first | lia | omega)
      (first | lia | omega)
  · exact p3 x hx y hy
theorem ins_perm {out : List Int} {k : Int} {a : Nat} : (out.take a ++ k :: out.drop a).Perm (out ++ [k]) := by
  refine List.perm_middle.trans ?_
  rw [List.take_append_drop]
  exact (List.perm_append_singleton k out).symm
theorem rank_eq' (g : Good R n) {ms cs : List Int} (nd : ms.Nodup) (hm : ∀ c, c ∈ ms ↔ c ∈ R.tie ∧ R.able c = true ∧ c ∈ cs) (hs : ms.Pairwise (fun a b => R.key a < R.key b)) : ms = R.rank (inL cs) := by
  refine List.Perm.eq_of_pairwise (le := fun a b => R.key a < R.key b) (fun a b _ _ x y => absurd (Int.lt_trans x y) (Int.lt_irrefl _)) hs ((full_sorted g).filter _) ?_
  refine (List.perm_ext_iff_of_nodup nd ((full_nodup g).filter _)).mpr fun a => ?_
  rw [hm]
  show _ ↔ a ∈ R.full.filter (inL cs)
  rw [List.mem_filter, mem_full]
  unfold inL
  rw [decide_eq_true_eq]
  exact ⟨fun ⟨h1, h2, h3⟩ => ⟨⟨h1, h2⟩, h3⟩, fun ⟨⟨h1, h2⟩, h3⟩ => ⟨h1, h2, h3⟩⟩
end
theorem step_take {p : Int → Bool} {L : List Int} {i : Nat} {c : Int} {m : Nat} (h : L[i]? = some c) :
    (p c = true ∧ (((L.take i).filter p).take m).length < m → ((L.take (i + 1)).filter p).take m = ((L.take i).filter p).take m ++ [c]) ∧
    (¬ (p c = true ∧ (((L.take i).filter p).take m).length < m) → ((L.take (i + 1)).filter p).take m = ((L.take i).filter p).take m) := by
  have e : (L.take (i + 1)).filter p = (L.take i).filter p ++ (if p c then [c] else []) := by
    rw [List.take_add_one, h, List.filter_append]
    congr 1
    show List.filter p [c] = _
    rw [List.filter_cons]
    rfl
  rw [e]
  generalize (L.take i).filter p = B
  constructor
  · rintro ⟨hp, hl⟩
    rw [if_pos hp]
    rw [List.length_take] at hl
    rw [List.take_of_length_le (l := B) (by (first | lia | omega)), List.take_of_length_le (by rw [List.length_append, List.length_singleton]; (first | lia | omega))]
  · intro hn
    cases hp : p c with
    | false => rw [if_neg (by simp), List.append_nil]
    | true =>
      rw [if_pos rfl]
      have hl : m ≤ B.length := by
        have : ¬ (B.take m).length < m := fun z => hn ⟨hp, z⟩
        rw [List.length_take] at this
        (first | lia | omega)
      rw [List.take_append_of_le_length hl]
end Hse

set_option Elab.async false
set_option linter.all false
namespace Hse
/-- the numbers below n -/
def rng (n : Nat) : List Int := (List.range n).map fun i : Nat => (i : Int)
theorem rng_get {n i : Nat} (h : i < n) : (rng n)[i]? = some (i : Int) := by
  unfold rng
  rw [List.getElem?_map, List.getElem?_range h]
  rfl
theorem rng_len (n : Nat) : (rng n).length = n := by simp [rng]
theorem rng_nodup (n : Nat) : (rng n).Nodup := by
  refine List.nodup_iff_pairwise_ne.mpr ?_
  unfold rng
  rw [List.pairwise_map]
  exact (List.nodup_iff_pairwise_ne.mp List.nodup_range).imp fun h e => h (Int.ofNat.inj e)
theorem rng_mem (n : Nat) (x : Int) : x ∈ rng n ↔ 0 ≤ x ∧ x < n := by
  unfold rng
  rw [List.mem_map]
  constructor
  · rintro ⟨i, hi, rfl⟩
    have := List.mem_range.mp hi
    (first | lia | omega)
  · rintro ⟨h0, h1⟩
    exact ⟨x.toNat, List.mem_range.mpr (by (first | lia | omega)), by (first | lia | omega)⟩
end Hse

set_option Elab.async false
set_option linter.all false
/-! Halls: comers 0 .. n-1 with wishes, houses with rows. Fair places; the best ones for all; what is alike in all fair places. -/
namespace Hse
/-- the houses of l that are ahead of the place x -/
def rather (l : List Int) : Option Int → List Int
  | none => l
  | some h => l.takeWhile fun g => decide (g ≠ h)
theorem rather_sub {l : List Int} {x : Option Int} {h : Int} (hm : h ∈ rather l x) : h ∈ l := by
  cases x with
  | none => exact hm
  | some g => exact (List.takeWhile_sublist _).subset hm
theorem rather_self {l : List Int} {h : Int} : h ∉ rather l (some h) := fun hm => by
  have := List.all_eq_true.mp (List.all_takeWhile (p := fun g => decide (g ≠ h)) (l := l)) h hm
  simp at this
/-- of two houses of the list one is ahead of the other -/
theorem rather_total : ∀ {l : List Int} {g h : Int}, g ∈ l → h ∈ l → g ≠ h → g ∈ rather l (some h) ∨ h ∈ rather l (some g)
  | x :: l, g, h, hg, hh, ne => by
    show g ∈ (x :: l).takeWhile (fun y => decide (y ≠ h)) ∨ h ∈ (x :: l).takeWhile (fun y => decide (y ≠ g))
    by_cases e1 : x = h
    · subst e1
      refine .inr ?_
      rw [List.takeWhile_cons, if_pos (by simpa using Ne.symm ne)]
      exact List.mem_cons_self
    · by_cases e2 : x = g
      · subst e2
        refine .inl ?_
        rw [List.takeWhile_cons, if_pos (by simpa using ne)]
        exact List.mem_cons_self
      · have hg' : g ∈ l := (List.mem_cons.mp hg).resolve_left fun e => e2 e.symm
        have hh' : h ∈ l := (List.mem_cons.mp hh).resolve_left fun e => e1 e.symm
        rcases rather_total hg' hh' ne with z | z
        · refine .inl ?_
          rw [List.takeWhile_cons, if_pos (by simpa using e1)]
          exact List.mem_cons_of_mem _ z
        · refine .inr ?_
          rw [List.takeWhile_cons, if_pos (by simpa using e2)]
          exact List.mem_cons_of_mem _ z
theorem rather_trans : ∀ {l : List Int} {f g : Int} {x : Option Int}, f ∈ rather l (some g) → g ∈ rather l x → f ∈ rather l x
  | l, f, g, none, hf, _ => rather_sub hf
  | [], _, _, some _, hf, _ => by cases hf
  | y :: l, f, g, some h, hf, hg => by
    have hf : f ∈ (y :: l).takeWhile (fun y => decide (y ≠ g)) := hf
    have hg : g ∈ (y :: l).takeWhile (fun y => decide (y ≠ h)) := hg
    show f ∈ (y :: l).takeWhile (fun y => decide (y ≠ h))
    rw [List.takeWhile_cons] at hf hg ⊢
    by_cases e1 : y = h
    · rw [if_neg (by simpa using e1)] at hg
      cases hg
    · rw [if_pos (by simpa using e1)] at hg ⊢
      by_cases e2 : y = g
      · rw [if_neg (by simpa using e2)] at hf
        cases hf
      · rw [if_pos (by simpa using e2)] at hf
        rcases List.mem_cons.mp hf with rfl | hf
        · exact List.mem_cons_self
        · have hg' := (List.mem_cons.mp hg).resolve_left fun e => e2 e.symm
          exact List.mem_cons_of_mem _ (rather_trans (l := l) (f := f) (g := g) (x := some h) hf hg')
/-- S and one more -/
def plus (p : Int → Bool) (c : Int) : Int → Bool := fun d => p d || decide (d = c)
def uni (p r : Int → Bool) : Int → Bool := fun d => p d || r d
theorem plus_of {p : Int → Bool} {c d : Int} (h : p d = true) : plus p c d = true := by unfold plus; rw [h]; rfl
theorem plus_self {p : Int → Bool} {c : Int} : plus p c c = true := by unfold plus; simp
theorem plus_cases {p : Int → Bool} {c d : Int} (h : plus p c d = true) : p d = true ∨ d = c := by
  unfold plus at h
  rw [Bool.or_eq_true] at h
  exact h.imp id of_decide_eq_true
section
variable {R : RowD} {n : Nat} {p p' : Int → Bool} {c d : Int}
/-- what is chosen out of more, all of it being in the less, is what is chosen out of the less -/
theorem pick_same (g : Good R n) (h : ∀ c, p' c = true → p c = true) (h2 : ∀ c ∈ R.pick p, p' c = true) : c ∈ R.pick p' ↔ c ∈ R.pick p := (pick_perm g h h2).mem_iff
/-- one that is not chosen beside T stays so beside all that keeps those chosen of T -/
theorem stay_refused (g : Good R n) {T T' : Int → Bool} (h : d ∉ R.pick (plus T d)) (hT : ∀ c ∈ R.pick T, T' c = true) : d ∉ R.pick (plus T' d) := fun z => by
  have s1 : ∀ c, c ∈ R.pick (plus T d) → T c = true := fun c hc => by
    rcases plus_cases (pick_sub hc).2 with y | y
    · exact y
    · rw [y] at hc; exact absurd hc h
  have e1 : ∀ c, c ∈ R.pick T ↔ c ∈ R.pick (plus T d) := fun c => pick_same g (fun c hc => plus_of hc) s1
  have e2 : ∀ c, c ∈ R.pick (plus (fun c => decide (c ∈ R.pick T)) d) ↔ c ∈ R.pick (plus T d) := fun c => pick_same g (fun c hc => by
    rcases plus_cases hc with y | y
    · exact plus_of (pick_sub (of_decide_eq_true y)).2
    · rw [y]; exact plus_self) fun c hc => plus_of (decide_eq_true ((e1 c).mpr hc))
  refine h ((e2 d).mp (pick_mono (fun c hc => ?_) z plus_self))
  rcases plus_cases hc with y | y
  · exact plus_of (hT c (of_decide_eq_true y))
  · rw [y]; exact plus_self
end
structure Hall where
  n : Nat
  hs : List Int
  wish : Int → List Int
  row : Int → RowD
structure Hall.Ok (W : Hall) : Prop where
  hnd : W.hs.Nodup
  whs : ∀ c h, h ∈ W.wish c → h ∈ W.hs
  good : ∀ h ∈ W.hs, Good (W.row h) W.n
def Hall.comer (W : Hall) (c : Int) : Prop := 0 ≤ c ∧ c < W.n
instance (W : Hall) (c : Int) : Decidable (W.comer c) := by unfold Hall.comer; exact inferInstance
/-- whom the house holds -/
def Hall.held (W : Hall) (μ : Int → Option Int) (h : Int) : Int → Bool := fun c => decide (W.comer c ∧ μ c = some h)
theorem held_iff {W : Hall} {μ : Int → Option Int} {h c : Int} : W.held μ h c = true ↔ W.comer c ∧ μ c = some h := by
  unfold Hall.held
  exact decide_eq_true_iff
structure Hall.Fair (W : Hall) (μ : Int → Option Int) : Prop where
  own : ∀ c h, W.comer c → μ c = some h → h ∈ W.wish c
  all : ∀ h ∈ W.hs, ∀ c, W.held μ h c = true → c ∈ (W.row h).pick (W.held μ h)
  nob : ∀ c h, W.comer c → h ∈ rather (W.wish c) (μ c) → c ∉ (W.row h).pick (plus (W.held μ h) c)
/-- no fair places are better for any comer -/
def Hall.Best (W : Hall) (μ : Int → Option Int) : Prop := ∀ μ', W.Fair μ' → ∀ c h, W.comer c → μ' c = some h → h ∉ rather (W.wish c) (μ c)
section
variable {W : Hall} {μ μ' : Int → Option Int}
/-- whom a set of askers, none of whom has anything better in fair places, outdoes: not there -/
theorem union_held (ok : W.Ok) (f : W.Fair μ') {h : Int} (hh : h ∈ W.hs) {A : Int → Bool} (hA : ∀ a, A a = true → W.comer a ∧ (μ' a = some h ∨ h ∈ rather (W.wish a) (μ' a))) (c : Int) : c ∈ (W.row h).pick (uni (W.held μ' h) A) ↔ W.held μ' h c = true := by
  have g := ok.good h hh
  have s1 : ∀ c, c ∈ (W.row h).pick (uni (W.held μ' h) A) → W.held μ' h c = true := fun c hc => by
    have hu := (pick_sub hc).2
    unfold uni at hu
    rw [Bool.or_eq_true] at hu
    rcases hu with hu | hu
    · exact hu
    · obtain ⟨hcm, ha⟩ := hA c hu
      rcases ha with ha | ha
      · exact held_iff.mpr ⟨hcm, ha⟩
      · refine absurd (pick_mono (fun d hd => ?_) hc plus_self) (f.nob c h hcm ha)
        rcases plus_cases hd with y | y
        · unfold uni; rw [y]; rfl
        · rw [y]; unfold uni; rw [hu, Bool.or_true]
  have e := pick_same (c := c) g (p := uni (W.held μ' h) A) (p' := W.held μ' h) (fun d hd => by unfold uni; rw [hd]; rfl) s1
  exact ⟨fun hc => s1 c hc, fun hc => e.mp (f.all h hh c hc)⟩
theorem never (ok : W.Ok) (f : W.Fair μ') {h : Int} (hh : h ∈ W.hs) {A : Int → Bool} (hA : ∀ a, A a = true → W.comer a ∧ (μ' a = some h ∨ h ∈ rather (W.wish a) (μ' a))) {c : Int} (hc : A c = true) (hn : c ∉ (W.row h).pick A) : μ' c ≠ some h := fun e => by
  have hx := (union_held ok f hh hA c).mpr (held_iff.mpr ⟨(hA c hc).1, e⟩)
  exact hn (pick_mono (fun d hd => by unfold uni; rw [hd, Bool.or_true]) hx hc)
/-! ### counting -/
end
end Hse

set_option Elab.async false
set_option linter.all false
/-! In all fair places the same comers have places and each house holds as many; fair places that are best for all there are; no comer does better by other wishes. -/
namespace Hse
theorem sum_lt {α : Type} {a b : α → Nat} : ∀ {l : List α}, (∀ x ∈ l, a x ≤ b x) → (∃ x ∈ l, a x < b x) → (l.map a).sum < (l.map b).sum
  | [], _, ⟨_, h, _⟩ => by cases h
  | y :: l, h1, ⟨x, hx, hlt⟩ => by
    have le : ∀ m : List α, (∀ x ∈ m, a x ≤ b x) → (m.map a).sum ≤ (m.map b).sum := fun m => by
      induction m with
      | nil => intro _; exact Nat.le_refl _
      | cons z m ih =>
        intro hm
        rw [List.map_cons, List.map_cons, List.sum_cons, List.sum_cons]
        have := hm z List.mem_cons_self
        have := ih fun x hx => hm x (List.mem_cons_of_mem _ hx)
        (first | lia | omega)
    rw [List.map_cons, List.map_cons, List.sum_cons, List.sum_cons]
    have h3 := h1 y List.mem_cons_self
    rcases List.mem_cons.mp hx with rfl | hx
    · have := le l fun x hx => h1 x (List.mem_cons_of_mem _ hx)
      (first | lia | omega)
    · have := sum_lt (fun x hx => h1 x (List.mem_cons_of_mem _ hx)) ⟨x, hx, hlt⟩
      (first | lia | omega)
section
variable {W : Hall} {μ μ' : Int → Option Int}
end
/-! ### asking -/
def upNo (no : Int → Int → Bool) (c h : Int) : Int → Int → Bool := fun d g => no d g || (decide (d = c) && decide (g = h))
namespace Hall
variable (W : Hall)
/-- the first house of the wishes that has not refused -/
def ask (no : Int → Int → Bool) (c : Int) : Option Int := (W.wish c).find? fun h => !no c h
structure Asked (no : Int → Int → Bool) : Prop where
  nev : ∀ c h, W.comer c → no c h = true → ∀ μ', W.Fair μ' → μ' c ≠ some h
  out : ∀ c h, W.comer c → no c h = true → h ∈ W.hs → c ∉ (W.row h).pick (plus (W.held (W.ask no) h) c)
end Hall
theorem ahead_no : ∀ {l : List Int} {q : Int → Bool} {g : Int}, g ∈ rather l (l.find? fun h => !q h) → q g = true
  | [], _, _, h => by cases h
  | x :: l, q, g, h => by
    cases hx : q x with
    | false =>
      have e : (x :: l).find? (fun h => !q h) = some x := by rw [List.find?_cons, hx]; rfl
      rw [e] at h
      have h : g ∈ (x :: l).takeWhile (fun y => decide (y ≠ x)) := h
      rw [List.takeWhile_cons, if_neg (by simp)] at h
      cases h
    | true =>
      have e : (x :: l).find? (fun h => !q h) = l.find? fun h => !q h := by rw [List.find?_cons, hx]; rfl
      rw [e] at h
      by_cases eg : g = x
      · rw [eg]; exact hx
      · refine ahead_no (l := l) ?_
        cases hf : l.find? fun h => !q h with
        | none =>
          rw [hf] at h
          exact (List.mem_cons.mp h).resolve_left eg
        | some y =>
          rw [hf] at h
          have h : g ∈ (x :: l).takeWhile (fun z => decide (z ≠ y)) := h
          rw [List.takeWhile_cons] at h
          by_cases exy : x = y
          · rw [if_neg (by simpa using exy)] at h
            cases h
          · rw [if_pos (by simpa using exy)] at h
            exact (List.mem_cons.mp h).resolve_left eg
section
variable {W : Hall} {no : Int → Int → Bool}
theorem ask_mem {c h : Int} (e : W.ask no c = some h) : h ∈ W.wish c ∧ no c h = false := by
  have h1 := List.mem_of_find?_eq_some e
  have h2 := List.find?_some e
  exact ⟨h1, by simpa using h2⟩
/-- where no house sends anyone away, the places asked are fair and best -/
theorem asked_end (ok : W.Ok) (J : W.Asked no) (st : ∀ h ∈ W.hs, ∀ c, W.held (W.ask no) h c = true → c ∈ (W.row h).pick (W.held (W.ask no) h)) : W.Fair (W.ask no) ∧ W.Best (W.ask no) := by
  refine ⟨⟨fun c h _ e => (ask_mem e).1, st, fun c h hc hr => J.out c h hc (ahead_no hr) (ok.whs c h (rather_sub hr))⟩, fun μ' f' c h hc e hr => J.nev c h hc (ahead_no hr) μ' f' e⟩
theorem up_ne {c h d : Int} (z : d ≠ c) : upNo no c h d = no d := by
  funext g
  unfold upNo
  rw [decide_eq_false z, Bool.false_and, Bool.or_false]
theorem ask_ne {c h d : Int} (z : d ≠ c) : W.ask (upNo no c h) d = W.ask no d := by unfold Hall.ask; rw [up_ne z]
/-- a house sends one of its askers away whom it does not choose -/
theorem asked_step (ok : W.Ok) (J : W.Asked no) {c h : Int} (hh : h ∈ W.hs) (hc : W.held (W.ask no) h c = true) (hn : c ∉ (W.row h).pick (W.held (W.ask no) h)) : W.Asked (upNo no c h) := by
  obtain ⟨hcm, hca⟩ := held_iff.mp hc
  have keepA : ∀ g d, d ∈ (W.row g).pick (W.held (W.ask no) g) → (g = h → d ≠ c) → W.held (W.ask (upNo no c h)) g d = true := fun g d hd hne => by
    obtain ⟨hdm, hda⟩ := held_iff.mp (pick_sub hd).2
    by_cases e : d = c
    · rw [e, hca] at hda
      exact absurd e (hne (Option.some.inj hda).symm)
    · exact held_iff.mpr ⟨hdm, by rw [ask_ne e]; exact hda⟩
  have keepB : ∀ g d, d ∈ (W.row g).pick (W.held (W.ask no) g) → W.held (W.ask (upNo no c h)) g d = true := fun g d hd => keepA g d hd fun eg ed => by
    rw [eg, ed] at hd
    exact hn hd
  refine ⟨fun d g hd z μ' f' e => ?_, fun d g hd z hg => ?_⟩
  · by_cases o : no d g = true
    · exact J.nev d g hd o μ' f' e
    · have z2 : d = c ∧ g = h := by
        unfold upNo at z
        rw [Bool.not_eq_true _ |>.mp o, Bool.false_or, Bool.and_eq_true] at z
        exact ⟨of_decide_eq_true z.1, of_decide_eq_true z.2⟩
      obtain ⟨rfl, rfl⟩ := z2
      refine never ok f' hh (A := W.held (W.ask no) g) (fun a ha => ?_) hc hn e
      obtain ⟨ham, haa⟩ := held_iff.mp ha
      refine ⟨ham, ?_⟩
      have hw := (ask_mem haa).1
      cases q : μ' a with
      | none => exact .inr hw
      | some y =>
        by_cases ey : y = g
        · exact .inl (by rw [ey])
        · rcases rather_total (f'.own a y ham q) hw ey with r | r
          · refine absurd q (J.nev a y ham ?_ μ' f')
            exact ahead_no (l := W.wish a) (by
              show y ∈ rather (W.wish a) (W.ask no a)
              rw [haa]; exact r)
          · exact .inr r
  · by_cases o : no d g = true
    · exact stay_refused (ok.good g hg) (J.out d g hd o hg) (keepB g)
    · have z2 : d = c ∧ g = h := by
        unfold upNo at z
        rw [Bool.not_eq_true _ |>.mp o, Bool.false_or, Bool.and_eq_true] at z
        exact ⟨of_decide_eq_true z.1, of_decide_eq_true z.2⟩
      obtain ⟨rfl, rfl⟩ := z2
      have e : plus (W.held (W.ask no) g) d = W.held (W.ask no) g := by
        funext x
        unfold plus
        by_cases ex : x = d
        · rw [ex, hc]; rfl
        · rw [decide_eq_false ex, Bool.or_false]
      exact stay_refused (ok.good g hg) (by rw [e]; exact hn) (keepB g)
/-! ### other wishes -/
/-- the hall where c wishes otherwise -/
def Hall.told (W : Hall) (c : Int) (l : List Int) : Hall := { W with wish := fun d => if d = c then l else W.wish d }
theorem told_self {c : Int} {l : List Int} : (W.told c l).wish c = l := if_pos rfl
theorem told_ne {c d : Int} {l : List Int} (h : d ≠ c) : (W.told c l).wish d = W.wish d := if_neg h
end
end Hse

set_option Elab.async false
set_option linter.all false
/-! The year: steps from fair places behind a going or with more seats. -/
namespace Hse
/-- so many more seats -/
def RowD.plusSeats (R : RowD) (m : Int) : RowD := { R with seats := R.seats + m }
theorem more_good {R : RowD} {n : Nat} {m : Int} (g : Good R n) (h : 0 ≤ m) : Good (R.plusSeats m) n := ⟨g.pl, g.kl, g.td, g.tm, g.tl, g.k0, by have := g.ks; show R.kept ≤ R.seats + m; (first | lia | omega), g.nn⟩
theorem more_pick {R : RowD} {m : Int} (hm : 0 ≤ m) {p : Int → Bool} {c : Int} (h : c ∈ R.pick p) : c ∈ (R.plusSeats m).pick p := by
  have hf : R.free p ≤ (R.plusSeats m).free p := by
    unfold RowD.free
    show (if R.opened then R.seats - ((R.keep p).length : Int) else R.seats - R.kept) ≤ (if R.opened then R.seats + m - ((R.keep p).length : Int) else R.seats + m - R.kept)
    split <;> (first | lia | omega)
  unfold RowD.pick at h ⊢
  show c ∈ R.keep p ++ (R.left p).take ((R.plusSeats m).free p).toNat
  rw [List.mem_append] at h ⊢
  rcases h with h | h
  · exact .inl h
  · refine .inr ?_
    have e : (R.left p).take (R.free p).toNat = ((R.left p).take ((R.plusSeats m).free p).toNat).take (R.free p).toNat := by
      rw [List.take_take, Nat.min_eq_left (by (first | lia | omega))]
    rw [e] at h
    exact List.mem_of_mem_take h
namespace Hall
variable (W : Hall)
/-- who would rather have the house -/
def want (μ : Int → Option Int) (h : Int) : Int → Bool := fun c => decide (W.comer c ∧ h ∈ rather (W.wish c) (μ c))
def near (μ : Int → Option Int) (h : Int) : Int → Bool := uni (W.held μ h) (W.want μ h)
/-- each house would choose all that it holds out of these and all that would rather have it -/
structure Calm (μ : Int → Option Int) : Prop where
  own : ∀ c h, W.comer c → μ c = some h → h ∈ W.wish c
  key : ∀ h ∈ W.hs, ∀ c, W.held μ h c = true → c ∈ (W.row h).pick (W.near μ h)
end Hall
theorem want_iff {W : Hall} {μ : Int → Option Int} {h c : Int} : W.want μ h c = true ↔ W.comer c ∧ h ∈ rather (W.wish c) (μ c) := by
  unfold Hall.want
  exact decide_eq_true_iff
theorem near_iff {W : Hall} {μ : Int → Option Int} {h c : Int} : W.near μ h c = true ↔ W.comer c ∧ (μ c = some h ∨ h ∈ rather (W.wish c) (μ c)) := by
  unfold Hall.near uni
  rw [Bool.or_eq_true, held_iff, want_iff]
  exact ⟨fun z => z.elim (fun y => ⟨y.1, .inl y.2⟩) fun y => ⟨y.1, .inr y.2⟩, fun ⟨a, z⟩ => z.elim (fun y => .inl ⟨a, y⟩) fun y => .inr ⟨a, y⟩⟩
/-- one comer's place is another one -/
def move (μ : Int → Option Int) (c : Int) (x : Option Int) : Int → Option Int := fun d => if d = c then x else μ d
theorem move_self {μ : Int → Option Int} {c : Int} {x : Option Int} : move μ c x c = x := if_pos rfl
theorem move_ne {μ : Int → Option Int} {c d : Int} {x : Option Int} (h : d ≠ c) : move μ c x d = μ d := if_neg h
section
variable {W : Hall} {μ : Int → Option Int}
theorem near_fair (ok : W.Ok) (f : W.Fair μ) {h : Int} (hh : h ∈ W.hs) (c : Int) : c ∈ (W.row h).pick (W.near μ h) ↔ W.held μ h c = true :=
  union_held ok f hh (fun a ha => ⟨(want_iff.mp ha).1, .inr (want_iff.mp ha).2⟩) c
theorem fair_calm (ok : W.Ok) (f : W.Fair μ) : W.Calm μ := ⟨f.own, fun h hh c hc => (near_fair ok f hh c).mpr hc⟩
theorem calm_all (ca : W.Calm μ) {h : Int} (hh : h ∈ W.hs) {c : Int} (hc : W.held μ h c = true) : c ∈ (W.row h).pick (W.held μ h) :=
  pick_mono (fun d hd => by unfold Hall.near uni; rw [hd]; rfl) (ca.key h hh c hc) hc
theorem calm_end (ca : W.Calm μ) (nob : ∀ c h, W.comer c → h ∈ rather (W.wish c) (μ c) → c ∉ (W.row h).pick (plus (W.held μ h) c)) : W.Fair μ := ⟨ca.own, fun _ hh _ hc => calm_all ca hh hc, nob⟩
/-- where a comer and a house would both rather, the house chooses one that it does not hold out of all that would rather have it -/
theorem taker (ok : W.Ok) (ca : W.Calm μ) {c h : Int} (hh : h ∈ W.hs) (hc : W.comer c) (hr : h ∈ rather (W.wish c) (μ c)) (hb : c ∈ (W.row h).pick (plus (W.held μ h) c)) : ∃ d, d ∈ (W.row h).pick (W.near μ h) ∧ W.want μ h d = true := by
  refine Classical.byContradiction fun no => ?_
  have s1 : ∀ d ∈ (W.row h).pick (W.near μ h), W.held μ h d = true := fun d hd => by
    have hn := (pick_sub hd).2
    unfold Hall.near uni at hn
    rw [Bool.or_eq_true] at hn
    exact hn.elim id fun y => absurd ⟨d, hd, y⟩ no
  have hnear : ∀ d, plus (W.held μ h) c d = true → W.near μ h d = true := fun d hd => by
    unfold Hall.near uni
    rcases plus_cases hd with y | y
    · rw [y]; rfl
    · rw [y, want_iff.mpr ⟨hc, hr⟩, Bool.or_true]
  have e := pick_same (c := c) (ok.good h hh) hnear fun d hd => plus_of (s1 d hd)
  have hx := held_iff.mp (s1 c (e.mp hb))
  rw [hx.2] at hr
  exact rather_self hr
/-- a step: it stays so -/
theorem calm_step (ok : W.Ok) (ca : W.Calm μ) {c h : Int} (hh : h ∈ W.hs) (hp : c ∈ (W.row h).pick (W.near μ h)) (hw : W.want μ h c = true) : W.Calm (move μ c (some h)) := by
  refine And.elim (fun hc hr => ?_) (want_iff.mp hw)
  have nearSub : ∀ y d, W.near (move μ c (some h)) y d = true → W.near μ y d = true := fun y d hd => by
    obtain ⟨hdm, hz⟩ := near_iff.mp hd
    refine near_iff.mpr ⟨hdm, ?_⟩
    by_cases e : d = c
    · subst e
      rw [move_self] at hz
      rcases hz with z | z
      · rw [← Option.some.inj z]; exact .inr hr
      · exact .inr (rather_trans z hr)
    · rw [move_ne e] at hz; exact hz
  refine ⟨fun d g hd e => ?_, fun g hg d hd => ?_⟩
  · by_cases q : d = c
    · subst q
      rw [move_self] at e
      rw [← Option.some.inj e]
      exact rather_sub hr
    · rw [move_ne q] at e; exact ca.own d g hd e
  · have hn : W.near (move μ c (some h)) g d = true := by unfold Hall.near uni; rw [hd]; rfl
    obtain ⟨hdm, hde⟩ := held_iff.mp hd
    refine pick_mono (nearSub g) ?_ hn
    by_cases q : d = c
    · subst q
      rw [move_self] at hde
      rw [← Option.some.inj hde]
      exact hp
    · rw [move_ne q] at hde
      exact ca.key g hg d (held_iff.mpr ⟨hdm, hde⟩)
/-- a comer goes -/
theorem calm_gone (ok : W.Ok) (ca : W.Calm μ) (c : Int) : (W.told c []).Calm (move μ c none) := by
  have nearSub : ∀ y d, (W.told c []).near (move μ c none) y d = true → W.near μ y d = true := fun y d hd => by
    obtain ⟨hdm, hz⟩ := near_iff.mp hd
    by_cases e : d = c
    · subst e
      rw [move_self, told_self] at hz
      exact hz.elim (fun z => nomatch z) fun z => nomatch z
    · rw [move_ne e, told_ne e] at hz
      exact near_iff.mpr ⟨hdm, hz⟩
  refine ⟨fun d g hd e => ?_, fun g hg d hd => ?_⟩
  · by_cases q : d = c
    · subst q; rw [move_self] at e; cases e
    · rw [move_ne q] at e; rw [told_ne q]; exact ca.own d g hd e
  · have hn : (W.told c []).near (move μ c none) g d = true := by unfold Hall.near uni; rw [hd]; rfl
    obtain ⟨hdm, hde⟩ := held_iff.mp hd
    refine pick_mono (nearSub g) ?_ hn
    by_cases q : d = c
    · subst q; rw [move_self] at hde; cases hde
    · rw [move_ne q] at hde
      exact ca.key g hg d (held_iff.mpr ⟨hdm, hde⟩)
/-- a house gets more seats -/
def Hall.grown (W : Hall) (h m : Int) : Hall := { W with row := fun g => if g = h then (W.row g).plusSeats m else W.row g }
theorem calm_grown (ca : W.Calm μ) {h m : Int} (hm : 0 ≤ m) : (W.grown h m).Calm μ := ⟨ca.own, fun g hg c hc => by
  show c ∈ (if g = h then (W.row g).plusSeats m else W.row g).pick (W.near μ g)
  split
  · exact more_pick hm (ca.key g hg c hc)
  · exact ca.key g hg c hc⟩
/-! ### the best places are one -/
/-- a row of refusals that holds more than one: each of a round's is still due when others of it have been made -/
theorem still_due {no : Int → Int → Bool} (ok : W.Ok) {c h d g : Int} (hg : g ∈ W.hs) (hne : d ≠ c) (hc : W.held (W.ask no) h c = true) (hn : c ∉ (W.row h).pick (W.held (W.ask no) h)) (hd : W.held (W.ask no) g d = true) (hdn : d ∉ (W.row g).pick (W.held (W.ask no) g)) :
    W.held (W.ask (upNo no c h)) g d = true ∧ d ∉ (W.row g).pick (W.held (W.ask (upNo no c h)) g) := by
  obtain ⟨hdm, hda⟩ := held_iff.mp hd
  have h1 : W.held (W.ask (upNo no c h)) g d = true := held_iff.mpr ⟨hdm, by rw [ask_ne hne]; exact hda⟩
  refine ⟨h1, ?_⟩
  have pe : ∀ p : Int → Bool, p d = true → plus p d = p := fun p hp => by
    funext x
    unfold plus
    by_cases ex : x = d
    · rw [ex, hp]; rfl
    · rw [decide_eq_false ex, Bool.or_false]
  rw [← pe _ h1]
  refine stay_refused (ok.good g hg) (by rw [pe _ hd]; exact hdn) fun x hx => ?_
  obtain ⟨hxm, hxa⟩ := held_iff.mp (pick_sub hx).2
  by_cases e : x = c
  · subst e
    obtain ⟨_, hca⟩ := held_iff.mp hc
    rw [hca] at hxa
    rw [← Option.some.inj hxa] at hx
    exact absurd hx hn
  · exact held_iff.mpr ⟨hxm, by rw [ask_ne e]; exact hxa⟩
end
end Hse

set_option Elab.async false
set_option linter.all false
/-! Comers called by other numbers: the last one first. -/
namespace Hse
section
variable {R : RowD} {n : Nat}
end
end Hse

set_option Elab.async false
set_option linter.all false
/-! A hall where comers and houses are called by other numbers. -/
namespace Hse
section
variable {W : Hall} {m : Nat} {μ : Int → Option Int}
end
end Hse

set_option Elab.async false
set_option linter.all false
/-! Rounds of asking, by how many houses have refused each comer. -/
namespace Hse
def bump (ρ : Int → Nat) (cs : List Int) : Int → Nat := fun c => if c ∈ cs then ρ c + 1 else ρ c
namespace Hall
variable (W : Hall)
def noR (ρ : Int → Nat) : Int → Int → Bool := fun c h => decide (h ∈ (W.wish c).take (ρ c))
/-- the house that a comer asks -/
def ta (ρ : Int → Nat) : Int → Option Int := fun c => (W.wish c)[ρ c]?
/-- whom the houses send away -/
def Due (μ : Int → Option Int) (c : Int) : Prop := ∃ h ∈ W.hs, W.held μ h c = true ∧ c ∉ (W.row h).pick (W.held μ h)
end Hall
theorem find_take : ∀ {l : List Int} {r : Nat}, l.Nodup → (l.find? fun h => !decide (h ∈ l.take r)) = l[r]?
  | [], r, _ => by simp
  | x :: l, 0, _ => by simp
  | x :: l, r + 1, nd => by
    obtain ⟨hx, nd⟩ := List.nodup_cons.mp nd
    rw [List.take_succ_cons, List.find?_cons, decide_eq_true (show x ∈ x :: l.take r from List.mem_cons_self)]
    show (l.find? fun h => !decide (h ∈ x :: l.take r)) = l[r]?
    rw [← find_take (r := r) nd]
    have : ∀ m : List Int, (∀ y ∈ m, y ∈ l) → (m.find? fun h => !decide (h ∈ x :: l.take r)) = m.find? fun h => !decide (h ∈ l.take r) := by
      intro m
      induction m with
      | nil => intro _; rfl
      | cons y m ih =>
        intro hm
        have hy : y ≠ x := fun e => hx (e ▸ hm y List.mem_cons_self)
        have e : decide (y ∈ x :: l.take r) = decide (y ∈ l.take r) := by
          rw [decide_eq_decide, List.mem_cons]
          exact ⟨fun z => z.resolve_left hy, .inr⟩
        rw [List.find?_cons, List.find?_cons, e, ih fun z hz => hm z (List.mem_cons_of_mem _ hz)]
    exact this l fun _ h => h
section
variable {W : Hall} {ρ : Int → Nat} {μ : Int → Option Int}
theorem ask_noR (wn : ∀ c, (W.wish c).Nodup) : W.ask (W.noR ρ) = W.ta ρ := by
  funext c
  exact find_take (wn c)
theorem up_noR {c h : Int} (e : W.ta ρ c = some h) : upNo (W.noR ρ) c h = W.noR (bump ρ [c]) := by
  funext d g
  unfold upNo Hall.noR bump
  by_cases z : d = c
  · subst z
    rw [if_pos (List.mem_singleton.mpr rfl), decide_eq_true (show d = d from rfl), Bool.true_and, ← Bool.decide_or, decide_eq_decide]
    have e : (W.wish d)[ρ d]? = some h := e
    rw [List.take_add_one, e, List.mem_append]
    show _ ∨ _ ↔ _ ∨ g ∈ [h]
    rw [List.mem_singleton]
  · rw [if_neg (fun y => z (List.mem_singleton.mp y)), decide_eq_false z, Bool.false_and, Bool.or_false]
theorem bump_bump {c : Int} {cs : List Int} (h : c ∉ cs) : bump (bump ρ [c]) cs = bump ρ (c :: cs) := by
  funext d
  unfold bump
  by_cases z : d = c
  · subst z
    rw [if_neg h, if_pos (List.mem_singleton.mpr rfl), if_pos List.mem_cons_self]
  · rw [if_neg (fun y => z (List.mem_singleton.mp y))]
    by_cases y : d ∈ cs
    · rw [if_pos y, if_pos (List.mem_cons_of_mem _ y)]
    · rw [if_neg y, if_neg (fun x => y ((List.mem_cons.mp x).resolve_left z))]
/-- a round -/
theorem asked_round (ok : W.Ok) (wn : ∀ c, (W.wish c).Nodup) : ∀ (cs : List Int) (ρ : Int → Nat), W.Asked (W.noR ρ) → cs.Nodup → (∀ c ∈ cs, W.Due (W.ta ρ) c) → W.Asked (W.noR (bump ρ cs))
  | [], ρ, J, _, _ => by
    have : bump ρ [] = ρ := by funext d; unfold bump; rw [if_neg (fun z => nomatch z)]
    rw [this]; exact J
  | c :: cs, ρ, J, nd, due => by
    obtain ⟨hc, nd⟩ := List.nodup_cons.mp nd
    obtain ⟨h, hh, h1, h2⟩ := due c List.mem_cons_self
    have ea := ask_noR (ρ := ρ) wn
    rw [← ea] at h1 h2
    have e1 : W.ta ρ c = some h := by rw [← ea]; exact (held_iff.mp h1).2
    have J2 := asked_step ok J hh h1 h2
    rw [up_noR e1] at J2
    rw [← bump_bump hc]
    refine asked_round ok wn cs _ J2 nd fun d hd => ?_
    obtain ⟨g, hg, g1, g2⟩ := due d (List.mem_cons_of_mem _ hd)
    rw [← ea] at g1 g2
    have := still_due ok hg (fun (z : d = c) => hc (by rw [← z]; exact hd)) h1 h2 g1 g2
    rw [up_noR e1, ask_noR wn] at this
    exact ⟨g, hg, this⟩
/-- those who stay are chosen out of those who stay -/
theorem round_stay (ok : W.Ok) {cs : List Int} (hcs : ∀ c, W.comer c → (c ∈ cs ↔ W.Due μ c)) {μ' : Int → Option Int} (hm : ∀ c, W.comer c → μ' c = if c ∈ cs then none else μ c) {h : Int} (hh : h ∈ W.hs) {c : Int} (hc : W.held μ' h c = true) : c ∈ (W.row h).pick (W.held μ' h) := by
  have key : ∀ d, W.held μ' h d = true → W.held μ h d = true ∧ d ∈ (W.row h).pick (W.held μ h) := fun d hd => by
    obtain ⟨dm, de⟩ := held_iff.mp hd
    rw [hm d dm] at de
    by_cases z : d ∈ cs
    · rw [if_pos z] at de; cases de
    · rw [if_neg z] at de
      have hd' : W.held μ h d = true := held_iff.mpr ⟨dm, de⟩
      refine ⟨hd', Classical.byContradiction fun y => z ((hcs d dm).mpr ⟨h, hh, hd', y⟩)⟩
  refine (pick_same (ok.good h hh) (fun d hd => (key d hd).1) fun d hd => ?_).mpr (key c hc).2
  obtain ⟨dm, de⟩ := held_iff.mp (pick_sub hd).2
  refine held_iff.mpr ⟨dm, ?_⟩
  rw [hm d dm, if_neg ?_]
  · exact de
  · intro z
    obtain ⟨g, hg, g1, g2⟩ := (hcs d dm).mp z
    have : g = h := by
      have := (held_iff.mp g1).2
      rw [de] at this
      exact (Option.some.inj this).symm
    rw [this] at g2
    exact g2 hd
theorem asked_none : W.Asked (W.noR fun _ => 0) := ⟨fun c h _ z => by
  unfold Hall.noR at z
  rw [List.take_zero] at z
  exact absurd (of_decide_eq_true z) (fun y => nomatch y), fun c h _ z => by
  unfold Hall.noR at z
  rw [List.take_zero] at z
  exact absurd (of_decide_eq_true z) (fun y => nomatch y)⟩
theorem fair_on {μ μ' : Int → Option Int} (e : ∀ c, W.comer c → μ c = μ' c) (f : W.Fair μ) : W.Fair μ' := by
  have hd : ∀ h, W.held μ h = W.held μ' h := fun h => by
    funext c
    unfold Hall.held
    rw [decide_eq_decide]
    exact ⟨fun ⟨a, b⟩ => ⟨a, (e c a) ▸ b⟩, fun ⟨a, b⟩ => ⟨a, (e c a).symm ▸ b⟩⟩
  refine ⟨fun c h hc z => f.own c h hc (by rw [e c hc]; exact z), fun h hh c hc => ?_, fun c h hc z => ?_⟩
  · rw [← hd] at hc ⊢; exact f.all h hh c hc
  · rw [← hd]; rw [← e c hc] at z; exact f.nob c h hc z
theorem best_on {μ μ' : Int → Option Int} (e : ∀ c, W.comer c → μ c = μ' c) (b : W.Best μ) : W.Best μ' := fun ν f c h hc z => by
  rw [← e c hc]; exact b ν f c h hc z
/-- where nobody asks, the places are fair and best -/
theorem asked_done (ok : W.Ok) (wn : ∀ c, (W.wish c).Nodup) (J : W.Asked (W.noR ρ)) (hm : ∀ c, W.comer c → μ c = W.ta ρ c) (st : ∀ h ∈ W.hs, ∀ c, W.held μ h c = true → c ∈ (W.row h).pick (W.held μ h)) : W.Fair μ ∧ W.Best μ := by
  have hd : ∀ h, W.held μ h = W.held (W.ta ρ) h := fun h => by
    funext c
    unfold Hall.held
    rw [decide_eq_decide]
    exact ⟨fun ⟨a, b⟩ => ⟨a, (hm c a) ▸ b⟩, fun ⟨a, b⟩ => ⟨a, (hm c a).symm ▸ b⟩⟩
  have := asked_end ok J (by rw [ask_noR wn]; intro h hh c hc; rw [← hd] at hc ⊢; exact st h hh c hc)
  rw [ask_noR wn] at this
  exact ⟨fair_on (fun c hc => (hm c hc).symm) this.1, best_on (fun c hc => (hm c hc).symm) this.2⟩
end
/-! ### writing at several places of a list -/
def putL {α : Type} (g : Int → α) (cs : List Int) (xs : List α) : List α := cs.foldl (fun xs c => xs.set c.toNat (g c)) xs
theorem putL_len {α : Type} {g : Int → α} : ∀ (cs : List Int) (xs : List α), (putL g cs xs).length = xs.length
  | [], _ => rfl
  | c :: cs, xs => by
    show (putL g cs (xs.set c.toNat (g c))).length = _
    rw [putL_len cs, List.length_set]
theorem putL_snoc {α : Type} {g : Int → α} (cs : List Int) (c : Int) (xs : List α) : putL g (cs ++ [c]) xs = (putL g cs xs).set c.toNat (g c) := by
  unfold putL
  rw [List.foldl_append]
  rfl
theorem putL_take {α : Type} {g : Int → α} {cs : List Int} {i : Nat} {c : Int} (h : cs[i]? = some c) (xs : List α) : putL g (cs.take (i + 1)) xs = (putL g (cs.take i) xs).set c.toNat (g c) := by
  rw [List.take_add_one, h]
  exact putL_snoc _ _ _
theorem putL_get {α : Type} {g : Int → α} {d : Int} (hd : 0 ≤ d) : ∀ (cs : List Int) (xs : List α), (∀ c ∈ cs, 0 ≤ c) → d.toNat < xs.length → (putL g cs xs)[d.toNat]? = if d ∈ cs then some (g d) else xs[d.toNat]?
  | [], xs, _, _ => by rw [if_neg (fun z => nomatch z)]; rfl
  | c :: cs, xs, h, hl => by
    show (putL g cs (xs.set c.toNat (g c)))[d.toNat]? = _
    have hc := h c List.mem_cons_self
    rw [putL_get hd cs _ (fun x hx => h x (List.mem_cons_of_mem _ hx)) (by rw [List.length_set]; exact hl)]
    by_cases z : d ∈ cs
    · rw [if_pos z, if_pos (List.mem_cons_of_mem _ z)]
    · rw [if_neg z, List.getElem?_set]
      by_cases e : d = c
      · subst e
        rw [if_pos rfl, if_pos hl, if_pos List.mem_cons_self]
      · rw [if_neg (by (first | lia | omega)), if_neg (fun y => z ((List.mem_cons.mp y).resolve_left e))]
theorem nit {L : List Int} {i : Nat} {c : Int} (nd : L.Nodup) (h : L[i]? = some c) : c ∉ L.take i := fun hc => by
  obtain ⟨j, hj, e⟩ := List.getElem_of_mem hc
  rw [List.length_take] at hj
  rw [List.getElem_take] at e
  obtain ⟨hi, e2⟩ := List.getElem?_eq_some_iff.mp h
  have := (List.getElem_inj (i := j) (j := i) nd (h₀ := by (first | lia | omega)) (h₁ := hi)).mp (e.trans e2.symm)
  (first | lia | omega)
end Hse

set_option Elab.async false
set_option linter.all false
/-! The year: steps. -/
namespace Hse
theorem rank_eqP {R : RowD} {p p' : Int → Bool} (h : ∀ c ∈ R.full, p c = p' c) : R.rank p = R.rank p' := List.filter_congr h
theorem pick_eqP {R : RowD} {p p' : Int → Bool} (h : ∀ c ∈ R.full, p c = p' c) : R.pick p = R.pick p' := by
  have e := rank_eqP h
  have ek : R.keep p = R.keep p' := by unfold RowD.keep; rw [e]
  have el : R.left p = R.left p' := by unfold RowD.left; rw [e, ek]
  have ef : R.free p = R.free p' := by unfold RowD.free; rw [ek]
  unfold RowD.pick
  rw [ek, el, ef]
theorem rather_lt {l : List Int} {x : Option Int} {h : Int} (nd : l.Nodup) (hm : h ∈ rather l x) : (rather l (some h)).length < (rather l x).length := by
  have nd1 : (h :: rather l (some h)).Nodup := List.nodup_cons.mpr ⟨rather_self, nd.sublist (List.takeWhile_sublist _)⟩
  have := len_sub nd1 (m := rather l x) fun y hy => by
    rcases List.mem_cons.mp hy with rfl | z
    · exact hm
    · exact rather_trans z hm
  rw [List.length_cons] at this
  (first | lia | omega)
section
variable {W W' : Hall} {μ μ' : Int → Option Int}
/-- calm looks only at comers and houses -/
theorem calm_congr (hn : W.n = W'.n) (hh : W.hs = W'.hs) (hr : ∀ h ∈ W.hs, W.row h = W'.row h) (hw : ∀ c, W.comer c → W.wish c = W'.wish c) (hm : ∀ c, W.comer c → μ c = μ' c) (f : W.Calm μ) : W'.Calm μ' := by
  have hc : ∀ c, W'.comer c ↔ W.comer c := fun c => by unfold Hall.comer; rw [hn]
  have hd : ∀ h, W'.held μ' h = W.held μ h := fun h => by
    funext c
    unfold Hall.held
    rw [decide_eq_decide, hc]
    exact ⟨fun ⟨a, b⟩ => ⟨a, (hm c a).trans b⟩, fun ⟨a, b⟩ => ⟨a, (hm c a).symm.trans b⟩⟩
  have hwt : ∀ h, W'.want μ' h = W.want μ h := fun h => by
    funext c
    unfold Hall.want
    rw [decide_eq_decide, hc]
    exact ⟨fun ⟨a, b⟩ => ⟨a, by rw [hw c a, hm c a]; exact b⟩, fun ⟨a, b⟩ => ⟨a, by rw [← hw c a, ← hm c a]; exact b⟩⟩
  have hne : ∀ h, W'.near μ' h = W.near μ h := fun h => by unfold Hall.near; rw [hd, hwt]
  refine ⟨fun c h k e => ?_, fun h k c e => ?_⟩
  · have k' := (hc c).mp k
    rw [← hw c k']
    exact f.own c h k' ((hm c k').trans e)
  · rw [← hh] at k
    rw [hd] at e
    rw [hne, ← hr h k]
    exact f.key h k c e
end
end Hse

set_option Elab.async false
set_option linter.all false
set_option maxRecDepth 100000
set_option maxHeartbeats 4000000
namespace K13
open PySem L2 Hse
def top (i : Nat) : Stmt := PySem.Challenge.pw_choosehall_k13_whole_more_seats.main.body.getD i (.Pass ⟨0, 0, 0, 0⟩)
abbrev sHeld : Stmt := top 1
abbrev sRather : Stmt := top 2
abbrev sBoth : Stmt := top 3
abbrev sWaiting : Stmt := top 5
abbrev sGone : Stmt := top 7
abbrev sMore : Stmt := top 8
abbrev sWithE : Stmt := top 9
abbrev sMoved : Stmt := top 10
abbrev sNext : Stmt := top 11
abbrev sGranted : Stmt := top 13
abbrev sAskers : Stmt := top 14
abbrev sRefused : Stmt := top 15
abbrev cHouse : Stmt := top 17
abbrev sCell : Stmt := top 19
abbrev sWhole : Stmt := top 20
abbrev sRow : Stmt := top 21
abbrev sWishes : Stmt := top 22
abbrev sPoints : Stmt := top 23
abbrev sKind : Stmt := top 24
abbrev sWorld : Stmt := top 25
abbrev sHouses : Stmt := top 26
abbrev sLRank : Stmt := top 27
abbrev sLChosen : Stmt := top 28
abbrev sLHeld : Stmt := top 29
abbrev sLRather : Stmt := top 30
abbrev sLPairs : Stmt := top 31
abbrev sLFair : Stmt := top 32
abbrev sAlike : Stmt := top 33
abbrev sWalked : Stmt := top 34
abbrev sYear : Stmt := top 35
abbrev sNoneW : Stmt := top 36
abbrev sLaw : Stmt := top 37
abbrev sInit : Stmt := inClass cHouse 0
abbrev sRanked : Stmt := inClass cHouse 1
abbrev sKey : Stmt := inClass cHouse 2
abbrev sChosen : Stmt := inClass cHouse 3
abbrev sLeft : Stmt := inClass cHouse 4
def encO : Option Int → V
  | none => .non
  | some i => .int i
def fsOf (R : RowD) (lp lk lr : Addr) : List (Str × V) := [("seats", .int R.seats), ("kept", .int R.kept), ("kind", .int R.kind), ("opened", .bl R.opened), ("points", .ref lp), ("kinds", .ref lk), ("row", .ref lr)]
def HouseAt (C : Addr) (H : Hp) (a : Addr) (R : RowD) : Prop := ∃ dx lp lk lr, H a = some (.ins C dx (fsOf R lp lk lr)) ∧ H lp = some (.lst (R.points.map encO)) ∧ H lk = some (.lst (R.kinds.map V.int)) ∧ H lr = some (.lst (R.tie.map V.int))
theorem HouseAt.up {C : Addr} {H H' : Hp} {a : Addr} {R : RowD} (s : Same H H') (h : HouseAt C H a R) : HouseAt C H' a R := by
  obtain ⟨dx, lp, lk, lr, e1, e2, e3, e4⟩ := h
  exact ⟨dx, lp, lk, lr, s _ _ e1, s _ _ e2, s _ _ e3, s _ _ e4⟩
theorem house_elim {Q : Prop} {C : Addr} {H : Hp} {a : Addr} {R : RowD} (h : HouseAt C H a R) (k : ∀ dx lp lk lr, H a = some (.ins C dx (fsOf R lp lk lr)) → Q) : Q := by
  obtain ⟨dx, lp, lk, lr, e, _⟩ := h
  exact k dx lp lk lr e
/-- what the text has of the class -/
structure Cl (K : PySem.W.Frag) (mg : Str → Option Value) (C : Addr) : Prop where
  b : Blt mg
  cls : Cls K C
  at_ : mg "House" = some (.ref C)
  n1 : NoAttr K C "seats"
  n2 : NoAttr K C "kept"
  n3 : NoAttr K C "kind"
  n4 : NoAttr K C "opened"
  n5 : NoAttr K C "points"
  n6 : NoAttr K C "kinds"
  n7 : NoAttr K C "row"
/-- a method that keeps a promise -/
def MCal (P : Program) (w : World) (K : PySem.W.Frag) (mg : Str → Option Value) (base : Heap) (k : Nat) (f : Addr) (ps : List Str) (sp : Sp) : Prop := ∃ fd : FuncData, Binds K fd ps [] ∧ FnOk P w K mg base CX0 k f fd ps sp
structure MAt (K : PySem.W.Frag) (x qual : Str) (st : Stmt) (ps : List Str) (f : Addr) (fd : FuncData) : Prop where
  fn : Fun K x qual st f fd
  bd : Binds K fd ps []
theorem MAt.cal {P : Program} {w : World} {K : PySem.W.Frag} {mg : Str → Option Value} {base : Heap} {k : Nat} {x qual : Str} {st : Stmt} {ps : List Str} {f : Addr} {fd : FuncData} {sp : Sp} (F : MAt K x qual st ps f fd) (h : FnOk P w K mg base CX0 k f fd ps sp) : MCal P w K mg base k f ps sp := ⟨fd, F.bd, h⟩
def spKey (C : Addr) : Sp := fun vs H Q _ => ∃ (a : Addr) (c : Int) (R : RowD) (n : Nat), vs = [.ref a, .int c] ∧ HouseAt C H a R ∧ Good R n ∧ 0 ≤ c ∧ c < n ∧ R.able c = true ∧ ∀ t H', Same H H' → H' t = some (.tup [.int (R.ka c), .int (R.kb c)]) → Q (.ref t) H'
def spLeft (C : Addr) : Sp := fun vs H Q _ => ∃ (a : Addr) (k : Int) (R : RowD), vs = [.ref a, .int k] ∧ HouseAt C H a R ∧ Q (.int (if R.opened then R.seats - k else R.seats - R.kept)) H
def spRanked (K : PySem.W.Frag) (C : Addr) : Sp := fun vs H Q _ => ∃ (a l : Addr) (cs : List Int) (R : RowD) (n : Nat), vs = [.ref a, .ref l] ∧ HouseAt C H a R ∧ Good R n ∧ SqL K H l (cs.map V.int) ∧ cs.Nodup ∧ (∀ c ∈ cs, 0 ≤ c ∧ c < n) ∧
  ∀ m H', Same H H' → H m = none → H' m = some (.lst ((R.rank (inL cs)).map V.int)) → Q (.ref m) H'
def spChosen (K : PySem.W.Frag) (C : Addr) : Sp := fun vs H Q _ => ∃ (a l : Addr) (cs : List Int) (R : RowD) (n : Nat), vs = [.ref a, .ref l] ∧ HouseAt C H a R ∧ Good R n ∧ SqL K H l (cs.map V.int) ∧ cs.Nodup ∧ (∀ c ∈ cs, 0 ≤ c ∧ c < n) ∧
  ∀ (m : Addr) (ms : List Int) (H' : Hp), Same H H' → H m = none → ms.Perm (R.pick (inL cs)) → ms.Pairwise (· ≤ ·) → H' m = some (.lst (ms.map V.int)) → Q (.ref m) H'
theorem fits {n : Nat} (h : n ≤ 1000000) : n ≤ sizeLine := Nat.le_trans h (by rw [sizeLine_eq]; decide)
theorem at_map {α : Type} {f : α → V} {l : List α} {c : Int} {d : α} (h0 : 0 ≤ c) (h1 : c < l.length) : atI (l.map f) c = some (f (l.getD c.toNat d)) := by
  have hk : c.toNat < l.length := by (first | lia | omega)
  have hh : (l.map f)[c.toNat]? = some (f (l.getD c.toNat d)) := by
    rw [List.getElem?_map, List.getElem?_eq_getElem hk, List.getD_eq_getElem?_getD, List.getElem?_eq_getElem hk]
    rfl
  have q2 := atI_nat hh
  rwa [show ((c.toNat : Nat) : Int) = c by (first | lia | omega)] at q2
section
variable {P : Program} {w : World} {K : PySem.W.Frag} {mg : Str → Option Value} {base : Heap} {C : Addr}
theorem scKey : FnScope ["self", "comer"] ["self", "comer"] (defScope sKey) := ⟨rfl, rfl, rfl, by decide +kernel, rfl, by decide +kernel, by decide +kernel⟩
theorem ok_key {f : Addr} {fd : FuncData} (F : MAt K "rank_key" "House.rank_key" sKey ["self", "comer"] f fd) (T : Cl K mg C) : MCal P w K mg base 1 f ["self", "comer"] (spKey C) := by
  refine F.cal (F.fn.ok scKey (fun vs H Q E h => ?_) (fun cdv A outer s H vs Q E hr h => ?_))
  · obtain ⟨a, c, R, n, rfl, _⟩ := h
    rfl
  · obtain ⟨a, c, R, n, rfl, hA, g, h0, h1, hab, q⟩ := h
    refine ⟨_, pss_one (ps_ret (pe_tup (pa_cons (pe_un un_neg (pe_ix ix_list (pe_fld (pv 0) rfl) (pv 1) (fun _ _ => rfl))) (pa_cons (pe_bm PySem.F.plainAttrs_list PySem.F.slot_list_index PySem.F.type_list_index mt_index (pe_fld (pv 0) rfl) (pa_cons (pv 1) pa_nil)) pa_nil)))), ?_⟩
    obtain ⟨dx, lp, lk, lr, e1, e2, e3, e4⟩ := hA
    obtain ⟨i, hi⟩ : ∃ i, R.pt c = some i := Option.isSome_iff_exists.mp hab
    have hat : atI (R.points.map encO) c = some (encO (R.pt c)) := at_map h0 (by rw [g.pl]; exact h1)
    rw [hi] at hat
    have hct : c ∈ R.tie := (g.tm c).mpr ⟨h0, h1⟩
    refine ⟨_, rfl, a, C, dx, _, _, rfl, e1, T.cls, T.n5, rfl, _, rfl, lp, _, c, _, rfl, rfl, SqL.of e2, hat, i, rfl, ?_⟩
    refine ⟨_, rfl, a, C, dx, _, _, rfl, e1, T.cls, T.n7, rfl, .inl ⟨rfl, _, SqL.of e4⟩, _, rfl, ?_⟩
    refine ⟨lr, R.tie, c, rfl, rfl, SqL.of e4, hct, by rw [g.tl]; have := g.nn; (first | lia | omega), fits (Nat.le_of_ble_eq_true rfl), fun p hp => ?_⟩
    refine q p _ (Same.new hp) ?_
    rw [upd_same]
    unfold RowD.ka RowD.kb
    rw [hi]
    rfl
theorem scLeft : FnScope ["self", "keepers"] ["self", "keepers"] (defScope sLeft) := ⟨rfl, rfl, rfl, by decide +kernel, rfl, by decide +kernel, by decide +kernel⟩
theorem ok_left {f : Addr} {fd : FuncData} (F : MAt K "seats_left" "House.seats_left" sLeft ["self", "keepers"] f fd) (T : Cl K mg C) : MCal P w K mg base 1 f ["self", "keepers"] (spLeft C) := by
  refine F.cal (F.fn.ok scLeft (fun vs H Q E h => ?_) (fun cdv A outer s H vs Q E hr h => ?_))
  · obtain ⟨a, k, R, rfl, _⟩ := h
    rfl
  · obtain ⟨a, k, R, rfl, ⟨dx, lp, lk, lr, e1, e2, e3, e4⟩, q⟩ := h
    refine ⟨_, pss_cons (ps_if (pt_truth (pe_fld (pv 0) rfl) (fun _ => rfl)) (pss_one (ps_ret (pe_op op_sub (pe_fld (pv 0) rfl) (pv 1)))) pss_nil) (pss_one (ps_ret (pe_op op_sub (pe_fld (pv 0) rfl) (pe_fld (pv 0) rfl)))), ?_⟩
    refine ⟨_, rfl, a, C, dx, _, _, rfl, e1, T.cls, T.n4, rfl, R.opened, rfl, ?_⟩
    refine ite2 (fun hb => ?_) (fun hb => ?_)
    · rw [if_pos hb] at q
      exact ⟨_, rfl, a, C, dx, _, _, rfl, e1, T.cls, T.n1, rfl, _, rfl, _, _, rfl, rfl, q⟩
    · rw [if_neg hb] at q
      exact ⟨_, rfl, a, C, dx, _, _, rfl, e1, T.cls, T.n1, rfl, _, rfl, a, C, dx, _, _, rfl, e1, T.cls, T.n2, rfl, _, _, rfl, rfl, q⟩
theorem getI {ns : List Int} {i : Nat} {x : V} (h : (ns.map V.int)[i]? = some x) : ∃ n, ns[i]? = some n ∧ x = .int n := by
  rw [List.getElem?_map] at h
  cases e : ns[i]? with
  | none => rw [e] at h; cases h
  | some n => rw [e] at h; exact ⟨n, rfl, (Option.some.inj h).symm⟩
theorem encO_some {o : Option Int} : (!decide (encO o = .non)) = o.isSome := by
  cases o with
  | none => rfl
  | some i => rfl
theorem take_filter {p : Int → Bool} {cs : List Int} {i : Nat} {c : Int} (h : cs[i]? = some c) : (cs.take (i + 1)).filter p = (cs.take i).filter p ++ (if p c then [c] else []) := by
  rw [List.take_add_one, h, List.filter_append]
  congr 1
  show List.filter p [c] = _
  rw [List.filter_cons]
  rfl
theorem len_filter {p : Int → Bool} (cs : List Int) (i : Nat) : ((cs.take i).filter p).length ≤ i := by
  have := List.length_filter_le p (cs.take i)
  rw [List.length_take] at this
  (first | lia | omega)
theorem cut_take (l : List Int) {q : Int} (h : 0 ≤ q) : cutV (l.map V.int) none (some q) = (l.take q.toNat).map V.int := by
  obtain ⟨k, rfl⟩ := Int.eq_ofNat_of_zero_le h
  unfold cutV
  rw [HT.sIx_none, HT.sIx_nat, List.length_map, Nat.sub_zero, List.drop_zero, ← List.map_take]
  congr 1
  rw [Int.toNat_natCast, List.take_eq_take_iff]
  (first | lia | omega)
theorem scRanked : FnScope ["self", "comers", "taken"] ["self", "comers"] (defScope sRanked) := ⟨rfl, rfl, rfl, by decide +kernel, rfl, by decide +kernel, by decide +kernel⟩
theorem good_len {cs : List Int} {n : Nat} (nd : cs.Nodup) (h : ∀ c ∈ cs, 0 ≤ c ∧ c < n) : cs.length ≤ n := by
  have e : ((List.range n).map fun i : Nat => (i : Int)).length = n := by simp
  rw [← e]
  exact len_sub nd fun c hc' => by
    obtain ⟨h0, h1⟩ := h c hc'
    exact List.mem_map.mpr ⟨c.toNat, List.mem_range.mpr (by (first | lia | omega)), by (first | lia | omega)⟩
theorem ok_ranked {f fk : Addr} {fd : FuncData} (F : MAt K "ranked" "House.ranked" sRanked ["self", "comers"] f fd) (T : Cl K mg C) (bm : BMeth K C "rank_key" fk) (CK : MCal P w K mg base 1 fk ["self", "comer"] (spKey C)) :
    MCal P w K mg base 4 f ["self", "comers"] (spRanked K C) := by
  refine F.cal (F.fn.ok (k := 3) scRanked (fun vs H Q E h => ?_) (fun cdv A outer s H vs Q E hr h => ?_))
  · obtain ⟨a, l, cs, R, n, rfl, _⟩ := h
    rfl
  · obtain ⟨a, l, cs, R, n, rfl, hA, g, hS, nd, hc, q⟩ := h
    obtain ⟨fdk, bd, FK⟩ := CK
    refine ⟨_, pss_cons (ps_setC (i := 2) (M := ["self", "comers", "taken"]) scRanked.nd rfl (Or.inl rfl) ⟨rfl, rfl, rfl, rfl, rfl, rfl, by decide +kernel⟩ rfl (pi_list (pv 1))
        (fun B => pts_one (pt_cmpR op_notN (pe_ix ix_list (pe_fld (pv 1) rfl) (pv 0) (fun _ _ => rfl)) pe_non (nomark _))) (fun B => pv 0))
      (pss_one (ps_ret (pe_sortK T.b FK hr bd (pv 2) (pe_bound (pv 0) T.cls bm rfl)))), ?_⟩
    have hln := good_len nd hc
    have hnn := g.nn
    obtain ⟨dx, lp, lk, lr, e1, e2, e3, e4⟩ := id hA
    refine ⟨_, rfl, l, rfl, ⟨_, hS⟩, comp_list (xs := cs.map V.int) (fun i ys H2 => H2 = H ∧ ys = ((cs.take i).filter R.able).map V.int) (fits (by rw [List.length_map]; (first | lia | omega))) ⟨rfl, rfl⟩ ?_ ?_ ?_⟩
    · rintro i ys H2 ⟨rfl, rfl⟩
      exact ⟨hS, by rw [List.length_map]; exact len_filter cs i⟩
    · rintro i x ys H2 B N1 N2 hx ⟨rfl, rfl⟩ n1 n2
      refine ex_elim2 (getI hx) fun c hci exx => ?_
      subst exx
      refine And.elim (fun h0 h1 => ?_) (hc c (List.mem_of_getElem? hci))
      have hat : atI (R.points.map encO) c = some (encO (R.pt c)) := at_map h0 (by rw [g.pl]; exact h1)
      refine ⟨_, rfl, a, C, dx, _, _, rfl, e1, T.cls, T.n5, rfl, _, rfl, lp, _, c, _, rfl, rfl, SqL.of e2, hat, rfl, _, rfl, ?_⟩
      rw [encO_some]
      refine ite2 (fun hb => ?_) (fun hb => ?_)
      · refine ⟨_, rfl, n1 _ _ ⟨rfl, ?_⟩⟩
        rw [take_filter hci, if_pos (show R.able c = true from hb), List.map_append]
        rfl
      · refine n2 _ ⟨rfl, ?_⟩
        rw [take_filter hci, if_neg (show ¬ R.able c = true from hb), List.append_nil]
    · rintro ys H2 ⟨rfl, rfl⟩ acc hacc
      rw [List.length_map, List.take_length]
      have s1 : Same H2 (upd H2 acc (.lst ((cs.filter R.able).map V.int))) := Same.new hacc
      refine ⟨_, rfl, _, rfl, a, dx, _, rfl, s1 _ _ e1, rfl, fun b hb => ?_⟩
      have s2 := s1.up (o := .met fk a) hb
      have hct : ∀ c ∈ cs.filter R.able, c ∈ R.tie := fun c h => (g.tm c).mpr (hc c (List.mem_filter.mp h).1)
      refine ⟨acc, b, a, cs.filter R.able, R.ka, R.kb, rfl, rfl, upd_same, SqL.of (by rw [upd_ne (ne_of_none upd_same hb)]; exact upd_same), by have := List.length_filter_le R.able cs; (first | lia | omega), fun c h => kb_rng g (hct c h), ?_, fun c h H3 s3 => ?_, fun ms m H3 hp hs s3 hm => ?_⟩
      · refine List.nodup_iff_pairwise_ne.mpr ?_
        rw [List.pairwise_map]
        exact (List.nodup_iff_pairwise_ne.mp (nd.filter _)).imp_of_mem fun ha hb z e => z (key_inj g (hct _ ha) (hct _ hb) e)
      · obtain ⟨h1, h2⟩ := List.mem_filter.mp h
        refine ⟨a, c, R, n, rfl, hA.up (s2.trans s3), g, (hc c h1).1, (hc c h1).2, h2, fun t H' s4 ht => ⟨s4, t, rfl, ht⟩⟩
      · refine q m _ ((s2.trans s3).up hm) ((s2.trans s3).free hm) ?_
        rw [upd_same, rank_eq g hp hs (fun c h => (g.tm c).mpr (hc c h)) nd]
theorem inV_int {c : Int} {ks : List Int} : inV (.int c) (ks.map V.int) = decide (c ∈ ks) := by
  unfold inV
  rw [List.any_map]
  have : ((fun y => eqV y (V.int c)) ∘ V.int) = fun k : Int => k == c := rfl
  rw [this]
  by_cases h : c ∈ ks
  · rw [decide_eq_true h, List.any_eq_true]
    exact ⟨c, h, by simp⟩
  · rw [decide_eq_false h, List.any_eq_false]
    intro x hx e
    have : x = c := by simpa using e
    exact h (this ▸ hx)
theorem flat_ints (ks : List Int) : (ks.map V.int).all flatV = true := by
  rw [List.all_map, List.all_eq_true]
  intro _ _
  rfl
theorem scChosen : FnScope ["self", "comers", "ranking", "keepers", "left"] ["self", "comers"] (defScope sChosen) := ⟨rfl, rfl, rfl, by decide +kernel, rfl, by decide +kernel, by decide +kernel⟩
theorem ok_chosen {f fr fs : Addr} {fd : FuncData} (F : MAt K "chosen" "House.chosen" sChosen ["self", "comers"] f fd) (T : Cl K mg C) (mR : Meth K C "ranked" fr) (CR : MCal P w K mg base 4 fr ["self", "comers"] (spRanked K C))
    (mS : Meth K C "seats_left" fs) (CS : MCal P w K mg base 1 fs ["self", "keepers"] (spLeft C)) : MCal P w K mg base 5 f ["self", "comers"] (spChosen K C) := by
  refine F.cal (F.fn.ok (k := 4) scChosen (fun vs H Q E h => ?_) (fun cdv A outer s H vs Q E hr h => ?_))
  · obtain ⟨a, l, cs, R, n, rfl, _⟩ := h
    rfl
  · obtain ⟨a, l, cs, R, n, rfl, hA, g, hS, nd, hc, q⟩ := h
    obtain ⟨fdr, bdr, FR⟩ := CR
    obtain ⟨fds, bds, FS⟩ := CS
    refine ⟨_, pss_cons (ps_set (i := 2) scChosen.nd rfl (Or.inl rfl) (pe_meth (pv 0) T.cls mR FR hr bdr .nil pass0 (pa_cons (pv 1) pa_nil)))
      (pss_cons (ps_set (i := 3) scChosen.nd rfl (Or.inr rfl) (pe_slice sl_list (pe_comp (M := ["self", "comers", "ranking", "keepers", "left"]) ⟨rfl, rfl, rfl, rfl, rfl, rfl, by decide +kernel⟩ rfl (pi_list (pv 2))
        (fun B => pts_one (pt_cmpR op_eq (pe_ix ix_list (pe_fld (pv 1) rfl) (pv 0) (fun _ _ => rfl)) (pe_fld (pv 1) rfl) (nomark _))) (fun B => pv 0)) po_none (po_some (pe_fld (pv 0) rfl))))
      (pss_cons (ps_setC (i := 4) (M := ["self", "comers", "ranking", "keepers", "left"]) scChosen.nd rfl (Or.inl rfl) ⟨rfl, rfl, rfl, rfl, rfl, rfl, by decide +kernel⟩ rfl (pi_list (pv 2))
        (fun B => pts_one (pt_cmpR op_notIn_seq (pv 0) (pv 4) (by with_unfolding_all rfl))) (fun B => pv 0))
      (pss_one (ps_ret (pe_callB call_sorted rfl T.b.sorted PyProof.Rows.boot_sorted (pa_cons (pe_op op_cat (pv 3) (pe_slice sl_list (pv 4) po_none (po_some (pe_meth (pv 0) T.cls mS FS (hr.mono (by decide)) bds .nil pass0 (pa_cons (pe_len T.b call_len_seq (pv 3)) pa_nil))))) pa_nil)))))), ?_⟩
    obtain ⟨dx, lp, lk, lr, e1, e2, e3, e4⟩ := id hA
    have hnn := g.nn
    refine ⟨_, rfl, a, dx, _, rfl, e1, rfl, _, rfl, a, l, cs, R, n, rfl, hA, g, hS, nd, hc, fun m H1 s1 hm em => ?_⟩
    have rk : ∀ c ∈ R.rank (inL cs), 0 ≤ c ∧ c < n := fun c h => (g.tm c).mp (mem_full.mp (List.mem_filter.mp h).1).1
    have rl : (R.rank (inL cs)).length ≤ n := good_len (rank_nodup g) rk
    refine ⟨_, rfl, m, rfl, ⟨_, SqL.of em⟩, comp_list (xs := (R.rank (inL cs)).map V.int) (fun i ys H2 => H2 = H1 ∧ ys = (((R.rank (inL cs)).take i).filter R.ofKind).map V.int) (fits (by rw [List.length_map]; (first | lia | omega))) ⟨rfl, rfl⟩ ?_ ?_ ?_⟩
    · rintro i ys H2 ⟨rfl, rfl⟩
      exact ⟨SqL.of em, by rw [List.length_map]; exact len_filter _ i⟩
    · rintro i x ys H2 B N1 N2 hx ⟨rfl, rfl⟩ n1 n2
      refine ex_elim2 (getI hx) fun c hci exx => ?_
      subst exx
      refine And.elim (fun h0 h1 => ?_) (rk c (List.mem_of_getElem? hci))
      have hat : atI (R.kinds.map V.int) c = some (.int (R.kd c)) := at_map h0 (by rw [g.kl]; exact h1)
      refine ⟨_, rfl, a, C, dx, _, _, rfl, s1 _ _ e1, T.cls, T.n6, rfl, _, rfl, lk, _, c, _, rfl, rfl, SqL.of (s1 _ _ e3), hat, _, rfl, a, C, dx, _, _, rfl, s1 _ _ e1, T.cls, T.n3, rfl, rfl, _, rfl, ?_⟩
      rw [dec_int]
      have ek : (R.kd c == R.kind) = R.ofKind c := by unfold RowD.ofKind; by_cases h : R.kd c = R.kind <;> simp [h]
      rw [ek]
      refine ite2 (fun hb => ?_) (fun hb => ?_)
      · refine ⟨_, rfl, n1 _ _ ⟨rfl, ?_⟩⟩
        rw [take_filter hci, if_pos hb, List.map_append]
        rfl
      · refine n2 _ ⟨rfl, ?_⟩
        rw [take_filter hci, if_neg hb, List.append_nil]
    · rintro ys H2 ⟨rfl, rfl⟩ acc hacc
      rw [List.length_map, List.take_length]
      have s2 := s1.up (o := .lst (((R.rank (inL cs)).filter R.ofKind).map V.int)) hacc
      refine ⟨_, rfl, a, C, dx, _, _, rfl, s2 _ _ e1, T.cls, T.n2, rfl, _, rfl, acc, _, rfl, SqL.of upd_same, fun pk hpk => ?_⟩
      rw [cut_take _ g.k0]
      have s3 := s2.up (o := .lst ((R.keep (inL cs)).map V.int)) hpk
      have ek : (upd (upd H2 acc (.lst (((R.rank (inL cs)).filter R.ofKind).map V.int))) pk (.lst ((R.keep (inL cs)).map V.int))) pk = some (.lst ((R.keep (inL cs)).map V.int)) := upd_same
      have em2 : (upd (upd H2 acc (.lst (((R.rank (inL cs)).filter R.ofKind).map V.int))) pk (.lst ((R.keep (inL cs)).map V.int))) m = some (.lst ((R.rank (inL cs)).map V.int)) := ((Same.new hacc).up hpk) _ _ em
      rw [show ((R.rank (inL cs)).filter R.ofKind).take R.kept.toNat = R.keep (inL cs) from rfl]
      generalize upd (upd H2 acc (.lst (((R.rank (inL cs)).filter R.ofKind).map V.int))) pk (.lst ((R.keep (inL cs)).map V.int)) = H3 at s3 ek em2 ⊢
      have kl : ((R.keep (inL cs)).length : Int) ≤ n := by
        have := good_len (n := n) (((rank_nodup (p := inL cs) g).filter R.ofKind).sublist (List.take_sublist _ _)) (fun c h => rk c (keep_sub h))
        exact Int.ofNat_le.mpr this
      refine ⟨_, rfl, m, rfl, ⟨_, SqL.of em2⟩, comp_list (xs := (R.rank (inL cs)).map V.int) (fun i ys H4 => H4 = H3 ∧ ys = (((R.rank (inL cs)).take i).filter fun c => !decide (c ∈ R.keep (inL cs))).map V.int) (fits (by rw [List.length_map]; (first | lia | omega))) ⟨rfl, rfl⟩ ?_ ?_ ?_⟩
      · rintro i ys H4 ⟨rfl, rfl⟩
        exact ⟨SqL.of em2, by rw [List.length_map]; exact len_filter _ i⟩
      · rintro i x ys H4 B N1 N2 hx ⟨rfl, rfl⟩ n1 n2
        refine ex_elim2 (getI hx) fun c hci exx => ?_
        subst exx
        refine ⟨_, rfl, _, rfl, pk, _, rfl, .inl (SqL.of ek), rfl, flat_ints _, _, rfl, ?_⟩
        rw [if_pos rfl, inV_int]
        refine ite2 (fun hb => ?_) (fun hb => ?_)
        · refine ⟨_, rfl, n1 _ _ ⟨rfl, ?_⟩⟩
          rw [take_filter hci, if_pos hb, List.map_append]
          rfl
        · refine n2 _ ⟨rfl, ?_⟩
          rw [take_filter hci, if_neg hb, List.append_nil]
      · rintro ys H4 ⟨rfl, rfl⟩ acc2 hacc2
        rw [List.length_map, List.take_length]
        rw [show ((R.rank (inL cs)).filter fun c => !decide (c ∈ R.keep (inL cs))) = R.left (inL cs) from rfl]
        have s4 := s3.up (o := .lst ((R.left (inL cs)).map V.int)) hacc2
        have s34 : Same H4 (upd H4 acc2 (.lst ((R.left (inL cs)).map V.int))) := Same.new hacc2
        refine ⟨_, rfl, _, rfl, _, rfl, a, dx, _, rfl, s4 _ _ e1, rfl, _, rfl, pk, _, rfl, .inl (SqL.of (s34 _ _ ek)), a, _, R, rfl, hA.up s4, _, rfl, ?_⟩
        rw [List.length_map]
        rw [show (if R.opened then R.seats - ((R.keep (inL cs)).length : Int) else R.seats - R.kept) = R.free (inL cs) from rfl]
        refine ⟨acc2, _, rfl, SqL.of upd_same, fun p2 hp2 => ?_⟩
        rw [cut_take _ (free_nonneg g)]
        have s5 := s4.up (o := .lst (((R.left (inL cs)).take (R.free (inL cs)).toNat).map V.int)) hp2
        have pl : (R.pick (inL cs)).length ≤ n := good_len (pick_nodup g) fun c h => (g.tm c).mp (mem_full.mp (pick_sub h).1).1
        have epl : (R.keep (inL cs)).length + ((R.left (inL cs)).take (R.free (inL cs)).toNat).length ≤ n := by
          unfold RowD.pick at pl
          rw [List.length_append] at pl
          exact pl
        refine ⟨pk, p2, _, _, rfl, rfl, (s34.up hp2) _ _ ek, upd_same, by rw [List.length_map, List.length_map]; exact fits (by (first | lia | omega)), fun p3 hp3 => ?_⟩
        rw [← List.map_append]
        have s6 := s5.up (o := .lst ((R.keep (inL cs) ++ (R.left (inL cs)).take (R.free (inL cs)).toNat).map V.int)) hp3
        refine ⟨p3, R.pick (inL cs), rfl, SqL.of upd_same, by (first | lia | omega), fun ms m' hp hs hm' => ?_⟩
        exact q m' ms _ (s6.up hm') (s6.free hm') hp hs upd_same
/-- all but x is as it was -/
def SX (x : Addr) (H H' : Hp) : Prop := ∀ b o, b ≠ x → H b = some o → H' b = some o
theorem SX.wr {x : Addr} {H H' : Hp} {o : HO} (s : SX x H H') : SX x H (upd H' x o) := fun b u hb e => by rw [upd_ne hb]; exact s b u hb e
theorem SX.n {x l : Addr} {H H' : Hp} {o : HO} (s : SX x H H') (h : H' l = none) : SX x H (upd H' l o) := fun b u hb e => by rw [upd_ne (ne_of_none (s b u hb e) h)]; exact s b u hb e
theorem SX.seq {x dx C : Addr} {fs : List (Str × V)} {H H' : Hp} {l : Addr} {xs : List V} (s : SX x H H') (hx : H x = some (.ins C dx fs)) (h : SqL K H l xs) : SqL K H' l xs := by
  rcases h with (h | ⟨o, h⟩) | h
  · exact .inl (.inl (s _ _ (fun z => by rw [z, hx] at h; cases h) h))
  · exact .inl (.inr ⟨o, s _ _ (fun z => by rw [z, hx] at h; cases h) h⟩)
  · exact .inr h
theorem SX.free {x l : Addr} {H H' : Hp} (s : SX x H H') (h : H' l = none) (hl : l ≠ x) : H l = none := by
  cases e : H l with
  | none => rfl
  | some o => rw [s l o hl e] at h; cases h
/-- a house whose lists are new -/
def HouseNew (C : Addr) (H0 H : Hp) (a : Addr) (R : RowD) : Prop := ∃ dx lp lk lr, H a = some (.ins C dx (fsOf R lp lk lr)) ∧ H lp = some (.lst (R.points.map encO)) ∧ H lk = some (.lst (R.kinds.map V.int)) ∧ H lr = some (.lst (R.tie.map V.int)) ∧ H0 lp = none ∧ H0 lk = none ∧ H0 lr = none
theorem HouseNew.at_ {H0 H : Hp} {a : Addr} {R : RowD} (h : HouseNew C H0 H a R) : HouseAt C H a R := by
  obtain ⟨dx, lp, lk, lr, e1, e2, e3, e4, _⟩ := h
  exact ⟨dx, lp, lk, lr, e1, e2, e3, e4⟩
def spInit (K : PySem.W.Frag) (C : Addr) : Sp := fun vs H Q _ => ∃ (x dx lp lk lr : Addr) (R : RowD), vs = [.ref x, .int R.seats, .int R.kept, .int R.kind, .bl R.opened, .ref lp, .ref lk, .ref lr] ∧ H x = some (.ins C dx []) ∧
  SqL K H lp (R.points.map encO) ∧ SqL K H lk (R.kinds.map V.int) ∧ SqL K H lr (R.tie.map V.int) ∧ R.kept ≤ R.seats ∧ ∀ H', SX x H H' → HouseNew C H H' x R → Q .non H'
theorem scInit : FnScope ["self", "seats", "kept", "kind", "opened", "points", "kinds", "row"] ["self", "seats", "kept", "kind", "opened", "points", "kinds", "row"] (defScope sInit) := ⟨rfl, rfl, rfl, by decide +kernel, rfl, by decide +kernel, by decide +kernel⟩
theorem ok_init {f : Addr} {fd : FuncData} (F : MAt K "__init__" "House.__init__" sInit ["self", "seats", "kept", "kind", "opened", "points", "kinds", "row"] f fd) (T : Cl K mg C) :
    MCal P w K mg base 1 f ["self", "seats", "kept", "kind", "opened", "points", "kinds", "row"] (spInit K C) := by
  refine F.cal (F.fn.ok scInit (fun vs H Q E h => ?_) (fun cdv A outer s H vs Q E hr h => ?_))
  · obtain ⟨x, dx, lp, lk, lr, R, rfl, _⟩ := h
    rfl
  · obtain ⟨x, dx, lp, lk, lr, R, rfl, hx, h1, h2, h3, hks, q⟩ := h
    refine ⟨_, pss_cons (ps_fld (pv 0) (pv 1) rfl) (pss_cons (ps_fld (pv 0) (pe_callB (call_min2 rfl) rfl T.b.min PyProof.Rows.Boot.«min» (pa_cons (pv 2) (pa_cons (pv 1) pa_nil))) rfl)
      (pss_cons (ps_fld (pv 0) (pv 3) rfl) (pss_cons (ps_fld (pv 0) (pv 4) rfl)
      (pss_cons (ps_fld (pv 0) (pe_callTy call_list_of rfl T.b.list PyProof.Rows.Boot.«list» (pa_cons (pv 5) pa_nil)) rfl)
      (pss_cons (ps_fld (pv 0) (pe_callTy call_list_of rfl T.b.list PyProof.Rows.Boot.«list» (pa_cons (pv 6) pa_nil)) rfl)
      (pss_one (ps_fld (pv 0) (pe_callTy call_list_of rfl T.b.list PyProof.Rows.Boot.«list» (pa_cons (pv 7) pa_nil)) rfl))))))), ?_⟩
    have s0 : SX x H H := fun _ _ _ e => e
    refine ⟨_, rfl, _, rfl, x, C, dx, _, rfl, hx, T.cls, T.n1, by decide, ?_⟩
    refine ⟨_, rfl, _, rfl, _, _, rfl, ?_⟩
    rw [if_neg (show ¬ R.seats < R.kept by (first | lia | omega))]
    refine ⟨_, rfl, x, C, dx, _, rfl, upd_same, T.cls, T.n2, (by decide : (1 : Nat) < 1000), ?_⟩
    rw [upd_upd]
    refine ⟨_, rfl, _, rfl, x, C, dx, _, rfl, upd_same, T.cls, T.n3, (by decide : (2 : Nat) < 1000), ?_⟩
    rw [upd_upd]
    refine ⟨_, rfl, _, rfl, x, C, dx, _, rfl, upd_same, T.cls, T.n4, (by decide : (3 : Nat) < 1000), ?_⟩
    rw [upd_upd]
    have e4 : upd H x (.ins C dx (putF "opened" (.bl R.opened) (putF "kind" (.int R.kind) (putF "kept" (.int R.kept) (putF "seats" (.int R.seats) []))))) x = some (.ins C dx [("seats", .int R.seats), ("kept", .int R.kept), ("kind", .int R.kind), ("opened", .bl R.opened)]) := upd_same
    have s4 : SX x H (upd H x (.ins C dx (putF "opened" (.bl R.opened) (putF "kind" (.int R.kind) (putF "kept" (.int R.kept) (putF "seats" (.int R.seats) [])))))) := s0.wr
    generalize upd H x (.ins C dx (putF "opened" (.bl R.opened) (putF "kind" (.int R.kind) (putF "kept" (.int R.kept) (putF "seats" (.int R.seats) []))))) = H4 at e4 s4 ⊢
    refine ⟨_, rfl, lp, _, rfl, .inl (s4.seq hx h1), fun l5 n5 => ?_⟩
    have x5 : x ≠ l5 := ne_of_none e4 n5
    refine ⟨_, rfl, x, C, dx, _, rfl, (upd_ne x5).trans e4, T.cls, T.n5, (by decide : (4 : Nat) < 1000), ?_⟩
    have s5 := (s4.n (o := .lst (R.points.map encO)) n5).wr (o := .ins C dx (putF "points" (.ref l5) [("seats", .int R.seats), ("kept", .int R.kept), ("kind", .int R.kind), ("opened", .bl R.opened)]))
    have e5 : upd (upd H4 l5 (.lst (R.points.map encO))) x (.ins C dx (putF "points" (.ref l5) [("seats", .int R.seats), ("kept", .int R.kept), ("kind", .int R.kind), ("opened", .bl R.opened)])) x = some (.ins C dx [("seats", .int R.seats), ("kept", .int R.kept), ("kind", .int R.kind), ("opened", .bl R.opened), ("points", .ref l5)]) := upd_same
    have a5 : upd (upd H4 l5 (.lst (R.points.map encO))) x (.ins C dx (putF "points" (.ref l5) [("seats", .int R.seats), ("kept", .int R.kept), ("kind", .int R.kind), ("opened", .bl R.opened)])) l5 = some (.lst (R.points.map encO)) := by rw [upd_ne x5.symm, upd_same]
    generalize upd (upd H4 l5 (.lst (R.points.map encO))) x (.ins C dx (putF "points" (.ref l5) [("seats", .int R.seats), ("kept", .int R.kept), ("kind", .int R.kind), ("opened", .bl R.opened)])) = H5 at s5 e5 a5 ⊢
    refine ⟨_, rfl, lk, _, rfl, .inl (s5.seq hx h2), fun l6 n6 => ?_⟩
    have x6 : x ≠ l6 := ne_of_none e5 n6
    have y6 : l5 ≠ l6 := ne_of_none a5 n6
    refine ⟨_, rfl, x, C, dx, _, rfl, (upd_ne x6).trans e5, T.cls, T.n6, (by decide : (5 : Nat) < 1000), ?_⟩
    have s6 := (s5.n (o := .lst (R.kinds.map V.int)) n6).wr (o := .ins C dx (putF "kinds" (.ref l6) [("seats", .int R.seats), ("kept", .int R.kept), ("kind", .int R.kind), ("opened", .bl R.opened), ("points", .ref l5)]))
    have e6 : upd (upd H5 l6 (.lst (R.kinds.map V.int))) x (.ins C dx (putF "kinds" (.ref l6) [("seats", .int R.seats), ("kept", .int R.kept), ("kind", .int R.kind), ("opened", .bl R.opened), ("points", .ref l5)])) x = some (.ins C dx [("seats", .int R.seats), ("kept", .int R.kept), ("kind", .int R.kind), ("opened", .bl R.opened), ("points", .ref l5), ("kinds", .ref l6)]) := upd_same
    have a6 : upd (upd H5 l6 (.lst (R.kinds.map V.int))) x (.ins C dx (putF "kinds" (.ref l6) [("seats", .int R.seats), ("kept", .int R.kept), ("kind", .int R.kind), ("opened", .bl R.opened), ("points", .ref l5)])) l5 = some (.lst (R.points.map encO)) := by rw [upd_ne x5.symm, upd_ne y6]; exact a5
    have b6 : upd (upd H5 l6 (.lst (R.kinds.map V.int))) x (.ins C dx (putF "kinds" (.ref l6) [("seats", .int R.seats), ("kept", .int R.kept), ("kind", .int R.kind), ("opened", .bl R.opened), ("points", .ref l5)])) l6 = some (.lst (R.kinds.map V.int)) := by rw [upd_ne x6.symm, upd_same]
    generalize upd (upd H5 l6 (.lst (R.kinds.map V.int))) x (.ins C dx (putF "kinds" (.ref l6) [("seats", .int R.seats), ("kept", .int R.kept), ("kind", .int R.kind), ("opened", .bl R.opened), ("points", .ref l5)])) = H6 at s6 e6 a6 b6 ⊢
    refine ⟨_, rfl, lr, _, rfl, .inl (s6.seq hx h3), fun l7 n7 => ?_⟩
    have x7 : x ≠ l7 := ne_of_none e6 n7
    have y7 : l5 ≠ l7 := ne_of_none a6 n7
    have z7 : l6 ≠ l7 := ne_of_none b6 n7
    refine ⟨_, rfl, x, C, dx, _, rfl, (upd_ne x7).trans e6, T.cls, T.n7, (by decide : (6 : Nat) < 1000), ?_⟩
    refine q _ (s6.n n7).wr ⟨dx, l5, l6, l7, upd_same, ?_, ?_, ?_, s4.free n5 x5.symm, s5.free n6 x6.symm, s6.free n7 x7.symm⟩
    · rw [upd_ne x5.symm, upd_ne y7]; exact a6
    · rw [upd_ne x6.symm, upd_ne z7]; exact b6
    · rw [upd_ne x7.symm, upd_same]
end
end K13

set_option Elab.async false
set_option linter.all false
set_option maxRecDepth 100000
set_option maxHeartbeats 4000000
namespace K13
open PySem L2 Hse
def cellAt (ns : List Int) (k : Int) : Int := ns.getD k.toNat 0
/-- a row of wishes: houses below h, each once -/
def WGood (h : Nat) (ws : List Int) : Prop := ws.Nodup ∧ ∀ x ∈ ws, 0 ≤ x ∧ x < h
def WishAt (H : Hp) (a : Addr) (ws : List Int) : Prop := H a = some (.lst (ws.map V.int))
def RowAt (H : Hp) (p : Addr) (R : RowD) : Prop := ∃ lp lk lt, H p = some (.tup [.int R.seats, .int R.kept, .int R.kind, .bl R.opened, .ref lp, .ref lk, .ref lt]) ∧ H lp = some (.lst (R.points.map encO)) ∧ H lk = some (.lst (R.kinds.map V.int)) ∧ H lt = some (.lst (R.tie.map V.int))
theorem RowAt.up {H H' : Hp} {p : Addr} {R : RowD} (s : Same H H') (h : RowAt H p R) : RowAt H' p R := by
  obtain ⟨lp, lk, lr, e1, e2, e3, e4⟩ := h
  exact ⟨lp, lk, lr, s _ _ e1, s _ _ e2, s _ _ e3, s _ _ e4⟩
theorem WishAt.up {H H' : Hp} {a : Addr} {ws : List Int} (s : Same H H') (h : WishAt H a ws) : WishAt H' a ws := s _ _ h
theorem Paired.snoc {α β : Type} {F : α → β → Prop} {a : α} {b : β} (z : F a b) : ∀ {l : List α} {m : List β}, Paired F l m → Paired F (l ++ [a]) (m ++ [b])
  | [], [], _ => .cons z .nil
  | _ :: _, _ :: _, .cons r1 r2 => .cons r1 (Paired.snoc z r2)
theorem Paired.at_ {α β : Type} {F : α → β → Prop} : ∀ {l : List α} {m : List β} {i : Nat} {b : β}, Paired F l m → m[i]? = some b → ∃ a, l[i]? = some a ∧ F a b
  | [], [], _, _, _, e => by simp at e
  | _ :: _, _ :: _, 0, _, .cons r _, e => by cases e; exact ⟨_, rfl, r⟩
  | _ :: l, _ :: m, i + 1, b, .cons _ r, e => by
    refine ex_elim2 (Paired.at_ (i := i) (b := b) r (by simpa using e)) fun u e1 e2 => ?_
    exact ⟨u, by simpa using e1, e2⟩
/-- without the one at a -/
def del (H : Hp) (a : Addr) : Hp := fun b => if b = a then none else H b
theorem del_ne {H : Hp} {a b : Addr} (h : b ≠ a) : del H a b = H b := by unfold del; rw [if_neg h]
theorem del_mono {H H' : Hp} {a : Addr} (s : Same H H') : Same (del H a) (del H' a) := fun b o e => by
  by_cases h : b = a
  · unfold del at e; rw [if_pos h] at e; cases e
  · rw [del_ne h] at e ⊢; exact s b o e
theorem del_upd {H : Hp} {a : Addr} {o : HO} : del (upd H a o) a = del H a := by
  funext b
  unfold del upd
  split
  · rfl
  · rfl
theorem del_le {H : Hp} {a : Addr} : Same (del H a) H := fun b o e => by
  by_cases h : b = a
  · unfold del at e; rw [if_pos h] at e; cases e
  · rw [del_ne h] at e; exact e
theorem del_of {H H' : Hp} {a : Addr} (s : Same H H') (h : H a = none) : Same H (del H' a) := fun b o e => by
  rw [del_ne (ne_of_none e h)]; exact s b o e
/-! ### promises -/
def spCell (K : PySem.W.Frag) : Sp := fun vs H Q _ => ∃ (a : Addr) (ns : List Int) (k : Int), vs = [.ref a, .int k] ∧ SqL K H a (ns.map V.int) ∧ 0 ≤ k ∧ Q (.int (cellAt ns k)) H
def spWhole : Sp := fun vs H Q _ => ∃ i : Int, vs = [.int i] ∧ Q (.bl true) H
def spRow : Sp := fun vs H Q _ => ∃ c m : Int, vs = [.int c, .int m] ∧ 0 ≤ m ∧ m ≤ 24 ∧ ∀ (ns : List Int) (l : Addr) (H' : Hp), ns.Nodup → (∀ x : Int, x ∈ ns ↔ 0 ≤ x ∧ x < m) → (ns.length : Int) = m → Same H H' → H l = none → H' l = some (.lst (ns.map V.int)) → Q (.ref l) H'
def spWishes : Sp := fun vs H Q _ => ∃ (c : Int) (h : Nat), vs = [.int c, .int h] ∧ 1 ≤ h ∧ h ≤ 24 ∧ ∀ (ws : List Int) (l : Addr) (H' : Hp), WGood h ws → Same H H' → H l = none → WishAt H' l ws → Q (.ref l) H'
def spPoints : Sp := fun vs H Q _ => ∃ c k : Int, vs = [.int c, .int k] ∧ 0 ≤ k ∧ k ≤ 24 ∧ ∀ o : Option Int, Q (encO o) H
def spKind : Sp := fun vs H Q _ => ∃ c : Int, vs = [.int c] ∧ ∀ k : Int, Q (.int k) H
def spWorld (K : PySem.W.Frag) : Sp := fun vs H Q _ => ∃ (a : Addr) (ns : List Int) (top : Int), vs = [.ref a, .int top] ∧ SqL K H a (ns.map V.int) ∧ 1 ≤ top ∧ top ≤ 24 ∧
  ∀ (p w r : Addr) (was ras : List Addr) (wss : List (List Int)) (Rs : List RowD) (n h : Nat) (H' : Hp), Same H H' → H' p = some (.tup [.ref w, .ref r]) → H' w = some (.lst (was.map V.ref)) → H' r = some (.lst (ras.map V.ref)) →
    Paired (WishAt H') was wss → Paired (RowAt H') ras Rs → wss.length = n → Rs.length = h → 1 ≤ n → (n : Int) ≤ top → 1 ≤ h → h ≤ 3 → (∀ R ∈ Rs, Good R n ∧ R.seats ≤ 3) → (∀ ws ∈ wss, WGood h ws) → Q (.ref p) H'
def WoInv (a : Addr) (tp : Int) (n hh : Nat) (lw lk lr : Addr) (Hk : Hp) (i : Nat) (σ : St) (H2 : Hp) : Prop := ∃ (ras : List Addr) (Rs : List RowD) (v7 v8 v9 v10 v11 v12 v13 : Option V), σ = [some (.ref a), some (.int tp), some (.int n), some (.int hh), some (.ref lw), some (.ref lk), some (.ref lr), v7, v8, v9, v10, v11, v12, v13] ∧ H2 lr = some (.lst (ras.map V.ref)) ∧ ras.length = i ∧ Rs.length = i ∧ Paired (RowAt (del H2 lr)) ras Rs ∧ (∀ R ∈ Rs, Good R n ∧ R.seats ≤ 3) ∧ Same Hk (del H2 lr)
theorem WoInv.elim {Q : Prop} {a : Addr} {tp : Int} {n hh : Nat} {lw lk lr : Addr} {Hk : Hp} {i : Nat} {σ : St} {H2 : Hp} (x : WoInv a tp n hh lw lk lr Hk i σ H2) (k : ∀ (ras : List Addr) (Rs : List RowD) (v7 v8 v9 v10 v11 v12 v13 : Option V), σ = [some (.ref a), some (.int tp), some (.int n), some (.int hh), some (.ref lw), some (.ref lk), some (.ref lr), v7, v8, v9, v10, v11, v12, v13] → H2 lr = some (.lst (ras.map V.ref)) → ras.length = i → Rs.length = i → Paired (RowAt (del H2 lr)) ras Rs → (∀ R ∈ Rs, Good R n ∧ R.seats ≤ 3) → Same Hk (del H2 lr) → Q) : Q := by
  obtain ⟨ras, Rs, v7, v8, v9, v10, v11, v12, v13, e, elr, era, eRs, pr, gr, sd⟩ := x
  exact k ras Rs v7 v8 v9 v10 v11 v12 v13 e elr era eRs pr gr sd
section
variable {P : Program} {w : World} {K : PySem.W.Frag} {mg : Str → Option Value} {base : Heap} {C : Addr}
theorem scCell : FnScope ["script", "k"] ["script", "k"] (defScope sCell) := ⟨rfl, rfl, rfl, by decide +kernel, rfl, by decide +kernel, by decide +kernel⟩
theorem ok_cell {f : Addr} {fd : FuncData} (F : FnAt K mg "_law_cell_at" sCell ["script", "k"] f fd) (T : Cl K mg C) : Callee P w K mg base 1 "_law_cell_at" ["script", "k"] (spCell K) := by
  refine F.callee (F.fn.ok scCell (fun vs H Q E h => ?_) (fun cdv A outer s H vs Q E hr h => ?_))
  · obtain ⟨a, ns, k, rfl, _⟩ := h
    rfl
  · obtain ⟨a, ns, k, rfl, hS, h0, q⟩ := h
    refine ⟨_, pss_cons (ps_if (pt_cmpR op_lt (pv 1) (pe_len T.b call_len_seq (pv 0)) (nomark _)) (pss_one (ps_ret (pe_ix ix_list (pv 0) (pv 1) (fun _ _ => rfl)))) pss_nil) (pss_one (ps_ret pe_int)), ?_⟩
    refine ⟨_, rfl, _, rfl, a, _, rfl, .inl hS, _, _, rfl, rfl, _, rfl, ?_⟩
    rw [List.length_map]
    refine ite2 (fun hlt => ?_) (fun hge => ?_)
    · have hlt : k < ns.length := of_decide_eq_true hlt
      exact ⟨_, rfl, _, rfl, a, _, k, .int (cellAt ns k), rfl, rfl, hS, at_map h0 hlt, q⟩
    · have hge : ¬ k < ns.length := fun z => hge (decide_eq_true z)
      have e : cellAt ns k = 0 := by
        unfold cellAt
        rw [List.getD_eq_getElem?_getD, List.getElem?_eq_none (by (first | lia | omega))]
        rfl
      rw [e] at q
      exact q
theorem scWhole : FnScope ["found"] ["found"] (defScope sWhole) := ⟨rfl, rfl, rfl, by decide +kernel, rfl, by decide +kernel, by decide +kernel⟩
theorem ok_whole {f : Addr} {fd : FuncData} (F : FnAt K mg "_law_whole" sWhole ["found"] f fd) (T : Cl K mg C) : Callee P w K mg base 1 "_law_whole" ["found"] spWhole := by
  refine F.callee (F.fn.ok scWhole (fun vs H Q E h => ?_) (fun cdv A outer s H vs Q E hr h => ?_))
  · obtain ⟨i, rfl, _⟩ := h
    rfl
  · obtain ⟨i, rfl, q⟩ := h
    refine ⟨_, pss_one (ps_ret (pe_and (pe_isi T.b (pv 0) T.b.int PyProof.Rows.Boot.«int») (pe_one (pe_not (pe_isi T.b (pv 0) T.b.bool PyProof.Rows.Boot.«bool»))))), ?_⟩
    refine ⟨_, rfl, _, _, _, _, rfl, .int i, by rfl, true, rfl, ?_⟩
    refine iteT ?_
    refine ⟨_, rfl, _, _, _, _, rfl, .int i, (by rfl : PySem.W.kitOne _ _ _ = some false), false, rfl, ?_⟩
    exact q
theorem scRow : FnScope ["cell", "many", "left", "row", "k"] ["cell", "many"] (defScope sRow) := ⟨rfl, rfl, rfl, by decide +kernel, rfl, by decide +kernel, by decide +kernel⟩
theorem pick_one {l : List Int} {c : Int} (h : 0 < l.length) : ∃ (k : Nat) (y : Int), (c % (l.length : Int)).toNat = k ∧ k < l.length ∧ l[k]? = some y ∧ 0 ≤ c % (l.length : Int) ∧ c % (l.length : Int) < l.length := by
  have h1 := Int.emod_nonneg c (b := (l.length : Int)) (by (first | lia | omega))
  have h2 := Int.emod_lt_of_pos c (b := (l.length : Int)) (by (first | lia | omega))
  have hk : (c % (l.length : Int)).toNat < l.length := by (first | lia | omega)
  exact ⟨_, l[(c % (l.length : Int)).toNat], rfl, hk, by simp [hk], h1, h2⟩
theorem perm_pick {ns l : List Int} {k : Nat} {y : Int} (hy : l[k]? = some y) : (ns ++ [y] ++ l.eraseIdx k).Perm (ns ++ l) := by
  rw [List.append_assoc]
  exact List.Perm.append_left ns (erase_perm hy)
theorem range_nodup (n : Nat) : ((List.range n).map fun i : Nat => (i : Int)).Nodup := by
  refine List.nodup_iff_pairwise_ne.mpr ?_
  rw [List.pairwise_map]
  exact (List.nodup_iff_pairwise_ne.mp List.nodup_range).imp fun h e => h (Int.ofNat.inj e)
theorem range_mem (n : Nat) (x : Int) : x ∈ ((List.range n).map fun i : Nat => (i : Int)) ↔ 0 ≤ x ∧ x < n := by
  rw [List.mem_map]
  constructor
  · rintro ⟨i, hi, rfl⟩
    have := List.mem_range.mp hi
    (first | lia | omega)
  · rintro ⟨h0, h1⟩
    exact ⟨x.toNat, List.mem_range.mpr (by (first | lia | omega)), by (first | lia | omega)⟩
theorem ok_row {f : Addr} {fd : FuncData} (F : FnAt K mg "_law_row_by" sRow ["cell", "many"] f fd) (T : Cl K mg C) : Callee P w K mg base 1 "_law_row_by" ["cell", "many"] spRow := by
  refine F.callee (F.fn.ok scRow (fun vs H Q E h => ?_) (fun cdv A outer s H vs Q E hr h => ?_))
  · obtain ⟨c, m, rfl, _⟩ := h
    rfl
  · obtain ⟨c, m, rfl, h0, h8, q⟩ := h
    refine ⟨_, pss_cons (ps_set (i := 2) scRow.nd rfl (Or.inl rfl) (pe_callTy (call_list_rng rfl) rfl T.b.list PyProof.Rows.Boot.«list» (pa_cons (pe_callTy call_range1 rfl T.b.range PyProof.Rows.Boot.«range» (pa_cons (pv 1) pa_nil)) pa_nil)))
      (pss_cons (ps_set (i := 3) scRow.nd rfl (Or.inl rfl) (pe_lst pa_nil))
      (pss_cons (ps_for PassesOwn.never rfl (pi_range1 rfl T.b.range (pa_cons (pv 1) pa_nil)) (pg_name (i := 4) scRow.nd rfl (Or.inl rfl))
        (pss_cons (ps_expr (pe_bm PySem.F.plainAttrs_list PySem.F.slot_list_append PySem.F.type_list_append mt_append (pv 3) (pa_cons (pe_bm PySem.F.plainAttrs_list PySem.F.slot_list_pop PySem.F.type_list_pop mt_popAt (pv 2) (pa_cons (pe_op op_mod (pv 0) (pe_len T.b call_len_seq (pv 2))) pa_nil)) pa_nil)))
        (pss_one (ps_set (i := 0) scRow.nd rfl (Or.inl rfl) (pe_op op_fdiv (pv 0) (pe_callB (call_max2 rfl) rfl T.b.max PyProof.Rows.Boot.«max» (pa_cons pe_int (pa_cons (pe_op op_sub (pv 1) (pv 4)) pa_nil))))))))
      (pss_one (ps_ret (pv 3))))), ?_⟩
    refine ⟨_, rfl, m, rfl, fun r hr0 => ⟨r, m, rfl, upd_same, by (first | lia | omega), by (first | lia | omega), fun ll hll => ?_⟩⟩
    refine ⟨Nat.zero_le _, fun lr hlr => ?_⟩
    have s1 : Same H (upd H r (.rng 0 m)) := Same.new hr0
    have s2 := s1.up (o := .lst ((List.range (Int.toNat m)).map fun i : Nat => V.int i)) hll
    have s3 := s2.up (o := .lst []) hlr
    have nll : H ll = none := s1.free hll
    have nlr : H lr = none := s2.free hlr
    have ne : ll ≠ lr := fun z => by rw [← z, upd_same] at hlr; cases hlr
    refine ⟨_, rfl, m, rfl, by (first | lia | omega), by (first | lia | omega), for_range (n := m.toNat) (fun i σ H2 => ∃ (left ns : List Int) (c' : Int) (vk : Option V), σ = [some (.int c'), some (.int m), some (.ref ll), some (.ref lr), vk] ∧ H2 ll = some (.lst (left.map V.int)) ∧
        H2 lr = some (.lst (ns.map V.int)) ∧ left.length + i = m.toNat ∧ ns.length = i ∧ (ns ++ left).Nodup ∧ (∀ x : Int, x ∈ ns ++ left ↔ 0 ≤ x ∧ x < m) ∧ Same H H2) ?_ ?_ ?_⟩
    · refine ⟨(List.range m.toNat).map fun i : Nat => (i : Int), [], c, none, rfl, by rw [upd_ne ne, upd_same, List.map_map]; rfl, upd_same, by simp, rfl, range_nodup _, fun x => ?_, s3⟩
      rw [List.nil_append, range_mem]
      (first | lia | omega)
    · rintro i σ H2 hi ⟨left, ns, c', vk, rfl, e1, e2, hl, hn, nd, rg, sm⟩
      obtain ⟨k, y, hk, hkl, hy, g0, g1⟩ := pick_one (l := left) (c := c') (by (first | lia | omega))
      refine ⟨_, rfl, .inl ⟨rfl, _, SqL.of e2⟩, _, rfl, .inl ⟨rfl, _, SqL.of e1⟩, _, rfl, _, rfl, ll, _, rfl, .inl (SqL.of e1), _, _, rfl, rfl, ?_, ?_⟩
      · rw [List.length_map]; (first | lia | omega)
      rw [List.length_map]
      refine ⟨ll, left.map V.int, _, k, .int y, rfl, rfl, e1, by (first | lia | omega), by (first | lia | omega), ?_, by rw [List.getElem?_map, hy]; rfl, ?_⟩
      · rw [List.length_map, ← hk]
        exact PySem.seqIndex_of g0 g1
      refine ⟨lr, ns.map V.int, .int y, rfl, rfl, by rw [upd_ne ne.symm]; exact e2, by rw [List.length_map]; exact Nat.lt_of_lt_of_le (show ns.length < 1000000 by (first | lia | omega)) (fits (Nat.le_refl _)), ?_⟩
      refine ⟨_, rfl, _, rfl, _, rfl, _, _, rfl, rfl, _, _, rfl, ?_⟩
      refine ⟨_, _, rfl, rfl, ?_, ?_⟩
      · unfold CDiv
        split <;> (first | lia | omega)
      have hp := perm_pick (ns := ns) hy
      refine ⟨left.eraseIdx k, ns ++ [y], _, _, rfl, ?_, ?_, ?_, ?_, hp.nodup_iff.mpr nd, fun x => (hp.mem_iff).trans (rg x), (sm.wr nll).wr nlr⟩
      · rw [upd_ne ne, upd_same, erase_map]
      · rw [upd_same, List.map_append]; rfl
      · rw [List.length_eraseIdx, if_pos hkl]; (first | lia | omega)
      · rw [List.length_append, List.length_singleton, hn]
    · rintro σ H2 ⟨left, ns, c', vk, rfl, e1, e2, hl, hn, nd, rg, sm⟩
      refine ⟨_, rfl, ?_⟩
      have hl0 : left = [] := List.length_eq_zero_iff.mp (by (first | lia | omega))
      subst hl0
      rw [List.append_nil] at nd rg
      exact q ns lr H2 nd rg (by (first | lia | omega)) sm nlr e2
theorem cut_sub (l : List Int) (q : Int) : ∃ ws : List Int, cutV (l.map V.int) none (some q) = ws.map V.int ∧ ws.Sublist l := by
  unfold cutV
  rw [HT.sIx_none, List.drop_zero, ← List.map_take]
  exact ⟨_, rfl, List.take_sublist _ _⟩
theorem scWishes : FnScope ["cell", "houses", "row"] ["cell", "houses"] (defScope sWishes) := ⟨rfl, rfl, rfl, by decide +kernel, rfl, by decide +kernel, by decide +kernel⟩
theorem ok_wishes {f : Addr} {fd : FuncData} (F : FnAt K mg "_law_wishes_by" sWishes ["cell", "houses"] f fd) (T : Cl K mg C) (Cr : Callee P w K mg base 1 "_law_row_by" ["cell", "many"] spRow) : Callee P w K mg base 2 "_law_wishes_by" ["cell", "houses"] spWishes := by
  refine F.callee (F.fn.ok scWishes (fun vs H Q E h => ?_) (fun cdv A outer s H vs Q E hr h => ?_))
  · obtain ⟨c, h, rfl, _⟩ := h
    rfl
  · obtain ⟨c, h, rfl, h1, h2, q⟩ := h
    refine ⟨_, pss_cons (ps_set (i := 2) scWishes.nd rfl (Or.inl rfl) (pe_fn Cr hr (pa_cons (pe_op op_fdiv (pv 0) pe_int) (pa_cons (pv 1) pa_nil))))
      (pss_one (ps_ret (pe_slice sl_list (pv 2) po_none (po_some (pe_op op_sub (pv 1) (pe_op op_mul (pe_op op_mod (pv 0) (pe_op op_add (pv 1) pe_int)) (pe_callTy call_int1 rfl T.b.int PyProof.Rows.Boot.«int» (pa_cons (pe_cmpR op_eq (pe_op op_mod (pe_op op_fdiv (pv 0) pe_int) pe_int) pe_int (nomark _)) pa_nil)))))))), ?_⟩
    refine ⟨_, rfl, _, _, rfl, rfl, (by unfold CDiv; decide), _, rfl, c / 16, h, rfl, by (first | lia | omega), by (first | lia | omega), fun ns l H1 nd mem hl s1 n1 e1 => ?_⟩
    refine ⟨_, rfl, _, rfl, _, rfl, _, rfl, _, _, rfl, rfl, _, _, rfl, rfl, (by show (0 : Int) < h + 1; (first | lia | omega)), _, rfl, _, _, rfl, rfl, (by unfold CDiv; decide), _, _, rfl, rfl, (by show (0 : Int) < 2; decide), rfl, .inr ⟨_, rfl, _, _, rfl, rfl, ?_, _, _, rfl, rfl, _, rfl, l, _, rfl, SqL.of e1, fun p hp => ?_⟩⟩
    · unfold CMul
      right
      split <;> decide
    · obtain ⟨ws, e, sb⟩ := cut_sub ns (h - c % (h + 1) * if decide (V.int (c / 8 % 2) = V.int 1) = true then 1 else 0)
      rw [e]
      exact q ws p _ ⟨nd.sublist sb, fun x hx => (mem x).mp (sb.subset hx)⟩ (s1.up hp) (s1.free hp) upd_same
theorem scPoints : FnScope ["cell", "comer", "some"] ["cell", "comer"] (defScope sPoints) := ⟨rfl, rfl, rfl, by decide +kernel, rfl, by decide +kernel, by decide +kernel⟩
theorem ok_points {f : Addr} {fd : FuncData} (F : FnAt K mg "_law_points_by" sPoints ["cell", "comer"] f fd) (T : Cl K mg C) : Callee P w K mg base 1 "_law_points_by" ["cell", "comer"] spPoints := by
  refine F.callee (F.fn.ok scPoints (fun vs H Q E h => ?_) (fun cdv A outer s H vs Q E hr h => ?_))
  · obtain ⟨c, k, rfl, _⟩ := h
    rfl
  · obtain ⟨c, k, rfl, h0, h1, q⟩ := h
    refine ⟨_, pss_cons (ps_set (i := 2) scPoints.nd rfl (Or.inl rfl) (pe_op op_mod (pe_op op_mul (pe_op op_mul (pe_op op_add (pe_op op_fdiv (pv 0) (pe_op op_add pe_int (pe_op op_mul (pv 1) (pv 1)))) (pe_op op_mul pe_int (pv 1))) (pe_op op_add (pv 1) pe_int)) pe_int) pe_int))
      (pss_cons (ps_if (pt_cmpR op_eq (pe_op op_mod (pv 0) pe_int) pe_int (nomark _)) (pss_one (ps_set (i := 2) scPoints.nd rfl (Or.inl rfl) (pe_op op_mod (pv 2) pe_int))) pss_nil)
      (pss_cons (ps_if (pt_cmpR op_lt (pe_op op_mod (pe_op op_add (pe_op op_mul (pe_op op_fdiv (pv 0) pe_int) (pe_op op_add (pv 1) pe_int)) (pe_op op_mul pe_int (pv 1))) pe_int) pe_int (nomark _)) (pss_one (ps_ret pe_non)) pss_nil)
      (pss_one (ps_ret (pe_op op_mod (pv 2) pe_int))))), ?_⟩
    have kk : 0 ≤ k * k ∧ k * k ≤ 576 := by
      constructor
      · exact Int.mul_nonneg h0 h0
      · have := Int.mul_le_mul h1 h1 h0 (by decide)
        (first | lia | omega)
    have sm : ∀ {i j : Int}, -1000000 < j → j < 1000000 → CMul i j := fun h1 h2 => by unfold CMul; right; (first | lia | omega)
    have sl : ∀ {i j : Int}, -1000000 < i → i < 1000000 → CMul i j := fun h1 h2 => by unfold CMul; left; (first | lia | omega)
    refine ⟨_, rfl, _, rfl, _, rfl, _, _, rfl, rfl, sm (by (first | lia | omega)) (by (first | lia | omega)), _, _, rfl, rfl, _, _, rfl, rfl, (by unfold CDiv; (first | lia | omega)), _, rfl, _, _, rfl, rfl, sl (by decide) (by decide), _, _, rfl, rfl, _, rfl, _, _, rfl, rfl, _, _, rfl, rfl, sm (by (first | lia | omega)) (by (first | lia | omega)), _, _, rfl, rfl, sm (by decide) (by decide), _, _, rfl, rfl, (by show (0 : Int) < 1000003; decide), ?_⟩
    refine ⟨_, rfl, _, _, rfl, rfl, (by show (0 : Int) < 3; decide), rfl, _, rfl, ?_⟩
    refine ite2 (fun _ => ⟨_, rfl, _, _, rfl, rfl, (by show (0 : Int) < 3; decide), ?_⟩) (fun _ => ?_)
    all_goals
      refine ⟨_, rfl, _, _, rfl, rfl, (by unfold CDiv; decide), _, rfl, _, _, rfl, rfl, _, _, rfl, rfl, sm (by (first | lia | omega)) (by (first | lia | omega)), _, rfl, _, _, rfl, rfl, sl (by decide) (by decide), _, _, rfl, rfl, _, _, rfl, rfl, (by show (0 : Int) < 11; decide), _, _, rfl, rfl, _, rfl, ?_⟩
      refine ite2 (fun _ => ?_) (fun _ => ?_)
      · exact q none
      · exact ⟨_, rfl, _, _, rfl, rfl, (by show (0 : Int) < 1000001; decide), q (some _)⟩
theorem scKind : FnScope ["cell"] ["cell"] (defScope sKind) := ⟨rfl, rfl, rfl, by decide +kernel, rfl, by decide +kernel, by decide +kernel⟩
theorem ok_kind {f : Addr} {fd : FuncData} (F : FnAt K mg "_law_kind_by" sKind ["cell"] f fd) (T : Cl K mg C) : Callee P w K mg base 1 "_law_kind_by" ["cell"] spKind := by
  refine F.callee (F.fn.ok scKind (fun vs H Q E h => ?_) (fun cdv A outer s H vs Q E hr h => ?_))
  · obtain ⟨c, rfl, _⟩ := h
    rfl
  · obtain ⟨c, rfl, q⟩ := h
    refine ⟨_, pss_one (ps_ret (pe_op op_add (pe_op op_mod (pv 0) pe_int) (pe_op op_mul pe_int (pe_callTy call_int1 rfl T.b.int PyProof.Rows.Boot.«int» (pa_cons (pe_cmpR op_eq (pe_op op_mod (pe_op op_fdiv (pv 0) pe_int) pe_int) pe_int (nomark _)) pa_nil))))), ?_⟩
    exact ⟨_, rfl, _, _, rfl, rfl, (by show (0 : Int) < 2; decide), _, rfl, _, _, rfl, rfl, (by unfold CDiv; decide), _, _, rfl, rfl, (by show (0 : Int) < 5; decide), rfl, .inr ⟨_, rfl, _, _, rfl, rfl, (by unfold CMul; left; decide), _, _, rfl, rfl, q _⟩⟩
theorem scWorld : FnScope ["script", "top", "many", "houses", "wishes", "kinds", "rows", "h", "cell", "seats", "kept", "kind", "points", "tie"] ["script", "top"] (defScope sWorld) := ⟨rfl, rfl, rfl, by decide +kernel, rfl, by decide +kernel, by decide +kernel⟩
theorem ok_world {f : Addr} {fd : FuncData} (F : FnAt K mg "_law_world" sWorld ["script", "top"] f fd) (T : Cl K mg C) (Cc : Callee P w K mg base 1 "_law_cell_at" ["script", "k"] (spCell K)) (Cr : Callee P w K mg base 1 "_law_row_by" ["cell", "many"] spRow)
    (Cw : Callee P w K mg base 2 "_law_wishes_by" ["cell", "houses"] spWishes) (Cp : Callee P w K mg base 1 "_law_points_by" ["cell", "comer"] spPoints) (Ck : Callee P w K mg base 1 "_law_kind_by" ["cell"] spKind) : Callee P w K mg base 3 "_law_world" ["script", "top"] (spWorld K) := by
  refine F.callee (F.fn.ok (k := 2) scWorld (fun vs H Q E h => ?_) (fun cdv A outer s H vs Q E hr h => ?_))
  · obtain ⟨a, ns, top, rfl, _⟩ := h
    rfl
  · obtain ⟨a, ns, tp, rfl, hS, t1, t2, q⟩ := h
    have hr1 : Room 1 _ := hr.mono (by decide)
    refine ⟨_, pss_cons (ps_set (i := 2) scWorld.nd rfl (Or.inl rfl) (pe_op op_add pe_int (pe_op op_mod (pe_fn Cc hr1 (pa_cons (pv 0) (pa_cons pe_int pa_nil))) (pv 1))))
      (pss_cons (ps_set (i := 3) scWorld.nd rfl (Or.inr rfl) (pe_op op_add pe_int (pe_op op_mod (pe_op op_fdiv (pe_fn Cc hr1 (pa_cons (pv 0) (pa_cons pe_int pa_nil))) pe_int) pe_int)))
      (pss_cons (ps_setC (i := 4) (M := ["script", "top", "many", "houses", "wishes", "kinds", "rows", "h", "cell", "seats", "kept", "kind", "points", "tie"]) scWorld.nd rfl (Or.inl rfl) ⟨rfl, rfl, rfl, rfl, rfl, rfl, by decide +kernel⟩ rfl (pi_range1 rfl T.b.range (pa_cons (pv 2) pa_nil))
        (fun B => pts_nil) (fun B => pe_fn Cw hr (pa_cons (pe_fn Cc hr1 (pa_cons (pv 1) (pa_cons (pe_op op_add pe_int (pv 0)) pa_nil))) (pa_cons (pv 4) pa_nil))))
      (pss_cons (ps_setC (i := 5) (M := ["script", "top", "many", "houses", "wishes", "kinds", "rows", "h", "cell", "seats", "kept", "kind", "points", "tie"]) scWorld.nd rfl (Or.inl rfl) ⟨rfl, rfl, rfl, rfl, rfl, rfl, by decide +kernel⟩ rfl (pi_range1 rfl T.b.range (pa_cons (pv 2) pa_nil))
        (fun B => pts_nil) (fun B => pe_fn Ck hr1 (pa_cons (pe_fn Cc hr1 (pa_cons (pv 1) (pa_cons (pe_op op_add pe_int (pv 0)) pa_nil))) pa_nil)))
      (pss_cons (ps_set (i := 6) scWorld.nd rfl (Or.inl rfl) (pe_lst pa_nil))
      (pss_cons (ps_for PassesOwn.never rfl (pi_range1 rfl T.b.range (pa_cons (pv 3) pa_nil)) (pg_name (i := 7) scWorld.nd rfl (Or.inr rfl))
        (pss_cons (ps_set (i := 8) scWorld.nd rfl (Or.inl rfl) (pe_fn Cc hr1 (pa_cons (pv 0) (pa_cons (pe_op op_add pe_int (pe_op op_mul pe_int (pv 7))) pa_nil))))
        (pss_cons (ps_set (i := 9) scWorld.nd rfl (Or.inl rfl) (pe_op op_mod (pv 8) pe_int))
        (pss_cons (ps_set (i := 10) scWorld.nd rfl (Or.inl rfl) (pe_op op_mod (pe_op op_fdiv (pv 8) pe_int) (pe_op op_add (pv 9) pe_int)))
        (pss_cons (ps_set (i := 11) scWorld.nd rfl (Or.inl rfl) (pe_fn Ck hr1 (pa_cons (pe_op op_fdiv (pv 8) pe_int) pa_nil)))
        (pss_cons (ps_setC (i := 12) (M := ["script", "top", "many", "houses", "wishes", "kinds", "rows", "h", "cell", "seats", "kept", "kind", "points", "tie"]) scWorld.nd rfl (Or.inl rfl) ⟨rfl, rfl, rfl, rfl, rfl, rfl, by decide +kernel⟩ rfl (pi_range1 rfl T.b.range (pa_cons (pv 2) pa_nil))
          (fun B => pts_nil) (fun B => pe_fn Cp hr1 (pa_cons (pe_fn Cc hr1 (pa_cons (pv 1) (pa_cons (pe_op op_add pe_int (pe_op op_mul pe_int (pv 8))) pa_nil))) (pa_cons (pv 0) pa_nil))))
        (pss_cons (ps_set (i := 13) scWorld.nd rfl (Or.inl rfl) (pe_fn Cr hr1 (pa_cons (pe_fn Cc hr1 (pa_cons (pv 0) (pa_cons (pe_op op_add pe_int (pe_op op_mul pe_int (pv 7))) pa_nil))) (pa_cons (pv 2) pa_nil))))
        (pss_one (ps_expr (pe_bm PySem.F.plainAttrs_list PySem.F.slot_list_append PySem.F.type_list_append mt_append (pv 6) (pa_cons (pe_tup (pa_cons (pv 9) (pa_cons (pv 10) (pa_cons (pv 11) (pa_cons (pe_cmpR op_eq (pe_op op_mod (pe_op op_fdiv (pv 8) pe_int) pe_int) pe_int (nomark _)) (pa_cons (pv 12) (pa_cons (pv 5) (pa_cons (pv 13) pa_nil)))))))) pa_nil)))))))))))
      (pss_one (ps_ret (pe_tup (pa_cons (pv 4) (pa_cons (pv 6) pa_nil)))))))))), ?_⟩
    refine ⟨_, rfl, a, ns, 0, rfl, hS, by decide, _, rfl, _, _, rfl, rfl, (by (first | lia | omega) : 0 < tp), _, _, rfl, rfl, ?_⟩
    refine ⟨_, rfl, a, ns, 0, rfl, hS, by decide, _, _, rfl, rfl, (by unfold CDiv; decide), _, _, rfl, rfl, (by show (0 : Int) < 3; decide), _, _, rfl, rfl, ?_⟩
    dsimp only
    obtain ⟨n, hn⟩ : ∃ n : Nat, 1 + cellAt ns 0 % tp = n := ⟨(1 + cellAt ns 0 % tp).toNat, by
      have := Int.emod_nonneg (cellAt ns 0) (b := tp) (by (first | lia | omega))
      (first | lia | omega)⟩
    obtain ⟨hh, hhe⟩ : ∃ h : Nat, 1 + cellAt ns 0 / 5 % 3 = h := ⟨(1 + cellAt ns 0 / 5 % 3).toNat, by (first | lia | omega)⟩
    have n1 : 1 ≤ n ∧ (n : Int) ≤ tp := by
      have := Int.emod_nonneg (cellAt ns 0) (b := tp) (by (first | lia | omega))
      have := Int.emod_lt_of_pos (cellAt ns 0) (b := tp) (by (first | lia | omega))
      (first | lia | omega)
    have hh1 : 1 ≤ hh ∧ hh ≤ 3 := by (first | lia | omega)
    rw [hn, hhe]
    refine ⟨_, rfl, n, rfl, by (first | lia | omega), by (first | lia | omega), comp_range0 (n := n) (fun i ys H2 => ∃ (was : List Addr) (wss : List (List Int)), ys = was.map V.ref ∧ wss.length = i ∧ was.length = i ∧ Paired (WishAt H2) was wss ∧ (∀ ws ∈ wss, WGood hh ws) ∧ Same H H2) (fits (by (first | lia | omega))) ⟨[], [], rfl, rfl, rfl, .nil, (fun _ h => nomatch h), Same.refl H⟩ ?_ ?_ ?_⟩
    · rintro i ys H2 ⟨was, wss, rfl, _, e, _⟩
      rw [List.length_map, e]
      exact Nat.le_refl _
    · rintro i ys H2 B N1 hi ⟨was, wss, rfl, e1, e2, pw, gw, sm⟩ k1
      refine ⟨_, rfl, _, rfl, _, _, rfl, rfl, a, ns, _, rfl, sm.seq hS, by (first | lia | omega), _, rfl, _, hh, rfl, hh1.1, by (first | lia | omega), fun ws l H3 wg s3 n3 e3 => k1 _ _ ⟨was ++ [l], wss ++ [ws], by rw [List.map_append]; rfl, by rw [List.length_append, e1]; rfl, by rw [List.length_append, e2]; rfl, Paired.snoc e3 (Paired.mapP pw fun _ _ z => z.up s3), fun x hx => ?_, sm.trans s3⟩⟩
      rcases List.mem_append.mp hx with h | h
      · exact gw x h
      · rw [List.mem_singleton.mp h]; exact wg
    · rintro ys H2 ⟨was, wss, rfl, ew, ewl, pw, gw, sm⟩ lw hlw
      have sw : Same H (upd H2 lw (.lst (was.map V.ref))) := sm.up hlw
      have aw : upd H2 lw (.lst (was.map V.ref)) lw = some (.lst (was.map V.ref)) := upd_same
      have pw' : Paired (WishAt (upd H2 lw (.lst (was.map V.ref)))) was wss := Paired.mapP pw fun _ _ z => z.up (Same.new hlw)
      generalize upd H2 lw (.lst (was.map V.ref)) = H3 at sw aw pw' ⊢
      refine ⟨_, rfl, n, rfl, by (first | lia | omega), by (first | lia | omega), comp_range0 (n := n) (fun i ys H2 => H2 = H3 ∧ ∃ ks : List Int, ys = ks.map V.int ∧ ks.length = i) (fits (by (first | lia | omega))) ⟨rfl, [], rfl, rfl⟩ ?_ ?_ ?_⟩
      · rintro i ys H2 ⟨_, ks, rfl, e⟩
        rw [List.length_map, e]
        exact Nat.le_refl _
      · rintro i ys H2 B N1 hi ⟨rfl, ks, rfl, e⟩ k1
        exact ⟨_, rfl, _, rfl, _, _, rfl, rfl, a, ns, _, rfl, sw.seq hS, by (first | lia | omega), _, rfl, fun k => k1 _ _ ⟨rfl, ks ++ [k], by rw [List.map_append]; rfl, by rw [List.length_append, e]; rfl⟩⟩
      · rintro ys H2 ⟨rfl, ks, rfl, eks⟩ lk hlk
        have sk := sw.up (o := .lst (ks.map V.int)) hlk
        have aw2 := (Same.new (o := .lst (ks.map V.int)) hlk) _ _ aw
        have ak : upd H2 lk (.lst (ks.map V.int)) lk = some (.lst (ks.map V.int)) := upd_same
        have pw2 : Paired (WishAt (upd H2 lk (.lst (ks.map V.int)))) was wss := Paired.mapP pw' fun _ _ z => z.up (Same.new hlk)
        generalize upd H2 lk (.lst (ks.map V.int)) = Hk at sk aw2 ak pw2 ⊢
        refine ⟨Nat.zero_le _, fun lr hlr => ?_⟩
        have klr : lk ≠ lr := ne_of_none ak hlr
        refine ⟨_, rfl, hh, rfl, by (first | lia | omega), by (first | lia | omega), for_range (n := hh) (WoInv a tp n hh lw lk lr Hk) ?_ ?_ ?_⟩
        · exact ⟨[], [], _, _, _, _, _, _, _, rfl, upd_same, rfl, rfl, .nil, fun _ h => (nomatch h), by rw [del_upd]; exact del_of (Same.refl _) hlr⟩
        · refine fun i σ H2 hi inv => inv.elim fun ras Rs v7 v8 v9 v10 v11 v12 v13 eσ elr era eRs pr gr sd => ?_
          subst eσ
          have sH : Same H H2 := (sk.trans sd).trans del_le
          refine ⟨_, rfl, _, rfl, _, _, rfl, rfl, (by unfold CMul; left; decide), _, _, rfl, rfl, a, ns, _, rfl, sH.seq hS, by (first | lia | omega), ?_⟩
          dsimp only
          generalize cellAt ns (11 + 3 * (0 + (i : Int))) = cl
          refine ⟨_, rfl, _, _, rfl, rfl, (by show (0 : Int) < 4; decide), ?_⟩
          refine ⟨_, rfl, _, _, rfl, rfl, (by unfold CDiv; decide), _, rfl, _, _, rfl, rfl, _, _, rfl, rfl, (by show 0 < cl % 4 + 1; (first | lia | omega)), ?_⟩
          refine ⟨_, rfl, _, _, rfl, rfl, (by unfold CDiv; decide), _, rfl, fun kd => ?_⟩
          refine ⟨_, rfl, n, rfl, by (first | lia | omega), by (first | lia | omega), comp_range0 (n := n) (fun i ys H5 => H5 = H2 ∧ ∃ ps : List (Option Int), ys = ps.map encO ∧ ps.length = i) (fits (by (first | lia | omega))) ⟨rfl, [], rfl, rfl⟩ ?_ ?_ ?_⟩
          · rintro i ys H2 ⟨_, ks, rfl, e⟩
            rw [List.length_map, e]
            exact Nat.le_refl _
          · rintro j ys H5 B N1 hj ⟨rfl, ps, rfl, e⟩ k1
            exact ⟨_, rfl, _, rfl, _, _, rfl, rfl, (by unfold CMul; left; decide), _, _, rfl, rfl, a, ns, _, rfl, sH.seq hS, by (first | lia | omega), _, rfl, _, _, rfl, by (first | lia | omega), by (first | lia | omega), fun o => k1 _ _ ⟨rfl, ps ++ [o], by rw [List.map_append]; rfl, by rw [List.length_append, e]; rfl⟩⟩
          · rintro ys H5 ⟨rfl, ps, rfl, eps⟩ lp hlp
            have s5 : Same H5 (upd H5 lp (.lst (ps.map encO))) := Same.new hlp
            refine ⟨_, rfl, _, rfl, _, _, rfl, rfl, (by unfold CMul; left; decide), _, _, rfl, rfl, a, ns, _, rfl, (sH.trans s5).seq hS, by (first | lia | omega), _, rfl, _, _, rfl, by (first | lia | omega), by (first | lia | omega), fun tie lt H6 tn tm tl s6 nlt elt => ?_⟩
            have s56 := s5.trans s6
            have e6 := s56 _ _ elr
            refine ⟨_, rfl, .inl ⟨rfl, _, SqL.of e6⟩, _, rfl, _, rfl, _, rfl, _, rfl, _, _, rfl, rfl, (by unfold CDiv; decide), _, _, rfl, rfl, (by show (0 : Int) < 2; decide), rfl, _, rfl, _, rfl, _, rfl, fits (Nat.le_of_ble_eq_true rfl), fun p hp => ?_⟩
            have e7 := (Same.new (o := .tup [.int (cl % 4), .int (cl / 4 % (cl % 4 + 1)), .int kd, .bl (decide (V.int (cl / 32 % 2) = V.int 0)), .ref lp, .ref lk, .ref lt]) hp) _ _ e6
            refine ⟨lr, _, .ref p, rfl, rfl, e7, by rw [List.length_map]; exact Nat.lt_of_lt_of_le (show ras.length < 1000000 by (first | lia | omega)) (fits (Nat.le_refl _)), ?_⟩
            have sdel : Same (del H5 lr) (del (upd H6 p (.tup [.int (cl % 4), .int (cl / 4 % (cl % 4 + 1)), .int kd, .bl (decide (V.int (cl / 32 % 2) = V.int 0)), .ref lp, .ref lk, .ref lt])) lr) := del_mono (s56.up hp)
            have nlp : lp ≠ lr := fun z => by rw [z, elr] at hlp; cases hlp
            have nltr : lt ≠ lr := fun z => by rw [z] at nlt; rw [s5 _ _ elr] at nlt; cases nlt
            have npr : p ≠ lr := fun z => by rw [z, e6] at hp; cases hp
            have ek : H6 lk = some (.lst (ks.map V.int)) := s56 _ _ (del_le _ _ (sd _ _ ak))
            have el : H6 lp = some (.lst (ps.map encO)) := s6 _ _ upd_same
            have nk : lk ≠ p := ne_of_none ek hp
            have nl : lp ≠ p := ne_of_none el hp
            have nt : lt ≠ p := ne_of_none elt hp
            refine ⟨ras ++ [p], Rs ++ [⟨cl % 4, cl / 4 % (cl % 4 + 1), kd, decide (V.int (cl / 32 % 2) = V.int 0), ps, ks, tie⟩], _, _, _, _, _, _, _, rfl, by rw [upd_same, List.map_append]; rfl, by rw [List.length_append, era]; rfl, by rw [List.length_append, eRs]; rfl, ?_, ?_, ?_⟩
            · rw [del_upd]
              refine Paired.snoc ⟨lp, lk, lt, ?_, ?_, ?_, ?_⟩ (Paired.mapP pr fun _ _ z => z.up sdel)
              · rw [del_ne npr]; exact upd_same
              · rw [del_ne nlp, upd_ne nl]; exact el
              · rw [del_ne klr, upd_ne nk]; exact ek
              · rw [del_ne nltr, upd_ne nt]; exact elt
            · intro R hR
              rcases List.mem_append.mp hR with h | h
              · exact gr R h
              · rw [List.mem_singleton.mp h]
                have q1 := Int.emod_nonneg (cl / 4) (b := cl % 4 + 1) (by (first | lia | omega))
                have q2 := Int.emod_lt_of_pos (cl / 4) (b := cl % 4 + 1) (by (first | lia | omega))
                exact ⟨⟨eps, eks, tn, tm, by show tie.length = n; (first | lia | omega), q1, by show cl / 4 % (cl % 4 + 1) ≤ cl % 4; (first | lia | omega), by (first | lia | omega)⟩, by show cl % 4 ≤ 3; (first | lia | omega)⟩
            · rw [del_upd]; exact sd.trans sdel
        · refine fun σ H2 inv => inv.elim fun ras Rs v7 v8 v9 v10 v11 v12 v13 eσ elr era eRs pr gr sd => ?_
          subst eσ
          have sH : Same H H2 := (sk.trans sd).trans del_le
          have sK : Same Hk H2 := sd.trans del_le
          refine ⟨_, rfl, _, rfl, fits (Nat.le_of_ble_eq_true rfl), fun p hp => ?_⟩
          have s7 : Same H2 (upd H2 p (.tup [.ref lw, .ref lr])) := Same.new hp
          exact q p lw lr was ras wss Rs n hh _ (sH.trans s7) upd_same (s7 _ _ (sK _ _ aw2)) (s7 _ _ elr) (Paired.mapP pw2 fun _ _ z => z.up (sK.trans s7)) (Paired.mapP pr fun _ _ z => (z.up del_le).up s7) ew eRs n1.1 n1.2 hh1.1 hh1.2 gr gw
end
end K13

set_option Elab.async false
set_option linter.all false
set_option maxRecDepth 100000
set_option maxHeartbeats 4000000
namespace K13
open PySem L2 Hse
theorem SX.same {x dx : Addr} {H H' : Hp} {o1 o2 : HO} (s : SX x (upd (upd H dx o1) x o2) H') (h1 : H x = none) (h2 : H dx = none) : Same H H' := fun b o e => by
  have b1 : b ≠ x := ne_of_none e h1
  have b2 : b ≠ dx := ne_of_none e h2
  exact s b o b1 (by rw [upd_ne b1, upd_ne b2]; exact e)
theorem eqv_ints : ∀ ns : List Int, PyData.eqv (.list (ns.map PyData.int)) (.list (ns.map PyData.int)) = true ∧ (PyData.list (ns.map PyData.int)).canLay0 = true ∧ (PyData.list (ns.map PyData.int)).depth ≤ 2 := by
  intro ns
  have h1 : (PyData.list (ns.map PyData.int)).canLay0 = true := by
    unfold PyData.canLay0
    induction ns with
    | nil => rfl
    | cons n ns ih => simpa [PyData.canLayAll0, PyData.canLay0] using ih
  refine ⟨SeqAt.eqv_refl _ h1, h1, ?_⟩
  unfold PyData.depth
  have h2 : PyData.depthAll (ns.map PyData.int) ≤ 1 := by
    clear h1
    induction ns with
    | nil => simp [PyData.depthAll]
    | cons n ns ih => simp only [List.map_cons, PyData.depthAll, PyData.depth]; (first | lia | omega)
  (first | lia | omega)
def spHouses (K : PySem.W.Frag) (C : Addr) : Sp := fun vs H Q _ => ∃ (r : Addr) (ras : List Addr) (Rs : List RowD), vs = [.ref r] ∧ SqL K H r (ras.map V.ref) ∧ Paired (RowAt H) ras Rs ∧ (∀ R ∈ Rs, R.kept ≤ R.seats) ∧ ras.length ≤ 24 ∧
  ∀ (l : Addr) (has : List Addr) (H' : Hp), Same H H' → H l = none → H' l = some (.lst (has.map V.ref)) → Paired (HouseAt C H') has Rs → Q (.ref l) H'
theorem getR {ns : List Addr} {i : Nat} {x : V} (h : (ns.map V.ref)[i]? = some x) : ∃ n, ns[i]? = some n ∧ x = .ref n := by
  rw [List.getElem?_map] at h
  cases e : ns[i]? with
  | none => rw [e] at h; cases h
  | some n => rw [e] at h; exact ⟨n, rfl, (Option.some.inj h).symm⟩
theorem Paired.fwd {α β : Type} {F : α → β → Prop} : ∀ {l : List α} {m : List β} {i : Nat} {a : α}, Paired F l m → l[i]? = some a → ∃ b, m[i]? = some b ∧ F a b
  | [], [], _, _, _, e => by simp at e
  | _ :: _, _ :: _, 0, _, .cons r _, e => by cases e; exact ⟨_, rfl, r⟩
  | _ :: l, _ :: m, i + 1, b, .cons _ r, e => by
    refine ex_elim2 (Paired.fwd (i := i) (a := b) r (by simpa using e)) fun u e1 e2 => ?_
    exact ⟨u, by simpa using e1, e2⟩
section
variable {P : Program} {w : World} {K : PySem.W.Frag} {mg : Str → Option Value} {base : Heap} {C : Addr}
theorem scHouses : FnScope ["rows"] ["rows"] (defScope sHouses) := ⟨rfl, rfl, rfl, by decide +kernel, rfl, by decide +kernel, by decide +kernel⟩
theorem ok_houses {f fI : Addr} {fd : FuncData} (F : FnAt K mg "_law_houses" sHouses ["rows"] f fd) (T : Cl K mg C) (M : Mk K C fI) (CI : MCal P w K mg base 1 fI ["self", "seats", "kept", "kind", "opened", "points", "kinds", "row"] (spInit K C)) :
    Callee P w K mg base 3 "_law_houses" ["rows"] (spHouses K C) := by
  refine F.callee (F.fn.ok (k := 2) scHouses (fun vs H Q E h => ?_) (fun cdv A outer s H vs Q E hr h => ?_))
  · obtain ⟨r, ras, Rs, rfl, _⟩ := h
    rfl
  · obtain ⟨r, ras, Rs, rfl, hS, pr, hk, hl, q⟩ := h
    obtain ⟨fdi, bdi, FI⟩ := CI
    refine ⟨_, pss_one (ps_ret (pe_comp (M := ["rows"]) ⟨rfl, rfl, rfl, rfl, rfl, rfl, by decide +kernel⟩ rfl (pi_list (pv 0)) (fun B => pts_nil) (fun B => pe_make M FI hr rfl T.at_ bdi .nil pass0
      (pa_cons (pe_ix ix_tup (pv 0) pe_int (fun _ _ => rfl)) (pa_cons (pe_ix ix_tup (pv 0) pe_int (fun _ _ => rfl)) (pa_cons (pe_ix ix_tup (pv 0) pe_int (fun _ _ => rfl)) (pa_cons (pe_ix ix_tup (pv 0) pe_int (fun _ _ => rfl))
      (pa_cons (pe_callTy call_list_of rfl T.b.list PyProof.Rows.Boot.«list» (pa_cons (pe_ix ix_tup (pv 0) pe_int (fun _ _ => rfl)) pa_nil)) (pa_cons (pe_callTy call_list_of rfl T.b.list PyProof.Rows.Boot.«list» (pa_cons (pe_ix ix_tup (pv 0) pe_int (fun _ _ => rfl)) pa_nil))
      (pa_cons (pe_callTy call_list_of rfl T.b.list PyProof.Rows.Boot.«list» (pa_cons (pe_ix ix_tup (pv 0) pe_int (fun _ _ => rfl)) pa_nil)) pa_nil)))))))))), ?_⟩
    have hlR : ras.length = Rs.length := Paired.length pr
    refine ⟨_, rfl, r, rfl, ⟨_, hS⟩, comp_list0 (xs := ras.map V.ref) (fun i ys H2 => ∃ has : List Addr, ys = has.map V.ref ∧ has.length = i ∧ Paired (HouseAt C H2) has (Rs.take i) ∧ Same H H2) (fits (by rw [List.length_map]; (first | lia | omega))) ⟨[], rfl, rfl, .nil, Same.refl H⟩ ?_ ?_ ?_⟩
    · rintro i ys H2 ⟨has, rfl, e, _, sm⟩
      exact ⟨sm.seq hS, by rw [List.length_map, e]; exact Nat.le_refl _⟩
    · rintro i x ys H2 B N1 hx ⟨has, rfl, e, ph, sm⟩ n1
      refine ex_elim2 (getR hx) fun p hpi exx => ?_
      subst exx
      obtain ⟨R, hRi, lp, lk, lt, e1, e2, e3, e4⟩ := Paired.fwd pr hpi
      have f1 := SqT.of (K := K) (sm _ _ e1)
      refine ⟨_, rfl, p, _, _, _, rfl, rfl, f1, atI_nat (j := 0) rfl, _, rfl, p, _, _, _, rfl, rfl, f1, atI_nat (j := 1) rfl, _, rfl, p, _, _, _, rfl, rfl, f1, atI_nat (j := 2) rfl, _, rfl, p, _, _, _, rfl, rfl, f1, atI_nat (j := 3) rfl, ?_⟩
      refine ⟨_, rfl, p, _, _, _, rfl, rfl, f1, atI_nat (j := 4) rfl, lp, _, rfl, .inl (SqL.of (sm _ _ e2)), fun l4 n4 => ?_⟩
      have s4 : Same H2 (upd H2 l4 (.lst (R.points.map encO))) := Same.new n4
      refine ⟨_, rfl, p, _, _, _, rfl, rfl, SqT.of (K := K) (s4 _ _ (sm _ _ e1)), atI_nat (j := 5) rfl, lk, _, rfl, .inl (SqL.of (s4 _ _ (sm _ _ e3))), fun l5 n5 => ?_⟩
      have s5 := s4.up (o := .lst (R.kinds.map V.int)) n5
      refine ⟨_, rfl, p, _, _, _, rfl, rfl, SqT.of (K := K) (s5 _ _ (sm _ _ e1)), atI_nat (j := 6) rfl, lt, _, rfl, .inl (SqL.of (s5 _ _ (sm _ _ e4))), fun l6 n6 => ?_⟩
      have s6 := s5.up (o := .lst (R.tie.map V.int)) n6
      have a4 : upd (upd (upd H2 l4 (.lst (R.points.map encO))) l5 (.lst (R.kinds.map V.int))) l6 (.lst (R.tie.map V.int)) l4 = some (.lst (R.points.map encO)) := ((Same.new n5).up n6) _ _ upd_same
      have a5 : upd (upd (upd H2 l4 (.lst (R.points.map encO))) l5 (.lst (R.kinds.map V.int))) l6 (.lst (R.tie.map V.int)) l5 = some (.lst (R.kinds.map V.int)) := (Same.new n6) _ _ upd_same
      have a6 : upd (upd (upd H2 l4 (.lst (R.points.map encO))) l5 (.lst (R.kinds.map V.int))) l6 (.lst (R.tie.map V.int)) l6 = some (.lst (R.tie.map V.int)) := upd_same
      generalize upd (upd (upd H2 l4 (.lst (R.points.map encO))) l5 (.lst (R.kinds.map V.int))) l6 (.lst (R.tie.map V.int)) = H3 at s6 a4 a5 a6 ⊢
      intro x dx hx hdx hne
      have g4 : ∀ {l : Addr} {o : HO}, H3 l = some o → upd (upd H3 dx (.own x)) x (.ins C dx []) l = some o := fun z => by rw [upd_ne (ne_of_none z hx), upd_ne (ne_of_none z hdx)]; exact z
      refine ⟨x, dx, l4, l5, l6, R, rfl, upd_same, SqL.of (g4 a4), SqL.of (g4 a5), SqL.of (g4 a6), hk R (List.mem_of_getElem? hRi), fun H' sx hA => ⟨rfl, n1 _ _ ⟨has ++ [x], by rw [List.map_append]; rfl, by rw [List.length_append, e]; rfl, ?_, sm.trans (s6.trans (sx.same hx hdx))⟩⟩⟩
      rw [List.take_add_one, hRi]
      exact Paired.snoc hA.at_ (Paired.mapP ph fun _ _ z => z.up (s6.trans (sx.same hx hdx)))
    · rintro ys H2 ⟨has, rfl, e, ph, sm⟩ acc hacc
      rw [List.length_map, List.take_of_length_le (by (first | lia | omega))] at ph
      exact q acc has _ (sm.up hacc) (sm.free hacc) upd_same (Paired.mapP ph fun _ _ z => z.up (Same.new hacc))
end
end K13

set_option Elab.async false
set_option linter.all false
set_option maxRecDepth 100000
set_option maxHeartbeats 4000000
namespace K13
open PySem L2 Hse
/-- a dict whose keys are the ints ks, each with True -/
def tk (ks : List Int) : List (Key × V) := ks.map fun k => ((Sum.inl k : Key), V.bl true)
theorem tk_intD (ks : List Int) : intD ks (ks.map fun _ => V.bl true) = tk ks := by
  unfold intD tk
  induction ks with
  | nil => rfl
  | cons k ks ih => simp only [List.map_cons, List.zip_cons_cons]; rw [ih]
theorem tk_val (ks : List Int) (k : Int) : (valV (tk ks) (Sum.inl k : Key)).isSome = decide (k ∈ ks) := by
  induction ks with
  | nil => rfl
  | cons x ks ih =>
    show (valV (((Sum.inl x : Key), V.bl true) :: tk ks) (Sum.inl k)).isSome = _
    by_cases h : x = k
    · rw [valV_pos (by rw [h])]
      rw [decide_eq_true (by rw [h]; exact List.mem_cons_self)]
      rfl
    · rw [valV_neg (fun e => h (Sum.inl.inj e)), ih]
      have : (k ∈ x :: ks) ↔ k ∈ ks := by
        rw [List.mem_cons]
        exact ⟨fun z => z.elim (fun e => absurd e.symm h) id, .inr⟩
      rw [decide_eq_decide]
      exact this.symm
theorem tk_put {ks : List Int} {k : Int} (h : k ∉ ks) : putK (tk ks) (Sum.inl k : Key) (V.bl true) = tk (ks ++ [k]) := by
  have e : valV (tk ks) (Sum.inl k : Key) = none := by
    have := tk_val ks k
    rw [decide_eq_false h] at this
    exact Option.not_isSome_iff_eq_none.mp (by rw [this]; simp)
  rw [putK_new _ e]
  unfold tk
  rw [List.map_append]
  rfl
theorem not_in_take {L : List Int} {i : Nat} {c : Int} (nd : L.Nodup) (h : L[i]? = some c) : c ∉ L.take i := fun hc => by
  obtain ⟨j, hj, e⟩ := List.getElem_of_mem hc
  rw [List.length_take] at hj
  rw [List.getElem_take] at e
  obtain ⟨hi, e2⟩ := List.getElem?_eq_some_iff.mp h
  have := (List.getElem_inj (i := j) (j := i) nd (h₀ := by (first | lia | omega)) (h₁ := hi)).mp (e.trans e2.symm)
  (first | lia | omega)
def spLRank (K : PySem.W.Frag) : Sp := fun vs H Q _ => ∃ (p l : Addr) (cs : List Int) (R : RowD) (n : Nat), vs = [.ref p, .ref l] ∧ RowAt H p R ∧ Good R n ∧ SqL K H l (cs.map V.int) ∧
  ∀ m H', Same H H' → H m = none → H' m = some (.lst ((R.rank (inL cs)).map V.int)) → Q (.ref m) H'
def spLChosen (K : PySem.W.Frag) : Sp := fun vs H Q _ => ∃ (p l : Addr) (cs : List Int) (R : RowD) (n : Nat), vs = [.ref p, .ref l] ∧ RowAt H p R ∧ Good R n ∧ SqL K H l (cs.map V.int) ∧
  ∀ (m : Addr) (ms : List Int) (H' : Hp), Same H H' → H m = none → ms.Perm (R.pick (inL cs)) → ms.Pairwise (· ≤ ·) → H' m = some (.lst (ms.map V.int)) → Q (.ref m) H'

section
variable {P : Program} {w : World} {K : PySem.W.Frag} {mg : Str → Option Value} {base : Heap} {C : Addr}
theorem scLRank : FnScope ["row", "comers", "able", "out", "k", "at"] ["row", "comers"] (defScope sLRank) := ⟨rfl, rfl, rfl, by decide +kernel, rfl, by decide +kernel, by decide +kernel⟩
theorem ok_lrank {f : Addr} {fd : FuncData} (F : FnAt K mg "_law_ranked" sLRank ["row", "comers"] f fd) (T : Cl K mg C) : Callee P w K mg base 1 "_law_ranked" ["row", "comers"] (spLRank K) := by
  refine F.callee (F.fn.ok scLRank (fun vs H Q E h => ?_) (fun cdv A outer s H vs Q E hr h => ?_))
  · obtain ⟨p, l, cs, R, n, rfl, _⟩ := h
    rfl
  · obtain ⟨p, l, cs, R, n, rfl, hRow, g, hS, q⟩ := h
    refine ⟨_, pss_cons (ps_setC (i := 2) (M := ["row", "comers", "able", "out", "", "at"]) scLRank.nd rfl (Or.inl rfl) ⟨rfl, rfl, rfl, rfl, rfl, rfl, by decide +kernel⟩ rfl (pi_list (pe_ix ix_tup (pv 0) pe_int (fun _ _ => rfl)))
        (fun B => pts_one (pw_and (pt_cmpR op_in_seq (pv 0) (pv 2) (by with_unfolding_all rfl)) (pw_and1 (pt_cmpR op_notN (pe_ix ix_list (pe_ix ix_tup (pv 1) pe_int (fun _ _ => rfl)) (pv 0) (fun _ _ => rfl)) pe_non (nomark _)))).pt) (fun B => pv 0))
      (pss_cons (ps_set (i := 3) scLRank.nd rfl (Or.inl rfl) (pe_lst pa_nil))
      (pss_cons (ps_for PassesOwn.never rfl (pi_list (pv 2)) (pg_name (i := 4) scLRank.nd rfl (Or.inl rfl))
        (pss_cons (ps_set (i := 5) scLRank.nd rfl (Or.inl rfl) (pe_len T.b call_len_seq (pv 3)))
        (pss_cons (ps_while PassesOwn.never (pw_and (pt_cmpR op_gt (pv 5) pe_int (nomark _)) (pw_and1 (pt_cmpR op_lt (pe_ix ix_list (pe_ix ix_tup (pv 0) pe_int (fun _ _ => rfl)) (pe_ix ix_list (pv 3) (pe_op op_sub (pv 5) pe_int) (fun _ _ => rfl)) (fun _ _ => rfl)) (pe_ix ix_list (pe_ix ix_tup (pv 0) pe_int (fun _ _ => rfl)) (pv 4) (fun _ _ => rfl)) (nomark _)))).pt
          (pss_one (ps_set (i := 5) scLRank.nd rfl (Or.inl rfl) (pe_op op_sub (pv 5) pe_int))))
        (pss_one (ps_expr (pe_bm PySem.F.plainAttrs_list PySem.F.slot_list_insert PySem.F.type_list_insert mt_insert (pv 3) (pa_cons (pv 5) (pa_cons (pv 4) pa_nil))))))))
      (pss_one (ps_ret (pv 3))))), ?_⟩
    obtain ⟨lp, lk, lt, r1, r2, r3, r4⟩ := id hRow
    have hnn := g.nn
    have htl := g.tl
    refine ⟨_, rfl, p, _, _, _, rfl, rfl, SqT.of r1, atI_nat (j := 6) rfl, lt, rfl, ⟨_, SqL.of r4⟩, comp_list (xs := R.tie.map V.int) (fun i ys H2 => H2 = H ∧ ys = ((R.tie.take i).filter fun c => inL cs c && R.able c).map V.int) (fits (by rw [List.length_map]; (first | lia | omega))) ⟨rfl, rfl⟩ ?_ ?_ ?_⟩
    · rintro i ys H2 ⟨rfl, rfl⟩
      exact ⟨SqL.of r4, by rw [List.length_map]; exact len_filter _ i⟩
    · rintro i x ys H2 B N1 N2 hx ⟨rfl, rfl⟩ k1 k2
      refine ex_elim2 (getI hx) fun c hci exx => ?_
      subst exx
      obtain ⟨h0, h1⟩ := (g.tm c).mp (List.mem_of_getElem? hci)
      have hat : atI (R.points.map encO) c = some (encO (R.pt c)) := at_map h0 (by rw [g.pl]; exact h1)
      have stp : ∀ b : Bool, b = (inL cs c && R.able c) → if b = true then tVar 0 (some (V.int c) :: [some (.ref p), some (.ref l), none, none, none, none]) H2 N1 else N2 H2 := fun b hb => by
        refine ite2 (fun z => ⟨_, rfl, k1 _ _ ⟨rfl, ?_⟩⟩) (fun z => k2 _ ⟨rfl, ?_⟩)
        · rw [take_filter hci, if_pos (by rw [← hb]; exact z), List.map_append]
          rfl
        · rw [take_filter hci, if_neg (by rw [← hb]; exact z), List.append_nil]
      refine ⟨_, rfl, _, rfl, l, _, rfl, .inl hS, rfl, flat_ints _, _, rfl, ?_⟩
      rw [if_neg Bool.false_ne_true, inV_int]
      refine ite2 (fun hb => ?_) (fun hb => stp false (by unfold inL; rw [Bool.not_eq_true _ |>.mp hb]; rfl))
      refine ⟨_, rfl, p, _, _, _, rfl, rfl, SqT.of r1, atI_nat (j := 4) rfl, _, rfl, lp, _, c, _, rfl, rfl, SqL.of r2, hat, rfl, _, rfl, ?_⟩
      rw [encO_some]
      exact stp _ (by unfold inL; rw [hb]; rfl)
    · rintro ys H2 ⟨rfl, rfl⟩ la nla
      rw [List.length_map, List.take_length]
      have s1 : Same H2 (upd H2 la (.lst ((R.tie.filter fun c => inL cs c && R.able c).map V.int))) := Same.new nla
      have ela : upd H2 la (.lst ((R.tie.filter fun c => inL cs c && R.able c).map V.int)) la = some (.lst ((R.tie.filter fun c => inL cs c && R.able c).map V.int)) := upd_same
      have hA : ∀ c, c ∈ (R.tie.filter fun c => inL cs c && R.able c) ↔ c ∈ R.tie ∧ R.able c = true ∧ c ∈ cs := fun c => by
        rw [List.mem_filter, Bool.and_eq_true]
        unfold inL
        rw [decide_eq_true_eq]
        exact ⟨fun ⟨a, b, d⟩ => ⟨a, d, b⟩, fun ⟨a, d, b⟩ => ⟨a, b, d⟩⟩
      have hAp : (R.tie.filter fun c => inL cs c && R.able c).Pairwise (fun a b => R.kb a < R.kb b) := (tie_sorted g.td).filter _
      have hAn : (R.tie.filter fun c => inL cs c && R.able c).Nodup := g.td.filter _
      generalize (R.tie.filter fun c => inL cs c && R.able c) = A at s1 ela hA hAp hAn ⊢
      generalize upd H2 la (.lst (A.map V.int)) = H1 at s1 ela ⊢
      have hAl : A.length ≤ n := good_len hAn fun c hc => (g.tm c).mp ((hA c).mp hc).1
      refine ⟨Nat.zero_le _, fun lo nlo => ?_⟩
      have nlo2 : la ≠ lo := ne_of_none ela nlo
      have up1 : ∀ {o : HO}, Same H1 (upd H1 lo o) := Same.new nlo
      refine ⟨_, rfl, la, rfl, ⟨_, SqL.of (up1 _ _ ela)⟩, for_list (K := K) (a := la) (xs := A.map V.int) (fun i σ H3 => ∃ (out : List Int) (v4 v5 : Option V), σ = [some (.ref p), some (.ref l), some (.ref la), some (.ref lo), v4, v5] ∧ H3 = upd H1 lo (.lst (out.map V.int)) ∧ out.Perm (A.take i) ∧ out.Pairwise (fun x y => R.key x < R.key y))
        ⟨[], none, none, rfl, rfl, List.Perm.refl _, List.Pairwise.nil⟩ (fun i σ H3 _ ⟨_, _, _, _, e, _⟩ => by rw [e]; exact SqL.of (up1 _ _ ela)) ?_ ?_⟩
      · rintro i x σ H3 hx ⟨out, v4, v5, rfl, rfl, hp, hs⟩
        refine ex_elim2 (getI hx) fun c hci exx => ?_
        subst exx
        have hmem : ∀ x ∈ out, x ∈ A := fun x hx => List.mem_of_mem_take (hp.mem_iff.mp hx)
        have hct := (hA c).mp (List.mem_of_getElem? hci)
        have hkb : ∀ x ∈ A, 0 ≤ R.kb x ∧ R.kb x < 1000 := fun x hx => kb_rng g ((hA x).mp hx).1
        have hlt : ∀ x ∈ out, R.kb x < R.kb c := fun x hx => by
          obtain ⟨j, hj, e⟩ := List.getElem_of_mem (hp.mem_iff.mp hx)
          rw [List.getElem_take] at e
          rw [List.length_take] at hj
          have hiA : i < A.length := (List.getElem?_eq_some_iff.mp hci).1
          have ec : c = A[i] := ((List.getElem?_eq_some_iff.mp hci).2).symm
          rw [← e, ec]
          exact List.pairwise_iff_getElem.mp hAp j i (by (first | lia | omega)) hiA (by (first | lia | omega))
        obtain ⟨ic, hic⟩ : ∃ i, R.pt c = some i := Option.isSome_iff_exists.mp hct.2.1
        obtain ⟨c0, c1⟩ := (g.tm c).mp hct.1
        have hatc : atI (R.points.map encO) c = some (encO (R.pt c)) := at_map c0 (by rw [g.pl]; exact c1)
        rw [hic] at hatc
        have hol : out.length ≤ n := by
          have := hp.length_eq
          rw [List.length_take] at this
          (first | lia | omega)
        have nxt : ∀ a : Nat, a ≤ out.length → (∀ y ∈ out.drop a, R.ka c < R.ka y) → (a = 0 ∨ ∃ z, out[a - 1]? = some z ∧ R.ka z ≤ R.ka c) → (out.take a ++ c :: out.drop a).Perm (A.take (i + 1)) ∧ (out.take a ++ c :: out.drop a).Pairwise (fun x y => R.key x < R.key y) := fun a ha hd hz => by
          refine ⟨?_, ins_ok hs (fun x hx => hkb x (hmem x hx)) (hkb c (List.mem_of_getElem? hci)) hlt ha hd hz⟩
          rw [List.take_add_one, hci]
          exact ins_perm.trans (List.Perm.append_right [c] hp)
        refine ⟨_, rfl, lo, _, rfl, .inl (SqL.of upd_same), ?_⟩
        rw [List.length_map]
        refine ⟨fun m σ H3 => σ = [some (.ref p), some (.ref l), some (.ref la), some (.ref lo), some (.int c), some (.int (m : Int))] ∧ H3 = upd H1 lo (.lst (out.map V.int)) ∧ m ≤ out.length ∧ ∀ y ∈ out.drop m, R.ka c < R.ka y, ⟨out.length, rfl, rfl, Nat.le_refl _, by simp⟩, ?_⟩
        rintro m σ H3 ⟨rfl, rfl, ha, hd⟩
        have ent : ∀ {o : HO}, upd (upd H1 lo (.lst (out.map V.int))) lo o = upd H1 lo o := upd_upd
        have emap : (out.map V.int).take ((m : Int)).toNat ++ V.int c :: (out.map V.int).drop ((m : Int)).toNat = (out.take m ++ c :: out.drop m).map V.int := by
          rw [Int.toNat_natCast, List.map_append, List.map_cons, List.map_take, List.map_drop]
        refine ⟨_, rfl, _, _, rfl, rfl, _, rfl, ?_⟩
        refine ite2 (fun hb => ?_) (fun hb => ?_)
        · have hm0 : (0 : Int) < m := of_decide_eq_true hb
          have hml : m - 1 < out.length := by (first | lia | omega)
          have hzA : out[m - 1] ∈ A := hmem _ (List.getElem_mem hml)
          obtain ⟨iz, hiz⟩ : ∃ i, R.pt out[m - 1] = some i := Option.isSome_iff_exists.mp ((hA _).mp hzA).2.1
          obtain ⟨z0, z1⟩ := (g.tm _).mp ((hA _).mp hzA).1
          have hatz : atI (R.points.map encO) out[m - 1] = some (encO (R.pt out[m - 1])) := at_map z0 (by rw [g.pl]; exact z1)
          rw [hiz] at hatz
          have hato : atI (out.map V.int) ((m : Int) - 1) = some (.int out[m - 1]) := by
            have q2 := atI_nat (xs := out.map V.int) (j := m - 1) (v := .int out[m - 1]) (by rw [List.getElem?_map, List.getElem?_eq_getElem hml]; rfl)
            rwa [show (((m - 1 : Nat)) : Int) = (m : Int) - 1 by (first | lia | omega)] at q2
          have ekz : R.ka out[m - 1] = -iz := by unfold RowD.ka; rw [hiz]; rfl
          have ekc : R.ka c = -ic := by unfold RowD.ka; rw [hic]; rfl
          have rr1 := up1 (o := .lst (out.map V.int)) _ _ (s1 _ _ r1)
          have rr2 := up1 (o := .lst (out.map V.int)) _ _ (s1 _ _ r2)
          refine ⟨_, rfl, p, _, _, _, rfl, rfl, SqT.of rr1, atI_nat (j := 4) rfl, _, rfl, _, rfl, _, _, rfl, rfl, lo, _, _, _, rfl, rfl, SqL.of upd_same, hato, lp, _, _, _, rfl, rfl, SqL.of rr2, hatz, _, rfl, p, _, _, _, rfl, rfl, SqT.of rr1, atI_nat (j := 4) rfl, _, rfl, lp, _, _, _, rfl, rfl, SqL.of rr2, hatc, iz, ic, rfl, rfl, _, rfl, ?_⟩
          refine ite2 (fun hc => ?_) (fun hc => ?_)
          · have hlt2 : iz < ic := of_decide_eq_true hc
            refine ⟨fun σ' H' => σ' = [some (.ref p), some (.ref l), some (.ref la), some (.ref lo), some (.int c), some (.int ((m - 1 : Nat) : Int))] ∧ H' = upd H1 lo (.lst (out.map V.int)) ∧ m - 1 ≤ out.length ∧ ∀ y ∈ out.drop (m - 1), R.ka c < R.ka y, fun σ' H' h => ⟨m - 1, by (first | lia | omega), h⟩, _, rfl, _, _, rfl, rfl, ?_⟩
            refine ⟨?_, rfl, by (first | lia | omega), fun y hy => ?_⟩
            · rw [show (((m - 1 : Nat)) : Int) = (m : Int) - 1 by (first | lia | omega)]
              rfl
            · rw [List.drop_eq_getElem_cons hml] at hy
              rcases List.mem_cons.mp hy with rfl | hy
              · (first | lia | omega)
              · rw [show m - 1 + 1 = m by (first | lia | omega)] at hy
                exact hd y hy
          · have hge : ¬ iz < ic := fun z => hc (decide_eq_true z)
            obtain ⟨np, ns⟩ := nxt m ha hd (.inr ⟨out[m - 1], List.getElem?_eq_getElem hml, by (first | lia | omega)⟩)
            refine ⟨_, rfl, .inl ⟨rfl, _, SqL.of upd_same⟩, _, rfl, _, rfl, lo, _, _, _, rfl, rfl, upd_same, by (first | lia | omega), by rw [List.length_map]; (first | lia | omega), by rw [List.length_map]; (first | lia | omega), ?_⟩
            rw [ent, emap]
            exact ⟨_, _, _, rfl, rfl, np, ns⟩
        · have hm0 : m = 0 := by
            have : ¬ (0 : Int) < m := fun z => hb (decide_eq_true z)
            (first | lia | omega)
          obtain ⟨np, ns⟩ := nxt m ha hd (.inl hm0)
          refine ⟨_, rfl, .inl ⟨rfl, _, SqL.of upd_same⟩, _, rfl, _, rfl, lo, _, _, _, rfl, rfl, upd_same, by (first | lia | omega), by rw [List.length_map]; (first | lia | omega), by rw [List.length_map]; (first | lia | omega), ?_⟩
          rw [ent, emap]
          exact ⟨_, _, _, rfl, rfl, np, ns⟩
      · rintro σ H3 ⟨out, v4, v5, rfl, rfl, hp, hs⟩
        rw [List.length_map, List.take_length] at hp
        refine ⟨_, rfl, ?_⟩
        have e : out = R.rank (inL cs) := rank_eq' g (hp.nodup_iff.mpr hAn) (fun c => hp.mem_iff.trans (hA c)) hs
        rw [e]
        exact q lo _ (s1.trans up1) (s1.free nlo) upd_same
theorem scLChosen : FnScope ["row", "comers", "taken", "inside", "k", "free"] ["row", "comers"] (defScope sLChosen) := ⟨rfl, rfl, rfl, by decide +kernel, rfl, by decide +kernel, by decide +kernel⟩
theorem ok_lchosen {f : Addr} {fd : FuncData} (F : FnAt K mg "_law_chosen" sLChosen ["row", "comers"] f fd) (T : Cl K mg C) (Cr : Callee P w K mg base 1 "_law_ranked" ["row", "comers"] (spLRank K)) : Callee P w K mg base 2 "_law_chosen" ["row", "comers"] (spLChosen K) := by
  refine F.callee (F.fn.ok scLChosen (fun vs H Q E h => ?_) (fun cdv A outer s H vs Q E hr h => ?_))
  · obtain ⟨p, l, cs, R, n, rfl, _⟩ := h
    rfl
  · obtain ⟨p, l, cs, R, n, rfl, hRow, g, hS, q⟩ := h
    have hu := hu_of hr
    refine ⟨_, pss_cons (ps_set (i := 2) scLChosen.nd rfl (Or.inl rfl) pe_dnewK)
      (pss_cons (ps_set (i := 3) scLChosen.nd rfl (Or.inl rfl) pe_int)
      (pss_cons (ps_for PassesOwn.never rfl (pi_list (pe_fn Cr hr (pa_cons (pv 0) (pa_cons (pv 1) pa_nil)))) (pg_name (i := 4) scLChosen.nd rfl (Or.inl rfl))
        (pss_one (ps_if (pw_and (pt_cmpR op_eq (pe_ix ix_list (pe_ix ix_tup (pv 0) pe_int (fun _ _ => rfl)) (pv 4) (fun _ _ => rfl)) (pe_ix ix_tup (pv 0) pe_int (fun _ _ => rfl)) (nomark _)) (pw_and1 (pt_cmpR op_lt (pv 3) (pe_ix ix_tup (pv 0) pe_int (fun _ _ => rfl)) (nomark _)))).pt
          (pss_cons (ps_dput hu (pv 2) (pv 4) pe_bl rfl) (pss_one (ps_set (i := 3) scLChosen.nd rfl (Or.inl rfl) (pe_op op_add (pv 3) pe_int)))) pss_nil)))
      (pss_cons (ps_set (i := 5) scLChosen.nd rfl (Or.inl rfl) (pe_op op_sub (pe_ix ix_tup (pv 0) pe_int (fun _ _ => rfl)) (pe_ix ix_tup (pv 0) pe_int (fun _ _ => rfl))))
      (pss_cons (ps_if (pt_truth (pe_ix ix_tup (pv 0) pe_int (fun _ _ => rfl)) (fun _ => rfl)) (pss_one (ps_set (i := 5) scLChosen.nd rfl (Or.inl rfl) (pe_op op_sub (pe_ix ix_tup (pv 0) pe_int (fun _ _ => rfl)) (pv 3)))) pss_nil)
      (pss_cons (ps_for PassesOwn.never rfl (pi_list (pe_fn Cr hr (pa_cons (pv 0) (pa_cons (pv 1) pa_nil)))) (pg_name (i := 4) scLChosen.nd rfl (Or.inl rfl))
        (pss_one (ps_if (pw_and (pt_cmp (pc_dnotin hu (pv 4) (pv 2)) (by with_unfolding_all rfl)) (pw_and1 (pt_cmpR op_gt (pv 5) pe_int (nomark _)))).pt
          (pss_cons (ps_dput hu (pv 2) (pv 4) pe_bl rfl) (pss_one (ps_set (i := 5) scLChosen.nd rfl (Or.inl rfl) (pe_op op_sub (pv 5) pe_int)))) pss_nil)))
      (pss_one (ps_ret (pe_callB (call_sortedD rfl) rfl T.b.sorted PyProof.Rows.boot_sorted (pa_cons (pv 2) pa_nil))))))))), ?_⟩
    obtain ⟨lp, lk, lt, r1, r2, r3, r4⟩ := id hRow
    have hnn := g.nn
    intro ld nld
    have up1 : ∀ {o : HO}, Same H (upd H ld o) := Same.new nld
    refine ⟨_, rfl, _, rfl, p, l, cs, R, n, rfl, hRow.up up1, g, up1.seq hS, fun m H1 s1 nm em => ?_⟩
    have nml : m ≠ ld := fun z => by rw [z, upd_same] at nm; cases nm
    have sd : Same H (del H1 ld) := del_of (up1.trans s1) nld
    have hL : ∀ c ∈ R.rank (inL cs), 0 ≤ c ∧ c < n := fun c h => (g.tm c).mp (mem_full.mp (List.mem_filter.mp h).1).1
    have hLn : (R.rank (inL cs)).Nodup := rank_nodup g
    have hLl : (R.rank (inL cs)).length ≤ n := good_len hLn hL
    have e1 : H1 ld = some (.dK (tk [])) := s1 _ _ upd_same
    have em1 : del H1 ld m = some (.lst ((R.rank (inL cs)).map V.int)) := by rw [del_ne nml]; exact em
    refine ⟨m, rfl, ⟨_, SqL.of em⟩, for_list (K := K) (a := m) (xs := (R.rank (inL cs)).map V.int) (fun i σ H3 => ∃ (A : List Int) (v4 : Option V), σ = [some (.ref p), some (.ref l), some (.ref ld), some (.int A.length), v4, none] ∧ H3 ld = some (.dK (tk A)) ∧ Same (del H1 ld) H3 ∧ A = (((R.rank (inL cs)).take i).filter R.ofKind).take R.kept.toNat)
      ⟨[], none, rfl, e1, del_le, by simp⟩ (fun i σ H3 _ ⟨_, _, _, _, e, _⟩ => SqL.of (e _ _ em1)) ?_ ?_⟩
    · rintro i x σ H3 hx ⟨A, v4, rfl, ed, se, eA⟩
      refine ex_elim2 (getI hx) fun c hci exx => ?_
      subst exx
      obtain ⟨c0, c1⟩ := hL c (List.mem_of_getElem? hci)
      have hat : atI (R.kinds.map V.int) c = some (.int (R.kd c)) := at_map c0 (by rw [g.kl]; exact c1)
      have sH := sd.trans se
      have st := step_take (p := R.ofKind) (m := R.kept.toNat) hci
      rw [← eA] at st
      have hAl : A.length ≤ n := by
        have h1 := List.length_take_le R.kept.toNat (((R.rank (inL cs)).take i).filter R.ofKind)
        have h2 := List.length_take_le' R.kept.toNat (((R.rank (inL cs)).take i).filter R.ofKind)
        have h3 := List.length_filter_le R.ofKind ((R.rank (inL cs)).take i)
        rw [List.length_take] at h3
        rw [eA]
        (first | lia | omega)
      have cA : c ∉ A := fun z => by
        rw [eA] at z
        exact not_in_take hLn hci (List.mem_filter.mp (List.mem_of_mem_take z)).1
      have no : ¬ (R.ofKind c = true ∧ A.length < R.kept.toNat) → ∃ (B : List Int) (v4 : Option V), [some (V.ref p), some (.ref l), some (.ref ld), some (.int A.length), some (.int c), none] = [some (.ref p), some (.ref l), some (.ref ld), some (.int B.length), v4, none] ∧ H3 ld = some (.dK (tk B)) ∧ Same (del H1 ld) H3 ∧ B = (((R.rank (inL cs)).take (i + 1)).filter R.ofKind).take R.kept.toNat :=
        fun z => ⟨A, _, rfl, ed, se, (st.2 z).symm⟩
      refine ⟨_, rfl, p, _, _, _, rfl, rfl, SqT.of (sH _ _ r1), atI_nat (j := 5) rfl, _, rfl, lk, _, _, _, rfl, rfl, SqL.of (sH _ _ r3), hat, _, rfl, p, _, _, _, rfl, rfl, SqT.of (sH _ _ r1), atI_nat (j := 2) rfl, rfl, _, rfl, ?_⟩
      rw [dec_int]
      have ek : (R.kd c == R.kind) = R.ofKind c := by unfold RowD.ofKind; by_cases h : R.kd c = R.kind <;> simp [h]
      rw [ek]
      refine ite2 (fun hb => ?_) (fun hb => iteF (no fun z => hb z.1))
      refine ⟨_, rfl, _, rfl, p, _, _, _, rfl, rfl, SqT.of (sH _ _ r1), atI_nat (j := 1) rfl, _, _, rfl, rfl, _, rfl, ?_⟩
      have k0 := g.k0
      refine ite2 (fun hc => ?_) (fun hc => no fun z => hc (decide_eq_true (by (first | lia | omega))))
      have hlt : (A.length : Int) < R.kept := of_decide_eq_true hc
      refine ⟨_, rfl, _, rfl, ld, _, rfl, DPut.k (k := Sum.inl c) ed (by unfold tk; rw [List.length_map]; exact Nat.lt_of_lt_of_le (show A.length < 1000000 by (first | lia | omega)) (fits (Nat.le_refl _))), ?_⟩
      rw [tk_put cA]
      refine ⟨_, rfl, _, _, rfl, rfl, A ++ [c], some (.int c), ?_, upd_same, ?_, (st.1 ⟨hb, by (first | lia | omega)⟩).symm⟩
      · rw [List.length_append, List.length_singleton]
        rfl
      · exact se.wr (by unfold del; rw [if_pos rfl])
    · rintro σ H3 ⟨A, v4, rfl, ed, se, eA⟩
      rw [List.length_map, List.take_length] at eA
      have eA' : A = R.keep (inL cs) := eA
      subst eA'
      have sH := sd.trans se
      refine ⟨_, rfl, p, _, _, _, rfl, rfl, SqT.of (sH _ _ r1), atI_nat (j := 0) rfl, _, rfl, p, _, _, _, rfl, rfl, SqT.of (sH _ _ r1), atI_nat (j := 1) rfl, _, _, rfl, rfl, ?_⟩
      refine ⟨_, rfl, p, _, _, _, rfl, rfl, SqT.of (sH _ _ r1), atI_nat (j := 3) rfl, R.opened, rfl, ?_⟩
      have f0 := free_nonneg (p := inL cs) g
      have pl : (R.pick (inL cs)).length ≤ n := good_len (pick_nodup g) fun c h => (g.tm c).mp (mem_full.mp (pick_sub h).1).1
      refine ite2 (fun hb => ⟨_, rfl, p, _, _, _, rfl, rfl, SqT.of (sH _ _ r1), atI_nat (j := 0) rfl, _, rfl, _, _, rfl, rfl, ?_⟩) (fun hb => ?_)
      case' refine_1 =>
        have ef : R.seats - ((R.keep (inL cs)).length : Int) = R.free (inL cs) := by unfold RowD.free; rw [if_pos hb]
      case' refine_2 =>
        have ef : R.seats - R.kept = R.free (inL cs) := by unfold RowD.free; rw [if_neg hb]
      all_goals
        dsimp only
        rw [ef]
        refine ⟨_, rfl, _, rfl, p, l, cs, R, n, rfl, hRow.up sH, g, sH.seq hS, fun m2 H4 s4 nm2 em2 => ?_⟩
        have nml2 : m2 ≠ ld := fun z => by rw [z, ed] at nm2; cases nm2
        have sd2 : Same H (del H4 ld) := del_of (sH.trans s4) nld
        have e2 : H4 ld = some (.dK (tk (R.keep (inL cs) ++ []))) := by rw [List.append_nil]; exact s4 _ _ ed
        have em3 : del H4 ld m2 = some (.lst ((R.rank (inL cs)).map V.int)) := by rw [del_ne nml2]; exact em2
        refine ⟨m2, rfl, ⟨_, SqL.of em2⟩, for_list (K := K) (a := m2) (xs := (R.rank (inL cs)).map V.int) (fun i σ H5 => ∃ (B : List Int) (v4 : Option V), σ = [some (.ref p), some (.ref l), some (.ref ld), some (.int (R.keep (inL cs)).length), v4, some (.int (R.free (inL cs) - B.length))] ∧ H5 ld = some (.dK (tk (R.keep (inL cs) ++ B))) ∧ Same (del H4 ld) H5 ∧
            B = (((R.rank (inL cs)).take i).filter fun c => !decide (c ∈ R.keep (inL cs))).take (R.free (inL cs)).toNat)
          ⟨[], _, by rw [show R.free (inL cs) - (([] : List Int).length : Int) = R.free (inL cs) by simp]; rfl, e2, del_le, by simp⟩ (fun i σ H3 _ ⟨_, _, _, _, e, _⟩ => SqL.of (e _ _ em3)) ?_ ?_⟩
        · rintro i x σ H5 hx ⟨B, v4, rfl, ed5, se5, eB⟩
          refine ex_elim2 (getI hx) fun c hci exx => ?_
          subst exx
          have st := step_take (p := fun c => !decide (c ∈ R.keep (inL cs))) (m := (R.free (inL cs)).toNat) hci
          rw [← eB] at st
          have cB : c ∉ B := fun z => by
            rw [eB] at z
            exact not_in_take hLn hci (List.mem_filter.mp (List.mem_of_mem_take z)).1
          have eN : (!decide (c ∈ R.keep (inL cs) ++ B)) = !decide (c ∈ R.keep (inL cs)) := by
            congr 1
            rw [decide_eq_decide, List.mem_append]
            exact ⟨fun z => z.elim id fun y => absurd y cB, .inl⟩
          have no : ¬ ((!decide (c ∈ R.keep (inL cs))) = true ∧ B.length < (R.free (inL cs)).toNat) → ∃ (B' : List Int) (v4 : Option V), [some (V.ref p), some (.ref l), some (.ref ld), some (.int (R.keep (inL cs)).length), some (.int c), some (.int (R.free (inL cs) - B.length))] = [some (.ref p), some (.ref l), some (.ref ld), some (.int (R.keep (inL cs)).length), v4, some (.int (R.free (inL cs) - B'.length))] ∧
              H5 ld = some (.dK (tk (R.keep (inL cs) ++ B'))) ∧ Same (del H4 ld) H5 ∧ B' = (((R.rank (inL cs)).take (i + 1)).filter fun c => !decide (c ∈ R.keep (inL cs))).take (R.free (inL cs)).toNat :=
            fun z => ⟨B, _, rfl, ed5, se5, (st.2 z).symm⟩
          refine ⟨_, rfl, _, rfl, ld, _, rfl, DGet.k (k := Sum.inl c) ed5, _, rfl, ?_⟩
          rw [tk_val, eN]
          refine ite2 (fun hk => ?_) (fun hk => iteF (no fun z => hk z.1))
          refine ⟨_, rfl, _, _, rfl, rfl, _, rfl, ?_⟩
          refine ite2 (fun hc => ?_) (fun hc => no fun z => hc (decide_eq_true (by (first | lia | omega))))
          have hlt : (0 : Int) < R.free (inL cs) - B.length := of_decide_eq_true hc
          have hkn : c ∉ R.keep (inL cs) ++ B := by
            have : decide (c ∈ R.keep (inL cs) ++ B) = false := by
              have h2 : (!decide (c ∈ R.keep (inL cs) ++ B)) = true := eN.trans hk
              simpa using h2
            exact of_decide_eq_false this
          have hBl : B.length ≤ i := by
            rw [eB]
            exact Nat.le_trans (List.length_take_le' _ _) (len_filter _ i)
          have hil : i < (R.rank (inL cs)).length := (List.getElem?_eq_some_iff.mp hci).1
          have hkl : (R.keep (inL cs)).length ≤ n := by
            have := pl
            unfold RowD.pick at this
            rw [List.length_append] at this
            (first | lia | omega)
          refine ⟨_, rfl, _, rfl, ld, _, rfl, DPut.k (k := Sum.inl c) ed5 (by unfold tk; rw [List.length_map, List.length_append]; exact Nat.lt_of_lt_of_le (show (R.keep (inL cs)).length + B.length < 1000000 by (first | lia | omega)) (fits (Nat.le_refl _))), ?_⟩
          rw [tk_put hkn]
          refine ⟨_, rfl, _, _, rfl, rfl, B ++ [c], some (.int c), ?_, by rw [upd_same, List.append_assoc], ?_, (st.1 ⟨hk, by (first | lia | omega)⟩).symm⟩
          · rw [List.length_append, List.length_singleton]
            rw [show R.free (inL cs) - ((B.length + 1 : Nat) : Int) = R.free (inL cs) - (B.length : Int) - 1 by (first | lia | omega)]
            rfl
          · exact se5.wr (by unfold del; rw [if_pos rfl])
        · rintro σ H5 ⟨B, v4, rfl, ed5, se5, eB⟩
          rw [List.length_map, List.take_length] at eB
          have eP : R.keep (inL cs) ++ B = R.pick (inL cs) := by rw [eB]; rfl
          rw [eP] at ed5
          have sH5 := sd2.trans se5
          refine ⟨_, rfl, ld, R.pick (inL cs), (R.pick (inL cs)).map fun _ => V.bl true, rfl, by rw [List.length_map], by rw [tk_intD]; exact ed5, by (first | lia | omega), fun ms l' hp hs hl' => ?_⟩
          exact q l' ms _ (sH5.up hl') (sH5.free hl') hp hs upd_same
end
end K13

set_option Elab.async false
set_option linter.all false
set_option maxRecDepth 100000
set_option maxHeartbeats 4000000
namespace K13
open PySem L2 Hse
/-! ### places -/
def plc (ps : List (Option Int)) (c : Int) : Option Int := ps.getD c.toNat none
def heldL (ps : List (Option Int)) (h : Int) : List Int := (rng ps.length).filter fun c => decide (plc ps c = some h)
theorem encO_int {o : Option Int} {h : Int} : decide (encO o = V.int h) = decide (o = some h) := by
  cases o with
  | none => rfl
  | some i =>
    rw [decide_eq_decide]
    show V.int i = V.int h ↔ _
    exact ⟨fun e => by rw [V.int.inj e], fun e => by rw [Option.some.inj e]⟩
theorem encO_scal {o : Option Int} {h : Int} : scal (encO o) (.int h) = true := by cases o <;> rfl
theorem encO_scal' {o : Option Int} {h : Int} : scal (.int h) (encO o) = true := by cases o <;> rfl
theorem int_encO {o : Option Int} {h : Int} : decide (V.int h = encO o) = decide (o = some h) := by
  rw [← encO_int]
  rw [decide_eq_decide]
  exact eq_comm
theorem len_heldL (ps : List (Option Int)) (h : Int) : (heldL ps h).length ≤ ps.length := by
  have := List.length_filter_le (fun c => decide (plc ps c = some h)) (rng ps.length)
  rw [rng_len] at this
  exact this
/-- the places until the first that is h -/
theorem rather_at : ∀ {ws : List Int} {h : Int} {i : Nat}, ws[i]? = some h → (∀ x ∈ ws.take i, x ≠ h) → rather ws (some h) = ws.take i
  | [], _, i, e, _ => by simp at e
  | x :: ws, h, 0, e, _ => by
    have e : x = h := by simpa using e
    show (x :: ws).takeWhile (fun g => decide (g ≠ h)) = []
    rw [List.takeWhile_cons, if_neg (by simpa using e)]
  | x :: ws, h, i + 1, e, hn => by
    have hx : x ≠ h := hn x (by rw [List.take_succ_cons]; exact List.mem_cons_self)
    show (x :: ws).takeWhile (fun g => decide (g ≠ h)) = x :: ws.take i
    rw [List.takeWhile_cons, if_pos (by simpa using hx)]
    congr 1
    exact rather_at (by simpa using e) fun y hy => hn y (by rw [List.take_succ_cons]; exact List.mem_cons_of_mem _ hy)
theorem rather_no {ws : List Int} {o : Option Int} (hn : ∀ x ∈ ws, o ≠ some x) : rather ws o = ws := by
  cases o with
  | none => rfl
  | some h =>
    show ws.takeWhile (fun g => decide (g ≠ h)) = ws
    induction ws with
    | nil => rfl
    | cons x ws ih =>
      rw [List.takeWhile_cons, if_pos (by
        have : x ≠ h := fun e => hn x List.mem_cons_self (by rw [e])
        simpa using this)]
      rw [ih fun y hy => hn y (List.mem_cons_of_mem _ hy)]
/-! ### pairs, fairness -/
def row0 : RowD := ⟨0, 0, 0, false, [], [], []⟩
def rowOf (Rs : List RowD) (h : Int) : RowD := Rs.getD h.toNat row0
def wishOf (wss : List (List Int)) (c : Int) : List Int := wss.getD c.toNat []
/-- the house would choose k out of those it holds and k -/
def likes (Rs : List RowD) (ps : List (Option Int)) (k h : Int) : Bool := decide (k ∈ (rowOf Rs h).pick (inL (heldL ps h ++ [k])))
def pairsOf (wss : List (List Int)) (Rs : List RowD) (ps : List (Option Int)) (k : Int) : List (Int × Int) := ((rather (wishOf wss k) (plc ps k)).filter (likes Rs ps k)).map fun h => (k, h)
def pairsL (wss : List (List Int)) (Rs : List RowD) (ps : List (Option Int)) : List (Int × Int) := (rng ps.length).flatMap (pairsOf wss Rs ps)
def PairAt (H : Hp) (a : Addr) (p : Int × Int) : Prop := H a = some (.tup [.int p.1, .int p.2])
/-- wishes, rows and places as the law hands them about -/
structure Wld (K : PySem.W.Frag) (H : Hp) (lw lr lp : Addr) (wss : List (List Int)) (Rs : List RowD) (ps : List (Option Int)) : Prop where
  w : ∃ was : List Addr, SqL K H lw (was.map V.ref) ∧ Paired (WishAt H) was wss
  r : ∃ ras : List Addr, SqL K H lr (ras.map V.ref) ∧ Paired (RowAt H) ras Rs
  p : SqL K H lp (ps.map encO)
  n : wss.length = ps.length
  n24 : ps.length ≤ 24
  h24 : Rs.length ≤ 24
  g : ∀ R ∈ Rs, Good R ps.length
  wg : ∀ ws ∈ wss, WGood Rs.length ws
theorem Wld.up {K : PySem.W.Frag} {H H' : Hp} {lw lr lp : Addr} {wss : List (List Int)} {Rs : List RowD} {ps : List (Option Int)} (s : Same H H') (x : Wld K H lw lr lp wss Rs ps) : Wld K H' lw lr lp wss Rs ps := by
  obtain ⟨⟨was, a1, a2⟩, ⟨ras, b1, b2⟩, c, d, e, f, g, h⟩ := x
  exact ⟨⟨was, s.seq a1, Paired.mapP a2 fun _ _ z => z.up s⟩, ⟨ras, s.seq b1, Paired.mapP b2 fun _ _ z => z.up s⟩, s.seq c, d, e, f, g, h⟩
/-! ### fair -/
def hallOf (wss : List (List Int)) (Rs : List RowD) : Hall := ⟨wss.length, rng Rs.length, wishOf wss, rowOf Rs⟩
theorem heldL_mem {ps : List (Option Int)} {h c : Int} : c ∈ heldL ps h ↔ (0 ≤ c ∧ c < ps.length) ∧ plc ps c = some h := by
  unfold heldL
  rw [List.mem_filter, rng_mem, decide_eq_true_eq]
theorem heldL_eq {wss : List (List Int)} {Rs : List RowD} {ps : List (Option Int)} (hn : wss.length = ps.length) (h : Int) : inL (heldL ps h) = (hallOf wss Rs).held (plc ps) h := by
  funext c
  unfold inL Hall.held
  rw [decide_eq_decide, heldL_mem]
  show _ ↔ (0 ≤ c ∧ c < (wss.length : Nat)) ∧ _
  rw [hn]
theorem heldL_plus {wss : List (List Int)} {Rs : List RowD} {ps : List (Option Int)} (hn : wss.length = ps.length) (h k : Int) : inL (heldL ps h ++ [k]) = plus ((hallOf wss Rs).held (plc ps) h) k := by
  rw [← heldL_eq hn]
  funext c
  unfold inL plus
  rw [← Bool.decide_or, decide_eq_decide, List.mem_append, List.mem_singleton]
theorem heldL_sorted (ps : List (Option Int)) (h : Int) : (heldL ps h).Pairwise (· ≤ ·) := by
  unfold heldL
  refine List.Pairwise.filter _ ?_
  unfold rng
  rw [List.pairwise_map, List.pairwise_iff_getElem]
  intro i j hi hj hij
  simp
  (first | lia | omega)
theorem heldL_nodup (ps : List (Option Int)) (h : Int) : (heldL ps h).Nodup := (rng_nodup _).filter _
theorem hall_ok {wss : List (List Int)} {Rs : List RowD} (g : ∀ R ∈ Rs, Good R wss.length) (wg : ∀ ws ∈ wss, WGood Rs.length ws) : (hallOf wss Rs).Ok := by
  refine ⟨rng_nodup _, fun c h hh => ?_, fun h hh => ?_⟩
  · refine (rng_mem _ _).mpr ?_
    have hh : h ∈ wss.getD c.toNat [] := hh
    by_cases z : c.toNat < wss.length
    · rw [List.getD_eq_getElem?_getD, List.getElem?_eq_getElem z] at hh
      exact (wg _ (List.getElem_mem z)).2 h hh
    · rw [List.getD_eq_getElem?_getD, List.getElem?_eq_none (by (first | lia | omega))] at hh
      cases hh
  · obtain ⟨h0, h1⟩ := (rng_mem _ _).mp hh
    have z : h.toNat < Rs.length := by (first | lia | omega)
    show Good (Rs.getD h.toNat row0) wss.length
    rw [List.getD_eq_getElem?_getD, List.getElem?_eq_getElem z]
    exact g _ (List.getElem_mem z)
/-- the three looks of the law are what Fair says -/
theorem fair_looks {wss : List (List Int)} {Rs : List RowD} {ps : List (Option Int)} (hn : wss.length = ps.length) (g : ∀ R ∈ Rs, Good R wss.length) (wg : ∀ ws ∈ wss, WGood Rs.length ws) :
    ((∀ k : Int, 0 ≤ k → k < ps.length → ∀ h, plc ps k = some h → h ∈ wishOf wss k) ∧ (∀ h : Int, 0 ≤ h → h < Rs.length → ∀ ms : List Int, ms.Perm ((rowOf Rs h).pick (inL (heldL ps h))) → ms.Pairwise (· ≤ ·) → ms = heldL ps h) ∧ pairsL wss Rs ps = []) ↔ (hallOf wss Rs).Fair (plc ps) := by
  have ok := hall_ok g wg
  have com : ∀ c, (hallOf wss Rs).comer c ↔ 0 ≤ c ∧ c < ps.length := fun c => by
    show 0 ≤ c ∧ c < (wss.length : Nat) ↔ _
    rw [hn]
  constructor
  · rintro ⟨a1, a2, a3⟩
    refine ⟨fun c h hc e => a1 c ((com c).mp hc).1 ((com c).mp hc).2 h e, fun h hh c hc => ?_, fun c h hc hr hp => ?_⟩
    · obtain ⟨h0, h1⟩ := (rng_mem _ _).mp hh
      have e := a2 h h0 h1 (((rowOf Rs h).pick (inL (heldL ps h))).mergeSort fun a b => decide (a ≤ b)) (List.mergeSort_perm _ _) (by
        have := List.pairwise_mergeSort (le := fun a b : Int => decide (a ≤ b)) (fun a b c x y => decide_eq_true (Int.le_trans (of_decide_eq_true x) (of_decide_eq_true y))) (fun a b => by
          rcases Int.le_total a b with z | z
          · rw [decide_eq_true z]; rfl
          · rw [decide_eq_true z, Bool.or_true]) ((rowOf Rs h).pick (inL (heldL ps h)))
        exact this.imp fun z => of_decide_eq_true z)
      have hm : c ∈ heldL ps h := by
        have := hc
        rw [← heldL_eq hn] at this
        exact of_decide_eq_true this
      rw [← e, (List.mergeSort_perm _ _).mem_iff] at hm
      rw [← heldL_eq hn]
      exact hm
    · have : ((c, h) : Int × Int) ∈ pairsL wss Rs ps := by
        unfold pairsL
        refine List.mem_flatMap.mpr ⟨c, (rng_mem _ _).mpr ((com c).mp hc), ?_⟩
        unfold pairsOf
        refine List.mem_map.mpr ⟨h, List.mem_filter.mpr ⟨hr, ?_⟩, rfl⟩
        unfold likes
        refine decide_eq_true ?_
        rw [heldL_plus hn]
        exact hp
      rw [a3] at this
      cases this
  · intro f
    refine ⟨fun k k0 k1 h e => f.own k h ((com k).mpr ⟨k0, k1⟩) e, fun h h0 h1 ms pm sm => ?_, ?_⟩
    · have hh : h ∈ (hallOf wss Rs).hs := (rng_mem _ _).mpr ⟨h0, h1⟩
      refine sorted_eq ?_ sm (heldL_sorted ps h)
      refine pm.trans ((List.perm_ext_iff_of_nodup (pick_nodup (ok.good h hh)) (heldL_nodup ps h)).mpr fun c => ?_)
      constructor
      · intro z
        exact of_decide_eq_true (pick_sub z).2
      · intro z
        have := f.all h hh c (by rw [← heldL_eq hn]; exact decide_eq_true z)
        rw [← heldL_eq hn] at this
        exact this
    · refine List.eq_nil_iff_forall_not_mem.mpr fun p hp => ?_
      unfold pairsL at hp
      obtain ⟨c, hc, hp⟩ := List.mem_flatMap.mp hp
      unfold pairsOf at hp
      obtain ⟨h, hh, _⟩ := List.mem_map.mp hp
      obtain ⟨hr, hl⟩ := List.mem_filter.mp hh
      unfold likes at hl
      have := of_decide_eq_true hl
      rw [heldL_plus hn] at this
      exact f.nob c h ((com c).mpr ((rng_mem _ _).mp hc)) hr this
def spLHeld (K : PySem.W.Frag) : Sp := fun vs H Q _ => ∃ (l : Addr) (ps : List (Option Int)) (h : Int), vs = [.ref l, .int h] ∧ SqL K H l (ps.map encO) ∧ ps.length ≤ 24 ∧ ∀ m H', Same H H' → H m = none → H' m = some (.lst ((heldL ps h).map V.int)) → Q (.ref m) H'
def spLRather (K : PySem.W.Frag) : Sp := fun vs H Q _ => ∃ (lw lp wa : Addr) (was : List Addr) (ps : List (Option Int)) (ws : List Int) (k : Nat), vs = [.ref lw, .ref lp, .int k] ∧ SqL K H lw (was.map V.ref) ∧ was[k]? = some wa ∧ WishAt H wa ws ∧ SqL K H lp (ps.map encO) ∧ k < ps.length ∧ ws.length ≤ 24 ∧
  ∀ m H', Same H H' → H m = none → H' m = some (.lst ((rather ws (plc ps k)).map V.int)) → Q (.ref m) H'
theorem inV_enc {o : Option Int} {ws : List Int} : inV (encO o) (ws.map V.int) = decide (∃ h, o = some h ∧ h ∈ ws) := by
  cases o with
  | none =>
    rw [decide_eq_false fun ⟨h, e, _⟩ => nomatch e]
    unfold inV
    rw [List.any_map, List.any_eq_false]
    intro x _
    exact Bool.false_ne_true
  | some h =>
    show inV (V.int h) _ = _
    rw [inV_int, decide_eq_decide]
    exact ⟨fun z => ⟨h, rfl, z⟩, fun ⟨g, e, z⟩ => by rw [Option.some.inj e]; exact z⟩
theorem flat_enc (o : Option Int) : flatV (encO o) = true := by cases o <;> rfl
/-! ### the law's look at fairness -/
def pairD (p : Int × Int) : PyData := .tuple [.int p.1, .int p.2]
theorem den_pairs {K : PySem.W.Frag} {H : Hp} : ∀ {tas : List Addr} {ps : List (Int × Int)}, Paired (PairAt H) tas ps → DenAll K H (tas.map V.ref) (ps.map pairD)
  | [], [], _ => .nil
  | _ :: _, _ :: _, .cons r1 r2 => .cons (.tuple (SqT.of r1) (.cons (.int _) (.cons (.int _) .nil))) (den_pairs r2)
theorem lay_pairs : ∀ ps : List (Int × Int), PyData.canLayAll0 (ps.map pairD) = true
  | [] => rfl
  | p :: ps => by
    show (PyData.canLay0 (pairD p) && PyData.canLayAll0 (ps.map pairD)) = true
    rw [lay_pairs ps]
    rfl
theorem eqv_nil (ds : List PyData) : PyData.eqv (.list ds) (.list []) = decide (ds = []) := by
  cases ds with
  | nil => rfl
  | cons d ds => simp [PyData.eqv, PyData.eqvAll]
theorem eqv_two (as bs : List Int) : PyData.eqv (.list (as.map PyData.int)) (.list (bs.map PyData.int)) = decide (as = bs) := by
  have e : PyData.eqv (.list (as.map PyData.int)) (.list (bs.map PyData.int)) = PyData.eqvAll (as.map PyData.int) (bs.map PyData.int) := by simp [PyData.eqv]
  rw [e]
  induction as generalizing bs with
  | nil =>
    cases bs with
    | nil => rfl
    | cons b bs => rfl
  | cons a as ih =>
    cases bs with
    | nil => rfl
    | cons b bs =>
      have e2 : PyData.eqvAll ((a :: as).map PyData.int) ((b :: bs).map PyData.int) = ((a == b) && PyData.eqvAll (as.map PyData.int) (bs.map PyData.int)) := by simp [PyData.eqv, PyData.eqvAll]
      rw [e2, ih bs (by simp [PyData.eqv])]
      by_cases h : a = b
      · subst h
        by_cases h2 : as = bs
        · simp [h2]
        · simp [h2]
      · simp [h]
/-! ### places as data -/
def encD : Option Int → PyData
  | none => .none
  | some i => .int i
theorem den_opt {K : PySem.W.Frag} {H : Hp} : ∀ ps : List (Option Int), DenAll K H (ps.map encO) (ps.map encD)
  | [] => .nil
  | none :: ps => .cons .non (den_opt ps)
  | some i :: ps => .cons (.int i) (den_opt ps)
theorem lay_opt : ∀ ps : List (Option Int), PyData.canLayAll0 (ps.map encD) = true
  | [] => rfl
  | none :: ps => by
    show (PyData.canLay0 .none && PyData.canLayAll0 (ps.map encD)) = true
    rw [lay_opt ps]; rfl
  | some i :: ps => by
    show (PyData.canLay0 (.int i) && PyData.canLayAll0 (ps.map encD)) = true
    rw [lay_opt ps]; rfl
theorem depth_opt (ps : List (Option Int)) : (PyData.list (ps.map encD)).depth ≤ 2 := by
  unfold PyData.depth
  have h2 : PyData.depthAll (ps.map encD) ≤ 1 := by
    induction ps with
    | nil => simp [PyData.depthAll]
    | cons n ns ih => cases n <;> simp only [List.map_cons, encD, PyData.depthAll, PyData.depth] <;> (first | lia | omega)
  (first | lia | omega)
theorem eqv_opt (as bs : List (Option Int)) : PyData.eqv (.list (as.map encD)) (.list (bs.map encD)) = decide (as = bs) := by
  have e : PyData.eqv (.list (as.map encD)) (.list (bs.map encD)) = PyData.eqvAll (as.map encD) (bs.map encD) := by simp [PyData.eqv]
  rw [e]
  clear e
  induction as generalizing bs with
  | nil =>
    cases bs with
    | nil => rfl
    | cons b bs => rfl
  | cons a as ih =>
    cases bs with
    | nil => rfl
    | cons b bs =>
      have e2 : PyData.eqvAll ((a :: as).map encD) ((b :: bs).map encD) = (decide (a = b) && PyData.eqvAll (as.map encD) (bs.map encD)) := by
        cases a <;> cases b <;> simp [PyData.eqv, PyData.eqvAll, encD]
        rename_i x y
        congr 1
      rw [e2, ih bs]
      by_cases h : a = b
      · subst h
        by_cases h2 : as = bs
        · simp [h2]
        · simp [h2]
      · simp [h]
/-- how many each house holds -/
theorem encO_none {o : Option Int} : decide (encO o = .non) = !o.isSome := by cases o <;> rfl
theorem enc_scal {o : Option Int} : scal (encO o) (encO o) = true := by cases o <;> rfl
end K13

set_option Elab.async false
set_option linter.all false
set_option maxRecDepth 100000
set_option maxHeartbeats 4000000
namespace K13
open PySem L2 Hse
section
variable {P : Program} {w : World} {K : PySem.W.Frag} {mg : Str → Option Value} {base : Heap} {C : Addr}
theorem scLHeld : FnScope ["places", "house"] ["places", "house"] (defScope sLHeld) := ⟨rfl, rfl, rfl, by decide +kernel, rfl, by decide +kernel, by decide +kernel⟩
theorem ok_lheld {f : Addr} {fd : FuncData} (F : FnAt K mg "_law_held" sLHeld ["places", "house"] f fd) (T : Cl K mg C) : Callee P w K mg base 1 "_law_held" ["places", "house"] (spLHeld K) := by
  refine F.callee (F.fn.ok scLHeld (fun vs H Q E h => ?_) (fun cdv A outer s H vs Q E hr h => ?_))
  · obtain ⟨l, ps, h, rfl, _⟩ := h
    rfl
  · obtain ⟨l, ps, h, rfl, hS, hl, q⟩ := h
    refine ⟨_, pss_one (ps_ret (pe_comp (M := ["places", "house"]) ⟨rfl, rfl, rfl, rfl, rfl, rfl, by decide +kernel⟩ rfl (pi_range1 rfl T.b.range (pa_cons (pe_len T.b call_len_seq (pv 0)) pa_nil))
      (fun B => pts_one (pt_cmpR op_eq (pe_ix ix_list (pv 1) (pv 0) (fun _ _ => rfl)) (pv 2) (nomark _))) (fun B => pv 0))), ?_⟩
    refine ⟨_, rfl, l, _, rfl, .inl hS, ?_⟩
    rw [List.length_map]
    refine ⟨(ps.length : Nat), rfl, by (first | lia | omega), by (first | lia | omega), comp_range (n := ps.length) (fun i ys H2 => H2 = H ∧ ys = (((rng ps.length).take i).filter fun c => decide (plc ps c = some h)).map V.int) (fits (by (first | lia | omega))) ⟨rfl, rfl⟩ ?_ ?_ ?_⟩
    · rintro i ys H2 ⟨_, rfl⟩
      rw [List.length_map]
      exact len_filter _ i
    · rintro i ys H2 B N1 N2 hi ⟨rfl, rfl⟩ k1 k2
      have hci : (rng ps.length)[i]? = some (0 + (i : Int)) := by rw [Int.zero_add]; exact rng_get hi
      refine ⟨_, rfl, _, rfl, l, _, _, _, rfl, rfl, hS, at_map (d := none) (by (first | lia | omega)) (by (first | lia | omega)), _, rfl, encO_scal, _, rfl, ?_⟩
      rw [encO_int]
      refine ite2 (fun hb => ⟨_, rfl, k1 _ _ ⟨rfl, ?_⟩⟩) (fun hb => k2 _ ⟨rfl, ?_⟩)
      · rw [take_filter hci, if_pos (show decide (plc ps (0 + (i : Int)) = some h) = true from hb), List.map_append]
        rfl
      · rw [take_filter hci, if_neg (show ¬ decide (plc ps (0 + (i : Int)) = some h) = true from hb), List.append_nil]
    · rintro ys H2 ⟨rfl, rfl⟩ acc hacc
      rw [show (rng ps.length).take ps.length = rng ps.length from List.take_of_length_le (by rw [rng_len]; exact Nat.le_refl _)]
      exact q acc _ (Same.new hacc) hacc upd_same
theorem scLRather : FnScope ["wishes", "places", "k", "row", "house"] ["wishes", "places", "k"] (defScope sLRather) := ⟨rfl, rfl, rfl, by decide +kernel, rfl, by decide +kernel, by decide +kernel⟩
theorem ok_lrather {f : Addr} {fd : FuncData} (F : FnAt K mg "_law_rather" sLRather ["wishes", "places", "k"] f fd) (T : Cl K mg C) : Callee P w K mg base 1 "_law_rather" ["wishes", "places", "k"] (spLRather K) := by
  refine F.callee (F.fn.ok scLRather (fun vs H Q E h => ?_) (fun cdv A outer s H vs Q E hr h => ?_))
  · obtain ⟨lw, lp, wa, was, ps, ws, k, rfl, _⟩ := h
    rfl
  · obtain ⟨lw, lp, wa, was, ps, ws, k, rfl, hW, ewa, hws, hS, hk, hl, q⟩ := h
    refine ⟨_, pss_cons (ps_set (i := 3) scLRather.nd rfl (Or.inl rfl) (pe_lst pa_nil))
      (pss_cons (ps_for PassesOwn.never rfl (pi_list (pe_ix ix_list (pv 0) (pv 2) (fun _ _ => rfl))) (pg_name (i := 4) scLRather.nd rfl (Or.inl rfl))
        (pss_cons (ps_if (pt_cmpR op_eq (pv 4) (pe_ix ix_list (pv 1) (pv 2) (fun _ _ => rfl)) (nomark _)) (pss_one (ps_ret (pv 3))) pss_nil)
        (pss_one (ps_expr (pe_bm PySem.F.plainAttrs_list PySem.F.slot_list_append PySem.F.type_list_append mt_append (pv 3) (pa_cons (pv 4) pa_nil))))))
      (pss_one (ps_ret (pv 3)))), ?_⟩
    refine ⟨Nat.zero_le _, fun lr nlr => ?_⟩
    have up1 : ∀ {o : HO}, Same H (upd H lr o) := Same.new nlr
    have hatk : atI (was.map V.ref) (k : Int) = some (.ref wa) := atI_nat (by rw [List.getElem?_map, ewa]; rfl)
    refine ⟨_, rfl, _, rfl, lw, _, _, _, rfl, rfl, up1.seq hW, hatk, wa, rfl, ⟨_, SqL.of (up1 _ _ hws)⟩, for_list (K := K) (a := wa) (xs := ws.map V.int) (fun i σ H2 => ∃ v, σ = [some (.ref lw), some (.ref lp), some (.int k), some (.ref lr), v] ∧ H2 = upd H lr (.lst ((ws.take i).map V.int)) ∧ ∀ x ∈ ws.take i, plc ps k ≠ some x)
      ⟨none, rfl, rfl, (fun _ h => nomatch h)⟩ (fun i σ H2 _ ⟨_, _, e, _⟩ => by rw [e]; exact SqL.of (up1 _ _ hws)) ?_ ?_⟩
    · rintro i x σ H2 hx ⟨v, rfl, rfl, hn⟩
      refine ex_elim2 (getI hx) fun h hhi exx => ?_
      subst exx
      refine ⟨_, rfl, _, rfl, _, rfl, lp, _, _, _, rfl, rfl, up1.seq hS, at_map (d := none) (by (first | lia | omega)) (by (first | lia | omega)), encO_scal', _, rfl, ?_⟩
      rw [int_encO]
      refine ite2 (fun hb => ⟨_, rfl, ?_⟩) (fun hb => ?_)
      · have e : plc ps k = some h := of_decide_eq_true hb
        refine q lr _ up1 nlr ?_
        rw [e, rather_at hhi fun y hy z => hn y hy (by rw [e, z])]
        exact upd_same
      · have ne : plc ps k ≠ some h := fun z => hb (decide_eq_true z)
        refine ⟨_, rfl, .inl ⟨rfl, _, SqL.of upd_same⟩, _, rfl, lr, _, _, rfl, rfl, upd_same, by rw [List.length_map, List.length_take]; exact Nat.lt_of_lt_of_le (show min i ws.length < 1000000 by (first | lia | omega)) (fits (Nat.le_refl _)), ?_⟩
        refine ⟨_, rfl, ?_, fun y hy => ?_⟩
        · rw [upd_upd, List.take_add_one, hhi, List.map_append]
          rfl
        · rw [List.take_add_one, hhi] at hy
          rcases List.mem_append.mp hy with z | z
          · exact hn y z
          · have : y = h := by simpa using z
            rw [this]; exact ne
    · rintro σ H2 ⟨v, rfl, rfl, hn⟩
      rw [List.length_map, List.take_length] at hn ⊢
      refine ⟨_, rfl, q lr _ up1 nlr ?_⟩
      rw [rather_no hn]
      exact upd_same
end
end K13

set_option Elab.async false
set_option linter.all false
set_option maxRecDepth 100000
set_option maxHeartbeats 4000000
namespace K13
open PySem L2 Hse
def spLPairs (K : PySem.W.Frag) : Sp := fun vs H Q _ => ∃ (lw lr lp : Addr) (wss : List (List Int)) (Rs : List RowD) (ps : List (Option Int)), vs = [.ref lw, .ref lr, .ref lp] ∧ Wld K H lw lr lp wss Rs ps ∧
  ∀ (m : Addr) (tas : List Addr) (H' : Hp), Same H H' → H m = none → H' m = some (.lst (tas.map V.ref)) → Paired (PairAt H') tas (pairsL wss Rs ps) → Q (.ref m) H'
section
variable {P : Program} {w : World} {K : PySem.W.Frag} {mg : Str → Option Value} {base : Heap} {C : Addr}
theorem scLPairs : FnScope ["wishes", "rows", "places", "pairs", "k", "house"] ["wishes", "rows", "places"] (defScope sLPairs) := ⟨rfl, rfl, rfl, by decide +kernel, rfl, by decide +kernel, by decide +kernel⟩
theorem ok_lpairs {f : Addr} {fd : FuncData} (F : FnAt K mg "_law_pairs" sLPairs ["wishes", "rows", "places"] f fd) (T : Cl K mg C) (Chd : Callee P w K mg base 1 "_law_held" ["places", "house"] (spLHeld K)) (Cra : Callee P w K mg base 1 "_law_rather" ["wishes", "places", "k"] (spLRather K))
    (Clc : Callee P w K mg base 2 "_law_chosen" ["row", "comers"] (spLChosen K)) : Callee P w K mg base 3 "_law_pairs" ["wishes", "rows", "places"] (spLPairs K) := by
  refine F.callee (F.fn.ok (k := 2) scLPairs (fun vs H Q E h => ?_) (fun cdv A outer s H vs Q E hr h => ?_))
  · obtain ⟨lw, lr, lp, wss, Rs, ps, rfl, _⟩ := h
    rfl
  · obtain ⟨lw, lr, lp, wss, Rs, ps, rfl, X, q⟩ := h
    have hr1 : Room 1 _ := hr.mono (by decide)
    refine ⟨_, pss_cons (ps_set (i := 3) scLPairs.nd rfl (Or.inl rfl) (pe_lst pa_nil))
      (pss_cons (ps_for PassesOwn.never rfl (pi_range1 rfl T.b.range (pa_cons (pe_len T.b call_len_seq (pv 2)) pa_nil)) (pg_name (i := 4) scLPairs.nd rfl (Or.inl rfl))
        (pss_one (ps_for PassesOwn.never rfl (pi_list (pe_fn Cra hr1 (pa_cons (pv 0) (pa_cons (pv 2) (pa_cons (pv 4) pa_nil))))) (pg_name (i := 5) scLPairs.nd rfl (Or.inl rfl))
          (pss_one (ps_if (pt_cmpR op_in_seq (pv 4) (pe_fn Clc hr (pa_cons (pe_ix ix_list (pv 1) (pv 5) (fun _ _ => rfl)) (pa_cons (pe_op op_cat (pe_fn Chd hr1 (pa_cons (pv 2) (pa_cons (pv 5) pa_nil))) (pe_lst (pa_cons (pv 4) pa_nil))) pa_nil))) (by with_unfolding_all rfl))
            (pss_one (ps_expr (pe_bm PySem.F.plainAttrs_list PySem.F.slot_list_append PySem.F.type_list_append mt_append (pv 3) (pa_cons (pe_tup (pa_cons (pv 4) (pa_cons (pv 5) pa_nil))) pa_nil)))) pss_nil)))))
      (pss_one (ps_ret (pv 3)))), ?_⟩
    have hn24 := X.n24
    have hh24 := X.h24
    refine ⟨Nat.zero_le _, fun lo nlo => ?_⟩
    have up1 : ∀ {o : HO}, Same H (upd H lo o) := Same.new nlo
    refine ⟨_, rfl, lp, _, rfl, .inl (up1.seq X.p), ?_⟩
    rw [List.length_map]
    refine ⟨(ps.length : Nat), rfl, by (first | lia | omega), by (first | lia | omega), for_range (n := ps.length) (fun i σ H2 => ∃ (tas : List Addr) (v4 v5 : Option V), σ = [some (.ref lw), some (.ref lr), some (.ref lp), some (.ref lo), v4, v5] ∧ H2 lo = some (.lst (tas.map V.ref)) ∧ Paired (PairAt (del H2 lo)) tas (((rng ps.length).take i).flatMap (pairsOf wss Rs ps)) ∧ Same H (del H2 lo) ∧ tas.length ≤ i * 24)
      ⟨[], none, none, rfl, upd_same, .nil, del_of up1 nlo, Nat.zero_le _⟩ ?_ ?_⟩
    · rintro i σ H2 hi ⟨tas, v4, v5, rfl, elo, pt, sd, htl⟩
      have X2 := (X.up sd).up del_le
      refine ex_elim2 (X2.w) fun was hw1 hw2 => ?_
      refine ex_elim2 (X2.r) fun ras hr2a hr2b => ?_
      have hiw : i < wss.length := by have := X.n; (first | lia | omega)
      refine ex_elim2 (Paired.at_ hw2 (List.getElem?_eq_getElem hiw)) fun wa ewa hwa => ?_
      have ewi : wishOf wss (0 + (i : Int)) = wss[i] := by
        unfold wishOf
        rw [Int.zero_add, Int.toNat_natCast]
        simp [hiw]
      refine And.elim (fun wnd wrg => ?_) (X.wg wss[i] (List.getElem_mem hiw))
      have wl : wss[i].length ≤ 24 := Nat.le_trans (good_len wnd wrg) hh24
      refine ⟨_, rfl, _, rfl, _, rfl, lw, lp, wa, was, ps, wss[i], i, (by rw [Int.zero_add]; rfl), hw1, ewa, hwa, X2.p, hi, wl, fun m H3 s3 nm em => ?_⟩
      have nmo : m ≠ lo := fun z => by rw [z, elo] at nm; cases nm
      have em' : del H3 lo m = some (.lst ((rather wss[i] (plc ps (i : Int))).map V.int)) := by rw [del_ne nmo]; exact em
      refine ⟨m, rfl, ⟨_, SqL.of em⟩, for_list (K := K) (a := m) (xs := (rather wss[i] (plc ps (i : Int))).map V.int) (fun j σ H4 => ∃ (tas : List Addr) (v5 : Option V), σ = [some (.ref lw), some (.ref lr), some (.ref lp), some (.ref lo), some (.int (0 + (i : Int))), v5] ∧ H4 lo = some (.lst (tas.map V.ref)) ∧
          Paired (PairAt (del H4 lo)) tas (((rng ps.length).take i).flatMap (pairsOf wss Rs ps) ++ (((rather wss[i] (plc ps (i : Int))).take j).filter (likes Rs ps (i : Int))).map fun h => ((i : Int), h)) ∧ Same (del H3 lo) (del H4 lo) ∧ tas.length ≤ i * 24 + j)
        ⟨tas, v5, rfl, s3 _ _ elo, by
          rw [List.take_zero, List.filter_nil, List.map_nil, List.append_nil]
          exact Paired.mapP pt fun _ _ z => del_mono s3 _ _ z, Same.refl _, by (first | lia | omega)⟩ (fun j σ H4 _ ⟨_, _, _, _, _, e, _⟩ => SqL.of (del_le _ _ (e _ _ em'))) ?_ ?_⟩
      · rintro j x σ H4 hx ⟨tas, v5, rfl, elo4, pt4, sd4, htl4⟩
        refine ex_elim2 (getI hx) fun h hhj exx => ?_
        subst exx
        have hL : (rather wss[i] (plc ps (i : Int))).length ≤ 24 := by
          have : (rather wss[i] (plc ps (i : Int))).length ≤ wss[i].length := by
            cases plc ps (i : Int) with
            | none => exact Nat.le_refl _
            | some g => exact (List.takeWhile_sublist _).length_le
          (first | lia | omega)
        have hjl : j < (rather wss[i] (plc ps (i : Int))).length := (List.getElem?_eq_some_iff.mp hhj).1
        refine And.elim (fun h0 h1 => ?_) (wrg h (rather_sub (List.mem_of_getElem? hhj)))
        have X4 := ((X2.up s3 |> fun _ => (X.up sd).up (del_mono s3)).up sd4).up del_le
        refine ex_elim2 (X4.r) fun ras hr4a hr4b => ?_
        have hhR : h.toNat < Rs.length := by (first | lia | omega)
        refine ex_elim2 (Paired.at_ hr4b (List.getElem?_eq_getElem hhR)) fun ra era hra => ?_
        have eR : rowOf Rs h = Rs[h.toNat] := by unfold rowOf; simp [hhR]
        have g := X.g _ (List.getElem_mem hhR)
        have hatr : atI (ras.map V.ref) h = some (.ref ra) := by
          have q2 := atI_nat (xs := ras.map V.ref) (j := h.toNat) (v := .ref ra) (by rw [List.getElem?_map, era]; rfl)
          rwa [show ((h.toNat : Nat) : Int) = h by (first | lia | omega)] at q2
        refine ⟨_, rfl, _, rfl, _, rfl, lr, _, _, _, rfl, rfl, hr4a, hatr, _, rfl, _, rfl, lp, ps, h, rfl, X4.p, hn24, fun mh H5 s5 nmh emh => ?_⟩
        refine ⟨_, rfl, fits (Nat.le_of_ble_eq_true rfl), fun lk nlk => ?_⟩
        have hlh := len_heldL ps h
        refine ⟨mh, lk, _, _, rfl, rfl, (Same.new nlk) _ _ emh, upd_same, by rw [List.length_map]; exact fits (by simp; (first | lia | omega)), fun lc nlc => ?_⟩
        have s7 := (s5.up (o := .lst [.int (0 + (i : Int))]) nlk).up (o := .lst ((heldL ps h).map V.int ++ [.int (0 + (i : Int))])) nlc
        have ecs : (heldL ps h).map V.int ++ [.int (0 + (i : Int))] = (heldL ps h ++ [(i : Int)]).map V.int := by rw [Int.zero_add, List.map_append]; rfl
        rw [ecs] at s7 ⊢
        refine ⟨ra, lc, heldL ps h ++ [(i : Int)], Rs[h.toNat], ps.length, rfl, hra.up s7, g, SqL.of upd_same, fun mc ms H8 s8 nmc pms sms emc => ?_⟩
        have s48 := s7.trans s8
        refine ⟨mc, _, rfl, .inl (SqL.of emc), rfl, flat_ints _, _, rfl, ?_⟩
        rw [if_neg Bool.false_ne_true, inV_int]
        have elk : decide (0 + (i : Int) ∈ ms) = likes Rs ps (i : Int) h := by
          unfold likes
          rw [decide_eq_decide, Int.zero_add, pms.mem_iff, eR]
        rw [elk]
        refine ite2 (fun hb => ?_) (fun hb => ?_)
        · have elo8 := s48 _ _ elo4
          refine ⟨_, rfl, .inl ⟨rfl, _, SqL.of elo8⟩, _, rfl, _, rfl, fits (Nat.le_of_ble_eq_true rfl), fun tp ntp => ?_⟩
          have s89 : Same H8 (upd H8 tp (.tup [.int (0 + (i : Int)), .int h])) := Same.new ntp
          have elo9 := s89 _ _ elo8
          have ntlo : tp ≠ lo := fun z => by rw [z, elo8] at ntp; cases ntp
          refine ⟨lo, _, .ref tp, rfl, rfl, elo9, by rw [List.length_map]; exact Nat.lt_of_lt_of_le (show tas.length < 1000000 by (first | lia | omega)) (fits (Nat.le_refl _)), ?_⟩
          have sdel : Same (del H4 lo) (del (upd H8 tp (.tup [.int (0 + (i : Int)), .int h])) lo) := del_mono (s48.trans s89)
          refine ⟨tas ++ [tp], _, rfl, by rw [upd_same, List.map_append]; rfl, ?_, by rw [del_upd]; exact sd4.trans sdel, by rw [List.length_append, List.length_singleton]; (first | lia | omega)⟩
          rw [del_upd, take_filter hhj, if_pos hb, List.map_append, ← List.append_assoc]
          refine Paired.snoc ?_ (Paired.mapP pt4 fun _ _ z => sdel _ _ z)
          show del _ lo tp = _
          rw [del_ne ntlo, upd_same, Int.zero_add]
        · refine ⟨tas, _, rfl, s48 _ _ elo4, ?_, sd4.trans (del_mono s48), by (first | lia | omega)⟩
          rw [take_filter hhj, if_neg hb, List.append_nil]
          exact Paired.mapP pt4 fun _ _ z => del_mono s48 _ _ z
      · rintro σ H4 ⟨tas, v5, rfl, elo4, pt4, sd4, htl4⟩
        rw [List.length_map, List.take_length] at pt4
        refine ⟨tas, _, _, rfl, elo4, ?_, (sd.trans (del_mono s3)).trans sd4, ?_⟩
        · rw [List.take_add_one, rng_get hi, List.flatMap_append]
          have e : (some (i : Int)).toList.flatMap (pairsOf wss Rs ps) = ((rather wss[i] (plc ps (i : Int))).filter (likes Rs ps (i : Int))).map fun h => ((i : Int), h) := by
            show pairsOf wss Rs ps (i : Int) ++ [] = _
            rw [List.append_nil]
            unfold pairsOf
            rw [← Int.zero_add (i : Int), ewi, Int.zero_add]
          rw [e]
          exact pt4
        · have hL : (rather wss[i] (plc ps (i : Int))).length ≤ wss[i].length := by
            cases plc ps (i : Int) with
            | none => exact Nat.le_refl _
            | some g => exact (List.takeWhile_sublist _).length_le
          rw [List.length_map] at htl4
          (first | lia | omega)
    · rintro σ H2 ⟨tas, v4, v5, rfl, elo, pt, sd, htl⟩
      rw [show (rng ps.length).take ps.length = rng ps.length from List.take_of_length_le (by rw [rng_len]; exact Nat.le_refl _)] at pt
      exact ⟨_, rfl, q lo tas H2 (sd.trans del_le) nlo elo (Paired.mapP pt fun _ _ z => del_le _ _ z)⟩
end
end K13

set_option Elab.async false
set_option linter.all false
set_option maxRecDepth 100000
set_option maxHeartbeats 4000000
namespace K13
open PySem L2 Hse
def spLFair (K : PySem.W.Frag) : Sp := fun vs H Q _ => ∃ (lw lr lp : Addr) (wss : List (List Int)) (Rs : List RowD) (ps : List (Option Int)), vs = [.ref lw, .ref lr, .ref lp] ∧ Wld K H lw lr lp wss Rs ps ∧
  ∀ (b : Bool) (H' : Hp), Same H H' → (b = true ↔ (hallOf wss Rs).Fair (plc ps)) → Q (.bl b) H'
section
variable {P : Program} {w : World} {K : PySem.W.Frag} {mg : Str → Option Value} {base : Heap} {C : Addr}
theorem scLFair : FnScope ["wishes", "rows", "places", "k", "house"] ["wishes", "rows", "places"] (defScope sLFair) := ⟨rfl, rfl, rfl, by decide +kernel, rfl, by decide +kernel, by decide +kernel⟩
theorem ok_lfair {f : Addr} {fd : FuncData} (F : FnAt K mg "_law_fair" sLFair ["wishes", "rows", "places"] f fd) (T : Cl K mg C) (Chd : Callee P w K mg base 1 "_law_held" ["places", "house"] (spLHeld K))
    (Clc : Callee P w K mg base 2 "_law_chosen" ["row", "comers"] (spLChosen K)) (Clp : Callee P w K mg base 3 "_law_pairs" ["wishes", "rows", "places"] (spLPairs K)) : Callee P w K mg base 4 "_law_fair" ["wishes", "rows", "places"] (spLFair K) := by
  refine F.callee (F.fn.ok (k := 3) scLFair (fun vs H Q E h => ?_) (fun cdv A outer s H vs Q E hr h => ?_))
  · obtain ⟨lw, lr, lp, wss, Rs, ps, rfl, _⟩ := h
    rfl
  · obtain ⟨lw, lr, lp, wss, Rs, ps, rfl, X, q⟩ := h
    have hr1 : Room 1 _ := hr.mono (by decide)
    have hr2 : Room 2 _ := hr.mono (by decide)
    refine ⟨_, pss_cons (ps_for PassesOwn.never rfl (pi_range1 rfl T.b.range (pa_cons (pe_len T.b call_len_seq (pv 2)) pa_nil)) (pg_name (i := 3) scLFair.nd rfl (Or.inl rfl))
        (pss_one (ps_if (pw_and (pt_cmpR op_notN (pe_ix ix_list (pv 2) (pv 3) (fun _ _ => rfl)) pe_non (nomark _)) (pw_and1 (pt_cmpR op_notIn_seq (pe_ix ix_list (pv 2) (pv 3) (fun _ _ => rfl)) (pe_ix ix_list (pv 0) (pv 3) (fun _ _ => rfl)) (by with_unfolding_all rfl)))).pt (pss_one (ps_ret pe_bl)) pss_nil)))
      (pss_cons (ps_for PassesOwn.never rfl (pi_range1 rfl T.b.range (pa_cons (pe_len T.b call_len_seq (pv 1)) pa_nil)) (pg_name (i := 4) scLFair.nd rfl (Or.inl rfl))
        (pss_one (ps_if (pt_cmpR (op_neD hr) (pe_fn Clc hr2 (pa_cons (pe_ix ix_list (pv 1) (pv 4) (fun _ _ => rfl)) (pa_cons (pe_fn Chd hr1 (pa_cons (pv 2) (pa_cons (pv 4) pa_nil))) pa_nil))) (pe_fn Chd hr1 (pa_cons (pv 2) (pa_cons (pv 4) pa_nil))) (nomark _)) (pss_one (ps_ret pe_bl)) pss_nil)))
      (pss_one (ps_ret (pe_cmpR (op_eqD hr) (pe_fn Clp hr (pa_cons (pv 0) (pa_cons (pv 1) (pa_cons (pv 2) pa_nil)))) (pe_lst pa_nil) (nomark _))))), ?_⟩
    have hn24 := X.n24
    have hh24 := X.h24
    have hnn := X.n
    have looks := fair_looks (wss := wss) (Rs := Rs) (ps := ps) X.n (by rw [X.n]; exact X.g) X.wg
    refine ⟨_, rfl, lp, _, rfl, .inl X.p, ?_⟩
    rw [List.length_map]
    refine ⟨(ps.length : Nat), rfl, by (first | lia | omega), by (first | lia | omega), for_range (n := ps.length) (fun i σ H2 => H2 = H ∧ (∃ v, σ = [some (.ref lw), some (.ref lr), some (.ref lp), v, none]) ∧ ∀ k : Int, 0 ≤ k → k < i → ∀ h, plc ps k = some h → h ∈ wishOf wss k)
      ⟨rfl, ⟨none, rfl⟩, fun k k0 k1 => absurd k1 (by (first | lia | omega))⟩ ?_ ?_⟩
    · rintro i σ H2 hi ⟨rfl, ⟨v, rfl⟩, ih⟩
      refine ex_elim2 (X.w) fun was hw1 hw2 => ?_
      have hiw : i < wss.length := by (first | lia | omega)
      refine ex_elim2 (Paired.at_ hw2 (List.getElem?_eq_getElem hiw)) fun wa ewa hwa => ?_
      have ewi : wishOf wss (0 + (i : Int)) = wss[i] := by
        unfold wishOf
        rw [Int.zero_add, Int.toNat_natCast]
        simp [hiw]
      have hatk : atI (was.map V.ref) (0 + (i : Int)) = some (.ref wa) := by rw [Int.zero_add]; exact atI_nat (by rw [List.getElem?_map, ewa]; rfl)
      have hatp : atI (ps.map encO) (0 + (i : Int)) = some (encO (plc ps (0 + (i : Int)))) := at_map (by (first | lia | omega)) (by (first | lia | omega))
      have go : (∀ h, plc ps (0 + (i : Int)) = some h → h ∈ wishOf wss (0 + (i : Int))) → ∀ k : Int, 0 ≤ k → k < ((i + 1 : Nat) : Int) → ∀ h, plc ps k = some h → h ∈ wishOf wss k := fun z k k0 k1 => by
        by_cases e : k = 0 + (i : Int)
        · rw [e]; exact z
        · exact ih k k0 (by (first | lia | omega))
      refine ⟨_, rfl, _, rfl, lp, _, _, _, rfl, rfl, X.p, hatp, rfl, _, rfl, ?_⟩
      rw [encO_some]
      refine ite2 (fun hb => ?_) (fun hb => ?_)
      · obtain ⟨h, eh⟩ := Option.isSome_iff_exists.mp hb
        rw [eh] at hatp
        refine ⟨_, rfl, _, rfl, lp, _, _, _, rfl, rfl, X.p, hatp, _, rfl, _, rfl, lw, _, _, _, rfl, rfl, hw1, hatk, wa, _, rfl, .inl (SqL.of hwa), rfl, flat_ints _, _, rfl, ?_⟩
        rw [if_pos rfl]
        have ein : inV (encO (some h)) (wss[i].map V.int) = decide (h ∈ wss[i]) := inV_int
        rw [ein]
        refine ite2 (fun hc => ?_) (fun hc => ?_)
        · have hno : h ∉ wss[i] := by
            intro z
            rw [decide_eq_true z] at hc
            cases hc
          refine q false _ (Same.refl _) ⟨fun z => (nomatch z), fun fr => ?_⟩
          have := (looks.mpr fr).1 (0 + (i : Int)) (by (first | lia | omega)) (by (first | lia | omega)) h eh
          rw [ewi] at this
          exact absurd this hno
        · have hyes : h ∈ wss[i] := by
            refine Classical.byContradiction fun z => hc ?_
            rw [decide_eq_false z]
            rfl
          refine ⟨rfl, ⟨_, rfl⟩, go fun h' e' => ?_⟩
          rw [eh] at e'
          rw [← Option.some.inj e', ewi]
          exact hyes
      · refine iteF ⟨rfl, ⟨_, rfl⟩, go fun h' e' => ?_⟩
        rw [e'] at hb
        exact absurd rfl hb
    · rintro σ H2 ⟨rfl, ⟨v, rfl⟩, ih⟩
      refine ex_elim2 (X.r) fun ras hr0a hr0b => ?_
      refine ⟨_, rfl, lr, _, rfl, .inl hr0a, ?_⟩
      rw [List.length_map, show ras.length = Rs.length from Paired.length hr0b]
      refine ⟨(Rs.length : Nat), rfl, by (first | lia | omega), by (first | lia | omega), for_range (n := Rs.length) (fun i σ H3 => Same H2 H3 ∧ (∃ v4, σ = [some (.ref lw), some (.ref lr), some (.ref lp), v, v4]) ∧ ∀ h : Int, 0 ≤ h → h < i → ∀ ms : List Int, ms.Perm ((rowOf Rs h).pick (inL (heldL ps h))) → ms.Pairwise (· ≤ ·) → ms = heldL ps h)
        ⟨Same.refl _, ⟨none, rfl⟩, fun k k0 k1 => absurd k1 (by (first | lia | omega))⟩ ?_ ?_⟩
      · rintro i σ H3 hi ⟨s3, ⟨v4, rfl⟩, ih2⟩
        have X3 := X.up s3
        refine ex_elim2 (X3.r) fun ras hr3a hr3b => ?_
        refine ex_elim2 (Paired.at_ hr3b (List.getElem?_eq_getElem hi)) fun ra era hra => ?_
        have eR : rowOf Rs (0 + (i : Int)) = Rs[i] := by unfold rowOf; rw [Int.zero_add, Int.toNat_natCast]; simp [hi]
        have g := X.g _ (List.getElem_mem hi)
        have hatr : atI (ras.map V.ref) (0 + (i : Int)) = some (.ref ra) := by rw [Int.zero_add]; exact atI_nat (by rw [List.getElem?_map, era]; rfl)
        refine ⟨_, rfl, _, rfl, lr, _, _, _, rfl, rfl, hr3a, hatr, _, rfl, _, rfl, lp, ps, _, rfl, X3.p, hn24, fun mh H4 s4 nmh emh => ?_⟩
        refine ⟨ra, mh, heldL ps (0 + (i : Int)), Rs[i], ps.length, rfl, hra.up s4, g, SqL.of emh, fun mc ms H5 s5 nmc pms sms emc => ?_⟩
        refine ⟨_, rfl, _, rfl, lp, ps, _, rfl, (s4.trans s5).seq X3.p, hn24, fun mh2 H6 s6 nmh2 emh2 => ?_⟩
        obtain ⟨_, b2, b3⟩ := eqv_ints ms
        obtain ⟨_, c2, c3⟩ := eqv_ints (heldL ps (0 + (i : Int)))
        refine ⟨.list (ms.map PyData.int), .list ((heldL ps (0 + (i : Int))).map PyData.int), .list (SqL.of (s6 _ _ emc)) (DenAll.ints _), .list (SqL.of emh2) (DenAll.ints _), b2, c2, by (first | lia | omega), _, rfl, ?_⟩
        rw [eqv_two]
        have s36 := (s4.trans s5).trans s6
        refine ite2 (fun hb => ?_) (fun hb => ?_)
        · have hne : ms ≠ heldL ps (0 + (i : Int)) := by
            intro z
            rw [decide_eq_true z] at hb
            cases hb
          refine q false _ (s3.trans s36) ⟨fun z => (nomatch z), fun fr => absurd ((looks.mpr fr).2.1 (0 + (i : Int)) (by (first | lia | omega)) (by (first | lia | omega)) ms (by rw [eR]; exact pms) sms) hne⟩
        · have heq : ms = heldL ps (0 + (i : Int)) := by
            refine Classical.byContradiction fun z => hb ?_
            rw [decide_eq_false z]
            rfl
          refine ⟨s3.trans s36, ⟨_, rfl⟩, fun h h0 h1 ms' pm' sm' => ?_⟩
          by_cases e : h = 0 + (i : Int)
          · subst e
            rw [eR] at pm'
            rw [← heq]
            exact sorted_eq (pm'.trans pms.symm) sm' sms
          · exact ih2 h h0 (by (first | lia | omega)) ms' pm' sm'
      · rintro σ H3 ⟨s3, ⟨v4, rfl⟩, ih2⟩
        refine ⟨_, rfl, _, rfl, _, rfl, lw, lr, lp, wss, Rs, ps, rfl, X.up s3, fun m tas H4 s4 nm em pt => ?_⟩
        refine ⟨Nat.zero_le _, fun le nle => ?_⟩
        have s5 : Same H4 (upd H4 le (.lst [])) := Same.new nle
        refine ⟨.list ((pairsL wss Rs ps).map pairD), .list [], .list (SqL.of (s5 _ _ em)) (den_pairs (Paired.mapP pt fun _ _ z => s5 _ _ z)), .list (SqL.of upd_same) .nil, ?_, rfl, ?_, ?_⟩
        · show PyData.canLayAll0 _ = true
          exact lay_pairs _
        · have : (PyData.list []).depth ≤ 2 := by decide
          (first | lia | omega)
        rw [eqv_nil]
        refine q _ _ ((s3.trans s4).trans s5) ?_
        rw [decide_eq_true_eq, List.map_eq_nil_iff, ← looks]
        exact ⟨fun z => ⟨fun k k0 k1 => ih k k0 k1, fun h h0 h1 => ih2 h h0 h1, z⟩, fun z => z.2.2⟩
end
end K13

set_option Elab.async false
set_option linter.all false
set_option maxRecDepth 100000
set_option maxHeartbeats 4000000
namespace K13
open PySem L2 Hse
section
variable {P : Program} {w : World} {K : PySem.W.Frag} {mg : Str → Option Value} {base : Heap} {C : Addr}
theorem scHeld : FnScope ["places", "house"] ["places", "house"] (defScope sHeld) := ⟨rfl, rfl, rfl, by decide +kernel, rfl, by decide +kernel, by decide +kernel⟩
theorem ok_held {f : Addr} {fd : FuncData} (F : FnAt K mg "held" sHeld ["places", "house"] f fd) (T : Cl K mg C) : Callee P w K mg base 1 "held" ["places", "house"] (spLHeld K) := by
  refine F.callee (F.fn.ok scHeld (fun vs H Q E h => ?_) (fun cdv A outer s H vs Q E hr h => ?_))
  · obtain ⟨l, ps, h, rfl, _⟩ := h
    rfl
  · obtain ⟨l, ps, h, rfl, hS, hl, q⟩ := h
    refine ⟨_, pss_one (ps_ret (pe_comp (M := ["places", "house"]) ⟨rfl, rfl, rfl, rfl, rfl, rfl, by decide +kernel⟩ rfl (pi_range1 rfl T.b.range (pa_cons (pe_len T.b call_len_seq (pv 0)) pa_nil))
      (fun B => pts_one (pt_cmpR op_eq (pe_ix ix_list (pv 1) (pv 0) (fun _ _ => rfl)) (pv 2) (nomark _))) (fun B => pv 0))), ?_⟩
    refine ⟨_, rfl, l, _, rfl, .inl hS, ?_⟩
    rw [List.length_map]
    refine ⟨(ps.length : Nat), rfl, by (first | lia | omega), by (first | lia | omega), comp_range (n := ps.length) (fun i ys H2 => H2 = H ∧ ys = (((rng ps.length).take i).filter fun c => decide (plc ps c = some h)).map V.int) (fits (by (first | lia | omega))) ⟨rfl, rfl⟩ ?_ ?_ ?_⟩
    · rintro i ys H2 ⟨_, rfl⟩
      rw [List.length_map]
      exact len_filter _ i
    · rintro i ys H2 B N1 N2 hi ⟨rfl, rfl⟩ k1 k2
      have hci : (rng ps.length)[i]? = some (0 + (i : Int)) := by rw [Int.zero_add]; exact rng_get hi
      refine ⟨_, rfl, _, rfl, l, _, _, _, rfl, rfl, hS, at_map (d := none) (by (first | lia | omega)) (by (first | lia | omega)), _, rfl, encO_scal, _, rfl, ?_⟩
      rw [encO_int]
      refine ite2 (fun hb => ⟨_, rfl, k1 _ _ ⟨rfl, ?_⟩⟩) (fun hb => k2 _ ⟨rfl, ?_⟩)
      · rw [take_filter hci, if_pos (show decide (plc ps (0 + (i : Int)) = some h) = true from hb), List.map_append]
        rfl
      · rw [take_filter hci, if_neg (show ¬ decide (plc ps (0 + (i : Int)) = some h) = true from hb), List.append_nil]
    · rintro ys H2 ⟨rfl, rfl⟩ acc hacc
      rw [show (rng ps.length).take ps.length = rng ps.length from List.take_of_length_le (by rw [rng_len]; exact Nat.le_refl _)]
      exact q acc _ (Same.new hacc) hacc upd_same
end
end K13

set_option Elab.async false
set_option linter.all false
set_option maxRecDepth 100000
set_option maxHeartbeats 4000000
namespace K13
open PySem L2 Hse
section
variable {P : Program} {w : World} {K : PySem.W.Frag} {mg : Str → Option Value} {base : Heap} {C : Addr}
theorem scRather : FnScope ["wishes", "places", "comer", "row", "place"] ["wishes", "places", "comer"] (defScope sRather) := ⟨rfl, rfl, rfl, by decide +kernel, rfl, by decide +kernel, by decide +kernel⟩
theorem ok_rather {f : Addr} {fd : FuncData} (F : FnAt K mg "rather" sRather ["wishes", "places", "comer"] f fd) (T : Cl K mg C) : Callee P w K mg base 1 "rather" ["wishes", "places", "comer"] (spLRather K) := by
  refine F.callee (F.fn.ok scRather (fun vs H Q E h => ?_) (fun cdv A outer s H vs Q E hr h => ?_))
  · obtain ⟨lw, lp, wa, was, ps, ws, k, rfl, _⟩ := h
    rfl
  · obtain ⟨lw, lp, wa, was, ps, ws, k, rfl, hW, ewa, hws, hS, hk, hl, q⟩ := h
    refine ⟨_, pss_cons (ps_set (i := 3) scRather.nd rfl (Or.inl rfl) (pe_ix ix_list (pv 0) (pv 2) (fun _ _ => rfl)))
      (pss_cons (ps_set (i := 4) scRather.nd rfl (Or.inl rfl) (pe_ix ix_list (pv 1) (pv 2) (fun _ _ => rfl)))
      (pss_cons (ps_if (pt_cmpR op_in_seq (pv 4) (pv 3) (by with_unfolding_all rfl)) (pss_one (ps_ret (pe_slice sl_list (pv 3) po_none (po_some (pe_bm PySem.F.plainAttrs_list PySem.F.slot_list_index PySem.F.type_list_index mt_index (pv 3) (pa_cons (pv 4) pa_nil)))))) pss_nil)
      (pss_one (ps_ret (pe_callTy call_list_of rfl T.b.list PyProof.Rows.Boot.«list» (pa_cons (pv 3) pa_nil)))))), ?_⟩
    have hatk : atI (was.map V.ref) (k : Int) = some (.ref wa) := atI_nat (by rw [List.getElem?_map, ewa]; rfl)
    have hatp : atI (ps.map encO) (k : Int) = some (encO (plc ps (k : Int))) := at_map (d := none) (by (first | lia | omega)) (by (first | lia | omega))
    refine ⟨_, rfl, _, rfl, lw, _, _, _, rfl, rfl, hW, hatk, ?_⟩
    refine ⟨_, rfl, _, rfl, lp, _, _, _, rfl, rfl, hS, hatp, ?_⟩
    have hS : SqL K H wa (ws.map V.int) := SqL.of hws
    generalize plc ps (k : Int) = o at q
    refine ⟨_, rfl, _, rfl, wa, _, rfl, .inl hS, flat_enc o, flat_ints _, _, rfl, ?_⟩
    rw [if_neg Bool.false_ne_true, inV_enc]
    refine ite2 (fun hb => ?_) (fun hb => ?_)
    · obtain ⟨h, rfl, hm⟩ := of_decide_eq_true hb
      refine ⟨_, rfl, _, rfl, .inl ⟨rfl, _, hS⟩, _, rfl, wa, ws, h, rfl, rfl, hS, hm, by (first | lia | omega), _, rfl, wa, _, rfl, hS, fun p hp => ?_⟩
      rw [cut_take _ (by (first | lia | omega)), Int.toNat_natCast]
      have hi := List.idxOf_lt_length_iff.mpr hm
      have e : rather ws (some h) = ws.take (ws.idxOf h) := rather_at (i := ws.idxOf h) (by rw [List.getElem?_eq_getElem hi, List.getElem_idxOf hi]) fun x hx z => by
        obtain ⟨j, hj, e⟩ := List.getElem_of_mem hx
        rw [List.length_take] at hj
        rw [List.getElem_take] at e
        have := PyProof.Rows.ne_of_lt_idxOf (ns := ws) (k := h) (j := j) (by (first | lia | omega)) (by (first | lia | omega))
        rw [e, z] at this
        simp at this
      exact q p _ (Same.new hp) hp (by rw [upd_same, e])
    · refine ⟨_, rfl, wa, _, rfl, .inl hS, fun p hp => ?_⟩
      have e : rather ws o = ws := rather_no fun x hx z => hb (decide_eq_true ⟨x, z, hx⟩)
      exact q p _ (Same.new hp) hp (by rw [upd_same, e])
end
end K13

set_option Elab.async false
set_option linter.all false
set_option maxRecDepth 100000
set_option maxHeartbeats 4000000
namespace K13
open PySem L2 Hse
/-- the places given, whatever gives them -/
def spGranted (K : PySem.W.Frag) (C : Addr) : Sp := fun vs H Q _ => ∃ (lw lh : Addr) (was has : List Addr) (wss : List (List Int)) (Rs : List RowD), vs = [.ref lw, .ref lh] ∧ SqL K H lw (was.map V.ref) ∧ Paired (WishAt H) was wss ∧ SqL K H lh (has.map V.ref) ∧ Paired (HouseAt C H) has Rs ∧
  1 ≤ wss.length ∧ wss.length ≤ 24 ∧ Rs.length ≤ 24 ∧ (∀ R ∈ Rs, Good R wss.length) ∧ (∀ ws ∈ wss, WGood Rs.length ws) ∧
  ∀ (m : Addr) (ps : List (Option Int)) (H' : Hp), Same H H' → H m = none → H' m = some (.lst (ps.map encO)) → ps.length = wss.length → (hallOf wss Rs).Fair (plc ps) → (hallOf wss Rs).Best (plc ps) → Q (.ref m) H'
end K13

set_option Elab.async false
set_option linter.all false
set_option maxRecDepth 100000
set_option maxHeartbeats 4000000
namespace K13
open PySem L2 Hse
/-! ### rounds of asking: the mathematics over lists -/
def natV (n : Nat) : V := .int (n : Int)
def rho (rs : List Nat) (c : Int) : Nat := if 0 ≤ c then rs.getD c.toNat 0 else 0
def askL (wss : List (List Int)) (ps : List (Option Int)) (rs : List Nat) : List Int := ((rng wss.length).filter fun c => !(plc ps c).isSome).filter fun c => decide (rho rs c < (wishOf wss c).length)
def outOf (Rs : List RowD) (ps : List (Option Int)) (h : Int) : List Int := (heldL ps h).filter fun c => !decide (c ∈ (rowOf Rs h).pick (inL (heldL ps h)))
def outL (Rs : List RowD) (ps : List (Option Int)) : List Int := (rng Rs.length).flatMap (outOf Rs ps)
def taL (wss : List (List Int)) (rs : List Nat) (c : Int) : Option Int := (wishOf wss c)[rho rs c]?
structure GI (wss : List (List Int)) (Rs : List RowD) (ps : List (Option Int)) (rs : List Nat) : Prop where
  pl : ps.length = wss.length
  rl : rs.length = wss.length
  j : (hallOf wss Rs).Asked ((hallOf wss Rs).noR (rho rs))
  b : ∀ c, (hallOf wss Rs).comer c → plc ps c = none ∨ plc ps c = taL wss rs c
  st : ∀ h ∈ (hallOf wss Rs).hs, ∀ c, (hallOf wss Rs).held (plc ps) h c = true → c ∈ ((hallOf wss Rs).row h).pick ((hallOf wss Rs).held (plc ps) h)
  le : ∀ c, (hallOf wss Rs).comer c → rho rs c ≤ (wishOf wss c).length
def restL (wss : List (List Int)) (rs : List Nat) : Nat := ((rng wss.length).map fun c => (wishOf wss c).length - rho rs c).sum
def measL (wss : List (List Int)) (ps : List (Option Int)) (rs : List Nat) : Nat := 2 * restL wss rs + if askL wss ps rs = [] then 0 else 1
theorem wish_nodup {wss : List (List Int)} {Rs : List RowD} (wg : ∀ ws ∈ wss, WGood Rs.length ws) (c : Int) : (wishOf wss c).Nodup := by
  unfold wishOf
  by_cases z : c.toNat < wss.length
  · rw [List.getD_eq_getElem?_getD, List.getElem?_eq_getElem z]
    exact (wg _ (List.getElem_mem z)).1
  · rw [List.getD_eq_getElem?_getD, List.getElem?_eq_none (by (first | lia | omega))]
    exact List.nodup_nil
theorem askL_mem {wss : List (List Int)} {ps : List (Option Int)} {rs : List Nat} {c : Int} : c ∈ askL wss ps rs ↔ (0 ≤ c ∧ c < wss.length) ∧ plc ps c = none ∧ rho rs c < (wishOf wss c).length := by
  unfold askL
  rw [List.mem_filter, List.mem_filter, rng_mem, decide_eq_true_eq]
  cases plc ps c with
  | none => simp
  | some x => simp
theorem plc_get {ps : List (Option Int)} {c : Int} {x : Option Int} (h : ps[c.toNat]? = some x) : plc ps c = x := by unfold plc; rw [List.getD_eq_getElem?_getD, h]; rfl
theorem plc_put {g : Int → Option Int} {cs : List Int} {ps : List (Option Int)} {c : Int} (h0 : 0 ≤ c) (h1 : c < ps.length) (hc : ∀ c ∈ cs, 0 ≤ c) : plc (putL g cs ps) c = if c ∈ cs then g c else plc ps c := by
  have hl : c.toNat < ps.length := by (first | lia | omega)
  have := putL_get (g := g) h0 cs ps hc hl
  by_cases z : c ∈ cs
  · rw [if_pos z] at this ⊢; exact plc_get this
  · rw [if_neg z] at this ⊢
    refine plc_get (this.trans ?_)
    unfold plc
    rw [List.getD_eq_getElem?_getD, List.getElem?_eq_getElem hl]
    rfl
theorem rho_put {g : Int → Nat} {cs : List Int} {rs : List Nat} {c : Int} (h0 : 0 ≤ c) (h1 : c < rs.length) (hc : ∀ c ∈ cs, 0 ≤ c) : rho (putL g cs rs) c = if c ∈ cs then g c else rho rs c := by
  have hl : c.toNat < rs.length := by (first | lia | omega)
  have := putL_get (g := g) h0 cs rs hc hl
  unfold rho
  rw [if_pos h0, if_pos h0, List.getD_eq_getElem?_getD, List.getD_eq_getElem?_getD, this]
  by_cases z : c ∈ cs
  · rw [if_pos z, if_pos z]; rfl
  · rw [if_neg z, if_neg z]
theorem out_mem {Rs : List RowD} {ps : List (Option Int)} {c : Int} : c ∈ outL Rs ps ↔ ∃ h : Int, (0 ≤ h ∧ h < Rs.length) ∧ c ∈ heldL ps h ∧ c ∉ (rowOf Rs h).pick (inL (heldL ps h)) := by
  unfold outL
  rw [List.mem_flatMap]
  constructor
  · rintro ⟨h, hh, hc⟩
    obtain ⟨h1, h2⟩ := List.mem_filter.mp hc
    exact ⟨h, (rng_mem _ _).mp hh, h1, by simpa using h2⟩
  · rintro ⟨h, hh, h1, h2⟩
    exact ⟨h, (rng_mem _ _).mpr hh, List.mem_filter.mpr ⟨h1, by simpa using h2⟩⟩
theorem out_nodup (Rs : List RowD) (ps : List (Option Int)) : (outL Rs ps).Nodup := by
  refine List.nodup_iff_pairwise_ne.mpr ?_
  unfold outL
  rw [List.pairwise_flatMap]
  refine ⟨fun h _ => List.nodup_iff_pairwise_ne.mp ((heldL_nodup ps h).filter _), (List.nodup_iff_pairwise_ne.mp (rng_nodup Rs.length)).imp fun {a b} hab x hx y hy e => hab ?_⟩
  subst e
  have h1 := (heldL_mem.mp (List.mem_filter.mp hx).1).2
  have h2 := (heldL_mem.mp (List.mem_filter.mp hy).1).2
  rw [h1] at h2
  exact Option.some.inj h2
theorem out_due {wss : List (List Int)} {Rs : List RowD} {ps : List (Option Int)} (hn : wss.length = ps.length) {c : Int} : c ∈ outL Rs ps ↔ (hallOf wss Rs).Due (plc ps) c := by
  rw [out_mem]
  constructor
  · rintro ⟨h, hh, h1, h2⟩
    refine ⟨h, (rng_mem _ _).mpr hh, ?_, ?_⟩
    · rw [← heldL_eq hn]; exact decide_eq_true h1
    · rw [← heldL_eq hn]; exact h2
  · rintro ⟨h, hh, h1, h2⟩
    refine ⟨h, (rng_mem _ _).mp hh, ?_, ?_⟩
    · rw [← heldL_eq hn] at h1; exact of_decide_eq_true h1
    · rw [← heldL_eq hn] at h2; exact h2
theorem due_on {W : Hall} {μ μ' : Int → Option Int} (e : ∀ c, W.comer c → μ c = μ' c) {c : Int} (d : W.Due μ c) : W.Due μ' c := by
  have hd : ∀ h, W.held μ h = W.held μ' h := fun h => by
    funext c
    unfold Hall.held
    rw [decide_eq_decide]
    exact ⟨fun ⟨a, b⟩ => ⟨a, (e c a) ▸ b⟩, fun ⟨a, b⟩ => ⟨a, (e c a).symm ▸ b⟩⟩
  obtain ⟨h, hh, h1, h2⟩ := d
  rw [hd] at h1 h2
  exact ⟨h, hh, h1, h2⟩
section
variable {wss : List (List Int)} {Rs : List RowD} {ps : List (Option Int)} {rs : List Nat}
theorem ask_put (I : GI wss Rs ps rs) {c : Int} (hc : (hallOf wss Rs).comer c) : plc (putL (taL wss rs) (askL wss ps rs) ps) c = taL wss rs c := by
  have hc' : 0 ≤ c ∧ c < (wss.length : Nat) := hc
  rw [plc_put hc.1 (by rw [I.pl]; exact hc'.2) fun d hd => (askL_mem.mp hd).1.1]
  by_cases z : c ∈ askL wss ps rs
  · rw [if_pos z]
  · rw [if_neg z]
    rcases I.b c hc with e | e
    · have : ¬ rho rs c < (wishOf wss c).length := fun y => z (askL_mem.mpr ⟨hc', e, y⟩)
      rw [e]
      unfold taL
      rw [List.getElem?_eq_none (by (first | lia | omega))]
    · exact e
theorem ask_end (I : GI wss Rs ps rs) (z : askL wss ps rs = []) {c : Int} (hc : (hallOf wss Rs).comer c) : plc ps c = taL wss rs c := by
  have := ask_put I hc
  rw [z] at this
  exact this
theorem gi_done (g : ∀ R ∈ Rs, Good R wss.length) (wg : ∀ ws ∈ wss, WGood Rs.length ws) (I : GI wss Rs ps rs) (z : askL wss ps rs = []) : (hallOf wss Rs).Fair (plc ps) ∧ (hallOf wss Rs).Best (plc ps) :=
  asked_done (hall_ok g wg) (wish_nodup wg) I.j (fun c hc => ask_end I z hc) I.st
theorem gi_start (g : ∀ R ∈ Rs, Good R wss.length) (wg : ∀ ws ∈ wss, WGood Rs.length ws) : GI wss Rs (List.replicate wss.length none) (List.replicate wss.length 0) := by
  have e0 : rho (List.replicate wss.length 0) = fun _ => 0 := by
    funext c
    unfold rho
    split
    · rw [List.getD_eq_getElem?_getD, List.getElem?_replicate]
      split <;> rfl
    · rfl
  have p0 : ∀ c, plc (List.replicate wss.length none) c = none := fun c => by
    unfold plc
    rw [List.getD_eq_getElem?_getD, List.getElem?_replicate]
    split <;> rfl
  refine ⟨List.length_replicate, List.length_replicate, by rw [e0]; exact asked_none, fun c _ => .inl (p0 c), fun h hh c hc => ?_, fun c _ => by rw [e0]; exact Nat.zero_le _⟩
  have := (held_iff.mp hc).2
  rw [p0] at this
  cases this
/-- a round -/
theorem gi_step (g : ∀ R ∈ Rs, Good R wss.length) (wg : ∀ ws ∈ wss, WGood Rs.length ws) (I : GI wss Rs ps rs) (hne : askL wss ps rs ≠ []) {ps1 : List (Option Int)} (e1 : ps1 = putL (taL wss rs) (askL wss ps rs) ps) {out : List Int} (eo : out = outL Rs ps1) :
    GI wss Rs (putL (fun _ => none) out ps1) (putL (fun c => rho rs c + 1) out rs) ∧ measL wss (putL (fun _ => none) out ps1) (putL (fun c => rho rs c + 1) out rs) < measL wss ps rs := by
  have ok := hall_ok g wg
  have wn := wish_nodup (Rs := Rs) wg
  have l1 : wss.length = ps1.length := by rw [e1, putL_len, I.pl]
  have m1 : ∀ c, (hallOf wss Rs).comer c → plc ps1 c = taL wss rs c := fun c hc => by rw [e1]; exact ask_put I hc
  have hdue : ∀ c, c ∈ out ↔ (hallOf wss Rs).Due (plc ps1) c := fun c => by rw [eo]; exact out_due l1
  have hcm : ∀ c ∈ out, (hallOf wss Rs).comer c := fun c hc => by
    obtain ⟨h, _, h1, _⟩ := (hdue c).mp hc
    exact (held_iff.mp h1).1
  have hnn : ∀ c ∈ out, 0 ≤ c := fun c hc => (hcm c hc).1
  have l2 : (putL (fun _ => none) out ps1).length = wss.length := by rw [putL_len, l1]
  have r2 : (putL (fun c => rho rs c + 1) out rs).length = wss.length := by rw [putL_len, I.rl]
  have erho : rho (putL (fun c => rho rs c + 1) out rs) = Hse.bump (rho rs) out := by
    funext c
    unfold Hse.bump
    by_cases h0 : 0 ≤ c
    · by_cases h1 : c < rs.length
      · exact rho_put h0 h1 hnn
      · have : c ∉ out := fun z => by
          have := (hcm c z).2
          have : c < (wss.length : Nat) := this
          have := I.rl
          (first | lia | omega)
        rw [if_neg this]
        unfold rho
        rw [if_pos h0, if_pos h0, List.getD_eq_getElem?_getD, List.getD_eq_getElem?_getD, List.getElem?_eq_none (by rw [putL_len]; (first | lia | omega)), List.getElem?_eq_none (by (first | lia | omega))]
    · have : c ∉ out := fun z => h0 (hnn c z)
      rw [if_neg this]
      unfold rho
      rw [if_neg h0, if_neg h0]
  have p2 : ∀ c, (hallOf wss Rs).comer c → plc (putL (fun _ => none) out ps1) c = if c ∈ out then none else plc ps1 c := fun c hc => by
    have hc' : 0 ≤ c ∧ c < (wss.length : Nat) := hc
    exact plc_put hc'.1 (by rw [← l1]; exact hc'.2) hnn
  have hlt : ∀ c ∈ out, rho rs c < (wishOf wss c).length := fun c hc => by
    obtain ⟨h, _, h1, _⟩ := (hdue c).mp hc
    obtain ⟨cm, e⟩ := held_iff.mp h1
    rw [m1 c cm] at e
    exact (List.getElem?_eq_some_iff.mp e).1
  have I2 : GI wss Rs (putL (fun _ => none) out ps1) (putL (fun c => rho rs c + 1) out rs) := by
    refine ⟨l2, r2, ?_, fun c hc => ?_, fun h hh c hc => round_stay ok (fun c _ => hdue c) p2 hh hc, fun c hc => ?_⟩
    · rw [erho]
      exact asked_round ok wn out _ I.j (by rw [eo]; exact out_nodup _ _) fun c hc => due_on m1 ((hdue c).mp hc)
    · rw [p2 c hc]
      by_cases z : c ∈ out
      · rw [if_pos z]; exact .inl rfl
      · rw [if_neg z]
        refine .inr ?_
        rw [m1 c hc]
        unfold taL
        rw [erho]
        unfold Hse.bump
        rw [if_neg z]
    · rw [erho]
      unfold Hse.bump
      split
      · rename_i z; exact hlt c z
      · exact I.le c hc
  refine ⟨I2, ?_⟩
  unfold measL
  rw [if_neg hne]
  by_cases z : out = []
  · have ea : askL wss (putL (fun _ => none) out ps1) (putL (fun c => rho rs c + 1) out rs) = [] := by
      rw [z]
      refine List.eq_nil_iff_forall_not_mem.mpr fun c hc => ?_
      obtain ⟨hc1, hc2, hc3⟩ := askL_mem.mp hc
      have hc2 : plc ps1 c = none := hc2
      have hc3 : rho rs c < (wishOf wss c).length := hc3
      rw [m1 c hc1] at hc2
      unfold taL at hc2
      rw [List.getElem?_eq_getElem hc3] at hc2
      cases hc2
    rw [if_pos ea, z]
    show 2 * restL wss rs + 0 < 2 * restL wss rs + 1
    (first | lia | omega)
  · have : restL wss (putL (fun c => rho rs c + 1) out rs) < restL wss rs := by
      unfold restL
      rw [erho]
      obtain ⟨c, hc⟩ := List.exists_mem_of_ne_nil _ z
      refine sum_lt (fun c _ => ?_) ⟨c, (rng_mem _ _).mpr (hcm c hc), ?_⟩
      · unfold Hse.bump
        split <;> (first | lia | omega)
      · have := hlt c hc
        unfold Hse.bump
        rw [if_pos hc]
        (first | lia | omega)
    split <;> (first | lia | omega)
end
end K13

set_option Elab.async false
set_option linter.all false
set_option maxRecDepth 100000
set_option maxHeartbeats 4000000
namespace K13
open PySem L2 Hse
theorem row_at {Rs : List RowD} {i : Nat} (hi : i < Rs.length) : rowOf Rs (i : Int) = Rs[i] := by unfold rowOf; rw [Int.toNat_natCast]; simp [hi]
theorem wish_at {wss : List (List Int)} {i : Nat} (hi : i < wss.length) : wishOf wss (i : Int) = wss[i] := by unfold wishOf; rw [Int.toNat_natCast]; simp [hi]
theorem at_ref {l : List Addr} {i : Nat} {a : Addr} (h : l[i]? = some a) : atI (l.map V.ref) (i : Int) = some (.ref a) := atI_nat (by rw [List.getElem?_map, h]; rfl)
theorem ix_in {n : Nat} {c : Int} (h0 : 0 ≤ c) (h1 : c < n) : ixN n c = some c.toNat := by
  unfold ixN
  rw [if_pos h0, if_pos h1]
end K13

set_option Elab.async false
set_option linter.all false
set_option maxRecDepth 100000
set_option maxHeartbeats 4000000
namespace K13
open PySem L2 Hse
/-! ### granted -/
def spAskers (K : PySem.W.Frag) : Sp := fun vs H Q _ => ∃ (lw lp lr : Addr) (was : List Addr) (wss : List (List Int)) (ps : List (Option Int)) (rs : List Nat), vs = [.ref lw, .ref lp, .ref lr] ∧ SqL K H lw (was.map V.ref) ∧ Paired (WishAt H) was wss ∧ SqL K H lp (ps.map encO) ∧ SqL K H lr (rs.map natV) ∧
  ps.length = wss.length ∧ rs.length = wss.length ∧ wss.length ≤ 24 ∧ ∀ m H', Same H H' → H m = none → H' m = some (.lst ((askL wss ps rs).map V.int)) → Q (.ref m) H'
def spRefused (K : PySem.W.Frag) (C : Addr) : Sp := fun vs H Q _ => ∃ (lh lp : Addr) (has : List Addr) (Rs : List RowD) (ps : List (Option Int)), vs = [.ref lh, .ref lp] ∧ SqL K H lh (has.map V.ref) ∧ Paired (HouseAt C H) has Rs ∧ SqL K H lp (ps.map encO) ∧ ps.length ≤ 24 ∧ Rs.length ≤ 24 ∧ (∀ R ∈ Rs, Good R ps.length) ∧
  ∀ m H', Same H H' → H m = none → H' m = some (.lst ((outL Rs ps).map V.int)) → Q (.ref m) H'
def GInv (lw lh lp lr : Addr) (wss : List (List Int)) (Rs : List RowD) (H2 : Hp) (m : Nat) (σ : St) (H6 : Hp) : Prop := ∃ (ps : List (Option Int)) (rs : List Nat) (la : Addr) (v5 v6 : Option V), σ = [some (.ref lw), some (.ref lh), some (.ref lp), some (.ref lr), some (.ref la), v5, v6] ∧ Same H2 H6 ∧ H6 lp = some (.lst (ps.map encO)) ∧ H6 lr = some (.lst (rs.map natV)) ∧ H6 la = some (.lst ((askL wss ps rs).map V.int)) ∧ la ≠ lp ∧ la ≠ lr ∧ GI wss Rs ps rs ∧ m = measL wss ps rs
theorem GInv.elim {Q : Prop} {lw lh lp lr : Addr} {wss : List (List Int)} {Rs : List RowD} {H2 : Hp} {m : Nat} {σ : St} {H6 : Hp} (x : GInv lw lh lp lr wss Rs H2 m σ H6) (k : ∀ (ps : List (Option Int)) (rs : List Nat) (la : Addr) (v5 v6 : Option V), σ = [some (.ref lw), some (.ref lh), some (.ref lp), some (.ref lr), some (.ref la), v5, v6] → Same H2 H6 → H6 lp = some (.lst (ps.map encO)) → H6 lr = some (.lst (rs.map natV)) → H6 la = some (.lst ((askL wss ps rs).map V.int)) → la ≠ lp → la ≠ lr → GI wss Rs ps rs → m = measL wss ps rs → Q) : Q := by
  obtain ⟨ps, rs, la, v5, v6, e, sm, elp6, elr6, ela6, nap, nar, I, em⟩ := x
  exact k ps rs la v5 v6 e sm elp6 elr6 ela6 nap nar I em
section
variable {P : Program} {w : World} {K : PySem.W.Frag} {mg : Str → Option Value} {base : Heap} {C : Addr}
theorem scAskers : FnScope ["wishes", "places", "refusals", "free"] ["wishes", "places", "refusals"] (defScope sAskers) := ⟨rfl, rfl, rfl, by decide +kernel, rfl, by decide +kernel, by decide +kernel⟩
theorem ok_askers {f : Addr} {fd : FuncData} (F : FnAt K mg "askers" sAskers ["wishes", "places", "refusals"] f fd) (T : Cl K mg C) : Callee P w K mg base 1 "askers" ["wishes", "places", "refusals"] (spAskers K) := by
  refine F.callee (F.fn.ok scAskers (fun vs H Q E h => ?_) (fun cdv A outer s H vs Q E hr h => ?_))
  · obtain ⟨lw, lp, lr, was, wss, ps, rs, rfl, _⟩ := h
    rfl
  · obtain ⟨lw, lp, lr, was, wss, ps, rs, rfl, hW, pw, hP, hR, hpl, hrl, h24, q⟩ := h
    refine ⟨_, pss_cons (ps_setC (i := 3) (M := ["wishes", "places", "refusals", "free"]) scAskers.nd rfl (Or.inl rfl) ⟨rfl, rfl, rfl, rfl, rfl, rfl, by decide +kernel⟩ rfl (pi_range1 rfl T.b.range (pa_cons (pe_len T.b call_len_seq (pv 0)) pa_nil))
        (fun B => pts_one (pt_cmpR op_isN (pe_ix ix_list (pv 2) (pv 0) (fun _ _ => rfl)) pe_non (nomark _))) (fun B => pv 0))
      (pss_one (ps_ret (pe_comp (M := ["wishes", "places", "refusals", "free"]) ⟨rfl, rfl, rfl, rfl, rfl, rfl, by decide +kernel⟩ rfl (pi_list (pv 3))
        (fun B => pts_one (pt_cmpR op_lt (pe_ix ix_list (pv 3) (pv 0) (fun _ _ => rfl)) (pe_len T.b call_len_seq (pe_ix ix_list (pv 1) (pv 0) (fun _ _ => rfl))) (nomark _))) (fun B => pv 0)))), ?_⟩
    have hwl : was.length = wss.length := Paired.length pw
    refine ⟨_, rfl, lw, _, rfl, .inl hW, ?_⟩
    rw [List.length_map, hwl]
    refine ⟨(wss.length : Nat), rfl, by (first | lia | omega), by (first | lia | omega), comp_range (n := wss.length) (fun i ys H2 => H2 = H ∧ ys = (((rng wss.length).take i).filter fun c => !(plc ps c).isSome).map V.int) (fits (by (first | lia | omega))) ⟨rfl, rfl⟩ ?_ ?_ ?_⟩
    · rintro i ys H2 ⟨_, rfl⟩
      rw [List.length_map]
      exact len_filter _ i
    · rintro i ys H2 B N1 N2 hi ⟨rfl, rfl⟩ k1 k2
      have hci : (rng wss.length)[i]? = some (0 + (i : Int)) := by rw [Int.zero_add]; exact rng_get hi
      refine ⟨_, rfl, _, rfl, lp, _, _, _, rfl, rfl, hP, at_map (d := none) (by (first | lia | omega)) (by (first | lia | omega)), rfl, _, rfl, ?_⟩
      rw [encO_none]
      refine ite2 (fun hb => ⟨_, rfl, k1 _ _ ⟨rfl, ?_⟩⟩) (fun hb => k2 _ ⟨rfl, ?_⟩)
      · rw [take_filter hci, if_pos (show (!(plc ps (0 + (i : Int))).isSome) = true from hb), List.map_append]
        rfl
      · rw [take_filter hci, if_neg (show ¬ (!(plc ps (0 + (i : Int))).isSome) = true from hb), List.append_nil]
    · rintro ys H2 ⟨rfl, rfl⟩ acc hacc
      rw [show (rng wss.length).take wss.length = rng wss.length from List.take_of_length_le (by rw [rng_len]; exact Nat.le_refl _)]
      have s1 : Same H2 (upd H2 acc (.lst (((rng wss.length).filter fun c => !(plc ps c).isSome).map V.int))) := Same.new hacc
      have ea : upd H2 acc (.lst (((rng wss.length).filter fun c => !(plc ps c).isSome).map V.int)) acc = some (.lst (((rng wss.length).filter fun c => !(plc ps c).isSome).map V.int)) := upd_same
      generalize upd H2 acc (.lst (((rng wss.length).filter fun c => !(plc ps c).isSome).map V.int)) = H1 at s1 ea ⊢
      have hfl : ((rng wss.length).filter fun c => !(plc ps c).isSome).length ≤ 24 := by
        have := List.length_filter_le (fun c => !(plc ps c).isSome) (rng wss.length)
        rw [rng_len] at this
        (first | lia | omega)
      have hfm : ∀ c ∈ (rng wss.length).filter fun c => !(plc ps c).isSome, 0 ≤ c ∧ c < wss.length := fun c hc => (rng_mem _ _).mp (List.mem_filter.mp hc).1
      have eL : askL wss ps rs = ((rng wss.length).filter fun c => !(plc ps c).isSome).filter fun c => decide (rho rs c < (wishOf wss c).length) := rfl
      generalize (rng wss.length).filter (fun c => !(plc ps c).isSome) = L at ea hfl hfm eL
      refine ⟨_, rfl, acc, rfl, ⟨_, SqL.of ea⟩, comp_list (xs := L.map V.int) (fun i ys H3 => H3 = H1 ∧ ys = ((L.take i).filter fun c => decide (rho rs c < (wishOf wss c).length)).map V.int) (fits (by rw [List.length_map]; (first | lia | omega))) ⟨rfl, rfl⟩ ?_ ?_ ?_⟩
      · rintro i ys H3 ⟨rfl, rfl⟩
        exact ⟨SqL.of ea, by rw [List.length_map]; exact len_filter _ i⟩
      · rintro i x ys H3 B N1 N2 hx ⟨rfl, rfl⟩ n1 n2
        refine ex_elim2 (getI hx) fun c hci exx => ?_
        subst exx
        refine And.elim (fun h0 h1 => ?_) (hfm c (List.mem_of_getElem? hci))
        have hk : c.toNat < wss.length := by (first | lia | omega)
        refine ex_elim2 (Paired.at_ pw (List.getElem?_eq_getElem hk)) fun wa ewa hwa => ?_
        have hat2 : atI (was.map V.ref) c = some (.ref wa) := by
          have := at_ref ewa
          rwa [show ((c.toNat : Nat) : Int) = c by (first | lia | omega)] at this
        have hat1 : atI (rs.map natV) c = some (natV (rs.getD c.toNat 0)) := at_map (f := natV) h0 (by (first | lia | omega))
        have er : rs.getD c.toNat 0 = rho rs c := by unfold rho; rw [if_pos h0]
        have ew : wishOf wss c = wss[c.toNat] := by unfold wishOf; simp [hk]
        rw [er] at hat1
        refine ⟨_, rfl, _, rfl, lr, _, _, _, rfl, rfl, s1.seq hR, hat1, _, rfl, _, rfl, lw, _, _, _, rfl, rfl, s1.seq hW, hat2, wa, _, rfl, .inl (SqL.of (s1 _ _ hwa)), _, _, rfl, rfl, _, rfl, ?_⟩
        have ed : decide ((rho rs c : Int) < (((wss[c.toNat]).map V.int).length : Nat)) = decide (rho rs c < (wishOf wss c).length) := by
          rw [List.length_map, ew, decide_eq_decide]
          exact Int.ofNat_lt
        rw [ed]
        refine ite2 (fun hb => ?_) (fun hb => ?_)
        · refine ⟨_, rfl, n1 _ _ ⟨rfl, ?_⟩⟩
          rw [take_filter hci, if_pos hb, List.map_append]
          rfl
        · refine n2 _ ⟨rfl, ?_⟩
          rw [take_filter hci, if_neg hb, List.append_nil]
      · rintro ys H3 ⟨rfl, rfl⟩ acc2 hacc2
        rw [List.length_map, List.take_length, ← eL]
        exact q acc2 _ (s1.up hacc2) (s1.free hacc2) upd_same
theorem scRefused : FnScope ["houses", "places", "out", "house", "there", "taken"] ["houses", "places"] (defScope sRefused) := ⟨rfl, rfl, rfl, by decide +kernel, rfl, by decide +kernel, by decide +kernel⟩
theorem ok_refused {f fc : Addr} {fd : FuncData} (F : FnAt K mg "refused" sRefused ["houses", "places"] f fd) (T : Cl K mg C) (Chd : Callee P w K mg base 1 "held" ["places", "house"] (spLHeld K)) (mC : Meth K C "chosen" fc) (CC : MCal P w K mg base 5 fc ["self", "comers"] (spChosen K C)) :
    Callee P w K mg base 6 "refused" ["houses", "places"] (spRefused K C) := by
  refine F.callee (F.fn.ok (k := 5) scRefused (fun vs H Q E h => ?_) (fun cdv A outer s H vs Q E hr h => ?_))
  · obtain ⟨lh, lp, has, Rs, ps, rfl, _⟩ := h
    rfl
  · obtain ⟨lh, lp, has, Rs, ps, rfl, hH, ph, hP, hp24, hh24, g, q⟩ := h
    obtain ⟨fdc, bdc, FC⟩ := CC
    have hr1 : Room 1 _ := hr.mono (by decide)
    refine ⟨_, pss_cons (ps_set (i := 2) scRefused.nd rfl (Or.inl rfl) (pe_lst pa_nil))
      (pss_cons (ps_for PassesOwn.never rfl (pi_range1 rfl T.b.range (pa_cons (pe_len T.b call_len_seq (pv 0)) pa_nil)) (pg_name (i := 3) scRefused.nd rfl (Or.inl rfl))
        (pss_cons (ps_set (i := 4) scRefused.nd rfl (Or.inl rfl) (pe_fn Chd hr1 (pa_cons (pv 1) (pa_cons (pv 3) pa_nil))))
        (pss_cons (ps_set (i := 5) scRefused.nd rfl (Or.inr rfl) (pe_meth (pe_ix ix_list (pv 0) (pv 3) (fun _ _ => rfl)) T.cls mC FC hr bdc .nil pass0 (pa_cons (pv 4) pa_nil)))
        (pss_one (ps_expr (pe_bm PySem.F.plainAttrs_list PySem.F.slot_list_extend PySem.F.type_list_extend mt_extend (pv 2) (pa_cons (pe_comp (M := ["houses", "places", "out", "house", "there", "taken"]) ⟨rfl, rfl, rfl, rfl, rfl, rfl, by decide +kernel⟩ rfl (pi_list (pv 4))
          (fun B => pts_one (pt_cmpR op_notIn_seq (pv 0) (pv 6) (by with_unfolding_all rfl))) (fun B => pv 0)) pa_nil)))))))
      (pss_one (ps_ret (pv 2)))), ?_⟩
    have hhl : has.length = Rs.length := Paired.length ph
    refine ⟨Nat.zero_le _, fun lo nlo => ?_⟩
    have up1 : ∀ {o : HO}, Same H (upd H lo o) := Same.new nlo
    refine ⟨_, rfl, lh, _, rfl, .inl (up1.seq hH), ?_⟩
    rw [List.length_map, hhl]
    refine ⟨(Rs.length : Nat), rfl, by (first | lia | omega), by (first | lia | omega), for_range (n := Rs.length) (fun i σ H2 => ∃ (v3 v4 v5 : Option V), σ = [some (.ref lh), some (.ref lp), some (.ref lo), v3, v4, v5] ∧ H2 lo = some (.lst ((((rng Rs.length).take i).flatMap (outOf Rs ps)).map V.int)) ∧ Same H H2 ∧ (((rng Rs.length).take i).flatMap (outOf Rs ps)).length ≤ i * 24)
      ⟨none, none, none, rfl, upd_same, up1, Nat.zero_le _⟩ ?_ ?_⟩
    · rintro i σ H2 hi ⟨v3, v4, v5, rfl, elo, sm, hol⟩
      refine ex_elim2 (Paired.at_ ph (List.getElem?_eq_getElem hi)) fun ha eha hha => ?_
      have gi := g _ (List.getElem_mem hi)
      have eR : rowOf Rs (0 + (i : Int)) = Rs[i] := by rw [Int.zero_add]; exact row_at hi
      have hath : atI (has.map V.ref) (0 + (i : Int)) = some (.ref ha) := by rw [Int.zero_add]; exact at_ref eha
      refine ⟨_, rfl, _, rfl, lp, ps, _, rfl, sm.seq hP, hp24, fun mh H3 s3 nmh emh => ?_⟩
      refine house_elim (id (hha.up (sm.trans s3))) fun dx p1 p2 p3 e1 => ?_
      refine ⟨_, rfl, _, rfl, lh, _, _, _, rfl, rfl, (sm.trans s3).seq hH, hath, ha, dx, _, rfl, e1, rfl, _, rfl, ha, mh, heldL ps (0 + (i : Int)), Rs[i], ps.length, rfl, hha.up (sm.trans s3), gi, SqL.of emh, heldL_nodup _ _, fun c hc => (heldL_mem.mp hc).1, fun mc ms H4 s4 nmc pms sms emc => ?_⟩
      have s24 := s3.trans s4
      have elo4 := s24 _ _ elo
      have hln := len_heldL ps (0 + (i : Int))
      have emh4 := s4 _ _ emh
      have nmo : mh ≠ lo := fun z => by rw [z, elo] at nmh; cases nmh
      refine ⟨_, rfl, .inl ⟨rfl, _, SqL.of elo4⟩, _, rfl, mh, rfl, ⟨_, SqL.of emh4⟩, comp_list (xs := (heldL ps (0 + (i : Int))).map V.int) (fun j ys H5 => H5 = H4 ∧ ys = (((heldL ps (0 + (i : Int))).take j).filter fun c => !decide (c ∈ ms)).map V.int) (fits (by rw [List.length_map]; (first | lia | omega))) ⟨rfl, rfl⟩ ?_ ?_ ?_⟩
      · rintro j ys H5 ⟨rfl, rfl⟩
        exact ⟨SqL.of emh4, by rw [List.length_map]; exact len_filter _ j⟩
      · rintro j x ys H5 B N1 N2 hx ⟨rfl, rfl⟩ n1 n2
        refine ex_elim2 (getI hx) fun c hcj exx => ?_
        subst exx
        refine ⟨_, rfl, _, rfl, mc, _, rfl, .inl (SqL.of emc), rfl, flat_ints _, _, rfl, ?_⟩
        rw [if_pos rfl, inV_int]
        refine ite2 (fun hb => ?_) (fun hb => ?_)
        · refine ⟨_, rfl, n1 _ _ ⟨rfl, ?_⟩⟩
          rw [take_filter hcj, if_pos hb, List.map_append]
          rfl
        · refine n2 _ ⟨rfl, ?_⟩
          rw [take_filter hcj, if_neg hb, List.append_nil]
      · rintro ys H5 ⟨rfl, rfl⟩ acc hacc
        rw [List.length_map, List.take_length]
        have ef : ((heldL ps (0 + (i : Int))).filter fun c => !decide (c ∈ ms)) = outOf Rs ps (0 + (i : Int)) := by
          unfold outOf
          refine List.filter_congr fun c _ => ?_
          rw [eR]
          congr 1
          rw [decide_eq_decide]
          exact pms.mem_iff
        rw [ef]
        have hof : (outOf Rs ps (0 + (i : Int))).length ≤ 24 := by
          unfold outOf
          have := List.length_filter_le (fun c => !decide (c ∈ (rowOf Rs (0 + (i : Int))).pick (inL (heldL ps (0 + (i : Int)))))) (heldL ps (0 + (i : Int)))
          (first | lia | omega)
        have hci : (rng Rs.length)[i]? = some (0 + (i : Int)) := by rw [Int.zero_add]; exact rng_get hi
        have enx : ((rng Rs.length).take (i + 1)).flatMap (outOf Rs ps) = ((rng Rs.length).take i).flatMap (outOf Rs ps) ++ outOf Rs ps (0 + (i : Int)) := by
          rw [List.take_add_one, hci, List.flatMap_append]
          congr 1
          show _ ++ [] = _
          rw [List.append_nil]
        have s5 : Same H5 (upd H5 acc (.lst ((outOf Rs ps (0 + (i : Int))).map V.int))) := Same.new hacc
        refine ⟨lo, acc, _, _, rfl, rfl, s5 _ _ elo4, upd_same, by rw [List.length_map, List.length_map]; exact fits (by (first | lia | omega)), ?_⟩
        refine ⟨_, _, _, rfl, ?_, ((sm.trans s24).trans s5).wr nlo, ?_⟩
        · rw [upd_same, enx, List.map_append]
        · rw [enx, List.length_append]; (first | lia | omega)
    · rintro σ H2 ⟨v3, v4, v5, rfl, elo, sm, hol⟩
      rw [show (rng Rs.length).take Rs.length = rng Rs.length from List.take_of_length_le (by rw [rng_len]; exact Nat.le_refl _)] at elo
      exact ⟨_, rfl, q lo _ sm nlo elo⟩
theorem scGranted : FnScope ["wishes", "houses", "places", "refusals", "asking", "comer", "sent_away"] ["wishes", "houses"] (defScope sGranted) := ⟨rfl, rfl, rfl, by decide +kernel, rfl, by decide +kernel, by decide +kernel⟩
theorem ok_granted {f : Addr} {fd : FuncData} (F : FnAt K mg "granted" sGranted ["wishes", "houses"] f fd) (T : Cl K mg C) (Cas : Callee P w K mg base 1 "askers" ["wishes", "places", "refusals"] (spAskers K)) (Crf : Callee P w K mg base 6 "refused" ["houses", "places"] (spRefused K C)) :
    Callee P w K mg base 7 "granted" ["wishes", "houses"] (spGranted K C) := by
  refine F.callee (F.fn.ok (k := 6) scGranted (fun vs H Q E h => ?_) (fun cdv A outer s H vs Q E hr h => ?_))
  · obtain ⟨lw, lh, was, has, wss, Rs, rfl, _⟩ := h
    rfl
  · obtain ⟨lw, lh, was, has, wss, Rs, rfl, hW, pw, hH, ph, h1, h24, hh24, g, wg, q⟩ := h
    have hr1 : Room 1 _ := hr.mono (by decide)
    refine ⟨_, pss_cons (ps_setC (i := 2) (M := ["wishes", "houses", "places", "refusals", "asking", "comer", "sent_away"]) scGranted.nd rfl (Or.inl rfl) ⟨rfl, rfl, rfl, rfl, rfl, rfl, by decide +kernel⟩ rfl (pi_list (pv 0)) (fun B => pts_nil) (fun B => pe_non))
      (pss_cons (ps_setC (i := 3) (M := ["wishes", "houses", "places", "refusals", "asking", "comer", "sent_away"]) scGranted.nd rfl (Or.inl rfl) ⟨rfl, rfl, rfl, rfl, rfl, rfl, by decide +kernel⟩ rfl (pi_list (pv 0)) (fun B => pts_nil) (fun B => pe_int))
      (pss_cons (ps_set (i := 4) scGranted.nd rfl (Or.inl rfl) (pe_fn Cas hr1 (pa_cons (pv 0) (pa_cons (pv 2) (pa_cons (pv 3) pa_nil)))))
      (pss_cons (ps_while PassesOwn.never (pt_cmpR (op_neD hr) (pv 4) (pe_lst pa_nil) (nomark _))
        (pss_cons (ps_for PassesOwn.never rfl (pi_list (pv 4)) (pg_name (i := 5) scGranted.nd rfl (Or.inl rfl))
          (pss_one (ps_asg (pe_ix ix_list (pe_ix ix_list (pv 0) (pv 5) (fun _ _ => rfl)) (pe_ix ix_list (pv 3) (pv 5) (fun _ _ => rfl)) (fun _ _ => rfl)) (pg_sub (pv 2) (pv 5) set_list))))
        (pss_cons (ps_set (i := 6) scGranted.nd rfl (Or.inl rfl) (pe_fn Crf hr (pa_cons (pv 1) (pa_cons (pv 2) pa_nil))))
        (pss_cons (ps_for PassesOwn.never rfl (pi_list (pv 6)) (pg_name (i := 5) scGranted.nd rfl (Or.inl rfl))
          (pss_cons (ps_asg pe_non (pg_sub (pv 2) (pv 5) set_list))
          (pss_one (ps_augS (pv 3) (pv 5) get_list pe_int ip_add set_list))))
        (pss_one (ps_set (i := 4) scGranted.nd rfl (Or.inl rfl) (pe_fn Cas hr1 (pa_cons (pv 0) (pa_cons (pv 2) (pa_cons (pv 3) pa_nil))))))))))
      (pss_one (ps_ret (pv 2)))))), ?_⟩
    have hwl : was.length = wss.length := Paired.length pw
    refine ⟨_, rfl, lw, rfl, ⟨_, hW⟩, comp_list0 (xs := was.map V.ref) (fun i ys H2 => H2 = H ∧ ys = (List.replicate i (none : Option Int)).map encO) (fits (by rw [List.length_map]; (first | lia | omega))) ⟨rfl, rfl⟩ ?_ ?_ ?_⟩
    · rintro i ys H2 ⟨rfl, rfl⟩
      exact ⟨hW, by rw [List.length_map, List.length_replicate]; exact Nat.le_refl _⟩
    · rintro i x ys H2 B N1 hx ⟨rfl, rfl⟩ n1
      refine n1 _ _ ⟨rfl, ?_⟩
      rw [List.replicate_succ', List.map_append]
      rfl
    · rintro ys H2 ⟨rfl, rfl⟩ lp nlp
      rw [List.length_map, hwl]
      have s1 : Same H2 (upd H2 lp (.lst ((List.replicate wss.length (none : Option Int)).map encO))) := Same.new nlp
      have elp : upd H2 lp (.lst ((List.replicate wss.length (none : Option Int)).map encO)) lp = some (.lst ((List.replicate wss.length (none : Option Int)).map encO)) := upd_same
      generalize upd H2 lp (.lst ((List.replicate wss.length (none : Option Int)).map encO)) = H1 at s1 elp ⊢
      refine ⟨_, rfl, lw, rfl, ⟨_, s1.seq hW⟩, comp_list0 (xs := was.map V.ref) (fun i ys H3 => H3 = H1 ∧ ys = (List.replicate i 0).map natV) (fits (by rw [List.length_map]; (first | lia | omega))) ⟨rfl, rfl⟩ ?_ ?_ ?_⟩
      · rintro i ys H3 ⟨rfl, rfl⟩
        exact ⟨s1.seq hW, by rw [List.length_map, List.length_replicate]; exact Nat.le_refl _⟩
      · rintro i x ys H3 B N1 hx ⟨rfl, rfl⟩ n1
        refine n1 _ _ ⟨rfl, ?_⟩
        rw [List.replicate_succ', List.map_append]
        rfl
      · rintro ys H3 ⟨rfl, rfl⟩ lr nlr
        rw [List.length_map, hwl]
        have nlr0 : H2 lr = none := s1.free nlr
        have ne : lp ≠ lr := ne_of_none elp nlr
        have s3 := s1.up (o := .lst ((List.replicate wss.length 0).map natV)) nlr
        have elp3 := (Same.new (o := .lst ((List.replicate wss.length 0).map natV)) nlr) _ _ elp
        have elr3 : upd H3 lr (.lst ((List.replicate wss.length 0).map natV)) lr = some (.lst ((List.replicate wss.length 0).map natV)) := upd_same
        generalize upd H3 lr (.lst ((List.replicate wss.length 0).map natV)) = H4 at s3 elp3 elr3 ⊢
        refine ⟨_, rfl, _, rfl, _, rfl, lw, lp, lr, was, wss, _, _, rfl, s3.seq hW, Paired.mapP pw fun _ _ z => z.up s3, SqL.of elp3, SqL.of elr3, List.length_replicate, List.length_replicate, h24, fun la H5 s5 nla ela => ?_⟩
        refine ⟨GInv lw lh lp lr wss Rs H2,
          ⟨_, _, _, la, none, none, rfl, s3.trans s5, s5 _ _ elp3, s5 _ _ elr3, ela, (ne_of_none elp3 nla).symm, (ne_of_none elr3 nla).symm, gi_start g wg, rfl⟩, ?_⟩
        refine fun m σ H6 inv => inv.elim fun ps rs la v5 v6 eσ sm elp6 elr6 ela6 nap nar I em => ?_
        subst eσ
        subst em
        refine ⟨_, rfl, Nat.zero_le _, fun le nle => ?_⟩
        obtain ⟨_, b2, b3⟩ := eqv_ints (askL wss ps rs)
        have s7 : Same H6 (upd H6 le (.lst [])) := Same.new nle
        refine ⟨.list ((askL wss ps rs).map PyData.int), .list [], .list (SqL.of (s7 _ _ ela6)) (DenAll.ints _), .list (SqL.of upd_same) .nil, b2, rfl, ?_, _, rfl, ?_⟩
        · have : (PyData.list []).depth ≤ 2 := by decide
          (first | lia | omega)
        rw [eqv_nil]
        have elp7 := s7 _ _ elp6
        have elr7 := s7 _ _ elr6
        have ela7 := s7 _ _ ela6
        have sm7 := sm.trans s7
        generalize upd H6 le (.lst []) = H7 at elp7 elr7 ela7 sm7 ⊢
        have hnil : ((askL wss ps rs).map PyData.int = []) ↔ askL wss ps rs = [] := List.map_eq_nil_iff
        refine ite2 (fun hb => ?_) (fun hb => ?_)
        · have hne : askL wss ps rs ≠ [] := fun z => by
            rw [decide_eq_true (hnil.mpr z)] at hb
            cases hb
          have step := gi_step g wg I hne rfl rfl
          refine ⟨fun σ' H' => ∃ m', m' < measL wss ps rs ∧ GInv lw lh lp lr wss Rs H2 m' σ' H', fun _ _ z => z, ?_⟩
          have hask : ∀ c ∈ askL wss ps rs, (0 ≤ c ∧ c < wss.length) ∧ plc ps c = none ∧ rho rs c < (wishOf wss c).length := fun c hc => askL_mem.mp hc
          have hpl := I.pl
          have hrl := I.rl
          generalize hA : askL wss ps rs = A at ela7 hne step hask
          refine ⟨_, rfl, la, rfl, ⟨_, SqL.of ela7⟩, for_list (K := K) (a := la) (xs := A.map V.int) (fun i σ H8 => ∃ v5, σ = [some (.ref lw), some (.ref lh), some (.ref lp), some (.ref lr), some (.ref la), v5, v6] ∧ Same H2 H8 ∧ H8 lp = some (.lst ((putL (taL wss rs) (A.take i) ps).map encO)) ∧ H8 lr = some (.lst (rs.map natV)) ∧ H8 la = some (.lst (A.map V.int)))
            ⟨v5, rfl, sm7, elp7, elr7, ela7⟩ (fun i σ H8 _ ⟨_, _, _, _, _, e⟩ => SqL.of e) ?_ ?_⟩
          · rintro i x σ H8 hx ⟨v5, rfl, sm8, elp8, elr8, ela8⟩
            refine ex_elim2 (getI hx) fun c hci exx => ?_
            subst exx
            obtain ⟨⟨h0, h1⟩, _, hlt⟩ := hask c (List.mem_of_getElem? hci)
            have hk : c.toNat < wss.length := by (first | lia | omega)
            refine ex_elim2 (Paired.at_ pw (List.getElem?_eq_getElem hk)) fun wa ewa hwa => ?_
            have hat2 : atI (was.map V.ref) c = some (.ref wa) := by
              have := at_ref ewa
              rwa [show ((c.toNat : Nat) : Int) = c by (first | lia | omega)] at this
            have hat1 : atI (rs.map natV) c = some (natV (rs.getD c.toNat 0)) := at_map (f := natV) h0 (by (first | lia | omega))
            have er : rs.getD c.toNat 0 = rho rs c := by unfold rho; rw [if_pos h0]
            have ew : wishOf wss c = wss[c.toNat] := by unfold wishOf; simp [hk]
            rw [er] at hat1
            rw [ew] at hlt
            have et : taL wss rs c = some (wss[c.toNat][rho rs c]) := by unfold taL; rw [ew, List.getElem?_eq_getElem hlt]
            have hat3 : atI (wss[c.toNat].map V.int) (rho rs c : Int) = some (encO (taL wss rs c)) := atI_nat (by rw [List.getElem?_map, List.getElem?_eq_getElem hlt, et]; rfl)
            refine ⟨_, rfl, _, rfl, lw, _, _, _, rfl, rfl, sm8.seq hW, hat2, _, rfl, _, rfl, lr, _, _, _, rfl, rfl, SqL.of elr8, hat1, wa, _, _, _, rfl, rfl, SqL.of (sm8 _ _ hwa), hat3, ?_⟩
            refine ⟨_, rfl, _, rfl, lp, _, _, c.toNat, rfl, rfl, elp8, ix_in h0 (by rw [List.length_map, putL_len]; (first | lia | omega)), ?_⟩
            refine ⟨_, rfl, sm8.wr nlp, ?_, ?_, ?_⟩
            · rw [upd_same, putL_take hci, List.map_set]
            · rw [upd_ne ne.symm]; exact elr8
            · rw [upd_ne nap]; exact ela8
          · rintro σ H8 ⟨v5, rfl, sm8, elp8, elr8, ela8⟩
            rw [List.length_map, List.take_length] at elp8
            generalize hp1 : putL (taL wss rs) A ps = ps1 at elp8 step
            have hp1l : ps1.length = wss.length := by rw [← hp1, putL_len, hpl]
            refine ⟨_, rfl, _, rfl, lh, lp, has, Rs, ps1, rfl, sm8.seq hH, Paired.mapP ph fun _ _ z => z.up sm8, SqL.of elp8, by (first | lia | omega), hh24, by rw [hp1l]; exact g, fun ls H9 s9 nls els => ?_⟩
            have hout : ∀ c ∈ outL Rs ps1, 0 ≤ c ∧ c < wss.length := fun c hc => by
              obtain ⟨h, _, h1, _⟩ := out_mem.mp hc
              have := (heldL_mem.mp h1).1
              (first | lia | omega)
            have hond := out_nodup Rs ps1
            have elp9 := s9 _ _ elp8
            have elr9 := s9 _ _ elr8
            have nsp : ls ≠ lp := (ne_of_none elp8 nls).symm
            have nsr : ls ≠ lr := (ne_of_none elr8 nls).symm
            have sm9 := sm8.trans s9
            generalize hO : outL Rs ps1 = O at els step hout hond
            refine ⟨_, rfl, ls, rfl, ⟨_, SqL.of els⟩, for_list (K := K) (a := ls) (xs := O.map V.int) (fun i σ H10 => ∃ v5, σ = [some (.ref lw), some (.ref lh), some (.ref lp), some (.ref lr), some (.ref la), v5, some (.ref ls)] ∧ Same H2 H10 ∧ H10 lp = some (.lst ((putL (fun _ => none) (O.take i) ps1).map encO)) ∧ H10 lr = some (.lst ((putL (fun c => rho rs c + 1) (O.take i) rs).map natV)) ∧ H10 ls = some (.lst (O.map V.int)))
              ⟨v5, rfl, sm9, elp9, elr9, els⟩ (fun i σ H10 _ ⟨_, _, _, _, _, e⟩ => SqL.of e) ?_ ?_⟩
            · rintro i x σ H10 hx ⟨v5, rfl, sm10, elp10, elr10, els10⟩
              refine ex_elim2 (getI hx) fun c hci exx => ?_
              subst exx
              refine And.elim (fun h0 h1 => ?_) (hout c (List.mem_of_getElem? hci))
              have hnt : c ∉ O.take i := nit hond hci
              have hrc : rho (putL (fun c => rho rs c + 1) (O.take i) rs) c = rho rs c := by
                rw [rho_put h0 (by (first | lia | omega)) (fun d hd => (hout d (List.mem_of_mem_take hd)).1), if_neg hnt]
              refine ⟨_, rfl, _, rfl, lp, _, _, c.toNat, rfl, rfl, elp10, ix_in h0 (by rw [List.length_map, putL_len]; (first | lia | omega)), ?_⟩
              have elr11 : upd H10 lp (.lst (((putL (fun _ => none) (O.take i) ps1).map encO).set c.toNat .non)) lr = some (.lst ((putL (fun c => rho rs c + 1) (O.take i) rs).map natV)) := by rw [upd_ne ne.symm]; exact elr10
              have hat1 : atI ((putL (fun c => rho rs c + 1) (O.take i) rs).map natV) c = some (natV ((putL (fun c => rho rs c + 1) (O.take i) rs).getD c.toNat 0)) := at_map (f := natV) h0 (by rw [putL_len]; (first | lia | omega))
              have er : (putL (fun c => rho rs c + 1) (O.take i) rs).getD c.toNat 0 = rho rs c := by rw [← hrc]; unfold rho; rw [if_pos h0]
              rw [er] at hat1
              refine ⟨_, rfl, _, rfl, lr, _, _, _, rfl, rfl, SqL.of elr11, hat1, _, _, rfl, rfl, lr, _, _, c.toNat, rfl, rfl, elr11, ix_in h0 (by rw [List.length_map, putL_len]; (first | lia | omega)), ?_⟩
              refine ⟨_, rfl, (sm10.wr nlp).wr nlr0, ?_, ?_, ?_⟩
              · rw [upd_ne ne, upd_same, putL_take hci, List.map_set]
                rfl
              · rw [upd_same, putL_take hci, List.map_set]
                rfl
              · rw [upd_ne nsr, upd_ne nsp]; exact els10
            · rintro σ H10 ⟨v5, rfl, sm10, elp10, elr10, els10⟩
              rw [List.length_map, List.take_length] at elp10 elr10
              obtain ⟨I2, hlt⟩ := step
              refine ⟨_, rfl, _, rfl, _, rfl, lw, lp, lr, was, wss, _, _, rfl, sm10.seq hW, Paired.mapP pw fun _ _ z => z.up sm10, SqL.of elp10, SqL.of elr10, I2.pl, I2.rl, h24, fun la2 H11 s11 nla2 ela2 => ?_⟩
              exact ⟨_, hlt, _, _, la2, _, _, rfl, sm10.trans s11, s11 _ _ elp10, s11 _ _ elr10, ela2, (ne_of_none elp10 nla2).symm, (ne_of_none elr10 nla2).symm, I2, rfl⟩
        · have hz : askL wss ps rs = [] := by
            refine Classical.byContradiction fun z => hb ?_
            rw [decide_eq_false fun y => z (hnil.mp y)]
            rfl
          obtain ⟨f1, b1⟩ := gi_done g wg I hz
          exact ⟨_, rfl, q lp ps H7 sm7 nlp elp7 I.pl f1 b1⟩
end
end K13

set_option Elab.async false
set_option linter.all false
set_option maxRecDepth 100000
set_option maxHeartbeats 4000000
namespace K13
open PySem L2 Hse
/-! ### both_rather -/
/-- wishes, houses and places as the program has them -/
structure Hll (K : PySem.W.Frag) (C : Addr) (H : Hp) (lw lr lp : Addr) (wss : List (List Int)) (Rs : List RowD) (ps : List (Option Int)) : Prop where
  w : ∃ was : List Addr, SqL K H lw (was.map V.ref) ∧ Paired (WishAt H) was wss
  r : ∃ ras : List Addr, SqL K H lr (ras.map V.ref) ∧ Paired (HouseAt C H) ras Rs
  p : SqL K H lp (ps.map encO)
  n : wss.length = ps.length
  n24 : ps.length ≤ 24
  h24 : Rs.length ≤ 24
  g : ∀ R ∈ Rs, Good R ps.length
  wg : ∀ ws ∈ wss, WGood Rs.length ws
theorem Hll.up {K : PySem.W.Frag} {C : Addr} {H H' : Hp} {lw lr lp : Addr} {wss : List (List Int)} {Rs : List RowD} {ps : List (Option Int)} (s : Same H H') (x : Hll K C H lw lr lp wss Rs ps) : Hll K C H' lw lr lp wss Rs ps := by
  obtain ⟨⟨was, a1, a2⟩, ⟨ras, b1, b2⟩, c, d, e, f, g, h⟩ := x
  exact ⟨⟨was, s.seq a1, Paired.mapP a2 fun _ _ z => z.up s⟩, ⟨ras, s.seq b1, Paired.mapP b2 fun _ _ z => z.up s⟩, s.seq c, d, e, f, g, h⟩
theorem held_plus_nodup {ps : List (Option Int)} {ws : List Int} {h : Int} {i : Nat} (hm : h ∈ rather ws (plc ps (i : Int))) : (heldL ps h ++ [(i : Int)]).Nodup := by
  refine List.nodup_append.mpr ⟨heldL_nodup _ _, by simp, fun a ha b hb e => ?_⟩
  have hb : b = (i : Int) := List.mem_singleton.mp hb
  subst hb
  subst e
  have := (heldL_mem.mp ha).2
  rw [this] at hm
  exact rather_self hm
def spBoth (K : PySem.W.Frag) (C : Addr) : Sp := fun vs H Q _ => ∃ (lw lr lp : Addr) (wss : List (List Int)) (Rs : List RowD) (ps : List (Option Int)), vs = [.ref lw, .ref lr, .ref lp] ∧ Hll K C H lw lr lp wss Rs ps ∧
  ∀ (m : Addr) (tas : List Addr) (H' : Hp), Same H H' → H m = none → H' m = some (.lst (tas.map V.ref)) → Paired (PairAt H') tas (pairsL wss Rs ps) → Q (.ref m) H'
section
variable {P : Program} {w : World} {K : PySem.W.Frag} {mg : Str → Option Value} {base : Heap} {C : Addr}
theorem scBoth : FnScope ["wishes", "houses", "places", "pairs", "comer", "house"] ["wishes", "houses", "places"] (defScope sBoth) := ⟨rfl, rfl, rfl, by decide +kernel, rfl, by decide +kernel, by decide +kernel⟩
theorem ok_both {f fc : Addr} {fd : FuncData} (F : FnAt K mg "both_rather" sBoth ["wishes", "houses", "places"] f fd) (T : Cl K mg C) (Chd : Callee P w K mg base 1 "held" ["places", "house"] (spLHeld K)) (Cra : Callee P w K mg base 1 "rather" ["wishes", "places", "comer"] (spLRather K))
    (mC : Meth K C "chosen" fc) (CC : MCal P w K mg base 5 fc ["self", "comers"] (spChosen K C)) : Callee P w K mg base 6 "both_rather" ["wishes", "houses", "places"] (spBoth K C) := by
  refine F.callee (F.fn.ok (k := 5) scBoth (fun vs H Q E h => ?_) (fun cdv A outer s H vs Q E hr h => ?_))
  · obtain ⟨lw, lr, lp, wss, Rs, ps, rfl, _⟩ := h
    rfl
  · obtain ⟨lw, lr, lp, wss, Rs, ps, rfl, X, q⟩ := h
    have hr1 : Room 1 _ := hr.mono (by decide)
    obtain ⟨fdc, bdc, FC⟩ := CC
    refine ⟨_, pss_cons (ps_set (i := 3) scBoth.nd rfl (Or.inl rfl) (pe_lst pa_nil))
      (pss_cons (ps_for PassesOwn.never rfl (pi_range1 rfl T.b.range (pa_cons (pe_len T.b call_len_seq (pv 0)) pa_nil)) (pg_name (i := 4) scBoth.nd rfl (Or.inl rfl))
        (pss_one (ps_for PassesOwn.never rfl (pi_list (pe_fn Cra hr1 (pa_cons (pv 0) (pa_cons (pv 2) (pa_cons (pv 4) pa_nil))))) (pg_name (i := 5) scBoth.nd rfl (Or.inl rfl))
          (pss_one (ps_if (pt_cmpR op_in_seq (pv 4) (pe_meth (pe_ix ix_list (pv 1) (pv 5) (fun _ _ => rfl)) T.cls mC FC hr bdc .nil pass0 (pa_cons (pe_op op_cat (pe_fn Chd hr1 (pa_cons (pv 2) (pa_cons (pv 5) pa_nil))) (pe_lst (pa_cons (pv 4) pa_nil))) pa_nil)) (by with_unfolding_all rfl))
            (pss_one (ps_expr (pe_bm PySem.F.plainAttrs_list PySem.F.slot_list_append PySem.F.type_list_append mt_append (pv 3) (pa_cons (pe_tup (pa_cons (pv 4) (pa_cons (pv 5) pa_nil))) pa_nil)))) pss_nil)))))
      (pss_one (ps_ret (pv 3)))), ?_⟩
    have hn24 := X.n24
    have hh24 := X.h24
    refine ⟨Nat.zero_le _, fun lo nlo => ?_⟩
    have up1 : ∀ {o : HO}, Same H (upd H lo o) := Same.new nlo
    refine ex_elim2 (X.w) fun was0 hw0 pw0 => ?_
    refine ⟨_, rfl, lw, _, rfl, .inl (up1.seq hw0), ?_⟩
    rw [List.length_map, show was0.length = ps.length from (Paired.length pw0).trans X.n]
    refine ⟨(ps.length : Nat), rfl, by (first | lia | omega), by (first | lia | omega), for_range (n := ps.length) (fun i σ H2 => ∃ (tas : List Addr) (v4 v5 : Option V), σ = [some (.ref lw), some (.ref lr), some (.ref lp), some (.ref lo), v4, v5] ∧ H2 lo = some (.lst (tas.map V.ref)) ∧ Paired (PairAt (del H2 lo)) tas (((rng ps.length).take i).flatMap (pairsOf wss Rs ps)) ∧ Same H (del H2 lo) ∧ tas.length ≤ i * 24)
      ⟨[], none, none, rfl, upd_same, .nil, del_of up1 nlo, Nat.zero_le _⟩ ?_ ?_⟩
    · rintro i σ H2 hi ⟨tas, v4, v5, rfl, elo, pt, sd, htl⟩
      have X2 := (X.up sd).up del_le
      refine ex_elim2 (X2.w) fun was hw1 hw2 => ?_
      refine ex_elim2 (X2.r) fun ras hr2a hr2b => ?_
      have hiw : i < wss.length := by have := X.n; (first | lia | omega)
      refine ex_elim2 (Paired.at_ hw2 (List.getElem?_eq_getElem hiw)) fun wa ewa hwa => ?_
      have ewi : wishOf wss (0 + (i : Int)) = wss[i] := by
        unfold wishOf
        rw [Int.zero_add, Int.toNat_natCast]
        simp [hiw]
      refine And.elim (fun wnd wrg => ?_) (X.wg wss[i] (List.getElem_mem hiw))
      have wl : wss[i].length ≤ 24 := Nat.le_trans (good_len wnd wrg) hh24
      refine ⟨_, rfl, _, rfl, _, rfl, lw, lp, wa, was, ps, wss[i], i, (by rw [Int.zero_add]; rfl), hw1, ewa, hwa, X2.p, hi, wl, fun m H3 s3 nm em => ?_⟩
      have nmo : m ≠ lo := fun z => by rw [z, elo] at nm; cases nm
      have em' : del H3 lo m = some (.lst ((rather wss[i] (plc ps (i : Int))).map V.int)) := by rw [del_ne nmo]; exact em
      refine ⟨m, rfl, ⟨_, SqL.of em⟩, for_list (K := K) (a := m) (xs := (rather wss[i] (plc ps (i : Int))).map V.int) (fun j σ H4 => ∃ (tas : List Addr) (v5 : Option V), σ = [some (.ref lw), some (.ref lr), some (.ref lp), some (.ref lo), some (.int (0 + (i : Int))), v5] ∧ H4 lo = some (.lst (tas.map V.ref)) ∧
          Paired (PairAt (del H4 lo)) tas (((rng ps.length).take i).flatMap (pairsOf wss Rs ps) ++ (((rather wss[i] (plc ps (i : Int))).take j).filter (likes Rs ps (i : Int))).map fun h => ((i : Int), h)) ∧ Same (del H3 lo) (del H4 lo) ∧ tas.length ≤ i * 24 + j)
        ⟨tas, v5, rfl, s3 _ _ elo, by
          rw [List.take_zero, List.filter_nil, List.map_nil, List.append_nil]
          exact Paired.mapP pt fun _ _ z => del_mono s3 _ _ z, Same.refl _, by (first | lia | omega)⟩ (fun j σ H4 _ ⟨_, _, _, _, _, e, _⟩ => SqL.of (del_le _ _ (e _ _ em'))) ?_ ?_⟩
      · rintro j x σ H4 hx ⟨tas, v5, rfl, elo4, pt4, sd4, htl4⟩
        refine ex_elim2 (getI hx) fun h hhj exx => ?_
        subst exx
        have hL : (rather wss[i] (plc ps (i : Int))).length ≤ 24 := by
          have : (rather wss[i] (plc ps (i : Int))).length ≤ wss[i].length := by
            cases plc ps (i : Int) with
            | none => exact Nat.le_refl _
            | some g => exact (List.takeWhile_sublist _).length_le
          (first | lia | omega)
        have hjl : j < (rather wss[i] (plc ps (i : Int))).length := (List.getElem?_eq_some_iff.mp hhj).1
        refine And.elim (fun h0 h1 => ?_) (wrg h (rather_sub (List.mem_of_getElem? hhj)))
        have X4 := ((X2.up s3 |> fun _ => (X.up sd).up (del_mono s3)).up sd4).up del_le
        refine ex_elim2 (X4.r) fun ras hr4a hr4b => ?_
        have hhR : h.toNat < Rs.length := by (first | lia | omega)
        refine ex_elim2 (Paired.at_ hr4b (List.getElem?_eq_getElem hhR)) fun ra era hra => ?_
        have eR : rowOf Rs h = Rs[h.toNat] := by unfold rowOf; simp [hhR]
        have g := X.g _ (List.getElem_mem hhR)
        have hatr : atI (ras.map V.ref) h = some (.ref ra) := by
          have q2 := atI_nat (xs := ras.map V.ref) (j := h.toNat) (v := .ref ra) (by rw [List.getElem?_map, era]; rfl)
          rwa [show ((h.toNat : Nat) : Int) = h by (first | lia | omega)] at q2
        refine house_elim (id hra) fun dx q1 q2 q3 e1 => ?_
        refine ⟨_, rfl, _, rfl, _, rfl, lr, _, _, _, rfl, rfl, hr4a, hatr, ra, dx, _, rfl, e1, rfl, _, rfl, _, rfl, lp, ps, h, rfl, X4.p, hn24, fun mh H5 s5 nmh emh => ?_⟩
        refine ⟨_, rfl, fits (Nat.le_of_ble_eq_true rfl), fun lk nlk => ?_⟩
        have hlh := len_heldL ps h
        refine ⟨mh, lk, _, _, rfl, rfl, (Same.new nlk) _ _ emh, upd_same, by rw [List.length_map]; exact fits (by simp; (first | lia | omega)), fun lc nlc => ?_⟩
        have s7 := (s5.up (o := .lst [.int (0 + (i : Int))]) nlk).up (o := .lst ((heldL ps h).map V.int ++ [.int (0 + (i : Int))])) nlc
        have ecs : (heldL ps h).map V.int ++ [.int (0 + (i : Int))] = (heldL ps h ++ [(i : Int)]).map V.int := by rw [Int.zero_add, List.map_append]; rfl
        rw [ecs] at s7 ⊢
        have hrg : ∀ c ∈ heldL ps h ++ [(i : Int)], 0 ≤ c ∧ c < ps.length := fun c hc => by
          rcases List.mem_append.mp hc with z | z
          · exact (heldL_mem.mp z).1
          · have : c = (i : Int) := List.mem_singleton.mp z
            (first | lia | omega)
        refine ⟨ra, lc, heldL ps h ++ [(i : Int)], Rs[h.toNat], ps.length, rfl, hra.up s7, g, SqL.of upd_same, held_plus_nodup (List.mem_of_getElem? hhj), hrg, fun mc ms H8 s8 nmc pms sms emc => ?_⟩
        have s48 := s7.trans s8
        refine ⟨mc, _, rfl, .inl (SqL.of emc), rfl, flat_ints _, _, rfl, ?_⟩
        rw [if_neg Bool.false_ne_true, inV_int]
        have elk : decide (0 + (i : Int) ∈ ms) = likes Rs ps (i : Int) h := by
          unfold likes
          rw [decide_eq_decide, Int.zero_add, pms.mem_iff, eR]
        rw [elk]
        refine ite2 (fun hb => ?_) (fun hb => ?_)
        · have elo8 := s48 _ _ elo4
          refine ⟨_, rfl, .inl ⟨rfl, _, SqL.of elo8⟩, _, rfl, _, rfl, fits (Nat.le_of_ble_eq_true rfl), fun tp ntp => ?_⟩
          have s89 : Same H8 (upd H8 tp (.tup [.int (0 + (i : Int)), .int h])) := Same.new ntp
          have elo9 := s89 _ _ elo8
          have ntlo : tp ≠ lo := fun z => by rw [z, elo8] at ntp; cases ntp
          refine ⟨lo, _, .ref tp, rfl, rfl, elo9, by rw [List.length_map]; exact Nat.lt_of_lt_of_le (show tas.length < 1000000 by (first | lia | omega)) (fits (Nat.le_refl _)), ?_⟩
          have sdel : Same (del H4 lo) (del (upd H8 tp (.tup [.int (0 + (i : Int)), .int h])) lo) := del_mono (s48.trans s89)
          refine ⟨tas ++ [tp], _, rfl, by rw [upd_same, List.map_append]; rfl, ?_, by rw [del_upd]; exact sd4.trans sdel, by rw [List.length_append, List.length_singleton]; (first | lia | omega)⟩
          rw [del_upd, take_filter hhj, if_pos hb, List.map_append, ← List.append_assoc]
          refine Paired.snoc ?_ (Paired.mapP pt4 fun _ _ z => sdel _ _ z)
          show del _ lo tp = _
          rw [del_ne ntlo, upd_same, Int.zero_add]
        · refine ⟨tas, _, rfl, s48 _ _ elo4, ?_, sd4.trans (del_mono s48), by (first | lia | omega)⟩
          rw [take_filter hhj, if_neg hb, List.append_nil]
          exact Paired.mapP pt4 fun _ _ z => del_mono s48 _ _ z
      · rintro σ H4 ⟨tas, v5, rfl, elo4, pt4, sd4, htl4⟩
        rw [List.length_map, List.take_length] at pt4
        refine ⟨tas, _, _, rfl, elo4, ?_, (sd.trans (del_mono s3)).trans sd4, ?_⟩
        · rw [List.take_add_one, rng_get hi, List.flatMap_append]
          have e : (some (i : Int)).toList.flatMap (pairsOf wss Rs ps) = ((rather wss[i] (plc ps (i : Int))).filter (likes Rs ps (i : Int))).map fun h => ((i : Int), h) := by
            show pairsOf wss Rs ps (i : Int) ++ [] = _
            rw [List.append_nil]
            unfold pairsOf
            rw [← Int.zero_add (i : Int), ewi, Int.zero_add]
          rw [e]
          exact pt4
        · have hL : (rather wss[i] (plc ps (i : Int))).length ≤ wss[i].length := by
            cases plc ps (i : Int) with
            | none => exact Nat.le_refl _
            | some g => exact (List.takeWhile_sublist _).length_le
          rw [List.length_map] at htl4
          (first | lia | omega)
    · rintro σ H2 ⟨tas, v4, v5, rfl, elo, pt, sd, htl⟩
      rw [show (rng ps.length).take ps.length = rng ps.length from List.take_of_length_le (by rw [rng_len]; exact Nat.le_refl _)] at pt
      exact ⟨_, rfl, q lo tas H2 (sd.trans del_le) nlo elo (Paired.mapP pt fun _ _ z => del_le _ _ z)⟩
end
end K13

set_option Elab.async false
set_option linter.all false
set_option maxRecDepth 100000
set_option maxHeartbeats 4000000
namespace K13
open PySem L2 Hse
/-! ### the waiting row -/
def wantL (wss : List (List Int)) (ps : List (Option Int)) (h : Int) : List Int := (rng ps.length).filter fun c => decide (h ∈ rather (wishOf wss c) (plc ps c))
def waitL (wss : List (List Int)) (Rs : List RowD) (ps : List (Option Int)) (h : Int) : List Int := (rowOf Rs h).rank (inL (wantL wss ps h))
theorem wantL_mem {wss : List (List Int)} {ps : List (Option Int)} {h c : Int} : c ∈ wantL wss ps h ↔ (0 ≤ c ∧ c < ps.length) ∧ h ∈ rather (wishOf wss c) (plc ps c) := by
  unfold wantL
  rw [List.mem_filter, rng_mem, decide_eq_true_eq]
theorem wantL_nodup (wss : List (List Int)) (ps : List (Option Int)) (h : Int) : (wantL wss ps h).Nodup := (rng_nodup _).filter _
def spWaiting (K : PySem.W.Frag) (C : Addr) : Sp := fun vs H Q _ => ∃ (lw lh lp : Addr) (wss : List (List Int)) (Rs : List RowD) (ps : List (Option Int)) (h : Nat), vs = [.ref lw, .ref lh, .ref lp, .int h] ∧ Hll K C H lw lh lp wss Rs ps ∧ h < Rs.length ∧
  ∀ m H', Same H H' → H m = none → H' m = some (.lst ((waitL wss Rs ps h).map V.int)) → Q (.ref m) H'
section
variable {P : Program} {w : World} {K : PySem.W.Frag} {mg : Str → Option Value} {base : Heap} {C : Addr}
theorem scWaiting : FnScope ["wishes", "houses", "places", "house", "wanting"] ["wishes", "houses", "places", "house"] (defScope sWaiting) := ⟨rfl, rfl, rfl, by decide +kernel, rfl, by decide +kernel, by decide +kernel⟩
theorem ok_waiting {f fr : Addr} {fd : FuncData} (F : FnAt K mg "waiting" sWaiting ["wishes", "houses", "places", "house"] f fd) (T : Cl K mg C) (Cra : Callee P w K mg base 1 "rather" ["wishes", "places", "comer"] (spLRather K)) (mR : Meth K C "ranked" fr) (CR : MCal P w K mg base 4 fr ["self", "comers"] (spRanked K C)) : Callee P w K mg base 5 "waiting" ["wishes", "houses", "places", "house"] (spWaiting K C) := by
  refine F.callee (F.fn.ok (k := 4) scWaiting (fun vs H Q E h => ?_) (fun cdv A outer s H vs Q E hr h => ?_))
  · obtain ⟨lw, lh, lp, wss, Rs, ps, h, rfl, _⟩ := h
    rfl
  · obtain ⟨lw, lh, lp, wss, Rs, ps, h, rfl, X, hh, q⟩ := h
    obtain ⟨fdr, bdr, FR⟩ := CR
    have hr1 : Room 1 _ := hr.mono (by decide)
    refine ⟨_, pss_cons (ps_setC (i := 4) (M := ["wishes", "houses", "places", "house", "wanting"]) scWaiting.nd rfl (Or.inl rfl) ⟨by rfl, by rfl, by rfl, by rfl, by rfl, by rfl, by decide +kernel⟩ (by rfl) (pi_range1 (by rfl) T.b.range (pa_cons (pe_len T.b call_len_seq (pv 0)) pa_nil)) (fun B => pts_one (pt_cmpR op_in_seq (pv 4) (pe_fn Cra hr1 (pa_cons (pv 1) (pa_cons (pv 3) (pa_cons (pv 0) pa_nil)))) (by with_unfolding_all rfl))) (fun B => pv 0))
      (pss_one (ps_ret (pe_meth (pe_ix ix_list (pv 1) (pv 3) (fun _ _ => rfl)) T.cls mR FR hr bdr .nil pass0 (pa_cons (pv 4) pa_nil)))), ?_⟩
    refine ex_elim2 (X.w) fun was hW pw => ?_
    refine ex_elim2 (X.r) fun has hH ph => ?_
    have hn24 := X.n24
    have hn := X.n
    refine ⟨_, rfl, lw, _, rfl, .inl hW, ?_⟩
    rw [List.length_map, show was.length = ps.length from (Paired.length pw).trans X.n]
    refine ⟨(ps.length : Nat), rfl, by (first | lia | omega), by (first | lia | omega), comp_range (n := ps.length) (fun i ys H2 => Same H H2 ∧ ys = (((rng ps.length).take i).filter fun c => decide ((h : Int) ∈ rather (wishOf wss c) (plc ps c))).map V.int) (fits (by (first | lia | omega))) ⟨Same.refl _, rfl⟩ ?_ ?_ ?_⟩
    · rintro i ys H2 ⟨_, rfl⟩
      rw [List.length_map]
      exact len_filter _ i
    · rintro i ys H2 B N1 N2 hi ⟨sm, rfl⟩ k1 k2
      have hci : (rng ps.length)[i]? = some (0 + (i : Int)) := by rw [Int.zero_add]; exact rng_get hi
      have hiw : i < wss.length := by (first | lia | omega)
      refine ex_elim2 (Paired.at_ pw (List.getElem?_eq_getElem hiw)) fun wa ewa hwa => ?_
      refine And.elim (fun wnd wrg => ?_) (X.wg wss[i] (List.getElem_mem hiw))
      have wl : wss[i].length ≤ 24 := Nat.le_trans (good_len wnd wrg) X.h24
      refine ⟨_, rfl, _, rfl, _, rfl, _, rfl, lw, lp, wa, was, ps, wss[i], i, (by rw [Int.zero_add]; rfl), sm.seq hW, ewa, hwa.up sm, sm.seq X.p, hi, wl, fun m H3 s3 nm em => ?_⟩
      refine ⟨m, _, rfl, .inl (SqL.of em), rfl, flat_ints _, _, rfl, ?_⟩
      rw [if_neg Bool.false_ne_true, inV_int]
      have ed : decide ((h : Int) ∈ rather wss[i] (plc ps (i : Int))) = decide ((h : Int) ∈ rather (wishOf wss (0 + (i : Int))) (plc ps (0 + (i : Int)))) := by rw [Int.zero_add, wish_at hiw]
      rw [ed]
      refine ite2 (fun hb => ⟨_, rfl, k1 _ _ ⟨sm.trans s3, ?_⟩⟩) (fun hb => k2 _ ⟨sm.trans s3, ?_⟩)
      · rw [take_filter hci, if_pos hb, List.map_append]
        rfl
      · rw [take_filter hci, if_neg hb, List.append_nil]
    · rintro ys H2 ⟨sm, rfl⟩ acc hacc
      rw [show (rng ps.length).take ps.length = rng ps.length from List.take_of_length_le (by rw [rng_len]; exact Nat.le_refl _)]
      have s2 := sm.up (o := .lst (((rng ps.length).filter fun c => decide ((h : Int) ∈ rather (wishOf wss c) (plc ps c))).map V.int)) hacc
      have ea : upd H2 acc (.lst (((rng ps.length).filter fun c => decide ((h : Int) ∈ rather (wishOf wss c) (plc ps c))).map V.int)) acc = some (.lst ((wantL wss ps h).map V.int)) := upd_same
      generalize upd H2 acc (.lst (((rng ps.length).filter fun c => decide ((h : Int) ∈ rather (wishOf wss c) (plc ps c))).map V.int)) = H3 at s2 ea ⊢
      refine ex_elim2 (Paired.at_ ph (List.getElem?_eq_getElem hh)) fun ha eha hha => ?_
      refine house_elim (id (hha.up s2)) fun dx p1 p2 p3 e1 => ?_
      have eR := row_at hh
      refine ⟨_, rfl, _, rfl, lh, _, _, _, rfl, rfl, s2.seq hH, at_ref eha, ha, dx, _, rfl, e1, rfl, _, rfl, ha, acc, wantL wss ps h, Rs[h], ps.length, rfl, hha.up s2, X.g _ (List.getElem_mem hh), SqL.of ea, wantL_nodup _ _ _, fun c hc => (wantL_mem.mp hc).1, fun m H4 s4 nm em => ?_⟩
      refine q m H4 (s2.trans s4) (s2.free nm) ?_
      unfold waitL
      rw [eR]
      exact em
end
end K13

set_option Elab.async false
set_option linter.all false
set_option maxRecDepth 100000
set_option maxHeartbeats 4000000
namespace K13
open PySem L2 Hse
theorem den_wishes {K : PySem.W.Frag} {H : Hp} : ∀ {was : List Addr} {wss : List (List Int)}, Paired (WishAt H) was wss → DenAll K H (was.map V.ref) (wss.map fun ws => .list (ws.map PyData.int))
  | [], [], _ => .nil
  | _ :: _, ws :: _, .cons r t => .cons (.list (SqL.of r) (DenAll.ints ws)) (den_wishes t)
theorem lay_wishes : ∀ wss : List (List Int), PyData.canLayAll0 (wss.map fun ws => PyData.list (ws.map PyData.int)) = true
  | [] => rfl
  | ws :: wss => by
    have h1 := (eqv_ints ws).2.1
    have h2 := lay_wishes wss
    rw [List.map_cons]
    unfold PyData.canLayAll0
    rw [h1, h2]
    rfl
theorem depth_wishes (wss : List (List Int)) : (PyData.list (wss.map fun ws => PyData.list (ws.map PyData.int))).depth ≤ 3 := by
  unfold PyData.depth
  have : PyData.depthAll (wss.map fun ws => PyData.list (ws.map PyData.int)) ≤ 2 := by
    induction wss with
    | nil => simp [PyData.depthAll]
    | cons ws wss ih =>
      have := (eqv_ints ws).2.2
      simp only [List.map_cons, PyData.depthAll]
      (first | lia | omega)
  (first | lia | omega)
def wsD (wss : List (List Int)) : PyData := .list (wss.map fun ws => PyData.list (ws.map PyData.int))
theorem lay_ws (wss : List (List Int)) : (wsD wss).canLay0 = true := lay_wishes wss
theorem eqv_ws (wss : List (List Int)) : PyData.eqv (wsD wss) (wsD wss) = true := SeqAt.eqv_refl _ (lay_ws wss)
theorem depth_ws (wss : List (List Int)) : (wsD wss).depth ≤ 3 := depth_wishes wss
theorem pairs_len {wss : List (List Int)} {Rs : List RowD} {ps : List (Option Int)} {m : Nat} (h : ∀ k : Int, (wishOf wss k).length ≤ m) : (pairsL wss Rs ps).length ≤ ps.length * m := by
  unfold pairsL
  have key : ∀ l : List Int, (l.flatMap (pairsOf wss Rs ps)).length ≤ l.length * m := fun l => by
    induction l with
    | nil => simp
    | cons k l ih =>
      rw [List.flatMap_cons, List.length_append, List.length_cons, Nat.add_mul]
      have h1 : (pairsOf wss Rs ps k).length ≤ (wishOf wss k).length := by
        unfold pairsOf
        rw [List.length_map]
        have e1 := List.length_filter_le (likes Rs ps k) (rather (wishOf wss k) (plc ps k))
        have e2 : (rather (wishOf wss k) (plc ps k)).length ≤ (wishOf wss k).length := by
          cases plc ps k with
          | none => exact Nat.le_refl _
          | some g => exact (List.takeWhile_sublist _).length_le
        (first | lia | omega)
      have := h k
      (first | lia | omega)
  have := key (rng ps.length)
  rw [rng_len] at this
  exact this
theorem wish_len {wss : List (List Int)} {h : Nat} (wg : ∀ ws ∈ wss, WGood h ws) (k : Int) : (wishOf wss k).length ≤ h := by
  unfold wishOf
  by_cases z : k.toNat < wss.length
  · rw [List.getD_eq_getElem?_getD, List.getElem?_eq_getElem z]
    obtain ⟨a, b⟩ := wg _ (List.getElem_mem z)
    exact good_len a b
  · rw [List.getD_eq_getElem?_getD, List.getElem?_eq_none (by (first | lia | omega))]
    exact Nat.zero_le _
end K13

set_option Elab.async false
set_option linter.all false
set_option maxRecDepth 100000
set_option maxHeartbeats 4000000
namespace K13
open PySem L2 Hse
/-! ### the year: the mathematics over lists -/
abbrev Stp : Type := Int × Option Int × Int
def nextL (wss : List (List Int)) (Rs : List RowD) (ps : List (Option Int)) (h : Int) : List Int := (waitL wss Rs ps h).filter fun c => decide (c ∈ (rowOf Rs h).pick ((hallOf wss Rs).near (plc ps) h))
structure IsStep (wss : List (List Int)) (Rs : List RowD) (ps : List (Option Int)) (s : Stp) : Prop where
  mem : s.2.2 ∈ (pairsL wss Rs ps).map (·.2)
  min : ∀ g ∈ (pairsL wss Rs ps).map (·.2), s.2.2 ≤ g
  nx : (nextL wss Rs ps s.2.2).head? = some s.1
  was : s.2.1 = plc ps s.1
def walkL (S : List Stp) (ps : List (Option Int)) : List (Option Int) := S.foldl (fun ps s => ps.set s.1.toNat (some s.2.2)) ps
theorem walk_snoc (S : List Stp) (s : Stp) (ps : List (Option Int)) : walkL (S ++ [s]) ps = (walkL S ps).set s.1.toNat (some s.2.2) := by
  unfold walkL
  rw [List.foldl_append]
  rfl
theorem walk_len (S : List Stp) (ps : List (Option Int)) : (walkL S ps).length = ps.length := by
  unfold walkL
  induction S generalizing ps with
  | nil => rfl
  | cons s S ih => rw [List.foldl_cons, ih, List.length_set]
def UpTo (wss : List (List Int)) (ps qs : List (Option Int)) : Prop := ∀ c : Int, 0 ≤ c → c < ps.length → plc qs c = plc ps c ∨ ∃ h, plc qs c = some h ∧ h ∈ rather (wishOf wss c) (plc ps c)
def climb (wss : List (List Int)) (ps : List (Option Int)) : Nat := ((rng ps.length).map fun c => (rather (wishOf wss c) (plc ps c)).length).sum
/-- so far -/
structure Going (wss : List (List Int)) (Rs : List RowD) (ps : List (Option Int)) (S : List Stp) : Prop where
  ok : ∀ i s, S[i]? = some s → IsStep wss Rs (walkL (S.take i) ps) s
  calm : (hallOf wss Rs).Calm (plc (walkL S ps))
  up : UpTo wss ps (walkL S ps)
  len : S.length + climb wss (walkL S ps) ≤ climb wss ps
theorem plc_set {ps : List (Option Int)} {k : Nat} {x : Option Int} (hk : k < ps.length) {c : Int} (h0 : 0 ≤ c) : plc (ps.set k x) c = if c = (k : Int) then x else plc ps c := by
  unfold plc
  rw [List.getD_eq_getElem?_getD, List.getElem?_set]
  by_cases e : c = (k : Int)
  · rw [if_pos e, e, Int.toNat_natCast, if_pos rfl, if_pos hk]; rfl
  · rw [if_neg e, if_neg (by (first | lia | omega)), ← List.getD_eq_getElem?_getD]
theorem pairs_mem {wss : List (List Int)} {Rs : List RowD} {ps : List (Option Int)} (hn : wss.length = ps.length) {c h : Int} : (c, h) ∈ pairsL wss Rs ps ↔ (hallOf wss Rs).comer c ∧ h ∈ rather (wishOf wss c) (plc ps c) ∧ c ∈ (rowOf Rs h).pick (plus ((hallOf wss Rs).held (plc ps) h) c) := by
  have com : (hallOf wss Rs).comer c ↔ 0 ≤ c ∧ c < ps.length := by
    show 0 ≤ c ∧ c < (wss.length : Nat) ↔ _
    rw [hn]
  unfold pairsL
  rw [List.mem_flatMap, com]
  constructor
  · rintro ⟨d, hd, hp⟩
    unfold pairsOf at hp
    obtain ⟨g, hg, e⟩ := List.mem_map.mp hp
    obtain ⟨h1, h2⟩ := List.mem_filter.mp hg
    have e1 : d = c := congrArg Prod.fst e
    have e2 : g = h := congrArg Prod.snd e
    subst e1 e2
    unfold likes at h2
    have h2 := of_decide_eq_true h2
    rw [heldL_plus hn] at h2
    exact ⟨(rng_mem _ _).mp hd, h1, h2⟩
  · rintro ⟨hc, h1, h2⟩
    refine ⟨c, (rng_mem _ _).mpr hc, ?_⟩
    unfold pairsOf
    refine List.mem_map.mpr ⟨h, List.mem_filter.mpr ⟨h1, ?_⟩, rfl⟩
    unfold likes
    rw [heldL_plus hn]
    exact decide_eq_true h2
section
variable {wss : List (List Int)} {Rs : List RowD} {ps : List (Option Int)} {S : List Stp}
theorem want_eq (hn : wss.length = ps.length) (h : Int) : inL (wantL wss ps h) = (hallOf wss Rs).want (plc ps) h := by
  funext c
  unfold inL Hall.want
  rw [decide_eq_decide, wantL_mem]
  show _ ↔ (0 ≤ c ∧ c < (wss.length : Nat)) ∧ _
  rw [hn]
  rfl
/-- what is near, as the program and the law gather it -/
theorem near_cat (hn : wss.length = ps.length) {h : Int} {n : Nat} (g : Good (rowOf Rs h) n) : (rowOf Rs h).pick (inL (heldL ps h ++ waitL wss Rs ps h)) = (rowOf Rs h).pick ((hallOf wss Rs).near (plc ps) h) := by
  refine pick_eqP fun c hc => ?_
  unfold Hall.near uni
  rw [← heldL_eq (Rs := Rs) hn, ← want_eq (Rs := Rs) hn]
  unfold inL
  rw [← Bool.decide_or, decide_eq_decide, List.mem_append]
  refine or_congr Iff.rfl ?_
  unfold waitL RowD.rank
  rw [List.mem_filter]
  exact ⟨fun z => of_decide_eq_true z.2, fun z => ⟨hc, decide_eq_true z⟩⟩
theorem near_cat2 (hn : wss.length = ps.length) (h : Int) : inL (heldL ps h ++ wantL wss ps h) = (hallOf wss Rs).near (plc ps) h := by
  funext c
  unfold Hall.near uni
  rw [← heldL_eq (Rs := Rs) hn, ← want_eq (Rs := Rs) hn]
  unfold inL
  rw [← Bool.decide_or, decide_eq_decide, List.mem_append]
theorem next_mem (hn : wss.length = ps.length) {h c : Int} : c ∈ nextL wss Rs ps h ↔ (hallOf wss Rs).want (plc ps) h c = true ∧ c ∈ (rowOf Rs h).pick ((hallOf wss Rs).near (plc ps) h) := by
  unfold nextL waitL RowD.rank
  rw [List.mem_filter, List.mem_filter, decide_eq_true_eq, want_eq (Rs := Rs) hn]
  exact ⟨fun ⟨⟨_, b⟩, c⟩ => ⟨b, c⟩, fun ⟨b, c⟩ => ⟨⟨(pick_sub c).1, b⟩, c⟩⟩
/-- where there are pairs there is a step -/
theorem next_some (hn : wss.length = ps.length) (g : ∀ R ∈ Rs, Good R wss.length) (wg : ∀ ws ∈ wss, WGood Rs.length ws) (ca : (hallOf wss Rs).Calm (plc ps)) {h : Int} (hm : h ∈ (pairsL wss Rs ps).map (·.2)) : ∃ c, (nextL wss Rs ps h).head? = some c := by
  have ok := hall_ok g wg
  obtain ⟨p, hp, rfl⟩ := List.mem_map.mp hm
  obtain ⟨hc, hr, hb⟩ := (pairs_mem hn (c := p.1) (h := p.2)).mp hp
  obtain ⟨d, d1, d2⟩ := taker ok ca (ok.whs p.1 p.2 (rather_sub hr)) hc hr hb
  have hd : d ∈ nextL wss Rs ps p.2 := (next_mem hn).mpr ⟨d2, d1⟩
  cases e : nextL wss Rs ps p.2 with
  | nil => rw [e] at hd; cases hd
  | cons x l => exact ⟨x, rfl⟩
theorem head_mem {l : List Int} {c : Int} (h : l.head? = some c) : c ∈ l := by
  cases l with
  | nil => cases h
  | cons x l =>
    have : x = c := Option.some.inj h
    rw [this]; exact List.mem_cons_self
theorem going_start (ca : (hallOf wss Rs).Calm (plc ps)) : Going wss Rs ps [] := ⟨fun i s e => by simp at e, ca, fun c _ _ => .inl rfl, by show 0 + climb wss ps ≤ climb wss ps; (first | lia | omega)⟩
/-- a step more -/
theorem going_step (hn : wss.length = ps.length) (g : ∀ R ∈ Rs, Good R wss.length) (wg : ∀ ws ∈ wss, WGood Rs.length ws) (G : Going wss Rs ps S) {s : Stp} (st : IsStep wss Rs (walkL S ps) s) :
    Going wss Rs ps (S ++ [s]) ∧ climb wss (walkL (S ++ [s]) ps) < climb wss (walkL S ps) ∧ (0 ≤ s.1 ∧ s.1 < ps.length) := by
  have ok := hall_ok g wg
  have hl := walk_len S ps
  have hn1 : wss.length = (walkL S ps).length := by rw [hl]; exact hn
  refine And.elim (fun w1 w2 => ?_) ((next_mem hn1).mp (head_mem st.nx))
  refine And.elim (fun hc hr => ?_) (want_iff.mp w1)
  have hc' : 0 ≤ s.1 ∧ s.1 < (wss.length : Nat) := hc
  have hr' : s.2.2 ∈ rather (wishOf wss s.1) (plc (walkL S ps) s.1) := hr
  have hk : s.1.toNat < (walkL S ps).length := by rw [← hn1]; (first | lia | omega)
  have hcast : ((s.1.toNat : Nat) : Int) = s.1 := by (first | lia | omega)
  have hh : s.2.2 ∈ (hallOf wss Rs).hs := ok.whs s.1 s.2.2 (rather_sub hr)
  have ew := walk_snoc S s ps
  have pset : ∀ c : Int, 0 ≤ c → plc (walkL (S ++ [s]) ps) c = if c = s.1 then some s.2.2 else plc (walkL S ps) c := fun c h0 => by
    rw [ew, plc_set hk h0, hcast]
  have hlt : climb wss (walkL (S ++ [s]) ps) < climb wss (walkL S ps) := by
    unfold climb
    rw [ew, List.length_set, ← ew]
    refine sum_lt (fun c hc2 => ?_) ⟨s.1, (rng_mem _ _).mpr ⟨hc'.1, by rw [← hn1]; exact hc'.2⟩, ?_⟩
    · rw [pset c ((rng_mem _ _).mp hc2).1]
      by_cases e : c = s.1
      · rw [if_pos e, e]
        exact Nat.le_of_lt (rather_lt (wish_nodup wg _) hr')
      · rw [if_neg e]; exact Nat.le_refl _
    · rw [pset s.1 hc'.1, if_pos rfl]
      exact rather_lt (wish_nodup wg _) hr'
  refine ⟨⟨fun i t e => ?_, ?_, fun c h0 h1 => ?_, ?_⟩, hlt, hc'.1, by rw [← hn]; exact hc'.2⟩
  · by_cases hi : i < S.length
    · rw [List.getElem?_append_left hi] at e
      rw [List.take_append_of_le_length (by (first | lia | omega))]
      exact G.ok i t e
    · have : i = S.length := by
        have := (List.getElem?_eq_some_iff.mp e).1
        rw [List.length_append, List.length_singleton] at this
        (first | lia | omega)
      subst this
      rw [List.getElem?_append_right (Nat.le_refl _), Nat.sub_self] at e
      have e : s = t := Option.some.inj e
      rw [← e, List.take_append_of_le_length (Nat.le_refl _), List.take_length]
      exact st
  · refine calm_congr (W := hallOf wss Rs) (μ := move (plc (walkL S ps)) s.1 (some s.2.2)) rfl rfl (fun _ _ => rfl) (fun _ _ => rfl) (fun c hc2 => ?_) (calm_step ok G.calm hh w2 w1)
    unfold move
    exact (pset c hc2.1).symm
  · rw [pset c h0]
    by_cases e : c = s.1
    · rw [if_pos e]
      refine .inr ⟨_, rfl, ?_⟩
      rw [e]
      rcases G.up s.1 hc'.1 (by rw [← hn]; exact hc'.2) with z | ⟨y, z1, z2⟩
      · rw [← z]; exact hr'
      · rw [z1] at hr'
        exact rather_trans hr' z2
    · rw [if_neg e]; exact G.up c h0 h1
  · rw [List.length_append, List.length_singleton]
    have := G.len
    (first | lia | omega)
theorem going_end (hn : wss.length = ps.length) (G : Going wss Rs ps S) (z : pairsL wss Rs (walkL S ps) = []) : (hallOf wss Rs).Fair (plc (walkL S ps)) := by
  have hn1 : wss.length = (walkL S ps).length := by rw [walk_len]; exact hn
  refine calm_end G.calm fun c h hc hr hp => ?_
  have := (pairs_mem hn1 (Rs := Rs) (c := c) (h := h)).mpr ⟨hc, hr, hp⟩
  rw [z] at this
  cases this
end
/-- all steps are done -/
structure Moved (wss : List (List Int)) (Rs : List RowD) (ps : List (Option Int)) (S : List Stp) : Prop where
  ok : ∀ i s, S[i]? = some s → IsStep wss Rs (walkL (S.take i) ps) s
  fair : (hallOf wss Rs).Fair (plc (walkL S ps))
  up : UpTo wss ps (walkL S ps)
  len : S.length ≤ climb wss ps
  nil : pairsL wss Rs (walkL S ps) = []
theorem climb_le {wss : List (List Int)} {ps : List (Option Int)} {m : Nat} (h : ∀ k : Int, (wishOf wss k).length ≤ m) : climb wss ps ≤ ps.length * m := by
  unfold climb
  have key : ∀ l : List Int, (l.map fun c => (rather (wishOf wss c) (plc ps c)).length).sum ≤ l.length * m := fun l => by
    induction l with
    | nil => simp
    | cons k l ih =>
      rw [List.map_cons, List.sum_cons, List.length_cons, Nat.add_mul]
      have h1 : (rather (wishOf wss k) (plc ps k)).length ≤ (wishOf wss k).length := by
        cases plc ps k with
        | none => exact Nat.le_refl _
        | some g => exact (List.takeWhile_sublist _).length_le
      have := h k
      (first | lia | omega)
  have := key (rng ps.length)
  rw [rng_len] at this
  exact this
end K13

set_option Elab.async false
set_option linter.all false
set_option maxRecDepth 100000
set_option maxHeartbeats 4000000
namespace K13
open PySem L2 Hse
/-! ### steps -/
def spNext (K : PySem.W.Frag) (C : Addr) : Sp := fun vs H Q _ => ∃ (lw lh lp : Addr) (wss : List (List Int)) (Rs : List RowD) (ps : List (Option Int)) (h c : Int), vs = [.ref lw, .ref lh, .ref lp, .int h] ∧ Hll K C H lw lh lp wss Rs ps ∧ 0 ≤ h ∧ h < Rs.length ∧ (nextL wss Rs ps h).head? = some c ∧ ∀ H', Same H H' → Q (.int c) H'
theorem wait_sub {wss : List (List Int)} {Rs : List RowD} {ps : List (Option Int)} {h c : Int} (hc : c ∈ waitL wss Rs ps h) : c ∈ wantL wss ps h := by
  unfold waitL RowD.rank at hc
  exact of_decide_eq_true (List.mem_filter.mp hc).2
theorem head_at {l : List Int} {c : Int} (h : l.head? = some c) : atI (l.map V.int) 0 = some (.int c) := by
  cases l with
  | nil => cases h
  | cons x l =>
    have : x = c := Option.some.inj h
    subst this
    exact atI_nat (j := 0) rfl
section
variable {P : Program} {w : World} {K : PySem.W.Frag} {mg : Str → Option Value} {base : Heap} {C : Addr}
theorem scNext : FnScope ["wishes", "houses", "places", "house", "row", "chosen"] ["wishes", "houses", "places", "house"] (defScope sNext) := ⟨rfl, rfl, rfl, by decide +kernel, rfl, by decide +kernel, by decide +kernel⟩
theorem ok_next {f fc : Addr} {fd : FuncData} (F : FnAt K mg "next_taken" sNext ["wishes", "houses", "places", "house"] f fd) (T : Cl K mg C) (Cwt : Callee P w K mg base 5 "waiting" ["wishes", "houses", "places", "house"] (spWaiting K C)) (Chd : Callee P w K mg base 1 "held" ["places", "house"] (spLHeld K)) (mC : Meth K C "chosen" fc) (CC : MCal P w K mg base 5 fc ["self", "comers"] (spChosen K C)) :
    Callee P w K mg base 6 "next_taken" ["wishes", "houses", "places", "house"] (spNext K C) := by
  refine F.callee (F.fn.ok (k := 5) scNext (fun vs H Q E h => ?_) (fun cdv A outer s H vs Q E hr h => ?_))
  · obtain ⟨lw, lh, lp, wss, Rs, ps, h, c, rfl, _⟩ := h
    rfl
  · obtain ⟨lw, lh, lp, wss, Rs, ps, h, c, rfl, X, h0, h1, hx, q⟩ := h
    obtain ⟨fdc, bdc, FC⟩ := CC
    have hr1 : Room 1 _ := hr.mono (by decide)
    refine ⟨_, pss_cons (ps_set (i := 4) scNext.nd rfl (Or.inl rfl) (pe_fn Cwt hr (pa_cons (pv 0) (pa_cons (pv 1) (pa_cons (pv 2) (pa_cons (pv 3) pa_nil))))))
      (pss_cons (ps_set (i := 5) scNext.nd rfl (Or.inr rfl) (pe_meth (pe_ix ix_list (pv 1) (pv 3) (fun _ _ => rfl)) T.cls mC FC hr bdc .nil pass0 (pa_cons (pe_op op_cat (pe_fn Chd hr1 (pa_cons (pv 2) (pa_cons (pv 3) pa_nil))) (pv 4)) pa_nil)))
      (pss_one (ps_ret (pe_ix ix_list (pe_comp (M := ["wishes", "houses", "places", "house", "row", "chosen"]) ⟨by rfl, by rfl, by rfl, by rfl, by rfl, by rfl, by decide +kernel⟩ (by rfl) (pi_list (pv 4)) (fun B => pts_one (pt_cmpR op_in_seq (pv 0) (pv 6) (by with_unfolding_all rfl))) (fun B => pv 0)) (pe_int) (fun _ _ => rfl))))), ?_⟩
    have hk : h.toNat < Rs.length := by (first | lia | omega)
    have hcast : ((h.toNat : Nat) : Int) = h := by (first | lia | omega)
    have hn24 := X.n24
    refine ⟨_, rfl, _, rfl, _, rfl, _, rfl, lw, lh, lp, wss, Rs, ps, h.toNat, (by rw [hcast]; rfl), X, hk, fun m1 H1 s1 nm1 em1 => ?_⟩
    rw [hcast] at em1
    have X1 := X.up s1
    refine ex_elim2 (X1.r) fun has hH ph => ?_
    refine ex_elim2 (Paired.at_ ph (List.getElem?_eq_getElem hk)) fun ha eha hha => ?_
    have eR : rowOf Rs h = Rs[h.toNat] := by unfold rowOf; simp [hk]
    have g := X.g _ (List.getElem_mem hk)
    have hath : atI (has.map V.ref) h = some (.ref ha) := by
      have := at_ref eha
      rwa [hcast] at this
    refine house_elim (id hha) fun dx q1 q2 q3 ehx => ?_
    have hwn : (waitL wss Rs ps h).Nodup := by unfold waitL; rw [eR]; exact rank_nodup g
    have hwr : ∀ c ∈ waitL wss Rs ps h, 0 ≤ c ∧ c < ps.length := fun c hc => (wantL_mem.mp (wait_sub hc)).1
    have hwl : (waitL wss Rs ps h).length ≤ 24 := Nat.le_trans (good_len hwn hwr) hn24
    have hln := len_heldL ps h
    refine ⟨_, rfl, _, rfl, lh, _, _, _, rfl, rfl, hH, hath, ha, dx, _, rfl, ehx, rfl, _, rfl, _, rfl, lp, ps, h, rfl, X1.p, hn24, fun m2 H2 s2 nm2 em2 => ?_⟩
    refine ⟨_, rfl, m2, m1, _, _, rfl, rfl, em2, s2 _ _ em1, by rw [List.length_map, List.length_map]; exact fits (by (first | lia | omega)), fun l3 nl3 => ?_⟩
    rw [← List.map_append]
    have s3 := s2.up (o := .lst ((heldL ps h ++ waitL wss Rs ps h).map V.int)) nl3
    have hnd : (heldL ps h ++ waitL wss Rs ps h).Nodup := List.nodup_append.mpr ⟨heldL_nodup _ _, hwn, fun a ha b hb e => by
      subst e
      have z1 := (heldL_mem.mp ha).2
      have z2 := (wantL_mem.mp (wait_sub hb)).2
      rw [z1] at z2
      exact rather_self z2⟩
    have hrg : ∀ c ∈ heldL ps h ++ waitL wss Rs ps h, 0 ≤ c ∧ c < ps.length := fun c hc => (List.mem_append.mp hc).elim (fun z => (heldL_mem.mp z).1) (hwr c)
    refine ⟨ha, l3, heldL ps h ++ waitL wss Rs ps h, Rs[h.toNat], ps.length, rfl, hha.up s3, g, SqL.of upd_same, hnd, hrg, fun mc ms H4 s4 nmc pms sms emc => ?_⟩
    have em14 := s4 _ _ (s3 _ _ em1)
    have s14 := s3.trans s4
    refine ⟨_, rfl, m1, rfl, ⟨_, SqL.of em14⟩, comp_list (xs := (waitL wss Rs ps h).map V.int) (fun i ys H5 => H5 = H4 ∧ ys = (((waitL wss Rs ps h).take i).filter fun c => decide (c ∈ ms)).map V.int) (fits (by rw [List.length_map]; (first | lia | omega))) ⟨rfl, rfl⟩ ?_ ?_ ?_⟩
    · rintro i ys H5 ⟨rfl, rfl⟩
      exact ⟨SqL.of em14, by rw [List.length_map]; exact len_filter _ i⟩
    · rintro i x ys H5 B N1 N2 hx ⟨rfl, rfl⟩ n1 n2
      refine ex_elim2 (getI hx) fun c hci exx => ?_
      subst exx
      refine ⟨_, rfl, _, rfl, mc, _, rfl, .inl (SqL.of emc), rfl, flat_ints _, _, rfl, ?_⟩
      rw [if_neg Bool.false_ne_true, inV_int]
      refine ite2 (fun hb => ?_) (fun hb => ?_)
      · refine ⟨_, rfl, n1 _ _ ⟨rfl, ?_⟩⟩
        rw [take_filter hci, if_pos hb, List.map_append]
        rfl
      · refine n2 _ ⟨rfl, ?_⟩
        rw [take_filter hci, if_neg hb, List.append_nil]
    · rintro ys H5 ⟨rfl, rfl⟩ acc hacc
      rw [List.length_map, List.take_length]
      have ef : ((waitL wss Rs ps h).filter fun c => decide (c ∈ ms)) = nextL wss Rs ps h := by
        unfold nextL
        refine List.filter_congr fun c _ => ?_
        have g' : Good (rowOf Rs h) ps.length := by rw [eR]; exact g
        rw [decide_eq_decide, pms.mem_iff, ← near_cat X.n g', eR]
      rw [ef]
      exact ⟨acc, _, _, _, rfl, rfl, SqL.of upd_same, head_at hx, q _ ((s1.trans s14).up hacc)⟩
end
def StepAt (H : Hp) (a : Addr) (s : Stp) : Prop := H a = some (.tup [.int s.1, encO s.2.1, .int s.2.2])
theorem StepAt.up {H H' : Hp} {a : Addr} {s : Stp} (z : Same H H') (h : StepAt H a s) : StepAt H' a s := z _ _ h
/-- a pair of places and steps -/
def GoneAt (H0 H : Hp) (m : Addr) (wss : List (List Int)) (Rs : List RowD) (ps : List (Option Int)) : Prop := ∃ (lm ls : Addr) (sas : List Addr) (S : List Stp), H m = some (.tup [.ref lm, .ref ls]) ∧ H lm = some (.lst ((walkL S ps).map encO)) ∧ H ls = some (.lst (sas.map V.ref)) ∧ Paired (StepAt H) sas S ∧ H0 m = none ∧ H0 lm = none ∧ H0 ls = none ∧ Moved wss Rs ps S
def spMoved (K : PySem.W.Frag) (C : Addr) : Sp := fun vs H Q _ => ∃ (lw lh lp : Addr) (wss : List (List Int)) (Rs : List RowD) (ps : List (Option Int)), vs = [.ref lw, .ref lh, .ref lp] ∧ Hll K C H lw lh lp wss Rs ps ∧ (hallOf wss Rs).Calm (plc ps) ∧
  ∀ (m : Addr) (H' : Hp), Same H H' → GoneAt H H' m wss Rs ps → Q (.ref m) H'
theorem eqv_nilP (wss : List (List Int)) (Rs : List RowD) (ps : List (Option Int)) : PyData.eqv (.list ((pairsL wss Rs ps).map pairD)) (.list []) = decide (pairsL wss Rs ps = []) := by
  rw [eqv_nil, decide_eq_decide, List.map_eq_nil_iff]
def MInv (lw lh lp lm ls : Addr) (wss : List (List Int)) (Rs : List RowD) (ps : List (Option Int)) (H : Hp) (m : Nat) (σ : St) (H6 : Hp) : Prop := ∃ (S : List Stp) (sas tas : List Addr) (lq : Addr) (v6 v7 : Option V), σ = [some (.ref lw), some (.ref lh), some (.ref lp), some (.ref lm), some (.ref ls), some (.ref lq), v6, v7] ∧ Same H H6 ∧ H6 lm = some (.lst ((walkL S ps).map encO)) ∧ H6 ls = some (.lst (sas.map V.ref)) ∧ Paired (StepAt (del H6 ls)) sas S ∧ H6 lq = some (.lst (tas.map V.ref)) ∧ Paired (PairAt (del H6 ls)) tas (pairsL wss Rs (walkL S ps)) ∧ lq ≠ ls ∧ Going wss Rs ps S ∧ m = climb wss (walkL S ps)
theorem MInv.elim {Q : Prop} {lw lh lp lm ls : Addr} {wss : List (List Int)} {Rs : List RowD} {ps : List (Option Int)} {H : Hp} {m : Nat} {σ : St} {H6 : Hp} (x : MInv lw lh lp lm ls wss Rs ps H m σ H6) (k : ∀ (S : List Stp) (sas tas : List Addr) (lq : Addr) (v6 v7 : Option V), σ = [some (.ref lw), some (.ref lh), some (.ref lp), some (.ref lm), some (.ref ls), some (.ref lq), v6, v7] → Same H H6 → H6 lm = some (.lst ((walkL S ps).map encO)) → H6 ls = some (.lst (sas.map V.ref)) → Paired (StepAt (del H6 ls)) sas S → H6 lq = some (.lst (tas.map V.ref)) → Paired (PairAt (del H6 ls)) tas (pairsL wss Rs (walkL S ps)) → lq ≠ ls → Going wss Rs ps S → m = climb wss (walkL S ps) → Q) : Q := by
  obtain ⟨S, sas, tas, lq, v6, v7, e, sm, elm, els, pS, elq, pT, nqs, G, em⟩ := x
  exact k S sas tas lq v6 v7 e sm elm els pS elq pT nqs G em
section
variable {P : Program} {w : World} {K : PySem.W.Frag} {mg : Str → Option Value} {base : Heap} {C : Addr}
theorem scMoved : FnScope ["wishes", "houses", "places", "moving", "steps", "pairs", "house", "comer"] ["wishes", "houses", "places"] (defScope sMoved) := ⟨rfl, rfl, rfl, by decide +kernel, rfl, by decide +kernel, by decide +kernel⟩
theorem ok_moved {f : Addr} {fd : FuncData} (F : FnAt K mg "moved" sMoved ["wishes", "houses", "places"] f fd) (T : Cl K mg C) (Cbo : Callee P w K mg base 6 "both_rather" ["wishes", "houses", "places"] (spBoth K C)) (Cnt : Callee P w K mg base 6 "next_taken" ["wishes", "houses", "places", "house"] (spNext K C)) :
    Callee P w K mg base 7 "moved" ["wishes", "houses", "places"] (spMoved K C) := by
  refine F.callee (F.fn.ok (k := 6) scMoved (fun vs H Q E h => ?_) (fun cdv A outer s H vs Q E hr h => ?_))
  · obtain ⟨lw, lh, lp, wss, Rs, ps, rfl, _⟩ := h
    rfl
  · obtain ⟨lw, lh, lp, wss, Rs, ps, rfl, X, ca, q⟩ := h
    refine ⟨_, pss_cons (ps_set (i := 3) scMoved.nd rfl (Or.inl rfl) (pe_callTy call_list_of (by rfl) T.b.list PyProof.Rows.Boot.«list» (pa_cons (pv 2) pa_nil)))
      (pss_cons (ps_set (i := 4) scMoved.nd rfl (Or.inl rfl) (pe_lst pa_nil))
      (pss_cons (ps_set (i := 5) scMoved.nd rfl (Or.inl rfl) (pe_fn Cbo hr (pa_cons (pv 0) (pa_cons (pv 1) (pa_cons (pv 3) pa_nil)))))
      (pss_cons (ps_while PassesOwn.never (pt_cmpR (op_neD hr) (pv 5) (pe_lst pa_nil) (nomark _))
        (pss_cons (ps_set (i := 6) scMoved.nd rfl (Or.inl rfl) (pe_callB (call_minL (by rfl)) (by rfl) T.b.min PyProof.Rows.Boot.«min» (pa_cons (pe_comp (M := ["wishes", "houses", "places", "moving", "steps", "pairs", "house", "comer"]) ⟨by rfl, by rfl, by rfl, by rfl, by rfl, by rfl, by decide +kernel⟩ (by rfl) (pi_list (pv 5)) (fun B => pts_nil) (fun B => pe_ix ix_tup (pv 0) (pe_int) (fun _ _ => rfl))) pa_nil)))
        (pss_cons (ps_set (i := 7) scMoved.nd rfl (Or.inl rfl) (pe_fn Cnt hr (pa_cons (pv 0) (pa_cons (pv 1) (pa_cons (pv 3) (pa_cons (pv 6) pa_nil))))))
        (pss_cons (ps_expr (pe_bm PySem.F.plainAttrs_list PySem.F.slot_list_append PySem.F.type_list_append mt_append (pv 4) (pa_cons (pe_tup (pa_cons (pv 7) (pa_cons (pe_ix ix_list (pv 3) (pv 7) (fun _ _ => rfl)) (pa_cons (pv 6) pa_nil)))) pa_nil)))
        (pss_cons (ps_asg (pv 6) (pg_sub (pv 3) (pv 7) set_list))
        (pss_one (ps_set (i := 5) scMoved.nd rfl (Or.inl rfl) (pe_fn Cbo hr (pa_cons (pv 0) (pa_cons (pv 1) (pa_cons (pv 3) pa_nil)))))))))))
      (pss_one (ps_ret (pe_tup (pa_cons (pv 3) (pa_cons (pv 4) pa_nil)))))))), ?_⟩
    have hn := X.n
    have hn24 := X.n24
    have hh24 := X.h24
    have hg : ∀ R ∈ Rs, Good R wss.length := by rw [X.n]; exact X.g
    have hcl : climb wss ps ≤ 576 := by
      have := climb_le (wss := wss) (ps := ps) (m := 24) fun k => Nat.le_trans (wish_len X.wg k) hh24
      (first | lia | omega)
    refine ⟨_, rfl, lp, _, rfl, .inl X.p, fun lm nlm => ?_⟩
    refine ⟨Nat.zero_le _, fun ls nls => ?_⟩
    have nlsH : H ls = none := (Same.new nlm).free nls
    have nms : lm ≠ ls := fun z => by rw [← z, upd_same] at nls; cases nls
    have s2 : Same H (upd (upd H lm (.lst (ps.map encO))) ls (.lst [])) := (Same.new nlm).up nls
    have elm2 : upd (upd H lm (.lst (ps.map encO))) ls (.lst []) lm = some (.lst (ps.map encO)) := by rw [upd_ne nms, upd_same]
    have els2 : upd (upd H lm (.lst (ps.map encO))) ls (.lst []) ls = some (.lst []) := upd_same
    generalize upd (upd H lm (.lst (ps.map encO))) ls (.lst []) = H2 at s2 elm2 els2 ⊢
    have XH : ∀ {H' : Hp} {qs : List (Option Int)}, Same H H' → H' lm = some (.lst (qs.map encO)) → qs.length = ps.length → Hll K C H' lw lh lm wss Rs qs := fun {H' qs} s e hl => by
      obtain ⟨⟨was, a1, a2⟩, ⟨ras, b1, b2⟩, _⟩ := X.up s
      exact ⟨⟨was, a1, a2⟩, ⟨ras, b1, b2⟩, SqL.of e, by (first | lia | omega), by (first | lia | omega), hh24, by rw [hl]; exact X.g, X.wg⟩
    refine ⟨_, rfl, _, rfl, _, rfl, lw, lh, lm, wss, Rs, ps, rfl, XH s2 elm2 rfl, fun m1 tas H3 s3 nm1 em1 pt => ?_⟩
    refine ⟨MInv lw lh lp lm ls wss Rs ps H,
      ⟨_, [], [], tas, m1, none, none, rfl, s2.trans s3, s3 _ _ elm2, s3 _ _ els2, .nil, em1, Paired.mapP pt fun t p z => ?_, (ne_of_none els2 nm1).symm, going_start ca, rfl⟩, ?_⟩
    · show del H3 ls t = _
      have z : H3 t = _ := z
      rw [del_ne (fun e => by rw [e, s3 _ _ els2] at z; cases z)]
      exact z
    refine fun m σ H6 inv => inv.elim fun S sas tas lq v6 v7 eσ sm elm els pS elq pT nqs G em => ?_
    subst eσ
    subst em
    have hlW := walk_len S ps
    have hsl : sas.length = S.length := Paired.length pS
    have hGl := G.len
    refine ⟨_, rfl, Nat.zero_le _, fun le nle => ?_⟩
    have s7 : Same H6 (upd H6 le (.lst [])) := Same.new nle
    refine ⟨.list ((pairsL wss Rs (walkL S ps)).map pairD), .list [], .list (SqL.of (s7 _ _ elq)) (den_pairs (Paired.mapP pT fun _ _ z => s7 _ _ (del_le _ _ z))), .list (SqL.of upd_same) .nil, ?_, rfl, ?_, _, rfl, ?_⟩
    · show PyData.canLayAll0 _ = true
      exact lay_pairs _
    · have : (PyData.list []).depth ≤ 2 := by decide
      (first | lia | omega)
    rw [eqv_nilP]
    have elm7 := s7 _ _ elm
    have els7 := s7 _ _ els
    have elq7 := s7 _ _ elq
    have sm7 := sm.trans s7
    have pS7 := Paired.mapP pS fun _ _ z => StepAt.up (del_mono s7) z
    have pT7 := Paired.mapP pT fun _ _ z => (del_mono (a := ls) s7) _ _ z
    generalize upd H6 le (.lst []) = H7 at elm7 els7 elq7 sm7 pS7 pT7 ⊢
    refine ite2 (fun hb => ?_) (fun hb => ?_)
    · have hne : pairsL wss Rs (walkL S ps) ≠ [] := fun z => by
        rw [decide_eq_true z] at hb
        cases hb
      have hpl : (pairsL wss Rs (walkL S ps)).length ≤ 576 := by
        have := pairs_len (wss := wss) (Rs := Rs) (ps := walkL S ps) (m := 24) fun k => Nat.le_trans (wish_len X.wg k) hh24
        (first | lia | omega)
      have htl : tas.length = (pairsL wss Rs (walkL S ps)).length := Paired.length pT7
      refine ⟨fun σ' H' => ∃ m', m' < climb wss (walkL S ps) ∧ MInv lw lh lp lm ls wss Rs ps H m' σ' H', fun _ _ z => z, ?_⟩
      refine ⟨_, rfl, lq, rfl, ⟨_, SqL.of elq7⟩, comp_list0 (xs := tas.map V.ref) (fun i ys H8 => H8 = H7 ∧ ys = (((pairsL wss Rs (walkL S ps)).take i).map (·.2)).map V.int) (fits (by rw [List.length_map]; (first | lia | omega))) ⟨rfl, rfl⟩ ?_ ?_ ?_⟩
      · rintro i ys H8 ⟨rfl, rfl⟩
        exact ⟨SqL.of elq7, by rw [List.length_map, List.length_map, List.length_take]; (first | lia | omega)⟩
      · rintro i x ys H8 B N1 hx ⟨rfl, rfl⟩ k1
        refine ex_elim2 (getR hx) fun ta hti exx => ?_
        subst exx
        refine ex_elim2 (Paired.fwd pT7 hti) fun p hpi hp => ?_
        have hp : H8 ta = some (.tup [.int p.1, .int p.2]) := del_le _ _ hp
        refine ⟨_, rfl, ta, _, _, _, rfl, rfl, SqT.of hp, atI_nat (j := 1) rfl, k1 _ _ ⟨rfl, ?_⟩⟩
        rw [List.take_add_one, hpi, List.map_append, List.map_append]
        rfl
      · rintro ys H8 ⟨rfl, rfl⟩ acc hacc
        rw [List.length_map, htl, List.take_length]
        have hne2 : (pairsL wss Rs (walkL S ps)).map (·.2) ≠ [] := fun z => hne (List.map_eq_nil_iff.mp z)
        have s9 : Same H8 (upd H8 acc (.lst (((pairsL wss Rs (walkL S ps)).map (·.2)).map V.int))) := Same.new hacc
        refine ⟨acc, _, rfl, SqL.of upd_same, hne2, fun h hm hmin => ?_⟩
        generalize upd H8 acc (.lst (((pairsL wss Rs (walkL S ps)).map (·.2)).map V.int)) = H9 at s9 ⊢
        have hn1 : wss.length = (walkL S ps).length := by (first | lia | omega)
        obtain ⟨c, hc⟩ := next_some hn1 hg X.wg G.calm hm
        have hst : IsStep wss Rs (walkL S ps) (c, plc (walkL S ps) c, h) := ⟨hm, hmin, hc, rfl⟩
        obtain ⟨G2, hlt, c0, c1⟩ := going_step hn hg X.wg G hst
        have hhr : 0 ≤ h ∧ h < Rs.length := by
          obtain ⟨p, hp, rfl⟩ := List.mem_map.mp hm
          obtain ⟨hcm, hr, _⟩ := (pairs_mem hn1 (c := p.1) (h := p.2)).mp hp
          exact (rng_mem _ _).mp ((hall_ok hg X.wg).whs p.1 p.2 (rather_sub hr))
        have X9 := XH (qs := walkL S ps) (sm7.trans s9) (s9 _ _ elm7) hlW
        refine ⟨_, rfl, _, rfl, _, rfl, _, rfl, lw, lh, lm, wss, Rs, walkL S ps, h, c, rfl, X9, hhr.1, hhr.2, hc, fun H10 s10 => ?_⟩
        have s710 := s9.trans s10
        have els10 := s710 _ _ els7
        have elm10 := s710 _ _ elm7
        have c0' : 0 ≤ c := c0
        have c1' : c < ps.length := c1
        have hatm : atI ((walkL S ps).map encO) c = some (encO (plc (walkL S ps) c)) := at_map (d := none) c0' (by (first | lia | omega))
        refine ⟨_, rfl, .inl ⟨rfl, _, SqL.of els10⟩, _, rfl, _, rfl, _, rfl, lm, _, _, _, rfl, rfl, SqL.of elm10, hatm, _, rfl, fits (Nat.le_of_ble_eq_true rfl), fun tp ntp => ?_⟩
        have s11 : Same H10 (upd H10 tp (.tup [.int c, encO (plc (walkL S ps) c), .int h])) := Same.new ntp
        have etp : upd H10 tp (.tup [.int c, encO (plc (walkL S ps) c), .int h]) tp = some (.tup [.int c, encO (plc (walkL S ps) c), .int h]) := upd_same
        have ntl : tp ≠ ls := (ne_of_none els10 ntp).symm
        have ntm : tp ≠ lm := (ne_of_none elm10 ntp).symm
        refine ⟨ls, _, .ref tp, rfl, rfl, s11 _ _ els10, by rw [List.length_map]; exact Nat.lt_of_lt_of_le (show sas.length < 1000000 by (first | lia | omega)) (fits (Nat.le_refl _)), ?_⟩
        have s711 := s710.trans s11
        have elm11 := s11 _ _ elm10
        generalize upd H10 tp (.tup [.int c, encO (plc (walkL S ps) c), .int h]) = H11 at s711 elm11 etp ⊢
        have elm12 : upd H11 ls (.lst (sas.map V.ref ++ [.ref tp])) lm = some (.lst ((walkL S ps).map encO)) := by rw [upd_ne nms]; exact elm11
        refine ⟨_, rfl, _, rfl, _, rfl, lm, _, _, c.toNat, rfl, rfl, elm12, ix_in c0' (by rw [List.length_map]; (first | lia | omega)), ?_⟩
        have ew : ((walkL S ps).map encO).set c.toNat (.int h) = (walkL (S ++ [(c, plc (walkL S ps) c, h)]) ps).map encO := by rw [walk_snoc, List.map_set]; rfl
        rw [ew]
        have s13 : Same H (upd (upd H11 ls (.lst (sas.map V.ref ++ [.ref tp]))) lm (.lst ((walkL (S ++ [(c, plc (walkL S ps) c, h)]) ps).map encO))) := ((sm7.trans s711).wr nlsH).wr nlm
        have elm13 : upd (upd H11 ls (.lst (sas.map V.ref ++ [.ref tp]))) lm (.lst ((walkL (S ++ [(c, plc (walkL S ps) c, h)]) ps).map encO)) lm = some (.lst ((walkL (S ++ [(c, plc (walkL S ps) c, h)]) ps).map encO)) := upd_same
        have els13 : upd (upd H11 ls (.lst (sas.map V.ref ++ [.ref tp]))) lm (.lst ((walkL (S ++ [(c, plc (walkL S ps) c, h)]) ps).map encO)) ls = some (.lst ((sas ++ [tp]).map V.ref)) := by rw [upd_ne nms.symm, upd_same, List.map_append]; rfl
        have pS13 : Paired (StepAt (del (upd (upd H11 ls (.lst (sas.map V.ref ++ [.ref tp]))) lm (.lst ((walkL (S ++ [(c, plc (walkL S ps) c, h)]) ps).map encO))) ls)) (sas ++ [tp]) (S ++ [(c, plc (walkL S ps) c, h)]) := by
          refine Paired.snoc ?_ (Paired.mapP pS7 fun t u z => ?_)
          · show del _ ls tp = _
            rw [del_ne ntl, upd_ne ntm, upd_ne ntl]
            exact etp
          · have z : del H8 ls t = some (.tup [.int u.1, encO u.2.1, .int u.2.2]) := z
            have nt : t ≠ ls := fun e => by rw [e] at z; unfold del at z; rw [if_pos rfl] at z; cases z
            have z8 : H8 t = some (.tup [.int u.1, encO u.2.1, .int u.2.2]) := del_le _ _ z
            have ntm' : t ≠ lm := fun e => by rw [e, elm7] at z8; cases z8
            show del _ ls t = _
            rw [del_ne nt, upd_ne ntm', upd_ne nt]
            exact s711 _ _ z8
        generalize upd (upd H11 ls (.lst (sas.map V.ref ++ [.ref tp]))) lm (.lst ((walkL (S ++ [(c, plc (walkL S ps) c, h)]) ps).map encO)) = H13 at s13 elm13 els13 pS13 ⊢
        have hlW2 := walk_len (S ++ [(c, plc (walkL S ps) c, h)]) ps
        refine ⟨_, rfl, _, rfl, _, rfl, lw, lh, lm, wss, Rs, _, rfl, XH s13 elm13 hlW2, fun m2 tas2 H14 s14 nm2 em2 pt2 => ?_⟩
        refine ⟨_, hlt, S ++ [(c, plc (walkL S ps) c, h)], sas ++ [tp], tas2, m2, _, _, rfl, s13.trans s14, s14 _ _ elm13, s14 _ _ els13, Paired.mapP pS13 fun _ _ z => StepAt.up (del_mono s14) z, em2, Paired.mapP pt2 fun t p z => ?_, (ne_of_none els13 nm2).symm, G2, rfl⟩
        show del H14 ls t = _
        have z : H14 t = some (.tup [.int p.1, .int p.2]) := z
        rw [del_ne (fun e => by rw [e, s14 _ _ els13] at z; cases z)]
        exact z
    · have hz : pairsL wss Rs (walkL S ps) = [] := by
        refine Classical.byContradiction fun z => hb ?_
        rw [decide_eq_false z]
        rfl
      refine ⟨_, rfl, _, rfl, fits (Nat.le_of_ble_eq_true rfl), fun mm nmm => ?_⟩
      have s8 : Same H7 (upd H7 mm (.tup [.ref lm, .ref ls])) := Same.new nmm
      exact q mm _ (sm7.trans s8) ⟨lm, ls, sas, S, upd_same, s8 _ _ elm7, s8 _ _ els7, Paired.mapP pS7 fun _ _ z => s8 _ _ (del_le _ _ z), sm7.free nmm, nlm, nlsH, ⟨G.ok, going_end hn G hz, G.up, by (first | lia | omega), hz⟩⟩
end
end K13

set_option Elab.async false
set_option linter.all false
set_option maxRecDepth 100000
set_option maxHeartbeats 4000000
namespace K13
open PySem L2 Hse
def spWithE (K : PySem.W.Frag) : Sp := fun vs H Q _ => ∃ (l : Addr) (xs : List V) (k : Nat) (v : V), vs = [.ref l, .int k, v] ∧ SqL K H l xs ∧ k < xs.length ∧ ∀ m H', Same H H' → H m = none → H' m = some (.lst (xs.set k v)) → Q (.ref m) H'
section
variable {P : Program} {w : World} {K : PySem.W.Frag} {mg : Str → Option Value} {base : Heap} {C : Addr}
theorem scWithE : FnScope ["entries", "number", "entry", "changed"] ["entries", "number", "entry"] (defScope sWithE) := ⟨rfl, rfl, rfl, by decide +kernel, rfl, by decide +kernel, by decide +kernel⟩
theorem ok_withe {f : Addr} {fd : FuncData} (F : FnAt K mg "with_entry" sWithE ["entries", "number", "entry"] f fd) (T : Cl K mg C) : Callee P w K mg base 1 "with_entry" ["entries", "number", "entry"] (spWithE K) := by
  refine F.callee (F.fn.ok scWithE (fun vs H Q E h => ?_) (fun cdv A outer s H vs Q E hr h => ?_))
  · obtain ⟨l, xs, k, v, rfl, _⟩ := h
    rfl
  · obtain ⟨l, xs, k, v, rfl, hS, hk, q⟩ := h
    refine ⟨_, pss_cons (ps_set (i := 3) scWithE.nd rfl (Or.inl rfl) (pe_callTy call_list_of (by rfl) T.b.list PyProof.Rows.Boot.«list» (pa_cons (pv 0) pa_nil)))
      (pss_cons (ps_asg (pv 2) (pg_sub (pv 3) (pv 1) set_list))
      (pss_one (ps_ret (pv 3)))), ?_⟩
    refine ⟨_, rfl, l, _, rfl, .inl hS, fun m nm => ?_⟩
    refine ⟨_, rfl, _, rfl, _, rfl, m, _, _, k, rfl, rfl, upd_same, ?_, ?_⟩
    · have := ix_in (n := xs.length) (c := (k : Int)) (by (first | lia | omega)) (by (first | lia | omega))
      rwa [Int.toNat_natCast] at this
    rw [upd_upd]
    exact ⟨_, rfl, q m _ (Same.new nm) nm upd_same⟩
end
def spGone (K : PySem.W.Frag) (C : Addr) : Sp := fun vs H Q _ => ∃ (lw lh lp : Addr) (wss : List (List Int)) (Rs : List RowD) (ps : List (Option Int)) (k : Nat), vs = [.ref lw, .ref lh, .ref lp, .int k] ∧ Hll K C H lw lh lp wss Rs ps ∧ k < ps.length ∧ (hallOf wss Rs).Fair (plc ps) ∧
  ∀ (m : Addr) (H' : Hp), Same H H' → GoneAt H H' m (wss.set k []) Rs (ps.set k none) → Q (.ref m) H'
theorem Paired.set {α β : Type} {F : α → β → Prop} {a : α} {b : β} (z : F a b) : ∀ {l : List α} {m : List β} (i : Nat), Paired F l m → Paired F (l.set i a) (m.set i b)
  | [], [], _, _ => .nil
  | _ :: _, _ :: _, 0, .cons _ r => .cons z r
  | _ :: _, _ :: _, i + 1, .cons r1 r => .cons r1 (Paired.set z i r)
theorem wish_set {wss : List (List Int)} {l : List Int} {k : Nat} (hk : k < wss.length) {d : Int} (hd : 0 ≤ d) : wishOf (wss.set k l) d = if d = (k : Int) then l else wishOf wss d := by
  unfold wishOf
  rw [List.getD_eq_getElem?_getD, List.getElem?_set]
  by_cases e : d = (k : Int)
  · rw [if_pos e, e, Int.toNat_natCast, if_pos rfl, if_pos hk]; rfl
  · rw [if_neg e, if_neg (by (first | lia | omega)), ← List.getD_eq_getElem?_getD]
theorem good_nil (h : Nat) : WGood h [] := ⟨List.nodup_nil, fun _ z => nomatch z⟩
theorem good_set {wss : List (List Int)} {k h : Nat} (wg : ∀ ws ∈ wss, WGood h ws) : ∀ ws ∈ wss.set k [], WGood h ws := fun ws hws => by
  rcases List.mem_or_eq_of_mem_set hws with z | z
  · exact wg ws z
  · rw [z]; exact good_nil h
theorem gone_calm {wss : List (List Int)} {Rs : List RowD} {ps : List (Option Int)} {k : Nat} (hn : wss.length = ps.length) (hk : k < ps.length) (g : ∀ R ∈ Rs, Good R wss.length) (wg : ∀ ws ∈ wss, WGood Rs.length ws) (f : (hallOf wss Rs).Fair (plc ps)) : (hallOf (wss.set k []) Rs).Calm (plc (ps.set k none)) := by
  have ok := hall_ok g wg
  refine calm_congr (W := (hallOf wss Rs).told (k : Int) []) (μ := move (plc ps) (k : Int) none) ?_ rfl (fun _ _ => rfl) (fun c hc => ?_) (fun c hc => ?_) (calm_gone ok (fair_calm ok f) (k : Int))
  · show wss.length = (wss.set k []).length
    rw [List.length_set]
  · show (if c = (k : Int) then [] else wishOf wss c) = wishOf (wss.set k []) c
    rw [wish_set (by (first | lia | omega)) hc.1]
  · unfold move
    rw [plc_set hk hc.1]
section
variable {P : Program} {w : World} {K : PySem.W.Frag} {mg : Str → Option Value} {base : Heap} {C : Addr}
theorem scGone : FnScope ["wishes", "houses", "places", "comer"] ["wishes", "houses", "places", "comer"] (defScope sGone) := ⟨rfl, rfl, rfl, by decide +kernel, rfl, by decide +kernel, by decide +kernel⟩
theorem ok_gone {f : Addr} {fd : FuncData} (F : FnAt K mg "gone" sGone ["wishes", "houses", "places", "comer"] f fd) (T : Cl K mg C) (Cmv : Callee P w K mg base 7 "moved" ["wishes", "houses", "places"] (spMoved K C)) (Cwe : Callee P w K mg base 1 "with_entry" ["entries", "number", "entry"] (spWithE K)) : Callee P w K mg base 8 "gone" ["wishes", "houses", "places", "comer"] (spGone K C) := by
  refine F.callee (F.fn.ok (k := 7) scGone (fun vs H Q E h => ?_) (fun cdv A outer s H vs Q E hr h => ?_))
  · obtain ⟨lw, lh, lp, wss, Rs, ps, k, rfl, _⟩ := h
    rfl
  · obtain ⟨lw, lh, lp, wss, Rs, ps, k, rfl, X, hk, fr, q⟩ := h
    have hr1 : Room 1 _ := hr.mono (by decide)
    refine ⟨_, pss_one (ps_ret (pe_fn Cmv hr (pa_cons (pe_fn Cwe hr1 (pa_cons (pv 0) (pa_cons (pv 3) (pa_cons (pe_lst pa_nil) pa_nil)))) (pa_cons (pv 1) (pa_cons (pe_fn Cwe hr1 (pa_cons (pv 2) (pa_cons (pv 3) (pa_cons (pe_non) pa_nil)))) pa_nil))))), ?_⟩
    have hn := X.n
    have hn24 := X.n24
    refine ex_elim2 (X.w) fun was hW pw => ?_
    refine ex_elim2 (X.r) fun has hH ph => ?_
    have hwl : was.length = wss.length := Paired.length pw
    have hg : ∀ R ∈ Rs, Good R wss.length := by rw [X.n]; exact X.g
    refine ⟨_, rfl, _, rfl, Nat.zero_le _, fun le nle => ?_⟩
    have s1 : Same H (upd H le (.lst [])) := Same.new nle
    refine ⟨lw, was.map V.ref, k, .ref le, rfl, s1.seq hW, by rw [List.length_map]; (first | lia | omega), fun m1 H2 s2 nm1 em1 => ?_⟩
    have s12 := s1.trans s2
    have em1' : H2 m1 = some (.lst ((was.set k le).map V.ref)) := by rw [em1, List.map_set]
    refine ⟨_, rfl, _, rfl, _, rfl, lp, ps.map encO, k, .non, rfl, s12.seq X.p, by rw [List.length_map]; (first | lia | omega), fun m2 H3 s3 nm2 em2 => ?_⟩
    have em2' : H3 m2 = some (.lst ((ps.set k none).map encO)) := by rw [em2, List.map_set]; rfl
    have s13 := s12.trans s3
    have le3 : WishAt H3 le [] := s3 _ _ (s2 _ _ upd_same)
    have XH : Hll K C H3 m1 lh m2 (wss.set k []) Rs (ps.set k none) := ⟨⟨was.set k le, SqL.of (s3 _ _ em1'), Paired.set le3 k (Paired.mapP pw fun _ _ z => WishAt.up s13 z)⟩, ⟨has, s13.seq hH, Paired.mapP ph fun _ _ z => HouseAt.up s13 z⟩, SqL.of em2', by rw [List.length_set, List.length_set]; exact hn, by rw [List.length_set]; exact hn24, X.h24, by rw [List.length_set]; exact X.g, good_set X.wg⟩
    refine ⟨m1, lh, m2, _, Rs, _, rfl, XH, gone_calm hn hk hg X.wg fr, fun m H4 s4 hG => ?_⟩
    refine q m H4 (s13.trans s4) ?_
    obtain ⟨lm, ls, sas, S, g1, g2, g3, g4, g5, g6, g7, g8⟩ := hG
    exact ⟨lm, ls, sas, S, g1, g2, g3, g4, s13.free g5, s13.free g6, s13.free g7, g8⟩
end
end K13

set_option Elab.async false
set_option linter.all false
set_option maxRecDepth 100000
set_option maxHeartbeats 4000000
namespace K13
open PySem L2 Hse
/-! ### more seats -/
abbrev sHMore : Stmt := inClass cHouse 5
def spHMore (C : Addr) : Sp := fun vs H Q _ => ∃ (a : Addr) (m : Int) (R : RowD), vs = [.ref a, .int m] ∧ HouseAt C H a R ∧ R.kept ≤ R.seats ∧ 0 ≤ m ∧ ∀ b H', Same H H' → HouseAt C H' b (R.plusSeats m) → Q (.ref b) H'
section
variable {P : Program} {w : World} {K : PySem.W.Frag} {mg : Str → Option Value} {base : Heap} {C : Addr}
theorem scHMore : FnScope ["self", "many"] ["self", "many"] (defScope sHMore) := ⟨rfl, rfl, rfl, by decide +kernel, rfl, by decide +kernel, by decide +kernel⟩
theorem ok_hmore {f fI : Addr} {fd : FuncData} (F : MAt K "with_more" "House.with_more" sHMore ["self", "many"] f fd) (T : Cl K mg C) (M : Mk K C fI) (CI : MCal P w K mg base 1 fI ["self", "seats", "kept", "kind", "opened", "points", "kinds", "row"] (spInit K C)) :
    MCal P w K mg base 3 f ["self", "many"] (spHMore C) := by
  refine F.cal (F.fn.ok (k := 2) scHMore (fun vs H Q E h => ?_) (fun cdv A outer s H vs Q E hr h => ?_))
  · obtain ⟨a, m, R, rfl, _⟩ := h
    rfl
  · obtain ⟨a, m, R, rfl, ⟨dx0, lp, lk, lr, e1, e2, e3, e4⟩, hks, hm, q⟩ := h
    obtain ⟨fdi, bdi, FI⟩ := CI
    refine ⟨_, pss_one (ps_ret (pe_make M FI hr rfl T.at_ bdi .nil pass0 (pa_cons (pe_op op_add (pe_fld (pv 0) rfl) (pv 1)) (pa_cons (pe_fld (pv 0) rfl) (pa_cons (pe_fld (pv 0) rfl) (pa_cons (pe_fld (pv 0) rfl) (pa_cons (pe_fld (pv 0) rfl) (pa_cons (pe_fld (pv 0) rfl) (pa_cons (pe_fld (pv 0) rfl) pa_nil))))))))), ?_⟩
    refine ⟨_, rfl, a, C, dx0, _, _, rfl, e1, T.cls, T.n1, rfl, _, rfl, _, _, rfl, rfl, _, rfl, a, C, dx0, _, _, rfl, e1, T.cls, T.n2, rfl, _, rfl, a, C, dx0, _, _, rfl, e1, T.cls, T.n3, rfl, _, rfl, a, C, dx0, _, _, rfl, e1, T.cls, T.n4, rfl,
      _, rfl, a, C, dx0, _, _, rfl, e1, T.cls, T.n5, rfl, _, rfl, a, C, dx0, _, _, rfl, e1, T.cls, T.n6, rfl, _, rfl, a, C, dx0, _, _, rfl, e1, T.cls, T.n7, rfl, ?_⟩
    intro x dx hx hdx hne
    have g4 : ∀ {l : Addr} {o : HO}, H l = some o → upd (upd H dx (.own x)) x (.ins C dx []) l = some o := fun z => by rw [upd_ne (ne_of_none z hx), upd_ne (ne_of_none z hdx)]; exact z
    exact ⟨x, dx, lp, lk, lr, R.plusSeats m, rfl, upd_same, SqL.of (g4 e2), SqL.of (g4 e3), SqL.of (g4 e4), (by show R.kept ≤ R.seats + m; (first | lia | omega)), fun H3 sx hN => ⟨rfl, q x H3 (sx.same hx hdx) hN.at_⟩⟩
end
end K13

set_option Elab.async false
set_option linter.all false
set_option maxRecDepth 100000
set_option maxHeartbeats 4000000
namespace K13
open PySem L2 Hse
def spMoreP (K : PySem.W.Frag) (C : Addr) : Sp := fun vs H Q _ => ∃ (lw lh lp : Addr) (wss : List (List Int)) (Rs : List RowD) (ps : List (Option Int)) (h : Nat) (many : Int), vs = [.ref lw, .ref lh, .ref lp, .int h, .int many] ∧ Hll K C H lw lh lp wss Rs ps ∧ h < Rs.length ∧ 0 ≤ many ∧ (hallOf wss Rs).Fair (plc ps) ∧
  ∀ (m : Addr) (H' : Hp), Same H H' → GoneAt H H' m wss (Rs.set h ((rowOf Rs h).plusSeats many)) ps → Q (.ref m) H'
theorem row_set {Rs : List RowD} {R : RowD} {k : Nat} (hk : k < Rs.length) {d : Int} (hd : 0 ≤ d) : rowOf (Rs.set k R) d = if d = (k : Int) then R else rowOf Rs d := by
  unfold rowOf
  rw [List.getD_eq_getElem?_getD, List.getElem?_set]
  by_cases e : d = (k : Int)
  · rw [if_pos e, e, Int.toNat_natCast, if_pos rfl, if_pos hk]; rfl
  · rw [if_neg e, if_neg (by (first | lia | omega)), ← List.getD_eq_getElem?_getD]
theorem good_more {Rs : List RowD} {n k : Nat} {many : Int} (hm : 0 ≤ many) (hk : k < Rs.length) (g : ∀ R ∈ Rs, Good R n) : ∀ R ∈ Rs.set k ((rowOf Rs k).plusSeats many), Good R n := fun R hR => by
  rcases List.mem_or_eq_of_mem_set hR with z | z
  · exact g R z
  · rw [z, row_at hk]
    exact more_good (g _ (List.getElem_mem hk)) hm
theorem more_calm {wss : List (List Int)} {Rs : List RowD} {ps : List (Option Int)} {k : Nat} {many : Int} (hk : k < Rs.length) (hm : 0 ≤ many) (g : ∀ R ∈ Rs, Good R wss.length) (wg : ∀ ws ∈ wss, WGood Rs.length ws) (f : (hallOf wss Rs).Fair (plc ps)) : (hallOf wss (Rs.set k ((rowOf Rs k).plusSeats many))).Calm (plc ps) := by
  have ok := hall_ok g wg
  refine calm_congr (W := (hallOf wss Rs).grown (k : Int) many) (μ := plc ps) rfl ?_ (fun h hh => ?_) (fun _ _ => rfl) (fun _ _ => rfl) (calm_grown (fair_calm ok f) hm)
  · show rng Rs.length = rng (Rs.set k _).length
    rw [List.length_set]
  · have hh' : 0 ≤ h ∧ h < Rs.length := (rng_mem _ _).mp hh
    show (if h = (k : Int) then (rowOf Rs h).plusSeats many else rowOf Rs h) = rowOf (Rs.set k _) h
    rw [row_set hk hh'.1]
    by_cases e : h = (k : Int)
    · rw [if_pos e, if_pos e, e]
    · rw [if_neg e, if_neg e]
section
variable {P : Program} {w : World} {K : PySem.W.Frag} {mg : Str → Option Value} {base : Heap} {C : Addr}
theorem scMore : FnScope ["wishes", "houses", "places", "house", "many", "larger"] ["wishes", "houses", "places", "house", "many"] (defScope sMore) := ⟨rfl, rfl, rfl, by decide +kernel, rfl, by decide +kernel, by decide +kernel⟩
theorem ok_more {f fm : Addr} {fd : FuncData} (F : FnAt K mg "more" sMore ["wishes", "houses", "places", "house", "many"] f fd) (T : Cl K mg C) (Cmv : Callee P w K mg base 7 "moved" ["wishes", "houses", "places"] (spMoved K C)) (Cwe : Callee P w K mg base 1 "with_entry" ["entries", "number", "entry"] (spWithE K)) (mM : Meth K C "with_more" fm) (CM : MCal P w K mg base 3 fm ["self", "many"] (spHMore C)) : Callee P w K mg base 8 "more" ["wishes", "houses", "places", "house", "many"] (spMoreP K C) := by
  refine F.callee (F.fn.ok (k := 7) scMore (fun vs H Q E h => ?_) (fun cdv A outer s H vs Q E hr h => ?_))
  · obtain ⟨lw, lh, lp, wss, Rs, ps, h, many, rfl, _⟩ := h
    rfl
  · obtain ⟨lw, lh, lp, wss, Rs, ps, h, many, rfl, X, hh, hm, fr, q⟩ := h
    obtain ⟨fdm, bdm, FM⟩ := CM
    have hr1 : Room 1 _ := hr.mono (by decide)
    have hr3 : Room 3 _ := hr.mono (by decide)
    refine ⟨_, pss_cons (ps_set (i := 5) scMore.nd rfl (Or.inl rfl) (pe_meth (pe_ix ix_list (pv 1) (pv 3) (fun _ _ => rfl)) T.cls mM FM hr3 bdm .nil pass0 (pa_cons (pv 4) pa_nil)))
      (pss_one (ps_ret (pe_fn Cmv hr (pa_cons (pv 0) (pa_cons (pe_fn Cwe hr1 (pa_cons (pv 1) (pa_cons (pv 3) (pa_cons (pv 5) pa_nil)))) (pa_cons (pv 2) pa_nil)))))), ?_⟩
    have hn := X.n
    have hg : ∀ R ∈ Rs, Good R wss.length := by rw [X.n]; exact X.g
    refine ex_elim2 (X.w) fun was hW pw => ?_
    refine ex_elim2 (X.r) fun has hH ph => ?_
    have hhl : has.length = Rs.length := Paired.length ph
    refine ex_elim2 (Paired.at_ ph (List.getElem?_eq_getElem hh)) fun ha eha hha => ?_
    refine house_elim (id hha) fun dx q1 q2 q3 ehx => ?_
    refine ⟨_, rfl, _, rfl, lh, _, _, _, rfl, rfl, hH, at_ref eha, ha, dx, _, rfl, ehx, rfl, _, rfl, ha, many, Rs[h], rfl, hha, (X.g _ (List.getElem_mem hh)).ks, hm, fun b H1 s1 hb => ?_⟩
    refine ⟨_, rfl, _, rfl, _, rfl, _, rfl, lh, has.map V.ref, h, .ref b, rfl, s1.seq hH, by rw [List.length_map]; (first | lia | omega), fun m1 H2 s2 nm1 em1 => ?_⟩
    have em1' : H2 m1 = some (.lst ((has.set h b).map V.ref)) := by rw [em1, List.map_set]
    have s12 := s1.trans s2
    have eRh := row_at hh
    have hb' : HouseAt C H2 b ((rowOf Rs h).plusSeats many) := by rw [eRh]; exact hb.up s2
    have XH : Hll K C H2 lw m1 lp wss (Rs.set h ((rowOf Rs h).plusSeats many)) ps := ⟨⟨was, s12.seq hW, Paired.mapP pw fun _ _ z => WishAt.up s12 z⟩, ⟨has.set h b, SqL.of em1', Paired.set hb' h (Paired.mapP ph fun _ _ z => HouseAt.up s12 z)⟩, s12.seq X.p, hn, X.n24, by rw [List.length_set]; exact X.h24, good_more hm hh X.g, by rw [List.length_set]; exact X.wg⟩
    refine ⟨_, rfl, lw, m1, lp, wss, _, ps, rfl, XH, more_calm hh hm hg X.wg fr, fun m H3 s3 hG => ?_⟩
    refine q m H3 (s12.trans s3) ?_
    obtain ⟨lm, ls, sas, S, g1, g2, g3, g4, g5, g6, g7, g8⟩ := hG
    exact ⟨lm, ls, sas, S, g1, g2, g3, g4, s12.free g5, s12.free g6, s12.free g7, g8⟩
end
end K13

set_option Elab.async false
set_option linter.all false
set_option maxRecDepth 100000
set_option maxHeartbeats 4000000
namespace K13
open PySem L2 Hse
/-- two lists of the same places -/
def spAlike (K : PySem.W.Frag) : Sp := fun vs H Q _ => ∃ (a b : Addr) (ps : List (Option Int)), vs = [.ref a, .ref b] ∧ H a = some (.lst (ps.map encO)) ∧ SqL K H b (ps.map encO) ∧ ps.length ≤ 24 ∧ Q (.bl true) H
section
variable {P : Program} {w : World} {K : PySem.W.Frag} {mg : Str → Option Value} {base : Heap} {C : Addr}
theorem scAlike : FnScope ["found", "due", "k"] ["found", "due"] (defScope sAlike) := ⟨rfl, rfl, rfl, by decide +kernel, rfl, by decide +kernel, by decide +kernel⟩
theorem ok_alike {f : Addr} {fd : FuncData} (F : FnAt K mg "_law_places_alike" sAlike ["found", "due"] f fd) (T : Cl K mg C) (Ch : Callee P w K mg base 1 "_law_whole" ["found"] spWhole) : Callee P w K mg base 2 "_law_places_alike" ["found", "due"] (spAlike K) := by
  refine F.callee (F.fn.ok (k := 1) scAlike (fun vs H Q E h => ?_) (fun cdv A outer s H vs Q E hr h => ?_))
  · obtain ⟨a, b, ps, rfl, _⟩ := h
    rfl
  · obtain ⟨a, b, ps, rfl, ha, hb, hl, q⟩ := h
    refine ⟨_, pss_cons (ps_if (pw_or (pt_not (pt_val (pe_isi T.b (pv 0) T.b.list PyProof.Rows.Boot.«list»))) (pw_or1 (pt_cmpR op_ne (pe_len T.b call_len_seq (pv 0)) (pe_len T.b call_len_seq (pv 1)) (nomark _)))).pt pss_never pss_nil)
      (pss_cons (ps_for PassesOwn.never rfl (pi_range1 rfl T.b.range (pa_cons (pe_len T.b call_len_seq (pv 1)) pa_nil)) (pg_name (i := 2) scAlike.nd rfl (Or.inl rfl))
        (pss_cons (ps_if (pw_and (pt_cmpR op_notN (pe_ix ix_list (pv 0) (pv 2) (fun _ _ => rfl)) pe_non (nomark _)) (pw_and1 (pt_not (pt_val (pe_fn Ch hr (pa_cons (pe_ix ix_list (pv 0) (pv 2) (fun _ _ => rfl)) pa_nil)))))).pt pss_never pss_nil)
        (pss_one (ps_if (pt_cmpR op_ne (pe_ix ix_list (pv 0) (pv 2) (fun _ _ => rfl)) (pe_ix ix_list (pv 1) (pv 2) (fun _ _ => rfl)) (nomark _)) pss_never pss_nil))))
      (pss_one (ps_ret pe_bl))), ?_⟩
    refine ⟨_, rfl, _, _, _, _, rfl, .lst ha, (by rfl : PySem.W.kitOne _ _ _ = some true), true, rfl, ?_⟩
    refine iteF ?_
    refine ⟨_, rfl, a, _, rfl, .inl (SqL.of ha), _, rfl, b, _, rfl, .inl hb, rfl, _, rfl, ?_⟩
    refine iteNS rfl ?_
    refine ⟨_, rfl, b, _, rfl, .inl hb, ?_⟩
    rw [List.length_map]
    refine ⟨(ps.length : Nat), rfl, by (first | lia | omega), by (first | lia | omega), for_range (n := ps.length) (fun i σ H2 => H2 = H ∧ ∃ v, σ = [some (.ref a), some (.ref b), v]) ⟨rfl, none, rfl⟩ ?_ ?_⟩
    · rintro i σ H2 hi ⟨rfl, v, rfl⟩
      have hat : atI (ps.map encO) (0 + (i : Int)) = some (encO (ps.getD (0 + (i : Int)).toNat none)) := at_map (by (first | lia | omega)) (by (first | lia | omega))
      have nx : ∀ {B : Prop}, B → if (!decide (encO (ps.getD (0 + (i : Int)).toNat none) = encO (ps.getD (0 + (i : Int)).toNat none))) = true then False else B := fun hB => iteNS rfl hB
      refine ⟨_, rfl, _, rfl, a, _, _, _, rfl, rfl, SqL.of ha, hat, rfl, _, rfl, ?_⟩
      rw [encO_some]
      refine ite2 (fun hc => ?_) (fun hc => ?_)
      · obtain ⟨h, eh⟩ := Option.isSome_iff_exists.mp hc
        have hat2 := hat
        rw [eh] at hat2
        refine ⟨_, rfl, _, rfl, a, _, _, _, rfl, rfl, SqL.of ha, hat2, h, rfl, true, rfl, ?_⟩
        refine iteF ?_
        refine ⟨_, rfl, _, rfl, a, _, _, _, rfl, rfl, SqL.of ha, hat, _, rfl, _, rfl, b, _, _, _, rfl, rfl, hb, hat, enc_scal, _, rfl, ?_⟩
        exact iteNS rfl ⟨rfl, _, rfl⟩
      · refine iteF ?_
        refine ⟨_, rfl, _, rfl, a, _, _, _, rfl, rfl, SqL.of ha, hat, _, rfl, _, rfl, b, _, _, _, rfl, rfl, hb, hat, enc_scal, _, rfl, ?_⟩
        exact iteNS rfl ⟨rfl, _, rfl⟩
    · rintro σ H2 ⟨rfl, v, rfl⟩
      exact q
end
end K13

set_option Elab.async false
set_option linter.all false
set_option maxRecDepth 100000
set_option maxHeartbeats 4000000
namespace K13
open PySem L2 Hse
def spWalked (K : PySem.W.Frag) : Sp := fun vs H Q _ => ∃ (lw lr lp ls : Addr) (wss : List (List Int)) (Rs : List RowD) (ps : List (Option Int)) (sas : List Addr) (S : List Stp), vs = [.ref lw, .ref lr, .ref lp, .ref ls] ∧ Wld K H lw lr lp wss Rs ps ∧ H ls = some (.lst (sas.map V.ref)) ∧ Paired (StepAt H) sas S ∧ (∀ i s, S[i]? = some s → IsStep wss Rs (walkL (S.take i) ps) s) ∧ S.length ≤ 576 ∧
  ∀ m H', Same H H' → H m = none → H' m = some (.lst ((walkL S ps).map encO)) → Q (.ref m) H'
theorem walk_take {S : List Stp} {i : Nat} {s : Stp} (h : S[i]? = some s) (ps : List (Option Int)) : walkL (S.take (i + 1)) ps = (walkL (S.take i) ps).set s.1.toNat (some s.2.2) := by
  rw [List.take_add_one, h]
  exact walk_snoc _ _ _
def WInv (lw lr lp ls ln : Addr) (S : List Stp) (ps : List (Option Int)) (H : Hp) (i : Nat) (σ : St) (H2 : Hp) : Prop := ∃ v5 v6 v7 v8 v9 v10 : Option V, σ = [some (.ref lw), some (.ref lr), some (.ref lp), some (.ref ls), some (.ref ln), v5, v6, v7, v8, v9, v10] ∧ Same H H2 ∧ H2 ln = some (.lst ((walkL (S.take i) ps).map encO))
theorem WInv.elim {Q : Prop} {lw lr lp ls ln : Addr} {S : List Stp} {ps : List (Option Int)} {H : Hp} {i : Nat} {σ : St} {H2 : Hp} (x : WInv lw lr lp ls ln S ps H i σ H2) (k : ∀ v5 v6 v7 v8 v9 v10 : Option V, σ = [some (.ref lw), some (.ref lr), some (.ref lp), some (.ref ls), some (.ref ln), v5, v6, v7, v8, v9, v10] → Same H H2 → H2 ln = some (.lst ((walkL (S.take i) ps).map encO)) → Q) : Q := by
  obtain ⟨v5, v6, v7, v8, v9, v10, e, sm, eln⟩ := x
  exact k v5 v6 v7 v8 v9 v10 e sm eln
theorem getR_elim {Q : Prop} {ns : List Addr} {i : Nat} {x : V} (h : (ns.map V.ref)[i]? = some x) (k : ∀ n, ns[i]? = some n → x = .ref n → Q) : Q := by
  refine ex_elim2 (getR h) fun n e1 e2 => ?_
  exact k n e1 e2
theorem fwd_elim {Q : Prop} {β : Type} {F : Addr → β → Prop} {l : List Addr} {m : List β} {i : Nat} {a : Addr} (p : Paired F l m) (h : l[i]? = some a) (k : ∀ b, m[i]? = some b → F a b → Q) : Q := by
  refine ex_elim2 (Paired.fwd p h) fun b e1 e2 => ?_
  exact k b e1 e2
section
variable {P : Program} {w : World} {K : PySem.W.Frag} {mg : Str → Option Value} {base : Heap} {C : Addr}
theorem scWalked : FnScope ["wishes", "rows", "places", "steps", "now", "step", "pairs", "here", "want", "taken", "first"] ["wishes", "rows", "places", "steps"] (defScope sWalked) := ⟨rfl, rfl, rfl, by decide +kernel, rfl, by decide +kernel, by decide +kernel⟩
theorem ok_walked {f : Addr} {fd : FuncData} (F : FnAt K mg "_law_walked" sWalked ["wishes", "rows", "places", "steps"] f fd) (T : Cl K mg C) (Clp : Callee P w K mg base 3 "_law_pairs" ["wishes", "rows", "places"] (spLPairs K)) (Clh : Callee P w K mg base 1 "_law_held" ["places", "house"] (spLHeld K)) (Clr : Callee P w K mg base 1 "_law_rather" ["wishes", "places", "k"] (spLRather K))
    (Clc : Callee P w K mg base 2 "_law_chosen" ["row", "comers"] (spLChosen K)) (Clk : Callee P w K mg base 1 "_law_ranked" ["row", "comers"] (spLRank K)) : Callee P w K mg base 4 "_law_walked" ["wishes", "rows", "places", "steps"] (spWalked K) := by
  refine F.callee (F.fn.ok (k := 3) scWalked (fun vs H Q E h => ?_) (fun cdv A outer s H vs Q E hr h => ?_))
  · obtain ⟨lw, lr, lp, ls, wss, Rs, ps, sas, S, rfl, _⟩ := h
    rfl
  · obtain ⟨lw, lr, lp, ls, wss, Rs, ps, sas, S, rfl, X, els, pS, hst, hSl, q⟩ := h
    have hr1 : Room 1 _ := hr.mono (by decide)
    have hr2 : Room 2 _ := hr.mono (by decide)
    refine ⟨_, pss_cons (ps_set (i := 4) scWalked.nd rfl (Or.inr rfl) (pe_callTy call_list_of (by rfl) T.b.list PyProof.Rows.Boot.«list» (pa_cons (pv 2) pa_nil)))
      (pss_cons (ps_for PassesOwn.never (by rfl) (pi_list (pv 3)) (pg_name (i := 5) scWalked.nd rfl (Or.inr rfl))
        (pss_cons (ps_if ((pw_or (pt_not (pt_val (pe_isi T.b (pv 5) T.b.tuple PyProof.Rows.Boot.«tuple»))) (pw_or1 (pt_cmpR op_ne (pe_len T.b call_len_seq (pv 5)) (pe_int) (nomark _)))).pt) pss_never pss_nil)
        (pss_cons (ps_set (i := 6) scWalked.nd rfl (Or.inl rfl) (pe_fn Clp hr (pa_cons (pv 0) (pa_cons (pv 1) (pa_cons (pv 4) pa_nil)))))
        (pss_cons (ps_if ((pw_or (pt_cmpR (op_eqD hr) (pv 6) (pe_lst pa_nil) (nomark _)) (pw_or1 (pt_cmpR op_ne (pe_ix ix_tup (pv 5) (pe_int) (fun _ _ => rfl)) (pe_callB (call_minL (by rfl)) (by rfl) T.b.min PyProof.Rows.Boot.«min» (pa_cons (pe_comp (M := ["wishes", "rows", "places", "steps", "now", "step", "pairs", "here", "want", "taken", "first"]) ⟨by rfl, by rfl, by rfl, by rfl, by rfl, by rfl, by decide +kernel⟩ (by rfl) (pi_list (pv 6)) (fun B => pts_nil) (fun B => pe_ix ix_tup (pv 0) (pe_int) (fun _ _ => rfl))) pa_nil)) (nomark _)))).pt) pss_never pss_nil)
        (pss_cons (ps_set (i := 7) scWalked.nd rfl (Or.inl rfl) (pe_fn Clh hr1 (pa_cons (pv 4) (pa_cons (pe_ix ix_tup (pv 5) (pe_int) (fun _ _ => rfl)) pa_nil))))
        (pss_cons (ps_setC (i := 8) (M := ["wishes", "rows", "places", "steps", "now", "step", "pairs", "here", "want", "taken", "first"]) scWalked.nd rfl (Or.inl rfl) ⟨by rfl, by rfl, by rfl, by rfl, by rfl, by rfl, by decide +kernel⟩ (by rfl) (pi_range1 (by rfl) T.b.range (pa_cons (pe_len T.b call_len_seq (pv 4)) pa_nil)) (fun B => pts_one (pt_cmpR op_in_seq (pe_ix ix_tup (pv 6) (pe_int) (fun _ _ => rfl)) (pe_fn Clr hr1 (pa_cons (pv 1) (pa_cons (pv 5) (pa_cons (pv 0) pa_nil)))) (by with_unfolding_all rfl))) (fun B => pv 0))
        (pss_cons (ps_set (i := 9) scWalked.nd rfl (Or.inr rfl) (pe_fn Clc hr2 (pa_cons (pe_ix ix_list (pv 1) (pe_ix ix_tup (pv 5) (pe_int) (fun _ _ => rfl)) (fun _ _ => rfl)) (pa_cons (pe_op op_cat (pv 7) (pv 8)) pa_nil))))
        (pss_cons (ps_setC (i := 10) (M := ["wishes", "rows", "places", "steps", "now", "step", "pairs", "here", "want", "taken", "first"]) scWalked.nd rfl (Or.inl rfl) ⟨by rfl, by rfl, by rfl, by rfl, by rfl, by rfl, by decide +kernel⟩ (by rfl) (pi_list (pe_fn Clk hr1 (pa_cons (pe_ix ix_list (pv 1) (pe_ix ix_tup (pv 5) (pe_int) (fun _ _ => rfl)) (fun _ _ => rfl)) (pa_cons (pv 8) pa_nil)))) (fun B => pts_one (pt_cmpR op_in_seq (pv 0) (pv 10) (by with_unfolding_all rfl))) (fun B => pv 0))
        (pss_cons (ps_if ((pw_or (pt_cmpR (op_eqD hr) (pv 10) (pe_lst pa_nil) (nomark _)) (pw_or (pt_cmpR op_ne (pe_ix ix_tup (pv 5) (pe_int) (fun _ _ => rfl)) (pe_ix ix_list (pv 10) (pe_int) (fun _ _ => rfl)) (nomark _)) (pw_or1 (pt_cmpR op_ne (pe_ix ix_tup (pv 5) (pe_int) (fun _ _ => rfl)) (pe_ix ix_list (pv 4) (pe_ix ix_tup (pv 5) (pe_int) (fun _ _ => rfl)) (fun _ _ => rfl)) (nomark _))))).pt) pss_never pss_nil)
        (pss_one (ps_asg (pe_ix ix_tup (pv 5) (pe_int) (fun _ _ => rfl)) (pg_sub (pv 4) (pe_ix ix_tup (pv 5) (pe_int) (fun _ _ => rfl)) set_list))))))))))))
      (pss_one (ps_ret (pv 4)))), ?_⟩
    have hn := X.n
    have hn24 := X.n24
    have hh24 := X.h24
    have hg : ∀ R ∈ Rs, Good R wss.length := by rw [X.n]; exact X.g
    have hsl : sas.length = S.length := Paired.length pS
    refine ⟨_, rfl, lp, _, rfl, .inl X.p, fun ln nln => ?_⟩
    have s1 : Same H (upd H ln (.lst (ps.map encO))) := Same.new nln
    have eln1 : upd H ln (.lst (ps.map encO)) ln = some (.lst (ps.map encO)) := upd_same
    generalize upd H ln (.lst (ps.map encO)) = H1 at s1 eln1 ⊢
    refine ⟨_, rfl, ls, rfl, ⟨_, SqL.of (s1 _ _ els)⟩, for_list (K := K) (a := ls) (xs := sas.map V.ref) (WInv lw lr lp ls ln S ps H)
      ⟨none, none, none, none, none, none, rfl, s1, eln1⟩ (fun i σ H2 _ inv => inv.elim fun _ _ _ _ _ _ _ e _ => SqL.of (e _ _ els)) ?_ ?_⟩
    · refine fun i x σ H2 hx inv => inv.elim fun v5 v6 v7 v8 v9 v10 eσ sm eln => getR_elim hx fun sa hsi ex => fwd_elim pS hsi fun s hSi hs => ?_
      subst eσ
      subst ex
      have IS := hst i s hSi
      have hs2 : H2 sa = some (.tup [.int s.1, encO s.2.1, .int s.2.2]) := sm _ _ hs
      generalize hqs : walkL (S.take i) ps = qs at IS eln
      have hql : qs.length = ps.length := by rw [← hqs, walk_len]
      have hnq : wss.length = qs.length := by (first | lia | omega)
      have XL : ∀ {H' : Hp}, Same H2 H' → Wld K H' lw lr ln wss Rs qs := fun {H'} s => by
        obtain ⟨⟨was, a1, a2⟩, ⟨ras, b1, b2⟩, _⟩ := X.up (sm.trans s)
        exact ⟨⟨was, a1, a2⟩, ⟨ras, b1, b2⟩, SqL.of (s _ _ eln), hnq, by (first | lia | omega), hh24, by rw [hql]; exact X.g, X.wg⟩
      refine ⟨_, rfl, _, _, _, _, rfl, .tup hs2, (by rfl : PySem.W.kitOne _ _ _ = some true), true, rfl, ?_⟩
      refine iteF ?_
      refine ⟨_, rfl, sa, _, rfl, .inr (SqT.of hs2), rfl, _, rfl, ?_⟩
      refine iteNS rfl ?_
      refine ⟨_, rfl, _, rfl, _, rfl, lw, lr, ln, wss, Rs, qs, rfl, XL (Same.refl _), fun lq tas H3 s3 nlq elq pT => ?_⟩
      have hne : pairsL wss Rs qs ≠ [] := fun z => by
        have := IS.mem
        rw [z] at this
        cases this
      have hpl : (pairsL wss Rs qs).length ≤ 576 := by
        have := pairs_len (wss := wss) (Rs := Rs) (ps := qs) (m := 24) fun k => Nat.le_trans (wish_len X.wg k) hh24
        (first | lia | omega)
      have htl : tas.length = (pairsL wss Rs qs).length := Paired.length pT
      refine ⟨_, rfl, Nat.zero_le _, fun le nle => ?_⟩
      have s4 : Same H3 (upd H3 le (.lst [])) := Same.new nle
      refine ⟨.list ((pairsL wss Rs qs).map pairD), .list [], .list (SqL.of (s4 _ _ elq)) (den_pairs (Paired.mapP pT fun _ _ z => s4 _ _ z)), .list (SqL.of upd_same) .nil, ?_, rfl, ?_, _, rfl, ?_⟩
      · show PyData.canLayAll0 _ = true
        exact lay_pairs _
      · have : (PyData.list []).depth ≤ 2 := by decide
        (first | lia | omega)
      rw [eqv_nilP, decide_eq_false hne]
      refine iteF ?_
      have s24 := s3.trans s4
      have elq4 := s4 _ _ elq
      have pT4 := Paired.mapP pT fun _ _ z => s4 _ _ z
      generalize upd H3 le (.lst []) = H4 at s24 elq4 pT4 ⊢
      refine ⟨_, rfl, sa, _, _, _, rfl, rfl, SqT.of (s24 _ _ hs2), atI_nat (j := 2) rfl, _, rfl, lq, rfl, ⟨_, SqL.of elq4⟩, comp_list0 (xs := tas.map V.ref) (fun i ys H8 => H8 = H4 ∧ ys = (((pairsL wss Rs qs).take i).map (·.2)).map V.int) (fits (by rw [List.length_map]; (first | lia | omega))) ⟨rfl, rfl⟩ ?_ ?_ ?_⟩
      · rintro i ys H8 ⟨rfl, rfl⟩
        exact ⟨SqL.of elq4, by rw [List.length_map, List.length_map, List.length_take]; (first | lia | omega)⟩
      · rintro i x ys H8 B N1 hx ⟨rfl, rfl⟩ k1
        refine ex_elim2 (getR hx) fun ta hti exx => ?_
        subst exx
        refine ex_elim2 (Paired.fwd pT4 hti) fun p hpi hp => ?_
        have hp : H8 ta = some (.tup [.int p.1, .int p.2]) := hp
        refine ⟨_, rfl, ta, _, _, _, rfl, rfl, SqT.of hp, atI_nat (j := 1) rfl, k1 _ _ ⟨rfl, ?_⟩⟩
        rw [List.take_add_one, hpi, List.map_append, List.map_append]
        rfl
      · rintro ys H8 ⟨rfl, rfl⟩ acc hacc
        rw [List.length_map, htl, List.take_length]
        have hne2 : (pairsL wss Rs qs).map (·.2) ≠ [] := fun z => hne (List.map_eq_nil_iff.mp z)
        have s5 := s24.up (o := .lst (((pairsL wss Rs qs).map (·.2)).map V.int)) hacc
        refine ⟨acc, _, rfl, SqL.of upd_same, hne2, fun h hm hmin => ?_⟩
        have eh : s.2.2 = h := Int.le_antisymm (IS.min h hm) (hmin _ IS.mem)
        refine ⟨rfl, _, rfl, ?_⟩
        refine iteNS (by rw [eh]) ?_
        generalize upd H8 acc (.lst (((pairsL wss Rs qs).map (·.2)).map V.int)) = H5 at s5 ⊢
        have ok := hall_ok hg X.wg
        have hhr : 0 ≤ s.2.2 ∧ s.2.2 < Rs.length := by
          obtain ⟨p, hp, e⟩ := List.mem_map.mp IS.mem
          obtain ⟨_, hr, _⟩ := (pairs_mem hnq (c := p.1) (h := p.2)).mp hp
          rw [← e]
          exact (rng_mem _ _).mp (ok.whs p.1 p.2 (rather_sub hr))
        have hk : s.2.2.toNat < Rs.length := by (first | lia | omega)
        have hcast : ((s.2.2.toNat : Nat) : Int) = s.2.2 := by (first | lia | omega)
        have X5 := XL s5
        refine ⟨_, rfl, _, rfl, sa, _, _, _, rfl, rfl, SqT.of (s5 _ _ hs2), atI_nat (j := 2) rfl, ln, qs, _, rfl, X5.p, by (first | lia | omega), fun mh H6 s6 nmh emh => ?_⟩
        have s26 := s5.trans s6
        refine ⟨_, rfl, ln, _, rfl, .inl (XL s26).p, ?_⟩
        rw [List.length_map]
        refine ⟨(qs.length : Nat), rfl, by (first | lia | omega), by (first | lia | omega), comp_range (n := qs.length) (fun i ys H7 => Same H6 H7 ∧ ys = (((rng qs.length).take i).filter fun c => decide (s.2.2 ∈ rather (wishOf wss c) (plc qs c))).map V.int) (fits (by (first | lia | omega))) ⟨Same.refl _, rfl⟩ ?_ ?_ ?_⟩
        · rintro i ys H7 ⟨_, rfl⟩
          rw [List.length_map]
          exact len_filter _ i
        · rintro i ys H7 B N1 N2 hi ⟨sm7, rfl⟩ k1 k2
          have hci : (rng qs.length)[i]? = some (0 + (i : Int)) := by rw [Int.zero_add]; exact rng_get hi
          have hiw : i < wss.length := by (first | lia | omega)
          have X7 := XL (s26.trans sm7)
          refine ex_elim2 (X7.w) fun was hW pw => ?_
          refine ex_elim2 (Paired.at_ pw (List.getElem?_eq_getElem hiw)) fun wa ewa hwa => ?_
          have wl : wss[i].length ≤ 24 := by
            refine And.elim (fun a1 a2 => ?_) (X.wg _ (List.getElem_mem hiw))
            exact Nat.le_trans (good_len a1 a2) hh24
          refine ⟨_, rfl, sa, _, _, _, rfl, rfl, SqT.of ((s26.trans sm7) _ _ hs2), atI_nat (j := 2) rfl, _, rfl, _, rfl, _, rfl, lw, ln, wa, was, qs, wss[i], i, (by rw [Int.zero_add]; rfl), hW, ewa, hwa, X7.p, hi, wl, fun m H9 s9 nm em => ?_⟩
          refine ⟨m, _, rfl, .inl (SqL.of em), rfl, flat_ints _, _, rfl, ?_⟩
          rw [if_neg Bool.false_ne_true, inV_int]
          have ed : decide (s.2.2 ∈ rather wss[i] (plc qs (i : Int))) = decide (s.2.2 ∈ rather (wishOf wss (0 + (i : Int))) (plc qs (0 + (i : Int)))) := by rw [Int.zero_add, wish_at hiw]
          rw [ed]
          refine ite2 (fun hb => ⟨_, rfl, k1 _ _ ⟨sm7.trans s9, ?_⟩⟩) (fun hb => k2 _ ⟨sm7.trans s9, ?_⟩)
          · rw [take_filter hci, if_pos hb, List.map_append]
            rfl
          · rw [take_filter hci, if_neg hb, List.append_nil]
        · rintro ys H7 ⟨sm7, rfl⟩ lv nlv
          rw [show (rng qs.length).take qs.length = rng qs.length from List.take_of_length_le (by rw [rng_len]; exact Nat.le_refl _)]
          have s68 := sm7.up (o := .lst (((rng qs.length).filter fun c => decide (s.2.2 ∈ rather (wishOf wss c) (plc qs c))).map V.int)) nlv
          have elv : upd H7 lv (.lst (((rng qs.length).filter fun c => decide (s.2.2 ∈ rather (wishOf wss c) (plc qs c))).map V.int)) lv = some (.lst ((wantL wss qs s.2.2).map V.int)) := upd_same
          generalize upd H7 lv (.lst (((rng qs.length).filter fun c => decide (s.2.2 ∈ rather (wishOf wss c) (plc qs c))).map V.int)) = H9 at s68 elv ⊢
          have s29 := s26.trans s68
          have X9 := XL s29
          refine ex_elim2 (X9.r) fun ras hRa pra => ?_
          refine ex_elim2 (Paired.at_ pra (List.getElem?_eq_getElem hk)) fun ra era hra => ?_
          have eR : rowOf Rs s.2.2 = Rs[s.2.2.toNat] := by unfold rowOf; simp [hk]
          have gR := X9.g _ (List.getElem_mem hk)
          have hatr : atI (ras.map V.ref) s.2.2 = some (.ref ra) := by
            have := at_ref era
            rwa [hcast] at this
          have hwl : (wantL wss qs s.2.2).length ≤ 24 := Nat.le_trans (good_len (wantL_nodup _ _ _) fun c hc => (wantL_mem.mp hc).1) (by (first | lia | omega))
          have hhl := len_heldL qs s.2.2
          refine ⟨_, rfl, _, rfl, sa, _, _, _, rfl, rfl, SqT.of (s29 _ _ hs2), atI_nat (j := 2) rfl, lr, _, _, _, rfl, rfl, hRa, hatr, _, rfl, _, rfl, mh, lv, _, _, rfl, rfl, s68 _ _ emh, elv, by rw [List.length_map, List.length_map]; exact fits (by (first | lia | omega)), fun lc nlc => ?_⟩
          rw [← List.map_append]
          have s10 := Same.new (o := .lst ((heldL qs s.2.2 ++ wantL wss qs s.2.2).map V.int)) nlc
          refine ⟨ra, lc, _, Rs[s.2.2.toNat], qs.length, rfl, hra.up s10, gR, SqL.of upd_same, fun mt ms H11 s11 nmt pms sms emt => ?_⟩
          have s911 := s10.trans s11
          have elv11 := s911 _ _ elv
          have hra11 := hra.up s911
          have s211 := s29.trans s911
          refine ⟨_, rfl, _, rfl, sa, _, _, _, rfl, rfl, SqT.of (s211 _ _ hs2), atI_nat (j := 2) rfl, lr, _, _, _, rfl, rfl, s911.seq hRa, hatr, _, rfl, ra, lv, wantL wss qs s.2.2, Rs[s.2.2.toNat], qs.length, rfl, hra11, gR, SqL.of elv11, fun mk H12 s12 nmk emk => ?_⟩
          have ewt : Rs[s.2.2.toNat].rank (inL (wantL wss qs s.2.2)) = waitL wss Rs qs s.2.2 := by unfold waitL; rw [eR]
          rw [ewt] at emk
          have hwtl : (waitL wss Rs qs s.2.2).length ≤ 24 := by
            rw [← ewt]
            exact Nat.le_trans (good_len (rank_nodup gR) fun c h => (gR.tm c).mp (mem_full.mp (List.mem_filter.mp h).1).1) (by (first | lia | omega))
          refine ⟨mk, rfl, ⟨_, SqL.of emk⟩, comp_list (xs := (waitL wss Rs qs s.2.2).map V.int) (fun i ys H13 => H13 = H12 ∧ ys = (((waitL wss Rs qs s.2.2).take i).filter fun c => decide (c ∈ ms)).map V.int) (fits (by rw [List.length_map]; (first | lia | omega))) ⟨rfl, rfl⟩ ?_ ?_ ?_⟩
          · rintro i ys H13 ⟨rfl, rfl⟩
            exact ⟨SqL.of emk, by rw [List.length_map]; exact len_filter _ i⟩
          · rintro i x ys H13 B N1 N2 hx ⟨rfl, rfl⟩ n1 n2
            refine ex_elim2 (getI hx) fun c hci exx => ?_
            subst exx
            refine ⟨_, rfl, _, rfl, mt, _, rfl, .inl (SqL.of (s12 _ _ emt)), rfl, flat_ints _, _, rfl, ?_⟩
            rw [if_neg Bool.false_ne_true, inV_int]
            refine ite2 (fun hb => ?_) (fun hb => ?_)
            · refine ⟨_, rfl, n1 _ _ ⟨rfl, ?_⟩⟩
              rw [take_filter hci, if_pos hb, List.map_append]
              rfl
            · refine n2 _ ⟨rfl, ?_⟩
              rw [take_filter hci, if_neg hb, List.append_nil]
          · rintro ys H13 ⟨rfl, rfl⟩ lf nlf
            rw [List.length_map, List.take_length]
            have ef : ((waitL wss Rs qs s.2.2).filter fun c => decide (c ∈ ms)) = nextL wss Rs qs s.2.2 := by
              unfold nextL
              refine List.filter_congr fun c _ => ?_
              rw [decide_eq_decide, pms.mem_iff, ← near_cat2 hnq, eR]
            rw [ef]
            have hx := IS.nx
            have s14 := (s211.trans s12).up (o := .lst ((nextL wss Rs qs s.2.2).map V.int)) nlf
            have elf : upd H13 lf (.lst ((nextL wss Rs qs s.2.2).map V.int)) lf = some (.lst ((nextL wss Rs qs s.2.2).map V.int)) := upd_same
            generalize upd H13 lf (.lst ((nextL wss Rs qs s.2.2).map V.int)) = H14 at s14 elf ⊢
            refine ⟨_, rfl, Nat.zero_le _, fun le2 nle2 => ?_⟩
            have s15 : Same H14 (upd H14 le2 (.lst [])) := Same.new nle2
            obtain ⟨_, c2, c3⟩ := eqv_ints (nextL wss Rs qs s.2.2)
            refine ⟨.list ((nextL wss Rs qs s.2.2).map PyData.int), .list [], .list (SqL.of (s15 _ _ elf)) (DenAll.ints _), .list (SqL.of upd_same) .nil, c2, rfl, ?_, _, rfl, ?_⟩
            · have : (PyData.list []).depth ≤ 2 := by decide
              (first | lia | omega)
            rw [eqv_nil, decide_eq_false (fun z => by
              rw [List.map_eq_nil_iff] at z
              rw [z] at hx
              cases hx)]
            refine iteF ?_
            have s215 := s14.trans s15
            have elf15 := s15 _ _ elf
            generalize upd H14 le2 (.lst []) = H15 at s215 elf15 ⊢
            refine ⟨_, rfl, sa, _, _, _, rfl, rfl, SqT.of (s215 _ _ hs2), atI_nat (j := 0) rfl, _, rfl, lf, _, _, _, rfl, rfl, SqL.of elf15, head_at hx, rfl, _, rfl, ?_⟩
            refine iteNS rfl ?_
            obtain ⟨w1, _⟩ := (next_mem hnq).mp (head_mem hx)
            obtain ⟨hc, _⟩ := want_iff.mp w1
            have hc' : 0 ≤ s.1 ∧ s.1 < (wss.length : Nat) := hc
            have hatn : atI (qs.map encO) s.1 = some (encO s.2.1) := by rw [IS.was]; exact at_map (d := none) hc'.1 (by (first | lia | omega))
            have eln15 := s215 _ _ eln
            refine ⟨_, rfl, sa, _, _, _, rfl, rfl, SqT.of (s215 _ _ hs2), atI_nat (j := 1) rfl, _, rfl, _, rfl, sa, _, _, _, rfl, rfl, SqT.of (s215 _ _ hs2), atI_nat (j := 0) rfl, ln, _, _, _, rfl, rfl, SqL.of eln15, hatn, enc_scal, _, rfl, ?_⟩
            refine iteNS rfl ?_
            refine ⟨_, rfl, sa, _, _, _, rfl, rfl, SqT.of (s215 _ _ hs2), atI_nat (j := 2) rfl, _, rfl, _, rfl, sa, _, _, _, rfl, rfl, SqT.of (s215 _ _ hs2), atI_nat (j := 0) rfl, ln, _, _, s.1.toNat, rfl, rfl, eln15, ix_in hc'.1 (by rw [List.length_map]; (first | lia | omega)), ?_⟩
            refine ⟨_, _, _, _, _, _, rfl, (sm.trans s215).wr nln, ?_⟩
            rw [upd_same, walk_take hSi, hqs, List.map_set]
            rfl
    · rintro σ H2 ⟨v5, v6, v7, v8, v9, v10, rfl, sm, eln⟩
      rw [List.length_map, hsl, List.take_length] at eln
      exact ⟨_, rfl, q ln _ sm nln eln⟩
end
end K13

set_option Elab.async false
set_option linter.all false
set_option maxRecDepth 100000
set_option maxHeartbeats 4000000
namespace K13
open PySem L2 Hse
def spYear (K : PySem.W.Frag) : Sp := fun vs H Q _ => ∃ (m lw lr lp lm ls : Addr) (wss : List (List Int)) (Rs : List RowD) (ps : List (Option Int)) (sas : List Addr) (S : List Stp), vs = [.ref m, .ref lw, .ref lr, .ref lp] ∧ Wld K H lw lr lp wss Rs ps ∧ H m = some (.tup [.ref lm, .ref ls]) ∧ H lm = some (.lst ((walkL S ps).map encO)) ∧ H ls = some (.lst (sas.map V.ref)) ∧ Paired (StepAt H) sas S ∧ Moved wss Rs ps S ∧
  ∀ H', Same H H' → Q (.bl true) H'
section
variable {P : Program} {w : World} {K : PySem.W.Frag} {mg : Str → Option Value} {base : Heap} {C : Addr}
theorem scYear : FnScope ["found", "wishes", "rows", "places", "now"] ["found", "wishes", "rows", "places"] (defScope sYear) := ⟨rfl, rfl, rfl, by decide +kernel, rfl, by decide +kernel, by decide +kernel⟩
theorem ok_year {f : Addr} {fd : FuncData} (F : FnAt K mg "_law_year" sYear ["found", "wishes", "rows", "places"] f fd) (T : Cl K mg C) (Cwk : Callee P w K mg base 4 "_law_walked" ["wishes", "rows", "places", "steps"] (spWalked K)) (Cal : Callee P w K mg base 2 "_law_places_alike" ["found", "due"] (spAlike K)) (Clf : Callee P w K mg base 4 "_law_fair" ["wishes", "rows", "places"] (spLFair K)) : Callee P w K mg base 5 "_law_year" ["found", "wishes", "rows", "places"] (spYear K) := by
  refine F.callee (F.fn.ok (k := 4) scYear (fun vs H Q E h => ?_) (fun cdv A outer s H vs Q E hr h => ?_))
  · obtain ⟨m, lw, lr, lp, lm, ls, wss, Rs, ps, sas, S, rfl, _⟩ := h
    rfl
  · obtain ⟨m, lw, lr, lp, lm, ls, wss, Rs, ps, sas, S, rfl, X, em, elm, els, pS, mv, q⟩ := h
    have hr2 : Room 2 _ := hr.mono (by decide)
    refine ⟨_, pss_cons (ps_if ((pw_or (pt_not (pt_val (pe_isi T.b (pv 0) T.b.tuple PyProof.Rows.Boot.«tuple»))) (pw_or (pt_cmpR op_ne (pe_len T.b call_len_seq (pv 0)) (pe_int) (nomark _)) (pw_or1 (pt_not (pt_val (pe_isi T.b (pe_ix ix_tup (pv 0) (pe_int) (fun _ _ => rfl)) T.b.list PyProof.Rows.Boot.«list»)))))).pt) pss_never pss_nil)
      (pss_cons (ps_set (i := 4) scYear.nd rfl (Or.inl rfl) (pe_fn Cwk hr (pa_cons (pv 1) (pa_cons (pv 2) (pa_cons (pv 3) (pa_cons (pe_ix ix_tup (pv 0) (pe_int) (fun _ _ => rfl)) pa_nil))))))
      (pss_cons (ps_if ((pw_or (pt_cmpR op_isN (pv 4) (pe_non) (nomark _)) (pw_or1 (pt_not (pt_val (pe_fn Cal hr2 (pa_cons (pe_ix ix_tup (pv 0) (pe_int) (fun _ _ => rfl)) (pa_cons (pv 4) pa_nil))))))).pt) pss_never pss_nil)
      (pss_one (ps_ret (pe_fn Clf hr (pa_cons (pv 1) (pa_cons (pv 2) (pa_cons (pv 4) pa_nil)))))))), ?_⟩
    have hn24 := X.n24
    have hh24 := X.h24
    have hcl : climb wss ps ≤ 576 := by
      have := climb_le (wss := wss) (ps := ps) (m := 24) fun k => Nat.le_trans (wish_len X.wg k) hh24
      (first | lia | omega)
    have hwl := walk_len S ps
    have := mv.len
    refine ⟨_, rfl, _, _, _, _, rfl, .tup em, (by rfl : PySem.W.kitOne _ _ _ = some true), true, rfl, ?_⟩
    refine iteF ?_
    refine ⟨_, rfl, m, _, rfl, .inr (SqT.of em), rfl, _, rfl, ?_⟩
    refine iteNS rfl ?_
    refine ⟨_, rfl, m, _, _, _, rfl, rfl, SqT.of em, atI_nat (j := 1) rfl, _, _, _, _, rfl, .lst els, (by rfl : PySem.W.kitOne _ _ _ = some true), true, rfl, ?_⟩
    refine iteF ?_
    refine ⟨_, rfl, _, rfl, _, rfl, _, rfl, m, _, _, _, rfl, rfl, SqT.of em, atI_nat (j := 1) rfl, lw, lr, lp, ls, wss, Rs, ps, sas, S, rfl, X, els, pS, mv.ok, by (first | lia | omega), fun mn H1 s1 nmn emn => ?_⟩
    refine ⟨_, rfl, rfl, _, rfl, ?_⟩
    refine iteF ?_
    refine ⟨_, rfl, m, _, _, _, rfl, rfl, SqT.of (s1 _ _ em), atI_nat (j := 0) rfl, _, rfl, lm, mn, walkL S ps, rfl, s1 _ _ elm, SqL.of emn, by (first | lia | omega), true, rfl, ?_⟩
    refine iteF ?_
    have XL : Wld K H1 lw lr mn wss Rs (walkL S ps) := by
      obtain ⟨⟨was, a1, a2⟩, ⟨ras, b1, b2⟩, _⟩ := X.up s1
      exact ⟨⟨was, a1, a2⟩, ⟨ras, b1, b2⟩, SqL.of emn, by rw [hwl]; exact X.n, by (first | lia | omega), hh24, by rw [hwl]; exact X.g, X.wg⟩
    refine ⟨_, rfl, _, rfl, _, rfl, lw, lr, mn, wss, Rs, walkL S ps, rfl, XL, fun b H2 s2 hb => ?_⟩
    rw [hb.mpr mv.fair]
    exact q _ (s1.trans s2)
end
def spNoneW (K : PySem.W.Frag) : Sp := fun vs H Q _ => ∃ (lw la ln : Addr) (was : List Addr) (wss : List (List Int)) (ps qs : List (Option Int)) (o : Option Int), vs = [.ref lw, .ref la, .ref ln, encO o] ∧ SqL K H lw (was.map V.ref) ∧ Paired (WishAt H) was wss ∧ SqL K H la (ps.map encO) ∧ SqL K H ln (qs.map encO) ∧ wss.length = ps.length ∧ qs.length = ps.length ∧ ps.length ≤ 24 ∧ (∀ ws ∈ wss, ws.length ≤ 24) ∧
  (∀ c : Int, 0 ≤ c → c < ps.length → o ≠ some c → plc qs c = plc ps c ∨ ∃ h, plc qs c = some h ∧ h ∈ rather (wishOf wss c) (plc ps c)) ∧ ∀ H', Same H H' → Q (.bl true) H'
theorem enc_enc {o p : Option Int} : decide (encO o = encO p) = decide (o = p) := by
  rw [decide_eq_decide]
  cases o with
  | none => cases p with
    | none => exact ⟨fun _ => rfl, fun _ => rfl⟩
    | some y => exact ⟨fun z => (nomatch z), fun z => (nomatch z)⟩
  | some x => cases p with
    | none => exact ⟨fun z => (nomatch z), fun z => (nomatch z)⟩
    | some y => exact ⟨fun z => by rw [V.int.inj z], fun z => by rw [Option.some.inj z]⟩
theorem enc_scal2 {o p : Option Int} : scal (encO o) (encO p) = true := by cases o <;> cases p <;> rfl
section
variable {P : Program} {w : World} {K : PySem.W.Frag} {mg : Str → Option Value} {base : Heap} {C : Addr}
theorem scNoneW : FnScope ["wishes", "ahead", "now", "apart", "k"] ["wishes", "ahead", "now", "apart"] (defScope sNoneW) := ⟨rfl, rfl, rfl, by decide +kernel, rfl, by decide +kernel, by decide +kernel⟩
theorem ok_nonew {f : Addr} {fd : FuncData} (F : FnAt K mg "_law_none_worse" sNoneW ["wishes", "ahead", "now", "apart"] f fd) (T : Cl K mg C) (Clr : Callee P w K mg base 1 "_law_rather" ["wishes", "places", "k"] (spLRather K)) : Callee P w K mg base 2 "_law_none_worse" ["wishes", "ahead", "now", "apart"] (spNoneW K) := by
  refine F.callee (F.fn.ok (k := 1) scNoneW (fun vs H Q E h => ?_) (fun cdv A outer s H vs Q E hr h => ?_))
  · obtain ⟨lw, la, ln, was, wss, ps, qs, o, rfl, _⟩ := h
    rfl
  · obtain ⟨lw, la, ln, was, wss, ps, qs, o, rfl, hW, pw, hA, hN, hn, hql, hn24, hwl, hup, q⟩ := h
    refine ⟨_, pss_cons (ps_for PassesOwn.never (by rfl) (pi_range1 (by rfl) T.b.range (pa_cons (pe_len T.b call_len_seq (pv 2)) pa_nil)) (pg_name (i := 4) scNoneW.nd rfl (Or.inl rfl))
        (pss_one (ps_if ((pw_and (pt_cmpR op_ne (pv 4) (pv 3) (nomark _)) (pw_and1 (pt_cmpR op_ne (pe_ix ix_list (pv 2) (pv 4) (fun _ _ => rfl)) (pe_ix ix_list (pv 1) (pv 4) (fun _ _ => rfl)) (nomark _)))).pt) (pss_one (ps_if ((pw_or (pt_cmpR op_isN (pe_ix ix_list (pv 2) (pv 4) (fun _ _ => rfl)) (pe_non) (nomark _)) (pw_or1 (pt_cmpR op_notIn_seq (pe_ix ix_list (pv 2) (pv 4) (fun _ _ => rfl)) (pe_fn Clr hr (pa_cons (pv 0) (pa_cons (pv 1) (pa_cons (pv 4) pa_nil)))) (by with_unfolding_all rfl)))).pt) pss_never pss_nil)) pss_nil)))
      (pss_one (ps_ret (pe_bl))), ?_⟩
    refine ⟨_, rfl, ln, _, rfl, .inl hN, ?_⟩
    rw [List.length_map, hql]
    refine ⟨(ps.length : Nat), rfl, by (first | lia | omega), by (first | lia | omega), for_range (n := ps.length) (fun i σ H2 => Same H H2 ∧ ∃ v, σ = [some (.ref lw), some (.ref la), some (.ref ln), some (encO o), v]) ⟨Same.refl _, none, rfl⟩ ?_ ?_⟩
    · rintro i σ H2 hi ⟨sm, v, rfl⟩
      have hatn : atI (qs.map encO) (0 + (i : Int)) = some (encO (plc qs (i : Int))) := by rw [Int.zero_add]; exact at_map (d := none) (by (first | lia | omega)) (by (first | lia | omega))
      have hata : atI (ps.map encO) (0 + (i : Int)) = some (encO (plc ps (i : Int))) := by rw [Int.zero_add]; exact at_map (d := none) (by (first | lia | omega)) (by (first | lia | omega))
      refine ⟨_, rfl, _, rfl, encO_scal', _, rfl, ?_⟩
      rw [int_encO]
      refine ite2 (fun hb => ?_) (fun hb => iteF ⟨sm, _, rfl⟩)
      have hne : o ≠ some (i : Int) := fun z => by
        rw [Int.zero_add, decide_eq_true z] at hb
        cases hb
      refine ⟨_, rfl, _, rfl, ln, _, _, _, rfl, rfl, sm.seq hN, hatn, _, rfl, _, rfl, la, _, _, _, rfl, rfl, sm.seq hA, hata, enc_scal2, _, rfl, ?_⟩
      rw [enc_enc]
      refine ite2 (fun hb2 => ?_) (fun hb2 => ⟨sm, _, rfl⟩)
      have hne2 : plc qs (i : Int) ≠ plc ps (i : Int) := fun z => by
        rw [decide_eq_true z] at hb2
        cases hb2
      obtain ⟨h, e1, e2⟩ := (hup (i : Int) (by (first | lia | omega)) (by (first | lia | omega)) hne).resolve_left hne2
      rw [e1] at hatn
      refine ⟨_, rfl, _, rfl, ln, _, _, _, rfl, rfl, sm.seq hN, hatn, rfl, _, rfl, ?_⟩
      refine iteF ?_
      have hiw : i < wss.length := by (first | lia | omega)
      refine ex_elim2 (Paired.at_ pw (List.getElem?_eq_getElem hiw)) fun wa ewa hwa => ?_
      refine ⟨_, rfl, _, rfl, ln, _, _, _, rfl, rfl, sm.seq hN, hatn, _, rfl, _, rfl, _, rfl, lw, la, wa, was, ps, wss[i], i, (by rw [Int.zero_add]; rfl), sm.seq hW, ewa, hwa.up sm, sm.seq hA, by (first | lia | omega), hwl _ (List.getElem_mem hiw), fun m H3 s3 nm em => ?_⟩
      refine ⟨m, _, rfl, .inl (SqL.of em), rfl, flat_ints _, _, rfl, ?_⟩
      rw [wish_at hiw] at e2
      have : inV (encO (some h)) ((rather wss[i] (plc ps (i : Int))).map V.int) = true := by
        show inV (.int h) _ = true
        rw [inV_int]
        exact decide_eq_true e2
      rw [if_pos rfl, this]
      exact iteF ⟨sm.trans s3, _, rfl⟩
    · rintro σ H2 ⟨sm, v, rfl⟩
      exact q _ sm
end
end K13

set_option Elab.async false
set_option linter.all false
set_option maxRecDepth 100000
set_option maxHeartbeats 4000000
namespace K13
open PySem L2 Hse
theorem cut7 {x1 x2 x3 x4 x5 x6 x7 : V} : cutV [x1, x2, x3, x4, x5, x6, x7] (some 2) none = [x3, x4, x5, x6, x7] := by
  unfold cutV
  rw [HT.sIx_none, show (2 : Int) = ((2 : Nat) : Int) from rfl, HT.sIx_nat]
  rfl
theorem cut7n {x1 x2 x3 x4 x5 x6 x7 : V} : ¬ (HT.sIx [x1, x2, x3, x4, x5, x6, x7].length 0 (some 2) = 0 ∧ HT.sIx [x1, x2, x3, x4, x5, x6, x7].length [x1, x2, x3, x4, x5, x6, x7].length none = [x1, x2, x3, x4, x5, x6, x7].length) := by
  rw [show (2 : Int) = ((2 : Nat) : Int) from rfl, HT.sIx_nat]
  exact fun z => absurd z.1 (show ¬ (2 : Nat) = 0 by decide)
/-! ### [list(row) for row in wishes] -/
theorem comp_copy {σ : St} {te : Blk → TE} {F : VK} {H1 : Hp} {K : PySem.W.Frag} {a : Addr} {was : List Addr} {wss : List (List Int)} (hl : was.length ≤ 1000) (hq : SqL K H1 a (was.map V.ref)) (pw : Paired (WishAt H1) was wss)
    (ht : ∀ (B : Blk) (b : Addr) (ws : List Int) (H : Hp) (N1 : VK), H b = some (.lst (ws.map V.int)) → (∀ lc, H lc = none → N1 (.ref lc) (upd H lc (.lst (ws.map V.int)))) → te B (some (.ref b) :: σ) H N1)
    (hd : ∀ (cas : List Addr) (H' : Hp) (l : Addr), Same H1 H' → H1 l = none → H' l = some (.lst (cas.map V.ref)) → Paired (WishAt H') cas wss → cas.length = wss.length → F (.ref l) H') : CompW (Itl K a) σ (fun _ => tTrue) te F H1 := by
  have hwl : was.length = wss.length := Paired.length pw
  refine comp_list0 (xs := was.map V.ref) (fun i ys H' => ∃ cas : List Addr, ys = cas.map V.ref ∧ cas.length = i ∧ Paired (WishAt H') cas (wss.take i) ∧ Same H1 H') (fits (by rw [List.length_map]; (first | lia | omega))) ⟨[], rfl, rfl, .nil, Same.refl _⟩ ?_ ?_ ?_
  · rintro i ys H' ⟨cas, rfl, e, _, sm⟩
    exact ⟨sm.seq hq, by rw [List.length_map, e]; exact Nat.le_refl _⟩
  · rintro i x ys H' B N1 hx ⟨cas, rfl, e, pc, sm⟩ k1
    refine ex_elim2 (getR hx) fun b hbi exx => ?_
    subst exx
    refine ex_elim2 (Paired.fwd pw hbi) fun ws hwi hb => ?_
    refine ht B b ws H' N1 (sm _ _ hb) fun lc nlc => k1 _ _ ⟨cas ++ [lc], by rw [List.map_append]; rfl, by rw [List.length_append, e]; rfl, ?_, sm.up nlc⟩
    rw [List.take_add_one, hwi]
    exact Paired.snoc (show WishAt _ lc ws from upd_same) (Paired.mapP pc fun _ _ z => WishAt.up (Same.new nlc) z)
  · rintro ys H' ⟨cas, rfl, e, pc, sm⟩ l nl
    rw [List.length_map, List.take_of_length_le (by (first | lia | omega))] at pc
    rw [List.length_map] at e
    exact hd cas _ l (sm.up nl) (sm.free nl) upd_same (Paired.mapP pc fun _ _ z => WishAt.up (Same.new nl) z) (by (first | lia | omega))
def spLaw (K : PySem.W.Frag) : Sp := fun vs H Q _ => ∃ (a : Addr) (ns : List Int), vs = [.ref a] ∧ SqL K H a (ns.map V.int) ∧ ns.length ≤ 63 ∧ ∀ H', Q (.bl true) H'
theorem paired_mem {α β : Type} {F G : α → β → Prop} : ∀ {l : List α} {m : List β}, Paired F l m → (∀ a b, b ∈ m → F a b → G a b) → Paired G l m
  | [], [], _, _ => .nil
  | _ :: _, _ :: _, .cons r t, f => .cons (f _ _ List.mem_cons_self r) (paired_mem t fun a b hb z => f a b (List.mem_cons_of_mem _ hb) z)
theorem HouseAt.off {C : Addr} {H : Hp} {a l : Addr} {R : RowD} {n : Nat} {cas : List Addr} {o : HO} (g : Good R n) (hn : 1 ≤ n) (hl : H l = some (.lst (cas.map V.ref))) (hc : 1 ≤ cas.length) (h : HouseAt C H a R) : HouseAt C (upd H l o) a R := by
  obtain ⟨dx, lp, lk, lr, e1, e2, e3, e4⟩ := h
  have n1 : a ≠ l := fun z => by rw [z, hl] at e1; cases e1
  have key : ∀ {b : Addr} {xs : List V}, H b = some (.lst xs) → xs.length = n → (∀ v ∈ xs, ∀ c : Addr, v ≠ .ref c) → b ≠ l := fun {b xs} e hx hv z => by
    rw [z, hl] at e
    have e := HO.lst.inj (Option.some.inj e)
    cases cas with
    | nil => simp at hc
    | cons c cas => exact hv (.ref c) (by rw [← e]; exact List.mem_cons_self) c rfl
  have enc : ∀ v ∈ R.points.map encO, ∀ c : Addr, v ≠ .ref c := fun v hv c z => by
    obtain ⟨x, _, rfl⟩ := List.mem_map.mp hv
    cases x <;> cases z
  have int : ∀ l : List Int, ∀ v ∈ l.map V.int, ∀ c : Addr, v ≠ .ref c := fun l v hv c z => by
    obtain ⟨x, _, rfl⟩ := List.mem_map.mp hv
    cases z
  exact ⟨dx, lp, lk, lr, by rw [upd_ne n1]; exact e1, by rw [upd_ne (key e2 (by rw [List.length_map]; exact g.pl) enc)]; exact e2, by rw [upd_ne (key e3 (by rw [List.length_map]; exact g.kl) (int _))]; exact e3, by rw [upd_ne (key e4 (by rw [List.length_map]; exact g.tl) (int _))]; exact e4⟩
theorem WishAt.off {H : Hp} {b l : Addr} {ws : List Int} {cas : List Addr} {o : HO} (hl : H l = some (.lst (cas.map V.ref))) (hc : 1 ≤ cas.length) (h : WishAt H b ws) : WishAt (upd H l o) b ws := by
  have h : H b = some (.lst (ws.map V.int)) := h
  show upd H l o b = _
  rw [upd_ne (fun z => ?_)]
  · exact h
  · rw [z, hl] at h
    have e := HO.lst.inj (Option.some.inj h)
    cases cas with
    | nil => simp at hc
    | cons c cas =>
      cases ws with
      | nil => simp at e
      | cons x ws => simp at e
theorem GoneAt.elim {Q : Prop} {H0 H : Hp} {m : Addr} {wss : List (List Int)} {Rs : List RowD} {ps : List (Option Int)} (h : GoneAt H0 H m wss Rs ps) (k : ∀ (lm ls : Addr) (sas : List Addr) (S : List Stp), H m = some (.tup [.ref lm, .ref ls]) → H lm = some (.lst ((walkL S ps).map encO)) → H ls = some (.lst (sas.map V.ref)) → Paired (StepAt H) sas S → H0 m = none → H0 lm = none → H0 ls = none → Moved wss Rs ps S → Q) : Q := by
  obtain ⟨lm, ls, sas, S, g1, g2, g3, g4, g5, g6, g7, mv⟩ := h
  exact k lm ls sas S g1 g2 g3 g4 g5 g6 g7 mv
theorem RowAt.elim {Q : Prop} {H : Hp} {p : Addr} {R : RowD} (h : RowAt H p R) (k : ∀ lp lk lt, H p = some (.tup [.int R.seats, .int R.kept, .int R.kind, .bl R.opened, .ref lp, .ref lk, .ref lt]) → H lp = some (.lst (R.points.map encO)) → H lk = some (.lst (R.kinds.map V.int)) → H lt = some (.lst (R.tie.map V.int)) → Q) : Q := by
  obtain ⟨lp, lk, lt, y1, y2, y3, y4⟩ := h
  exact k lp lk lt y1 y2 y3 y4
theorem at_elim {Q : Prop} {β : Type} {F : Addr → β → Prop} {l : List Addr} {m : List β} {i : Nat} (p : Paired F l m) (h : i < m.length) (k : ∀ a, l[i]? = some a → F a m[i] → Q) : Q := by
  refine ex_elim2 (Paired.at_ p (List.getElem?_eq_getElem h)) fun a e z => ?_
  exact k a e z
theorem mod_elim {Q : Prop} {c : Int} {n : Nat} (h : 1 ≤ n) (k : ∀ k : Nat, c % (n : Int) = (k : Int) → k < n → Q) : Q := by
  have g0 := Int.emod_nonneg c (b := (n : Int)) (by (first | lia | omega))
  have g1 := Int.emod_lt_of_pos c (b := (n : Int)) (by (first | lia | omega))
  exact k (c % (n : Int)).toNat (by (first | lia | omega)) (by (first | lia | omega))
def Mid13 (C a p lw lh : Addr) (has : List Addr) (Rs : List RowD) (n h : Nat) (H1 : Hp) (σ : St) (H6 : Hp) : Prop := ∃ (lp : Addr) (v5 : Option V) (cas : List Addr) (wss : List (List Int)) (ps : List (Option Int)), σ = [some (.ref a), some (.ref p), some (.ref lw), some (.ref lh), some (.ref lp), v5, none, none, none, none, none, none] ∧ Same H1 H6 ∧ H6 lw = some (.lst (cas.map V.ref)) ∧ Paired (WishAt H6) cas wss ∧ wss.length = n ∧ (∀ ws ∈ wss, WGood h ws) ∧ H6 lh = some (.lst (has.map V.ref)) ∧ Paired (HouseAt C H6) has Rs ∧ H6 lp = some (.lst (ps.map encO)) ∧ ps.length = n ∧ (hallOf wss Rs).Fair (plc ps)
theorem Mid13.elim {Q : Prop} {C a p lw lh : Addr} {has : List Addr} {Rs : List RowD} {n h : Nat} {H1 : Hp} {σ : St} {H6 : Hp} (x : Mid13 C a p lw lh has Rs n h H1 σ H6) (k : ∀ (lp : Addr) (v5 : Option V) (cas : List Addr) (wss : List (List Int)) (ps : List (Option Int)), σ = [some (.ref a), some (.ref p), some (.ref lw), some (.ref lh), some (.ref lp), v5, none, none, none, none, none, none] → Same H1 H6 → H6 lw = some (.lst (cas.map V.ref)) → Paired (WishAt H6) cas wss → wss.length = n → (∀ ws ∈ wss, WGood h ws) → H6 lh = some (.lst (has.map V.ref)) → Paired (HouseAt C H6) has Rs → H6 lp = some (.lst (ps.map encO)) → ps.length = n → (hallOf wss Rs).Fair (plc ps) → Q) : Q := by
  obtain ⟨lp, v5, cas, wss, ps, e, s16, elw, pc, ew, gw, elh, ph, elp, eps, fr⟩ := x
  exact k lp v5 cas wss ps e s16 elw pc ew gw elh ph elp eps fr
section
variable {P : Program} {w : World} {K : PySem.W.Frag} {mg : Str → Option Value} {base : Heap} {C : Addr}
theorem scLaw : FnScope ["script", "world", "wishes", "houses", "places", "comer", "house", "many", "handed", "found", "k", "rows"] ["script"] (defScope sLaw) := ⟨rfl, rfl, rfl, by decide +kernel, rfl, by decide +kernel, by decide +kernel⟩
theorem ok_law {f : Addr} {fd : FuncData} (F : FnAt K mg "law" sLaw ["script"] f fd) (T : Cl K mg C) (Cc : Callee P w K mg base 1 "_law_cell_at" ["script", "k"] (spCell K)) (Cw : Callee P w K mg base 3 "_law_world" ["script", "top"] (spWorld K)) (Chs : Callee P w K mg base 3 "_law_houses" ["rows"] (spHouses K C))
    (Cg : Callee P w K mg base 7 "granted" ["wishes", "houses"] (spGranted K C)) (Cgo : Callee P w K mg base 8 "gone" ["wishes", "houses", "places", "comer"] (spGone K C)) (Cmo : Callee P w K mg base 8 "more" ["wishes", "houses", "places", "house", "many"] (spMoreP K C)) (Cyr : Callee P w K mg base 5 "_law_year" ["found", "wishes", "rows", "places"] (spYear K)) (Cnw : Callee P w K mg base 2 "_law_none_worse" ["wishes", "ahead", "now", "apart"] (spNoneW K)) : FnOk P w K mg base CX0 9 f fd ["script"] (spLaw K) := by
  refine F.fn.ok (k := 8) scLaw (fun vs H Q E h => ?_) (fun cdv A outer s H vs Q E hr h => ?_)
  · obtain ⟨a, ns, rfl, _⟩ := h
    rfl
  · obtain ⟨a, ns, rfl, hS, hlen, q⟩ := h
    have hr1 : Room 1 _ := hr.mono (by decide)
    have hr2 : Room 2 _ := hr.mono (by decide)
    have hr3 : Room 3 _ := hr.mono (by decide)
    have hr5 : Room 5 _ := hr.mono (by decide)
    have hr7 : Room 7 _ := hr.mono (by decide)
    refine ⟨_, pss_cons (ps_set (i := 1) scLaw.nd rfl (Or.inl rfl) (pe_fn Cw hr3 (pa_cons (pv 0) (pa_cons (pe_int) pa_nil))))
      (pss_cons (ps_setC (i := 2) (M := ["script", "world", "wishes", "houses", "places", "comer", "house", "many", "handed", "found", "k", "rows"]) scLaw.nd rfl (Or.inl rfl) ⟨by rfl, by rfl, by rfl, by rfl, by rfl, by rfl, by decide +kernel⟩ (by rfl) (pi_list (pe_ix ix_tup (pv 1) (pe_int) (fun _ _ => rfl))) (fun B => pts_nil) (fun B => pe_callTy call_list_of (by rfl) T.b.list PyProof.Rows.Boot.«list» (pa_cons (pv 0) pa_nil)))
      (pss_cons (ps_set (i := 3) scLaw.nd rfl (Or.inl rfl) (pe_fn Chs hr3 (pa_cons (pe_ix ix_tup (pv 1) (pe_int) (fun _ _ => rfl)) pa_nil)))
      (pss_cons (ps_set (i := 4) scLaw.nd rfl (Or.inl rfl) (pe_fn Cg hr7 (pa_cons (pe_comp (M := ["script", "world", "wishes", "houses", "places", "comer", "house", "many", "handed", "found", "k", "rows"]) ⟨by rfl, by rfl, by rfl, by rfl, by rfl, by rfl, by decide +kernel⟩ (by rfl) (pi_list (pv 2)) (fun B => pts_nil) (fun B => pe_callTy call_list_of (by rfl) T.b.list PyProof.Rows.Boot.«list» (pa_cons (pv 0) pa_nil))) (pa_cons (pv 3) pa_nil))))
      (pss_mid (ps_if (pt_cmpR op_eq (pe_op op_mod (pe_fn Cc hr1 (pa_cons (pv 0) (pa_cons (pe_int) pa_nil))) (pe_int)) (pe_int) (nomark _)) (pss_cons (ps_set (i := 5) scLaw.nd rfl (Or.inl rfl) (pe_op op_mod (pe_fn Cc hr1 (pa_cons (pv 0) (pa_cons (pe_int) pa_nil))) (pe_len T.b call_len_seq (pv 4))))
        (pss_cons (ps_set (i := 4) scLaw.nd rfl (Or.inl rfl) (pe_callTy call_list_of (by rfl) T.b.list PyProof.Rows.Boot.«list» (pa_cons (pe_ix ix_tup (pe_fn Cgo hr (pa_cons (pe_comp (M := ["script", "world", "wishes", "houses", "places", "comer", "house", "many", "handed", "found", "k", "rows"]) ⟨by rfl, by rfl, by rfl, by rfl, by rfl, by rfl, by decide +kernel⟩ (by rfl) (pi_list (pv 2)) (fun B => pts_nil) (fun B => pe_callTy call_list_of (by rfl) T.b.list PyProof.Rows.Boot.«list» (pa_cons (pv 0) pa_nil))) (pa_cons (pv 3) (pa_cons (pv 4) (pa_cons (pv 5) pa_nil))))) (pe_int) (fun _ _ => rfl)) pa_nil)))
        (pss_one (ps_asg (pe_lst pa_nil) (pg_sub (pv 2) (pv 5) set_list))))) pss_nil)
      (pss_cons (ps_set (i := 6) scLaw.nd rfl (Or.inl rfl) (pe_op op_mod (pe_fn Cc hr1 (pa_cons (pv 0) (pa_cons (pe_int) pa_nil))) (pe_len T.b call_len_seq (pv 3))))
      (pss_cons (ps_set (i := 7) scLaw.nd rfl (Or.inl rfl) (pe_op op_mod (pe_fn Cc hr1 (pa_cons (pv 0) (pa_cons (pe_int) pa_nil))) (pe_int)))
      (pss_cons (ps_set (i := 8) scLaw.nd rfl (Or.inl rfl) (pe_lst (pa_cons (pe_comp (M := ["script", "world", "wishes", "houses", "places", "comer", "house", "many", "handed", "found", "k", "rows"]) ⟨by rfl, by rfl, by rfl, by rfl, by rfl, by rfl, by decide +kernel⟩ (by rfl) (pi_list (pv 2)) (fun B => pts_nil) (fun B => pe_callTy call_list_of (by rfl) T.b.list PyProof.Rows.Boot.«list» (pa_cons (pv 0) pa_nil))) (pa_cons (pe_callTy call_list_of (by rfl) T.b.list PyProof.Rows.Boot.«list» (pa_cons (pv 3) pa_nil)) (pa_cons (pe_callTy call_list_of (by rfl) T.b.list PyProof.Rows.Boot.«list» (pa_cons (pv 4) pa_nil)) pa_nil)))))
      (pss_cons (ps_set (i := 9) scLaw.nd rfl (Or.inl rfl) (pe_fn Cmo hr (pa_cons (pe_ix ix_list (pv 8) (pe_int) (fun _ _ => rfl)) (pa_cons (pe_ix ix_list (pv 8) (pe_int) (fun _ _ => rfl)) (pa_cons (pe_ix ix_list (pv 8) (pe_int) (fun _ _ => rfl)) (pa_cons (pv 6) (pa_cons (pv 7) pa_nil)))))))
      (pss_cons (ps_if ((pw_or (pt_cmpR (op_neD hr) (pe_ix ix_list (pv 8) (pe_int) (fun _ _ => rfl)) (pv 2) (nomark _)) (pw_or (pt_cmpR (op_neD hr) (pe_ix ix_list (pv 8) (pe_int) (fun _ _ => rfl)) (pv 4) (nomark _)) (pw_or1 (pt_cmpR op_ne (pe_len T.b call_len_seq (pe_ix ix_list (pv 8) (pe_int) (fun _ _ => rfl))) (pe_len T.b call_len_seq (pv 3)) (nomark _))))).pt) pss_never pss_nil)
      (pss_cons (ps_for PassesOwn.never (by rfl) (pi_range1 (by rfl) T.b.range (pa_cons (pe_len T.b call_len_seq (pv 3)) pa_nil)) (pg_name (i := 10) scLaw.nd rfl (Or.inl rfl))
        (pss_one (ps_if (pt_cmpR op_ne (pe_fld (pe_ix ix_list (pe_ix ix_list (pv 8) (pe_int) (fun _ _ => rfl)) (pv 10) (fun _ _ => rfl)) rfl) (pe_ix ix_tup (pe_ix ix_list (pe_ix ix_tup (pv 1) (pe_int) (fun _ _ => rfl)) (pv 10) (fun _ _ => rfl)) (pe_int) (fun _ _ => rfl)) (nomark _)) pss_never pss_nil)))
      (pss_cons (ps_expr (pe_bm0 PySem.F.plainAttrs_list PySem.F.slot_list_clear PySem.F.type_list_clear mt_clear (pe_ix ix_list (pv 8) (pe_int) (fun _ _ => rfl))))
      (pss_cons (ps_set (i := 11) scLaw.nd rfl (Or.inl rfl) (pe_callTy call_list_of (by rfl) T.b.list PyProof.Rows.Boot.«list» (pa_cons (pe_ix ix_tup (pv 1) (pe_int) (fun _ _ => rfl)) pa_nil)))
      (pss_cons (ps_asg (pe_op op_catT (pe_tup (pa_cons (pe_op op_add (pe_ix ix_tup (pe_ix ix_list (pv 11) (pv 6) (fun _ _ => rfl)) (pe_int) (fun _ _ => rfl)) (pv 7)) (pa_cons (pe_ix ix_tup (pe_ix ix_list (pv 11) (pv 6) (fun _ _ => rfl)) (pe_int) (fun _ _ => rfl)) pa_nil))) (pe_slice sl_tup (pe_ix ix_list (pv 11) (pv 6) (fun _ _ => rfl)) (po_some (pe_int)) po_none)) (pg_sub (pv 11) (pv 6) set_list))
      (pss_cons (ps_if (pt_not (pt_val (pe_fn Cyr hr5 (pa_cons (pv 9) (pa_cons (pv 2) (pa_cons (pv 11) (pa_cons (pv 4) pa_nil))))))) pss_never pss_nil)
      (pss_one (ps_ret (pe_fn Cnw hr2 (pa_cons (pv 2) (pa_cons (pv 4) (pa_cons (pe_ix ix_tup (pv 9) (pe_int) (fun _ _ => rfl)) (pa_cons (pe_non) pa_nil))))))))))))))))))))), ?_⟩
    refine ⟨_, rfl, a, ns, 5, rfl, hS, by decide, by decide, fun p wa r was ras wss Rs n h H1 s1 e1 e2 e3 pw pr ew eR n1 n2 h1 h2 gR gw => ?_⟩
    have hwl : was.length = wss.length := Paired.length pw
    have hrl : ras.length = Rs.length := Paired.length pr
    have hgood : ∀ R ∈ Rs, Good R n := fun R hR => (gR R hR).1
    refine ⟨_, rfl, p, _, _, _, rfl, rfl, SqT.of e1, atI_nat (j := 0) rfl, wa, rfl, ⟨_, SqL.of e2⟩, comp_copy (by (first | lia | omega)) (SqL.of e2) pw (fun B b ws H N1 e k => ⟨_, rfl, b, _, rfl, .inl (SqL.of e), k⟩) fun cas H2 lw s2 nlw1 elw2 pc2 ecas => ?_⟩
    · skip
      refine ⟨_, rfl, p, _, _, _, rfl, rfl, SqT.of (s2 _ _ e1), atI_nat (j := 1) rfl, r, ras, Rs, rfl, SqL.of (s2 _ _ e3), Paired.mapP pr fun _ _ z => RowAt.up s2 z, fun R hR => (gR R hR).1.ks, by (first | lia | omega), fun lh has H3 s3 nlh elh ph => ?_⟩
      have hhl : has.length = Rs.length := Paired.length ph
      have elw3 := s3 _ _ elw2
      have pc3 := Paired.mapP pc2 fun _ _ z => WishAt.up s3 z
      refine ⟨_, rfl, lw, rfl, ⟨_, SqL.of elw3⟩, comp_copy (by (first | lia | omega)) (SqL.of elw3) pc3 (fun B b ws H N1 e k => ⟨_, rfl, b, _, rfl, .inl (SqL.of e), k⟩) fun das H4 lv s4 nlv elv pdas edas => ?_⟩
      · skip
        refine ⟨_, rfl, lv, lh, das, has, wss, Rs, rfl, SqL.of elv, pdas, SqL.of (s4 _ _ elh), Paired.mapP ph fun _ _ z => HouseAt.up s4 z, by (first | lia | omega), by (first | lia | omega), by (first | lia | omega), by rw [ew]; exact hgood, by rw [eR]; exact gw, fun m1 ps1 H5 s5 nm1 em1 hl1 f1 b1 => ?_⟩
        have s35 := s4.trans s5
        have s15 := s2.trans (s3.trans s35)
        have elw5 := s35 _ _ elw3
        have pc5 := Paired.mapP pc3 fun _ _ z => WishAt.up s35 z
        have elh5 := s35 _ _ elh
        have ph5 := Paired.mapP ph fun _ _ z => HouseAt.up s35 z
        have nlwh : lw ≠ lh := ne_of_none elw2 nlh
        clear s2 s3 s4 s5 s35 pdas elw2 elw3 pc2 pc3 elh ph
        refine ⟨Mid13 C a p lw lh has Rs n h H1, ?_, ?_⟩
        · refine ⟨_, rfl, a, ns, _, rfl, (s1.trans s15).seq hS, by decide, _, _, rfl, rfl, (by show (0 : Int) < 2; decide), rfl, _, rfl, ?_⟩
          refine ite2 (fun _ => ?_) (fun _ => ⟨m1, _, cas, wss, ps1, rfl, s15, elw5, pc5, ew, gw, elh5, ph5, em1, by (first | lia | omega), f1⟩)
          refine ⟨_, rfl, a, ns, _, rfl, (s1.trans s15).seq hS, by decide, _, rfl, m1, _, rfl, .inl (SqL.of em1), ?_⟩
          rw [List.length_map, hl1, ew]
          refine ⟨_, _, rfl, rfl, (by (first | lia | omega) : (0 : Int) < (n : Int)), ?_⟩
          dsimp only
          refine mod_elim (c := cellAt ns 23) (n := n) (by (first | lia | omega)) fun k ek hk => ?_
          rw [ek]
          refine ⟨_, rfl, lw, rfl, ⟨_, SqL.of elw5⟩, comp_copy (by (first | lia | omega)) (SqL.of elw5) pc5 (fun B b ws H N1 e k => ⟨_, rfl, b, _, rfl, .inl (SqL.of e), k⟩) fun eas H6 lx s6 nlx elx6 pe6 eeas => ?_⟩
          · skip
            have XH : Hll K C H6 lx lh m1 wss Rs ps1 := ⟨⟨eas, SqL.of elx6, pe6⟩, ⟨has, SqL.of (s6 _ _ elh5), Paired.mapP ph5 fun _ _ z => HouseAt.up s6 z⟩, SqL.of (s6 _ _ em1), by (first | lia | omega), by (first | lia | omega), by (first | lia | omega), by rw [hl1, ew]; exact hgood, by rw [eR]; exact gw⟩
            refine ⟨_, rfl, _, rfl, _, rfl, lx, lh, m1, wss, Rs, ps1, k, rfl, XH, by (first | lia | omega), f1, fun m2 H7 s7 hG => ?_⟩
            refine hG.elim fun lm ls sas S g1 g2 g3 g4 g5 g6 g7 mv => ?_
            refine ⟨m2, _, _, _, rfl, rfl, SqT.of g1, atI_nat (j := 0) rfl, lm, _, rfl, .inl (SqL.of g2), fun lp nlp => ?_⟩
            have s57 := s6.trans s7
            have s8 := s57.up (o := .lst ((walkL S (ps1.set k none)).map encO)) nlp
            have elp8 : upd H7 lp (.lst ((walkL S (ps1.set k none)).map encO)) lp = some (.lst ((walkL S (ps1.set k none)).map encO)) := upd_same
            generalize upd H7 lp (.lst ((walkL S (ps1.set k none)).map encO)) = H8 at s8 elp8 ⊢
            refine ⟨Nat.zero_le _, fun le nle => ?_⟩
            have s9 : Same H8 (upd H8 le (.lst [])) := Same.new nle
            have elw9 := s9 _ _ (s8 _ _ elw5)
            refine ⟨_, rfl, _, rfl, lw, _, _, k, rfl, rfl, elw9, ?_, ?_⟩
            · have := ix_in (n := (cas.map V.ref).length) (c := (k : Int)) (by (first | lia | omega)) (by rw [List.length_map]; (first | lia | omega))
              rwa [Int.toNat_natCast] at this
            rw [show (cas.map V.ref).set k (V.ref le) = (cas.set k le).map V.ref by rw [List.map_set]]
            have hwk := walk_len S (ps1.set k none)
            rw [List.length_set] at hwk
            have s59 := s8.trans s9
            have nel : le ≠ lw := (ne_of_none (s8 _ _ elw5) nle).symm
            have npl : lp ≠ lw := (ne_of_none (s57 _ _ elw5) nlp).symm
            refine ⟨lp, _, cas.set k le, wss.set k [], walkL S (ps1.set k none), rfl, (s15.trans s59).wr nlw1, upd_same, ?_, by rw [List.length_set]; exact ew, good_set gw, ?_, ?_, ?_, by (first | lia | omega), mv.fair⟩
            · refine Paired.set (show WishAt _ le [] from ?_) k (Paired.mapP pc5 fun b ws z => WishAt.off elw9 (by (first | lia | omega)) (WishAt.up s59 z))
              show upd _ lw _ le = _
              rw [upd_ne nel, upd_same]
              rfl
            · rw [upd_ne nlwh.symm]
              exact s59 _ _ elh5
            · refine paired_mem (Paired.mapP ph5 fun _ _ z => HouseAt.up s59 z) fun b R hR z => HouseAt.off (hgood R hR) n1 elw9 (by (first | lia | omega)) z
            · rw [upd_ne npl]
              exact s9 _ _ elp8
        clear f1 b1 em1 hl1 elw5 pc5 elh5 ph5 s15 nm1 ps1 gw ew hwl ecas edas
        refine fun σ H6 mid => mid.elim fun lp v5 cas wss ps eσ s16 elw pc ew gw elh ph elp eps fr => ?_
        subst eσ
        have e16 := s16 _ _ e1
        have e36 := s16 _ _ e3
        have pr6 := Paired.mapP pr fun _ _ z => RowAt.up s16 z
        have hS6 : SqL K H6 a (ns.map V.int) := (s1.trans s16).seq hS
        have hcl : cas.length = n := (Paired.length pc).trans ew
        have hgw : ∀ ws ∈ wss, WGood Rs.length ws := by rw [eR]; exact gw
        clear s1 s16 e1 e3 pr hS
        refine ⟨_, rfl, a, ns, _, rfl, hS6, by decide, _, rfl, lh, _, rfl, .inl (SqL.of elh), ?_⟩
        rw [List.length_map, hhl, eR]
        refine ⟨_, _, rfl, rfl, (by (first | lia | omega) : (0 : Int) < (h : Int)), ?_⟩
        dsimp only
        refine mod_elim (c := cellAt ns 20) (n := h) (by (first | lia | omega)) fun k ek hk => ?_
        rw [ek]
        refine ⟨_, rfl, a, ns, _, rfl, hS6, by decide, _, _, rfl, rfl, (by show (0 : Int) < 5; decide), ?_⟩
        dsimp only
        have hm0 : 0 ≤ cellAt ns 21 % 5 := Int.emod_nonneg _ (by decide)
        generalize cellAt ns 21 % 5 = many at hm0 ⊢
        refine ⟨_, rfl, lw, rfl, ⟨_, SqL.of elw⟩, comp_copy (by (first | lia | omega)) (SqL.of elw) pc (fun B b ws H N1 e k => ⟨_, rfl, b, _, rfl, .inl (SqL.of e), k⟩) fun das H7 lu s7 nlu elu7 pd7 edas => ?_⟩
        · skip
          refine ⟨_, rfl, lh, _, rfl, .inl (SqL.of (s7 _ _ elh)), fun lg nlg => ?_⟩
          have s8 := s7.up (o := .lst (has.map V.ref)) nlg
          have elg8 : upd H7 lg (.lst (has.map V.ref)) lg = some (.lst (has.map V.ref)) := upd_same
          have s78 : Same H7 (upd H7 lg (.lst (has.map V.ref))) := Same.new nlg
          generalize upd H7 lg (.lst (has.map V.ref)) = H8 at s8 elg8 s78 ⊢
          refine ⟨_, rfl, lp, _, rfl, .inl (SqL.of (s8 _ _ elp)), fun lt nlt => ?_⟩
          have s9 := s8.up (o := .lst (ps.map encO)) nlt
          have elt9 : upd H8 lt (.lst (ps.map encO)) lt = some (.lst (ps.map encO)) := upd_same
          have s89 : Same H8 (upd H8 lt (.lst (ps.map encO))) := Same.new nlt
          have nlt6 : H6 lt = none := s8.free nlt
          generalize upd H8 lt (.lst (ps.map encO)) = H9 at s9 elt9 s89 ⊢
          refine ⟨fits (Nat.le_of_ble_eq_true rfl), fun lhd nlhd => ?_⟩
          have s10 := s9.up (o := .lst [.ref lu, .ref lg, .ref lt]) nlhd
          have ehd : upd H9 lhd (.lst [.ref lu, .ref lg, .ref lt]) lhd = some (.lst [.ref lu, .ref lg, .ref lt]) := upd_same
          have s910 : Same H9 (upd H9 lhd (.lst [.ref lu, .ref lg, .ref lt])) := Same.new nlhd
          generalize upd H9 lhd (.lst [.ref lu, .ref lg, .ref lt]) = Ha at s10 ehd s910 ⊢
          have elu := s910 _ _ (s89 _ _ (s78 _ _ elu7))
          have pd := Paired.mapP pd7 fun _ _ z => WishAt.up ((s78.trans s89).trans s910) z
          have elg := s910 _ _ (s89 _ _ elg8)
          have elt := s910 _ _ elt9
          clear s7 s8 s9 s78 s89 s910 elu7 pd7 elg8 elt9
          have hn24 : n ≤ 24 := by (first | lia | omega)
          have XH : Hll K C Ha lu lg lt wss Rs ps := ⟨⟨das, SqL.of elu, pd⟩, ⟨has, SqL.of elg, Paired.mapP ph fun _ _ z => HouseAt.up s10 z⟩, SqL.of elt, by (first | lia | omega), by (first | lia | omega), by (first | lia | omega), by rw [eps]; exact hgood, hgw⟩
          have i0 : ∀ {H' : Hp}, H' lhd = some (.lst [.ref lu, .ref lg, .ref lt]) → True := fun _ => trivial
          refine ⟨_, rfl, lhd, _, _, _, rfl, rfl, SqL.of ehd, atI_nat (j := 0) rfl, _, rfl, lhd, _, _, _, rfl, rfl, SqL.of ehd, atI_nat (j := 1) rfl, _, rfl, lhd, _, _, _, rfl, rfl, SqL.of ehd, atI_nat (j := 2) rfl, _, rfl, _, rfl, lu, lg, lt, wss, Rs, ps, k, many, rfl, XH, by (first | lia | omega), hm0, fr, fun m Hb sb hG => ?_⟩
          refine hG.elim fun lm ls sas S g1 g2 g3 g4 g5 g6 g7 mv => ?_
          have s6b := s10.trans sb
          refine ⟨_, rfl, lhd, _, _, _, rfl, rfl, SqL.of (sb _ _ ehd), atI_nat (j := 0) rfl, _, rfl, wsD wss, wsD wss, .list (SqL.of (sb _ _ elu)) (den_wishes (Paired.mapP pd fun _ _ z => WishAt.up sb z)), .list (SqL.of (s6b _ _ elw)) (den_wishes (Paired.mapP pc fun _ _ z => WishAt.up s6b z)), lay_ws wss, lay_ws wss, ?_, _, rfl, ?_⟩
          · have := depth_ws wss
            (first | lia | omega)
          rw [eqv_ws]
          refine iteF ?_
          refine ⟨_, rfl, lhd, _, _, _, rfl, rfl, SqL.of (sb _ _ ehd), atI_nat (j := 2) rfl, _, rfl, .list (ps.map encD), .list (ps.map encD), .list (SqL.of (sb _ _ elt)) (den_opt _), .list (SqL.of (s6b _ _ elp)) (den_opt _), lay_opt _, lay_opt _, ?_, _, rfl, ?_⟩
          · have := depth_opt ps
            (first | lia | omega)
          rw [eqv_opt, decide_eq_true rfl]
          refine iteF ?_
          refine ⟨_, rfl, lhd, _, _, _, rfl, rfl, SqL.of (sb _ _ ehd), atI_nat (j := 1) rfl, lg, _, rfl, .inl (SqL.of (sb _ _ elg)), _, rfl, lh, _, rfl, .inl (SqL.of (s6b _ _ elh)), rfl, _, rfl, ?_⟩
          refine iteNS rfl ?_
          refine ⟨_, rfl, lh, _, rfl, .inl (SqL.of (s6b _ _ elh)), ?_⟩
          rw [List.length_map, hhl]
          refine ⟨(Rs.length : Nat), rfl, by (first | lia | omega), by (first | lia | omega), for_range (n := Rs.length) (fun i σ Hc => Hc = Hb ∧ ∃ v10, σ = [some (.ref a), some (.ref p), some (.ref lw), some (.ref lh), some (.ref lp), v5, some (.int k), some (.int many), some (.ref lhd), some (.ref m), v10, none]) ⟨rfl, none, rfl⟩ ?_ ?_⟩
          · rintro i σ Hc hi ⟨rfl, v10, rfl⟩
            refine ex_elim2 (Paired.at_ ph (List.getElem?_eq_getElem hi)) fun ha eha hha => ?_
            refine ex_elim2 (Paired.at_ pr6 (List.getElem?_eq_getElem hi)) fun ra era hra => ?_
            have hath : atI (has.map V.ref) (0 + (i : Int)) = some (.ref ha) := by rw [Int.zero_add]; exact at_ref eha
            have hatr : atI (ras.map V.ref) (0 + (i : Int)) = some (.ref ra) := by rw [Int.zero_add]; exact at_ref era
            refine house_elim (hha.up s6b) fun dx _ _ _ ehx => ?_
            obtain ⟨_, _, _, r1, _⟩ := hra.up s6b
            refine ⟨_, rfl, lhd, _, _, _, rfl, rfl, SqL.of (sb _ _ ehd), atI_nat (j := 1) rfl, _, rfl, lg, _, _, _, rfl, rfl, SqL.of (sb _ _ elg), hath, ha, C, dx, _, _, rfl, ehx, T.cls, T.n1, rfl, _, rfl, p, _, _, _, rfl, rfl, SqT.of (s6b _ _ e16), atI_nat (j := 1) rfl, _, rfl, r, _, _, _, rfl, rfl, SqL.of (s6b _ _ e36), hatr, ra, _, _, _, rfl, rfl, SqT.of r1, atI_nat (j := 0) rfl, rfl, _, rfl, ?_⟩
            exact iteNS rfl ⟨rfl, _, rfl⟩
          · rintro σ Hc ⟨rfl, v10, rfl⟩
            have eltb := sb _ _ elt
            refine ⟨_, rfl, lhd, _, _, _, rfl, rfl, SqL.of (sb _ _ ehd), atI_nat (j := 2) rfl, .inl ⟨rfl, _, SqL.of eltb⟩, lt, _, rfl, rfl, eltb, ?_⟩
            have s6d : Same H6 (upd Hc lt (.lst [])) := s6b.wr nlt6
            have k6 : ∀ {b : Addr} {o : HO}, Ha b = none → Hc b = some o → upd Hc lt (.lst []) b = some o := fun {b o} n e => by
              rw [upd_ne (ne_of_none elt n).symm]
              exact e
            have g1' := k6 g5 g1
            have g2' := k6 g6 g2
            have g3' := k6 g7 g3
            have g4' : Paired (StepAt (upd Hc lt (.lst []))) sas S := Paired.mapP g4 fun a u z => by
              have z : Hc a = some (.tup [.int u.1, encO u.2.1, .int u.2.2]) := z
              show upd Hc lt (.lst []) a = _
              rw [upd_ne (fun e => by rw [e, eltb] at z; cases z)]
              exact z
            generalize upd Hc lt (.lst []) = Hd at s6d g1' g2' g3' g4' ⊢
            clear g1 g2 g3 g4 k6
            refine ⟨_, rfl, p, _, _, _, rfl, rfl, SqT.of (s6d _ _ e16), atI_nat (j := 1) rfl, r, _, rfl, .inl (SqL.of (s6d _ _ e36)), fun lq nlq => ?_⟩
            have sde : Same Hd (upd Hd lq (.lst (ras.map V.ref))) := Same.new nlq
            have elq : upd Hd lq (.lst (ras.map V.ref)) lq = some (.lst (ras.map V.ref)) := upd_same
            generalize upd Hd lq (.lst (ras.map V.ref)) = He at sde elq ⊢
            have s6e := s6d.trans sde
            have hkR : k < Rs.length := by (first | lia | omega)
            refine at_elim pr6 hkR fun ra era hra => ?_
            refine hra.elim fun rp rk rt y1 y2 y3 y4 => ?_
            have r1 := s6e _ _ y1
            have hatq : atI (ras.map V.ref) (k : Int) = some (.ref ra) := at_ref era
            refine ⟨_, rfl, _, rfl, lq, _, _, _, rfl, rfl, SqL.of elq, hatq, ra, _, _, _, rfl, rfl, SqT.of r1, atI_nat (j := 0) rfl, _, rfl, _, _, rfl, rfl, _, rfl, _, rfl, lq, _, _, _, rfl, rfl, SqL.of elq, hatq, ra, _, _, _, rfl, rfl, SqT.of r1, atI_nat (j := 1) rfl, fits (Nat.le_of_ble_eq_true rfl), fun t1 nt1 => ?_⟩
            have st1 := (Same.new (o := .tup [.int (Rs[k].seats + many), .int Rs[k].kept]) nt1)
            refine ⟨_, rfl, _, rfl, lq, _, _, _, rfl, rfl, SqL.of (st1 _ _ elq), hatq, 2, rfl, ra, _, rfl, SqT.of (st1 _ _ r1), cut7n, fun t2 nt2 => ?_⟩
            rw [cut7]
            have st2 := st1.up (o := .tup [.int Rs[k].kind, .bl Rs[k].opened, .ref rp, .ref rk, .ref rt]) nt2
            refine ⟨t1, t2, _, _, rfl, rfl, SqT.of ((Same.new nt2) _ _ upd_same), SqT.of upd_same, (fun z => nomatch z), fits (Nat.le_of_ble_eq_true rfl), (fun z => nomatch z), fun _ t3 nt3 => ?_⟩
            have st3 := st2.up (o := .tup [.int (Rs[k].seats + many), .int Rs[k].kept, .int Rs[k].kind, .bl Rs[k].opened, .ref rp, .ref rk, .ref rt]) nt3
            have et3 : upd (upd (upd He t1 (.tup [.int (Rs[k].seats + many), .int Rs[k].kept])) t2 (.tup [.int Rs[k].kind, .bl Rs[k].opened, .ref rp, .ref rk, .ref rt])) t3 (.tup [.int (Rs[k].seats + many), .int Rs[k].kept, .int Rs[k].kind, .bl Rs[k].opened, .ref rp, .ref rk, .ref rt]) t3 = some (.tup [.int (Rs[k].seats + many), .int Rs[k].kept, .int Rs[k].kind, .bl Rs[k].opened, .ref rp, .ref rk, .ref rt]) := upd_same
            have nt3q : t3 ≠ lq := (ne_of_none (st2 _ _ elq) nt3).symm
            refine ⟨_, rfl, _, rfl, lq, _, _, k, rfl, rfl, st3 _ _ elq, ?_, ?_⟩
            · have := ix_in (n := (ras.map V.ref).length) (c := (k : Int)) (by (first | lia | omega)) (by rw [List.length_map]; (first | lia | omega))
              rwa [Int.toNat_natCast] at this
            rw [show (ras.map V.ref).set k (V.ref t3) = (ras.set k t3).map V.ref by rw [List.map_set]]
            dsimp only [List.cons_append, List.nil_append]
            have sdf : Same Hd (upd (upd (upd (upd He t1 (.tup [.int (Rs[k].seats + many), .int Rs[k].kept])) t2 (.tup [.int Rs[k].kind, .bl Rs[k].opened, .ref rp, .ref rk, .ref rt])) t3 (.tup [.int (Rs[k].seats + many), .int Rs[k].kept, .int Rs[k].kind, .bl Rs[k].opened, .ref rp, .ref rk, .ref rt])) lq (.lst ((ras.set k t3).map V.ref))) := (sde.trans st3).wr nlq
            have elqf : upd (upd (upd (upd He t1 (.tup [.int (Rs[k].seats + many), .int Rs[k].kept])) t2 (.tup [.int Rs[k].kind, .bl Rs[k].opened, .ref rp, .ref rk, .ref rt])) t3 (.tup [.int (Rs[k].seats + many), .int Rs[k].kept, .int Rs[k].kind, .bl Rs[k].opened, .ref rp, .ref rk, .ref rt])) lq (.lst ((ras.set k t3).map V.ref)) lq = some (.lst ((ras.set k t3).map V.ref)) := upd_same
            have et3f : upd (upd (upd (upd He t1 (.tup [.int (Rs[k].seats + many), .int Rs[k].kept])) t2 (.tup [.int Rs[k].kind, .bl Rs[k].opened, .ref rp, .ref rk, .ref rt])) t3 (.tup [.int (Rs[k].seats + many), .int Rs[k].kept, .int Rs[k].kind, .bl Rs[k].opened, .ref rp, .ref rk, .ref rt])) lq (.lst ((ras.set k t3).map V.ref)) t3 = some (.tup [.int (Rs[k].seats + many), .int Rs[k].kept, .int Rs[k].kind, .bl Rs[k].opened, .ref rp, .ref rk, .ref rt]) := by rw [upd_ne nt3q]; exact et3
            generalize upd (upd (upd (upd He t1 (.tup [.int (Rs[k].seats + many), .int Rs[k].kept])) t2 (.tup [.int Rs[k].kind, .bl Rs[k].opened, .ref rp, .ref rk, .ref rt])) t3 (.tup [.int (Rs[k].seats + many), .int Rs[k].kept, .int Rs[k].kind, .bl Rs[k].opened, .ref rp, .ref rk, .ref rt])) lq (.lst ((ras.set k t3).map V.ref)) = Hf at sdf elqf et3f ⊢
            have s6f := s6d.trans sdf
            have hrow : RowAt Hf t3 ((rowOf Rs (k : Int)).plusSeats many) := by
              rw [row_at hkR]
              exact ⟨_, _, _, et3f, s6f _ _ y2, s6f _ _ y3, s6f _ _ y4⟩
            have XY : Wld K Hf lw lq lp wss (Rs.set k ((rowOf Rs (k : Int)).plusSeats many)) ps := ⟨⟨cas, SqL.of (s6f _ _ elw), Paired.mapP pc fun _ _ z => WishAt.up s6f z⟩, ⟨_, SqL.of elqf, Paired.set hrow k (Paired.mapP pr6 fun _ _ z => RowAt.up s6f z)⟩, SqL.of (s6f _ _ elp), by (first | lia | omega), by (first | lia | omega), by rw [List.length_set]; (first | lia | omega), good_more hm0 hkR (by rw [eps]; exact hgood), by rw [List.length_set]; exact hgw⟩
            refine ⟨_, rfl, _, rfl, _, rfl, _, rfl, m, lw, lq, lp, lm, ls, wss, _, ps, sas, S, rfl, XY, sdf _ _ g1', sdf _ _ g2', sdf _ _ g3', Paired.mapP g4' fun _ _ z => StepAt.up sdf z, mv, fun Hg sg => ⟨true, rfl, ?_⟩⟩
            refine iteF ?_
            have s6g := s6f.trans sg
            have sdg := sdf.trans sg
            have hwk := walk_len S ps
            refine ⟨_, rfl, _, rfl, _, rfl, m, _, _, _, rfl, rfl, SqT.of (sdg _ _ g1'), atI_nat (j := 0) rfl, lw, lp, lm, cas, wss, ps, walkL S ps, none, rfl, SqL.of (s6g _ _ elw), Paired.mapP pc fun _ _ z => WishAt.up s6g z, SqL.of (s6g _ _ elp), SqL.of (sdg _ _ g2'), by (first | lia | omega), by (first | lia | omega), by (first | lia | omega), fun ws hws => ?_, fun c h0 h1 _ => mv.up c h0 h1, fun Hh sh => q _⟩
            refine And.elim (fun a1 a2 => ?_) (gw ws hws)
            exact Nat.le_trans (good_len a1 a2) (by (first | lia | omega))
end
end K13

set_option Elab.async false
set_option linter.all false
set_option maxRecDepth 100000
set_option maxHeartbeats 4000000
namespace K13
open PySem L2 Hse
theorem all_mk {l : PySem.W.OpenLaw} {w : World} {K : PySem.W.Frag} {h : Heap} {mg : Str → Option Value} {fa : Addr} (X : K.In h) (G : h.Ns mainGlobals mg) (hfa : mg "law" = some (.ref fa))
    {C : Addr}
    {fm1 : Addr} {odm1 anm1 : Option Addr} {slm1 : Array (Option Value)} {ocm1 kVm1 dcm1 pmm1 cdm1 ctm1 : Value}
    {fm2 : Addr} {odm2 anm2 : Option Addr} {slm2 : Array (Option Value)} {ocm2 kVm2 dcm2 pmm2 cdm2 ctm2 : Value}
    {fm3 : Addr} {odm3 anm3 : Option Addr} {slm3 : Array (Option Value)} {ocm3 kVm3 dcm3 pmm3 cdm3 ctm3 : Value}
    {fm4 : Addr} {odm4 anm4 : Option Addr} {slm4 : Array (Option Value)} {ocm4 kVm4 dcm4 pmm4 cdm4 ctm4 : Value}
    {fm5 : Addr} {odm5 anm5 : Option Addr} {slm5 : Array (Option Value)} {ocm5 kVm5 dcm5 pmm5 cdm5 ctm5 : Value}
    {fm6 : Addr} {odm6 anm6 : Option Addr} {slm6 : Array (Option Value)} {ocm6 kVm6 dcm6 pmm6 cdm6 ctm6 : Value}
    {fCell : Addr} {odCell anCell : Option Addr} {slCell : Array (Option Value)} {ocCell kVCell dcCell pmCell cdCell ctCell : Value}
    {fWhole : Addr} {odWhole anWhole : Option Addr} {slWhole : Array (Option Value)} {ocWhole kVWhole dcWhole pmWhole cdWhole ctWhole : Value}
    {fRow : Addr} {odRow anRow : Option Addr} {slRow : Array (Option Value)} {ocRow kVRow dcRow pmRow cdRow ctRow : Value}
    {fWishes : Addr} {odWishes anWishes : Option Addr} {slWishes : Array (Option Value)} {ocWishes kVWishes dcWishes pmWishes cdWishes ctWishes : Value}
    {fPoints : Addr} {odPoints anPoints : Option Addr} {slPoints : Array (Option Value)} {ocPoints kVPoints dcPoints pmPoints cdPoints ctPoints : Value}
    {fKind : Addr} {odKind anKind : Option Addr} {slKind : Array (Option Value)} {ocKind kVKind dcKind pmKind cdKind ctKind : Value}
    {fWorld : Addr} {odWorld anWorld : Option Addr} {slWorld : Array (Option Value)} {ocWorld kVWorld dcWorld pmWorld cdWorld ctWorld : Value}
    {fHouses : Addr} {odHouses anHouses : Option Addr} {slHouses : Array (Option Value)} {ocHouses kVHouses dcHouses pmHouses cdHouses ctHouses : Value}
    {fLRank : Addr} {odLRank anLRank : Option Addr} {slLRank : Array (Option Value)} {ocLRank kVLRank dcLRank pmLRank cdLRank ctLRank : Value}
    {fLChosen : Addr} {odLChosen anLChosen : Option Addr} {slLChosen : Array (Option Value)} {ocLChosen kVLChosen dcLChosen pmLChosen cdLChosen ctLChosen : Value}
    {fLHeld : Addr} {odLHeld anLHeld : Option Addr} {slLHeld : Array (Option Value)} {ocLHeld kVLHeld dcLHeld pmLHeld cdLHeld ctLHeld : Value}
    {fLRather : Addr} {odLRather anLRather : Option Addr} {slLRather : Array (Option Value)} {ocLRather kVLRather dcLRather pmLRather cdLRather ctLRather : Value}
    {fLPairs : Addr} {odLPairs anLPairs : Option Addr} {slLPairs : Array (Option Value)} {ocLPairs kVLPairs dcLPairs pmLPairs cdLPairs ctLPairs : Value}
    {fLFair : Addr} {odLFair anLFair : Option Addr} {slLFair : Array (Option Value)} {ocLFair kVLFair dcLFair pmLFair cdLFair ctLFair : Value}
    {fHeld : Addr} {odHeld anHeld : Option Addr} {slHeld : Array (Option Value)} {ocHeld kVHeld dcHeld pmHeld cdHeld ctHeld : Value}
    {fRather : Addr} {odRather anRather : Option Addr} {slRather : Array (Option Value)} {ocRather kVRather dcRather pmRather cdRather ctRather : Value}
    {fAskers : Addr} {odAskers anAskers : Option Addr} {slAskers : Array (Option Value)} {ocAskers kVAskers dcAskers pmAskers cdAskers ctAskers : Value}
    {fRefused : Addr} {odRefused anRefused : Option Addr} {slRefused : Array (Option Value)} {ocRefused kVRefused dcRefused pmRefused cdRefused ctRefused : Value}
    {fGranted : Addr} {odGranted anGranted : Option Addr} {slGranted : Array (Option Value)} {ocGranted kVGranted dcGranted pmGranted cdGranted ctGranted : Value}
    {fBoth : Addr} {odBoth anBoth : Option Addr} {slBoth : Array (Option Value)} {ocBoth kVBoth dcBoth pmBoth cdBoth ctBoth : Value}
    {fWaiting : Addr} {odWaiting anWaiting : Option Addr} {slWaiting : Array (Option Value)} {ocWaiting kVWaiting dcWaiting pmWaiting cdWaiting ctWaiting : Value}
    {fNext : Addr} {odNext anNext : Option Addr} {slNext : Array (Option Value)} {ocNext kVNext dcNext pmNext cdNext ctNext : Value}
    {fMoved : Addr} {odMoved anMoved : Option Addr} {slMoved : Array (Option Value)} {ocMoved kVMoved dcMoved pmMoved cdMoved ctMoved : Value}
    {fWithE : Addr} {odWithE anWithE : Option Addr} {slWithE : Array (Option Value)} {ocWithE kVWithE dcWithE pmWithE cdWithE ctWithE : Value}
    {fGone : Addr} {odGone anGone : Option Addr} {slGone : Array (Option Value)} {ocGone kVGone dcGone pmGone cdGone ctGone : Value}
    {fMore : Addr} {odMore anMore : Option Addr} {slMore : Array (Option Value)} {ocMore kVMore dcMore pmMore cdMore ctMore : Value}
    {fAlike : Addr} {odAlike anAlike : Option Addr} {slAlike : Array (Option Value)} {ocAlike kVAlike dcAlike pmAlike cdAlike ctAlike : Value}
    {fWalked : Addr} {odWalked anWalked : Option Addr} {slWalked : Array (Option Value)} {ocWalked kVWalked dcWalked pmWalked cdWalked ctWalked : Value}
    {fYear : Addr} {odYear anYear : Option Addr} {slYear : Array (Option Value)} {ocYear kVYear dcYear pmYear cdYear ctYear : Value}
    {fNoneW : Addr} {odNoneW anNoneW : Option Addr} {slNoneW : Array (Option Value)} {ocNoneW kVNoneW dcNoneW pmNoneW cdNoneW ctNoneW : Value}
    {fLaw : Addr} {odLaw anLaw : Option Addr} {slLaw : Array (Option Value)} {ocLaw kVLaw dcLaw pmLaw cdLaw ctLaw : Value}
    (aH : PySem.W.nsIn K mainGlobals "House" = some (some (.ref C))) (y1 : PySem.W.plainGet K C Str.empty = true) (y2 : PySem.W.hasDictIn K C = true) (y3 : PySem.W.plainOver K C = true) (y4 : PySem.W.findIn K (.ref C) "__setattr__" = some (some (.builtin "object.__setattr__")))
    (w1 : PySem.W.findIn K (.ref C) "seats" = some none)
    (w2 : PySem.W.findIn K (.ref C) "kept" = some none)
    (w3 : PySem.W.findIn K (.ref C) "kind" = some none)
    (w4 : PySem.W.findIn K (.ref C) "opened" = some none)
    (w5 : PySem.W.findIn K (.ref C) "points" = some none)
    (w6 : PySem.W.findIn K (.ref C) "kinds" = some none)
    (w7 : PySem.W.findIn K (.ref C) "row" = some none)
    (y5 : PySem.W.makesIn K C = true) (y6 : PySem.W.keepIn K (.ref C) = true)
    (am1 : PySem.W.findIn K (.ref C) "__init__" = some (some (.ref fm1))) (lm1 : K.lookup fm1 = some ⟨ocm1, odm1, .func (PySem.W.fnOf "__init__" "House.__init__" (defArgs sInit) (defBody sInit) (defScope sInit) .none kVm1 dcm1 pmm1 anm1 cdm1 ctm1), slm1⟩) (cm1 : PySem.W.codeIn K cdm1 "House.__init__" = true) (km1 : PySem.W.keepIn K (.ref fm1) = true) (im1 : PySem.W.isFn K (.ref fm1) = true)
    (am2 : PySem.W.findIn K (.ref C) "ranked" = some (some (.ref fm2))) (lm2 : K.lookup fm2 = some ⟨ocm2, odm2, .func (PySem.W.fnOf "ranked" "House.ranked" (defArgs sRanked) (defBody sRanked) (defScope sRanked) .none kVm2 dcm2 pmm2 anm2 cdm2 ctm2), slm2⟩) (cm2 : PySem.W.codeIn K cdm2 "House.ranked" = true) (km2 : PySem.W.keepIn K (.ref fm2) = true) (im2 : PySem.W.isFn K (.ref fm2) = true)
    (am3 : PySem.W.findIn K (.ref C) "rank_key" = some (some (.ref fm3))) (lm3 : K.lookup fm3 = some ⟨ocm3, odm3, .func (PySem.W.fnOf "rank_key" "House.rank_key" (defArgs sKey) (defBody sKey) (defScope sKey) .none kVm3 dcm3 pmm3 anm3 cdm3 ctm3), slm3⟩) (cm3 : PySem.W.codeIn K cdm3 "House.rank_key" = true) (km3 : PySem.W.keepIn K (.ref fm3) = true) (im3 : PySem.W.isFn K (.ref fm3) = true)
    (gm3 : PySem.W.specialIn K (.ref fm3) "__get__" = some (some (.builtin "function.__get__"))) (tm3 : PySem.W.takesIn K (.ref fm3) = some false)
    (am4 : PySem.W.findIn K (.ref C) "chosen" = some (some (.ref fm4))) (lm4 : K.lookup fm4 = some ⟨ocm4, odm4, .func (PySem.W.fnOf "chosen" "House.chosen" (defArgs sChosen) (defBody sChosen) (defScope sChosen) .none kVm4 dcm4 pmm4 anm4 cdm4 ctm4), slm4⟩) (cm4 : PySem.W.codeIn K cdm4 "House.chosen" = true) (km4 : PySem.W.keepIn K (.ref fm4) = true) (im4 : PySem.W.isFn K (.ref fm4) = true)
    (am5 : PySem.W.findIn K (.ref C) "seats_left" = some (some (.ref fm5))) (lm5 : K.lookup fm5 = some ⟨ocm5, odm5, .func (PySem.W.fnOf "seats_left" "House.seats_left" (defArgs sLeft) (defBody sLeft) (defScope sLeft) .none kVm5 dcm5 pmm5 anm5 cdm5 ctm5), slm5⟩) (cm5 : PySem.W.codeIn K cdm5 "House.seats_left" = true) (km5 : PySem.W.keepIn K (.ref fm5) = true) (im5 : PySem.W.isFn K (.ref fm5) = true)
    (am6 : PySem.W.findIn K (.ref C) "with_more" = some (some (.ref fm6))) (lm6 : K.lookup fm6 = some ⟨ocm6, odm6, .func (PySem.W.fnOf "with_more" "House.with_more" (defArgs sHMore) (defBody sHMore) (defScope sHMore) .none kVm6 dcm6 pmm6 anm6 cdm6 ctm6), slm6⟩) (cm6 : PySem.W.codeIn K cdm6 "House.with_more" = true) (km6 : PySem.W.keepIn K (.ref fm6) = true) (im6 : PySem.W.isFn K (.ref fm6) = true)
    (aCell : PySem.W.nsIn K mainGlobals "_law_cell_at" = some (some (.ref fCell))) (lCell : K.lookup fCell = some ⟨ocCell, odCell, .func (PySem.W.fnOf "_law_cell_at" "_law_cell_at" (defArgs sCell) (defBody sCell) (defScope sCell) .none kVCell dcCell pmCell anCell cdCell ctCell), slCell⟩) (cCell : PySem.W.codeIn K cdCell "_law_cell_at" = true) (kCell : PySem.W.keepIn K (.ref fCell) = true)
    (aWhole : PySem.W.nsIn K mainGlobals "_law_whole" = some (some (.ref fWhole))) (lWhole : K.lookup fWhole = some ⟨ocWhole, odWhole, .func (PySem.W.fnOf "_law_whole" "_law_whole" (defArgs sWhole) (defBody sWhole) (defScope sWhole) .none kVWhole dcWhole pmWhole anWhole cdWhole ctWhole), slWhole⟩) (cWhole : PySem.W.codeIn K cdWhole "_law_whole" = true) (kWhole : PySem.W.keepIn K (.ref fWhole) = true)
    (aRow : PySem.W.nsIn K mainGlobals "_law_row_by" = some (some (.ref fRow))) (lRow : K.lookup fRow = some ⟨ocRow, odRow, .func (PySem.W.fnOf "_law_row_by" "_law_row_by" (defArgs sRow) (defBody sRow) (defScope sRow) .none kVRow dcRow pmRow anRow cdRow ctRow), slRow⟩) (cRow : PySem.W.codeIn K cdRow "_law_row_by" = true) (kRow : PySem.W.keepIn K (.ref fRow) = true)
    (aWishes : PySem.W.nsIn K mainGlobals "_law_wishes_by" = some (some (.ref fWishes))) (lWishes : K.lookup fWishes = some ⟨ocWishes, odWishes, .func (PySem.W.fnOf "_law_wishes_by" "_law_wishes_by" (defArgs sWishes) (defBody sWishes) (defScope sWishes) .none kVWishes dcWishes pmWishes anWishes cdWishes ctWishes), slWishes⟩) (cWishes : PySem.W.codeIn K cdWishes "_law_wishes_by" = true) (kWishes : PySem.W.keepIn K (.ref fWishes) = true)
    (aPoints : PySem.W.nsIn K mainGlobals "_law_points_by" = some (some (.ref fPoints))) (lPoints : K.lookup fPoints = some ⟨ocPoints, odPoints, .func (PySem.W.fnOf "_law_points_by" "_law_points_by" (defArgs sPoints) (defBody sPoints) (defScope sPoints) .none kVPoints dcPoints pmPoints anPoints cdPoints ctPoints), slPoints⟩) (cPoints : PySem.W.codeIn K cdPoints "_law_points_by" = true) (kPoints : PySem.W.keepIn K (.ref fPoints) = true)
    (aKind : PySem.W.nsIn K mainGlobals "_law_kind_by" = some (some (.ref fKind))) (lKind : K.lookup fKind = some ⟨ocKind, odKind, .func (PySem.W.fnOf "_law_kind_by" "_law_kind_by" (defArgs sKind) (defBody sKind) (defScope sKind) .none kVKind dcKind pmKind anKind cdKind ctKind), slKind⟩) (cKind : PySem.W.codeIn K cdKind "_law_kind_by" = true) (kKind : PySem.W.keepIn K (.ref fKind) = true)
    (aWorld : PySem.W.nsIn K mainGlobals "_law_world" = some (some (.ref fWorld))) (lWorld : K.lookup fWorld = some ⟨ocWorld, odWorld, .func (PySem.W.fnOf "_law_world" "_law_world" (defArgs sWorld) (defBody sWorld) (defScope sWorld) .none kVWorld dcWorld pmWorld anWorld cdWorld ctWorld), slWorld⟩) (cWorld : PySem.W.codeIn K cdWorld "_law_world" = true) (kWorld : PySem.W.keepIn K (.ref fWorld) = true)
    (aHouses : PySem.W.nsIn K mainGlobals "_law_houses" = some (some (.ref fHouses))) (lHouses : K.lookup fHouses = some ⟨ocHouses, odHouses, .func (PySem.W.fnOf "_law_houses" "_law_houses" (defArgs sHouses) (defBody sHouses) (defScope sHouses) .none kVHouses dcHouses pmHouses anHouses cdHouses ctHouses), slHouses⟩) (cHouses : PySem.W.codeIn K cdHouses "_law_houses" = true) (kHouses : PySem.W.keepIn K (.ref fHouses) = true)
    (aLRank : PySem.W.nsIn K mainGlobals "_law_ranked" = some (some (.ref fLRank))) (lLRank : K.lookup fLRank = some ⟨ocLRank, odLRank, .func (PySem.W.fnOf "_law_ranked" "_law_ranked" (defArgs sLRank) (defBody sLRank) (defScope sLRank) .none kVLRank dcLRank pmLRank anLRank cdLRank ctLRank), slLRank⟩) (cLRank : PySem.W.codeIn K cdLRank "_law_ranked" = true) (kLRank : PySem.W.keepIn K (.ref fLRank) = true)
    (aLChosen : PySem.W.nsIn K mainGlobals "_law_chosen" = some (some (.ref fLChosen))) (lLChosen : K.lookup fLChosen = some ⟨ocLChosen, odLChosen, .func (PySem.W.fnOf "_law_chosen" "_law_chosen" (defArgs sLChosen) (defBody sLChosen) (defScope sLChosen) .none kVLChosen dcLChosen pmLChosen anLChosen cdLChosen ctLChosen), slLChosen⟩) (cLChosen : PySem.W.codeIn K cdLChosen "_law_chosen" = true) (kLChosen : PySem.W.keepIn K (.ref fLChosen) = true)
    (aLHeld : PySem.W.nsIn K mainGlobals "_law_held" = some (some (.ref fLHeld))) (lLHeld : K.lookup fLHeld = some ⟨ocLHeld, odLHeld, .func (PySem.W.fnOf "_law_held" "_law_held" (defArgs sLHeld) (defBody sLHeld) (defScope sLHeld) .none kVLHeld dcLHeld pmLHeld anLHeld cdLHeld ctLHeld), slLHeld⟩) (cLHeld : PySem.W.codeIn K cdLHeld "_law_held" = true) (kLHeld : PySem.W.keepIn K (.ref fLHeld) = true)
    (aLRather : PySem.W.nsIn K mainGlobals "_law_rather" = some (some (.ref fLRather))) (lLRather : K.lookup fLRather = some ⟨ocLRather, odLRather, .func (PySem.W.fnOf "_law_rather" "_law_rather" (defArgs sLRather) (defBody sLRather) (defScope sLRather) .none kVLRather dcLRather pmLRather anLRather cdLRather ctLRather), slLRather⟩) (cLRather : PySem.W.codeIn K cdLRather "_law_rather" = true) (kLRather : PySem.W.keepIn K (.ref fLRather) = true)
    (aLPairs : PySem.W.nsIn K mainGlobals "_law_pairs" = some (some (.ref fLPairs))) (lLPairs : K.lookup fLPairs = some ⟨ocLPairs, odLPairs, .func (PySem.W.fnOf "_law_pairs" "_law_pairs" (defArgs sLPairs) (defBody sLPairs) (defScope sLPairs) .none kVLPairs dcLPairs pmLPairs anLPairs cdLPairs ctLPairs), slLPairs⟩) (cLPairs : PySem.W.codeIn K cdLPairs "_law_pairs" = true) (kLPairs : PySem.W.keepIn K (.ref fLPairs) = true)
    (aLFair : PySem.W.nsIn K mainGlobals "_law_fair" = some (some (.ref fLFair))) (lLFair : K.lookup fLFair = some ⟨ocLFair, odLFair, .func (PySem.W.fnOf "_law_fair" "_law_fair" (defArgs sLFair) (defBody sLFair) (defScope sLFair) .none kVLFair dcLFair pmLFair anLFair cdLFair ctLFair), slLFair⟩) (cLFair : PySem.W.codeIn K cdLFair "_law_fair" = true) (kLFair : PySem.W.keepIn K (.ref fLFair) = true)
    (aHeld : PySem.W.nsIn K mainGlobals "held" = some (some (.ref fHeld))) (lHeld : K.lookup fHeld = some ⟨ocHeld, odHeld, .func (PySem.W.fnOf "held" "held" (defArgs sHeld) (defBody sHeld) (defScope sHeld) .none kVHeld dcHeld pmHeld anHeld cdHeld ctHeld), slHeld⟩) (cHeld : PySem.W.codeIn K cdHeld "held" = true) (kHeld : PySem.W.keepIn K (.ref fHeld) = true)
    (aRather : PySem.W.nsIn K mainGlobals "rather" = some (some (.ref fRather))) (lRather : K.lookup fRather = some ⟨ocRather, odRather, .func (PySem.W.fnOf "rather" "rather" (defArgs sRather) (defBody sRather) (defScope sRather) .none kVRather dcRather pmRather anRather cdRather ctRather), slRather⟩) (cRather : PySem.W.codeIn K cdRather "rather" = true) (kRather : PySem.W.keepIn K (.ref fRather) = true)
    (aAskers : PySem.W.nsIn K mainGlobals "askers" = some (some (.ref fAskers))) (lAskers : K.lookup fAskers = some ⟨ocAskers, odAskers, .func (PySem.W.fnOf "askers" "askers" (defArgs sAskers) (defBody sAskers) (defScope sAskers) .none kVAskers dcAskers pmAskers anAskers cdAskers ctAskers), slAskers⟩) (cAskers : PySem.W.codeIn K cdAskers "askers" = true) (kAskers : PySem.W.keepIn K (.ref fAskers) = true)
    (aRefused : PySem.W.nsIn K mainGlobals "refused" = some (some (.ref fRefused))) (lRefused : K.lookup fRefused = some ⟨ocRefused, odRefused, .func (PySem.W.fnOf "refused" "refused" (defArgs sRefused) (defBody sRefused) (defScope sRefused) .none kVRefused dcRefused pmRefused anRefused cdRefused ctRefused), slRefused⟩) (cRefused : PySem.W.codeIn K cdRefused "refused" = true) (kRefused : PySem.W.keepIn K (.ref fRefused) = true)
    (aGranted : PySem.W.nsIn K mainGlobals "granted" = some (some (.ref fGranted))) (lGranted : K.lookup fGranted = some ⟨ocGranted, odGranted, .func (PySem.W.fnOf "granted" "granted" (defArgs sGranted) (defBody sGranted) (defScope sGranted) .none kVGranted dcGranted pmGranted anGranted cdGranted ctGranted), slGranted⟩) (cGranted : PySem.W.codeIn K cdGranted "granted" = true) (kGranted : PySem.W.keepIn K (.ref fGranted) = true)
    (aBoth : PySem.W.nsIn K mainGlobals "both_rather" = some (some (.ref fBoth))) (lBoth : K.lookup fBoth = some ⟨ocBoth, odBoth, .func (PySem.W.fnOf "both_rather" "both_rather" (defArgs sBoth) (defBody sBoth) (defScope sBoth) .none kVBoth dcBoth pmBoth anBoth cdBoth ctBoth), slBoth⟩) (cBoth : PySem.W.codeIn K cdBoth "both_rather" = true) (kBoth : PySem.W.keepIn K (.ref fBoth) = true)
    (aWaiting : PySem.W.nsIn K mainGlobals "waiting" = some (some (.ref fWaiting))) (lWaiting : K.lookup fWaiting = some ⟨ocWaiting, odWaiting, .func (PySem.W.fnOf "waiting" "waiting" (defArgs sWaiting) (defBody sWaiting) (defScope sWaiting) .none kVWaiting dcWaiting pmWaiting anWaiting cdWaiting ctWaiting), slWaiting⟩) (cWaiting : PySem.W.codeIn K cdWaiting "waiting" = true) (kWaiting : PySem.W.keepIn K (.ref fWaiting) = true)
    (aNext : PySem.W.nsIn K mainGlobals "next_taken" = some (some (.ref fNext))) (lNext : K.lookup fNext = some ⟨ocNext, odNext, .func (PySem.W.fnOf "next_taken" "next_taken" (defArgs sNext) (defBody sNext) (defScope sNext) .none kVNext dcNext pmNext anNext cdNext ctNext), slNext⟩) (cNext : PySem.W.codeIn K cdNext "next_taken" = true) (kNext : PySem.W.keepIn K (.ref fNext) = true)
    (aMoved : PySem.W.nsIn K mainGlobals "moved" = some (some (.ref fMoved))) (lMoved : K.lookup fMoved = some ⟨ocMoved, odMoved, .func (PySem.W.fnOf "moved" "moved" (defArgs sMoved) (defBody sMoved) (defScope sMoved) .none kVMoved dcMoved pmMoved anMoved cdMoved ctMoved), slMoved⟩) (cMoved : PySem.W.codeIn K cdMoved "moved" = true) (kMoved : PySem.W.keepIn K (.ref fMoved) = true)
    (aWithE : PySem.W.nsIn K mainGlobals "with_entry" = some (some (.ref fWithE))) (lWithE : K.lookup fWithE = some ⟨ocWithE, odWithE, .func (PySem.W.fnOf "with_entry" "with_entry" (defArgs sWithE) (defBody sWithE) (defScope sWithE) .none kVWithE dcWithE pmWithE anWithE cdWithE ctWithE), slWithE⟩) (cWithE : PySem.W.codeIn K cdWithE "with_entry" = true) (kWithE : PySem.W.keepIn K (.ref fWithE) = true)
    (aGone : PySem.W.nsIn K mainGlobals "gone" = some (some (.ref fGone))) (lGone : K.lookup fGone = some ⟨ocGone, odGone, .func (PySem.W.fnOf "gone" "gone" (defArgs sGone) (defBody sGone) (defScope sGone) .none kVGone dcGone pmGone anGone cdGone ctGone), slGone⟩) (cGone : PySem.W.codeIn K cdGone "gone" = true) (kGone : PySem.W.keepIn K (.ref fGone) = true)
    (aMore : PySem.W.nsIn K mainGlobals "more" = some (some (.ref fMore))) (lMore : K.lookup fMore = some ⟨ocMore, odMore, .func (PySem.W.fnOf "more" "more" (defArgs sMore) (defBody sMore) (defScope sMore) .none kVMore dcMore pmMore anMore cdMore ctMore), slMore⟩) (cMore : PySem.W.codeIn K cdMore "more" = true) (kMore : PySem.W.keepIn K (.ref fMore) = true)
    (aAlike : PySem.W.nsIn K mainGlobals "_law_places_alike" = some (some (.ref fAlike))) (lAlike : K.lookup fAlike = some ⟨ocAlike, odAlike, .func (PySem.W.fnOf "_law_places_alike" "_law_places_alike" (defArgs sAlike) (defBody sAlike) (defScope sAlike) .none kVAlike dcAlike pmAlike anAlike cdAlike ctAlike), slAlike⟩) (cAlike : PySem.W.codeIn K cdAlike "_law_places_alike" = true) (kAlike : PySem.W.keepIn K (.ref fAlike) = true)
    (aWalked : PySem.W.nsIn K mainGlobals "_law_walked" = some (some (.ref fWalked))) (lWalked : K.lookup fWalked = some ⟨ocWalked, odWalked, .func (PySem.W.fnOf "_law_walked" "_law_walked" (defArgs sWalked) (defBody sWalked) (defScope sWalked) .none kVWalked dcWalked pmWalked anWalked cdWalked ctWalked), slWalked⟩) (cWalked : PySem.W.codeIn K cdWalked "_law_walked" = true) (kWalked : PySem.W.keepIn K (.ref fWalked) = true)
    (aYear : PySem.W.nsIn K mainGlobals "_law_year" = some (some (.ref fYear))) (lYear : K.lookup fYear = some ⟨ocYear, odYear, .func (PySem.W.fnOf "_law_year" "_law_year" (defArgs sYear) (defBody sYear) (defScope sYear) .none kVYear dcYear pmYear anYear cdYear ctYear), slYear⟩) (cYear : PySem.W.codeIn K cdYear "_law_year" = true) (kYear : PySem.W.keepIn K (.ref fYear) = true)
    (aNoneW : PySem.W.nsIn K mainGlobals "_law_none_worse" = some (some (.ref fNoneW))) (lNoneW : K.lookup fNoneW = some ⟨ocNoneW, odNoneW, .func (PySem.W.fnOf "_law_none_worse" "_law_none_worse" (defArgs sNoneW) (defBody sNoneW) (defScope sNoneW) .none kVNoneW dcNoneW pmNoneW anNoneW cdNoneW ctNoneW), slNoneW⟩) (cNoneW : PySem.W.codeIn K cdNoneW "_law_none_worse" = true) (kNoneW : PySem.W.keepIn K (.ref fNoneW) = true)
    (aLaw : PySem.W.nsIn K mainGlobals "law" = some (some (.ref fLaw))) (lLaw : K.lookup fLaw = some ⟨ocLaw, odLaw, .func (PySem.W.fnOf "law" "law" (defArgs sLaw) (defBody sLaw) (defScope sLaw) .none kVLaw dcLaw pmLaw anLaw cdLaw ctLaw), slLaw⟩) (cLaw : PySem.W.codeIn K cdLaw "law" = true) (kLaw : PySem.W.keepIn K (.ref fLaw) = true)
    (z1 : PySem.W.nsIn K mainGlobals "len" = some none)
    (z2 : PySem.W.nsIn K mainGlobals "range" = some none)
    (z3 : PySem.W.nsIn K mainGlobals "list" = some none)
    (z4 : PySem.W.nsIn K mainGlobals "str" = some none)
    (z5 : PySem.W.nsIn K mainGlobals "int" = some none)
    (z6 : PySem.W.nsIn K mainGlobals "bool" = some none)
    (z7 : PySem.W.nsIn K mainGlobals "tuple" = some none)
    (z8 : PySem.W.nsIn K mainGlobals "isinstance" = some none)
    (z9 : PySem.W.nsIn K mainGlobals "set" = some none)
    (z10 : PySem.W.nsIn K mainGlobals "all" = some none)
    (z11 : PySem.W.nsIn K mainGlobals "sorted" = some none)
    (z12 : PySem.W.nsIn K mainGlobals "max" = some none)
    (z13 : PySem.W.nsIn K mainGlobals "min" = some none) :
    ∃ fd : FuncData, (∀ (s : Shared) (v : Value), BindsTo s fd ⟨[v], []⟩ [("script", v)]) ∧ ∀ base : Heap, K.In base → base.Ns mainGlobals mg → FnOk l.prog w K mg base CX0 9 fa fd ["script"] (spLaw K) := by
  have e := hfa.symm.trans (PySem.W.mg_of X G aLaw)
  cases e
  have T : Cl K mg C := ⟨blt_mk X G z1 z2 z3 z4 z5 z6 z7 z8 z9 z10 z11 z12 z13, ⟨y1, y2, y3, y4⟩, PySem.W.mg_of X G aH, w1, w2, w3, w4, w5, w6, w7⟩
  have Fm1 : MAt K "__init__" "House.__init__" sInit ["self", "seats", "kept", "kind", "opened", "points", "kinds", "row"] fm1 _ := ⟨fun_mk (st := sInit) lm1 cm1 km1, (fun_mk (st := sInit) lm1 cm1 km1).binds (ps := ["self", "seats", "kept", "kind", "opened", "points", "kinds", "row"]) fun _ _ _ _ _ _ us hl => match us, hl with | [_, _, _, _, _, _, _, _], _ => rfl⟩
  have Mm1 : Mk K C fm1 := ⟨y5, am1, im1, y6⟩
  have Fm2 : MAt K "ranked" "House.ranked" sRanked ["self", "comers"] fm2 _ := ⟨fun_mk (st := sRanked) lm2 cm2 km2, (fun_mk (st := sRanked) lm2 cm2 km2).binds (ps := ["self", "comers"]) fun _ _ _ _ _ _ us hl => match us, hl with | [_, _], _ => rfl⟩
  have Mm2 : Meth K C "ranked" fm2 := ⟨am2, im2, km2⟩
  have Fm3 : MAt K "rank_key" "House.rank_key" sKey ["self", "comer"] fm3 _ := ⟨fun_mk (st := sKey) lm3 cm3 km3, (fun_mk (st := sKey) lm3 cm3 km3).binds (ps := ["self", "comer"]) fun _ _ _ _ _ _ us hl => match us, hl with | [_, _], _ => rfl⟩
  have Mm3 : BMeth K C "rank_key" fm3 := ⟨am3, im3, gm3, tm3, by decide +kernel⟩
  have Fm4 : MAt K "chosen" "House.chosen" sChosen ["self", "comers"] fm4 _ := ⟨fun_mk (st := sChosen) lm4 cm4 km4, (fun_mk (st := sChosen) lm4 cm4 km4).binds (ps := ["self", "comers"]) fun _ _ _ _ _ _ us hl => match us, hl with | [_, _], _ => rfl⟩
  have Mm4 : Meth K C "chosen" fm4 := ⟨am4, im4, km4⟩
  have Fm5 : MAt K "seats_left" "House.seats_left" sLeft ["self", "keepers"] fm5 _ := ⟨fun_mk (st := sLeft) lm5 cm5 km5, (fun_mk (st := sLeft) lm5 cm5 km5).binds (ps := ["self", "keepers"]) fun _ _ _ _ _ _ us hl => match us, hl with | [_, _], _ => rfl⟩
  have Mm5 : Meth K C "seats_left" fm5 := ⟨am5, im5, km5⟩
  have Fm6 : MAt K "with_more" "House.with_more" sHMore ["self", "many"] fm6 _ := ⟨fun_mk (st := sHMore) lm6 cm6 km6, (fun_mk (st := sHMore) lm6 cm6 km6).binds (ps := ["self", "many"]) fun _ _ _ _ _ _ us hl => match us, hl with | [_, _], _ => rfl⟩
  have Mm6 : Meth K C "with_more" fm6 := ⟨am6, im6, km6⟩
  have FCell : FnAt K mg "_law_cell_at" sCell ["script", "k"] fCell _ := ⟨fun_mk (st := sCell) lCell cCell kCell, (fun_mk (st := sCell) lCell cCell kCell).binds (ps := ["script", "k"]) fun _ _ _ _ _ _ us hl => match us, hl with | [_, _], _ => rfl, PySem.W.mg_of X G aCell⟩
  have FWhole : FnAt K mg "_law_whole" sWhole ["found"] fWhole _ := ⟨fun_mk (st := sWhole) lWhole cWhole kWhole, (fun_mk (st := sWhole) lWhole cWhole kWhole).binds (ps := ["found"]) fun _ _ _ _ _ _ us hl => match us, hl with | [_], _ => rfl, PySem.W.mg_of X G aWhole⟩
  have FRow : FnAt K mg "_law_row_by" sRow ["cell", "many"] fRow _ := ⟨fun_mk (st := sRow) lRow cRow kRow, (fun_mk (st := sRow) lRow cRow kRow).binds (ps := ["cell", "many"]) fun _ _ _ _ _ _ us hl => match us, hl with | [_, _], _ => rfl, PySem.W.mg_of X G aRow⟩
  have FWishes : FnAt K mg "_law_wishes_by" sWishes ["cell", "houses"] fWishes _ := ⟨fun_mk (st := sWishes) lWishes cWishes kWishes, (fun_mk (st := sWishes) lWishes cWishes kWishes).binds (ps := ["cell", "houses"]) fun _ _ _ _ _ _ us hl => match us, hl with | [_, _], _ => rfl, PySem.W.mg_of X G aWishes⟩
  have FPoints : FnAt K mg "_law_points_by" sPoints ["cell", "comer"] fPoints _ := ⟨fun_mk (st := sPoints) lPoints cPoints kPoints, (fun_mk (st := sPoints) lPoints cPoints kPoints).binds (ps := ["cell", "comer"]) fun _ _ _ _ _ _ us hl => match us, hl with | [_, _], _ => rfl, PySem.W.mg_of X G aPoints⟩
  have FKind : FnAt K mg "_law_kind_by" sKind ["cell"] fKind _ := ⟨fun_mk (st := sKind) lKind cKind kKind, (fun_mk (st := sKind) lKind cKind kKind).binds (ps := ["cell"]) fun _ _ _ _ _ _ us hl => match us, hl with | [_], _ => rfl, PySem.W.mg_of X G aKind⟩
  have FWorld : FnAt K mg "_law_world" sWorld ["script", "top"] fWorld _ := ⟨fun_mk (st := sWorld) lWorld cWorld kWorld, (fun_mk (st := sWorld) lWorld cWorld kWorld).binds (ps := ["script", "top"]) fun _ _ _ _ _ _ us hl => match us, hl with | [_, _], _ => rfl, PySem.W.mg_of X G aWorld⟩
  have FHouses : FnAt K mg "_law_houses" sHouses ["rows"] fHouses _ := ⟨fun_mk (st := sHouses) lHouses cHouses kHouses, (fun_mk (st := sHouses) lHouses cHouses kHouses).binds (ps := ["rows"]) fun _ _ _ _ _ _ us hl => match us, hl with | [_], _ => rfl, PySem.W.mg_of X G aHouses⟩
  have FLRank : FnAt K mg "_law_ranked" sLRank ["row", "comers"] fLRank _ := ⟨fun_mk (st := sLRank) lLRank cLRank kLRank, (fun_mk (st := sLRank) lLRank cLRank kLRank).binds (ps := ["row", "comers"]) fun _ _ _ _ _ _ us hl => match us, hl with | [_, _], _ => rfl, PySem.W.mg_of X G aLRank⟩
  have FLChosen : FnAt K mg "_law_chosen" sLChosen ["row", "comers"] fLChosen _ := ⟨fun_mk (st := sLChosen) lLChosen cLChosen kLChosen, (fun_mk (st := sLChosen) lLChosen cLChosen kLChosen).binds (ps := ["row", "comers"]) fun _ _ _ _ _ _ us hl => match us, hl with | [_, _], _ => rfl, PySem.W.mg_of X G aLChosen⟩
  have FLHeld : FnAt K mg "_law_held" sLHeld ["places", "house"] fLHeld _ := ⟨fun_mk (st := sLHeld) lLHeld cLHeld kLHeld, (fun_mk (st := sLHeld) lLHeld cLHeld kLHeld).binds (ps := ["places", "house"]) fun _ _ _ _ _ _ us hl => match us, hl with | [_, _], _ => rfl, PySem.W.mg_of X G aLHeld⟩
  have FLRather : FnAt K mg "_law_rather" sLRather ["wishes", "places", "k"] fLRather _ := ⟨fun_mk (st := sLRather) lLRather cLRather kLRather, (fun_mk (st := sLRather) lLRather cLRather kLRather).binds (ps := ["wishes", "places", "k"]) fun _ _ _ _ _ _ us hl => match us, hl with | [_, _, _], _ => rfl, PySem.W.mg_of X G aLRather⟩
  have FLPairs : FnAt K mg "_law_pairs" sLPairs ["wishes", "rows", "places"] fLPairs _ := ⟨fun_mk (st := sLPairs) lLPairs cLPairs kLPairs, (fun_mk (st := sLPairs) lLPairs cLPairs kLPairs).binds (ps := ["wishes", "rows", "places"]) fun _ _ _ _ _ _ us hl => match us, hl with | [_, _, _], _ => rfl, PySem.W.mg_of X G aLPairs⟩
  have FLFair : FnAt K mg "_law_fair" sLFair ["wishes", "rows", "places"] fLFair _ := ⟨fun_mk (st := sLFair) lLFair cLFair kLFair, (fun_mk (st := sLFair) lLFair cLFair kLFair).binds (ps := ["wishes", "rows", "places"]) fun _ _ _ _ _ _ us hl => match us, hl with | [_, _, _], _ => rfl, PySem.W.mg_of X G aLFair⟩
  have FHeld : FnAt K mg "held" sHeld ["places", "house"] fHeld _ := ⟨fun_mk (st := sHeld) lHeld cHeld kHeld, (fun_mk (st := sHeld) lHeld cHeld kHeld).binds (ps := ["places", "house"]) fun _ _ _ _ _ _ us hl => match us, hl with | [_, _], _ => rfl, PySem.W.mg_of X G aHeld⟩
  have FRather : FnAt K mg "rather" sRather ["wishes", "places", "comer"] fRather _ := ⟨fun_mk (st := sRather) lRather cRather kRather, (fun_mk (st := sRather) lRather cRather kRather).binds (ps := ["wishes", "places", "comer"]) fun _ _ _ _ _ _ us hl => match us, hl with | [_, _, _], _ => rfl, PySem.W.mg_of X G aRather⟩
  have FAskers : FnAt K mg "askers" sAskers ["wishes", "places", "refusals"] fAskers _ := ⟨fun_mk (st := sAskers) lAskers cAskers kAskers, (fun_mk (st := sAskers) lAskers cAskers kAskers).binds (ps := ["wishes", "places", "refusals"]) fun _ _ _ _ _ _ us hl => match us, hl with | [_, _, _], _ => rfl, PySem.W.mg_of X G aAskers⟩
  have FRefused : FnAt K mg "refused" sRefused ["houses", "places"] fRefused _ := ⟨fun_mk (st := sRefused) lRefused cRefused kRefused, (fun_mk (st := sRefused) lRefused cRefused kRefused).binds (ps := ["houses", "places"]) fun _ _ _ _ _ _ us hl => match us, hl with | [_, _], _ => rfl, PySem.W.mg_of X G aRefused⟩
  have FGranted : FnAt K mg "granted" sGranted ["wishes", "houses"] fGranted _ := ⟨fun_mk (st := sGranted) lGranted cGranted kGranted, (fun_mk (st := sGranted) lGranted cGranted kGranted).binds (ps := ["wishes", "houses"]) fun _ _ _ _ _ _ us hl => match us, hl with | [_, _], _ => rfl, PySem.W.mg_of X G aGranted⟩
  have FBoth : FnAt K mg "both_rather" sBoth ["wishes", "houses", "places"] fBoth _ := ⟨fun_mk (st := sBoth) lBoth cBoth kBoth, (fun_mk (st := sBoth) lBoth cBoth kBoth).binds (ps := ["wishes", "houses", "places"]) fun _ _ _ _ _ _ us hl => match us, hl with | [_, _, _], _ => rfl, PySem.W.mg_of X G aBoth⟩
  have FWaiting : FnAt K mg "waiting" sWaiting ["wishes", "houses", "places", "house"] fWaiting _ := ⟨fun_mk (st := sWaiting) lWaiting cWaiting kWaiting, (fun_mk (st := sWaiting) lWaiting cWaiting kWaiting).binds (ps := ["wishes", "houses", "places", "house"]) fun _ _ _ _ _ _ us hl => match us, hl with | [_, _, _, _], _ => rfl, PySem.W.mg_of X G aWaiting⟩
  have FNext : FnAt K mg "next_taken" sNext ["wishes", "houses", "places", "house"] fNext _ := ⟨fun_mk (st := sNext) lNext cNext kNext, (fun_mk (st := sNext) lNext cNext kNext).binds (ps := ["wishes", "houses", "places", "house"]) fun _ _ _ _ _ _ us hl => match us, hl with | [_, _, _, _], _ => rfl, PySem.W.mg_of X G aNext⟩
  have FMoved : FnAt K mg "moved" sMoved ["wishes", "houses", "places"] fMoved _ := ⟨fun_mk (st := sMoved) lMoved cMoved kMoved, (fun_mk (st := sMoved) lMoved cMoved kMoved).binds (ps := ["wishes", "houses", "places"]) fun _ _ _ _ _ _ us hl => match us, hl with | [_, _, _], _ => rfl, PySem.W.mg_of X G aMoved⟩
  have FWithE : FnAt K mg "with_entry" sWithE ["entries", "number", "entry"] fWithE _ := ⟨fun_mk (st := sWithE) lWithE cWithE kWithE, (fun_mk (st := sWithE) lWithE cWithE kWithE).binds (ps := ["entries", "number", "entry"]) fun _ _ _ _ _ _ us hl => match us, hl with | [_, _, _], _ => rfl, PySem.W.mg_of X G aWithE⟩
  have FGone : FnAt K mg "gone" sGone ["wishes", "houses", "places", "comer"] fGone _ := ⟨fun_mk (st := sGone) lGone cGone kGone, (fun_mk (st := sGone) lGone cGone kGone).binds (ps := ["wishes", "houses", "places", "comer"]) fun _ _ _ _ _ _ us hl => match us, hl with | [_, _, _, _], _ => rfl, PySem.W.mg_of X G aGone⟩
  have FMore : FnAt K mg "more" sMore ["wishes", "houses", "places", "house", "many"] fMore _ := ⟨fun_mk (st := sMore) lMore cMore kMore, (fun_mk (st := sMore) lMore cMore kMore).binds (ps := ["wishes", "houses", "places", "house", "many"]) fun _ _ _ _ _ _ us hl => match us, hl with | [_, _, _, _, _], _ => rfl, PySem.W.mg_of X G aMore⟩
  have FAlike : FnAt K mg "_law_places_alike" sAlike ["found", "due"] fAlike _ := ⟨fun_mk (st := sAlike) lAlike cAlike kAlike, (fun_mk (st := sAlike) lAlike cAlike kAlike).binds (ps := ["found", "due"]) fun _ _ _ _ _ _ us hl => match us, hl with | [_, _], _ => rfl, PySem.W.mg_of X G aAlike⟩
  have FWalked : FnAt K mg "_law_walked" sWalked ["wishes", "rows", "places", "steps"] fWalked _ := ⟨fun_mk (st := sWalked) lWalked cWalked kWalked, (fun_mk (st := sWalked) lWalked cWalked kWalked).binds (ps := ["wishes", "rows", "places", "steps"]) fun _ _ _ _ _ _ us hl => match us, hl with | [_, _, _, _], _ => rfl, PySem.W.mg_of X G aWalked⟩
  have FYear : FnAt K mg "_law_year" sYear ["found", "wishes", "rows", "places"] fYear _ := ⟨fun_mk (st := sYear) lYear cYear kYear, (fun_mk (st := sYear) lYear cYear kYear).binds (ps := ["found", "wishes", "rows", "places"]) fun _ _ _ _ _ _ us hl => match us, hl with | [_, _, _, _], _ => rfl, PySem.W.mg_of X G aYear⟩
  have FNoneW : FnAt K mg "_law_none_worse" sNoneW ["wishes", "ahead", "now", "apart"] fNoneW _ := ⟨fun_mk (st := sNoneW) lNoneW cNoneW kNoneW, (fun_mk (st := sNoneW) lNoneW cNoneW kNoneW).binds (ps := ["wishes", "ahead", "now", "apart"]) fun _ _ _ _ _ _ us hl => match us, hl with | [_, _, _, _], _ => rfl, PySem.W.mg_of X G aNoneW⟩
  have FLaw : FnAt K mg "law" sLaw ["script"] fa _ := ⟨fun_mk (st := sLaw) lLaw cLaw kLaw, (fun_mk (st := sLaw) lLaw cLaw kLaw).binds (ps := ["script"]) fun _ _ _ _ _ _ us hl => match us, hl with | [_], _ => rfl, PySem.W.mg_of X G aLaw⟩
  refine ⟨PySem.W.fnOf "law" "law" (defArgs sLaw) (defBody sLaw) (defScope sLaw) .none kVLaw dcLaw pmLaw anLaw cdLaw ctLaw, fun s v => .of_eq rfl, fun base _ _ => ?_⟩
  have CK : MCal l.prog w K mg base 1 fm3 ["self", "comer"] (spKey C) := ok_key Fm3 T
  have CR := ok_ranked Fm2 T Mm3 CK
  have CS : MCal l.prog w K mg base 1 fm5 ["self", "keepers"] (spLeft C) := ok_left Fm5 T
  have CC := ok_chosen Fm4 T Mm2 CR Mm5 CS
  have CI : MCal l.prog w K mg base 1 fm1 ["self", "seats", "kept", "kind", "opened", "points", "kinds", "row"] (spInit K C) := ok_init Fm1 T
  have CM := ok_hmore Fm6 T Mm1 CI
  have CCell : Callee l.prog w K mg base 1 "_law_cell_at" ["script", "k"] (spCell K) := ok_cell FCell T
  have CWhole : Callee l.prog w K mg base 1 "_law_whole" ["found"] spWhole := ok_whole FWhole T
  have CRow : Callee l.prog w K mg base 1 "_law_row_by" ["cell", "many"] spRow := ok_row FRow T
  have CWishes : Callee l.prog w K mg base 2 "_law_wishes_by" ["cell", "houses"] spWishes := ok_wishes FWishes T CRow
  have CPoints : Callee l.prog w K mg base 1 "_law_points_by" ["cell", "comer"] spPoints := ok_points FPoints T
  have CKind : Callee l.prog w K mg base 1 "_law_kind_by" ["cell"] spKind := ok_kind FKind T
  have CWorld : Callee l.prog w K mg base 3 "_law_world" ["script", "top"] (spWorld K) := ok_world FWorld T CCell CRow CWishes CPoints CKind
  have CHouses :     Callee l.prog w K mg base 3 "_law_houses" ["rows"] (spHouses K C) := ok_houses FHouses T Mm1 CI
  have CLRank : Callee l.prog w K mg base 1 "_law_ranked" ["row", "comers"] (spLRank K) := ok_lrank FLRank T
  have CLChosen : Callee l.prog w K mg base 2 "_law_chosen" ["row", "comers"] (spLChosen K) := ok_lchosen FLChosen T CLRank
  have CLHeld : Callee l.prog w K mg base 1 "_law_held" ["places", "house"] (spLHeld K) := ok_lheld FLHeld T
  have CLRather : Callee l.prog w K mg base 1 "_law_rather" ["wishes", "places", "k"] (spLRather K) := ok_lrather FLRather T
  have CLPairs : Callee l.prog w K mg base 3 "_law_pairs" ["wishes", "rows", "places"] (spLPairs K) := ok_lpairs FLPairs T CLHeld CLRather CLChosen
  have CLFair : Callee l.prog w K mg base 4 "_law_fair" ["wishes", "rows", "places"] (spLFair K) := ok_lfair FLFair T CLHeld CLChosen CLPairs
  have CHeld : Callee l.prog w K mg base 1 "held" ["places", "house"] (spLHeld K) := ok_held FHeld T
  have CRather : Callee l.prog w K mg base 1 "rather" ["wishes", "places", "comer"] (spLRather K) := ok_rather FRather T
  have CAskers : Callee l.prog w K mg base 1 "askers" ["wishes", "places", "refusals"] (spAskers K) := ok_askers FAskers T
  have CRefused :     Callee l.prog w K mg base 6 "refused" ["houses", "places"] (spRefused K C) := ok_refused FRefused T CHeld Mm4 CC
  have CGranted :     Callee l.prog w K mg base 7 "granted" ["wishes", "houses"] (spGranted K C) := ok_granted FGranted T CAskers CRefused
  have CBoth : Callee l.prog w K mg base 6 "both_rather" ["wishes", "houses", "places"] (spBoth K C) := ok_both FBoth T CHeld CRather Mm4 CC
  have CWaiting : Callee l.prog w K mg base 5 "waiting" ["wishes", "houses", "places", "house"] (spWaiting K C) := ok_waiting FWaiting T CRather Mm2 CR
  have CNext :     Callee l.prog w K mg base 6 "next_taken" ["wishes", "houses", "places", "house"] (spNext K C) := ok_next FNext T CWaiting CHeld Mm4 CC
  have CMoved :     Callee l.prog w K mg base 7 "moved" ["wishes", "houses", "places"] (spMoved K C) := ok_moved FMoved T CBoth CNext
  have CWithE : Callee l.prog w K mg base 1 "with_entry" ["entries", "number", "entry"] (spWithE K) := ok_withe FWithE T
  have CGone : Callee l.prog w K mg base 8 "gone" ["wishes", "houses", "places", "comer"] (spGone K C) := ok_gone FGone T CMoved CWithE
  have CMore : Callee l.prog w K mg base 8 "more" ["wishes", "houses", "places", "house", "many"] (spMoreP K C) := ok_more FMore T CMoved CWithE Mm6 CM
  have CAlike : Callee l.prog w K mg base 2 "_law_places_alike" ["found", "due"] (spAlike K) := ok_alike FAlike T CWhole
  have CWalked : Callee l.prog w K mg base 4 "_law_walked" ["wishes", "rows", "places", "steps"] (spWalked K) := ok_walked FWalked T CLPairs CLHeld CLRather CLChosen CLRank
  have CYear : Callee l.prog w K mg base 5 "_law_year" ["found", "wishes", "rows", "places"] (spYear K) := ok_year FYear T CWalked CAlike CLFair
  have CNoneW : Callee l.prog w K mg base 2 "_law_none_worse" ["wishes", "ahead", "now", "apart"] (spNoneW K) := ok_nonew FNoneW T CLRather
  exact ok_law FLaw T CCell CWorld CHouses CGranted CGone CMore CYear CNoneW
theorem walk {l : PySem.W.OpenLaw} {q : Program} {loose : List Str} {XP : (Str → Option Value) → Heap → Prop} {YP : World → Heap → Prop} {d : DefRec} {K : Params → PySem.W.Frag} (hn : l.most = some 63) (hdf : d.params.defaults = [])
    (hY : ∀ (w : World) (h : Heap), YP w h → (K w.params).In h)
    (F : ∀ (w : World) (mg : Str → Option Value) (fa : Addr) (h : Heap), (K w.params).In h → h.Ns mainGlobals mg → mg d.name = some (.ref fa) →
      ∃ fd : FuncData, (∀ (s : Shared) (u : Value), BindsTo s fd ⟨[u], []⟩ [("script", u)]) ∧ ∀ base : Heap, (K w.params).In base → base.Ns mainGlobals mg → FnOk l.prog w (K w.params) mg base CX0 9 fa fd ["script"] (spLaw (K w.params))) :
    PySem.W.WalkO q loose XP YP l.row.toRowW d [] (fun f vs => PySem.call f vs) :=
  L2.walk_of (n := 63) (k := 9) (x := "script") (CX := fun _ => CX0) (sp := fun w => spLaw (K w.params)) hn (by decide) hdf ⟨rfl, by decide, by decide⟩ hY F (fun _ _ a ns hl _ hS => ⟨a, ns, rfl, hS, hl, fun _ => rfl⟩) fun _ _ _ _ _ z => z
end K13
open PySem PySem.W PyProof.Rows
set_option maxRecDepth 100000 in
set_option maxHeartbeats 0 in
theorem PySem.Challenge.cw_choosehall_k13_whole_more_seats_holds : PySem.Challenge.rw_choosehall_k13_whole_more_seats.Holds := by
  w_on; o_law; k_head; (case hw => w_witness2)
  k_fill
  refine K13.walk (l := PySem.Challenge.rw_choosehall_k13_whole_more_seats) rfl rfl (fun w h Y => PySem.W.kIn_of Y) ?F
  case F =>
    intro w mg fa h KX G hmg
    refine' K13.all_mk KX G hmg ?aH ?y1 ?y2 ?y3 ?y4 ?w1 ?w2 ?w3 ?w4 ?w5 ?w6 ?w7 ?y5 ?y6 ?am1 ?lm1 ?cm1 ?km1 ?im1 ?am2 ?lm2 ?cm2 ?km2 ?im2 ?am3 ?lm3 ?cm3 ?km3 ?im3 ?gm3 ?tm3 ?am4 ?lm4 ?cm4 ?km4 ?im4 ?am5 ?lm5 ?cm5 ?km5 ?im5 ?am6 ?lm6 ?cm6 ?km6 ?im6 ?aCell ?lCell ?cCell ?kCell ?aWhole ?lWhole ?cWhole ?kWhole ?aRow ?lRow ?cRow ?kRow ?aWishes ?lWishes ?cWishes ?kWishes ?aPoints ?lPoints ?cPoints ?kPoints ?aKind ?lKind ?cKind ?kKind ?aWorld ?lWorld ?cWorld ?kWorld ?aHouses ?lHouses ?cHouses ?kHouses ?aLRank ?lLRank ?cLRank ?kLRank ?aLChosen ?lLChosen ?cLChosen ?kLChosen ?aLHeld ?lLHeld ?cLHeld ?kLHeld ?aLRather ?lLRather ?cLRather ?kLRather ?aLPairs ?lLPairs ?cLPairs ?kLPairs ?aLFair ?lLFair ?cLFair ?kLFair ?aHeld ?lHeld ?cHeld ?kHeld ?aRather ?lRather ?cRather ?kRather ?aAskers ?lAskers ?cAskers ?kAskers ?aRefused ?lRefused ?cRefused ?kRefused ?aGranted ?lGranted ?cGranted ?kGranted ?aBoth ?lBoth ?cBoth ?kBoth ?aWaiting ?lWaiting ?cWaiting ?kWaiting ?aNext ?lNext ?cNext ?kNext ?aMoved ?lMoved ?cMoved ?kMoved ?aWithE ?lWithE ?cWithE ?kWithE ?aGone ?lGone ?cGone ?kGone ?aMore ?lMore ?cMore ?kMore ?aAlike ?lAlike ?cAlike ?kAlike ?aWalked ?lWalked ?cWalked ?kWalked ?aYear ?lYear ?cYear ?kYear ?aNoneW ?lNoneW ?cNoneW ?kNoneW ?aLaw ?lLaw ?cLaw ?kLaw ?z1 ?z2 ?z3 ?z4 ?z5 ?z6 ?z7 ?z8 ?z9 ?z10 ?z11 ?z12 ?z13
    (case aH => k_is); (case y1 => k_is); (case y2 => k_is); (case y3 => k_is); (case y4 => k_is); (case w1 => k_is)
    (case w2 => k_is); (case w3 => k_is); (case w4 => k_is); (case w5 => k_is); (case w6 => k_is); (case w7 => k_is)
    (case y5 => k_is); (case y6 => k_is); (case am1 => k_is); (case lm1 => k_is); (case cm1 => k_is); (case km1 => k_is)
    (case im1 => k_is); (case am2 => k_is); (case lm2 => k_is); (case cm2 => k_is); (case km2 => k_is); (case im2 => k_is)
    (case am3 => k_is); (case lm3 => k_is); (case cm3 => k_is); (case km3 => k_is); (case im3 => k_is); (case gm3 => k_is)
    (case tm3 => k_is); (case am4 => k_is); (case lm4 => k_is); (case cm4 => k_is); (case km4 => k_is); (case im4 => k_is)
    (case am5 => k_is); (case lm5 => k_is); (case cm5 => k_is); (case km5 => k_is); (case im5 => k_is); (case am6 => k_is)
    (case lm6 => k_is); (case cm6 => k_is); (case km6 => k_is); (case im6 => k_is); (case aCell => k_is); (case lCell => k_is)
    (case cCell => k_is); (case kCell => k_is); (case aWhole => k_is); (case lWhole => k_is); (case cWhole => k_is); (case kWhole => k_is)
    (case aRow => k_is); (case lRow => k_is); (case cRow => k_is); (case kRow => k_is); (case aWishes => k_is); (case lWishes => k_is)
    (case cWishes => k_is); (case kWishes => k_is); (case aPoints => k_is); (case lPoints => k_is); (case cPoints => k_is); (case kPoints => k_is)
    (case aKind => k_is); (case lKind => k_is); (case cKind => k_is); (case kKind => k_is); (case aWorld => k_is); (case lWorld => k_is)
    (case cWorld => k_is); (case kWorld => k_is); (case aHouses => k_is); (case lHouses => k_is); (case cHouses => k_is); (case kHouses => k_is)
    (case aLRank => k_is); (case lLRank => k_is); (case cLRank => k_is); (case kLRank => k_is); (case aLChosen => k_is); (case lLChosen => k_is)
    (case cLChosen => k_is); (case kLChosen => k_is); (case aLHeld => k_is); (case lLHeld => k_is); (case cLHeld => k_is); (case kLHeld => k_is)
    (case aLRather => k_is); (case lLRather => k_is); (case cLRather => k_is); (case kLRather => k_is); (case aLPairs => k_is); (case lLPairs => k_is)
    (case cLPairs => k_is); (case kLPairs => k_is); (case aLFair => k_is); (case lLFair => k_is); (case cLFair => k_is); (case kLFair => k_is)
    (case aHeld => k_is); (case lHeld => k_is); (case cHeld => k_is); (case kHeld => k_is); (case aRather => k_is); (case lRather => k_is)
    (case cRather => k_is); (case kRather => k_is); (case aAskers => k_is); (case lAskers => k_is); (case cAskers => k_is); (case kAskers => k_is)
    (case aRefused => k_is); (case lRefused => k_is); (case cRefused => k_is); (case kRefused => k_is); (case aGranted => k_is); (case lGranted => k_is)
    (case cGranted => k_is); (case kGranted => k_is); (case aBoth => k_is); (case lBoth => k_is); (case cBoth => k_is); (case kBoth => k_is)
    (case aWaiting => k_is); (case lWaiting => k_is); (case cWaiting => k_is); (case kWaiting => k_is); (case aNext => k_is); (case lNext => k_is)
    (case cNext => k_is); (case kNext => k_is); (case aMoved => k_is); (case lMoved => k_is); (case cMoved => k_is); (case kMoved => k_is)
    (case aWithE => k_is); (case lWithE => k_is); (case cWithE => k_is); (case kWithE => k_is); (case aGone => k_is); (case lGone => k_is)
    (case cGone => k_is); (case kGone => k_is); (case aMore => k_is); (case lMore => k_is); (case cMore => k_is); (case kMore => k_is)
    (case aAlike => k_is); (case lAlike => k_is); (case cAlike => k_is); (case kAlike => k_is); (case aWalked => k_is); (case lWalked => k_is)
    (case cWalked => k_is); (case kWalked => k_is); (case aYear => k_is); (case lYear => k_is); (case cYear => k_is); (case kYear => k_is)
    (case aNoneW => k_is); (case lNoneW => k_is); (case cNoneW => k_is); (case kNoneW => k_is); (case aLaw => k_is); (case lLaw => k_is)
    (case cLaw => k_is); (case kLaw => k_is); (case z1 => k_is); (case z2 => k_is); (case z3 => k_is); (case z4 => k_is)
    (case z5 => k_is); (case z6 => k_is); (case z7 => k_is); (case z8 => k_is); (case z9 => k_is); (case z10 => k_is)
    (case z11 => k_is); (case z12 => k_is); (case z13 => k_is)

