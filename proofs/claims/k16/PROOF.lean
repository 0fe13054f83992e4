import PyProof.Rows.All
import Wide.All
import OpenK.AllK
import Wide.FinOn
import Lean
import PyProof.EqAt
import PyProof.EqKinds
import PyProof.TupleCall
import PySem.Challenge.RW_ringfigures_k16_refused
set_option Elab.async false
set_option linter.all false
set_option maxRecDepth 100000
/-! THE HAND LAYER, for ints, bools, texts, own classes, LISTS and tuples (index, slices, in, append, pop ..), calls, loops. Paste it whole ahead of your own text; what your proof does not reach may be deleted. -/
namespace L2
open PySem PySem.Spec PyProof.Rows

/-- a key: an int or a str -/
abbrev Key := Sum Int Str
def keyIs : Key → Value → Bool
  | .inl k, v => Value.isInt k v
  | .inr x, v => Value.isStrOf x v
def keyH (w : World) : Key → Int
  | .inl k => hashInt k
  | .inr x => hashStr w x
theorem keyIs_shape : ∀ {k : Key} {v : Value}, keyIs k v = true → (∃ i t, k = Sum.inl i ∧ v = Value.int i t) ∨ (∃ x t, k = Sum.inr x ∧ v = Value.str x t)
  | .inl i, v, h => by
    obtain ⟨t, e⟩ := Value.isInt_shape (k := i) (v := v) h
    exact .inl ⟨i, t, rfl, e⟩
  | .inr x, v, h => by
    obtain ⟨t, e⟩ := Value.isStrOf_shape (x := x) (v := v) h
    exact .inr ⟨x, t, rfl, e⟩
theorem keyIs_int (i : Int) (t : Tok) : keyIs (.inl i) (.int i t) = true := by simp [keyIs, Value.isInt]
theorem keyIs_str (x : Str) (t : Tok) : keyIs (.inr x) (.str x t) = true := by simp [keyIs, Value.isStrOf]
theorem key_ll (a b : Int) : decide ((Sum.inl a : Key) = Sum.inl b) = (a == b) := by
  by_cases e : a = b
  · subst e; simp
  · have h : ¬ (Sum.inl a : Key) = Sum.inl b := fun q => e (Sum.inl.inj q)
    rw [decide_eq_false h]
    exact (beq_eq_false_iff_ne.mpr e).symm
theorem key_rr (a b : Str) : decide ((Sum.inr a : Key) = Sum.inr b) = decide (a = b) := by
  by_cases e : a = b
  · subst e; simp
  · have h : ¬ (Sum.inr a : Key) = Sum.inr b := fun q => e (Sum.inr.inj q)
    rw [decide_eq_false h, decide_eq_false e]
theorem key_lr (a : Int) (b : Str) : decide ((Sum.inl a : Key) = Sum.inr b) = false := decide_eq_false (fun q => nomatch q)
theorem key_rl (a : Str) (b : Int) : decide ((Sum.inr a : Key) = Sum.inl b) = false := decide_eq_false (fun q => nomatch q)

def mixKind (prog : Program) (w : World) : PySem.KeyKind prog w Key where
  is := keyIs
  hash := keyH w
  inj := fun v a b ha hb => by
    rcases keyIs_shape ha with ⟨i, t, rfl, rfl⟩ | ⟨x, t, rfl, rfl⟩
    · rcases keyIs_shape hb with ⟨j, u, rfl, e⟩ | ⟨y, u, rfl, e⟩
      · injection e with e1 _; rw [e1]
      · exact nomatch e
    · rcases keyIs_shape hb with ⟨j, u, rfl, e⟩ | ⟨y, u, rfl, e⟩
      · exact nomatch e
      · injection e with e1 _; rw [e1]
  byValue := fun k v h => by
    rcases keyIs_shape h with ⟨i, t, rfl, rfl⟩ | ⟨x, t, rfl, rfl⟩ <;> rfl
  pyHash := fun hv h => by
    rcases keyIs_shape hv with ⟨i, t, rfl, rfl⟩ | ⟨x, t, rfl, rfl⟩
    · exact wpAny_pyHash_int h
    · exact wpAny_pyHash_str h
  eqBool := fun hu hv h => by
    rcases keyIs_shape hu with ⟨i, t, rfl, rfl⟩ | ⟨x, t, rfl, rfl⟩
    · rcases keyIs_shape hv with ⟨j, u, rfl, rfl⟩ | ⟨y, u, rfl, rfl⟩
      · rw [key_ll] at h; exact wpAny_eqBool_int h
      · rw [key_lr] at h; exact SeqAt.EqAt.int_str i t y u _ _ _ _ h
    · rcases keyIs_shape hv with ⟨j, u, rfl, rfl⟩ | ⟨y, u, rfl, rfl⟩
      · rw [key_rl] at h; exact SeqAt.EqAt.str_int x t j u _ _ _ _ h
      · rw [key_rr] at h; exact wpAny_eqBool_str h
  «strs» := fun k x t v h => by
    rcases keyIs_shape h with ⟨i, u, rfl, e⟩ | ⟨y, u, rfl, e⟩
    · exact nomatch e
    · injection e with e1 _
      subst e1
      cases v <;> rfl

theorem mixKind_int (prog : Program) (w : World) (i : Int) (t : Tok) : (mixKind prog w).is (.inl i) (.int i t) = true := keyIs_int i t
theorem mixKind_str (prog : Program) (w : World) (x : Str) (t : Tok) : (mixKind prog w).is (.inr x) (.str x t) = true := keyIs_str x t
end L2

namespace L2
open PySem PySem.Spec PyProof.Rows

/-- a value, without the heap -/
inductive V where
  | non | bl (b : Bool) | int (i : Int) | str (x : Str) | byt (b : Array UInt8) | flt (b : UInt64) | ref (a : Addr) | ty (n : String)
  deriving DecidableEq

def RelV : V → Value → Prop
  | .non, u => u = Value.none
  | .bl b, u => u = Value.bool b
  | .int i, u => ∃ t, u = Value.int i t
  | .str x, u => ∃ t, u = Value.str x t
  | .byt b, u => ∃ t, u = Value.bytes b t
  | .flt b, u => ∃ t, u = Value.float b t
  | .ref a, u => u = Value.ref a
  | .ty n, u => u = Value.type n

abbrev Vals : List V → List Value → Prop := Paired RelV
theorem Vals.length {xs : List V} {us : List Value} (r : Vals xs us) : xs.length = us.length := Paired.length r
theorem Vals.get : ∀ {xs : List V} {us : List Value} {i : Nat} {x : V}, Vals xs us → xs[i]? = some x → ∃ u, us[i]? = some u ∧ RelV x u
  | _, _, _, _, .nil, e => by simp at e
  | _, _, 0, _, .cons r _, e => by simp at e; subst e; exact ⟨_, rfl, r⟩
  | _, _, i + 1, x, .cons _ t, e => by
    obtain ⟨u, h1, h2⟩ := Vals.get (i := i) (x := x) t (by simpa using e)
    exact ⟨u, by simpa using h1, h2⟩
theorem Vals.set {x : V} {u : Value} (r : RelV x u) : ∀ {xs : List V} {us : List Value} (i : Nat), Vals xs us → Vals (xs.set i x) (us.set i u)
  | _, _, _, .nil => .nil
  | _, _, 0, .cons _ t => .cons r t
  | _, _, i + 1, .cons q t => .cons q (Vals.set r i t)
theorem Vals.append : ∀ {xs ys : List V} {us ws : List Value}, Vals xs us → Vals ys ws → Vals (xs ++ ys) (us ++ ws)
  | _, _, _, _, .nil, s => s
  | _, _, _, _, .cons r t, s => .cons r (Vals.append t s)
theorem Vals.take : ∀ {xs : List V} {us : List Value} (n : Nat), Vals xs us → Vals (xs.take n) (us.take n)
  | _, _, 0, _ => .nil
  | _, _, _ + 1, .nil => .nil
  | _, _, n + 1, .cons r t => .cons r (Vals.take n t)
theorem Vals.drop : ∀ {xs : List V} {us : List Value} (n : Nat), Vals xs us → Vals (xs.drop n) (us.drop n)
  | _, _, 0, r => r
  | _, _, _ + 1, .nil => .nil
  | _, _, n + 1, .cons _ t => Vals.drop n t
def RelO : Option V → Option Value → Prop
  | some v, some u => RelV v u
  | none, none => True
  | _, _ => False
def KV {κ : Type} : List (κ × V) → List (κ × Value) → Prop := Paired fun (p : κ × V) (q : κ × Value) => p.1 = q.1 ∧ RelV p.2 q.2

/-- a key of a dict (00_mix): an int or a text -/
def kV : Key → V
  | .inl i => .int i
  | .inr x => .str x

/-- what stands at a tracked address -/
inductive HO where
  /-- a list -/
  | lst (xs : List V)
  /-- a tuple (never changes) -/
  | tup (xs : List V)
  /-- a dict whose keys are ints and texts; one whose keys are tuples of ints and texts (the empty one is both) -/
  | dK (kvs : List (Key × V)) | dT (kvs : List (List Key × V))
  /-- a set of ints: its members, its size -/
  | set (S : Int → Bool) (n : Nat)
  /-- an instance of the class at C, its dict at dx, its attributes -/
  | ins (C dx : Addr) (fs : List (Str × V))
  /-- the dict of the instance at x -/
  | own (x : Addr)
  /-- the dict of an exception -/
  | xd (fs : List (Str × V))
  /-- a bound method, f of x -/
  | met (f x : Addr)
  /-- a range object lo, lo + 1, .. below hi -/
  | rng (lo hi : Int)
  /-- a thing that is known to the object (the script; a dict while a loop walks it): read, never written while it is so -/
  | frz (o : Obj) (u : HO)
  /-- a code object's table -/
  | tbl (ps : Array Value)
  /-- any other thing, by what is true of its one object (a def of one's own: SetO a S n := HO.ext fun h => ..) -/
  | ext (φ : Heap → Prop)

abbrev Hp := Addr → Option HO
def upd (H : Hp) (a : Addr) (o : HO) : Hp := fun b => if b = a then some o else H b
theorem upd_same {H : Hp} {a : Addr} {o : HO} : upd H a o a = some o := by unfold upd; rw [if_pos rfl]
theorem upd_ne {H : Hp} {a b : Addr} {o : HO} (h : b ≠ a) : upd H a o b = H b := by unfold upd; rw [if_neg h]
theorem upd_upd {H : Hp} {a : Addr} {o u : HO} : upd (upd H a o) a u = upd H a u := by
  funext b; unfold upd; split <;> rfl
/-- two objects of different content stand apart -/
theorem ne_of {H : Hp} {a b : Addr} {o u : HO} (h : H a = some o) (h' : H b = some u) (d : o ≠ u) : a ≠ b := by
  intro e; subst e; rw [h] at h'; exact d (Option.some.inj h')
theorem ne_of_none {H : Hp} {a b : Addr} {o : HO} (h : H a = some o) (h' : H b = none) : a ≠ b := by
  intro e; subst e; rw [h] at h'; cases h'

section
variable (P : Program) (w : World)
def ObjOk (H : Hp) (h : Heap) (a : Addr) : HO → Prop
  | .lst xs => xs.length ≤ sizeLine ∧ ∃ (its : List Value) (n : Nat), Vals xs its ∧ h.get? a = some { cls := .type "list", data := .seq its.toArray n }
  | .tup xs => xs.length ≤ sizeLine ∧ ∃ its : List Value, Vals xs its ∧ IsTup h a its.toArray
  | .dK kvs => kvs.length ≤ sizeLine ∧ (a == sysModules) = false ∧ ∃ vs, KV kvs vs ∧ h.DictOf (mixKind P w) a vs
  | .dT kvs => kvs.length ≤ sizeLine ∧ (a == sysModules) = false ∧ ∃ xs : List (List Key × Addr × Value),
      Paired (fun (p : List Key × V) (q : List Key × Addr × Value) => p.1 = q.1 ∧ H q.2.1 = some (.tup (p.1.map kV)) ∧ RelV p.2 q.2.2) kvs xs ∧
      ∃ o es ep, h.get? a = some o ∧ o.ExactDict ∧ o.data = .dict es ep ∧ es.toList = xs.map (entryOfKey (tupleKind (mixKind P w))) ∧ (xs.map (·.1)).Nodup
  | .set S n => h.SetOf (intKind P w) a S n
  | .ins C dx fs => H dx = some (.own a) ∧ fs.length ≤ 1000 ∧ dx ≠ a ∧ h.get? a = some (PySem.W.instObj C dx) ∧
      ∃ mA, h.Ns1 dx mA ∧ (∀ f, RelO (fs.lookup f) (mA f)) ∧ PySem.Within mA (fs.map (·.1))
  | .own _ => ∃ o, h.get? a = some o
  | .xd fs => ∃ mA, h.Ns1 a mA ∧ ∀ f, RelO (fs.lookup f) (mA f)
  | .rng lo hi => ∃ t u v, h.get? a = some { cls := .type "range", data := .fields #[.int lo t, .int hi u, .int 1 v] }
  | .frz o u => h.get? a = some o ∧ ObjOk H h a u
  | .tbl ps => h.get? a = some { cls := .none, data := .fields ps }
  | .met f x => h.get? a = some (PySem.W.methodObj (.ref f) (.ref x))
  | .ext φ => φ h ∧ (∃ o, h.get? a = some o) ∧ ∀ h1 h2 : Heap, φ h1 → (∀ o, h1.get? a = some o → h2.get? a = some o) → φ h2
/-- the abstract heap is held -/
def HOk (H : Hp) (h : Heap) : Prop := ∀ a o, H a = some o → ObjOk P w H h a o
end

section
variable {P : Program} {w : World} {H H' : Hp} {h h' : Heap} {a : Addr} {o : HO}
theorem ObjOk.lt (x : ObjOk P w H h a o) : a < h.objs.size := by
  cases o with
  | lst xs => obtain ⟨_, _, _, _, e⟩ := x; exact Heap.lt_size e
  | tup xs => obtain ⟨_, _, _, p⟩ := x; exact p.lt
  | dK kvs => obtain ⟨_, _, _, _, o, _, _, e, _⟩ := x; exact Heap.lt_size e
  | dT kvs => obtain ⟨_, _, _, _, o, _, _, e, _⟩ := x; exact Heap.lt_size e
  | set S n => obtain ⟨o, _, _, _, e, _⟩ := x; exact Heap.lt_size e
  | ins C dx fs => obtain ⟨_, _, _, e, _⟩ := x; exact Heap.lt_size e
  | own y => obtain ⟨_, e⟩ := x; exact Heap.lt_size e
  | xd fs => obtain ⟨_, ⟨_, _, _, e, _⟩, _⟩ := x; exact Heap.lt_size e
  | rng lo hi => obtain ⟨_, _, _, e⟩ := x; exact Heap.lt_size e
  | frz ob u => obtain ⟨e, _⟩ := x; exact Heap.lt_size e
  | tbl ps => exact Heap.lt_size (show h.get? a = some _ from x)
  | met f y => exact Heap.lt_size (show h.get? a = some _ from x)
  | ext φ => obtain ⟨_, ⟨_, e⟩, _⟩ := x; exact Heap.lt_size e
theorem Paired.mapP {α β : Type} {F G : α → β → Prop} : ∀ {l₁ : List α} {l₂ : List β}, Paired F l₁ l₂ → (∀ a b, F a b → G a b) → Paired G l₁ l₂
  | _, _, .nil, _ => .nil
  | _, _, .cons r t, f => .cons (f _ _ r) (Paired.mapP t f)
/-- what an object's description leans on: its own object, its own dict, the tuples -/
theorem ObjOk.stay (x : ObjOk P w H h a o) (k : ∀ b u, (b = a ∨ H b = some (.own a)) → h.get? b = some u → h'.get? b = some u)
    (ho : ∀ b, H b = some (.own a) → H' b = some (.own a)) (ht : ∀ b xs, H b = some (.tup xs) → H' b = some (.tup xs)) : ObjOk P w H' h' a o := by
  induction o with
  | lst xs => obtain ⟨z, its, n, r, e⟩ := x; exact ⟨z, its, n, r, k _ _ (.inl rfl) e⟩
  | tup xs => obtain ⟨z, its, r, ob, e, c⟩ := x; exact ⟨z, its, r, ob, k _ _ (.inl rfl) e, c⟩
  | dK kvs => obtain ⟨z, y, vs, r, ob, es, ep, e, c⟩ := x; exact ⟨z, y, vs, r, ob, es, ep, k _ _ (.inl rfl) e, c⟩
  | dT kvs =>
    obtain ⟨z, y, xs, r, ob, es, ep, e, c⟩ := x
    exact ⟨z, y, xs, Paired.mapP r fun p q z => ⟨z.1, ht _ _ z.2.1, z.2.2⟩, ob, es, ep, k _ _ (.inl rfl) e, c⟩
  | set S n => obtain ⟨ob, es, ep, t, e, c⟩ := x; exact ⟨ob, es, ep, t, k _ _ (.inl rfl) e, c⟩
  | ins C dx fs =>
    obtain ⟨d, z, ne, e, mA, ⟨od, es, ep, e2, c⟩, r⟩ := x
    exact ⟨ho _ d, z, ne, k _ _ (.inl rfl) e, mA, ⟨od, es, ep, k _ _ (.inr d) e2, c⟩, r⟩
  | own y => obtain ⟨ob, e⟩ := x; exact ⟨ob, k _ _ (.inl rfl) e⟩
  | xd fs => obtain ⟨mA, ⟨od, es, ep, e, c⟩, r⟩ := x; exact ⟨mA, ⟨od, es, ep, k _ _ (.inl rfl) e, c⟩, r⟩
  | rng lo hi => obtain ⟨t, u, v, e⟩ := x; exact ⟨t, u, v, k _ _ (.inl rfl) e⟩
  | frz ob u ih => obtain ⟨e, q⟩ := x; exact ⟨k _ _ (.inl rfl) e, ih q⟩
  | tbl ps =>
    have e : h.get? a = some { cls := .none, data := .fields ps } := x
    show h'.get? a = some { cls := .none, data := .fields ps }
    exact k a _ (.inl rfl) e
  | met f y =>
    have e : h.get? a = some (PySem.W.methodObj (.ref f) (.ref y)) := x
    show h'.get? a = some (PySem.W.methodObj (.ref f) (.ref y))
    exact k a _ (.inl rfl) e
  | ext φ => obtain ⟨p, ⟨o, e⟩, st⟩ := x; exact ⟨st _ _ p fun o q => k _ _ (.inl rfl) q, ⟨o, k _ _ (.inl rfl) e⟩, st⟩
theorem HOk.lt (x : HOk P w H h) (e : H a = some o) : a < h.objs.size := (x a o e).lt
theorem HOk.fresh (x : HOk P w H h) (e : h.objs.size ≤ a) : H a = none := by
  cases q : H a with
  | none => rfl
  | some u => exact absurd (Nat.lt_of_lt_of_le (x.lt q) e) (Nat.lt_irrefl _)
/-- every object of the heap is kept -/
theorem HOk.kept (x : HOk P w H h) (k : ∀ b u, h.get? b = some u → h'.get? b = some u) : HOk P w H h' := fun a o e =>
  (x a o e).stay (fun b u _ q => k b u q) (fun _ q => q) fun _ _ q => q
/-- a new object is laid and tracked -/
theorem HOk.laid (x : HOk P w H h) (k : ∀ b u, h.get? b = some u → h'.get? b = some u) (hp : h.objs.size ≤ a) (new : ObjOk P w (upd H a o) h' a o) : HOk P w (upd H a o) h' := fun b u e => by
  have hn := x.fresh hp
  by_cases hb : b = a
  · subst hb; rw [upd_same] at e; cases e; exact new
  · rw [upd_ne hb] at e
    exact (x b u e).stay (fun c v _ q => k c v q) (fun c q => by rw [upd_ne (ne_of_none q hn)]; exact q) fun c xs q => by rw [upd_ne (ne_of_none q hn)]; exact q
end

/-- what may be read as u: it is u, or a known u -/
def Rd (H : Hp) (a : Addr) (u : HO) : Prop := H a = some u ∨ ∃ o, H a = some (.frz o u)
theorem Rd.ok {P : Program} {w : World} {H : Hp} {h : Heap} {a : Addr} {u : HO} (r : Rd H a u) (x : HOk P w H h) : ObjOk P w H h a u := by
  rcases r with r | ⟨o, r⟩
  · exact x a u r
  · obtain ⟨_, q⟩ := x a _ r
    exact q
/-- what may be written -/
def Mut : Option HO → Prop
  | some (.lst _) => True
  | some (.dK _) => True
  | some (.dT _) => True
  | some (.set _ _) => True
  | some (.ins _ _ _) => True
  | some (.ext _) => True
  | _ => False
section
variable {P : Program} {w : World} {H : Hp} {h h' : Heap} {x e : Addr} {o' : HO}
/-- the object at e is changed: x itself, or the dict of the instance x -/
theorem HOk.write (ok : HOk P w H h) (mu : Mut (H x)) (he : e = x ∨ H e = some (.own x)) (k : ∀ b u, b ≠ e → h.get? b = some u → h'.get? b = some u) (heo : ∃ u, h'.get? e = some u)
    (new : ObjOk P w (upd H x o') h' x o') : HOk P w (upd H x o') h' := fun b u q => by
  have nown : ∀ c y, H c = some (.own y) → c ≠ x := fun c y r z => by subst z; rw [r] at mu; exact mu
  have ntup : ∀ c xs, H c = some (.tup xs) → c ≠ x := fun c xs r z => by subst z; rw [r] at mu; exact mu
  by_cases hb : b = x
  · subst hb; rw [upd_same] at q; cases q; exact new
  · rw [upd_ne hb] at q
    by_cases hbe : b = e
    · have q' : H b = some (.own x) := by
        rcases he with z | z
        · exact absurd (hbe.trans z) hb
        · rw [hbe]; exact z
      rw [q] at q'; cases q'
      obtain ⟨v, hv⟩ := heo
      exact ⟨v, by rw [hbe]; exact hv⟩
    · refine (ok b u q).stay (fun c v hc r => k c v ?_ r) (fun c r => by rw [upd_ne (nown c b r)]; exact r) fun c xs r => by rw [upd_ne (ntup c xs r)]; exact r
      rcases hc with rfl | hc
      · exact hbe
      · rintro rfl
        rcases he with z | z
        · exact nown c b hc z
        · rw [hc] at z; cases z; exact hb rfl
end

/-! ### kept unless tracked; of the frames at fs (the callers') the slots may change (an exception that passes writes there); of the records at ex (iterators) nothing is said -/
structure Un (fs ex : List Addr) (H H' : Hp) (h h' : Heap) : Prop where
  keep : ∀ b o, h.get? b = some o → H b = none → b ∉ fs → b ∉ ex → h'.get? b = some o
  slot : ∀ b o, h.get? b = some o → H b = none → b ∈ fs → b ∉ ex → ∃ sl, h'.get? b = some { o with slots := sl }
  free : ∀ b o, h.get? b = some o → H b = none → b ∉ ex → H' b = none
  there : ∀ b o, h.get? b = some o → b ∉ ex → ∃ o', h'.get? b = some o'
  tups : ∀ b xs, H b = some (.tup xs) → H' b = some (.tup xs)
  frzs : ∀ b o u, H b = some (.frz o u) → H' b = some (.frz o u)
  tbls : ∀ b ps, H b = some (.tbl ps) → ∃ more, H' b = some (.tbl (ps ++ more))
section
variable {fs fs' ex ex' : List Addr} {H H1 H2 : Hp} {h h1 h2 h' : Heap} {a x e : Addr} {o : HO}
theorem Un.any (u : Un fs ex H H1 h h1) {b : Addr} {ob : Obj} (q : h.get? b = some ob) (n : H b = none) (hx : b ∉ ex) : ∃ sl, h1.get? b = some { ob with slots := sl } := by
  by_cases hb : b ∈ fs
  · exact u.slot b ob q n hb hx
  · exact ⟨ob.slots, u.keep b ob q n hb hx⟩
theorem Un.kept (k : ∀ b u, h.get? b = some u → h'.get? b = some u) : Un fs ex H H h h' :=
  ⟨fun b ob q _ _ _ => k b ob q, fun b ob q _ _ _ => ⟨ob.slots, k b ob q⟩, fun _ _ _ n _ => n, fun b ob q _ => ⟨ob, k b ob q⟩, fun _ _ q => q, fun _ _ _ q => q, fun _ ps q => ⟨#[], by rw [q]; simp⟩⟩
theorem Un.refl : Un fs ex H H h h := Un.kept fun _ _ q => q
theorem Un.laid (k : ∀ b u, h.get? b = some u → h'.get? b = some u) (hp : h.objs.size ≤ a) (hn : H a = none) : Un fs ex H (upd H a o) h h' where
  keep := fun b u q _ _ _ => k b u q
  slot := fun b u q _ _ _ => ⟨u.slots, k b u q⟩
  free := fun b u q n _ => by rw [upd_ne (Nat.ne_of_lt (Nat.lt_of_lt_of_le (Heap.lt_size q) hp))]; exact n
  there := fun b u q _ => ⟨u, k b u q⟩
  tups := fun b xs q => by rw [upd_ne (ne_of_none q hn)]; exact q
  frzs := fun b u xs q => by rw [upd_ne (ne_of_none q hn)]; exact q
  tbls := fun b ps q => ⟨#[], by rw [upd_ne (ne_of_none q hn), q]; simp⟩
theorem Un.write (mu : Mut (H x)) (he : e = x ∨ H e = some (.own x)) (k : ∀ b u, b ≠ e → h.get? b = some u → h'.get? b = some u) (heo : ∃ u, h'.get? e = some u) : Un fs ex H (upd H x o) h h' := by
  have hx : ∀ b, H b = none → b ≠ x := fun b n z => by subst z; rw [n] at mu; exact mu
  have hb : ∀ b, H b = none → b ≠ e := fun b n z => by
    subst z
    rcases he with r | r
    · exact hx b n r
    · rw [n] at r; cases r
  have hm : ∀ b u, H b = some u → ¬ Mut (some u) → b ≠ x := fun b u q nm z => by subst z; rw [q] at mu; exact nm mu
  refine ⟨fun b u q n _ _ => k b u (hb b n) q, fun b u q n _ _ => ⟨u.slots, k b u (hb b n) q⟩, fun b u q n _ => by rw [upd_ne (hx b n)]; exact n, fun b u q _ => ?_,
    fun b xs q => by rw [upd_ne (hm b _ q fun z => z)]; exact q, fun b u xs q => by rw [upd_ne (hm b _ q fun z => z)]; exact q, fun b ps q => ⟨#[], by rw [upd_ne (hm b _ q fun z => z), q]; simp⟩⟩
  by_cases hbe : b = e
  · subst hbe; exact heo
  · exact ⟨u, k b u hbe q⟩
end

/-! ### the heap without what is tracked -/
def trk (h : Heap) (H : Hp) : List Addr := (List.range h.objs.size).filter fun a => (H a).isSome
def hidT (h : Heap) (H : Hp) : Heap := PySem.W.hideAll h (trk h H)
theorem hidT_size (h : Heap) (H : Hp) : (hidT h H).objs.size = h.objs.size := PySem.W.hideAll_size _ _
theorem hidT_get {h : Heap} {H : Hp} {b : Addr} {o : Obj} (e : h.get? b = some o) (n : H b = none) : (hidT h H).get? b = some o :=
  PySem.W.hideAll_get _ e fun hm => by
    have q : (H b).isSome = true := (List.mem_filter.mp hm).2
    rw [n] at q; simp at q
theorem of_hidT {h : Heap} {H : Hp} {b : Addr} {o : Obj} (e : (hidT h H).get? b = some o) : h.get? b = some o ∧ H b = none := by
  have e' : h.get? b = some o := PySem.W.of_hideAll (trk h H) e
  refine ⟨e', ?_⟩
  cases q : H b with
  | none => rfl
  | some x =>
    have hm : b ∈ trk h H := List.mem_filter.mpr ⟨List.mem_range.mpr (Heap.lt_size e'), by simp [q]⟩
    have z : (hidT h H).get? b = none := PySem.W.hideAll_none (trk h H) hm
    rw [z] at e; cases e

/-! ### OpenK's ledger, filled with every new object but one -/
end L2

namespace L2
open PySem PySem.Spec PyProof.Rows

/-- the module's facts, over the base: the heap at the law's entry without what is tracked there -/
structure Mod (K : PySem.W.Frag) (mg : Str → Option Value) (base : Heap) : Prop where
  kin : K.In base
  glob : base.Ns mainGlobals mg
  blt : ∃ mb, base.Ns builtinsNs mb ∧ ∀ x : Str, x ≠ "__name__" → mb x = bootBuiltins x
  nolimit : base.NoLimit

/-- the context: a def's body (or a comprehension's block) running. base: fixed through the whole law; s₀, H₀: the entry; outer: the frames whose slots others may change (a def's callers); stack: all frames that run;
   ex: iterators that were made ahead of the entry and are walked here (a comprehension's); fn: the names whose cells were made at the entry (a def: all; a comprehension's block: its own); calm: not within an except suite; pn: pins that every state bears; xe: what is wanted of an exception that leaves the code -/
structure Cx where
  prog : Program
  w : World
  K : PySem.W.Frag
  mg : Str → Option Value
  base : Heap
  A : Around
  N : List Str
  s₀ : Shared
  H₀ : Hp
  env : Env
  outer : List Env
  stack : List Env
  ex : List Addr
  fn : Str → Bool
  calm : Bool
  pn : List (Addr × Obj)
  xe : Value → Shared → Prop
/-- the callers' frames -/
def frs (l : List Env) : List Addr := l.filterMap (·.frame)
abbrev Cx.fs (X : Cx) : List Addr := frs X.outer

def Vis (sc : Scope) (x : Str) : Prop := sc.names.lookup x = some .local ∨ sc.names.lookup x = some .cell ∨ sc.names.lookup x = some .free
def Loc (sc : Scope) (x : Str) : Prop := sc.names.lookup x = some .local ∨ sc.names.lookup x = some .cell
def Look (env : Env) (h : Heap) (m : Str → Option Value) (x : Str) (u : Value) : Prop :=
  (env.kindOf x = some .local ∧ m x = some u) ∨ ((env.kindOf x = some .cell ∨ env.kindOf x = some .free) ∧ ∃ c, env.cells.lookup x = some c ∧ h.IsCell c (some u))

structure Cx.Ok (X : Cx) : Prop where
  mod : Mod X.K X.mg X.base
  kind : X.env.scope.kind = .function
  glob : X.env.globals = mainGlobals
  blt : X.env.builtins = builtinsNs
  above : X.s₀.heap.objs.size ≤ X.env.locals
  inj : ∀ x y c, X.env.cells.lookup x = some c → X.env.cells.lookup y = some c → x = y
  has : ∀ x, (X.env.kindOf x = some .cell ∨ X.env.kindOf x = some .free) → ∃ c, X.env.cells.lookup x = some c
  cab : ∀ x c, X.fn x = true → X.env.cells.lookup x = some c → X.s₀.heap.objs.size ≤ c
  hd : X.calm = true → X.A.handled = none
  frames : X.A.frames = some X.stack
  stk : X.stack = X.outer ∨ (X.stack = X.env :: X.outer ∧ X.env.frame = some X.env.locals)
  exf : ∀ b ∈ X.ex, b ≠ X.env.locals ∧ ∀ x c, X.env.cells.lookup x = some c → c ≠ b
  bs : ∀ b o, X.base.get? b = some o → X.s₀.heap.get? b = some o ∧ X.H₀ b = none
  bsz : X.base.objs.size ≤ X.s₀.heap.objs.size
  noex : ∀ b o, X.base.get? b = some o → b ∉ X.ex
  exfs : ∀ b ∈ X.ex, b ∉ X.fs
  funs : X.s₀.heap.FunFrames X.base X.outer
  frf : ∀ b ∈ X.fs, X.H₀ b = none

structure Inv (X : Cx) (pins : List (Addr × Obj)) (σ : List (Option V)) (H : Hp) (s : Shared) : Prop where
  ok : X.Ok
  os : s.os = X.s₀.os
  bare : AllBare s.gens
  base : Un X.fs X.ex X.H₀ H X.s₀.heap s.heap
  loc : ∃ m, s.heap.Ns X.env.locals m ∧ ∀ (i : Nat) (x : Str) (v : V), X.N[i]? = some x → σ[i]? = some (some v) → Vis X.env.scope x → ∃ u, RelV v u ∧ Look X.env s.heap m x u
  cell : ∀ x c, X.env.cells.lookup x = some c → ∃ v, s.heap.IsCell c v
  free : H X.env.locals = none
  freeC : ∀ x c, X.env.cells.lookup x = some c → H c = none
  pin : ∀ p ∈ X.pn ++ pins, s.heap.get? p.1 = some p.2 ∧ H p.1 = none ∧ p.1 ≠ X.env.locals ∧ p.1 ∉ X.fs ∧ ∀ v, p.2.data ≠ .cell v
  hok : HOk X.prog X.w H s.heap
  len : σ.length = X.N.length

section
variable {X : Cx} {pins : List (Addr × Obj)} {σ : List (Option V)} {H H' : Hp} {s : Shared} {h' : Heap}

theorem Cx.Ok.nofr (ok : X.Ok) {b : Addr} {o : Obj} (e : X.base.get? b = some o) : b ∉ X.fs := fun hb => by
  have := (ok.funs.mem hb).1
  rw [e] at this; cases this
theorem Inv.bs (I : Inv X pins σ H s) : ∀ b o, X.base.get? b = some o → s.heap.get? b = some o ∧ H b = none := fun b o e =>
  ⟨I.base.keep b o (I.ok.bs b o e).1 (I.ok.bs b o e).2 (I.ok.nofr e) (I.ok.noex b o e), I.base.free b o (I.ok.bs b o e).1 (I.ok.bs b o e).2 (I.ok.noex b o e)⟩
theorem Inv.bk (I : Inv X pins σ H s) : ∀ b o, X.base.get? b = some o → s.heap.get? b = some o := fun b o e => (I.bs b o e).1
theorem Inv.mod (I : Inv X pins σ H s) : Mod X.K X.mg X.base := I.ok.mod
theorem Inv.kIn (I : Inv X pins σ H s) : X.K.In s.heap := I.ok.mod.kin.keeps I.bk
theorem Inv.lt (I : Inv X pins σ H s) : X.env.locals < s.heap.objs.size := let ⟨_, hn, _⟩ := I.loc; hn.lt
theorem Inv.sz (I : Inv X pins σ H s) : X.s₀.heap.objs.size ≤ s.heap.objs.size := Nat.le_trans I.ok.above (Nat.le_of_lt I.lt)
theorem Inv.nofs (I : Inv X pins σ H s) {a : Addr} (h : s.heap.objs.size ≤ a) : a ∉ X.fs := fun hb => by
  obtain ⟨_, o, ho, _⟩ := I.ok.funs.mem hb
  exact absurd (Nat.lt_of_lt_of_le (Heap.lt_size ho) (Nat.le_trans I.sz h)) (Nat.lt_irrefl _)
theorem Inv.cne (I : Inv X pins σ H s) : ∀ x c, X.env.cells.lookup x = some c → c ≠ X.env.locals := fun x c e z => by
  obtain ⟨v, o, ho, hd⟩ := I.cell x c e
  obtain ⟨m, ⟨o', es, ep, ho', hd', _⟩, _⟩ := I.loc
  rw [z, ho'] at ho; cases ho; rw [hd'] at hd; cases hd
theorem Inv.funs (I : Inv X pins σ H s) : s.heap.FunFrames X.base X.outer := by
  have all : ∀ (l : List Env), (∀ b ∈ frs l, b ∈ X.fs) → X.s₀.heap.FunFrames X.base l → s.heap.FunFrames X.base l := by
    intro l
    induction l with
    | nil => intro _ _; trivial
    | cons env r ih =>
      intro hs hl
      obtain ⟨hk, ⟨L, o, hf, hn, ho, hd⟩, hr⟩ := hl
      have hL : L ∈ X.fs := hs L (by unfold frs; rw [List.filterMap_cons, hf]; exact List.mem_cons_self)
      obtain ⟨sl, e⟩ := I.base.slot L o ho (I.ok.frf L hL) hL fun z => I.ok.exfs L z hL
      exact ⟨hk, ⟨L, _, hf, hn, e, hd⟩, ih (fun b hb => hs b (by unfold frs; rw [List.filterMap_cons, hf]; exact List.mem_cons_of_mem _ hb)) hr⟩
  exact all X.outer (fun _ hb => hb) I.ok.funs

/-- the frames that run, for a call -/
theorem Inv.stack (I : Inv X pins σ H s) : s.heap.FunFrames X.base X.stack := by
  rcases I.ok.stk with e | ⟨e, hf⟩
  · rw [e]; exact I.funs
  · rw [e]
    obtain ⟨m, hn, _⟩ := I.loc
    refine .cons (by rw [I.ok.kind]; decide) hf hn ?_ I.funs
    exact Heap.get?_none_of_le (Nat.le_trans I.ok.bsz I.ok.above)
theorem Inv.stkSub (I : Inv X pins σ H s) : ∀ b ∈ frs X.stack, b ∈ X.env.locals :: X.fs := fun b hb => by
  rcases I.ok.stk with e | ⟨e, hf⟩
  · rw [e] at hb; exact List.mem_cons_of_mem _ hb
  · rw [e] at hb
    unfold frs at hb
    rw [List.filterMap_cons, hf] at hb
    exact hb
theorem Inv.stkFree (I : Inv X pins σ H s) : ∀ b ∈ frs X.stack, H b = none := fun b hb => by
  rcases List.mem_cons.mp (I.stkSub b hb) with e | hb
  · rw [e]; exact I.free
  · obtain ⟨_, o, ho, _⟩ := I.ok.funs.mem hb
    exact I.base.free b o ho (I.ok.frf b hb) fun z => I.ok.exfs b z hb

/-- THE STEP: the untracked objects but the frame and the records at ch are kept (the callers' frames up to slots), the frame's map is kept, the new abstract heap is held -/
theorem Inv.step {g' : Array GenState} {t' : Nat} {d' : Drawn} {ch : List Addr} (I : Inv X pins σ H s)
    (hch : ∀ b ∈ ch, (b ∈ X.ex ∨ X.s₀.heap.objs.size ≤ b) ∧ b ≠ X.env.locals ∧ (∀ x c, X.env.cells.lookup x = some c → c ≠ b) ∧ ∀ p ∈ X.pn ++ pins, p.1 ≠ b)
    (keep : ∀ b o, b ≠ X.env.locals → b ∉ X.fs → b ∉ ch → s.heap.get? b = some o → H b = none → h'.get? b = some o)
    (slot : ∀ b o, b ≠ X.env.locals → b ∈ X.fs → b ∉ ch → s.heap.get? b = some o → H b = none → ∃ sl, h'.get? b = some { o with slots := sl }) (free : ∀ b o, b ∉ ch → s.heap.get? b = some o → H b = none → H' b = none)
    (there : ∀ b o, b ∉ ch → s.heap.get? b = some o → ∃ o', h'.get? b = some o')
    (tups : ∀ b xs, H b = some (.tup xs) → H' b = some (.tup xs)) (frzs : ∀ b o u, H b = some (.frz o u) → H' b = some (.frz o u)) (tbls : ∀ b ps, H b = some (.tbl ps) → ∃ more, H' b = some (.tbl (ps ++ more)))
    (ns : ∀ m, s.heap.Ns X.env.locals m → h'.Ns X.env.locals m) (hok : HOk X.prog X.w H' h') (hg : AllBare g') :
    Inv X pins σ H' { s with heap := h', gens := g', drawn := d', toks := t' } := by
  have neL : ∀ b o, X.s₀.heap.get? b = some o → b ≠ X.env.locals := fun b o e => Nat.ne_of_lt (Nat.lt_of_lt_of_le (Heap.lt_size e) I.ok.above)
  have neC : ∀ b o, X.s₀.heap.get? b = some o → b ∉ X.ex → b ∉ ch := fun b o e hx hb => by
    rcases (hch b hb).1 with z | z
    · exact hx z
    · exact absurd (Nat.lt_of_lt_of_le (Heap.lt_size e) z) (Nat.lt_irrefl _)
  have cellK : ∀ x c, X.env.cells.lookup x = some c → ∀ v, s.heap.IsCell c v → h'.IsCell c v := fun x c e v ⟨o, ho, hd⟩ => by
    have nch : c ∉ ch := fun z => (hch c z).2.2.1 x c e rfl
    by_cases hc : c ∈ X.fs
    · obtain ⟨sl, q⟩ := slot c o (I.cne x c e) hc nch ho (I.freeC x c e)
      exact ⟨_, q, hd⟩
    · exact ⟨o, keep c o (I.cne x c e) hc nch ho (I.freeC x c e), hd⟩
  refine ⟨I.ok, I.os, hg, ⟨fun b o e n hb hx => ?_, fun b o e n hb hx => ?_, fun b o e n hx => ?_, fun b o e hx => ?_, fun b xs e => tups b xs (I.base.tups b xs e), fun b o xs e => frzs b o xs (I.base.frzs b o xs e), fun b ps e => ?_⟩, ?_, fun x c e => ?_, ?_, fun x c e => ?_, fun p hp => ?_, hok, I.len⟩
  · exact keep b o (neL b o e) hb (neC b o e hx) (I.base.keep b o e n hb hx) (I.base.free b o e n hx)
  · obtain ⟨sl, e1⟩ := I.base.slot b o e n hb hx
    obtain ⟨sl', e2⟩ := slot b _ (neL b o e) hb (neC b o e hx) e1 (I.base.free b o e n hx)
    exact ⟨sl', e2⟩
  · obtain ⟨o', e1⟩ := I.base.there b o e hx
    exact free b o' (neC b o e hx) e1 (I.base.free b o e n hx)
  · obtain ⟨o', e1⟩ := I.base.there b o e hx
    exact there b o' (neC b o e hx) e1
  · obtain ⟨m1, e1⟩ := I.base.tbls b ps e
    obtain ⟨m2, e2⟩ := tbls b _ e1
    exact ⟨m1 ++ m2, by rw [e2, Array.append_assoc]⟩
  · obtain ⟨m, hn, hl⟩ := I.loc
    refine ⟨m, ns m hn, fun i x v e1 e2 e3 => ?_⟩
    obtain ⟨u, r, l⟩ := hl i x v e1 e2 e3
    refine ⟨u, r, ?_⟩
    rcases l with l | ⟨k, c, e, z⟩
    · exact .inl l
    · exact .inr ⟨k, c, e, cellK x c e _ z⟩
  · obtain ⟨v, z⟩ := I.cell x c e
    exact ⟨v, cellK x c e v z⟩
  · obtain ⟨m, ⟨o, _, _, ho, _⟩, _⟩ := I.loc
    exact free _ o (fun z => (hch _ z).2.1 rfl) ho I.free
  · obtain ⟨v, o, ho, hd⟩ := I.cell x c e
    exact free c o (fun z => (hch c z).2.2.1 x c e rfl) ho (I.freeC x c e)
  · obtain ⟨e, n, ne, nf, d⟩ := I.pin p hp
    have nch : p.1 ∉ ch := fun z => (hch p.1 z).2.2.2 p hp rfl
    exact ⟨keep p.1 p.2 ne nf nch e n, free p.1 p.2 nch e n, ne, nf, d⟩
/-- .. where the frame's own object is kept too -/
theorem Inv.un {t' : Nat} (I : Inv X pins σ H s) (u : Un X.fs [] H H' s.heap h') (hok : HOk X.prog X.w H' h') : Inv X pins σ H' { s with heap := h', toks := t' } := by
  obtain ⟨m, ⟨o, es, ep, ho, r⟩, _⟩ := id I.loc
  obtain ⟨sl, hL⟩ := u.any ho I.free (by simp)
  exact I.step (g' := s.gens) (d' := s.drawn) (ch := []) (fun _ z => nomatch z) (fun b o _ hb _ e n => u.keep b o e n hb (by simp)) (fun b o _ hb _ e n => u.slot b o e n hb (by simp)) (fun b o _ e n => u.free b o e n (by simp)) (fun b o _ e => u.there b o e (by simp)) u.tups u.frzs u.tbls (fun m' hm => by
    obtain ⟨o', es', ep', ho', r'⟩ := hm
    rw [ho] at ho'; cases ho'
    exact ⟨_, es', ep', hL, r'⟩) hok I.bare
/-- behind a call (or a comprehension's block): the slots of this frame may have changed too, the records at ch may have turned -/
theorem Inv.call {g' : Array GenState} {t' : Nat} {d' : Drawn} {ch : List Addr} (I : Inv X pins σ H s) (u : Un (frs X.stack) ch H H' s.heap h') (hok : HOk X.prog X.w H' h') (hg : AllBare g')
    (hch : ∀ b ∈ ch, (b ∈ X.ex ∨ X.s₀.heap.objs.size ≤ b) ∧ b ≠ X.env.locals ∧ (∀ x c, X.env.cells.lookup x = some c → c ≠ b) ∧ ∀ p ∈ X.pn ++ pins, p.1 ≠ b) :
    Inv X pins σ H' { s with heap := h', gens := g', drawn := d', toks := t' } := by
  obtain ⟨m, ⟨o, es, ep, ho, r⟩, _⟩ := id I.loc
  obtain ⟨sl, hL⟩ := u.any ho I.free fun z => (hch _ z).2.1 rfl
  exact I.step (ch := ch) hch (fun b o hL hb hc e n => u.keep b o e n (fun z => (List.mem_cons.mp (I.stkSub b z)).elim hL hb) hc) (fun b o _ _ hc e n => u.any e n hc) (fun b o hc e n => u.free b o e n hc) (fun b o hc e => u.there b o e hc) u.tups u.frzs u.tbls (fun m' hm => by
    obtain ⟨o', es', ep', ho', r'⟩ := hm
    rw [ho] at ho'; cases ho'
    exact ⟨_, es', ep', hL, r'⟩) hok hg
/-- an untracked record of ours (an iterator) has turned -/
theorem Inv.turned {t' : Nat} {it : Addr} (I : Inv X pins σ H s) (k : ∀ b o, b ≠ it → s.heap.get? b = some o → h'.get? b = some o) (hn : H it = none) (hL : it ≠ X.env.locals)
    (h1 : it ∈ X.ex ∨ X.s₀.heap.objs.size ≤ it) (h2 : ∀ x c, X.env.cells.lookup x = some c → c ≠ it) (h3 : ∀ p ∈ X.pn ++ pins, p.1 ≠ it) : Inv X pins σ H { s with heap := h', toks := t' } := by
  have nit : ∀ b u, H b = some u → b ≠ it := fun b u e z => by rw [z, hn] at e; cases e
  refine I.step (g' := s.gens) (d' := s.drawn) (ch := [it]) (fun b hb => ?_) (fun b o _ _ hc e _ => k b o (fun z => hc (by simp [z])) e) (fun b o _ _ hc e _ => ⟨o.slots, k b o (fun z => hc (by simp [z])) e⟩) (fun _ _ _ _ n => n)
    (fun b o hc e => ⟨o, k b o (fun z => hc (by simp [z])) e⟩) (fun _ _ e => e) (fun _ _ _ e => e) (fun b ps e => ⟨#[], by rw [e]; simp⟩) (fun m hm => ?_) (fun b u e => ?_) I.bare
  · have e : b = it := by simpa using hb
    subst e
    exact ⟨h1, hL, h2, h3⟩
  · obtain ⟨o, es, ep, ho, r⟩ := hm
    exact ⟨o, es, ep, k _ o (Ne.symm hL) ho, r⟩
  · refine (I.hok b u e).stay (fun c v hc q => k c v ?_ q) (fun _ q => q) fun _ _ q => q
    rcases hc with z | z
    · rw [z]; exact nit b u e
    · exact nit c _ z
theorem Inv.tok (I : Inv X pins σ H s) (t : Nat) : Inv X pins σ H { s with toks := t } := I.un (h' := s.heap) (t' := t) Un.refl I.hok
/-- all objects kept -/
theorem Inv.kept {t' : Nat} (I : Inv X pins σ H s) (k : ∀ b u, s.heap.get? b = some u → h'.get? b = some u) : Inv X pins σ H { s with heap := h', toks := t' } := I.un (Un.kept k) (I.hok.kept k)
/-- a new object laid and tracked -/
theorem Inv.laid {a : Addr} {o : HO} {t' : Nat} (I : Inv X pins σ H s) (k : ∀ b u, s.heap.get? b = some u → h'.get? b = some u) (hp : s.heap.objs.size ≤ a) (new : ObjOk X.prog X.w (upd H a o) h' a o) :
    Inv X pins σ (upd H a o) { s with heap := h', toks := t' } := I.un (Un.laid k hp (I.hok.fresh hp)) (I.hok.laid k hp new)
/-- an object written -/
theorem Inv.write {x e : Addr} {o : HO} {t' : Nat} (I : Inv X pins σ H s) (mu : Mut (H x)) (he : e = x ∨ H e = some (.own x)) (k : ∀ b u, b ≠ e → s.heap.get? b = some u → h'.get? b = some u) (heo : ∃ u, h'.get? e = some u)
    (new : ObjOk X.prog X.w (upd H x o) h' x o) : Inv X pins σ (upd H x o) { s with heap := h', toks := t' } := I.un (Un.write mu he k heo) (I.hok.write mu he k heo new)
theorem Inv.pins_of {pins' : List (Addr × Obj)} (I : Inv X pins σ H s) (h : ∀ p ∈ pins', s.heap.get? p.1 = some p.2 ∧ H p.1 = none ∧ p.1 ≠ X.env.locals ∧ p.1 ∉ X.fs ∧ ∀ v, p.2.data ≠ .cell v) : Inv X pins' σ H s :=
  ⟨I.ok, I.os, I.bare, I.base, I.loc, I.cell, I.free, I.freeC, fun p hp => (List.mem_append.mp hp).elim (fun z => I.pin p (List.mem_append_left _ z)) (h p), I.hok, I.len⟩

theorem nodup_ix {N : List Str} (hN : N.Nodup) {i j : Nat} {x : Str} (a : N[i]? = some x) (b : N[j]? = some x) : i = j := by
  obtain ⟨h1, e1⟩ := List.getElem?_eq_some_iff.mp a
  obtain ⟨h2, e2⟩ := List.getElem?_eq_some_iff.mp b
  exact (List.getElem_inj hN).mp (e1.trans e2.symm)

/-- a name is stored; what changed -/
theorem store_ok2 {M : Model} {A : Around} {E : Value → Shared → Prop} {i : Nat} {x : Str} {v : V} {u : Value} {Q : Unit → Shared → Prop} (I : Inv X pins σ H s) (hN : X.N.Nodup) (hi : X.N[i]? = some x) (hx : Loc X.env.scope x) (r : RelV v u)
    (h : ∀ s', Inv X pins (σ.set i (some v)) H s' → (∃ a, Heap.SameBut a s.heap s'.heap ∧ (a = X.env.locals ∨ X.env.cells.lookup x = some a)) → Q () s') (hf : X.fn x = true ∨ X.env.scope.names.lookup x = some .local := by first | exact .inl rfl | exact .inr rfl | assumption) : wpAny M A (storeName X.env x u) Q E s := by
  obtain ⟨m, hn, hl⟩ := id I.loc
  have hcls : (X.env.scope.kind == .class || (X.env.scope.kind == .module && X.env.locals != X.env.globals)) = false := by rw [I.ok.kind]; rfl
  have hiσ : i < σ.length := by rw [I.len]; exact (List.getElem?_eq_some_iff.mp hi).1
  have cne := I.cne
  have tracked : ∀ {a : Addr} {h' : Heap}, (∃ o, s.heap.get? a = some o ∧ H a = none) → Heap.SameBut a s.heap h' → HOk X.prog X.w H h' := fun {a h'} ha hs b ob e => by
    obtain ⟨_, _, hfree⟩ := ha
    refine (I.hok b ob e).stay (fun c w' hc q => (hs.2 c ?_).trans q) (fun _ q => q) fun _ _ q => q
    rintro rfl
    rcases hc with rfl | hc
    · rw [hfree] at e; cases e
    · rw [hfree] at hc; cases hc
  rcases hx with hk | hk
  · refine wpAny_storeName_local hk hn (fun h' hn' hs => ?_) hcls
    obtain ⟨oL, _, _, hoL, _⟩ := id hn
    refine h _ ⟨I.ok, I.os, I.bare, ⟨fun b o e n hb hx => ?_, fun b o e n hb hx => ?_, I.base.free, fun b o e hx => ?_, I.base.tups, I.base.frzs, I.base.tbls⟩, ⟨_, hn', fun j y v' e1 e2 e3 => ?_⟩, fun y c e => ?_, I.free, I.freeC, fun p hp => ?_, tracked ⟨oL, hoL, I.free⟩ hs, by simpa using I.len⟩ ⟨_, hs, .inl rfl⟩
    · exact (hs.2 b (Nat.ne_of_lt (Nat.lt_of_lt_of_le (Heap.lt_size e) I.ok.above))).trans (I.base.keep b o e n hb hx)
    · obtain ⟨sl, e1⟩ := I.base.slot b o e n hb hx
      exact ⟨sl, (hs.2 b (Nat.ne_of_lt (Nat.lt_of_lt_of_le (Heap.lt_size e) I.ok.above))).trans e1⟩
    · obtain ⟨o', e1⟩ := I.base.there b o e hx
      exact ⟨o', (hs.2 b (Nat.ne_of_lt (Nat.lt_of_lt_of_le (Heap.lt_size e) I.ok.above))).trans e1⟩
    · by_cases hj : j = i
      · subst hj
        rw [hi] at e1; cases e1
        rw [List.getElem?_set_self hiσ] at e2
        cases e2
        exact ⟨u, r, .inl ⟨hk, by simp⟩⟩
      · rw [List.getElem?_set_ne (Ne.symm hj)] at e2
        obtain ⟨u', r', q⟩ := hl j y v' e1 e2 e3
        refine ⟨u', r', ?_⟩
        rcases q with ⟨k, e⟩ | ⟨k, c, e, z⟩
        · refine .inl ⟨k, ?_⟩
          have : y ≠ x := fun e => hj (nodup_ix hN e1 (e ▸ hi))
          simp [this, e]
        · exact .inr ⟨k, c, e, z.sameBut hs (cne y c e)⟩
    · obtain ⟨w', z⟩ := I.cell y c e
      exact ⟨w', z.sameBut hs (cne y c e)⟩
    · obtain ⟨e, n, ne, nf, d⟩ := I.pin p hp
      exact ⟨(hs.2 p.1 ne).trans e, n, ne, nf, d⟩
  · have hfn : X.fn x = true := by
      rcases hf with z | z
      · exact z
      · rw [z] at hk; cases hk
    obtain ⟨c, hc⟩ := I.ok.has x (.inl hk)
    obtain ⟨w', z⟩ := I.cell x c hc
    refine wpAny_storeName_cell I.ok.kind hk hc z (fun h' hc' hs => ?_)
    obtain ⟨oc, hoc, hocd⟩ := id z
    refine h { s with heap := h' } ⟨I.ok, I.os, I.bare, ⟨fun b o e n hb hx => ?_, fun b o e n hb hx => ?_, I.base.free, fun b o e hx => ?_, I.base.tups, I.base.frzs, I.base.tbls⟩, ⟨m, hn.sameBut hs (Ne.symm (cne x c hc)), fun j y v' e1 e2 e3 => ?_⟩, fun y c' e => ?_, I.free, I.freeC, fun p hp => ?_, tracked ⟨oc, hoc, I.freeC x c hc⟩ hs, by simpa using I.len⟩ ⟨c, hs, .inr hc⟩
    · exact (hs.2 b (Nat.ne_of_lt (Nat.lt_of_lt_of_le (Heap.lt_size e) (I.ok.cab x c hfn hc)))).trans (I.base.keep b o e n hb hx)
    · obtain ⟨sl, e1⟩ := I.base.slot b o e n hb hx
      exact ⟨sl, (hs.2 b (Nat.ne_of_lt (Nat.lt_of_lt_of_le (Heap.lt_size e) (I.ok.cab x c hfn hc)))).trans e1⟩
    · obtain ⟨o', e1⟩ := I.base.there b o e hx
      exact ⟨o', (hs.2 b (Nat.ne_of_lt (Nat.lt_of_lt_of_le (Heap.lt_size e) (I.ok.cab x c hfn hc)))).trans e1⟩
    · by_cases hj : j = i
      · subst hj
        rw [hi] at e1; cases e1
        rw [List.getElem?_set_self hiσ] at e2
        cases e2
        exact ⟨u, r, .inr ⟨.inl hk, c, hc, hc'⟩⟩
      · rw [List.getElem?_set_ne (Ne.symm hj)] at e2
        obtain ⟨u', r', q⟩ := hl j y v' e1 e2 e3
        refine ⟨u', r', ?_⟩
        rcases q with q | ⟨k, c', e, z'⟩
        · exact .inl q
        · refine .inr ⟨k, c', e, z'.sameBut hs ?_⟩
          rintro rfl
          exact hj (nodup_ix hN e1 (I.ok.inj _ _ _ e hc ▸ hi))
    · by_cases hcc : c' = c
      · subst hcc; exact ⟨_, hc'⟩
      · obtain ⟨w2, z2⟩ := I.cell y c' e
        exact ⟨w2, z2.sameBut hs hcc⟩
    · obtain ⟨e, n, ne, nf, d⟩ := I.pin p hp
      refine ⟨(hs.2 p.1 ?_).trans e, n, ne, nf, d⟩
      intro q
      rw [q, hoc] at e
      have q' : oc = p.2 := Option.some.inj e
      exact d w' (by rw [← q']; exact hocd)
theorem store_ok {M : Model} {A : Around} {E : Value → Shared → Prop} {i : Nat} {x : Str} {v : V} {u : Value} {Q : Unit → Shared → Prop} (I : Inv X pins σ H s) (hN : X.N.Nodup) (hi : X.N[i]? = some x) (hx : Loc X.env.scope x) (r : RelV v u)
    (h : ∀ s', Inv X pins (σ.set i (some v)) H s' → Q () s') (hf : X.fn x = true ∨ X.env.scope.names.lookup x = some .local := by first | exact .inl rfl | exact .inr rfl | assumption) : wpAny M A (storeName X.env x u) Q E s :=
  store_ok2 I hN hi hx r (fun s' I' _ => h s' I') hf
/-- behind a call or a block, the state as it is -/
theorem Inv.call' {s' : Shared} {ch : List Addr} (I : Inv X pins σ H s) (ho : s'.os = s.os) (u : Un (frs X.stack) ch H H' s.heap s'.heap) (hok : HOk X.prog X.w H' s'.heap) (hg : AllBare s'.gens)
    (hch : ∀ b ∈ ch, (b ∈ X.ex ∨ X.s₀.heap.objs.size ≤ b) ∧ b ≠ X.env.locals ∧ (∀ x c, X.env.cells.lookup x = some c → c ≠ b) ∧ ∀ p ∈ X.pn ++ pins, p.1 ≠ b) : Inv X pins σ H' s' := by
  obtain ⟨h', g', d', t', o'⟩ := s'
  have e : o' = s.os := ho
  subst e
  exact I.call (g' := g') (t' := t') (d' := d') u hok hg hch
end

/-! ### the judgements -/
/-- an exception: its class, its own dict's address (where it has one), the abstract heap behind it -/
abbrev XK := Value → Option Addr → Hp → Prop
abbrev St := List (Option V)
abbrev VK := V → Hp → Prop
/-- an expression's reading; a test's; an argument list's -/
abbrev TE := St → Hp → VK → Prop
abbrev TT := St → Hp → (Bool → Hp → Prop) → Prop
abbrev TA := St → Hp → (List V → Hp → Prop) → Prop
/-- what is wanted behind a statement -/
structure Ends where
  nx : St → Hp → Prop
  rt : VK
  bk : St → Hp → Prop := fun _ _ => False
  ct : St → Hp → Prop := fun _ _ => False
abbrev TS := Ends → St → Hp → Prop

inductive EP (X : Cx) (pins : List (Addr × Obj)) (σ : St) (Q : VK) (u : Value) (s' : Shared) : Prop
  | mk : ∀ v H', (Inv X pins σ H' s') → (RelV v u) → (Q v H') → EP X pins σ Q u s'
inductive TP (X : Cx) (pins : List (Addr × Obj)) (σ : St) (Q : Bool → Hp → Prop) (b : Bool) (s' : Shared) : Prop
  | mk : ∀ H', (Inv X pins σ H' s') → (Q b H') → TP X pins σ Q b s'
inductive AP (X : Cx) (pins : List (Addr × Obj)) (σ : St) (Q : List V → Hp → Prop) (us : List Value) (s' : Shared) : Prop
  | mk : ∀ vs H', (Inv X pins σ H' s') → (Vals vs us) → (Q vs H') → AP X pins σ Q us s'
def SP (X : Cx) (pins : List (Addr × Obj)) (D : Ends) (f : Flow) (s' : Shared) : Prop :=
  match f with
  | .next => ∃ σ' H', Inv X pins σ' H' s' ∧ D.nx σ' H'
  | .brk => ∃ σ' H', Inv X pins σ' H' s' ∧ D.bk σ' H'
  | .cont => ∃ σ' H', Inv X pins σ' H' s' ∧ D.ct σ' H'
  | .ret u => ∃ v σ' H', Inv X pins σ' H' s' ∧ RelV v u ∧ D.rt v H'

def PE (X : Cx) (e : Expr) (t : TE) : Prop :=
  ∀ (pins : List (Addr × Obj)) (s : Shared) (σ : St) (H : Hp) (Q : VK), Inv X pins σ H s → t σ H Q → wpAny (model X.prog X.w) X.A (eval e X.env) (EP X pins σ Q) X.xe s
def PT (X : Cx) (e : Expr) (t : TT) : Prop :=
  ∀ (pins : List (Addr × Obj)) (s : Shared) (σ : St) (H : Hp) (Q : Bool → Hp → Prop), Inv X pins σ H s → t σ H Q → wpAny (model X.prog X.w) X.A (isTrue e X.env (eval e X.env)) (TP X pins σ Q) X.xe s
/-- a test whatever its 'whole' is (and, or) -/
def PW (X : Cx) (e : Expr) (t : TT) : Prop :=
  ∀ (whole : Sem Value) (pins : List (Addr × Obj)) (s : Shared) (σ : St) (H : Hp) (Q : Bool → Hp → Prop), Inv X pins σ H s → t σ H Q → wpAny (model X.prog X.w) X.A (isTrue e X.env whole) (TP X pins σ Q) X.xe s
theorem PW.pt {X : Cx} {e : Expr} {t : TT} (h : PW X e t) : PT X e t := h _
/-- an argument list (no star), from the left -/
def PA (X : Cx) (es : List Expr) (t : TA) : Prop :=
  ∀ (pos : Pos) (pins : List (Addr × Obj)) (s : Shared) (σ : St) (H : Hp) (Q : List V → Hp → Prop), Inv X pins σ H s → t σ H Q → wpAny (model X.prog X.w) X.A (spliced (backTo pos (starEach es X.env))) (AP X pins σ Q) X.xe s
def PS (X : Cx) (st : Stmt) (t : TS) : Prop :=
  ∀ (pins : List (Addr × Obj)) (s : Shared) (σ : St) (H : Hp) (D : Ends), Inv X pins σ H s → t D σ H → wpAny (model X.prog X.w) X.A (exec st X.env) (SP X pins D) X.xe s
def PSs (X : Cx) (st : List Stmt) (t : TS) : Prop :=
  ∀ (pins : List (Addr × Obj)) (s : Shared) (σ : St) (H : Hp) (D : Ends), Inv X pins σ H s → t D σ H → wpAny (model X.prog X.w) X.A (execs st X.env) (SP X pins D) X.xe s
/-- weaken the end -/
theorem thn {α : Type} {t : Sem α} {Q Q' : α → Shared → Prop} {M : Model} {A : Around} {E : Value → Shared → Prop} {s : Shared} (h : wpAny M A t Q E s) (hQ : ∀ a s, Q a s → Q' a s) : wpAny M A t Q' E s := wpAny_mono h hQ fun _ _ x => x
end L2

namespace L2
open PySem PySem.Spec PyProof.Rows
section
variable {X : Cx}

/-! ### names and constants -/
inductive tVar (i : Nat) (σ : St) (H : Hp) (Q : VK) : Prop
  | mk : ∀ v, (σ[i]? = some (some v)) → (Q v H) → tVar i σ H Q
def tC (v : V) : TE := fun _ H Q => Q v H
theorem pe_var {i : Nat} {x : Str} {pos : Pos} (hN : X.N[i]? = some x) (hv : Vis X.env.scope x) (hd : (x == ("__debug__" : Str)) = false := by decide) (hcd : (x == ("__classdict__" : Str)) = false := by decide) : PE X (.Name x pos) (tVar i) := by
  intro pins s σ H Q I h
  obtain ⟨v, e, h⟩ := h
  obtain ⟨m, hn, hl⟩ := I.loc
  obtain ⟨u, r, l⟩ := hl i x v hN e hv
  have fin : EP X pins σ Q u s := ⟨v, H, I, r, h⟩
  rcases l with ⟨hk, hm⟩ | ⟨hk, c, hc, hcell⟩
  · exact wpAny_Name (wpAny_loadName_local I.ok.kind hk hn hm fin) hd
  · rcases hk with hk | hk
    · exact wpAny_Name (wpAny_loadName_cell I.ok.kind hk hc hcell fin) hd
    · exact wpAny_Name (wpAny_loadName_free I.ok.kind hk hc hcell fin hcd) hd
theorem pe_int {i j pos} : PE X (.Constant (.int i) j pos) (tC (.int i)) := fun _ _ _ H _ I h => wpAny_Constant_int ⟨.int i, H, I.tok _, ⟨_, rfl⟩, h⟩
theorem pe_bl {b j pos} : PE X (.Constant (.bool b) j pos) (tC (.bl b)) := fun _ _ _ H _ I h => Constant_bool ⟨.bl b, H, I, rfl, h⟩
theorem pe_str {x j pos} : PE X (.Constant (.str x) j pos) (tC (.str x)) := fun _ _ _ H _ I h => Calls.Constant_str ⟨.str x, H, I.tok _, ⟨_, rfl⟩, h⟩

/-- a global name of the def -/
def Gl (X : Cx) (x : Str) : Prop := X.env.kindOf x = some .globalImplicit
theorem ld_glob {E : Value → Shared → Prop} {pins : List (Addr × Obj)} {s : Shared} {σ : St} {H : Hp} {x : Str} {u : Value} {pos : Pos} {Q : Value → Shared → Prop} (I : Inv X pins σ H s) (hg : Gl X x) (hm : X.mg x = some u) (h : Q u s)
    (hd : (x == ("__debug__" : Str)) = false := by decide) : wpAny (model X.prog X.w) X.A (eval (.Name x pos) X.env) Q E s :=
  Calls.Name_function_global I.ok.kind hg (Calls.loadGlobal_global (by rw [I.ok.glob]; exact I.mod.glob.keeps I.bk) hm h) hd
theorem ld_blt {E : Value → Shared → Prop} {pins : List (Addr × Obj)} {s : Shared} {σ : St} {H : Hp} {x : Str} {u : Value} {pos : Pos} {Q : Value → Shared → Prop} (I : Inv X pins σ H s) (hg : Gl X x) (hm : X.mg x = none) (hv : bootBuiltins x = some u) (h : Q u s)
    (hn : x ≠ "__name__" := by decide) (hd : (x == ("__debug__" : Str)) = false := by decide) : wpAny (model X.prog X.w) X.A (eval (.Name x pos) X.env) Q E s := by
  obtain ⟨mb, h1, h2⟩ := I.mod.blt
  exact Calls.Name_function_global I.ok.kind hg (Calls.loadGlobal_builtin (by rw [I.ok.glob]; exact I.mod.glob.keeps I.bk) hm (by rw [I.ok.blt]; exact h1.keeps I.bk) ((h2 x hn).trans hv) h) hd
/-- a module's constant, a class, a function, as a value -/
theorem pe_glob {x : Str} {v : V} {u : Value} {pos : Pos} (hg : Gl X x) (hm : X.mg x = some u) (r : RelV v u) (hd : (x == ("__debug__" : Str)) = false := by decide) : PE X (.Name x pos) (tC v) :=
  fun _ _ _ H _ I h => ld_glob I hg hm ⟨v, H, I, r, h⟩ hd
theorem pe_bltn {x : Str} {v : V} {u : Value} {pos : Pos} (hg : Gl X x) (hm : X.mg x = none) (hv : bootBuiltins x = some u) (r : RelV v u) (hn : x ≠ "__name__" := by decide) (hd : (x == ("__debug__" : Str)) = false := by decide) : PE X (.Name x pos) (tC v) :=
  fun _ _ _ H _ I h => ld_blt I hg hm hv ⟨v, H, I, r, h⟩ hn hd

/-! ### arithmetic -/
variable {a b : Expr} {ta tb : TE} {pos : Pos}
/-! ### comparisons -/
def PC (X : Cx) (op : CmpOp) (a b : Expr) (t : TE) : Prop :=
  ∀ (pins : List (Addr × Obj)) (s : Shared) (σ : St) (H : Hp) (Q : VK), Inv X pins σ H s → t σ H Q →
    wpAny (model X.prog X.w) X.A (eval a X.env) (fun v s₁ => wpAny (model X.prog X.w) X.A (eval b X.env) (fun u s₂ => wpAny (model X.prog X.w) X.A (compareOp op v u) (EP X pins σ Q) X.xe s₂) X.xe s₁) X.xe s
/-- a comparison as a value, as a test -/
def tB (t : TE) : TT := fun σ H Q => t σ H fun x H1 => ∃ c, x = .bl c ∧ Q c H1
theorem pt_cmp {op : CmpOp} {t : TE} (h : PC X op a b t) (h1 : behindInMarks op b = false := by first | exact nobehind _ (by decide) (by decide) | rfl) : PT X (.Compare a [op] [b] pos) (tB t) := by
  intro pins s σ H Q I hw
  refine wpAny_isTrue_Compare1 (thn (h pins s σ H _ I hw) fun v s1 h1 => thn h1 fun u s2 h2 => thn h2 fun c s3 ⟨x, H1, I1, r1, q1⟩ => ?_) h1
  obtain ⟨d, rfl, q⟩ := q1
  cases r1
  exact wpAny_truthy_bool ⟨H1, I1, q⟩
/-- an expression whose value is a bool, as a test -/
theorem pt_val {e : Expr} {t : TE} (h : PE X e t) (he : ∀ whole, isTrue e X.env whole = (do let v ← whole; standAt e.pos; holding [v] (truthy v)) := by intro _; rfl) : PT X e (tB t) := by
  intro pins s σ H Q I hw
  refine isTrue_plain (thn (h pins s σ H _ I hw) fun v s1 ⟨x, H1, I1, r1, q1⟩ => ?_) (he _)
  obtain ⟨d, rfl, q⟩ := q1
  cases r1
  exact wpAny_truthy_bool ⟨H1, I1, q⟩

/-! ### and, or, not -/
variable {tA tB' : TT} {rest : List Expr}
def tAnd (t u : TT) : TT := fun σ H Q => t σ H fun c H1 => if c = true then u σ H1 Q else Q false H1
def tOr (t u : TT) : TT := fun σ H Q => t σ H fun c H1 => if c = true then Q true H1 else u σ H1 Q
def tNot (t : TT) : TT := fun σ H Q => t σ H fun c H1 => Q (!c) H1
theorem pw_and1 (ha : PT X a tA) : PW X (.BoolOp .And [a] pos) tA := by
  intro wh pins s σ H Q I h
  refine isTrue_and (thn (ha pins s σ H Q I h) fun c s1 e => ?_)
  cases c with
  | true => exact isTrue_and_nil e
  | false => exact e
theorem pw_or1 (ha : PT X a tA) : PW X (.BoolOp .Or [a] pos) tA := by
  intro wh pins s σ H Q I h
  refine isTrue_or (thn (ha pins s σ H Q I h) fun c s1 e => ?_)
  cases c with
  | false => exact isTrue_or_nil e
  | true => exact e
theorem pw_and (ha : PT X a tA) (hb : PW X (.BoolOp .And (b :: rest) pos) tB') : PW X (.BoolOp .And (a :: b :: rest) pos) (tAnd tA tB') := by
  intro wh pins s σ H Q I h
  refine isTrue_and (thn (ha pins s σ H _ I h) fun c s1 ⟨H1, I1, q1⟩ => ?_)
  cases c with
  | true => exact hb wh pins s1 σ H1 Q I1 q1
  | false => exact ⟨H1, I1, q1⟩
theorem pw_or (ha : PT X a tA) (hb : PW X (.BoolOp .Or (b :: rest) pos) tB') : PW X (.BoolOp .Or (a :: b :: rest) pos) (tOr tA tB') := by
  intro wh pins s σ H Q I h
  refine isTrue_or (thn (ha pins s σ H _ I h) fun c s1 ⟨H1, I1, q1⟩ => ?_)
  cases c with
  | true => exact ⟨H1, I1, q1⟩
  | false => exact hb wh pins s1 σ H1 Q I1 q1
theorem pt_not (ha : PT X a tA) : PT X (.UnaryOp .Not a pos) (tNot tA) := by
  intro pins s σ H Q I h
  exact isTrue_not (thn (ha pins s σ H (fun c H1 => Q (!c) H1) I h) fun c s1 ⟨H1, I1, q1⟩ => ⟨H1, I1, q1⟩)
/-- .. as values (bools) -/
def tAndV (ta tb : TE) : TE := fun σ H Q => ta σ H fun x H1 => ∃ c, x = .bl c ∧ if c = true then tb σ H1 Q else Q (.bl false) H1
def tOrV (ta tb : TE) : TE := fun σ H Q => ta σ H fun x H1 => ∃ c, x = .bl c ∧ if c = true then Q (.bl true) H1 else tb σ H1 Q
theorem pe_one {op} {t : TE} (h : PE X a t) : PE X (.BoolOp op [a] pos) t := fun pins s σ H Q I hw => BoolOp_one (h pins s σ H Q I hw)
theorem pe_and (ha : PE X a ta) (hb : PE X (.BoolOp .And (b :: rest) pos) tb) : PE X (.BoolOp .And (a :: b :: rest) pos) (tAndV ta tb) := by
  intro pins s σ H Q I h
  refine BoolOp_and (thn (ha pins s σ H _ I h) fun v s1 ⟨x, H1, I1, r1, q1⟩ => ?_)
  obtain ⟨c, rfl, q1⟩ := q1
  cases r1
  refine wpAny_truthy_bool ?_
  cases c with
  | true => exact hb pins s1 σ H1 Q I1 q1
  | false => exact ⟨.bl false, H1, I1, rfl, q1⟩
theorem pe_or (ha : PE X a ta) (hb : PE X (.BoolOp .Or (b :: rest) pos) tb) : PE X (.BoolOp .Or (a :: b :: rest) pos) (tOrV ta tb) := by
  intro pins s σ H Q I h
  refine BoolOp_or (thn (ha pins s σ H _ I h) fun v s1 ⟨x, H1, I1, r1, q1⟩ => ?_)
  obtain ⟨c, rfl, q1⟩ := q1
  cases r1
  refine wpAny_truthy_bool ?_
  cases c with
  | false => exact hb pins s1 σ H1 Q I1 q1
  | true => exact ⟨.bl true, H1, I1, rfl, q1⟩
end
end L2

namespace L2
open PySem PySem.Spec PyProof.Rows

/-! ### a list, a tuple that is read: tracked, frozen, or an object of the module -/
def SqL (K : PySem.W.Frag) (H : Hp) (a : Addr) (xs : List V) : Prop :=
  Rd H a (.lst xs) ∨
    ∃ (o : Obj) (its : Array Value) (n : Nat), K.lookup a = some o ∧ o.cls = .type "list" ∧ o.dict = none ∧ o.data = .seq its n ∧ its.size ≤ sizeLine ∧ Vals xs its.toList
def SqT (K : PySem.W.Frag) (H : Hp) (a : Addr) (xs : List V) : Prop :=
  Rd H a (.tup xs) ∨
    ∃ (o : Obj) (its : Array Value) (n : Nat), K.lookup a = some o ∧ o.cls = .type "tuple" ∧ o.data = .seq its n ∧ its.size ≤ sizeLine ∧ Vals xs its.toList
def absV : Value → Option V
  | .none => some .non
  | .bool b => some (.bl b)
  | .int i _ => some (.int i)
  | .str x _ => some (.str x)
  | .bytes b _ => some (.byt b)
  | .float b _ => some (.flt b)
  | .ref a => some (.ref a)
  | .type n => some (.ty n)
  | _ => none
theorem RelV.abs {x : V} {u : Value} (r : RelV x u) : absV u = some x := by
  cases x with
  | non => cases r; rfl
  | bl _ => cases r; rfl
  | int _ => obtain ⟨t, rfl⟩ := r; rfl
  | str _ => obtain ⟨t, rfl⟩ := r; rfl
  | byt _ => obtain ⟨t, rfl⟩ := r; rfl
  | flt _ => obtain ⟨t, rfl⟩ := r; rfl
  | ref _ => cases r; rfl
  | ty _ => cases r; rfl
theorem RelV.inj {x y : V} {u : Value} (r : RelV x u) (q : RelV y u) : x = y := Option.some.inj (r.abs.symm.trans q.abs)
theorem Vals.inj : ∀ {xs ys : List V} {us : List Value}, Vals xs us → Vals ys us → xs = ys
  | _, _, _, .nil, .nil => rfl
  | _, _, _, .cons r t, .cons r' t' => by rw [r.inj r', Vals.inj t t']
section
variable {X : Cx} {pins : List (Addr × Obj)} {σ : St} {H : Hp} {s : Shared} {a : Addr} {xs ys : List V}
theorem SqL.of {K : PySem.W.Frag} (h : H a = some (.lst xs)) : SqL K H a xs := .inl (.inl h)
theorem SqT.of {K : PySem.W.Frag} (h : H a = some (.tup xs)) : SqT K H a xs := .inl (.inl h)
theorem Inv.list (I : Inv X pins σ H s) (h : SqL X.K H a xs) : ∃ its : List Value, Vals xs its ∧ PlainL s.heap a its.toArray ∧ xs.length ≤ sizeLine := by
  rcases h with h | ⟨o, its, n, hk, hc, hd, hs, hz, r⟩
  · obtain ⟨z, its, n, r, e⟩ := h.ok I.hok
    exact ⟨its, r, ⟨_, n, e, rfl, rfl, rfl⟩, z⟩
  · refine ⟨its.toList, r, ⟨o, n, I.kIn a o hk, hc, hd, by simpa using hs⟩, ?_⟩
    have e := r.length
    simp only [Array.length_toList] at e
    omega
theorem Inv.tuple (I : Inv X pins σ H s) (h : SqT X.K H a xs) : ∃ its : List Value, Vals xs its ∧ IsTup s.heap a its.toArray ∧ xs.length ≤ sizeLine := by
  rcases h with h | ⟨o, its, n, hk, hc, hs, hz, r⟩
  · obtain ⟨z, its, r, p⟩ := h.ok I.hok
    exact ⟨its, r, p, z⟩
  · refine ⟨its.toList, r, ⟨o, I.kIn a o hk, hc, n, by simpa using hs⟩, ?_⟩
    have e := r.length
    simp only [Array.length_toList] at e
    omega
theorem Inv.list_inj (I : Inv X pins σ H s) (h : SqL X.K H a xs) (h' : SqL X.K H a ys) : xs = ys := by
  obtain ⟨its, r, ⟨o, n, e, _, _, d⟩, _⟩ := I.list h
  obtain ⟨its', r', ⟨o', n', e', _, _, d'⟩, _⟩ := I.list h'
  rw [e] at e'; cases e'
  rw [d] at d'
  injection d' with d1 _
  have : its = its' := by simpa using congrArg Array.toList d1
  subst this
  exact r.inj r'
end

/-! ### another wish about exceptions -/
abbrev Cx.wish (X : Cx) (E : Value → Shared → Prop) : Cx := { X with xe := E }
/-- no exception leaves -/
abbrev Cx.nox (X : Cx) : Cx := X.wish fun _ _ => False
theorem Cx.Ok.wish {X : Cx} (ok : X.Ok) (E : Value → Shared → Prop) : (X.wish E).Ok :=
  ⟨ok.mod, ok.kind, ok.glob, ok.blt, ok.above, ok.inj, ok.has, ok.cab, ok.hd, ok.frames, ok.stk, ok.exf, ok.bs, ok.bsz, ok.noex, ok.exfs, ok.funs, ok.frf⟩
theorem Cx.Ok.unwish {X : Cx} {E : Value → Shared → Prop} (ok : (X.wish E).Ok) : X.Ok :=
  ⟨ok.mod, ok.kind, ok.glob, ok.blt, ok.above, ok.inj, ok.has, ok.cab, ok.hd, ok.frames, ok.stk, ok.exf, ok.bs, ok.bsz, ok.noex, ok.exfs, ok.funs, ok.frf⟩
section
variable {X : Cx} {pins : List (Addr × Obj)} {σ : St} {H : Hp} {s : Shared} {E : Value → Shared → Prop}
theorem Inv.wish (I : Inv X pins σ H s) (E : Value → Shared → Prop) : Inv (X.wish E) pins σ H s := ⟨I.ok.wish E, I.os, I.bare, I.base, I.loc, I.cell, I.free, I.freeC, I.pin, I.hok, I.len⟩
theorem Inv.unwish (I : Inv (X.wish E) pins σ H s) : Inv X pins σ H s := ⟨I.ok.unwish, I.os, I.bare, I.base, I.loc, I.cell, I.free, I.freeC, I.pin, I.hok, I.len⟩
theorem SP.unwish {D : Ends} {f : Flow} {s' : Shared} (h : SP (X.wish E) pins D f s') : SP X pins D f s' := by
  cases f with
  | next => obtain ⟨σ', H', I, q⟩ := h; exact ⟨σ', H', I.unwish, q⟩
  | brk => obtain ⟨σ', H', I, q⟩ := h; exact ⟨σ', H', I.unwish, q⟩
  | cont => obtain ⟨σ', H', I, q⟩ := h; exact ⟨σ', H', I.unwish, q⟩
  | ret u => obtain ⟨v, σ', H', I, r, q⟩ := h; exact ⟨v, σ', H', I.unwish, r, q⟩
theorem PSs.nox {st : List Stmt} {t : TS} (h : PSs X.nox st t) : PSs X st t := fun pins s σ H D I hw =>
  wpAny_mono (h pins s σ H D (I.wish _) hw) (fun _ _ q => q.unwish) fun _ _ z => False.elim z
end

/-! ### blocks and small statements -/
section
variable {X : Cx} {st : Stmt} {rest : List Stmt} {t u : TS} {e : Expr} {te : TE} {pos : Pos}
def tNext : TS := fun D σ H => D.nx σ H
def tSeq (t u : TS) : TS := fun D σ H => t { D with nx := u D } σ H
theorem pss_nil : PSs X [] tNext := fun _ _ σ H _ I h => wpAny_execs_nil ⟨σ, H, I, h⟩
theorem pss_cons (h1 : PS X st t) (h2 : PSs X rest u) : PSs X (st :: rest) (tSeq t u) := by
  intro pins s σ H D I h
  refine wpAny_execs_cons (thn (h1 pins s σ H { D with nx := u D } I h) fun f s1 q => ?_)
  cases f with
  | next =>
    obtain ⟨σ', H', I', q⟩ := q
    exact h2 pins s1 σ' H' D I' q
  | ret v => exact q
  | brk => exact q
  | cont => exact q
theorem pss_one (h1 : PS X st t) : PSs X [st] t := by
  intro pins s σ H D I h
  refine wpAny_execs_cons (thn (h1 pins s σ H D I h) fun f s1 q => ?_)
  cases f with
  | next => exact wpAny_execs_nil q
  | ret v => exact q
  | brk => exact q
  | cont => exact q
/-- in a def's body nothing is shown -/
theorem Inv.quiet {pins : List (Addr × Obj)} {σ : St} {H : Hp} {s : Shared} (I : Inv X pins σ H s) : interactive X.env = false := by simp [interactive, I.ok.kind]
/-- an expression whose value is dropped -/
def tDrop (te : TE) : TS := fun D σ H => te σ H fun _ H1 => D.nx σ H1
theorem ps_expr (he : PE X e te) (hs : swapsWith e none pos.line X.env = pure false := by rfl) : PS X (.Expr e pos) (tDrop te) := by
  intro pins s σ H D I h
  exact wpAny_Expr_any (thn (he pins s σ H _ I h) fun v s1 ⟨x, H1, I1, r1, q1⟩ => ⟨σ, H1, I1, q1⟩) I.quiet hs
def tRet (te : TE) : TS := fun D σ H => te σ H D.rt
theorem ps_ret (he : PE X e te) : PS X (.Return (some e) pos) (tRet te) := by
  intro pins s σ H D I h
  exact wpAny_Return_some (thn (he pins s σ H _ I h) fun v s1 ⟨x, H1, I1, r1, q1⟩ => ⟨x, σ, H1, I1, r1, q1⟩)
def tIfS (c : TT) (t u : TS) : TS := fun D σ H => c σ H fun b H1 => if b = true then t D σ H1 else u D σ H1
theorem ps_if {c : Expr} {a b : List Stmt} {tc : TT} (hc : PT X c tc) (ha : PSs X a t) (hb : PSs X b u) : PS X (.If c a b pos) (tIfS tc t u) := by
  intro pins s σ H D I h
  refine wpAny_If (thn (hc pins s σ H _ I h) fun d s1 ⟨H1, I1, q1⟩ => ?_)
  cases d with
  | true => exact ha pins s1 σ H1 D I1 q1
  | false => exact hb pins s1 σ H1 D I1 q1
end

/-! ### targets -/
abbrev TG := V → St → Hp → (St → Hp → Prop) → Prop
abbrev TGs := List V → St → Hp → (St → Hp → Prop) → Prop
def PG (X : Cx) (target : Expr) (t : TG) : Prop :=
  ∀ (pins : List (Addr × Obj)) (s : Shared) (σ : St) (H : Hp) (v : V) (u : Value) (Q : St → Hp → Prop), Inv X pins σ H s → RelV v u → t v σ H Q →
    wpAny (model X.prog X.w) X.A (assign target X.env u) (fun _ s' => ∃ σ' H', Inv X pins σ' H' s' ∧ Q σ' H') X.xe s
/-- several targets, one after another -/
def PGs (X : Cx) (ts : List Expr) (t : TGs) : Prop :=
  ∀ (pins : List (Addr × Obj)) (s : Shared) (σ : St) (H : Hp) (vs : List V) (us : List Value) (Q : St → Hp → Prop), Inv X pins σ H s → Vals vs us → t vs σ H Q →
    wpAny (model X.prog X.w) X.A (assignInOrder ((assignEach ts X.env).map (·.2)) us) (fun _ s' => ∃ σ' H', Inv X pins σ' H' s' ∧ Q σ' H') X.xe s
/-- o[i] = v, by values -/
abbrev TSet := V → V → V → Hp → (Hp → Prop) → Prop
def PSet (X : Cx) (t : TSet) : Prop :=
  ∀ (pins : List (Addr × Obj)) (s : Shared) (σ : St) (H : Hp) (o i v : V) (ov iv u : Value) (Q : Hp → Prop), Inv X pins σ H s → RelV o ov → RelV i iv → RelV v u → t o i v H Q →
    wpAny (model X.prog X.w) X.A (setItem ov iv u) (fun _ s' => ∃ H', Inv X pins σ H' s' ∧ Q H') X.xe s
section
variable {X : Cx} {pos : Pos}
def gName (i : Nat) : TG := fun v σ H Q => Q (σ.set i (some v)) H
theorem pg_name {i : Nat} {x : Str} (hN : X.N.Nodup) (hi : X.N[i]? = some x) (hx : Loc X.env.scope x) (hf : X.fn x = true ∨ X.env.scope.names.lookup x = some .local := by first | exact .inl rfl | exact .inr rfl | assumption) : PG X (.Name x pos) (gName i) := by
  intro pins s σ H v u Q I r h
  exact wpAny_assign_Name (store_ok I hN hi hx r (fun s' I' => ⟨_, H, I', h⟩) hf)
def gNil : TGs := fun vs σ H Q => vs = [] ∧ Q σ H
inductive gCons (t : TG) (u : TGs) (vs : List V) (σ : St) (H : Hp) (Q : St → Hp → Prop) : Prop
  | mk : ∀ v r, (vs = v :: r) → (t v σ H fun σ' H' => u r σ' H' Q) → gCons t u vs σ H Q
theorem pgs_nil : PGs X [] gNil := by
  intro pins s σ H vs us Q I r h
  obtain ⟨e, h⟩ := h
  subst e
  cases r
  exact assignInOrder_nil ⟨σ, H, I, h⟩
theorem pgs_cons {e : Expr} {es : List Expr} {t : TG} {u : TGs} (h1 : PG X e t) (h2 : PGs X es u)
    (hs : (assignEach (e :: es) X.env).map (·.2) = assign e X.env :: (assignEach es X.env).map (·.2) := by rfl) : PGs X (e :: es) (gCons t u) := by
  intro pins s σ H vs us Q I r h
  obtain ⟨v, vr, e1, h⟩ := h
  subst e1
  cases r with
  | cons r rr =>
    rw [hs]
    refine assignInOrder_cons (thn (h1 pins s σ H _ _ _ I r h) fun _ s1 ⟨σ1, H1, I1, q1⟩ => ?_)
    exact h2 pins s1 σ1 H1 _ _ Q I1 rr q1
/-- (a, b, ..) = a tuple of that length -/
inductive gTup (K : PySem.W.Frag) (n : Nat) (t : TGs) (v : V) (σ : St) (H : Hp) (Q : St → Hp → Prop) : Prop
  | mk : ∀ a xs, (v = .ref a) → (SqT K H a xs) → (xs.length = n) → (t xs σ H Q) → gTup K n t v σ H Q
theorem pg_tup {es : List Expr} {k : Nat} {t : TGs} {n : Nat} (hc : X.calm = true) (h : PGs X es t)
    (hn : (assignEach es X.env).length = n := by rfl) (hst : (assignEach es X.env).findIdx? (·.1) = none := by rfl) : PG X (.Tuple es k pos) (gTup X.K n t) := by
  intro pins s σ H v u Q I r hw
  obtain ⟨a, xs, e1, hq, hl, hw⟩ := hw
  subst e1
  cases r
  obtain ⟨its, rv, ht, hz⟩ := I.tuple hq
  refine assign_Tuple_tuple (I.ok.hd hc) ht (by simp [hn, ← hl, rv.length]) hst fun h' hx => ?_
  have I1 : Inv X pins σ H { s with heap := h' } := I.kept (t' := s.toks) fun b o e => hx b o (Nat.ne_of_lt (Heap.lt_size e)) e
  exact h pins _ σ H xs _ Q I1 (by simpa using rv) hw
/-- o[i] = .. -/
def gSub (to ti : TE) (t : TSet) : TG := fun v σ H Q => to σ H fun o H1 => ti σ H1 fun i H2 => t o i v H2 fun H3 => Q σ H3
theorem pg_sub {o i : Expr} {to ti : TE} {t : TSet} (ho : PE X o to) (hi : PE X i ti) (hs : PSet X t)
    (ha : ∀ v, assign (.Subscript o i pos) X.env v = (do
      let ov ← holding [v] (eval o X.env)
      let iv ← holding [v, ov] (eval i X.env)
      standAt pos
      holding [v, ov, iv] (setItem ov iv v)
      release [v, ov, iv] []) := by intro _; rfl) : PG X (.Subscript o i pos) (gSub to ti t) := by
  intro pins s σ H v u Q I r h
  rw [ha]
  refine wpAny_bind (wpAny_holding (thn (ho pins s σ H _ I h) fun ov s1 ⟨x, H1, I1, r1, q1⟩ => ?_))
  refine wpAny_bind (wpAny_holding (thn (hi pins s1 σ H1 _ I1 q1) fun iv s2 ⟨y, H2, I2, r2, q2⟩ => ?_))
  refine wpAny_bind (wpAny_standAt (wpAny_bind (wpAny_holding (thn (hs pins s2 σ H2 x y v ov iv u _ I2 r1 r2 r q2) fun _ s3 ⟨H3, I3, q3⟩ => ?_))))
  exact wpAny_release ⟨σ, H3, I3, q3⟩
/-- target = value -/
def tAsg (te : TE) (g : TG) : TS := fun D σ H => te σ H fun x H1 => g x σ H1 D.nx
theorem ps_asg {tg e : Expr} {te : TE} {g : TG} (he : PE X e te) (hg : PG X tg g) (hs : swapsWithSole [tg] e pos.line X.env = pure false := by rfl) (hw : swappedStores [tg] e X.env = pure none := by rfl)
    (h1 : (assignEach [tg] X.env).map (·.2) = [assign tg X.env] := by rfl) : PS X (.Assign [tg] e pos) (tAsg te g) := by
  intro pins s σ H D I h
  refine wpAny_Assign_stores (thn (he pins s σ H _ I h) fun v s1 ⟨x, H1, I1, r1, q1⟩ => ?_) hs hw
  rw [h1]
  exact thn (hg pins s1 σ H1 x v _ I1 r1 q1) fun _ s2 q => q
/-- name = value -/
theorem ps_set {i : Nat} {x : Str} {e : Expr} {te : TE} {pos' : Pos} (hN : X.N.Nodup) (hi : X.N[i]? = some x) (hx : Loc X.env.scope x) (he : PE X e te) (hs : swapsWith e (some (.Name x pos')) pos.line X.env = pure false := by rfl) (hf : X.fn x = true ∨ X.env.scope.names.lookup x = some .local := by first | exact .inl rfl | exact .inr rfl | assumption) :
    PS X (.Assign [.Name x pos'] e pos) (tAsg te (gName i)) := by
  intro pins s σ H D I h
  refine wpAny_Assign_Name (thn (he pins s σ H _ I h) fun v s1 ⟨y, H1, I1, r1, q1⟩ => ?_) hs
  exact store_ok I1 hN hi hx r1 (fun s2 I2 => ⟨_, H1, I2, q1⟩) hf
end

/-! ### while -/
section
variable {X : Cx} {pos : Pos}
/-- the invariant W with its measure -/
inductive tWhile (c : TT) (tb : TS) (D : Ends) (σ : St) (H : Hp) : Prop
  | mk : ∀ W : Nat → St → Hp → Prop, ((∃ m, W m σ H)) → (∀ m σ H, W m σ H →
  c σ H fun b H1 => if b = true then ∃ N : St → Hp → Prop, (∀ σ' H', N σ' H' → ∃ m', m' < m ∧ W m' σ' H') ∧ tb { D with nx := N, ct := N, bk := D.nx } σ H1 else D.nx σ H1) → tWhile c tb D σ H
theorem ps_while {c : Expr} {body : List Stmt} {tc : TT} {tb : TS} (hp : PassesOwn (model X.prog X.w) X.A X.env X.xe) (hc : PT X c tc) (hb : PSs X body tb) : PS X (.While c body [] pos) (tWhile tc tb) := by
  intro pins s σ H D I h
  obtain ⟨W, ⟨m0, w0⟩, turn⟩ := h
  refine wpAny_While (codeAny_whileLoop (fun n s' => ∃ σ' H', Inv X pins σ' H' s' ∧ W n σ' H') ?_ m0 ⟨σ, H, I, w0⟩)
  rintro n s1 ⟨σ1, H1, I1, w1⟩
  refine wpAny_passesOwn hp (thn (hc pins s1 σ1 H1 _ I1 (turn n σ1 H1 w1)) fun b s2 ⟨H2, I2, q2⟩ => ?_)
  cases b with
  | true =>
    obtain ⟨N, hN, q2⟩ := q2
    rw [if_pos rfl]
    refine wpAny_passesOwn hp (thn (hb pins s2 σ1 H2 _ I2 q2) fun f s3 q3 => ?_)
    cases f with
    | next =>
      obtain ⟨σ3, H3, I3, n3⟩ := q3
      obtain ⟨m', hm, w3⟩ := hN σ3 H3 n3
      exact ⟨m', hm, σ3, H3, I3, w3⟩
    | cont =>
      obtain ⟨σ3, H3, I3, n3⟩ := q3
      obtain ⟨m', hm, w3⟩ := hN σ3 H3 n3
      exact ⟨m', hm, σ3, H3, I3, w3⟩
    | brk => exact q3
    | ret v => exact q3
  | false =>
    rw [if_neg Bool.false_ne_true]
    exact wpAny_execs_nil ⟨σ1, H2, I2, q2⟩
end

/-! ### what a loop or a comprehension walks -/
/-- at turn i: it yields x (the heap may grow), or it stops -/
structure It where
  go : Nat → Hp → Prop
  yld : Nat → Hp → V → Hp → Prop
  stop : Nat → Hp → Prop
/-- the iterator's own objects may turn: they are not the frame's, not pinned, younger than the entry (or a comprehension's own) -/
def FpOk (X : Cx) (pins : List (Addr × Obj)) (H : Hp) (b : Addr) : Prop :=
  H b = none ∧ b ≠ X.env.locals ∧ b ∉ X.fs ∧ (b ∈ X.ex ∨ X.s₀.heap.objs.size ≤ b) ∧ (∀ x c, X.env.cells.lookup x = some c → c ≠ b) ∧ ∀ p ∈ X.pn ++ pins, p.1 ≠ b
theorem Inv.fpOk {X : Cx} {pins : List (Addr × Obj)} {σ : St} {H H' : Hp} {s : Shared} {b : Addr} (I : Inv X pins σ H s) (hb : s.heap.objs.size ≤ b) (hn : H' b = none) : FpOk X pins H' b := by
  refine ⟨hn, Nat.ne_of_gt (Nat.lt_of_lt_of_le I.lt hb), I.nofs hb, .inr (Nat.le_trans I.sz hb), fun x c e z => ?_, fun p hp z => ?_⟩
  · obtain ⟨v, q⟩ := I.cell x c e
    exact absurd (Nat.lt_of_lt_of_le q.lt (by rw [z]; exact hb)) (Nat.lt_irrefl _)
  · exact absurd (Nat.lt_of_lt_of_le (Heap.lt_size (I.pin p hp).1) (by rw [z]; exact hb)) (Nat.lt_irrefl _)
structure Turn (P : Program) (w : World) (K : PySem.W.Frag) (tg : Expr) (J : It) (fp : List Addr) (it : Addr) (tn : Nat → Heap → Prop) : Prop where
  mem : it ∈ fp
  obj : ∀ i h, tn i h → ∀ b ∈ fp, ∃ o, h.get? b = some o ∧ ∀ v, o.data ≠ .cell v
  keep : ∀ i h h', tn i h → (∀ b ∈ fp, ∀ o, h.get? b = some o → h'.get? b = some o) → tn i h'
  item : ∀ (X : Cx), X.prog = P → X.w = w → X.K = K → X.calm = true → ∀ (i : Nat) (pins : List (Addr × Obj)) (s : Shared) (σ : St) (H : Hp) (E : Value → Shared → Prop), Inv X pins σ H s → (∀ b ∈ fp, FpOk X pins H b) → tn i s.heap → J.go i H →
    wpAny (model P w) X.A (pyNext (.ref it)) (fun r s1 => ∃ u, r = some u ∧
      wpAny (model P w) X.A (letOwnedTupleGo tg (.ref it) u) (fun _ s2 => ∃ x H', Inv X pins σ H' s2 ∧ RelV x u ∧ J.yld i H x H' ∧ tn (i + 1) s2.heap ∧ ∀ b ∈ fp, H' b = none) E s1) E s
  done : ∀ (X : Cx), X.prog = P → X.w = w → X.K = K → X.calm = true → ∀ (i : Nat) (pins : List (Addr × Obj)) (s : Shared) (σ : St) (H : Hp) (E : Value → Shared → Prop), Inv X pins σ H s → (∀ b ∈ fp, FpOk X pins H b) → tn i s.heap → J.stop i H →
    wpAny (model P w) X.A (pyNext (.ref it)) (fun r s1 => r = none ∧ Inv X pins σ H s1) E s
  self : ∀ (A : Around) (i : Nat) (s : Shared) (Q : Value → Shared → Prop) (E : Value → Shared → Prop), tn i s.heap → Q (.ref it) s → wpAny (model P w) A (pyIter (.ref it)) Q E s
abbrev TI := St → Hp → (It → Hp → Prop) → Prop
/-- an iterator has come -/
def PIE (X : Cx) (pins : List (Addr × Obj)) (σ : St) (tg : Expr) (R : It → Hp → Prop) (itv : Value) (s2 : Shared) : Prop :=
  ∃ (it : Addr) (fp : List Addr) (tn : Nat → Heap → Prop) (J : It) (H' : Hp), itv = .ref it ∧ Inv X pins σ H' s2 ∧ Turn X.prog X.w X.K tg J fp it tn ∧ tn 0 s2.heap ∧ (∀ b ∈ fp, FpOk X pins H' b) ∧ R J H'
def PI (X : Cx) (tg iter : Expr) (wi : TI) : Prop :=
  ∀ (pins : List (Addr × Obj)) (s : Shared) (σ : St) (H : Hp) (R : It → Hp → Prop), Inv X pins σ H s → wi σ H R →
    wpAny (model X.prog X.w) X.A (eval iter X.env) (fun v s1 => wpAny (model X.prog X.w) X.A (pyIter v) (PIE X pins σ tg R) X.xe s1) X.xe s

/-- the step ahead of the store is nothing for an iterator that keeps no tuple -/
theorem go_of {M : Model} {A : Around} {E : Value → Shared → Prop} {s : Shared} {tg : Expr} {it : Addr} {u : Value} {o : Obj} {n : String} {vs : Array Value} {Q : Unit → Shared → Prop} (ho : s.heap.get? it = some o) (hc : o.cls = .type n) (hd : o.data = .fields vs)
    (hn : ["enumerate", "zip", "dict_itemiterator", "dict_reverseitemiterator", "odict_iterator", "itertools.zip_longest", "itertools.pairwise"].contains n = false) (hQ : Q () s) : wpAny M A (letOwnedTupleGo tg (.ref it) u) Q E s := by
  unfold letOwnedTupleGo
  cases tg <;> first
    | exact wpAny_pure hQ
    | (cases u <;> first
        | exact wpAny_pure hQ
        | (refine wpAny_bind (wpAny_load ho ?_)
           rw [hc, hd]
           show wpAny M A (if (["enumerate", "zip", "dict_itemiterator", "dict_reverseitemiterator", "odict_iterator", "itertools.zip_longest", "itertools.pairwise"].contains n && vs[0]? == some (rawInt _)) = true then _ else _) Q E s
           rw [if_neg (by intro h; rw [hn, Bool.false_and] at h; cases h)]
           exact wpAny_pure hQ))

/-- the list at a, as it stands at each turn (a loop may append to it) -/
def Itl (K : PySem.W.Frag) (a : Addr) : It :=
  ⟨fun i H => ∃ xs x, SqL K H a xs ∧ xs[i]? = some x, fun i H x H' => H' = H ∧ ∀ xs, SqL K H a xs → xs[i]? = some x, fun i H => ∃ xs, SqL K H a xs ∧ xs.length ≤ i⟩
/-- lo, lo + 1, .. (n of them) -/
def Itr (lo : Int) (n : Nat) : It := ⟨fun i _ => i < n, fun i H x H' => H' = H ∧ x = .int (lo + i), fun i _ => n ≤ i⟩
theorem turn_list {P : Program} {w : World} {K : PySem.W.Frag} {tg : Expr} (a it : Addr) : Turn P w K tg (Itl K a) [it] it (fun i h => h.IsListIter it a i) where
  mem := by simp
  obj := fun i h st b hb => by
    have e : b = it := by simpa using hb
    subst e
    obtain ⟨o, e, c, d⟩ := st
    exact ⟨o, e, fun v z => by rw [d] at z; cases z⟩
  keep := fun i h h' st k => st.at fun o e => k it (by simp) o e
  item := by
    intro X hP hw hK hc i pins s σ H E I hf st hg
    subst hP hw hK
    obtain ⟨xs, x, hq, hx⟩ := hg
    obtain ⟨its, rv, p, hz⟩ := I.list hq
    obtain ⟨u, hu, ru⟩ := rv.get hx
    obtain ⟨f0, f1, f2, f3, f4, f5⟩ := hf it (by simp)
    refine wpAny_pyNext_list_item st p.isList (x := u) (by simpa using hu) fun h' st' sb => ?_
    have I1 : Inv X pins σ H { s with heap := h' } := I.turned (t' := s.toks) (fun b o hb e => (sb.2 b hb).trans e) f0 f1 f3 f4 f5
    obtain ⟨o, e, c, d⟩ := id st'
    exact ⟨u, rfl, go_of (s := { s with heap := h' }) e c d (by decide) ⟨x, H, I1, ru, ⟨rfl, fun ys hy => by rw [I.list_inj hy hq]; exact hx⟩, st', fun b hb => (hf b hb).1⟩⟩
  done := by
    intro X hP hw hK hc i pins s σ H E I hf st hg
    subst hP hw hK
    obtain ⟨xs, hq, hx⟩ := hg
    obtain ⟨its, rv, p, hz⟩ := I.list hq
    obtain ⟨f0, f1, f2, f3, f4, f5⟩ := hf it (by simp)
    have hl := rv.length
    exact wpAny_pyNext_list_end (I.ok.hd hc) st p.isList (by simp; omega) fun h' eb => ⟨rfl, I.turned (t' := s.toks) (fun b o hb e => eb b o hb e) f0 f1 f3 f4 f5⟩
  self := fun _ _ _ _ _ st h => wpAny_pyIter_listiter st h
theorem turn_range {P : Program} {w : World} {K : PySem.W.Frag} {tg : Expr} (it : Addr) (lo : Int) (n : Nat) : Turn P w K tg (Itr lo n) [it] it (fun i h => IsRangeIter h it (lo + (i : Nat) * 1) ((n : Int) - (i : Nat)) 1) where
  mem := by simp
  obj := fun i h st b hb => by
    have e : b = it := by simpa using hb
    subst e
    exact ⟨_, st, fun v z => by
      have z' : Data.fields _ = Data.cell v := z
      cases z'⟩
  keep := fun i h h' st k => k it (by simp) _ st
  item := by
    intro X hP hw hK hc i pins s σ H E I hf st hg
    subst hP hw hK
    obtain ⟨f0, f1, f2, f3, f4, f5⟩ := hf it (by simp)
    have W := Walks.range (prog := X.prog) (w := X.w) (I.ok.hd hc) it lo 1 n
    refine W.item i s _ _ hg st fun v h' tk hv st' kk => ?_
    obtain ⟨t, rfl⟩ := hv
    have I1 : Inv X pins σ H { s with heap := h', toks := tk } := I.turned (fun b o hb e => kk b o (by simpa using hb) e) f0 f1 f3 f4 f5
    refine ⟨_, rfl, go_of (s := { s with heap := h', toks := tk }) (n := "range_iterator") st' rfl rfl (by decide) ⟨.int (lo + i), H, I1, ⟨t, ?_⟩, ⟨rfl, rfl⟩, st', fun b hb => (hf b hb).1⟩⟩
    rw [Int.mul_one]
  done := by
    intro X hP hw hK hc i pins s σ H E I hf st hg
    subst hP hw hK
    obtain ⟨f0, f1, f2, f3, f4, f5⟩ := hf it (by simp)
    exact wpAny_pyNext_range_end (I.ok.hd hc) st (by have : n ≤ i := hg; omega) fun h' eb => ⟨rfl, I.turned (t' := s.toks) (fun b o hb e => eb b o hb e) f0 f1 f3 f4 f5⟩
  self := fun _ _ _ _ _ st h => wpAny_pyIter_rangeiter st h
end L2

namespace L2
open PySem PySem.Spec PyProof.Rows
section
variable {X : Cx} {tg : Expr}
inductive isLst (K : PySem.W.Frag) (x : V) (H : Hp) (R : It → Hp → Prop) : Prop
  | mk : ∀ a, x = .ref a → (∃ xs, SqL K H a xs) → R (Itl K a) H → isLst K x H R
def iList (K : PySem.W.Frag) (tl : TE) : TI := fun σ H R => tl σ H fun x H1 => isLst K x H1 R
theorem pi_list {l : Expr} {tl : TE} (hl : PE X l tl) : PI X tg l (iList X.K tl) := by
  intro pins s σ H R I h
  refine thn (hl pins s σ H _ I h) fun v s1 ⟨x, H1, I1, r1, q1⟩ => ?_
  obtain ⟨a, e, ⟨xs, hq⟩, q⟩ := q1
  subst e
  cases r1
  obtain ⟨its, rv, p, hz⟩ := I1.list hq
  refine wpAny_pyIter_list p.isList ?_
  refine ⟨s1.heap.objs.size, [s1.heap.objs.size], _, _, H1, rfl, I1.kept (t' := s1.toks) fun b o e => Heap.get?_push_of_some _ e, turn_list a _, ⟨_, Heap.get?_push_size _ rfl, rfl, rfl⟩, fun b hb => ?_, q⟩
  have e : b = s1.heap.objs.size := by simpa using hb
  subst e
  exact I1.fpOk (Nat.le_refl _) (I1.hok.fresh (Nat.le_refl _))
/-- a range object just made, walked -/
theorem range_it {pins : List (Addr × Obj)} {σ : St} {H : Hp} {s : Shared} {R : It → Hp → Prop} {E : Value → Shared → Prop} {lo hi : Int} {t u v : Tok} {tk : Nat} (I : Inv X pins σ H s) (h1 : -(2 ^ 62) ≤ lo) (h2 : lo < 2 ^ 62) (h3 : -(2 ^ 62) ≤ hi) (h4 : hi < 2 ^ 62)
    (q : R (Itr lo (hi - lo).toNat) H) : wpAny (model X.prog X.w) X.A (pyIter (.ref s.heap.objs.size)) (PIE X pins σ tg R) E { s with heap := s.heap.push { cls := .type "range", data := .fields #[.int lo t, .int hi u, .int 1 v] }, toks := tk } := by
  refine wpAny_pyIter_range (IsRange.new ..) (small_one h1 h2 h3 h4) ?_
  have I1 : Inv X pins σ H { s with heap := s.heap.push { cls := .type "range", data := .fields #[.int lo t, .int hi u, .int 1 v] }, toks := tk } := I.kept fun b o e => Heap.get?_push_of_some _ e
  refine ⟨(s.heap.push { cls := .type "range", data := .fields #[.int lo t, .int hi u, .int 1 v] }).objs.size, [(s.heap.push { cls := .type "range", data := .fields #[.int lo t, .int hi u, .int 1 v] }).objs.size], _, _, H, rfl,
    I1.kept (t' := tk) fun b o e => Heap.get?_push_of_some _ e, turn_range _ lo (hi - lo).toNat, ?_, fun b hb => ?_, q⟩
  · have e1 : lo + ((0 : Nat) : Int) * 1 = lo := by simp
    have e2 : (((hi - lo).toNat : Nat) : Int) - ((0 : Nat) : Int) = Builtin.Range.rangeSize lo hi 1 := by rw [rangeSize_one]; split <;> omega
    show IsRangeIter _ _ (lo + ((0 : Nat) : Int) * 1) ((((hi - lo).toNat : Nat) : Int) - ((0 : Nat) : Int)) 1
    rw [e1, e2]
    exact Heap.get?_push_size _ rfl
  · have e : b = (s.heap.push { cls := .type "range", data := .fields #[.int lo t, .int hi u, .int 1 v] }).objs.size := by simpa using hb
    subst e
    exact I1.fpOk (Nat.le_refl _) (I1.hok.fresh (Nat.le_refl _))
inductive isRng (vs : List V) (H : Hp) (R : It → Hp → Prop) : Prop
  | mk : ∀ j : Int, vs = [.int j] → -(2 ^ 62) ≤ j → j < 2 ^ 62 → R (Itr 0 j.toNat) H → isRng vs H R
def iRng1 (ta : TA) : TI := fun σ H R => ta σ H fun vs H1 => isRng vs H1 R
def iRng2 (ta : TA) : TI := fun σ H R => ta σ H fun vs H1 => ∃ i j : Int, vs = [.int i, .int j] ∧ (-(2 ^ 62) ≤ i ∧ i < 2 ^ 62 ∧ -(2 ^ 62) ≤ j ∧ j < 2 ^ 62) ∧ R (Itr i (j - i).toNat) H1
theorem pi_range1 {a : Expr} {ta : TA} {p pos : Pos} (hg : Gl X "range") (hm : X.mg "range" = none) (ha : PA X [a] ta) (hs : starEach [a] X.env = [(false, eval a X.env)] := by rfl) : PI X tg (.Call (.Name "range" p) [a] [] pos) (iRng1 ta) := by
  intro pins s σ H R I h
  refine Call_ (ld_blt I hg hm boot_range (PyProof.Rows.callWith_type1 (thn (ha pos pins s σ H _ I h) fun us s1 ⟨vs, H1, I1, r1, q1⟩ => ?_) hs rfl))
  obtain ⟨j, e, q1, q2, q⟩ := q1
  subst e
  cases r1 with
  | cons r rr =>
    cases rr
    obtain ⟨t, rfl⟩ := r
    exact call_range_1 (range_it I1 (by omega) (by omega) q1 q2 (by simpa using q))
theorem pi_range2 {a b : Expr} {ta : TA} {p pos : Pos} (hg : Gl X "range") (hm : X.mg "range" = none) (ha : PA X [a, b] ta) (hs : starEach [a, b] X.env = [(false, eval a X.env), (false, eval b X.env)] := by rfl) (hs2 : starEach [b] X.env = [(false, eval b X.env)] := by rfl) :
    PI X tg (.Call (.Name "range" p) [a, b] [] pos) (iRng2 ta) := by
  intro pins s σ H R I h
  refine Call_ (ld_blt I hg hm boot_range (PyProof.Rows.callWith_type1 (thn (ha pos pins s σ H _ I h) fun us s1 ⟨vs, H1, I1, r1, q1⟩ => ?_) (by rw [hs, hs2]) (by rw [hs2]; rfl)))
  obtain ⟨i, j, e, ⟨q1, q2, q3, q4⟩, q⟩ := q1
  subst e
  cases r1 with
  | cons r rr =>
    cases rr with
    | cons r' rr =>
      cases rr
      obtain ⟨t, rfl⟩ := r
      obtain ⟨t', rfl⟩ := r'
      exact call_range_2 (range_it I1 q1 q2 q3 q4 q)

/-! ### for -/
/-- W: the invariant by the turn and a measure; N: what the body is to reach -/
def tFor (wi : TI) (g : TG) (tb : TS) : TS := fun D σ H => wi σ H fun J H1 => ∃ W : Nat → Nat → St → Hp → Prop, (∃ m, W 0 m σ H1) ∧ ∀ i m σ H, W i m σ H →
  (J.stop i H ∧ D.nx σ H) ∨ (J.go i H ∧ ∃ N : St → Hp → Prop, (∀ σ' H', N σ' H' → ∃ m', m' < m ∧ W (i + 1) m' σ' H') ∧ ∀ x H', J.yld i H x H' → g x σ H' fun σ2 H2 => tb { D with nx := N, ct := N, bk := D.nx } σ2 H2)
/-- the records at fp as they stand -/
def pinsAt (fp : List Addr) (h : Heap) : List (Addr × Obj) := fp.filterMap fun b => (h.get? b).map fun o => (b, o)
theorem mem_pinsAt {fp : List Addr} {h : Heap} {b : Addr} {o : Obj} (hb : b ∈ fp) (e : h.get? b = some o) : (b, o) ∈ pinsAt fp h := List.mem_filterMap.mpr ⟨b, hb, by rw [e]; rfl⟩
theorem of_pinsAt {fp : List Addr} {h : Heap} {p : Addr × Obj} (hp : p ∈ pinsAt fp h) : p.1 ∈ fp ∧ h.get? p.1 = some p.2 := by
  obtain ⟨b, hb, e⟩ := List.mem_filterMap.mp hp
  cases q : h.get? b with
  | none => rw [q] at e; cases e
  | some o =>
    rw [q] at e
    have e' : (b, o) = p := Option.some.inj e
    subst e'
    exact ⟨hb, q⟩
theorem Inv.pinned {pins : List (Addr × Obj)} {σ : St} {H : Hp} {s : Shared} {fp : List Addr} (I : Inv X pins σ H s) (hf : ∀ b ∈ fp, FpOk X pins H b) (ho : ∀ b ∈ fp, ∃ o, s.heap.get? b = some o ∧ ∀ v, o.data ≠ .cell v) : Inv X (pins ++ pinsAt fp s.heap) σ H s :=
  I.pins_of fun p hp => (List.mem_append.mp hp).elim (fun z => I.pin p (List.mem_append_right _ z)) fun z => by
    obtain ⟨hb, e⟩ := of_pinsAt z
    obtain ⟨f0, f1, f2, _⟩ := hf p.1 hb
    obtain ⟨o, e', d⟩ := ho p.1 hb
    rw [e] at e'; cases e'
    exact ⟨e, f0, f1, f2, d⟩
theorem Inv.unpinned {pins pl : List (Addr × Obj)} {σ : St} {H : Hp} {s : Shared} (I : Inv X (pins ++ pl) σ H s) : Inv X pins σ H s := I.pins_of fun p hp => I.pin p (List.mem_append_right _ (List.mem_append_left _ hp))
theorem ps_for {iter : Expr} {body : List Stmt} {wi : TI} {g : TG} {tb : TS} {pos : Pos} (hp : PassesOwn (model X.prog X.w) X.A X.env X.xe) (hc : X.calm = true) (hi : PI X tg iter wi) (hg : PG X tg g) (hb : PSs X body tb)
    (hs : ∀ x, foldedSetIterable iter X.env x = pure x := by intro _; rfl) : PS X (.For tg iter body [] pos) (tFor wi g tb) := by
  intro pins s σ H D I h
  refine wpAny_For (thn (hi pins s σ H _ I h) fun v s1 h1 => thn h1 fun itv s2 h2 => ?_) hs
  obtain ⟨it, fp, tn, J, H2, e, I2, T, st2, f2, W, ⟨m0, w0⟩, turn⟩ := h2
  subst e
  -- what stays true of the iterator's objects through the loop
  have stat : ∀ {H' : Hp}, (∀ b ∈ fp, H' b = none) → ∀ b ∈ fp, FpOk X pins H' b := fun hn b hb => ⟨hn b hb, (f2 b hb).2⟩
  refine codeAny_forLoop_any (fun n s' => ∃ i σ' H', Inv X pins σ' H' s' ∧ tn i s'.heap ∧ (∀ b ∈ fp, H' b = none) ∧ W i n σ' H') ?_ m0 ⟨0, σ, H2, I2, st2, fun b hb => (f2 b hb).1, w0⟩
  rintro n s3 ⟨i, σ3, H3, I3, st3, fr3, w3⟩
  rcases turn i n σ3 H3 w3 with ⟨stop, qn⟩ | ⟨go, N, hN, step⟩
  · refine wpAny_passesOwn hp (thn (T.done X rfl rfl rfl hc i pins s3 σ3 H3 X.xe I3 (stat fr3) st3 stop) fun r s4 ⟨hr, I4⟩ => ?_)
    subst hr
    exact wpAny_execs_nil ⟨σ3, H3, I4, qn⟩
  · refine wpAny_passesOwn hp (thn (T.item X rfl rfl rfl hc i pins s3 σ3 H3 X.xe I3 (stat fr3) st3 go) fun r s4 ⟨u, hr, h4⟩ => ?_)
    subst hr
    refine wpAny_passesOwn hp (thn h4 fun _ s5 ⟨x, H5, I5, r5, y5, st5, fr5⟩ => ?_)
    have I5' := I5.pinned (stat fr5) (T.obj _ _ st5)
    refine wpAny_passesOwn hp (thn (hg _ s5 σ3 H5 x u _ I5' r5 (step x H5 y5)) fun _ s6 ⟨σ6, H6, I6, q6⟩ => ?_)
    refine wpAny_passesOwn hp (thn (hb _ s6 σ6 H6 _ I6 q6) fun f s7 q7 => ?_)
    have again : ∀ {σ7 : St} {H7 : Hp}, Inv X (pins ++ pinsAt fp s5.heap) σ7 H7 s7 → N σ7 H7 → ∃ m, m < n ∧ ∃ i σ' H', Inv X pins σ' H' s7 ∧ tn i s7.heap ∧ (∀ b ∈ fp, H' b = none) ∧ W i m σ' H' := fun {σ7 H7} I7 n7 => by
      obtain ⟨m', hm, w7⟩ := hN σ7 H7 n7
      refine ⟨m', hm, i + 1, σ7, H7, I7.unpinned, T.keep _ _ _ st5 fun b hb o e => (I7.pin (b, o) (List.mem_append_right _ (List.mem_append_right _ (mem_pinsAt hb e)))).1, fun b hb => ?_, w7⟩
      obtain ⟨o, e, d⟩ := T.obj _ _ st5 b hb
      exact (I7.pin (b, o) (List.mem_append_right _ (List.mem_append_right _ (mem_pinsAt hb e)))).2.1
    cases f with
    | next => obtain ⟨σ7, H7, I7, n7⟩ := q7; exact again I7 n7
    | cont => obtain ⟨σ7, H7, I7, n7⟩ := q7; exact again I7 n7
    | brk => obtain ⟨σ7, H7, I7, q7⟩ := q7; exact ⟨σ7, H7, I7.unpinned, q7⟩
    | ret v => obtain ⟨x7, σ7, H7, I7, r7, q7⟩ := q7; exact ⟨x7, σ7, H7, I7.unpinned, r7, q7⟩
end

/-! ### the forms one uses -/
/-- over a list that the body leaves as it is -/
theorem for_list {K : PySem.W.Frag} {a : Addr} {xs : List V} {g : TG} {tb : TS} {D : Ends} {σ : St} {H : Hp} (Pv : Nat → St → Hp → Prop) (h0 : Pv 0 σ H) (hl : ∀ i σ H, i ≤ xs.length → Pv i σ H → SqL K H a xs)
    (hs : ∀ i x σ H, xs[i]? = some x → Pv i σ H → g x σ H fun σ2 H2 => tb { D with nx := Pv (i + 1), ct := Pv (i + 1), bk := D.nx } σ2 H2) (hd : ∀ σ H, Pv xs.length σ H → D.nx σ H) :
    ∃ W : Nat → Nat → St → Hp → Prop, (∃ m, W 0 m σ H) ∧ ∀ i m σ H, W i m σ H →
      ((Itl K a).stop i H ∧ D.nx σ H) ∨ ((Itl K a).go i H ∧ ∃ N : St → Hp → Prop, (∀ σ' H', N σ' H' → ∃ m', m' < m ∧ W (i + 1) m' σ' H') ∧ ∀ x H', (Itl K a).yld i H x H' → g x σ H' fun σ2 H2 => tb { D with nx := N, ct := N, bk := D.nx } σ2 H2) := by
  refine ⟨fun i m σ H => m = xs.length - i ∧ i ≤ xs.length ∧ Pv i σ H, ⟨xs.length, by simp, Nat.zero_le _, h0⟩, ?_⟩
  rintro i m σ H ⟨rfl, hi, p⟩
  have q := hl i σ H hi p
  by_cases hlt : i < xs.length
  · refine .inr ⟨⟨xs, xs[i], q, by simp [hlt]⟩, Pv (i + 1), fun σ' H' p' => ⟨xs.length - (i + 1), by omega, rfl, hlt, p'⟩, fun x H' y => ?_⟩
    obtain ⟨e, y⟩ := y
    subst e
    exact hs i x σ _ (y xs q) p
  · have e : i = xs.length := by omega
    subst e
    exact .inl ⟨⟨xs, q, Nat.le_refl _⟩, hd σ H p⟩
theorem for_range {lo : Int} {n : Nat} {g : TG} {tb : TS} {D : Ends} {σ : St} {H : Hp} (Pv : Nat → St → Hp → Prop) (h0 : Pv 0 σ H)
    (hs : ∀ i σ H, i < n → Pv i σ H → g (.int (lo + i)) σ H fun σ2 H2 => tb { D with nx := Pv (i + 1), ct := Pv (i + 1), bk := D.nx } σ2 H2) (hd : ∀ σ H, Pv n σ H → D.nx σ H) :
    ∃ W : Nat → Nat → St → Hp → Prop, (∃ m, W 0 m σ H) ∧ ∀ i m σ H, W i m σ H →
      ((Itr lo n).stop i H ∧ D.nx σ H) ∨ ((Itr lo n).go i H ∧ ∃ N : St → Hp → Prop, (∀ σ' H', N σ' H' → ∃ m', m' < m ∧ W (i + 1) m' σ' H') ∧ ∀ x H', (Itr lo n).yld i H x H' → g x σ H' fun σ2 H2 => tb { D with nx := N, ct := N, bk := D.nx } σ2 H2) := by
  refine ⟨fun i m σ H => m = n - i ∧ i ≤ n ∧ Pv i σ H, ⟨n, by simp, Nat.zero_le _, h0⟩, ?_⟩
  rintro i m σ H ⟨rfl, hi, p⟩
  by_cases hlt : i < n
  · refine .inr ⟨hlt, Pv (i + 1), fun σ' H' p' => ⟨n - (i + 1), by omega, rfl, hlt, p'⟩, fun x H' y => ?_⟩
    obtain ⟨e, y⟩ := y
    subst e y
    exact hs i σ _ hlt p
  · have e : i = n := by omega
    subst e
    exact .inl ⟨Nat.le_refl _, hd σ H p⟩
end L2

namespace L2
open PySem PySem.Spec PyProof.Rows

abbrev R2 := V → V → Hp → VK → Prop
/-- a two-place operation on values: f is binaryOp op, inplaceOp op or compareOp op -/
def OpR (X : Cx) (f : Value → Value → Sem Value) (r : R2) : Prop :=
  ∀ (pins : List (Addr × Obj)) (s : Shared) (σ : St) (H : Hp) (x y : V) (v u : Value) (Q : VK), Inv X pins σ H s → RelV x v → RelV y u → r x y H Q →
    wpAny (model X.prog X.w) X.A (f v u) (EP X pins σ Q) X.xe s
/-- a one-place operation -/
def UnR (X : Cx) (f : Value → Sem Value) (r : V → Hp → VK → Prop) : Prop :=
  ∀ (pins : List (Addr × Obj)) (s : Shared) (σ : St) (H : Hp) (x : V) (v : Value) (Q : VK), Inv X pins σ H s → RelV x v → r x H Q →
    wpAny (model X.prog X.w) X.A (f v) (EP X pins σ Q) X.xe s
/-- a call of a value that is known (a builtin, a type) with values -/
def CallR (X : Cx) (f : Value) (r : List V → Hp → VK → Prop) : Prop :=
  ∀ (pins : List (Addr × Obj)) (s : Shared) (σ : St) (H : Hp) (xs : List V) (us : List Value) (Q : VK), Inv X pins σ H s → Vals xs us → r xs H Q →
    wpAny (model X.prog X.w) X.A (call f us) (EP X pins σ Q) X.xe s
def tOp (r : R2) (ta tb : TE) : TE := fun σ H Q => ta σ H fun x H1 => tb σ H1 fun y H2 => r x y H2 Q
def tUn (r : V → Hp → VK → Prop) (ta : TE) : TE := fun σ H Q => ta σ H fun x H1 => r x H1 Q
/-- ints in, under C, and a value out -/
inductive rI (C : Int → Int → Prop) (g : Int → Int → V) (x : V) (y : V) (H : Hp) (Q : VK) : Prop
  | mk : ∀ i j, (x = .int i) → (y = .int j) → (C i j) → (Q (g i j) H) → rI C g x y H Q
inductive rI0 (g : Int → Int → V) (x : V) (y : V) (H : Hp) (Q : VK) : Prop
  | mk : ∀ i j, (x = .int i) → (y = .int j) → (Q (g i j) H) → rI0 g x y H Q
inductive rU (g : Int → V) (x : V) (H : Hp) (Q : VK) : Prop
  | mk : ∀ i, (x = .int i) → (Q (g i) H) → rU g x H Q

section
variable {X : Cx} {a b c : Expr} {ta tb tc : TE} {pos : Pos}

theorem binT (ha : PE X a ta) (hb : PE X b tb) {pins : List (Addr × Obj)} {s : Shared} {σ : St} {H : Hp} {R : V → V → Hp → Prop} (I : Inv X pins σ H s)
    (h : ta σ H fun x H1 => tb σ H1 fun y H2 => R x y H2) {Q : Value → Shared → Prop} {f : Value → Value → Sem Value}
    (hf : ∀ v u s2 x y H2, Inv X pins σ H2 s2 → RelV x v → RelV y u → R x y H2 → wpAny (model X.prog X.w) X.A (f v u) Q X.xe s2) :
    wpAny (model X.prog X.w) X.A (eval a X.env) (fun v s₁ => wpAny (model X.prog X.w) X.A (eval b X.env) (fun u s₂ => wpAny (model X.prog X.w) X.A (f v u) Q X.xe s₂) X.xe s₁) X.xe s := by
  refine thn (ha pins s σ H _ I h) fun v s1 ⟨x, H1, I1, r1, q1⟩ => ?_
  refine thn (hb pins s1 σ H1 _ I1 q1) fun u s2 ⟨y, H2, I2, r2, q2⟩ => ?_
  exact hf v u s2 x y H2 I2 r1 r2 q2

theorem pe_op {op : Operator} {r : R2} (ho : OpR X (binaryOp op) r) (ha : PE X a ta) (hb : PE X b tb) : PE X (.BinOp a op b pos) (tOp r ta tb) := by
  intro pins s σ H Q I h
  exact wpAny_BinOp (binT ha hb I h fun v u s2 x y H2 I2 rx ry q => ho pins s2 σ H2 x y v u Q I2 rx ry q)
theorem pe_un {op : UnaryOp} {r : V → Hp → VK → Prop} (ho : UnR X (unaryOp op) r) (ha : PE X a ta) : PE X (.UnaryOp op a pos) (tUn r ta) := by
  intro pins s σ H Q I h
  exact UnaryOp_ (thn (ha pins s σ H _ I h) fun v s1 ⟨x, H1, I1, r1, q1⟩ => ho pins s1 σ H1 x v Q I1 r1 q1)
/-! ### ints -/
theorem opI {f : Value → Value → Sem Value} {C : Int → Int → Prop} {g : Int → Int → Int}
    (rule : ∀ (i j : Int) (t u : Tok) (s : Shared) (Q : Value → Shared → Prop) (E : Value → Shared → Prop), C i j → Q (.int (g i j) s.toks) { s with toks := s.toks + 1 } → wpAny (model X.prog X.w) X.A (f (.int i t) (.int j u)) Q E s) :
    OpR X f (rI C fun i j => .int (g i j)) := by
  intro pins s σ H x y v u Q I rx ry h
  obtain ⟨i, j, rfl, rfl, hc, q⟩ := h
  obtain ⟨t, rfl⟩ := rx
  obtain ⟨t', rfl⟩ := ry
  exact rule i j t t' s _ _ hc ⟨.int (g i j), H, I.tok _, ⟨_, rfl⟩, q⟩
theorem opI0 {f : Value → Value → Sem Value} {g : Int → Int → Int}
    (rule : ∀ (i j : Int) (t u : Tok) (s : Shared) (Q : Value → Shared → Prop) (E : Value → Shared → Prop), Q (.int (g i j) s.toks) { s with toks := s.toks + 1 } → wpAny (model X.prog X.w) X.A (f (.int i t) (.int j u)) Q E s) :
    OpR X f (rI0 fun i j => .int (g i j)) := by
  intro pins s σ H x y v u Q I rx ry h
  obtain ⟨i, j, rfl, rfl, q⟩ := h
  obtain ⟨t, rfl⟩ := rx
  obtain ⟨t', rfl⟩ := ry
  exact rule i j t t' s _ _ ⟨.int (g i j), H, I.tok _, ⟨_, rfl⟩, q⟩
theorem opB0 {f : Value → Value → Sem Value} {g : Int → Int → Bool}
    (rule : ∀ (i j : Int) (t u : Tok) (s : Shared) (Q : Value → Shared → Prop) (E : Value → Shared → Prop), Q (.bool (g i j)) s → wpAny (model X.prog X.w) X.A (f (.int i t) (.int j u)) Q E s) :
    OpR X f (rI0 fun i j => .bl (g i j)) := by
  intro pins s σ H x y v u Q I rx ry h
  obtain ⟨i, j, rfl, rfl, q⟩ := h
  obtain ⟨t, rfl⟩ := rx
  obtain ⟨t', rfl⟩ := ry
  exact rule i j t t' s _ _ ⟨.bl (g i j), H, I, rfl, q⟩

def CDiv (i j : Int) : Prop := 0 < j ∧ j < 1073741824
def CPow (i j : Int) : Prop := 0 ≤ j ∧ j ≤ 1000000 ∧ i.natAbs < 2 ^ 64
def CMul (i j : Int) : Prop := (-(2 ^ 64) < i ∧ i < 2 ^ 64) ∨ (-(2 ^ 64) < j ∧ j < 2 ^ 64)
theorem CMul.ok {i j : Int} (h : CMul i j) : IntMulOk i j := by
  rcases h with ⟨h1, h2⟩ | ⟨h1, h2⟩
  · exact .of_left (intBits_le_64 h1 h2)
  · exact .of_right (intBits_le_64 h1 h2)
theorem op_add : OpR X (binaryOp .Add) (rI0 fun i j => .int (i + j)) := opI0 fun _ _ _ _ _ _ _ q => add_int q
theorem op_sub : OpR X (binaryOp .Sub) (rI0 fun i j => .int (i - j)) := opI0 fun _ _ _ _ _ _ _ q => sub_int q
theorem op_mul : OpR X (binaryOp .Mult) (rI CMul fun i j => .int (i * j)) := opI fun _ _ _ _ _ _ _ hc q => mul_int q hc.ok
/-- // by a positive divisor -/
theorem op_fdiv : OpR X (binaryOp .FloorDiv) (rI CDiv fun i j => .int (i / j)) := opI fun i j _ _ _ _ _ hc q => by
  have h1 : (0 : Int) < j := hc.1
  have h2 : j < 1073741824 := hc.2
  exact floordiv_int (by omega) (by rw [Int.fdiv_eq_ediv_of_nonneg i (by omega)]; exact q) (.inl (PyProof.noPylong_small (by omega)))
/-- % by a positive divisor of any size -/
theorem op_mod : OpR X (binaryOp .Mod) (rI (fun _ j => 0 < j) fun i j => .int (i % j)) := opI fun i j _ _ _ _ _ hc q => by
  have h1 : (0 : Int) < j := hc
  exact mod_int' (by omega) (by rw [Int.fmod_eq_emod_of_nonneg i (by omega)]; exact q)
theorem op_pow : OpR X (binaryOp .Pow) (rI CPow fun i j => .int (i ^ j.toNat)) := opI fun _ _ _ _ _ _ _ hc q => pow_int_small hc.1 hc.2.1 hc.2.2 q
theorem unI {f : Value → Sem Value} {g : Int → Int}
    (rule : ∀ (i : Int) (t : Tok) (s : Shared) (Q : Value → Shared → Prop) (E : Value → Shared → Prop), Q (.int (g i) s.toks) { s with toks := s.toks + 1 } → wpAny (model X.prog X.w) X.A (f (.int i t)) Q E s) :
    UnR X f (rU fun i => .int (g i)) := by
  intro pins s σ H x v Q I rx h
  obtain ⟨i, rfl, q⟩ := h
  obtain ⟨t, rfl⟩ := rx
  exact rule i t s _ _ ⟨.int (g i), H, I.tok _, ⟨_, rfl⟩, q⟩
theorem un_neg : UnR X (unaryOp .USub) (rU fun i => .int (-i)) := unI fun _ _ _ _ _ q => neg_int q
/-! ### bools among ints: n += (a < b) -/
end

/-! ### comparisons -/
/-- the scalars that == tells apart as data does -/
def scal : V → V → Bool
  | .non, .non => true | .non, .int _ => true | .int _, .non => true | .non, .bl _ => true | .bl _, .non => true | .non, .str _ => true | .str _, .non => true
  | .int _, .int _ => true | .bl _, .bl _ => true | .str _, .str _ => true | .byt _, .byt _ => true
  | .int _, .str _ => true | .str _, .int _ => true | .bl _, .str _ => true | .str _, .bl _ => true
  | _, _ => false
def rEq : R2 := fun x y H Q => scal x y = true ∧ Q (.bl (decide (x = y))) H
def rNe : R2 := fun x y H Q => scal x y = true ∧ Q (.bl (!decide (x = y))) H

theorem dec_int {i j : Int} : decide (V.int i = V.int j) = (i == j) := by
  rw [Bool.eq_iff_iff]
  simp
theorem dec_bl {i j : Bool} : decide (V.bl i = V.bl j) = (i == j) := by
  rw [Bool.eq_iff_iff]
  simp
theorem dec_str {i j : Str} : decide (V.str i = V.str j) = (i == j) := by
  rw [Bool.eq_iff_iff]
  simp
theorem dec_byt {i j : Array UInt8} : decide (V.byt i = V.byt j) = (i.toList == j.toList) := by
  rw [Bool.eq_iff_iff]
  cases i
  cases j
  simp

section
variable {X : Cx} {a b c : Expr} {ta tb tc : TE} {pos : Pos}
theorem fin_bl {pins : List (Addr × Obj)} {σ : St} {H : Hp} {s : Shared} {Q : VK} {k k' : Bool} (I : Inv X pins σ H s) (q : Q (.bl k) H) (e : k = k') : EP X pins σ Q (.bool k') s := by
  subst e
  exact ⟨.bl k, H, I, rfl, q⟩
theorem op_eq : OpR X (compareOp .Eq) rEq := by
  intro pins s σ H x y v u Q I rx ry h
  obtain ⟨hs, q⟩ := h
  cases x with
  | non =>
    cases rx
    cases y with
    | non => cases ry; exact PySem.EqNone.eq_none_none (fin_bl I q (by simp))
    | bl j => cases ry; exact PySem.EqNone.eq_none_bool (fin_bl I q (by simp))
    | int j => obtain ⟨t', rfl⟩ := ry; exact PySem.EqNone.eq_none_int (fin_bl I q (by simp))
    | str j => obtain ⟨t', rfl⟩ := ry; exact PySem.EqNone.eq_none_str (fin_bl I q (by simp))
    | _ => exact absurd (show false = true from hs) Bool.false_ne_true
  | bl i =>
    cases rx
    cases y with
    | non => cases ry; exact PySem.EqNone.eq_bool_none (fin_bl I q (by simp))
    | bl j => cases ry; exact eq_bool (fin_bl I q dec_bl)
    | str j => obtain ⟨t', rfl⟩ := ry; exact PySem.EqMixed.eq_bool_str (fin_bl I q (by simp))
    | _ => exact absurd (show false = true from hs) Bool.false_ne_true
  | int i =>
    obtain ⟨t, rfl⟩ := rx
    cases y with
    | non => cases ry; exact PySem.EqNone.eq_int_none (fin_bl I q (by simp))
    | int j => obtain ⟨t', rfl⟩ := ry; exact eq_int (fin_bl I q dec_int)
    | str j => obtain ⟨t', rfl⟩ := ry; exact PySem.EqMixed.eq_int_str (fin_bl I q (by simp))
    | _ => exact absurd (show false = true from hs) Bool.false_ne_true
  | str i =>
    obtain ⟨t, rfl⟩ := rx
    cases y with
    | non => cases ry; exact PySem.EqNone.eq_str_none (fin_bl I q (by simp))
    | bl j => cases ry; exact PySem.EqMixed.eq_str_bool (fin_bl I q (by simp))
    | int j => obtain ⟨t', rfl⟩ := ry; exact PySem.EqMixed.eq_str_int (fin_bl I q (by simp))
    | str j => obtain ⟨t', rfl⟩ := ry; exact eq_str (fin_bl I q dec_str)
    | _ => exact absurd (show false = true from hs) Bool.false_ne_true
  | byt i =>
    obtain ⟨t, rfl⟩ := rx
    cases y with
    | byt j => obtain ⟨t', rfl⟩ := ry; exact PySem.W.eq_bytes (fin_bl I q dec_byt)
    | _ => exact absurd (show false = true from hs) Bool.false_ne_true
  | _ => cases y <;> exact absurd (show false = true from hs) Bool.false_ne_true
theorem op_ne : OpR X (compareOp .NotEq) rNe := by
  intro pins s σ H x y v u Q I rx ry h
  obtain ⟨hs, q⟩ := h
  cases x with
  | non =>
    cases rx
    cases y with
    | non => cases ry; exact PySem.EqNone.ne_none_none (fin_bl I q (by simp))
    | bl j => cases ry; exact PySem.EqNone.ne_none_bool (fin_bl I q (by simp))
    | int j => obtain ⟨t', rfl⟩ := ry; exact PySem.EqNone.ne_none_int (fin_bl I q (by simp))
    | str j => obtain ⟨t', rfl⟩ := ry; exact PySem.EqNone.ne_none_str (fin_bl I q (by simp))
    | _ => exact absurd (show false = true from hs) Bool.false_ne_true
  | bl i =>
    cases rx
    cases y with
    | non => cases ry; exact PySem.EqNone.ne_bool_none (fin_bl I q (by simp))
    | bl j => cases ry; exact ne_bool (fin_bl I q (congrArg not dec_bl))
    | str j => obtain ⟨t', rfl⟩ := ry; exact PySem.EqMixed.ne_bool_str (fin_bl I q (by simp))
    | _ => exact absurd (show false = true from hs) Bool.false_ne_true
  | int i =>
    obtain ⟨t, rfl⟩ := rx
    cases y with
    | non => cases ry; exact PySem.EqNone.ne_int_none (fin_bl I q (by simp))
    | int j => obtain ⟨t', rfl⟩ := ry; exact ne_int (fin_bl I q (congrArg not dec_int))
    | str j => obtain ⟨t', rfl⟩ := ry; exact PySem.EqMixed.ne_int_str (fin_bl I q (by simp))
    | _ => exact absurd (show false = true from hs) Bool.false_ne_true
  | str i =>
    obtain ⟨t, rfl⟩ := rx
    cases y with
    | non => cases ry; exact PySem.EqNone.ne_str_none (fin_bl I q (by simp))
    | bl j => cases ry; exact PySem.EqMixed.ne_str_bool (fin_bl I q (by simp))
    | int j => obtain ⟨t', rfl⟩ := ry; exact PySem.EqMixed.ne_str_int (fin_bl I q (by simp))
    | str j => obtain ⟨t', rfl⟩ := ry; exact ne_str (fin_bl I q (congrArg not dec_str))
    | _ => exact absurd (show false = true from hs) Bool.false_ne_true
  | byt i =>
    obtain ⟨t, rfl⟩ := rx
    cases y with
    | byt j => obtain ⟨t', rfl⟩ := ry; exact PySem.W.ne_bytes (fin_bl I q (congrArg not dec_byt))
    | _ => exact absurd (show false = true from hs) Bool.false_ne_true
  | _ => cases y <;> exact absurd (show false = true from hs) Bool.false_ne_true

theorem op_lt : OpR X (compareOp .Lt) (rI0 fun i j => .bl (decide (i < j))) := opB0 fun _ _ _ _ _ _ _ q => lt_int q
theorem op_gt : OpR X (compareOp .Gt) (rI0 fun i j => .bl (decide (j < i))) := opB0 fun _ _ _ _ _ _ _ q => gt_int q
theorem op_ge : OpR X (compareOp .GtE) (rI0 fun i j => .bl (decide (j ≤ i))) := opB0 fun _ _ _ _ _ _ _ q => ge_int q
theorem nomark (b : Expr) {op : CmpOp} (h : op ≠ .In := by decide) (h2 : op ≠ .NotIn := by decide) : behindInMarks op b = false := by
  have e1 : (op == CmpOp.In) = false := by cases op <;> first | rfl | exact absurd rfl h
  have e2 : (op == CmpOp.NotIn) = false := by cases op <;> first | rfl | exact absurd rfl h2
  cases b <;> simp [behindInMarks, e1, e2]
/-- a comparison as a value; hm: nomark b, or (for in, not in) by with_unfolding_all rfl -/
theorem pe_cmpR {op : CmpOp} {r : R2} (ho : OpR X (compareOp op) r) (ha : PE X a ta) (hb : PE X b tb) (hm : behindInMarks op b = false) : PE X (.Compare a [op] [b] pos) (tOp r ta tb) := by
  intro pins s σ H Q I h
  exact wpAny_Compare1 (binT ha hb I h fun v u s2 x y H2 I2 rx ry q => ho pins s2 σ H2 x y v u Q I2 rx ry q) hm
/-- a reading of a value as a test -/
inductive isBl (x : V) (H : Hp) (Q : Bool → Hp → Prop) : Prop
  | mk : ∀ k, x = .bl k → Q k H → isBl x H Q
def tTest (t : TE) : TT := fun σ H Q => t σ H fun x H' => isBl x H' Q
theorem pt_cmpR {op : CmpOp} {r : R2} (ho : OpR X (compareOp op) r) (ha : PE X a ta) (hb : PE X b tb) (hm : behindInMarks op b = false) : PT X (.Compare a [op] [b] pos) (tTest (tOp r ta tb)) := by
  intro pins s σ H Q I h
  refine wpAny_isTrue_Compare1 (thn (ha pins s σ H _ I h) fun v s1 ⟨x, H1, I1, r1, q1⟩ => thn (hb pins s1 σ H1 _ I1 q1) fun u s2 ⟨y, H2, I2, r2, q2⟩ =>
    thn (ho pins s2 σ H2 x y v u _ I2 r1 r2 q2) fun c s3 ⟨z, H3, I3, r3, k, e, q3⟩ => ?_) hm
  subst e
  cases r3
  exact wpAny_truthy_bool ⟨H3, I3, q3⟩
/-! ### truth -/
theorem line63 : (sizeLine : Nat) < 2 ^ 63 := by rw [sizeLine_eq]; decide
/-! ### strs and bytes -/
theorem op_add_str : OpR X (binaryOp .Add) (fun x y H Q => ∃ i j, x = .str i ∧ y = .str j ∧ i.length + j.length ≤ sizeLine ∧ Q (.str (i ++ j)) H) := by
  intro pins s σ H x y v u Q I rx ry h
  obtain ⟨i, j, rfl, rfl, hz, q⟩ := h
  obtain ⟨t, rfl⟩ := rx
  obtain ⟨t', rfl⟩ := ry
  exact add_str (fun t' tk => ⟨.str (i ++ j), H, I.tok _, ⟨_, rfl⟩, q⟩) hz
/-! ### scalar builtins, by CallR -/
theorem vals1 {x : V} {us : List Value} (r : Vals [x] us) : ∃ u, us = [u] ∧ RelV x u := by
  cases r with
  | cons r1 r2 => cases r2; exact ⟨_, rfl, r1⟩
theorem vals2 {x y : V} {us : List Value} (r : Vals [x, y] us) : ∃ u w', us = [u, w'] ∧ RelV x u ∧ RelV y w' := by
  cases r with
  | cons r1 r2 =>
    cases r2 with
    | cons r3 r4 => cases r4; exact ⟨_, _, rfl, r1, r3⟩
theorem call_int1 : CallR X (.type "int") (fun xs H Q => (∃ i, xs = [.int i] ∧ Q (.int i) H) ∨ ∃ k, xs = [.bl k] ∧ Q (.int (if k then 1 else 0)) H) := by
  intro pins s σ H xs us Q I r h
  rcases h with ⟨i, rfl, q⟩ | ⟨k, rfl, q⟩
  · obtain ⟨u, rfl, t, rfl⟩ := vals1 r
    exact call_int_int ⟨.int i, H, I, ⟨_, rfl⟩, q⟩
  · obtain ⟨u, rfl, r1⟩ := vals1 r
    cases r1
    exact call_int_bool ⟨.int (if k then 1 else 0), H, I.tok _, ⟨_, rfl⟩, q⟩
end
end L2

namespace L2
open PySem PySem.Spec PyProof.Rows

/-! ### an instance, its attributes a map -/
section
variable {prog : Program} {w : World} {A : Around} {E : Value → Shared → Prop} {s : Shared} {K : PySem.W.Frag} {x dx C f : Addr} {mA : Str → Option Value} {name : Str} {v : Value}

end

/-! ### the attributes as a list of pairs -/
theorem RelO.some_of {v : V} {o : Option Value} (r : RelO (some v) o) : ∃ u, o = some u ∧ RelV v u := by
  cases o with
  | none => exact (show False from r).elim
  | some u => exact ⟨u, rfl, r⟩
section
variable {P : Program} {w : World} {H H' : Hp} {h h' : Heap} {a C dx : Addr} {fs fs' : List (Str × V)}
end

/-! ### what of the text a class must have -/
section
variable {X : Cx} {pins : List (Addr × Obj)} {σ : St} {H : Hp} {s : Shared} {a C dx : Addr} {fs : List (Str × V)} {f : Str} {v : V} {A : Around} {E : Value → Shared → Prop}

end

/-! ### readings and rules -/
section
variable {X : Cx} {o e value : Expr} {f : Str} {pos pos' tpos : Pos} {ta tv : TE}
end

/-! ### isinstance -/
section
variable {X : Cx} {pins : List (Addr × Obj)} {σ : St} {H : Hp} {s : Shared} {A : Around} {E : Value → Shared → Prop} {Q : Value → Shared → Prop} {c : Value} {b : Bool}
end
end L2

namespace L2
open PySem PySem.Spec PyProof.Rows

/-! ### room -/
structure Room (k : Nat) (A : Around) : Prop where
  hd : A.handled = none
  dp : A.depth + 3 * k + 5 < recursionLimit
  un : A.units + 16 * k + 200 < cLine
theorem Room.mono {j k : Nat} {A : Around} (r : Room k A) (h : j ≤ k) : Room j A := ⟨r.hd, by have := r.dp; omega, by have := r.un; omega⟩
theorem Room.deeper {k : Nat} {A : Around} (r : Room (k + 1) A) (env : Env) : Room k (A.deeper env) :=
  ⟨r.hd, by have := r.dp; show A.depth + 1 + 3 * k + 5 < _; omega, by have := r.un; show A.units + 3 + 16 * k + 200 < _; omega⟩
theorem Room.depth {k : Nat} {A : Around} (r : Room k A) : A.depth < recursionLimit := by have := r.dp; omega
theorem Room.units {k : Nat} {A : Around} (r : Room k A) : A.units + 64 < cLine := by have := r.un; omega
/-! ### argument lists and displays -/
def tNil : TA := fun _ H Q => Q [] H
def tCons (ta : TE) (tr : TA) : TA := fun σ H Q => ta σ H fun x H1 => tr σ H1 fun xs H2 => Q (x :: xs) H2
section
variable {X : Cx} {e : Expr} {es : List Expr} {te : TE} {t : TA} {pos : Pos}
theorem pa_nil : PA X [] tNil := fun _ _ _ _ H Q I h => Calls.spliced_nil ⟨[], H, I, .nil, h⟩
theorem pa_cons (ha : PE X e te) (hr : PA X es t) (hs : starEach (e :: es) X.env = (false, eval e X.env) :: starEach es X.env := by rfl) : PA X (e :: es) (tCons te t) := by
  intro pos pins s σ H Q I h
  rw [hs]
  show wpAny _ _ (spliced ((false, eval e X.env) :: backTo pos (starEach es X.env))) _ _ s
  refine Calls.spliced_cons (thn (ha pins s σ H _ I h) fun u s1 ⟨x, H1, I1, r1, q1⟩ => ?_)
  exact thn (hr pos pins s1 σ H1 _ I1 q1) fun us s2 ⟨xs, H2, I2, r2, q2⟩ => ⟨x :: xs, H2, I2, .cons r1 r2, q2⟩

/-- a tuple, a list of written items -/
def tTup (t : TA) : TE := fun σ H Q => t σ H fun xs H1 => xs.length ≤ sizeLine ∧ ∀ p, H1 p = none → Q (.ref p) (upd H1 p (.tup xs))
def tLst (t : TA) : TE := fun σ H Q => t σ H fun xs H1 => xs.length ≤ sizeLine ∧ ∀ p, H1 p = none → Q (.ref p) (upd H1 p (.lst xs))
theorem pe_tup {x1} (h : PA X es t) : PE X (.Tuple es x1 pos) (tTup t) := by
  intro pins s σ H Q I hq
  refine wpAny_Tuple_spliced (thn (h pos pins s σ H _ I hq) fun us s1 ⟨xs, H1, I1, r, z, q⟩ => ⟨by rw [← r.length]; exact z, ?_⟩)
  have hf : H1 s1.heap.objs.size = none := I1.hok.fresh (Nat.le_refl _)
  refine ⟨.ref s1.heap.objs.size, upd H1 s1.heap.objs.size (.tup xs), I1.laid (t' := s1.toks) (fun b u e => Heap.get?_push_of_some _ e) (Nat.le_refl _) ?_, rfl, q _ hf⟩
  exact ⟨z, us, r, ⟨_, Heap.get?_push_size _ rfl, rfl, _, rfl⟩⟩
theorem pe_lst (h : PA X es t) : PE X (.List es pos) (tLst t) := by
  intro pins s σ H Q I hq
  refine wpAny_List_spliced (thn (h pos pins s σ H _ I hq) fun us s1 ⟨xs, H1, I1, r, z, q⟩ => ⟨by rw [← r.length]; exact z, ?_⟩)
  have hf : H1 s1.heap.objs.size = none := I1.hok.fresh (Nat.le_refl _)
  refine ⟨.ref s1.heap.objs.size, upd H1 s1.heap.objs.size (.lst xs), I1.laid (t' := s1.toks) (fun b u e => Heap.get?_push_of_some _ e) (Nat.le_refl _) ?_, rfl, q _ hf⟩
  exact ⟨z, us, 0, r, Heap.get?_push_size _ rfl⟩
end

/-! ### what a def promises -/
/-- a def's promise: the bound arguments in the parameters' order, the heap, the wanted end, the wanted exception -/
abbrev Sp := List V → Hp → VK → XK → Prop
/-- how an exception lies behind a call (file 08 gives it): the callers' frames, abstract heap and state ahead of the call, the wish, the exception, the state -/
abbrev CXT := List Env → Hp → Shared → XK → Value → Shared → Prop

/-- the state at a call -/
structure Env0 (P : Program) (w : World) (K : PySem.W.Frag) (mg : Str → Option Value) (base : Heap) (A : Around) (outer : List Env) (s : Shared) (H : Hp) : Prop where
  frames : A.frames = some outer
  mod : Mod K mg base
  bs : ∀ b o, base.get? b = some o → s.heap.get? b = some o ∧ H b = none
  bsz : base.objs.size ≤ s.heap.objs.size
  funs : s.heap.FunFrames base outer
  frf : ∀ b ∈ frs outer, H b = none
  hok : HOk P w H s.heap
  bare : AllBare s.gens
/-- a call's end -/
def CE (outer : List Env) (P : Program) (w : World) (H : Hp) (s : Shared) (Q : VK) (u : Value) (s' : Shared) : Prop :=
  ∃ v H', s'.os = s.os ∧ AllBare s'.gens ∧ Un (frs outer) [] H H' s.heap s'.heap ∧ HOk P w H' s'.heap ∧ RelV v u ∧ Q v H'
def CR (CX : CXT) (outer : List Env) (P : Program) (w : World) (H : Hp) (s : Shared) (Q : VK) (E : XK) (r : Result) (s' : Shared) : Prop :=
  match r with
  | .ok (.ret u) => CE outer P w H s Q u s'
  | .ok _ => False
  | .error e => CX outer H s E e s'
structure FnOk (P : Program) (w : World) (K : PySem.W.Frag) (mg : Str → Option Value) (base : Heap) (CX : CXT) (k : Nat) (f : Addr) (fd : FuncData) (ps : List Str) (sp : Sp) : Prop where
  len : ∀ vs H Q E, sp vs H Q E → vs.length = ps.length
  run : ∀ (A : Around) (outer : List Env) (s : Shared) (H : Hp) (args : Args) (us : List Value) (vs : List V) (Q : VK) (E : XK), Room k A → Env0 P w K mg base A outer s H → BindsTo s fd args (ps.zip us) → Vals vs us → sp vs H Q E →
    codeAny (model P w) A (.call (.ref f) args) (CR CX outer P w H s Q E) s
section
variable {X : Cx} {pins : List (Addr × Obj)} {σ : St} {H : Hp} {s s' : Shared}
/-- from a body: what a callee wants -/
theorem Inv.env0 (I : Inv X pins σ H s) : Env0 X.prog X.w X.K X.mg X.base X.A X.stack s H :=
  ⟨I.ok.frames, I.ok.mod, I.bs, Nat.le_trans I.ok.bsz I.sz, I.stack, I.stkFree, I.hok, I.bare⟩
/-- behind a call -/
theorem Inv.after {Q : VK} {u : Value} (I : Inv X pins σ H s) (h : CE X.stack X.prog X.w H s Q u s') : EP X pins σ Q u s' := by
  obtain ⟨v, H', os, bare, un, hok, r, q⟩ := h
  obtain ⟨hh, g, d, t, os'⟩ := s'
  obtain rfl : os' = s.os := os
  exact ⟨v, H', I.call (h' := hh) (g' := g) (d' := d) (t' := t) (ch := []) un hok bare (fun b z => absurd z (by simp)), r, q⟩
end

/-! ### calls -/
/-- f(..): the written arguments, then the defaults dvs; E: what is wanted of an exception -/
def tCall (sp : Sp) (dvs : List V) (E : XK) (t : TA) : TE := fun σ H Q => t σ H fun vs H1 => sp (vs ++ dvs) H1 Q E
/-- how the parameters are bound: us the positional arguments, kw the keywords' values by name, ds the defaults that fill up -/
def Binds (K : PySem.W.Frag) (fd : FuncData) (ps : List Str) (ds : List Value) : Prop :=
  ∀ (s : Shared) (us : List Value), K.In s.heap → (us ++ ds).length = ps.length → BindsTo s fd ⟨us, []⟩ (ps.zip (us ++ ds))
/-- every parameter is given -/
theorem Binds.all {K : PySem.W.Frag} {fd : FuncData} {ps : List Str} (h : ∀ us : List Value, us.length = ps.length → bindArgs fd ⟨us, []⟩ = pure (ps.zip us)) : Binds K fd ps [] := fun s us _ hl => by
  rw [List.append_nil] at hl ⊢
  exact .of_eq (h us hl)

/-- an exception of a callee reaches what this body wants of exceptions -/
def Passes (CX : CXT) (X : Cx) (E : XK) : Prop := ∀ (pins : List (Addr × Obj)) (σ : St) (H : Hp) (s : Shared) (e : Value) (s' : Shared), Inv X pins σ H s → CX X.stack H s E e s' → X.xe e s'

section
variable {X : Cx} {CX : CXT} {k : Nat} {f C : Addr} {fd : FuncData} {ps : List Str} {sp : Sp} {dvs : List V} {ds : List Value} {E : XK} {x m : Str} {p pos apos : Pos} {e o : Expr} {es : List Expr} {ta : TE} {t : TA}

/-- the callee runs -/
theorem run_fn {pins : List (Addr × Obj)} {σ : St} {H : Hp} {s : Shared} {Q : VK} {us : List Value} {vs : List V} (F : FnOk X.prog X.w X.K X.mg X.base CX k f fd ps sp) (hr : Room k X.A) (hb : Binds X.K fd ps ds) (hd : Vals dvs ds) (hx : Passes CX X E)
    (I : Inv X pins σ H s) (r : Vals vs us) (h : sp (vs ++ dvs) H Q E) : wpAny (model X.prog X.w) X.A (call (.ref f) us) (EP X pins σ Q) X.xe s := by
  have r2 : Vals (vs ++ dvs) (us ++ ds) := r.append hd
  have hl : (us ++ ds).length = ps.length := by rw [← r2.length]; exact F.len _ _ _ _ h
  refine wpAny_call (codeAny_mono (F.run X.A X.stack s H ⟨us, []⟩ (us ++ ds) (vs ++ dvs) Q E hr I.env0 (hb s us I.kIn hl) r2 h) fun r s' hq => ?_)
  cases r with
  | error e => exact hx pins σ H s e s' I hq
  | ok fl =>
    cases fl with
    | ret u => exact I.after hq
    | next => exact False.elim hq
    | brk => exact False.elim hq
    | cont => exact False.elim hq

theorem pe_call (F : FnOk X.prog X.w X.K X.mg X.base CX k f fd ps sp) (hr : Room k X.A) (hg : Gl X x) (hm : X.mg x = some (.ref f)) (hk : PySem.W.keepIn X.K (.ref f) = true) (hb : Binds X.K fd ps ds) (hd : Vals dvs ds) (hx : Passes CX X E)
    (ha : PA X (e :: es) t) (hdb : (x == ("__debug__" : Str)) = false := by decide) (he : starEach (e :: es) X.env = (false, eval e X.env) :: starEach es X.env := by rfl) (hpl : (backTo pos (starEach es X.env)).any (·.1) = false := by rfl) :
    PE X (.Call (.Name x p) (e :: es) [] pos) (tCall sp dvs E t) := by
  intro pins s σ H Q I h
  refine wpAny_Call_Name_kw (ld_glob I hg hm ?_ hdb)
  refine PySem.W.callWith_K (h₀ := X.base) I.ok.mod.kin hk (thn (ha pos pins s σ H _ I h) fun us s1 ⟨vs, H1, I1, r, q⟩ => ⟨I1.kIn, ?_⟩) he hpl
  exact run_fn F hr hb hd hx I1 r q
end

/-! ### keywords -/
section
variable {X : Cx} {CX : CXT} {k : Nat} {f C : Addr} {fd : FuncData} {ps ks : List Str} {sp : Sp} {E : XK} {x m : Str} {p pos apos kpos : Pos} {e o : Expr} {es : List Expr} {kws : List Keyword} {te ta : TE} {t tk : TA} {nm : Option Str}
variable {g : List Value → List Value → List Value} {gV : List V → List V → List V}
end

/-! ### a def's body keeps its promise -/
/-- names: the parameters first -/
structure FnScope (N P : List Str) (sc : Scope) : Prop where
  kind : sc.kind = .function
  co : sc.isCoroutine = false
  gen : sc.isGenerator = false
  nd : N.Nodup
  pre : N.take P.length = P
  par : ∀ x ∈ P, sc.names.lookup x = some .local ∨ sc.names.lookup x = some .cell
  nofree : ∀ y ∈ sc.names, y.2 ≠ .free

theorem bindL_out {kindOf : Str → Option NameKind} {x : Str} : ∀ {binds : List (Str × Value)} {m : Str → Option Value}, (∀ v, (x, v) ∉ binds) → bindL kindOf binds m x = m x
  | [], _, _ => rfl
  | (n, v) :: r, m, h => by
    unfold bindL
    rw [bindL_out fun w hw => h w (List.mem_cons_of_mem _ hw)]
    split
    · have : x ≠ n := by rintro rfl; exact h v List.mem_cons_self
      simp [this]
    · rfl
theorem bindC_out {kindOf : Str → Option NameKind} {x : Str} : ∀ {binds : List (Str × Value)} {m : Str → Option Value}, (∀ v, (x, v) ∉ binds) → bindC kindOf binds m x = m x
  | [], _, _ => rfl
  | (n, v) :: r, m, h => by
    unfold bindC
    rw [bindC_out fun w hw => h w (List.mem_cons_of_mem _ hw)]
    split
    · rfl
    · have : x ≠ n := by rintro rfl; exact h v List.mem_cons_self
      simp [this]
theorem bindL_get {kindOf : Str → Option NameKind} {x : Str} {v : Value} : ∀ {P : List Str} {vs : List Value} {i : Nat} {m : Str → Option Value}, P.Nodup → P[i]? = some x → vs[i]? = some v → kindOf x = some .local →
    bindL kindOf (P.zip vs) m x = some v
  | [], _, _, _, _, h, _, _ => by simp at h
  | _ :: _, [], _, _, _, _, h, _ => by simp at h
  | p :: P, w :: vs, 0, m, nd, h1, h2, hk => by
    simp at h1 h2; subst h1; subst h2
    show bindL kindOf ((p, w) :: P.zip vs) m p = _
    unfold bindL
    rw [bindL_out fun v hv => (List.nodup_cons.mp nd).1 (List.of_mem_zip hv).1, if_pos hk]
    simp
  | p :: P, w :: vs, i + 1, m, nd, h1, h2, hk => by
    show bindL kindOf ((p, w) :: P.zip vs) m x = _
    unfold bindL
    exact bindL_get (i := i) (List.nodup_cons.mp nd).2 (by simpa using h1) (by simpa using h2) hk
theorem bindC_get {kindOf : Str → Option NameKind} {x : Str} {v : Value} : ∀ {P : List Str} {vs : List Value} {i : Nat} {m : Str → Option Value}, P.Nodup → P[i]? = some x → vs[i]? = some v → kindOf x ≠ some .local →
    bindC kindOf (P.zip vs) m x = some v
  | [], _, _, _, _, h, _, _ => by simp at h
  | _ :: _, [], _, _, _, _, h, _ => by simp at h
  | p :: P, w :: vs, 0, m, nd, h1, h2, hk => by
    simp at h1 h2; subst h1; subst h2
    show bindC kindOf ((p, w) :: P.zip vs) m p = _
    unfold bindC
    rw [bindC_out fun v hv => (List.nodup_cons.mp nd).1 (List.of_mem_zip hv).1, if_neg hk]
    simp
  | p :: P, w :: vs, i + 1, m, nd, h1, h2, hk => by
    show bindC kindOf ((p, w) :: P.zip vs) m x = _
    unfold bindC
    exact bindC_get (i := i) (List.nodup_cons.mp nd).2 (by simpa using h1) (by simpa using h2) hk

/-- the names' values at the entry -/
def start (N : List Str) (vs : List V) : St := vs.map some ++ List.replicate (N.length - vs.length) none

/-- the context of a def's body, at its entry; an exception leaves the frame, then lies as CX says -/
def cxOf (CX : CXT) (P : Program) (w : World) (K : PySem.W.Frag) (mg : Str → Option Value) (base : Heap) (N : List Str) (qual : Str) (scope : Scope) (f : Addr) (cd : Value) (A : Around) (outer : List Env) (s : Shared) (H : Hp) (E : XK) : Cx where
  prog := P
  w := w
  K := K
  mg := mg
  base := base
  A := A.deeper (envOfC qual scope s.heap.objs.size f cd)
  N := N
  s₀ := s
  H₀ := H
  env := envOfC qual scope s.heap.objs.size f cd
  outer := outer
  stack := envOfC qual scope s.heap.objs.size f cd :: outer
  ex := []
  calm := true
  fn := fun _ => true
  pn := []
  xe := fun e s' => wpAny (model P w) (A.deeper (envOfC qual scope s.heap.objs.size f cd)) (leaving (envOfC qual scope s.heap.objs.size f cd) e) (fun _ s'' => CX outer H s E e s'') (fun e' s'' => CX outer H s E e' s'') s'

theorem cell_has {sc : Scope} {n : Nat} {x : Str} (h : sc.names.lookup x = some .cell) : ∃ c, (cellsFrom n sc.names []).lookup x = some c := by
  have q := PySem.W.cellsFrom_some sc.names n [] (.inl h)
  exact Option.isSome_iff_exists.mp q

theorem inv_start {CX : CXT} {P : Program} {w : World} {K : PySem.W.Frag} {mg : Str → Option Value} {base : Heap} {N ps : List Str} {qual : Str} {scope : Scope} {f : Addr} {cd : Value} {A : Around} {outer : List Env} {s s1 : Shared} {H : Hp} {E : XK} {us : List Value} {vs : List V}
    (S : FnScope N ps scope) (hd : A.handled = none) (e0 : Env0 P w K mg base A outer s H) (hl : vs.length = ps.length) (r : Vals vs us)
    (x : InCallC s s.heap.objs.size (bindL (envOfC qual scope s.heap.objs.size f cd).kindOf (ps.zip us) fun _ => none) (cellsFrom (s.heap.objs.size + 1) scope.names []) (bindC (envOfC qual scope s.heap.objs.size f cd).kindOf (ps.zip us) fun _ => none) s1) :
    Inv (cxOf CX P w K mg base N qual scope f cd A outer s H E) [] (start N vs) H s1 := by
  have hpl : ps.length ≤ N.length := by have := congrArg List.length S.pre; rw [List.length_take] at this; omega
  obtain ⟨h1, tk, rfl, hk⟩ := x.done
  have noA : ∀ b : Addr, b ∉ (cxOf CX P w K mg base N qual scope f cd A outer s H E).ex := fun b z => absurd (show b ∈ ([] : List Addr) from z) (by simp)
  refine ⟨⟨e0.mod, S.kind, rfl, rfl, Nat.le_refl _, fun y z c h1 h2 => ?_, fun y hy => ?_, fun y c _ h => ?_, fun _ => hd, Around.frames_deeper e0.frames, .inr ⟨rfl, rfl⟩, fun b z => absurd z (noA b), e0.bs, e0.bsz, fun b _ _ => noA b, fun b z => absurd z (noA b), e0.funs, e0.frf⟩,
    rfl, e0.bare, Un.kept hk, ⟨_, x.toInCall.ns, fun i y v h1 h2 h3 => ?_⟩, fun y c h => ⟨_, x.cell y c h⟩, e0.hok.fresh (Nat.le_refl _), fun y c h => ?_, fun p hp => absurd (show p ∈ ([] : List (Addr × Obj)) from hp) (by simp), e0.hok.kept hk, ?_⟩
  · exact name_of_addr x.apart (PySem.mem_of_lookup h1) (PySem.mem_of_lookup h2)
  · have hy : scope.names.lookup y = some .cell ∨ scope.names.lookup y = some .free := hy
    rcases hy with hy | hy
    · exact cell_has hy
    · exact absurd rfl (S.nofree _ (PySem.mem_of_lookup hy))
  · exact Nat.le_of_lt (x.above y c (PySem.mem_of_lookup h))
  · have hi : i < vs.length := by
      unfold start at h2
      by_cases hi : i < vs.length
      · exact hi
      · rw [List.getElem?_append_right (by simpa using hi)] at h2
        rw [List.getElem?_replicate] at h2
        split at h2 <;> cases h2
    have ha : vs[i]? = some v := by
      unfold start at h2
      rw [List.getElem?_append_left (by simpa using hi), List.getElem?_map] at h2
      cases e : vs[i]? with
      | none => rw [e] at h2; cases h2
      | some a => rw [e] at h2; cases h2; rfl
    obtain ⟨u, hu, rv⟩ := r.get ha
    have hp : ps[i]? = some y := by
      rw [← S.pre, List.getElem?_take_of_lt (by omega)]; exact h1
    have ndP : ps.Nodup := by rw [← S.pre]; exact S.nd.sublist (List.take_sublist _ _)
    refine ⟨u, rv, ?_⟩
    rcases S.par y (List.mem_of_getElem? hp) with k | k
    · exact .inl ⟨k, bindL_get ndP hp hu k⟩
    · obtain ⟨c, e⟩ := cell_has (n := s.heap.objs.size + 1) k
      refine .inr ⟨.inl k, c, e, ?_⟩
      have q := x.cell y c e
      rw [bindC_get ndP hp hu (by show scope.names.lookup y ≠ _; rw [k]; decide)] at q
      exact q
  · exact e0.hok.fresh (Nat.le_of_lt (x.above y c (PySem.mem_of_lookup h)))
  · unfold start
    show _ = N.length
    rw [List.length_append, List.length_map, List.length_replicate]
    omega

/-- THE RULE: a def (or a method) of the text, by its body. The body's reading t is chosen for each entry; it is run at the parameters' values -/
theorem fn_of {CX : CXT} {P : Program} {w : World} {K : PySem.W.Frag} {mg : Str → Option Value} {base : Heap} {k : Nat} {f : Addr} {name qual : Str} {params : Arguments} {body : List Stmt} {scope : Scope} {dV kV doc pm cdv ct oc : Value} {an od : Option Addr}
    {osl : Array (Option Value)} {N ps : List Str} {sp : Sp} (lk : K.lookup f = some ⟨oc, od, .func (PySem.W.fnOf name qual params body scope dV kV doc pm an cdv ct), osl⟩) (hcd : PySem.W.codeIn K cdv qual = true) (S : FnScope N ps scope)
    (len : ∀ vs H Q E, sp vs H Q E → vs.length = ps.length)
    (hbody : ∀ (A : Around) (outer : List Env) (s : Shared) (H : Hp) (vs : List V) (Q : VK) (E : XK), Room k (A.deeper (envOfC qual scope s.heap.objs.size f cdv)) → sp vs H Q E →
      ∃ t, PSs (cxOf CX P w K mg base N qual scope f cdv A outer s H E) body t ∧ t { nx := fun _ H' => Q .non H', rt := Q } (start N vs) H) :
    FnOk P w K mg base CX (k + 1) f (PySem.W.fnOf name qual params body scope dV kV doc pm an cdv ct) ps sp := by
  refine ⟨len, fun A outer s H args us vs Q E hr e0 hb r hsp => ?_⟩
  have hl := len _ _ _ _ hsp
  have KX : K.In s.heap := e0.mod.kin.keeps fun b o e => (e0.bs b o e).1
  have lim : s.heap.NoLimit := e0.mod.nolimit.keeps fun b o e => (e0.bs b o e).1
  have hkind : ∀ y ∈ ps.zip us, scope.names.lookup y.1 = some .local ∨ (scope.names.lookup y.1 = some .cell ∧ ((cellsFrom (s.heap.objs.size + 1) scope.names []).lookup y.1).isSome = true) := fun ⟨n, v⟩ hy => by
    rcases S.par n (List.of_mem_zip hy).1 with q | q
    · exact .inl q
    · exact .inr ⟨q, PySem.W.cellsFrom_some _ _ _ (.inl q)⟩
  refine codeAny_call_function hr.depth (KX _ _ lk) rfl S.co S.gen rfl (PySem.W.codeRec_of KX hcd) (hb _ _ _ _ ?_)
  refine wpAny_newFunctionEnv_cells S.kind hkind fun env he s1 x => ?_
  subst he
  refine ⟨lim.keeps x.toInCall.keep, codeAny_func ?_⟩
  obtain ⟨t, ht, hq⟩ := hbody A outer s H vs Q E (hr.deeper _) hsp
  have I : Inv (cxOf CX P w K mg base N qual scope f cdv A outer s H E) [] (start N vs) H s1 := inv_start S hr.hd e0 hl r x
  refine wpAny_mono (ht [] s1 (start N vs) H _ I hq) (fun fl s' hs => ?_) fun e s' hs => hs
  have fin : ∀ {σ' : St} {H' : Hp} {v : V} {u : Value}, Inv (cxOf CX P w K mg base N qual scope f cdv A outer s H E) [] σ' H' s' → RelV v u → Q v H' → CE outer P w H s Q u s' :=
    fun {σ' H' v u} J rv q => ⟨v, H', J.os, J.bare, J.base, J.hok, rv, q⟩
  cases fl with
  | ret u =>
    obtain ⟨v, σ', H', J, rv, q⟩ := hs
    exact fin J rv q
  | next =>
    obtain ⟨σ', H', J, q⟩ := hs
    exact fin (v := V.non) (u := Value.none) J rfl q
  | brk =>
    obtain ⟨_, _, _, q⟩ := hs
    exact False.elim q
  | cont =>
    obtain ⟨_, _, _, q⟩ := hs
    exact False.elim q
end L2

namespace L2
open PySem PySem.Spec PyProof.Rows
section
variable {X : Cx} {x : Str} {p pos : Pos} {e : Expr} {es : List Expr} {t : TA} {id T : String} {r : List V → Hp → VK → Prop}

def tCB (r : List V → Hp → VK → Prop) (t : TA) : TE := fun σ H Q => t σ H fun vs H1 => r vs H1 Q
/-- f(e, ..), f a built-in function -/
theorem pe_callB (hc : CallR X (.builtin id) r) (hg : Gl X x) (hm : X.mg x = none) (hv : bootBuiltins x = some (.builtin id)) (ha : PA X (e :: es) t) (hn : x ≠ "__name__" := by decide) (hdb : (x == ("__debug__" : Str)) = false := by decide)
    (he : starEach (e :: es) X.env = (false, eval e X.env) :: starEach es X.env := by rfl) (hpl : (backTo pos (starEach es X.env)).any (·.1) = false := by rfl) : PE X (.Call (.Name x p) (e :: es) [] pos) (tCB r t) := by
  intro pins s σ H Q I h
  refine wpAny_Call_Name_kw (ld_blt I hg hm hv ?_ hn hdb)
  exact PyProof.Rows.callWith_builtin1 (thn (ha pos pins s σ H _ I h) fun us s1 ⟨vs, H1, I1, r1, q1⟩ => hc pins s1 σ H1 vs us Q I1 r1 q1) he hpl
/-- T(e, ..), T a built-in type -/
theorem pe_callTy (hc : CallR X (.type T) r) (hg : Gl X x) (hm : X.mg x = none) (hv : bootBuiltins x = some (.type T)) (ha : PA X (e :: es) t) (hn : x ≠ "__name__" := by decide) (hdb : (x == ("__debug__" : Str)) = false := by decide)
    (he : starEach (e :: es) X.env = (false, eval e X.env) :: starEach es X.env := by rfl) (hpl : (backTo pos (starEach es X.env)).any (·.1) = false := by rfl) : PE X (.Call (.Name x p) (e :: es) [] pos) (tCB r t) := by
  intro pins s σ H Q I h
  refine wpAny_Call_Name_kw (ld_blt I hg hm hv ?_ hn hdb)
  exact PyProof.Rows.callWith_type1 (thn (ha pos pins s σ H _ I h) fun us s1 ⟨vs, H1, I1, r1, q1⟩ => hc pins s1 σ H1 vs us Q I1 r1 q1) he hpl
end
end L2

namespace HT
open PySem PyProof.Rows

section
open PySem.SeqAt
open PySem.AutoSeq1 (wpAny_loadPart')
open PySem.MeetsSeq PySem.MeetsSeq2 PySem.MeetsSeq3

end

section
variable {prog : Program} {w : World} {A : Around} {E : Value → Shared → Prop} {s : Shared}

/-! ### t[a:b], not the whole -/
/-- a slice's bound as a place among n (d where it is left out) -/
def sIx (n d : Nat) : Option Int → Nat
  | none => d
  | some v => if v < 0 then (v + (n : Int)).toNat else min v.toNat n
theorem sIx_none (n d : Nat) : sIx n d none = d := rfl
theorem sIx_nat (n d k : Nat) : sIx n d (some (k : Int)) = min k n := by
  show (if (k : Int) < 0 then ((k : Int) + (n : Int)).toNat else min (k : Int).toNat n) = min k n
  rw [if_neg (by omega), Int.toNat_natCast]
end
end HT

namespace L2
open PySem PySem.Spec PyProof.Rows

/-! ### the parts of a slice -/
abbrev TO := St → Hp → (Option Int → Hp → Prop) → Prop
/-- a slice's part (left out, or an int) -/
def PO (X : Cx) (e : Option Expr) (t : TO) : Prop :=
  ∀ (pins : List (Addr × Obj)) (s : Shared) (σ : St) (H : Hp) (Q : Option Int → Hp → Prop), Inv X pins σ H s → t σ H Q →
    wpAny (model X.prog X.w) X.A (evalPart e X.env) (fun u s' => ∃ o H', Inv X pins σ H' s' ∧ IsPart u o ∧ Q o H') X.xe s
def tNoPart : TO := fun _ H Q => Q none H
inductive isPart (x : V) (H : Hp) (Q : Option Int → Hp → Prop) : Prop
  | mk : ∀ i, x = .int i → Q (some i) H → isPart x H Q
def tPart (t : TE) : TO := fun σ H Q => t σ H fun x H1 => isPart x H1 Q

section
variable {X : Cx} {e : Expr} {te : TE} {lo hi : Option Expr} {tl th : TO} {pos p2 : Pos}

theorem po_none : PO X none tNoPart := by
  intro pins s σ H Q I h
  rw [evalPart_none]
  exact wpAny_pure ⟨none, H, I, .none, h⟩
theorem po_some (h : PE X e te) : PO X (some e) (tPart te) := by
  intro pins s σ H Q I hw
  rw [evalPart_some]
  refine thn (h pins s σ H _ I hw) fun u s1 ⟨x, H1, I1, r1, q1⟩ => ?_
  obtain ⟨i, rfl, q⟩ := q1
  obtain ⟨t, rfl⟩ := r1
  exact ⟨some i, H1, I1, .int i t, q⟩

/-- what a slice of a value is, by values: the slice object stands at sl -/
def SlR (X : Cx) (r : V → Option Int → Option Int → Hp → VK → Prop) : Prop :=
  ∀ (pins : List (Addr × Obj)) (s : Shared) (σ : St) (H : Hp) (x : V) (v vl vu : Value) (lo hi : Option Int) (sl : Addr) (Q : VK), Inv X pins σ H s → RelV x v → s.heap.IsSliceOf sl vl vu .none → IsPart vl lo → IsPart vu hi → r x lo hi H Q →
    ∃ T id, typeLookup (.type T) "__getitem__" = pure (some (.builtin id)) ∧ s.TypeIs v T ∧ wpAny (model X.prog X.w) X.A (getItem v (.ref sl)) (EP X pins σ Q) X.xe s
def tSl (r : V → Option Int → Option Int → Hp → VK → Prop) (te : TE) (tl th : TO) : TE := fun σ H Q => te σ H fun x H1 => tl σ H1 fun l H2 => th σ H2 fun u H3 => r x l u H3 Q
/-- a[lo:hi], any a -/
theorem pe_slice {r : V → Option Int → Option Int → Hp → VK → Prop} (hr : SlR X r) (he : PE X e te) (hl : PO X lo tl) (hu : PO X hi th) : PE X (.Subscript e (.Slice lo hi none p2) pos) (tSl r te tl th) := by
  intro pins s σ H Q I h
  refine Subscript_ (thn (he pins s σ H _ I h) fun v s1 ⟨x, H1, I1, r1, q1⟩ => ?_)
  refine wpAny_Slice (thn (hl pins s1 σ H1 _ I1 q1) fun vl s2 ⟨l, H2, I2, pl, q2⟩ => thn (hu pins s2 σ H2 _ I2 q2) fun vu s3 ⟨u, H3, I3, pu, q3⟩ => ?_)
  rw [evalPart_none]
  refine wpAny_pure ?_
  have I4 : Inv X pins σ H3 { s3 with heap := s3.heap.push { cls := .type "slice", data := .fields #[vl, vu, .none] } } := I3.kept (t' := s3.toks) fun b ob q => Heap.get?_push_of_some _ q
  obtain ⟨T, id, hT, ht, hg⟩ := hr pins { s3 with heap := s3.heap.push { cls := .type "slice", data := .fields #[vl, vu, .none] } } σ H3 x v vl vu l u s3.heap.objs.size Q I4 r1 (Heap.IsSliceOf.new ..) pl pu q3
  show wpAny (model X.prog X.w) X.A (subscriptTail e (.Slice lo hi none p2) v (.ref s3.heap.objs.size)) (EP X pins σ Q) X.xe { s3 with heap := s3.heap.push { cls := .type "slice", data := .fields #[vl, vu, .none] } }
  exact tail_any (ops := [.ref s3.heap.objs.size, v]) ht hT hg (by with_unfolding_all rfl)

/-- the items of xs[lo:hi] -/
def cutV (xs : List V) (lo hi : Option Int) : List V := (xs.drop (HT.sIx xs.length 0 lo)).take (HT.sIx xs.length xs.length hi - HT.sIx xs.length 0 lo)
theorem cutV_length (xs : List V) (lo hi : Option Int) : (cutV xs lo hi).length ≤ xs.length := by
  unfold cutV
  rw [List.length_take, List.length_drop]
  omega
/-! ### t < u, t + u -/
end
end L2

namespace L2
open PySem PySem.Spec PyProof.Rows

/-! ### places -/
/-- the place that an index of any sign means -/
def ixN (n : Nat) (i : Int) : Option Nat := if 0 ≤ i then (if i < n then some i.toNat else none) else if -(n : Int) ≤ i then some (i + n).toNat else none
def atI {α : Type} (xs : List α) (i : Int) : Option α := (ixN xs.length i).bind fun j => xs[j]?
theorem ixN_seq {n : Nat} {i : Int} {j : Nat} (h : ixN n i = some j) : seqIndex? i n = some j ∧ j < n ∧ -(n : Int) ≤ i ∧ i < n := by
  unfold ixN at h
  by_cases h0 : 0 ≤ i
  · rw [if_pos h0] at h
    by_cases h1 : i < n
    · rw [if_pos h1] at h
      have e : i.toNat = j := Option.some.inj h
      exact ⟨by rw [seqIndex_of h0 h1, e], by omega, by omega, h1⟩
    · rw [if_neg h1] at h; cases h
  · rw [if_neg h0] at h
    by_cases h1 : -(n : Int) ≤ i
    · rw [if_pos h1] at h
      have e : (i + n).toNat = j := Option.some.inj h
      exact ⟨by rw [seqIndex_neg (by omega) h1, e], by omega, h1, by omega⟩
    · rw [if_neg h1] at h; cases h
theorem atI_get {α : Type} {xs : List α} {i : Int} {v : α} (h : atI xs i = some v) : ∃ j, seqIndex? i xs.length = some j ∧ xs[j]? = some v ∧ j < xs.length ∧ -(xs.length : Int) ≤ i ∧ i < xs.length := by
  unfold atI at h
  cases e : ixN xs.length i with
  | none => rw [e] at h; cases h
  | some j =>
    rw [e] at h
    obtain ⟨h1, h2, h3, h4⟩ := ixN_seq e
    exact ⟨j, h1, h, h2, h3, h4⟩
theorem atI_nat {α : Type} {xs : List α} {j : Nat} {v : α} (h : xs[j]? = some v) : atI xs (j : Int) = some v := by
  have hj : j < xs.length := (List.getElem?_eq_some_iff.mp h).1
  have e : ixN xs.length (j : Int) = some j := by
    unfold ixN
    rw [if_pos (by omega), if_pos (by omega)]; simp
  unfold atI; rw [e]; exact h
theorem atI_last {α : Type} (xs : List α) (v : α) : atI (xs ++ [v]) (-1) = some v := by
  have hl : (xs ++ [v]).length = xs.length + 1 := by simp
  have e : ixN (xs ++ [v]).length (-1) = some xs.length := by
    unfold ixN
    rw [hl, if_neg (by decide), if_pos (by omega)]
    congr 1
    omega
  unfold atI
  rw [e]
  show (xs ++ [v])[xs.length]? = some v
  simp

/-! ### what may be subscripted -/
/-- what stands as an index of a plain subscript -/
def PlainIx (b : Expr) : Prop := ∀ o i, subscripted b false o i = operate [o, i] (getItem o i)
/-- a subscript by values -/
def IxR (X : Cx) (r : R2) : Prop :=
  ∀ (value slice : Expr) (pins : List (Addr × Obj)) (s : Shared) (σ : St) (H : Hp) (x y : V) (v u : Value) (Q : VK), Inv X pins σ H s → RelV x v → RelV y u → r x y H Q →
    subscripted slice false v u = operate [v, u] (getItem v u) → wpAny (model X.prog X.w) X.A (subscriptTail value slice v u) (EP X pins σ Q) X.xe s
/-- a call of a builtin's method by values: the receiver, the arguments -/
def MtR (X : Cx) (id : String) (r : V → List V → Hp → VK → Prop) : Prop :=
  ∀ (pins : List (Addr × Obj)) (s : Shared) (σ : St) (H : Hp) (x : V) (xs : List V) (v : Value) (us : List Value) (Q : VK), Inv X pins σ H s → RelV x v → Vals xs us → r x xs H Q →
    wpAny (model X.prog X.w) X.A (call (.builtin id) (v :: us)) (EP X pins σ Q) X.xe s
section
variable {X : Cx} {a b : Expr} {ta tb : TE} {pos : Pos}
/-- a[b] -/
theorem pe_ix {r : R2} (hr : IxR X r) (ha : PE X a ta) (hb : PE X b tb) (hs : PlainIx b) : PE X (.Subscript a b pos) (tOp r ta tb) := by
  intro pins s σ H Q I h
  exact Subscript_ (binT ha hb I h fun v u s2 x y H2 I2 rx ry q => hr a b pins s2 σ H2 x y v u Q I2 rx ry q (hs _ _))

inductive rIxL (K : PySem.W.Frag) (x : V) (y : V) (H : Hp) (Q : VK) : Prop
  | mk : ∀ p xs i v, (x = .ref p) → (y = .int i) → (SqL K H p xs) → (atI xs i = some v) → (Q v H) → rIxL K x y H Q
inductive rIxT (K : PySem.W.Frag) (x : V) (y : V) (H : Hp) (Q : VK) : Prop
  | mk : ∀ p xs i v, (x = .ref p) → (y = .int i) → (SqT K H p xs) → (atI xs i = some v) → (Q v H) → rIxT K x y H Q
inductive rIxS (x : V) (y : V) (H : Hp) (Q : VK) : Prop
  | mk : ∀ z i c, (x = .str z) → (y = .int i) → (z.length ≤ sizeLine) → (atI z.cps.toList i = some c) → (Q (.str ⟨#[c]⟩) H) → rIxS x y H Q
theorem ix_list : IxR X (rIxL X.K) := by
  intro value slice pins s σ H x y v u Q I rx ry h hs
  obtain ⟨p, xs, i, z, rfl, rfl, hq, he, q⟩ := h
  cases rx
  obtain ⟨t, rfl⟩ := ry
  obtain ⟨its, r, pl, hz⟩ := I.list hq
  obtain ⟨j, h1, h2, h3, h4, h5⟩ := atI_get he
  obtain ⟨w, ew, rw'⟩ := r.get h2
  have hl := r.length
  have hn := line63
  have fin : EP X pins σ Q w s := ⟨z, H, I, rw', q⟩
  by_cases h0 : 0 ≤ i
  · have hj : i.toNat = j := by
      rw [seqIndex_of h0 h5] at h1
      exact Option.some.inj h1
    exact item_listR pl.isList h0 (by omega) (by rw [hj]; simpa using ew) fin hs
  · have hj : (i + (its.toArray.size : Int)).toNat = j := by
      rw [seqIndex_neg (by omega) h4] at h1
      rw [List.size_toArray, ← hl]
      exact Option.some.inj h1
    exact subscriptTail_builtinR (x := w) pl.isList.typeIs slot_list_getitem.lookup
      (wpAny_getItem_list_neg (Q := fun r s' => r = w ∧ EP X pins σ Q r s') pl.isList (by omega) (by rw [List.size_toArray] <;> omega) (by omega) (by rw [hj]; simpa using ew) ⟨rfl, fin⟩) hs
theorem ix_tup : IxR X (rIxT X.K) := by
  intro value slice pins s σ H x y v u Q I rx ry h hs
  obtain ⟨p, xs, i, z, rfl, rfl, hq, he, q⟩ := h
  cases rx
  obtain ⟨t, rfl⟩ := ry
  obtain ⟨its, r, pl, hz⟩ := I.tuple hq
  obtain ⟨j, h1, h2, h3, h4, h5⟩ := atI_get he
  obtain ⟨w, ew, rw'⟩ := r.get h2
  have hl := r.length
  have hn := line63
  have fin : EP X pins σ Q w s := ⟨z, H, I, rw', q⟩
  exact subscriptTail_builtinR (x := w) pl.typeIs slot_tuple_getitem.lookup
    (getItem_tuple (j := j) (Q := fun r s' => r = w ∧ EP X pins σ Q r s') pl (by omega) (by omega) (by rw [List.size_toArray, ← hl]; exact h1) (by simpa using ew) ⟨rfl, fin⟩) hs
theorem ix_str : IxR X rIxS := by
  intro value slice pins s σ H x y v u Q I rx ry h hs
  obtain ⟨z, i, c, rfl, rfl, hz, he, q⟩ := h
  obtain ⟨t, rfl⟩ := rx
  obtain ⟨t', rfl⟩ := ry
  obtain ⟨j, h1, h2, h3, h4, h5⟩ := atI_get he
  have hl : z.cps.toList.length = z.length := by simp [Str.length]
  rw [hl] at h1 h4 h5
  have hn := line63
  exact tail_any (typeIs_str s z t) slot_str_getitem.lookup (getItem_str (c := c) (by
    have e1 : decide (i < -(2 ^ 63 : Int)) = false := decide_eq_false (by omega)
    have e2 : decide (i ≥ 2 ^ 63) = false := decide_eq_false (by omega)
    rw [e1, e2, Bool.or_false]) (by rw [h1]; simpa using h2) ⟨.str ⟨#[c]⟩, H, I.tok _, ⟨_, rfl⟩, q⟩) hs
/-! ### xs[i] = v, any sign -/
/-- the list's object behind a store -/
theorem mapSeq_set (its : List Value) (n j : Nat) (u : Value) : Obj.mapSeq (·.setIfInBounds j u) { cls := .type "list", data := .seq its.toArray n } = { cls := .type "list", data := .seq (its.set j u).toArray n } := by
  simp [Obj.mapSeq]
theorem Inv.lst {pins : List (Addr × Obj)} {σ : St} {H : Hp} {s : Shared} {p : Addr} {xs : List V} (I : Inv X pins σ H s) (h : H p = some (.lst xs)) :
    ∃ (its : List Value) (n : Nat), Vals xs its ∧ s.heap.get? p = some { cls := .type "list", data := .seq its.toArray n } ∧ xs.length ≤ sizeLine := by
  obtain ⟨z, its, n, r, e⟩ := I.hok p _ h
  exact ⟨its, n, r, e, z⟩
/-- the list at p is written by an update of its object -/
theorem Inv.lstUpd {pins : List (Addr × Obj)} {σ : St} {H : Hp} {s : Shared} {p : Addr} {xs ys : List V} {its its' : List Value} {n n' : Nat} {f : Obj → Obj} (I : Inv X pins σ H s) (h : H p = some (.lst xs))
    (ho : s.heap.get? p = some { cls := .type "list", data := .seq its.toArray n }) (hf : f { cls := .type "list", data := .seq its.toArray n } = { cls := .type "list", data := .seq its'.toArray n' }) (r : Vals ys its') (hz : ys.length ≤ sizeLine) (t : Nat) :
    Inv X pins σ (upd H p (.lst ys)) { s with heap := s.heap.update p f, toks := t } := by
  have e : (s.heap.update p f).get? p = some { cls := .type "list", data := .seq its'.toArray n' } := by
    rw [Heap.get?_update_self f ho (by rw [hf] <;> rfl), hf]
  refine I.write (x := p) (e := p) (by rw [h]; trivial) (.inl rfl) (fun b u hb q => (Heap.get?_update_other _ _ (Ne.symm hb)).trans q) ⟨_, e⟩ ?_
  exact ⟨hz, its', n', r, e⟩
inductive rSetL (o : V) (i : V) (v : V) (H : Hp) (Q : Hp → Prop) : Prop
  | mk : ∀ p xs k j, (o = .ref p) → (i = .int k) → (H p = some (.lst xs)) → (ixN xs.length k = some j) → (Q (upd H p (.lst (xs.set j v)))) → rSetL o i v H Q
theorem set_list : PSet X rSetL := by
  intro pins s σ H o i v ov iv u Q I ro ri rv h
  obtain ⟨p, xs, k, j, rfl, rfl, hp, hj, q⟩ := h
  cases ro
  obtain ⟨t, rfl⟩ := ri
  obtain ⟨its, n, r, ho, hz⟩ := I.lst hp
  obtain ⟨h1, h2, h3, h4⟩ := ixN_seq hj
  have hl := r.length
  have hn := line63
  have I' : Inv X pins σ (upd H p (.lst (xs.set j v))) { s with heap := s.heap.update p (Obj.mapSeq (·.setIfInBounds j u)) } :=
    I.lstUpd hp ho (mapSeq_set its n j u) (r.set rv j) (by rw [List.length_set]; exact hz) s.toks
  by_cases h0 : 0 ≤ k
  · have hk : k.toNat = j := by
      rw [seqIndex_of h0 h4] at h1
      exact Option.some.inj h1
    exact PySem.W.ki_setAt ho h0 (by omega) (by rw [List.size_toArray, ← hl]; exact h4) (by rw [hk]; exact ⟨_, I', q⟩)
  · have hk : (k + (its.toArray.size : Int)).toNat = j := by
      rw [seqIndex_neg (by omega) h3] at h1
      rw [List.size_toArray, ← hl]
      exact Option.some.inj h1
    exact PySem.W.ki_setBack ho (by omega) (by rw [List.size_toArray, ← hl]; exact h3) (by omega) (by rw [hk]; exact ⟨_, I', q⟩)

/-! ### slices -/
theorem slice_bounds (lo hi : Option Int) (n : Nat) : (sliceBounds lo hi none n).1 = ((HT.sIx n 0 lo : Nat) : Int) ∧ (sliceBounds lo hi none n).2.1 = ((HT.sIx n n hi : Nat) : Int) ∧ (sliceBounds lo hi none n).2.2 = 1 := by
  refine ⟨?_, ?_, rfl⟩
  · cases lo with
    | none => simp [sliceBounds, HT.sIx]
    | some i =>
      simp only [sliceBounds, HT.sIx, Option.getD_none, show (1 : Int) > 0 by decide, if_true]
      by_cases h : i < 0
      · simp only [h, if_true] <;> omega
      · simp only [h, if_false] <;> omega
  · cases hi with
    | none => simp [sliceBounds, HT.sIx]
    | some i =>
      simp only [sliceBounds, HT.sIx, Option.getD_none, show (1 : Int) > 0 by decide, if_true]
      by_cases h : i < 0
      · simp only [h, if_true] <;> omega
      · simp only [h, if_false] <;> omega
theorem slicePick_cut (its : List Value) (lo hi : Option Int) : slicePick its.toArray lo hi none = ((its.drop (HT.sIx its.length 0 lo)).take (HT.sIx its.length its.length hi - HT.sIx its.length 0 lo)).toArray := by
  obtain ⟨h1, h2, h3⟩ := slice_bounds lo hi its.toArray.size
  unfold slicePick
  rw [h1, h2, h3]
  simp only [sliceRange_one, pick_run, List.size_toArray] <;> rfl
/-- xs[lo:hi] of a list: a new list -/
inductive rSlL (K : PySem.W.Frag) (x : V) (lo : Option Int) (hi : Option Int) (H : Hp) (Q : VK) : Prop
  | mk : ∀ a xs, (x = .ref a) → (SqL K H a xs) → (∀ p, H p = none → Q (.ref p) (upd H p (.lst (cutV xs lo hi)))) → rSlL K x lo hi H Q
theorem sl_list : SlR X (rSlL X.K) := by
  intro pins s σ H x v vl vu lo hi sl Q I rx hs pl pu h
  obtain ⟨a, xs, rfl, hx, q⟩ := h
  cases rx
  obtain ⟨its, r, ht, hz⟩ := I.list hx
  have hlen := r.length
  refine ⟨"list", _, slot_list_getitem.lookup, ht.isList.typeIs, ?_⟩
  refine wpAny_getItem_list_slice ht.isList hs pl pu .none (by simp) ?_ (by rw [List.size_toArray] <;> omega)
  rw [slicePick_cut, ← hlen]
  refine ⟨.ref s.heap.objs.size, _, I.laid (t' := s.toks) (o := .lst (cutV xs lo hi)) (fun b ob q => Heap.get?_push_of_some _ q) (Nat.le_refl _) ?_, rfl, q _ (I.hok.fresh (Nat.le_refl _))⟩
  exact ⟨Nat.le_trans (cutV_length xs lo hi) hz, _, 0, (r.drop (HT.sIx xs.length 0 lo)).take (HT.sIx xs.length xs.length hi - HT.sIx xs.length 0 lo), Heap.get?_push_size _ rfl⟩

/-! ### in, not in: flat items -/
def flatV : V → Bool
  | .non => true
  | .bl _ => true
  | .int _ => true
  | .str _ => true
  | _ => false
/-- == of flat values -/
def eqV : V → V → Bool
  | .non, .non => true
  | .bl a, .bl b => a == b
  | .bl a, .int b => (if a then 1 else 0) == b
  | .int a, .bl b => a == (if b then 1 else 0)
  | .int a, .int b => a == b
  | .str a, .str b => a == b
  | _, _ => false
theorem eqAt_V {A : Around} {s : Shared} {y x : V} {u v : Value} (ry : RelV y u) (rx : RelV x v) (fy : flatV y = true) (fx : flatV x = true) : SeqAt.EqAt A s u v (eqV y x) := by
  cases y with
  | non =>
    cases ry
    cases x with
    | non => cases rx; exact SeqAt.EqAt.same _
    | bl b => cases rx; exact SeqAt.EqAt.none_bool b
    | int b => obtain ⟨t, rfl⟩ := rx; exact SeqAt.EqAt.none_int b t
    | str b => obtain ⟨t, rfl⟩ := rx; exact SeqAt.EqAt.none_str b t
    | _ => exact absurd (show false = true from fx) Bool.false_ne_true
  | bl a =>
    cases ry
    cases x with
    | non => cases rx; exact SeqAt.EqAt.bool_none a
    | bl b => cases rx; exact SeqAt.EqAt.bool_bool a b
    | int b => obtain ⟨t, rfl⟩ := rx; exact SeqAt.EqAt.bool_int a b t
    | str b => obtain ⟨t, rfl⟩ := rx; exact SeqAt.EqAt.bool_str a b t
    | _ => exact absurd (show false = true from fx) Bool.false_ne_true
  | int a =>
    obtain ⟨t', rfl⟩ := ry
    cases x with
    | non => cases rx; exact SeqAt.EqAt.int_none a t'
    | bl b => cases rx; exact SeqAt.EqAt.int_bool a t' b
    | int b => obtain ⟨t, rfl⟩ := rx; exact SeqAt.EqAt.int_int a t' b t
    | str b => obtain ⟨t, rfl⟩ := rx; exact SeqAt.EqAt.int_str a t' b t
    | _ => exact absurd (show false = true from fx) Bool.false_ne_true
  | str a =>
    obtain ⟨t', rfl⟩ := ry
    cases x with
    | non => cases rx; exact SeqAt.EqAt.str_none a t'
    | bl b => cases rx; exact SeqAt.EqAt.str_bool a t' b
    | int b => obtain ⟨t, rfl⟩ := rx; exact SeqAt.EqAt.str_int a t' b t
    | str b => obtain ⟨t, rfl⟩ := rx; exact SeqAt.EqAt.str_str a t' b t
    | _ => exact absurd (show false = true from fx) Bool.false_ne_true
  | _ => exact absurd (show false = true from fy) Bool.false_ne_true
/-- the items' answers, read off the values (a value's own answer does not lean on its token) -/
def eqU (x : V) (u : Value) : Bool := match u with
  | .none => eqV .non x
  | .bool b => eqV (.bl b) x
  | .int i _ => eqV (.int i) x
  | .str z _ => eqV (.str z) x
  | _ => false
theorem eqU_of {x y : V} {u : Value} (r : RelV y u) (f : flatV y = true) : eqU x u = eqV y x := by
  cases y with
  | non => cases r; rfl
  | bl b => cases r; rfl
  | int i => obtain ⟨t, rfl⟩ := r; rfl
  | str z => obtain ⟨t, rfl⟩ := r; rfl
  | _ => exact absurd (show false = true from f) Bool.false_ne_true
theorem any_eqU {x : V} : ∀ {xs : List V} {us : List Value}, Vals xs us → xs.all flatV = true → us.any (eqU x) = xs.any fun y => eqV y x
  | _, _, .nil, _ => rfl
  | y :: xs, u :: us, .cons r t, f => by
    rw [List.all_cons, Bool.and_eq_true] at f
    rw [List.any_cons, List.any_cons, eqU_of r f.1, any_eqU t f.2]
theorem mem_eqAt {A : Around} {s : Shared} {x : V} {v : Value} (rx : RelV x v) (fx : flatV x = true) : ∀ {xs : List V} {us : List Value}, Vals xs us → xs.all flatV = true → ∀ u ∈ us, SeqAt.EqAt A s u v (eqU x u)
  | _, _, .nil, _ => fun u hu => by cases hu
  | y :: xs, u :: us, .cons r t, f => fun u' hu => by
    rw [List.all_cons, Bool.and_eq_true] at f
    rcases List.mem_cons.mp hu with rfl | hu
    · rw [eqU_of r f.1]; exact eqAt_V r rx f.1 fx
    · exact mem_eqAt rx fx t f.2 u' hu
def inV (x : V) (xs : List V) : Bool := xs.any fun y => eqV y x
/-- x in a list or tuple of flat items -/
inductive rIn (K : PySem.W.Frag) (neg : Bool) (x : V) (y : V) (H : Hp) (Q : VK) : Prop
  | mk : ∀ p xs, (y = .ref p) → ((SqL K H p xs ∨ SqT K H p xs)) → (flatV x = true) → (xs.all flatV = true) → (Q (.bl (if neg then !inV x xs else inV x xs)) H) → rIn K neg x y H Q
theorem op_in_seq : OpR X (compareOp .In) (rIn X.K false) := by
  intro pins s σ H x y v u Q I rx ry h
  obtain ⟨p, xs, rfl, hq, fx, fs, q⟩ := h
  cases ry
  rcases hq with hq | hq
  · obtain ⟨its, r, pl, hz⟩ := I.list hq
    refine SeqAt.in_listAt (eqU x) pl.isList (fun w hw => mem_eqAt rx fx r fs w (by simpa using hw)) ⟨.bl _, H, I, rfl, ?_⟩
    rw [show its.toArray.any (eqU x) = its.any (eqU x) by simp, any_eqU r fs]
    exact q
  · obtain ⟨its, r, pl, hz⟩ := I.tuple hq
    refine SeqAt.in_tupleAt (eqU x) pl (fun w hw => mem_eqAt rx fx r fs w (by simpa using hw)) ⟨.bl _, H, I, rfl, ?_⟩
    rw [show its.toArray.any (eqU x) = its.any (eqU x) by simp, any_eqU r fs]
    exact q
/-! ### len, list(x), tuple(x) of any list or tuple that is read -/
theorem call_len_seq : CallR X (.builtin "len") (fun xs H Q => ∃ p ys, xs = [.ref p] ∧ (SqL X.K H p ys ∨ SqT X.K H p ys) ∧ Q (.int ys.length) H) := by
  intro pins s σ H xs us Q I r h
  obtain ⟨p, ys, rfl, hq, q⟩ := h
  obtain ⟨u, rfl, rx⟩ := vals1 r
  cases rx
  have hn := line63
  rcases hq with hq | hq
  · obtain ⟨its, r', pl, hz⟩ := I.list hq
    have hlen := r'.length
    exact Calls.call_len_list pl.isList (by simp only [List.size_toArray] <;> omega) ⟨.int ys.length, H, I.tok _, ⟨s.toks + 1, by rw [List.size_toArray, hlen]⟩, q⟩
  · obtain ⟨its, r', pl, hz⟩ := I.tuple hq
    have hlen := r'.length
    exact len_tuple pl (by simp only [List.size_toArray] <;> omega) ⟨.int ys.length, H, I.tok _, ⟨s.toks + 1, by rw [List.size_toArray, hlen]⟩, q⟩
theorem call_list_of : CallR X (.type "list") (fun xs H Q => ∃ p ys, xs = [.ref p] ∧ (SqL X.K H p ys ∨ SqT X.K H p ys) ∧ ∀ l, H l = none → Q (.ref l) (upd H l (.lst ys))) := by
  intro pins s σ H xs us Q I r h
  obtain ⟨p, ys, rfl, hq, q⟩ := h
  obtain ⟨u, rfl, rx⟩ := vals1 r
  cases rx
  have fin : ∀ (its : List Value), Vals ys its → ys.length ≤ sizeLine → ∀ (h' : Heap) (c' : Nat), (∀ b o', s.heap.get? b = some o' → h'.get? b = some o') →
      h'.get? s.heap.objs.size = some { cls := .type "list", dict := none, data := .seq its.toArray c', slots := #[] } → EP X pins σ Q (.ref s.heap.objs.size) { s with heap := h' } := fun its r' hz h' c' kp e =>
    ⟨.ref s.heap.objs.size, _, I.laid (t' := s.toks) kp (Nat.le_refl _) (show ObjOk X.prog X.w _ h' _ (.lst ys) from ⟨hz, its, c', r', e⟩), rfl, q _ (I.hok.fresh (Nat.le_refl _))⟩
  rcases hq with hq | hq
  · obtain ⟨its, r', pl, hz⟩ := I.list hq
    have hlen := r'.length
    obtain ⟨o, ho, hc, n, hd⟩ := pl.isList
    exact call_list_seq p (.inl rfl) ho hc hd (fun h' c' kp e => fin its r' hz h' c' kp e) (by simp only [List.size_toArray] <;> omega)
  · obtain ⟨its, r', pl, hz⟩ := I.tuple hq
    have hlen := r'.length
    obtain ⟨o, ho, hc, n, hd⟩ := pl
    exact call_list_seq p (.inr rfl) ho hc hd (fun h' c' kp e => fin its r' hz h' c' kp e) (by simp only [List.size_toArray] <;> omega)
/-! ### the call of a builtin's method: o.m(..) -/
/-- the value is of that builtin type -/
def tyV (K : PySem.W.Frag) (T : String) (x : V) (H : Hp) : Prop := match x with
  | .str _ => T = "str"
  | .int _ => T = "int"
  | .ref p => (T = "list" ∧ ∃ xs, SqL K H p xs) ∨ (T = "tuple" ∧ ∃ o, K.lookup p = some o ∧ o.cls = .type "tuple" ∧ o.dict = none) ∨
      (T = "dict" ∧ ((∃ kvs, H p = some (.dK kvs)) ∨ ∃ kvs, H p = some (.dT kvs))) ∨ (T = "set" ∧ ∃ S n, H p = some (.set S n))
  | _ => False
theorem tyV_is {pins : List (Addr × Obj)} {σ : St} {H : Hp} {s : Shared} {T : String} {x : V} {v : Value} (I : Inv X pins σ H s) (r : RelV x v) (ty : tyV X.K T x H) :
    s.TypeIs v T ∧ ∀ a, v = .ref a → ∃ ob, s.heap.get? a = some ob ∧ ob.dict = none := by
  cases x with
  | str z =>
    obtain ⟨t, rfl⟩ := r
    cases (show T = "str" from ty)
    exact ⟨typeIs_str s z t, fun _ e => nomatch e⟩
  | int i =>
    obtain ⟨t, rfl⟩ := r
    cases (show T = "int" from ty)
    exact ⟨typeIs_int s i t, fun _ e => nomatch e⟩
  | ref p =>
    cases r
    rcases ty with ⟨rfl, xs, hq⟩ | ⟨rfl, o, hk, hc, hd⟩ | ⟨rfl, hk⟩ | ⟨rfl, S, n, hk⟩
    · obtain ⟨its, _, pl, _⟩ := I.list hq
      refine ⟨pl.isList.typeIs, fun a e => ?_⟩
      cases e
      obtain ⟨o, n, e, c, hd, _⟩ := pl
      exact ⟨o, e, hd⟩
    · refine ⟨⟨o, I.kIn p o hk, hc⟩, fun a e => ?_⟩
      cases e
      exact ⟨o, I.kIn _ o hk, hd⟩
    · have z : ∃ o, s.heap.get? p = some o ∧ o.ExactDict := by
        rcases hk with ⟨kvs, hk⟩ | ⟨kvs, hk⟩
        · obtain ⟨_, _, _, _, o, _, _, e, ex, _⟩ := I.hok p _ hk
          exact ⟨o, e, ex⟩
        · obtain ⟨_, _, _, _, o, _, _, e, ex, _⟩ := I.hok p _ hk
          exact ⟨o, e, ex⟩
      obtain ⟨o, e, ex⟩ := z
      refine ⟨⟨o, e, ex.1⟩, fun a e2 => ?_⟩
      cases e2
      exact ⟨o, e, ex.2.1⟩
    · obtain ⟨o, _, _, _, e, ex, _⟩ := I.hok p _ hk
      refine ⟨⟨o, e, ex.1⟩, fun a e2 => ?_⟩
      cases e2
      exact ⟨o, e, ex.2.1⟩
  | _ => exact False.elim ty
def tBM0 (K : PySem.W.Frag) (T : String) (r : V → List V → Hp → VK → Prop) (to : TE) : TE := fun σ H Q => to σ H fun x H1 => tyV K T x H1 ∧ r x [] H1 Q
def tBM (K : PySem.W.Frag) (T : String) (r : V → List V → Hp → VK → Prop) (to : TE) (t : TA) : TE := fun σ H Q => to σ H fun x H1 => tyV K T x H1 ∧ t σ H1 fun xs H2 => r x xs H2 Q
variable {o e : Expr} {es : List Expr} {to : TE} {t : TA} {name : Str} {apos cpos : Pos} {T id : String} {r : V → List V → Hp → VK → Prop}
theorem pe_bm0 (pa : PlainAttrs T) (slot : Slot T name id) (hty : typeOf (.builtin id) = pure (.type "method_descriptor")) (hm : MtR X id r) (ho : PE X o to)
    (hbase : attributeBase o name X.env (eval o X.env) = eval o X.env := by rfl) (hline : (apos.endLine == cpos.line) = true := by rfl) : PE X (.Call (.Attribute o name apos) [] [] cpos) (tBM0 X.K T r to) := by
  intro pins s σ H Q I h
  refine wpAny_Call_method0_late hbase hline (thn (ho pins s σ H _ I h) fun v s1 ⟨x, H1, I1, r1, ty, q1⟩ => ?_)
  obtain ⟨h1, h2⟩ := tyV_is I1 r1 ty
  exact ⟨T, id, pa, slot, hty, h1, h2, Calls.callWith_builtin rfl (PySem.evalArgs_none (hm pins s1 σ H1 x [] v [] Q I1 r1 .nil q1))⟩
theorem pe_bm (pa : PlainAttrs T) (slot : Slot T name id) (hty : typeOf (.builtin id) = pure (.type "method_descriptor")) (hm : MtR X id r) (ho : PE X o to) (ha : PA X (e :: es) t)
    (hbase : attributeBase o name X.env (eval o X.env) = eval o X.env := by rfl)
    (hfew : ((backTo cpos (starEach (e :: es) X.env)).all (fun x => !x.1) && (backToKw cpos (keywordEach [] X.env)).all (fun x => x.1.isSome)
      && decide ((e :: es).length + ([] : List Keyword).length + (if ([] : List Keyword).isEmpty then 0 else 1) < 30)) = true := by rfl)
    (hline : (apos.endLine == cpos.line) = true := by rfl) (hs : starEach (e :: es) X.env = (false, eval e X.env) :: starEach es X.env := by rfl) (hplain : (backTo cpos (starEach es X.env)).any (·.1) = false := by rfl) :
    PE X (.Call (.Attribute o name apos) (e :: es) [] cpos) (tBM X.K T r to t) := by
  intro pins s σ H Q I h
  refine wpAny_Call_method_late hbase hfew hline rfl (thn (ho pins s σ H _ I h) fun v s1 ⟨x, H1, I1, r1, ty, q1⟩ => ?_)
  obtain ⟨h1, h2⟩ := tyV_is I1 r1 ty
  refine ⟨T, id, pa, slot, hty, h1, h2, ?_⟩
  have hA := ha cpos pins s1 σ H1 _ I1 q1
  rw [hs] at hA ⊢
  refine Calls.callWith_builtin (by show (false || (backTo cpos (starEach es X.env)).any (·.1)) = false; rw [hplain] <;> rfl) (Calls.evalArgs_plain ?_)
  exact thn hA fun us s2 ⟨vs, H2, I2, r2, q2⟩ => hm pins s2 σ H2 x vs v us Q I2 r1 r2 q2
/- xs.append(e), list.index on a module's tuple .. are MtR facts of 06m -/
end
end L2

namespace L2
open PySem PySem.Spec PyProof.Rows

def MtM (X : Cx) (id : String) (r : V → List V → Hp → VK → Prop) : Prop :=
  ∀ (pins : List (Addr × Obj)) (s : Shared) (σ : St) (H : Hp) (x : V) (xs : List V) (v : Value) (us : List Value) (Q : VK), Inv X pins σ H s → RelV x v → Vals xs us → r x xs H Q →
    wpAny (model X.prog X.w) X.A (call (.builtin id) (v :: us)) (EP X pins σ Q) X.xe s

/-! ### lists of values -/
theorem Vals.one : ∀ {x : V} {us : List Value}, Vals [x] us → ∃ u, us = [u] ∧ RelV x u
  | _, _, .cons r .nil => ⟨_, rfl, r⟩
theorem Vals.uncons {x : V} {xs : List V} {us : List Value} (h : Vals (x :: xs) us) : ∃ u t, us = u :: t ∧ RelV x u ∧ Vals xs t := by
  cases h with
  | cons r t => exact ⟨_, _, rfl, r, t⟩
theorem Vals.two {x y : V} {us : List Value} (h : Vals [x, y] us) : ∃ u v, us = [u, v] ∧ RelV x u ∧ RelV y v := by
  obtain ⟨u, t, rfl, r, h⟩ := h.uncons
  obtain ⟨v, rfl, q⟩ := Vals.one h
  exact ⟨u, v, rfl, r, q⟩
theorem Vals.zero : ∀ {us : List Value}, Vals [] us → us = []
  | _, .nil => rfl
theorem Vals.reverse {xs : List V} {us : List Value} (h : Vals xs us) : Vals xs.reverse us.reverse := by
  induction h with
  | nil => exact .nil
  | cons r t ih => rw [List.reverse_cons, List.reverse_cons]; exact Vals.append ih (.cons r .nil)
theorem Vals.rep {xs : List V} {us : List Value} (h : Vals xs us) : ∀ k : Nat, Vals (List.replicate k xs).flatten (List.replicate k us).flatten
  | 0 => .nil
  | k + 1 => by
    rw [List.replicate_succ, List.replicate_succ, List.flatten_cons, List.flatten_cons]
    exact Vals.append h (Vals.rep h k)
theorem foldl_rep (its : List Value) : ∀ (k : Nat) (acc : List Value),
    List.foldl (fun x1 x2 => x1 ++ x2) acc.toArray (List.replicate k its.toArray) = (acc ++ (List.replicate k its).flatten).toArray
  | 0, acc => by simp
  | k + 1, acc => by
    have e : acc.toArray ++ its.toArray = (acc ++ its).toArray := by simp
    have e2 : (acc ++ its) ++ (List.replicate k its).flatten = acc ++ (List.replicate (k + 1) its).flatten := by
      rw [List.replicate_succ, List.flatten_cons, List.append_assoc]
    rw [← e2, ← foldl_rep its k (acc ++ its), ← e, List.replicate_succ, List.foldl_cons]

section
variable {X : Cx} {pins : List (Addr × Obj)} {σ : St} {H : Hp} {s : Shared} {l b : Addr} {xs ys zs : List V}

/-! ### the two steps: a tracked list is rewritten, a new list is laid -/
theorem Inv.lset {its its' : List Value} {n : Nat} {f : Array Value → Array Value} {t' : Nat} (I : Inv X pins σ H s) (hH : H l = some (.lst xs))
    (e : s.heap.get? l = some { cls := .type "list", data := .seq its.toArray n }) (hf : f its.toArray = its'.toArray) (hv : Vals ys its') (hz : ys.length ≤ sizeLine) :
    Inv X pins σ (upd H l (.lst ys)) { s with heap := s.heap.update l (Obj.mapSeq f), toks := t' } := by
  have q := PySem.IsL.update e f
  rw [hf] at q
  refine I.write (x := l) (e := l) (by rw [hH]; exact trivial) (.inl rfl) (fun b' u hb hu => (Heap.get?_update_other s.heap (Obj.mapSeq f) (Ne.symm hb)).trans hu) ⟨_, q⟩ ?_
  exact ⟨hz, its', _, hv, q⟩
theorem Inv.lnew {its : List Value} {t' : Nat} (I : Inv X pins σ H s) (hv : Vals ys its) (hz : ys.length ≤ sizeLine) :
    Inv X pins σ (upd H s.heap.objs.size (.lst ys)) { s with heap := s.heap.push { cls := .type "list", data := .seq its.toArray }, toks := t' } :=
  I.laid (fun _ _ q => Heap.get?_push_of_some _ q) (Nat.le_refl _) ⟨hz, its, 0, hv, Heap.get?_push_size _ rfl⟩
theorem Inv.fresh (I : Inv X pins σ H s) : H s.heap.objs.size = none := I.hok.fresh (Nat.le_refl _)
theorem Inv.lstM (I : Inv X pins σ H s) (hH : H l = some (.lst xs)) : xs.length ≤ sizeLine ∧ ∃ (its : List Value) (n : Nat), Vals xs its ∧ xs.length = its.length ∧ s.heap.get? l = some { cls := .type "list", data := .seq its.toArray n } := by
  obtain ⟨z, its, n, r, e⟩ := I.hok l _ hH
  exact ⟨z, its, n, r, r.length, e⟩

theorem notLongL {n : Nat} (h : n ≤ sizeLine) : Builtin.List.listTooLong n = false := by
  unfold Builtin.List.listTooLong
  exact decide_eq_false (by omega)
end

section
variable {X : Cx}

/-! ### methods -/
inductive rAppend (x : V) (vs : List V) (H : Hp) (Q : VK) : Prop
  | mk : ∀ l xs y, (x = .ref l) → (vs = [y]) → (H l = some (.lst xs)) → (xs.length < sizeLine) → (Q .non (upd H l (.lst (xs ++ [y])))) → rAppend x vs H Q
theorem mt_append : MtM X "list.append" rAppend := by
  intro pins s σ H x vs v us Q I rx rv h
  obtain ⟨l, xs, y, rfl, rfl, hH, hz, q⟩ := h
  cases rx
  obtain ⟨u, rfl, ru⟩ := rv.one
  obtain ⟨z, its, n, r, hl, e⟩ := I.lstM hH
  refine call_meets F.slot_list_append ⟨_, e, rfl⟩ F.entry_list_append (F.args_list_append_2 _ _) (PySem.list_append l its.toArray n u (by rw [List.size_toArray]; omega)) ⟨e, ?_⟩
  refine ⟨.non, _, I.lset (its' := its ++ [u]) hH e (by simp) (r.append (.cons ru .nil)) ?_, rfl, q⟩
  rw [List.length_append, List.length_singleton]
  omega

inductive rExtend (x : V) (vs : List V) (H : Hp) (Q : VK) : Prop
  | mk : ∀ l b xs zs, (x = .ref l) → (vs = [.ref b]) → (H l = some (.lst xs)) → (H b = some (.lst zs)) → (xs.length + zs.length ≤ sizeLine) → (Q .non (upd H l (.lst (xs ++ zs)))) → rExtend x vs H Q
theorem mt_extend : MtM X "list.extend" rExtend := by
  intro pins s σ H x vs v us Q I rx rv h
  obtain ⟨l, b, xs, zs, rfl, rfl, hH, hB, hz, q⟩ := h
  cases rx
  obtain ⟨u, rfl, ru⟩ := rv.one
  cases ru
  obtain ⟨z, its, n, r, hl, e⟩ := I.lstM hH
  obtain ⟨z2, its2, n2, r2, hl2, e2⟩ := I.lstM hB
  have hsz : its.toArray.size + its2.toArray.size ≤ sizeLine := by rw [List.size_toArray, List.size_toArray]; omega
  have hlong : ¬ (!its.toArray.isEmpty && Builtin.List.listTooLong (its.toArray.size + its2.toArray.size)) = true := by
    rw [notLongL hsz, Bool.and_false]
    exact Bool.false_ne_true
  refine call_meets F.slot_list_extend ⟨_, e, rfl⟩ F.entry_list_extend (F.args_list_extend_2 _ _)
    (AutoSeq1.list_extend_list_list_0 l its.toArray n b its2.toArray n2 hlong (by rw [List.size_toArray]; omega) (by omega)) ⟨e, e2, ?_⟩
  refine ⟨.non, _, I.lset (its' := its ++ its2) hH e (by simp) (r.append r2) ?_, rfl, q⟩
  rw [List.length_append]
  omega

inductive rReverse (x : V) (vs : List V) (H : Hp) (Q : VK) : Prop
  | mk : ∀ l xs, (x = .ref l) → (vs = []) → (H l = some (.lst xs)) → (Q .non (upd H l (.lst xs.reverse))) → rReverse x vs H Q
theorem mt_reverse : MtM X "list.reverse" rReverse := by
  intro pins s σ H x vs v us Q I rx rv h
  obtain ⟨l, xs, rfl, rfl, hH, q⟩ := h
  cases rx
  have hus := rv.zero
  subst hus
  obtain ⟨z, its, n, r, hl, e⟩ := I.lstM hH
  refine call_meets F.slot_list_reverse ⟨_, e, rfl⟩ F.entry_list_reverse (F.args_list_reverse_1 _) (AutoSeq1.list_reverse_list_0 l its.toArray n (by rw [List.size_toArray]; omega)) ⟨e, ?_⟩
  refine ⟨.non, _, I.lset (its' := its.reverse) hH e (by simp) r.reverse ?_, rfl, q⟩
  rw [List.length_reverse]
  omega

/-! ### list + list, list += list, list * int -/
inductive rCat (x : V) (y : V) (H : Hp) (Q : VK) : Prop
  | mk : ∀ l b xs zs, (x = .ref l) → (y = .ref b) → (H l = some (.lst xs)) → (H b = some (.lst zs)) → (xs.length + zs.length ≤ sizeLine) → (∀ p, H p = none → Q (.ref p) (upd H p (.lst (xs ++ zs)))) → rCat x y H Q
theorem op_cat : OpR X (binaryOp .Add) rCat := by
  intro pins s σ H x y v u Q I rx ry h
  obtain ⟨l, b, xs, zs, rfl, rfl, hH, hB, hz, q⟩ := h
  cases rx
  cases ry
  obtain ⟨z, its, n, r, hl, e⟩ := I.lstM hH
  obtain ⟨z2, its2, n2, r2, hl2, e2⟩ := I.lstM hB
  refine PySem.P.add_list e e2 ?_ (by rw [List.size_toArray, List.size_toArray]; omega)
  have ea : its.toArray ++ its2.toArray = (its ++ its2).toArray := by simp
  rw [ea]
  exact ⟨.ref _, _, I.lnew (t' := s.toks) (r.append r2) (by rw [List.length_append]; omega), rfl, q _ I.fresh⟩
/-- a list times an int (a negative one is nothing) -/
inductive rRep (x : V) (y : V) (H : Hp) (Q : VK) : Prop
  | mk : ∀ l k xs, (x = .ref l) → (y = .int k) → (H l = some (.lst xs)) → (-(2 ^ 63) ≤ k) → (k < 2 ^ 63) → (xs.length * k.toNat ≤ sizeLine) → (∀ p, H p = none → Q (.ref p) (upd H p (.lst (List.replicate k.toNat xs).flatten))) → rRep x y H Q
theorem len_rep {α : Type} (xs : List α) (k : Nat) : (List.replicate k xs).flatten.length = k * xs.length := by
  induction k with
  | zero => simp
  | succ k ih => rw [List.replicate_succ, List.flatten_cons, List.length_append, ih, Nat.succ_mul, Nat.add_comm]
theorem op_rep : OpR X (binaryOp .Mult) rRep := by
  intro pins s σ H x y v u Q I rx ry h
  obtain ⟨l, k, xs, rfl, rfl, hH, h1, h2, hz, q⟩ := h
  cases rx
  obtain ⟨t, rfl⟩ := ry
  obtain ⟨z, its, n, r, hl, e⟩ := I.lstM hH
  have hlen : its.toArray.size * k.toNat ≤ sizeLine := by rw [List.size_toArray, ← hl]; exact hz
  have hcap : ¬ its.toArray.size * k.toNat > (2 ^ 63 - 1) / 8 := by
    have : (sizeLine : Nat) ≤ (2 ^ 63 - 1) / 8 := by decide
    omega
  have hfit : ¬ (!Builtin.List.listFitsIndex k) = true := by
    rw [fitsIndex_both h1 h2]
    exact Bool.false_ne_true
  have hlong : ¬ Builtin.List.listTooLong (its.toArray.size * k.toNat) = true := by
    rw [notLongL hlen]
    exact Bool.false_ne_true
  have hnew : List.foldl (fun x1 x2 => x1 ++ x2) #[] (List.replicate (if its.toArray.isEmpty = true then 0 else k.toNat) its.toArray) = (List.replicate k.toNat its).flatten.toArray := by
    have f0 : ∀ m : Nat, List.foldl (fun x1 x2 => x1 ++ x2) #[] (List.replicate m its.toArray) = (List.replicate m its).flatten.toArray := fun m => by
      have := foldl_rep its m []
      rw [List.nil_append] at this
      exact this
    rw [f0]
    cases its with
    | nil => simp
    | cons a r' => rw [if_neg (by simp)]
  refine wpAny_binaryOp_repeat_ref (T := "list") (U := "int") (by decide) ⟨_, e, rfl⟩ (fun s' => typeIs_int s' k t) noFill_list_mul F.fills_int_mul F.slot_int_rmul repeat_list F.slot_int_index.lookup
    (call_meets F.slot_int_rmul (typeIs_int s k t) F.entry_int_rmul (F.args_int_rmul_2 _ _) (int___rmul___int_list k t l its.toArray n)
      ⟨e, rfl, ⟨_, e, rfl⟩, call_meets F.slot_list_mul ⟨_, e, rfl⟩ F.entry_list_mul (F.args_list_mul_2 _ _) (AutoListH.list___mul___list_int_3 l its.toArray n k t hfit hcap hlong) ⟨e, ?_⟩⟩)
  rw [hnew]
  exact ⟨.ref _, _, I.lnew (t' := s.toks) (r.rep k.toNat) (by rw [len_rep, Nat.mul_comm]; exact hz), rfl, q _ I.fresh⟩

/-! ### del xs[i] -/
end

/-! ### xs[a:b] = ys -/
section
variable {prog : Program} {w : World} {A : Around} {E : Value → Shared → Prop} {s : Shared}
end

section
variable {X : Cx}
end
end L2

namespace L2
open PySem PySem.Spec PyProof.Rows

/-! ### lists of pairs as tables -/
section
variable {κ : Type} [DecidableEq κ]
def valV (kvs : List (κ × V)) (k : κ) : Option V := (kvs.find? fun kv => decide (kv.1 = k)).map (·.2)
/-- in its place, or at the end -/
def putK (kvs : List (κ × V)) (k : κ) (v : V) : List (κ × V) :=
  if (kvs.any fun kv => decide (kv.1 = k)) = true then kvs.map (fun kv => if kv.1 = k then (kv.1, v) else kv) else kvs ++ [(k, v)]
theorem valV_pos {p : κ × V} {r : List (κ × V)} {k : κ} (e : p.1 = k) : valV (p :: r) k = some p.2 := by simp [valV, List.find?_cons, e]
theorem valV_neg {p : κ × V} {r : List (κ × V)} {k : κ} (e : ¬ p.1 = k) : valV (p :: r) k = valV r k := by simp [valV, List.find?_cons, e]
theorem valV_any (k : κ) : ∀ kvs : List (κ × V), (kvs.any fun kv => decide (kv.1 = k)) = (valV kvs k).isSome
  | [] => rfl
  | p :: r => by
    rw [List.any_cons]
    by_cases e : p.1 = k
    · simp only [valV_pos e, decide_eq_true e, Bool.true_or, Option.isSome_some]
    · rw [valV_neg e, decide_eq_false e, Bool.false_or]; exact valV_any k r
theorem length_putK (kvs : List (κ × V)) (k : κ) (v : V) : (putK kvs k v).length ≤ kvs.length + 1 := by
  unfold putK
  split
  · rw [List.length_map]; omega
  · rw [List.length_append, List.length_cons, List.length_nil]; omega
theorem putK_new {kvs : List (κ × V)} {k : κ} (v : V) (h : valV kvs k = none) : putK kvs k v = kvs ++ [(k, v)] := by
  unfold putK
  rw [valV_any, h]
  exact if_neg (by decide)

theorem RelO.isSome_eq {o : Option V} {u : Option Value} (r : RelO o u) : o.isSome = u.isSome := by
  cases o with
  | none => cases u with
    | none => rfl
    | some _ => exact (show False from r).elim
  | some _ => cases u with
    | none => exact (show False from r).elim
    | some _ => rfl
/-- raw tables of the same keys -/
theorem KV.val {kvs : List (κ × V)} {vs : List (κ × Value)} (r : KV kvs vs) (k : κ) : RelO (valV kvs k) (valueAt vs k) := by
  unfold KV at r
  induction r with
  | nil => exact True.intro
  | @cons p q ps qs h t ih =>
    obtain ⟨h1, h2⟩ := h
    by_cases e : p.1 = k
    · have e' : q.1 = k := h1.symm.trans e
      have b : valueAt (q :: qs) k = some q.2 := by simp [valueAt, List.find?_cons, e']
      rw [valV_pos e, b]; exact h2
    · have e' : ¬ q.1 = k := fun z => e (h1.trans z)
      have b : valueAt (q :: qs) k = valueAt qs k := by simp [valueAt, List.find?_cons, e']
      rw [valV_neg e, b]; exact ih
theorem KV.any {kvs : List (κ × V)} {vs : List (κ × Value)} (r : KV kvs vs) (k : κ) : (kvs.any fun kv => decide (kv.1 = k)) = vs.any fun kv => decide (kv.1 = k) := by
  unfold KV at r
  induction r with
  | nil => rfl
  | cons h t ih => rw [List.any_cons, List.any_cons, ih, h.1]
theorem KV.repl {kvs : List (κ × V)} {vs : List (κ × Value)} (r : KV kvs vs) (k : κ) {y : V} {u : Value} (ry : RelV y u) :
    KV (kvs.map fun kv => if kv.1 = k then (kv.1, y) else kv) (vs.map fun kv => if kv.1 = k then (kv.1, u) else kv) := by
  unfold KV at r ⊢
  induction r with
  | nil => exact .nil
  | @cons p q ps qs h t ih =>
    rw [List.map_cons, List.map_cons]
    refine .cons ?_ ih
    obtain ⟨h1, h2⟩ := h
    by_cases e : p.1 = k
    · rw [if_pos e, if_pos (h1.symm.trans e)]; exact ⟨h1, ry⟩
    · rw [if_neg e, if_neg (fun z => e (h1.trans z))]; exact ⟨h1, h2⟩
theorem KV.put {kvs : List (κ × V)} {vs : List (κ × Value)} (r : KV kvs vs) (k : κ) {y : V} {u : Value} (ry : RelV y u) : KV (putK kvs k y) (stored vs k u) := by
  unfold putK stored
  rw [r.any k]
  by_cases e : (vs.any fun kv => decide (kv.1 = k)) = true
  · rw [if_pos e, if_pos e]; exact r.repl k ry
  · rw [if_neg e, if_neg e]; exact Paired.snoc r ⟨rfl, ry⟩
theorem KV.length {kvs : List (κ × V)} {vs : List (κ × Value)} (r : KV kvs vs) : kvs.length = vs.length := Paired.length r
end


/-! ### a tracked dict, its keys ints and texts or tuples of these -/
theorem kV_is {P : Program} {w : World} {k : Key} {u : Value} (r : RelV (kV k) u) : (mixKind P w).is k u = true := by
  cases k with
  | inl i => obtain ⟨t, e⟩ := (show ∃ t, u = Value.int i t from r); subst e; exact mixKind_int P w i t
  | inr x => obtain ⟨t, e⟩ := (show ∃ t, u = Value.str x t from r); subst e; exact mixKind_str P w x t
theorem items_are {P : Program} {w : World} : ∀ {ks : List Key} {us : List Value}, Vals (ks.map kV) us → ItemsAre (mixKind P w) ks us
  | [], _, r => by rw [List.map_nil] at r; cases r; exact .nil
  | k :: ks, _, r => by
    rw [List.map_cons] at r
    cases r with
    | cons h t => exact .cons (kV_is h) (items_are t)

/-- raw entries of a dict with tuple keys -/
abbrev KT (H : Hp) : List (List Key × V) → List (List Key × Addr × Value) → Prop := Paired fun p q => p.1 = q.1 ∧ H q.2.1 = some (.tup (p.1.map kV)) ∧ RelV p.2 q.2.2
theorem KT.val {H : Hp} {kvs : List (List Key × V)} {xs : List (List Key × Addr × Value)} (r : KT H kvs xs) (k : List Key) : RelO (valV kvs k) ((atKey xs k).map (·.2)) := by
  induction r with
  | nil => exact True.intro
  | @cons p q ps qs h t ih =>
    obtain ⟨h1, _, h2⟩ := h
    by_cases e : p.1 = k
    · have e' : q.1 = k := h1.symm.trans e
      have b : atKey (q :: qs) k = some q.2 := by simp [atKey, List.find?_cons, e']
      rw [valV_pos e, b]; exact h2
    · have e' : ¬ q.1 = k := fun z => e (h1.trans z)
      have b : atKey (q :: qs) k = atKey qs k := by simp [atKey, List.find?_cons, e']
      rw [valV_neg e, b]; exact ih
theorem KT.repl {H : Hp} {kvs : List (List Key × V)} {xs : List (List Key × Addr × Value)} (r : KT H kvs xs) (k : List Key) {y : V} {u : Value} (ry : RelV y u) :
    KT H (kvs.map fun kv => if kv.1 = k then (kv.1, y) else kv) (xs.map (putAt k u)) := by
  induction r with
  | nil => exact .nil
  | @cons p q ps qs h t ih =>
    rw [List.map_cons, List.map_cons]
    refine .cons ?_ ih
    obtain ⟨h1, h2, h3⟩ := h
    unfold putAt
    by_cases e : p.1 = k
    · rw [if_pos e, if_pos (h1.symm.trans e)]; exact ⟨h1, h2, ry⟩
    · rw [if_neg e, if_neg (fun z => e (h1.trans z))]; exact ⟨h1, h2, h3⟩
theorem KT.put {H : Hp} {kvs : List (List Key × V)} {xs : List (List Key × Addr × Value)} (r : KT H kvs xs) (k : List Key) {b : Addr} {y : V} {u : Value} (hb : H b = some (.tup (k.map kV))) (ry : RelV y u) :
    KT H (putK kvs k y) (storedH xs k b u) := by
  have e : (kvs.any fun kv => decide (kv.1 = k)) = (atKey xs k).isSome := by
    rw [valV_any, (r.val k).isSome_eq, Option.isSome_map]
  unfold putK storedH
  rw [e]
  by_cases q : (atKey xs k).isSome = true
  · rw [if_pos q, if_pos q]; exact r.repl k ry
  · rw [if_neg q, if_neg q]; exact Paired.snoc r ⟨rfl, hb, ry⟩
theorem KT.keeps {H H' : Hp} {kvs : List (List Key × V)} {xs : List (List Key × Addr × Value)} (r : KT H kvs xs) (ht : ∀ b ys, H b = some (.tup ys) → H' b = some (.tup ys)) : KT H' kvs xs :=
  Paired.mapP r fun _ _ z => ⟨z.1, ht _ _ z.2.1, z.2.2⟩

section
variable {P : Program} {w : World} {H : Hp} {h : Heap} {a : Addr}
theorem rd_of {u : HO} (ok : HOk P w H h) (e : Rd H a u) : ObjOk P w H h a u := e.ok ok
theorem dk_rd {kvs : List (Key × V)} (ok : HOk P w H h) (e : Rd H a (.dK kvs)) : kvs.length ≤ sizeLine ∧ (a == sysModules) = false ∧ ∃ vs, KV kvs vs ∧ h.DictOf (mixKind P w) a vs :=
  show ObjOk P w H h a (.dK kvs) from rd_of ok e
theorem dk_of {kvs : List (Key × V)} (ok : HOk P w H h) (e : H a = some (.dK kvs)) : kvs.length ≤ sizeLine ∧ (a == sysModules) = false ∧ ∃ vs, KV kvs vs ∧ h.DictOf (mixKind P w) a vs := dk_rd ok (.inl e)
/-- a tracked tuple of ints and texts is a key -/
theorem key_of {ks : List Key} (ok : HOk P w H h) (e : H a = some (.tup (ks.map kV))) : (tupleKind (mixKind P w)).is h ks a := by
  obtain ⟨_, its, r, o, h1, h2, n, h3⟩ := (show ObjOk P w H h a (.tup (ks.map kV)) from ok a _ e)
  exact ⟨o, its.toArray, n, h1, h2, h3, by simpa using items_are r⟩
theorem dt_rd {kvs : List (List Key × V)} (ok : HOk P w H h) (e : Rd H a (.dT kvs)) : kvs.length ≤ sizeLine ∧ (a == sysModules) = false ∧
    ∃ xs, KT H kvs xs ∧ h.DictOfH (tupleKind (mixKind P w)) a xs := by
  obtain ⟨z, y, xs, r, o, es, ep, h1, h2, h3, h4, h5⟩ := (show ObjOk P w H h a (.dT kvs) from rd_of ok e)
  refine ⟨z, y, xs, r, o, es, ep, h1, h2, h3, h4, fun x hx => ?_, h5⟩
  have all : ∀ {l : List (List Key × V)} {m : List (List Key × Addr × Value)}, KT H l m → ∀ x ∈ m, (tupleKind (mixKind P w)).is h x.1 x.2.1 := by
    intro l m q
    induction q with
    | nil => intro x hx; exact nomatch hx
    | @cons p q ps qs hq t ih =>
      intro x hx
      rcases List.mem_cons.mp hx with e | hx
      · subst e
        exact key_of ok (by rw [← hq.1]; exact hq.2.1)
      · exact ih x hx
  exact all r x hx
theorem dt_of {kvs : List (List Key × V)} (ok : HOk P w H h) (e : H a = some (.dT kvs)) : kvs.length ≤ sizeLine ∧ (a == sysModules) = false ∧
    ∃ xs, KT H kvs xs ∧ h.DictOfH (tupleKind (mixKind P w)) a xs := dt_rd ok (.inl e)
end

/-- what the dict at a holds at the key y -/
def DGet (H : Hp) (a : Addr) (y : V) (r : Option V) : Prop :=
  (∃ kvs k, Rd H a (.dK kvs) ∧ y = kV k ∧ r = valV kvs k) ∨ ∃ kvs k b, Rd H a (.dT kvs) ∧ y = .ref b ∧ H b = some (.tup (k.map kV)) ∧ r = valV kvs k
/-- the heap behind a[y] = v -/
def DPut (H : Hp) (a : Addr) (y v : V) (H' : Hp) : Prop :=
  (∃ kvs k, H a = some (.dK kvs) ∧ y = kV k ∧ kvs.length < sizeLine ∧ H' = upd H a (.dK (putK kvs k v))) ∨
  ∃ kvs k b, H a = some (.dT kvs) ∧ y = .ref b ∧ H b = some (.tup (k.map kV)) ∧ kvs.length < sizeLine ∧ H' = upd H a (.dT (putK kvs k v))
theorem DGet.k {H : Hp} {a : Addr} {kvs : List (Key × V)} {k : Key} (e : H a = some (.dK kvs)) : DGet H a (kV k) (valV kvs k) := .inl ⟨kvs, k, .inl e, rfl, rfl⟩
theorem DPut.k {H : Hp} {a : Addr} {kvs : List (Key × V)} {k : Key} {v : V} (e : H a = some (.dK kvs)) (hl : kvs.length < sizeLine) : DPut H a (kV k) v (upd H a (.dK (putK kvs k v))) := .inl ⟨kvs, k, e, rfl, hl, rfl⟩
section
variable {X : Cx} {pins : List (Addr × Obj)} {σ : St} {H : Hp} {s : Shared} {a : Addr} {y v : V} {u r : Value} {o : Option V} {A : Around} {E : Value → Shared → Prop}

theorem Inv.big (I : Inv X pins σ H s) : sysModules < s.heap.objs.size := by
  have h : mainGlobals < s.heap.objs.size := (I.mod.glob.keeps I.bk).lt
  exact Nat.lt_trans (by decide) h

/-- d[y], there -/
theorem d_getItem {Q : Value → Shared → Prop} (hu : A.units + 1 < cLine) (I : Inv X pins σ H s) (g : DGet H a y (some v)) (ry : RelV y u) (h : ∀ w' s', Inv X pins σ H s' → RelV v w' → Q w' s') :
    wpAny (model X.prog X.w) A (getItem (.ref a) u) Q E s := by
  rcases g with ⟨kvs, k, e, ey, l⟩ | ⟨kvs, k, b, e, ey, eb, l⟩
  · subst ey
    obtain ⟨z, hd, vs, rel, dd⟩ := dk_rd I.hok e
    obtain ⟨w', hw, rw'⟩ := RelO.some_of (v := v) (o := valueAt vs k) (by rw [l]; exact rel.val k)
    exact wpAny_getItem_of (kV_is ry) dd.mapOf hw (h w' _ (I.tok _) rw')
  · subst ey
    cases (show u = Value.ref b from ry)
    obtain ⟨z, hd, xs, rel, dd⟩ := dt_rd I.hok e
    obtain ⟨w', hw, rw'⟩ := RelO.some_of (v := v) (o := (atKey xs k).map (·.2)) (by rw [l]; exact rel.val k)
    obtain ⟨p, hp, hp2⟩ := Option.map_eq_some_iff.mp hw
    refine wpAny_getItem_heap (tupleKind_room_in1 hu) (key_of I.hok eb) dd hp ?_
    rw [hp2]
    exact h w' _ (I.tok _) rw'
theorem d_notIn {Q : Value → Shared → Prop} (hu : A.units + 1 < cLine) (I : Inv X pins σ H s) (g : DGet H a y o) (ry : RelV y u) (h : ∀ s', Inv X pins σ H s' → Q (.bool (!o.isSome)) s') :
    wpAny (model X.prog X.w) A (compareOp .NotIn u (.ref a)) Q E s := by
  rcases g with ⟨kvs, k, e, ey, l⟩ | ⟨kvs, k, b, e, ey, eb, l⟩
  · subst ey
    obtain ⟨z, hd, vs, rel, dd⟩ := dk_rd I.hok e
    refine wpAny_notIn_of (kV_is ry) hd dd.mapOf ?_
    rw [← (rel.val k).isSome_eq, ← l]
    exact h _ (I.tok _)
  · subst ey
    cases (show u = Value.ref b from ry)
    obtain ⟨z, hd, xs, rel, dd⟩ := dt_rd I.hok e
    refine wpAny_notIn_heap (tupleKind_room_in1 hu) (key_of I.hok eb) hd dd ?_
    have q := (rel.val k).isSome_eq
    rw [Option.isSome_map] at q
    rw [← q, ← l]
    exact h _ (I.tok _)
/-- a dict's object is replaced -/
theorem d_write {h' : Heap} {t' : Nat} {ob : HO} (I : Inv X pins σ H s) (mu : Mut (H a)) (hs : Heap.SameBut a s.heap h') (he : ∃ q, h'.get? a = some q) (new : ObjOk X.prog X.w (upd H a ob) h' a ob) :
    Inv X pins σ (upd H a ob) { s with heap := h', toks := t' } :=
  I.write (x := a) (e := a) mu (.inl rfl) (fun b q hb z => (hs.2 b hb).trans z) he new
theorem dk_new {P : Program} {w : World} {H' : Hp} {h' : Heap} {kvs : List (Key × V)} {vs : List (Key × Value)} (z : kvs.length ≤ sizeLine) (hd : (a == sysModules) = false) (rel : KV kvs vs) (dd : h'.DictOf (mixKind P w) a vs) :
    ObjOk P w H' h' a (.dK kvs) := ⟨z, hd, vs, rel, dd⟩
/-- d[y] = v -/
theorem d_setItem {H' : Hp} {Q : Unit → Shared → Prop} (hu : A.units + 1 < cLine) (I : Inv X pins σ H s) (g : DPut H a y v H') (ry : RelV y u) (rv : RelV v r) (h : ∀ s', Inv X pins σ H' s' → Q () s') :
    wpAny (model X.prog X.w) A (setItem (.ref a) u r) Q E s := by
  rcases g with ⟨kvs, k, e, ey, l, eH⟩ | ⟨kvs, k, b, e, ey, eb, l, eH⟩
  · subst ey eH
    obtain ⟨z, hd, vs, rel, dd⟩ := dk_of I.hok e
    have hz : vs.length ≤ sizeLine := by rw [← rel.length]; exact z
    have hl : (putK kvs k v).length ≤ sizeLine := by have := length_putK kvs k v; omega
    refine wpAny_setItem_pairs (hsz := hz) (kV_is ry) dd fun h' dd' hs => h _ ?_
    have he : ∃ q, h'.get? a = some q := let ⟨q, _, _, hq, _⟩ := dd'; ⟨q, hq⟩
    exact d_write I (by rw [e]; exact True.intro) hs he (dk_new hl hd (rel.put k rv) dd')
  · subst ey eH
    cases (show u = Value.ref b from ry)
    obtain ⟨z, hd, xs, rel, dd⟩ := dt_of I.hok e
    have hz : xs.length ≤ sizeLine := by rw [← Paired.length rel]; exact z
    have hl : (putK kvs k v).length ≤ sizeLine := by have := length_putK kvs k v; omega
    refine wpAny_setItem_heap (hsz := hz) (tupleKind_room_in1 hu) (key_of I.hok eb) dd fun h' dd' hs => h _ ?_
    obtain ⟨q, es, ep, hq, h2, h3, h4, _, h5⟩ := dd'
    refine d_write I (by rw [e]; exact True.intro) hs ⟨q, hq⟩ ⟨hl, hd, _, (rel.put k eb rv).keeps fun c ys ec => ?_, q, es, ep, hq, h2, h3, h4, h5⟩
    rw [upd_ne (ne_of ec e (fun z => nomatch z))]
    exact ec
end

section
variable {X : Cx} {pins : List (Addr × Obj)} {σ : St} {H : Hp} {s : Shared} {a : Addr} {kvs : List (Key × V)} {k : Key} {u : Value} {A : Around} {E : Value → Shared → Prop}
end


/-! ### readings and rules -/
/-- the element of a subscription, not a slice -/
def NoSl (i : Expr) : Prop := ∀ ov iv, subscripted i false ov iv = operate [ov, iv] (getItem ov iv)
theorem subD_of {prog : Program} {w : World} {A : Around} {E : Value → Shared → Prop} {s : Shared} {env : Env} {value slice : Expr} {pos : Pos} {T id : String} {Q : Value → Shared → Prop}
    (hl : typeLookup (.type T) "__getitem__" = pure (some (.builtin id))) (hs : NoSl slice)
    (h : wpAny (model prog w) A (eval value env) (fun o s₁ => wpAny (model prog w) A (eval slice env) (fun i s₂ => s₂.TypeIs o T ∧ wpAny (model prog w) A (getItem o i) Q E s₂) E s₁) E s) :
    wpAny (model prog w) A (eval (.Subscript value slice pos) env) Q E s := by
  refine Subscript_ (wpAny_mono h (fun o s₁ h₁ => wpAny_mono h₁ (fun i s₂ h₂ => ?_) fun _ _ x => x) fun _ _ x => x)
  obtain ⟨hT, h₂⟩ := h₂
  unfold subscriptTail
  refine wpAny_bind ?_
  rw [getitemInPython_of_ne hT.not_modules]
  refine wpAny_bind (wpAny_specialOf hT hl ?_)
  have fin : wpAny (model prog w) A (subscripted slice false o i) (fun r s₃ => wpAny (model prog w) A (letTemporaryGo value o r >>= fun _ => pure r) Q E s₃) E s₂ := by
    rw [hs o i]
    exact wpAny_operating (wpAny_mono h₂ (fun r s₃ h₃ => wpAny_bind (wpAny_letTemporaryGo (wpAny_pure h₃))) fun _ _ x => x)
  first
    | exact wpAny_pure (wpAny_bind fin)
    | exact wpAny_bind (wpAny_pure (wpAny_bind fin))
    | exact wpAny_bind fin

theorem dict_typeIs {X : Cx} {pins : List (Addr × Obj)} {σ : St} {H : Hp} {s : Shared} {a : Addr} {y : V} {o : Option V} (I : Inv X pins σ H s) (g : DGet H a y o) : s.TypeIs (.ref a) "dict" := by
  rcases g with ⟨kvs, k, e, _, _⟩ | ⟨kvs, k, b, e, _, _, _⟩
  · obtain ⟨_, _, vs, _, dd⟩ := dk_rd I.hok e
    exact dd.typeIs
  · obtain ⟨_, _, xs, _, dd⟩ := dt_rd I.hok e
    exact dd.typeIs
/-- d[y] -/
def tDGet (td ty : TE) : TE := fun σ H Q => td σ H fun x H1 => ty σ H1 fun y H2 => ∃ a v, x = .ref a ∧ DGet H2 a y (some v) ∧ Q v H2
def tDNotIn (ty td : TE) : TE := fun σ H Q => ty σ H fun y H1 => td σ H1 fun x H2 => ∃ a o, x = .ref a ∧ DGet H2 a y o ∧ Q (.bl (!o.isSome)) H2
/-- d[y] = v -/
def sDPut (td ty tv : TE) : TS := fun D σ H => tv σ H fun v H1 => td σ H1 fun x H2 => ty σ H2 fun y H3 => ∃ a H4, x = .ref a ∧ DPut H3 a y v H4 ∧ D.nx σ H4
section
variable {X : Cx} {o i e value : Expr} {pos pos' tpos : Pos} {td ty tv : TE}
theorem pe_dget (hu : X.A.units + 1 < cLine) (ho : PE X o td) (hi : PE X i ty) (hs : NoSl i) : PE X (.Subscript o i pos) (tDGet td ty) := by
  intro pins s σ H Q I h
  refine subD_of PySem.F.slot_dict_getitem.lookup hs (thn (ho pins s σ H _ I h) fun u s1 ⟨x, H1, I1, rx, q1⟩ => thn (hi pins s1 σ H1 _ I1 q1) fun iv s2 ⟨y, H2, I2, ry, a, v, ex, g, q2⟩ => ?_)
  subst ex
  obtain rfl : u = Value.ref a := rx
  exact ⟨dict_typeIs I2 g, d_getItem hu I2 g ry fun w' s3 I3 rw' => ⟨v, H2, I3, rw', q2⟩⟩
theorem pc_dnotin (hu : X.A.units + 1 < cLine) (hi : PE X i ty) (ho : PE X o td) : PC X .NotIn i o (tDNotIn ty td) := by
  intro pins s σ H Q I h
  refine thn (hi pins s σ H _ I h) fun iv s1 ⟨y, H1, I1, ry, q1⟩ => thn (ho pins s1 σ H1 _ I1 q1) fun u s2 ⟨x, H2, I2, rx, a, ov, ex, g, q2⟩ => ?_
  subst ex
  obtain rfl : u = Value.ref a := rx
  exact d_notIn hu I2 g ry fun s3 I3 => ⟨.bl (!ov.isSome), H2, I3, rfl, q2⟩
theorem ps_dput (hu : X.A.units + 1 < cLine) (ho : PE X o td) (hi : PE X i ty) (hv : PE X value tv) (hs : swapsWith value (some (.Subscript o i pos')) pos.line X.env = pure false) :
    PS X (.Assign [.Subscript o i pos'] value pos) (sDPut td ty tv) := by
  intro pins s σ H D I h
  refine wpAny_Assign_Subscript (thn (hv pins s σ H _ I h) fun r s1 ⟨v, H1, I1, rv, q1⟩ => thn (ho pins s1 σ H1 _ I1 q1) fun u s2 ⟨x, H2, I2, rx, q2⟩ => thn (hi pins s2 σ H2 _ I2 q2) fun iv s3 ⟨y, H3, I3, ry, a, H4, ex, g, q3⟩ => ?_) hs
  subst ex
  obtain rfl : u = Value.ref a := rx
  exact d_setItem hu I3 g ry rv fun s4 I4 => ⟨σ, H4, I4, q3⟩
end


/-! ### displays -/
theorem dk_empty {P : Program} {w : World} {H : Hp} (h : Heap) (hb : sysModules < h.objs.size) : ObjOk P w H (h.push { cls := .type "dict", data := .dict #[] }) h.objs.size (.dK []) :=
  ⟨Nat.zero_le _, beq_eq_false_iff_ne.mpr (Ne.symm (Nat.ne_of_lt hb)), [], .nil, Heap.DictOf.new h⟩
/-- {}, to be a dict of the kind that is wanted -/
def tDNewK : TE := fun _ H Q => ∀ p, H p = none → Q (.ref p) (upd H p (.dK []))
section
variable {X : Cx} {pos : Pos}
theorem pe_dnewK : PE X (.Dict [] [] pos) tDNewK := fun pins s σ H Q I h =>
  wpAny_Dict_empty ⟨.ref s.heap.objs.size, _, I.laid (a := s.heap.objs.size) (o := .dK []) (t' := s.toks) (fun _ _ q => Heap.get?_push_of_some _ q) (Nat.le_refl _) (dk_empty s.heap I.big), rfl, h _ (I.hok.fresh (Nat.le_refl _))⟩
end

/-! ### methods -/
section
variable {X : Cx} {pins : List (Addr × Obj)} {σ : St} {H : Hp} {s : Shared} {a : Addr} {y d : V} {u r : Value} {o : Option V} {A : Around} {E : Value → Shared → Prop}
end

section
variable {X : Cx} {o e f : Expr} {apos cpos : Pos} {td ty tx : TE}
end

/-! ### dict(d): a copy -/
section
variable {X : Cx} {pins : List (Addr × Obj)} {σ : St} {H : Hp} {s : Shared} {a : Addr} {kvs : List (Key × V)} {A : Around} {E : Value → Shared → Prop}
end


section
variable {X : Cx} {pins : List (Addr × Obj)} {σ : St} {H : Hp} {s : Shared} {a : Addr} {y : V} {u : Value} {A : Around} {E : Value → Shared → Prop}
end
end L2

namespace Att
open PySem PySem.W PySem.Calls PyProof.Rows

/-! ### the script -/
theorem ints_of_wellAll {P : Params} {h : Heap} : ∀ (ns : List Int) (vs : List Value), WellAll P h vs (ns.map WData.int) → IntsAre vs ns := by
  intro ns
  induction ns with
  | nil =>
    intro vs w
    rw [List.map_nil] at w
    cases w
    exact .nil
  | cons n ns ih =>
    intro vs w
    rw [List.map_cons] at w
    cases w with
    | cons a b =>
      cases a
      exact .cons _ _ (ih _ b)

theorem script_of {l : OpenLaw} {n : Nat} (hn : l.most = some n) {P : Params} {h : Heap} {args : List WData} {vals : List Value}
    (hpre : l.row.toRowW.claim.pre args = true) (hwl : WellAll P h vals args) :
    ∃ a vs ns, vals = [Value.ref a] ∧ args = [WData.list (ns.map WData.int)] ∧ h.get? a = some { cls := .type "list", data := .seq vs.toArray } ∧ IntsAre vs ns ∧ ns.length ≤ n := by
  have hsh : WShape.hasAll [] args [.list .int] = true := (pre_splitW hpre).1
  have hc : l.pre.holds [] { args := args } = true := (pre_splitW hpre).2
  obtain ⟨d, r, rfl, h1, h2⟩ := hasAllW_cons hsh
  obtain rfl := hasAllW_nil h2
  obtain ⟨xs, rfl, h3⟩ := hasW_list h1
  obtain ⟨ns, rfl⟩ := items_int h3
  have hlen : ns.length ≤ n := by
    unfold OpenLaw.pre at hc
    have h4 : (WTm.not (.lt (.lit (.int (n : Int))) (.len (.arg 0)))).holds [] { args := [.list (ns.map .int)] } = true := by
      have h4 := (holds_andW hc).1
      rw [hn] at h4
      exact h4
    have h5 := condW_of h4 (w_not (w_lt w_lit (w_len_list (w_arg rfl))))
    rw [List.length_map] at h5
    refine Nat.le_of_not_lt fun q => ?_
    have q' : (n : Int) < ((ns.length : Nat) : Int) := by omega
    first
      | (rw [decide_eq_true q'] at h5; exact absurd h5 (by decide))
      | (simp at h5; omega)
  cases hwl with
  | cons w1 w2 =>
    cases w2
    cases w1 with
    | list ho hall => exact ⟨_, _, ns, rfl, rfl, ho, ints_of_wellAll ns _ hall, hlen⟩

theorem post_true (l : OpenLaw) (args : List WData) : l.row.toRowW.claim.post args (.bool true) args = true :=
  postW_of (r := l.row.toRowW) (X := (true == true))
    (show WShape.has [] (.bool true) .bool = true by first | rfl | decide | simp [WShape.has, WShape.arms, WShape.armsAll])
    (show (WTm.eq .res (.lit (.bool true))).value [] { args := args, res := some (.bool true), after := args } = some (.bool (true == true)) from w_eq_bool (w_res rfl) w_lit) rfl

/-! ### the attachment: holds_open's last premise (the goal 'hc' behind k_head) from a wpAny of the law's body -/
/-- the same from a codeAny of the CALL (for a layer whose function contracts speak of calls) -/
theorem attach_call {l : OpenLaw} {n : Nat} {q : Program} {loose : List Str} {XP : (Str → Option Value) → Heap → Prop} {YP : World → Heap → Prop} {d : DefRec}
    (hn : l.most = some n) (hdf : d.params.defaults = [])
    (call : ∀ (w : World) (s₀ s₁ : Shared) (mg mb : Str → Option Value) (fa : Addr) (o : Obj) (pm cd doc : Value) (a : Addr) (vs : List Value) (ns : List Int),
      Ground q loose [] XP w s₀ mg mb s₁.heap → YP w s₁.heap →
      s₁.heap.get? fa = some o → o.data = .func (docDef d.name d.params d.body d.scope pm cd doc) → s₁.heap.CodeRec cd d.name → mg d.name = some (.ref fa) →
      s₁.heap.get? a = some { cls := .type "list", data := .seq vs.toArray } → IntsAre vs ns → ns.length ≤ n → s₁.gens = #[] →
      codeAny (model l.prog w) callerA (.call (.ref fa) ⟨[.ref a], []⟩) (fun r s' => r = .ok (.ret (.bool true)) ∧ OldK s₁.heap s'.heap ∧ s'.os = s₁.os ∧ AllBare s'.gens) s₁) :
    WalkO q loose XP YP l.row.toRowW d [] (fun f vs => PySem.call f vs) := by
  intro w s₀ s₁ mg mb G Y fa o pm cd doc dV kV ho hd hcd hD hmg hg args vals as hpre hlay hrd hwl hlo
  obtain rfl : dV = .none := Dflts.none hD hdf
  obtain rfl : kV = .none := Dflts.noKw hD
  obtain ⟨a, vs, ns, rfl, rfl, hobj, hints, hlen⟩ := script_of hn hpre hwl
  refine enter_call (codeAny_mono (call w s₀ s₁ mg mb fa o pm cd doc a vs ns G Y ho (fd_plain hd) hcd hmg hobj hints hlen hg) fun r s' hq => ?_)
  obtain ⟨rfl, h2, h3, h4⟩ := hq
  exact ⟨.inl ⟨.bool true, .bool true, [], rfl, fun _ => rfl, .bool true, post_true l _, fun _ => ⟨List.Pairwise.nil, fun _ hm => (nomatch hm)⟩⟩, h2, h3, h4⟩

/-! ### rules over ANY heap (no ledger) from facts about the written part K: the library's own take a ledger (News) for what they write -/
section
variable {prog : Program} {w : World} {A : Around} {E : Value → Shared → Prop} {s : Shared} {K : Frag}

/-! the whole heap as the ledger: makes every rule that writes through a ledger a rule over any heap -/
end
end Att

namespace L2
open PySem PySem.Spec PyProof.Rows

theorem vals_ints : ∀ {vs : List Value} {ns : List Int}, IntsAre vs ns → Vals (ns.map V.int) vs
  | _, _, .nil => .nil
  | _, _, .cons n t h => .cons ⟨t, rfl⟩ (vals_ints h)

/-- nothing is tracked but the script, known to the object (or it is an object of the module) -/
def Only (H : Hp) : Prop := ∀ b, H b = none ∨ ∃ o xs, H b = some (.frz o (.lst xs))

/-- THE HEAD: the law's promise, at the heap behind the top. F, the promise of the law's def, may use that base is part of the heap (so K.In base, base.Ns mainGlobals mg stand in Mod) -/
theorem law_call {P : Program} {w : World} {K : PySem.W.Frag} {mg mb : Str → Option Value} {CX : CXT} {k : Nat} {fa a : Addr} {fd : FuncData} {x : Str} {sp : Sp} {s₁ : Shared} {vs : List Value} {ns : List Int}
    (KX : K.In s₁.heap) (hns : s₁.heap.Ns mainGlobals mg) (hb : s₁.heap.Ns builtinsNs mb) (hbb : ∀ x : Str, x ≠ "__name__" → mb x = bootBuiltins x) (hlim : s₁.heap.NoLimit) (hg : s₁.gens = #[])
    (ha : s₁.heap.get? a = some { cls := .type "list", data := .seq vs.toArray }) (hi : IntsAre vs ns) (hl : ns.length ≤ sizeLine) (hr : Room k callerA)
    (F : ∀ base : Heap, K.In base → base.Ns mainGlobals mg → FnOk P w K mg base CX k fa fd [x] sp) (hbind : ∀ (s : Shared) (u : Value), BindsTo s fd ⟨[u], []⟩ [(x, u)])
    (hsp : ∀ H : Hp, Only H → SqL K H a (ns.map V.int) → sp [.ref a] H (fun v _ => v = .bl true) fun _ _ _ => False)
    (hCX : ∀ H e s', CX [] H s₁ (fun _ _ _ => False) e s' → False) :
    codeAny (model P w) callerA (.call (.ref fa) ⟨[.ref a], []⟩) (fun r s' => r = .ok (.ret (.bool true)) ∧ OldK s₁.heap s'.heap ∧ s'.os = s₁.os ∧ AllBare s'.gens) s₁ := by
  have rv := vals_ints hi
  have lenV := hi.length
  -- from an abstract heap in which nothing but the script may be tracked
  have core : ∀ H : Hp, Only H → SqL K H a (ns.map V.int) → HOk P w H s₁.heap → (∀ b, H b ≠ none → b = a) → (H a ≠ none → K.lookup a = none) →
      codeAny (model P w) callerA (.call (.ref fa) ⟨[.ref a], []⟩) (fun r s' => r = .ok (.ret (.bool true)) ∧ OldK s₁.heap s'.heap ∧ s'.os = s₁.os ∧ AllBare s'.gens) s₁ := by
    intro H hO hS hok hA hK
    have base_of : ∀ {b : Addr} {o : Obj}, s₁.heap.get? b = some o → H b = none → (hidT s₁.heap H).get? b = some o := fun e n => hidT_get e n
    have noA : ∀ {b : Addr} {o : Obj} {es : Array DictEntry} {ep : Nat}, s₁.heap.get? b = some o → o.data = .dict es ep → H b = none := fun {b o es ep} e d => by
      cases q : H b with
      | none => rfl
      | some u =>
        have e' : b = a := hA b (by rw [q]; simp)
        subst e'
        rw [ha] at e; cases e
        have d' : Data.seq vs.toArray _ = Data.dict es ep := d
        cases d'
    have nsK : ∀ {b : Addr} {m : Str → Option Value}, s₁.heap.Ns b m → (hidT s₁.heap H).Ns b m := fun {b m} ⟨o, es, ep, e, d, r⟩ => ⟨o, es, ep, base_of e (noA e d), d, r⟩
    have hKb : K.In (hidT s₁.heap H) := fun b o e => base_of (KX b o e) (by
      cases q : H b with
      | none => rfl
      | some u =>
        have e' : b = a := hA b (by rw [q]; simp)
        subst e'
        rw [hK (by rw [q]; simp)] at e; cases e)
    have hM : Mod K mg (hidT s₁.heap H) := ⟨hKb, nsK hns, ⟨mb, nsK hb, hbb⟩, let ⟨mc, h1, h2⟩ := hlim; ⟨mc, nsK h1, h2⟩⟩
    have e0 : Env0 P w K mg (hidT s₁.heap H) callerA [] s₁ H := ⟨rfl, hM, fun b o e => of_hidT e, Nat.le_of_eq (hidT_size _ _), trivial, fun b hb => absurd (show b ∈ ([] : List Addr) from hb) (by simp), hok, .of_eq hg⟩
    refine codeAny_mono ((F _ hKb (nsK hns)).run callerA [] s₁ H ⟨[.ref a], []⟩ [.ref a] [.ref a] _ _ hr e0 (hbind s₁ (.ref a)) (.cons rfl .nil) (hsp H hO hS)) fun r s' h => ?_
    cases r with
    | error e => exact (hCX H e s' h).elim
    | ok fl =>
      cases fl with
      | next => exact False.elim h
      | brk => exact False.elim h
      | cont => exact False.elim h
      | ret u =>
        obtain ⟨v, H', os, bare, un, hok', r', q⟩ := h
        have q' : v = .bl true := q
        subst q'
        obtain rfl : u = Value.bool true := r'
        refine ⟨rfl, OldK.of_keep fun b o e => ?_, os, bare⟩
        cases q : H b with
        | none => exact un.keep b o e q (by intro z; exact absurd (show b ∈ ([] : List Addr) from z) (by simp)) (by simp)
        | some u =>
          rcases hO b with z | ⟨ob, xs, z⟩
          · rw [q] at z; cases z
          · have z2 := un.frzs b ob _ z
            obtain ⟨e1, _⟩ := hok b _ z
            obtain ⟨e2, _⟩ := hok' b _ z2
            rw [e] at e1; cases e1
            exact e2
  cases hk : K.lookup a with
  | some o =>
    -- the script is one of the module's own objects
    have e := KX a o hk
    rw [ha] at e
    cases e
    refine core (fun _ => none) (fun _ => .inl rfl) (.inr ⟨_, vs.toArray, _, hk, rfl, rfl, rfl, by rw [List.size_toArray, lenV]; exact hl, by simpa using rv⟩) (fun b u z => by have z' : (none : Option HO) = some u := z; cases z') (fun b z => absurd rfl z) fun z => absurd rfl z
  | none =>
    refine core (fun b => if b = a then some (.frz { cls := .type "list", data := .seq vs.toArray } (.lst (ns.map V.int))) else none) (fun b => ?_) (.inl (.inr ⟨{ cls := .type "list", data := .seq vs.toArray }, if_pos rfl⟩)) (fun b u z => ?_) (fun b z => ?_) fun _ => hk
    · by_cases hb : b = a
      · exact .inr ⟨_, _, if_pos hb⟩
      · exact .inl (if_neg hb)
    · by_cases hb : b = a
      · have z' := (if_pos hb).symm.trans z
        cases z'
        subst hb
        exact ⟨ha, by rw [List.length_map]; exact hl, vs, _, rv, ha⟩
      · have z' := (if_neg hb).symm.trans z
        cases z'
    · by_cases hb : b = a
      · exact hb
      · exact absurd (if_neg hb) z
end L2

namespace L2
open PySem PySem.Spec PyProof.Rows

/-- the goal that k_head leaves (case hc), from the law's promise. F gives the function object fd (K's own) once, then the promise over every base -/
theorem walk_of {l : PySem.W.OpenLaw} {n k : Nat} {q : Program} {loose : List Str} {XP : (Str → Option Value) → Heap → Prop} {YP : World → Heap → Prop} {d : DefRec} {K : Params → PySem.W.Frag} {CX : World → CXT} {sp : World → Sp} {x : Str}
    (hn : l.most = some n) (hn2 : n ≤ sizeLine) (hdf : d.params.defaults = []) (hr : Room k callerA)
    (hY : ∀ (w : World) (h : Heap), YP w h → (K w.params).In h)
    (F : ∀ (w : World) (mg : Str → Option Value) (fa : Addr) (h : Heap), (K w.params).In h → h.Ns mainGlobals mg → mg d.name = some (.ref fa) →
      ∃ fd : FuncData, (∀ (s : Shared) (u : Value), BindsTo s fd ⟨[u], []⟩ [(x, u)]) ∧
        ∀ base : Heap, (K w.params).In base → base.Ns mainGlobals mg → FnOk l.prog w (K w.params) mg base (CX w) k fa fd [x] (sp w))
    (hsp : ∀ (w : World) (H : Hp) (a : Addr) (ns : List Int), ns.length ≤ n → Only H → SqL (K w.params) H a (ns.map V.int) → sp w [.ref a] H (fun v _ => v = .bl true) fun _ _ _ => False)
    (hCX : ∀ (w : World) (H : Hp) (s : Shared) (e : Value) (s' : Shared), CX w [] H s (fun _ _ _ => False) e s' → False) :
    PySem.W.WalkO q loose XP YP l.row.toRowW d [] (fun f vs => PySem.call f vs) := by
  refine Att.attach_call hn hdf fun w s₀ s₁ mg mb fa o pm cd doc a vs ns G Y ho hd hcd hmg hobj hints hlen hg => ?_
  have KX := hY w _ Y
  obtain ⟨fd, hb, hF⟩ := F w mg fa _ KX G.T.g hmg
  exact law_call KX G.T.g G.T.b G.T.builtins G.T.nolimit hg hobj hints (Nat.le_trans hlen hn2) hr hF hb (fun H hO hS => hsp w H a ns hlen hO hS) fun H e s' => hCX w H s₁ e s'
end L2



/-! SHORT WORDS over the layer: a def of the text, its body, what a loop and a test want. -/
namespace L2
open PySem PySem.Spec PyProof.Rows

/-! ### the text by places -/
def defArgs (s : Stmt) : Arguments := match s with
  | .FunctionDef _ a _ _ _ _ _ _ _ _ => a
  | _ => { posonlyargs := [], args := [], vararg := none, kwonlyargs := [], kw_defaults := [], kwarg := none, defaults := [] }
def defBody (s : Stmt) : List Stmt := match s with
  | .FunctionDef _ _ b _ _ _ _ _ _ _ => b
  | _ => []
def defScope (s : Stmt) : Scope := match s with
  | .FunctionDef _ _ _ _ _ _ sc _ _ _ => sc
  | _ => { kind := .function, names := [], isGenerator := false, isCoroutine := false }

/-! ### no exception leaves a def -/
abbrev CX0 : CXT := fun _ _ _ _ _ _ => False
abbrev E0 : XK := fun _ _ _ => False
theorem pass0 {X : Cx} : Passes CX0 X E0 := fun _ _ _ _ _ _ _ h => h.elim

/-! ### a def (or method) of the text as it stands behind the top -/
structure Fun (K : PySem.W.Frag) (x qual : Str) (st : Stmt) (f : Addr) (fd : FuncData) : Prop where
  ex : ∃ (oc : Value) (od : Option Addr) (kV doc pm : Value) (an : Option Addr) (cdv ct : Value) (osl : Array (Option Value)),
    fd = PySem.W.fnOf x qual (defArgs st) (defBody st) (defScope st) .none kV doc pm an cdv ct ∧ K.lookup f = some ⟨oc, od, .func fd, osl⟩ ∧ PySem.W.codeIn K cdv qual = true
  kp : PySem.W.keepIn K (.ref f) = true
section
variable {P : Program} {w : World} {K : PySem.W.Frag} {mg : Str → Option Value} {base : Heap}
/-- THE RULE for a def: its body as a term of rules, and the reading of that term -/
theorem Fun.ok {x qual : Str} {st : Stmt} {f : Addr} {fd : FuncData} {N ps : List Str} {k : Nat} {sp : Sp} (F : Fun K x qual st f fd) (S : FnScope N ps (defScope st)) (len : ∀ vs H Q E, sp vs H Q E → vs.length = ps.length)
    (hbody : ∀ (cdv : Value) (A : Around) (outer : List Env) (s : Shared) (H : Hp) (vs : List V) (Q : VK) (E : XK), Room k (A.deeper (envOfC qual (defScope st) s.heap.objs.size f cdv)) → sp vs H Q E →
      ∃ t, PSs (cxOf CX0 P w K mg base N qual (defScope st) f cdv A outer s H E).nox (defBody st) t ∧ t { nx := fun _ H' => Q .non H', rt := Q } (start N vs) H) : FnOk P w K mg base CX0 (k + 1) f fd ps sp := by
  obtain ⟨oc, od, kV, doc, pm, an, cdv, ct, osl, rfl, lk, hcd⟩ := F.ex
  refine fn_of lk hcd S len fun A outer s H vs Q E hr hsp => ?_
  obtain ⟨t, h, q⟩ := hbody cdv A outer s H vs Q E hr hsp
  exact ⟨t, h.nox, q⟩
/-- how its arguments bind (no defaults): h is «fun _ _ _ _ _ _ us hl => match us, hl with | [_, _], _ => rfl», one _ a parameter -/
theorem Fun.binds {x qual : Str} {st : Stmt} {f : Addr} {fd : FuncData} {ps : List Str} (F : Fun K x qual st f fd)
    (h : ∀ (kV doc pm : Value) (an : Option Addr) (cdv ct : Value) (us : List Value), us.length = ps.length → bindArgs (PySem.W.fnOf x qual (defArgs st) (defBody st) (defScope st) .none kV doc pm an cdv ct) ⟨us, []⟩ = pure (ps.zip us)) : Binds K fd ps [] := by
  obtain ⟨oc, od, kV, doc, pm, an, cdv, ct, osl, rfl, lk, hcd⟩ := F.ex
  exact .all (h kV doc pm an cdv ct)
theorem fun_mk {x qual : Str} {st : Stmt} {f : Addr} {oc : Value} {od an : Option Addr} {osl : Array (Option Value)} {kV doc pm cdv ct : Value} (l : K.lookup f = some ⟨oc, od, .func (PySem.W.fnOf x qual (defArgs st) (defBody st) (defScope st) .none kV doc pm an cdv ct), osl⟩)
    (c : PySem.W.codeIn K cdv qual = true) (k : PySem.W.keepIn K (.ref f) = true) : Fun K x qual st f (PySem.W.fnOf x qual (defArgs st) (defBody st) (defScope st) .none kV doc pm an cdv ct) := ⟨⟨oc, od, kV, doc, pm, an, cdv, ct, osl, rfl, l, c⟩, k⟩
end
theorem hu_of {A : Around} {k : Nat} (hr : Room k A) : A.units + 1 < cLine := Nat.lt_of_le_of_lt (Nat.add_le_add_left (by decide : 1 ≤ 64) _) hr.units
/-! ### expressions in short: the name that stands in the i-th slot -/
section
variable {X : Cx}
theorem pv (i : Nat) {x : Str} {pos : Pos} (hN : X.N[i]? = some x := by rfl) (hv : Vis X.env.scope x := by first | exact Or.inl rfl | exact Or.inr (Or.inl rfl) | exact Or.inr (Or.inr rfl)) (hd : (x == ("__debug__" : Str)) = false := by decide)
    (hcd : (x == ("__classdict__" : Str)) = false := by decide) : PE X (.Name x pos) (tVar i) := pe_var hN hv hd hcd
end

/-! ### tests -/
theorem iteF {A B : Prop} (h : B) : if false = true then A else B := by
  rw [if_neg Bool.false_ne_true]
  exact h
theorem iteT {A B : Prop} (h : A) : if true = true then A else B := by
  rw [if_pos rfl]
  exact h
theorem iteNS {c A B : Prop} [Decidable c] (hc : c) (h : B) : if (!decide c) = true then A else B := by
  rw [decide_eq_true hc]
  exact iteF h

/-! ### heaps -/
/-- all that was tracked is as it was -/
def Same (H H' : Hp) : Prop := ∀ b o, H b = some o → H' b = some o
theorem Same.refl (H : Hp) : Same H H := fun _ _ h => h
theorem Same.trans {H H1 H2 : Hp} (a : Same H H1) (b : Same H1 H2) : Same H H2 := fun c o h => b c o (a c o h)
theorem Same.free {H H' : Hp} (e : Same H H') {l : Addr} (h : H' l = Option.none) : H l = Option.none := by
  cases q : H l with
  | none => rfl
  | some o =>
    rw [e l o q] at h
    cases h
theorem Same.seq {K : PySem.W.Frag} {H H' : Hp} {a : Addr} {xs : List V} (e : Same H H') (h : SqL K H a xs) : SqL K H' a xs := by
  rcases h with (h | ⟨o, h⟩) | h
  · exact .inl (.inl (e _ _ h))
  · exact .inl (.inr ⟨o, e _ _ h⟩)
  · exact .inr h

section
variable {X : Cx}
end
/-! ### a dict's pairs: keys that differ -/
section
variable {κ : Type} [DecidableEq κ]
end
end L2


section
namespace RF
/-! ### long division, the rests -/
def rst (b q r : Int) : Nat → Int
  | 0 => r
  | n + 1 => rst b q r n * b % q
def fig (b q r : Int) (i : Nat) : Int := rst b q r i * b / q
theorem rst_bd {b q r : Int} (hq : 0 < q) (h0 : 0 ≤ r) (h1 : r < q) : ∀ i, 0 ≤ rst b q r i ∧ rst b q r i < q
  | 0 => ⟨h0, h1⟩
  | i + 1 => ⟨Int.emod_nonneg _ (by omega), Int.emod_lt_of_pos _ hq⟩
theorem php : ∀ (m n : Nat) (f : Nat → Nat), (∀ i, i < n → f i < m) → (∀ i j, i < j → j < n → f i ≠ f j) → n ≤ m
  | 0, n, f, h, _ => by
    cases n with
    | zero => exact Nat.le_refl _
    | succ n => exact absurd (h 0 (by omega)) (by omega)
  | m + 1, 0, _, _, _ => Nat.zero_le _
  | m + 1, n + 1, f, h, d => by
    have hn := h n (by omega)
    by_cases e : f n = m
    · have := php m n f (fun i hi => by
        have h1 := h i (by omega)
        have h2 := d i n hi (by omega)
        omega) (fun i j a c => d i j a (by omega))
      omega
    · have := php m n (fun i => if f i = m then f n else f i) (fun i hi => by
        have h1 := h i (by omega)
        split <;> omega) (fun i j a c => by
          have h1 := d i j a (by omega)
          have h2 := d i n (by omega) (by omega)
          have h3 := d j n (by omega) (by omega)
          split <;> split <;> omega)
      omega
/-- all rests below n are fresh and no nought -/
structure Fresh (b q r : Int) (n : Nat) : Prop where
  nz : ∀ i, i < n → rst b q r i ≠ 0
  ne : ∀ i j, i < j → j < n → rst b q r i ≠ rst b q r j
theorem Fresh.zero {b q r : Int} : Fresh b q r 0 := ⟨fun _ h => absurd h (by omega), fun _ _ _ h => absurd h (by omega)⟩
theorem Fresh.succ {b q r : Int} {n : Nat} (F : Fresh b q r n) (h0 : rst b q r n ≠ 0) (h : ∀ i, i < n → rst b q r i ≠ rst b q r n) : Fresh b q r (n + 1) :=
  ⟨fun i hi => by
    by_cases e : i = n
    · rw [e]; exact h0
    · exact F.nz i (by omega),
   fun i j a c => by
    by_cases e : j = n
    · rw [e] at a ⊢; exact h i a
    · exact F.ne i j a (by omega)⟩
theorem Fresh.lt {b q r : Int} {n : Nat} (hq : 0 < q) (h0 : 0 ≤ r) (h1 : r < q) (F : Fresh b q r n) : n < q.toNat := by
  have := php (q.toNat - 1) n (fun i => (rst b q r i).toNat - 1) (fun i hi => by
      have a := rst_bd (b := b) hq h0 h1 i
      have c := F.nz i hi
      omega) (fun i j a c => by
      have x := rst_bd (b := b) hq h0 h1 i
      have y := rst_bd (b := b) hq h0 h1 j
      have z := F.ne i j a c
      have u := F.nz i (by omega)
      have v := F.nz j (by omega)
      omega)
  omega
def figs (b q r : Int) (k n : Nat) : List Int := (List.range n).map fun i => fig b q r (k + i)
theorem figs_length {b q r : Int} {k n : Nat} : (figs b q r k n).length = n := by simp [figs]
theorem figs_succ {b q r : Int} {k n : Nat} : figs b q r k (n + 1) = figs b q r k n ++ [fig b q r (k + n)] := by
  simp [figs, List.range_succ]
theorem figs_take {b q r : Int} {k n : Nat} (h : k ≤ n) : (figs b q r 0 n).take k = figs b q r 0 k := by
  apply List.ext_getElem
  · simp [figs]; omega
  · intro i h1 h2
    simp [figs]
theorem figs_drop {b q r : Int} {k n : Nat} : (figs b q r 0 n).drop k = figs b q r k (n - k) := by
  apply List.ext_getElem
  · simp [figs]
  · intro i h1 h2
    simp [figs]
/-- what long division tells -/
def DivIs (b t q w : Int) (a g : List Int) : Prop :=
  w = t / q ∧ ∃ n, Fresh b q (t % q) n ∧
    ((rst b q (t % q) n = 0 ∧ a = figs b q (t % q) 0 n ∧ g = []) ∨
     ∃ k, k < n ∧ rst b q (t % q) n ≠ 0 ∧ rst b q (t % q) k = rst b q (t % q) n ∧ a = figs b q (t % q) 0 k ∧ g = figs b q (t % q) k (n - k))
end RF

end
section
namespace RF
/-! ### numbers of figures -/
def num (b : Int) (l : List Int) : Int := l.foldl (fun n d => n * b + d) 0
theorem num_foldl (b : Int) : ∀ (l : List Int) (n : Int), l.foldl (fun n d => n * b + d) n = n * b ^ l.length + num b l
  | [], n => by simp [num]
  | d :: l, n => by
    have h1 := num_foldl b l (n * b + d)
    have h2 := num_foldl b l (0 * b + d)
    simp only [num, List.foldl_cons, List.length_cons, Int.pow_succ] at *
    rw [h1, h2]
    grind
theorem num_nil (b : Int) : num b [] = 0 := rfl
theorem num_cons (b d : Int) (l : List Int) : num b (d :: l) = d * b ^ l.length + num b l := by
  show l.foldl (fun n d => n * b + d) (0 * b + d) = _
  rw [num_foldl]; simp
theorem num_append (b : Int) (l m : List Int) : num b (l ++ m) = num b l * b ^ m.length + num b m := by
  unfold num
  rw [List.foldl_append, num_foldl]; rfl
theorem num_snoc (b d : Int) (l : List Int) : num b (l ++ [d]) = num b l * b + d := by
  rw [num_append, num_cons]
  simp only [num_nil, List.length_cons, List.length_nil]
  grind
abbrev Figs (b : Int) (l : List Int) : Prop := ∀ d, d ∈ l → 0 ≤ d ∧ d < b
theorem pow_pos {b : Int} (hb : 0 < b) : ∀ n : Nat, 0 < b ^ n
  | 0 => by simp
  | n + 1 => by rw [Int.pow_succ]; exact Int.mul_pos (pow_pos hb n) hb
theorem num_bd {b : Int} (hb : 0 < b) : ∀ {l : List Int}, Figs b l → 0 ≤ num b l ∧ num b l < b ^ l.length
  | [], _ => by simp [num]
  | d :: l, h => by
    have ⟨h1, h2⟩ := num_bd hb (l := l) fun x hx => h x (List.mem_cons_of_mem _ hx)
    have ⟨h3, h4⟩ := h d List.mem_cons_self
    have hp := pow_pos hb l.length
    rw [num_cons, List.length_cons, Int.pow_succ]
    constructor
    · have := Int.mul_nonneg h3 (Int.le_of_lt hp); omega
    · have h5 : (d + 1) * b ^ l.length ≤ b * b ^ l.length := Int.mul_le_mul_of_nonneg_right (by omega) (Int.le_of_lt hp)
      grind
/-! ### rotations -/
/-- top and bottom of a writing's worth -/
def rM (b : Int) (g : List Int) : Int := if g = [] then 1 else b ^ g.length - 1
def wB (b : Int) (a g : List Int) : Int := b ^ a.length * rM b g
def wT (b w : Int) (a g : List Int) : Int := w * wB b a g + (num b a * rM b g + num b g)
theorem rM_ne (b : Int) {g : List Int} (h : g ≠ []) : rM b g = b ^ g.length - 1 := by simp [rM, h]
theorem rM_pos {b : Int} (hb : 2 ≤ b) (g : List Int) : 0 < rM b g := by
  cases g with
  | nil => simp [rM]
  | cons x l =>
    rw [rM_ne b (by simp), List.length_cons, Int.pow_succ]
    have h1 := pow_pos (b := b) (by omega) l.length
    have h2 : b ^ l.length * 2 ≤ b ^ l.length * b := Int.mul_le_mul_of_nonneg_left hb (Int.le_of_lt h1)
    omega
theorem wB_pos {b : Int} (hb : 2 ≤ b) (a g : List Int) : 0 < wB b a g := Int.mul_pos (pow_pos (by omega) _) (rM_pos hb g)
end RF

end
section
namespace RF
/-! ### a plain writing is what long division tells of its worth -/
end RF

end
section
namespace RF
/-! ### what long division tells is plain and is worth the fraction -/
/-! ### lowest terms -/
def low (t q : Int) : Int × Int := (t / (Int.gcd t q : Nat), q / (Int.gcd t q : Nat))
theorem low_pos {T B : Int} (hB : 0 < B) : 0 < (low T B).2 := by
  obtain ⟨B1, hB1⟩ := Int.gcd_dvd_right T B
  have p1 : 0 < Int.gcd T B := Int.gcd_pos_of_ne_zero_right _ (by omega)
  show 0 < B / (Int.gcd T B : Nat)
  exact Int.ediv_pos_of_pos_of_dvd hB (by omega) (Int.gcd_dvd_right T B)
/-- cross product with its lowest terms -/
theorem low_mul {T B : Int} (hB : 0 < B) : T * (low T B).2 = (low T B).1 * B := by
  show T * (B / (Int.gcd T B : Nat)) = T / (Int.gcd T B : Nat) * B
  obtain ⟨T1, hT⟩ := Int.gcd_dvd_left T B
  obtain ⟨B1, hB1⟩ := Int.gcd_dvd_right T B
  have p1 : 0 < Int.gcd T B := Int.gcd_pos_of_ne_zero_right _ (by omega)
  generalize (Int.gcd T B) = G at *
  subst hT hB1
  have G0 : (G : Int) ≠ 0 := by omega
  rw [Int.mul_ediv_cancel_left _ G0, Int.mul_ediv_cancel_left _ G0]
  grind
end RF

end
section
namespace RF
/-! ### repeated rings -/
def rep (c : Nat) (h : List Int) : List Int := (List.replicate c h).flatten
theorem rep_succ (c : Nat) (h : List Int) : rep (c + 1) h = h ++ rep c h := by simp [rep, List.replicate_succ]
theorem rep_length (h : List Int) : ∀ c, (rep c h).length = c * h.length
  | 0 => by simp [rep]
  | c + 1 => by rw [rep_succ, List.length_append, rep_length h c, Nat.add_mul]; omega
theorem rep_mem {x : Int} {h : List Int} : ∀ {c}, x ∈ rep c h → x ∈ h
  | 0, m => by simp [rep] at m
  | c + 1, m => by
    rw [rep_succ] at m
    rcases List.mem_append.mp m with m | m
    · exact m
    · exact rep_mem m
/-! ### one worth -/
end RF

end
section
namespace RF
theorem gcd_step (x y : Int) : Int.gcd y (x % y) = Int.gcd x y := by
  have e : x % y = x + (-(x / y)) * y := by
    have := Int.mul_ediv_add_emod x y
    grind
  rw [e, Int.gcd_add_mul_right_right, Int.gcd_comm]
/-- whole numbers leave the lowest terms' bottom -/
theorem low_add {W N B : Int} (hB : 0 < B) : low (W * B + N) B = (W * (B / (Int.gcd N B : Nat)) + N / (Int.gcd N B : Nat), B / (Int.gcd N B : Nat)) := by
  unfold low
  rw [Int.gcd_mul_right_add_left]
  have p1 : 0 < Int.gcd N B := Int.gcd_pos_of_ne_zero_right _ (by omega)
  obtain ⟨N1, hN⟩ := Int.gcd_dvd_left N B
  obtain ⟨B1, hB1⟩ := Int.gcd_dvd_right N B
  generalize (Int.gcd N B) = G at *
  subst hN hB1
  have G0 : (G : Int) ≠ 0 := by omega
  have e : W * (G * B1) + G * N1 = G * (W * B1 + N1) := by grind
  rw [e, Int.mul_ediv_cancel_left _ G0, Int.mul_ediv_cancel_left _ G0, Int.mul_ediv_cancel_left _ G0]
theorem num_take_succ {b : Int} {ns : List Int} {i : Nat} {n : Int} (h : ns[i]? = some n) : num b (ns.take (i + 1)) = num b (ns.take i) * b + n := by
  have hi : i < ns.length := (List.getElem?_eq_some_iff.mp h).1
  have e : ns[i] = n := (List.getElem?_eq_some_iff.mp h).2
  rw [List.take_succ_eq_append_getElem hi, num_snoc, e]
theorem pow_lt {b : Int} (h0 : 0 ≤ b) (h1 : b ≤ 36) : ∀ n : Nat, (b ^ n).natAbs ≤ 2 ^ (6 * n)
  | 0 => by simp
  | n + 1 => by
    have ih := pow_lt h0 h1 n
    rw [Int.pow_succ, Int.natAbs_mul, show 6 * (n + 1) = 6 * n + 6 by omega, Nat.pow_add]
    exact Nat.mul_le_mul ih (by omega)
theorem wN_bd {b : Int} {a g : List Int} (hb : 2 ≤ b) (ha : Figs b a) (hg : Figs b g) : 0 ≤ num b a * rM b g + num b g ∧ num b a * rM b g + num b g ≤ wB b a g := by
  have hbp : (0 : Int) < b := by omega
  have hM := rM_pos hb g
  have ⟨a1, a2⟩ := num_bd hbp ha
  have ⟨g1, g2⟩ := num_bd hbp hg
  have hg3 : num b g ≤ rM b g := by
    by_cases e : g = []
    · subst e; simp [num, rM]
    · rw [rM_ne b e]; omega
  constructor
  · have := Int.mul_nonneg a1 (Int.le_of_lt hM); omega
  · have q3 : (num b a + 1) * rM b g ≤ b ^ a.length * rM b g := Int.mul_le_mul_of_nonneg_right (by omega) (Int.le_of_lt hM)
    unfold wB
    grind
theorem rM_le {b : Int} (hb : 2 ≤ b) (g : List Int) : rM b g ≤ b ^ g.length := by
  by_cases e : g = []
  · subst e; simp [rM]
  · rw [rM_ne b e]; omega
theorem wB_le {b : Int} (hb : 2 ≤ b) (h36 : b ≤ 36) (a g : List Int) : (wB b a g).natAbs ≤ 2 ^ (6 * (a.length + g.length)) := by
  have h1 := rM_le hb g
  have h2 := rM_pos hb g
  have h3 := pow_pos (b := b) (by omega) a.length
  have h4 : (rM b g).natAbs ≤ (b ^ g.length).natAbs := by omega
  unfold wB
  rw [Int.natAbs_mul, Nat.mul_add, Nat.pow_add]
  exact Nat.mul_le_mul (pow_lt (by omega) h36 _) (Nat.le_trans h4 (pow_lt (by omega) h36 _))
end RF

end
section
namespace RF
/-! ### there is a plain writing -/
/-! ### where long division stops -/
def Stop (b q r : Int) (N : Nat) : Prop := rst b q r N = 0 ∨ ∃ k, k < N ∧ rst b q r k = rst b q r N
theorem stop_ex {b q r : Int} (hq : 0 < q) (h0 : 0 ≤ r) (h1 : r < q) : ∃ n, Fresh b q r n ∧ Stop b q r n := by
  refine Classical.byContradiction fun c => ?_
  have all : ∀ n, Fresh b q r n := by
    intro n
    induction n with
    | zero => exact Fresh.zero
    | succ n ih =>
      refine ih.succ (fun z => c ⟨n, ih, .inl z⟩) (fun i hi z => c ⟨n, ih, .inr ⟨i, hi, z⟩⟩)
  have := (all q.toNat).lt hq h0 h1
  omega
end RF

end
section
namespace RF
/-! ### lengths of a bottom -/
theorem rst_closed {b t q : Int} : ∀ i, rst b q (t % q) i = t * b ^ i % q
  | 0 => by
    show t % q = t * b ^ 0 % q
    rw [Int.pow_zero, Int.mul_one]
  | i + 1 => by
    show rst b q (t % q) i * b % q = _
    rw [rst_closed i, Int.pow_succ, ← Int.mul_assoc, Int.mul_emod (t * b ^ i % q), Int.emod_emod_of_dvd _ (Int.dvd_refl q), ← Int.mul_emod]
theorem dvd_cancel {t q x : Int} (h : Int.gcd t q = 1) (d : q ∣ t * x) : q ∣ x := by
  have h1 : q.natAbs ∣ t.natAbs * x.natAbs := by rw [← Int.natAbs_mul]; exact Int.natAbs_dvd_natAbs.mpr d
  have h2 : Nat.Coprime q.natAbs t.natAbs := by
    rw [Nat.coprime_iff_gcd_eq_one, Nat.gcd_comm]; exact h
  exact Int.natAbs_dvd_natAbs.mp (h2.dvd_of_dvd_mul_left h1)
theorem rst_zero_iff {b t q : Int} (h : Int.gcd t q = 1) (i : Nat) : rst b q (t % q) i = 0 ↔ q ∣ b ^ i := by
  rw [rst_closed, ← Int.dvd_iff_emod_eq_zero]
  exact ⟨fun d => dvd_cancel h d, fun d => Int.dvd_trans d (Int.dvd_mul_left _ _)⟩
theorem rst_eq_iff {b t q : Int} (h : Int.gcd t q = 1) (i m : Nat) : rst b q (t % q) (i + m) = rst b q (t % q) i ↔ q ∣ b ^ i * (b ^ m - 1) := by
  rw [rst_closed, rst_closed, Int.emod_eq_emod_iff_emod_sub_eq_zero, ← Int.dvd_iff_emod_eq_zero]
  have e : t * b ^ (i + m) - t * b ^ i = t * (b ^ i * (b ^ m - 1)) := by rw [Int.pow_add]; grind
  rw [e]
  exact ⟨fun d => dvd_cancel h d, fun d => Int.dvd_trans d (Int.dvd_mul_left _ _)⟩
def Len (b q : Int) (k r : Nat) : Prop :=
  (r = 0 ∧ q ∣ b ^ k ∧ ∀ i, i < k → ¬ q ∣ b ^ i) ∨
  (0 < r ∧ (∀ i, ¬ q ∣ b ^ i) ∧ q ∣ b ^ k * (b ^ r - 1) ∧ ∀ i m, 0 < m → q ∣ b ^ i * (b ^ m - 1) → k ≤ i ∧ r ≤ m)
/-! ### what a bottom has in common with the base -/
theorem cop_pow_sub {b m : Nat} (hb : 0 < b) (hm : 0 < m) : Nat.Coprime b (b ^ m - 1) := by
  have h1 : 1 ≤ b ^ m := Nat.pow_pos hb
  have g1 : b.gcd (b ^ m - 1) ∣ b ^ m := Nat.dvd_trans (Nat.gcd_dvd_left _ _) (by obtain ⟨m', rfl⟩ : ∃ m', m = m' + 1 := ⟨m - 1, by omega⟩; rw [Nat.pow_succ]; exact Nat.dvd_mul_left _ _)
  have g2 : b.gcd (b ^ m - 1) ∣ b ^ m - 1 := Nat.gcd_dvd_right _ _
  have g3 := Nat.dvd_sub g1 g2
  rw [show b ^ m - (b ^ m - 1) = 1 by omega] at g3
  exact Nat.dvd_one.mp g3
/-- q = G * left, G of the base's own, left apart from it -/
theorem split_dvd {b G left i m k : Nat} (hb : 0 < b) (hm : 0 < m) (hG : G ∣ b ^ k) (cop : Nat.Coprime left b) : G * left ∣ b ^ i * (b ^ m - 1) ↔ G ∣ b ^ i ∧ left ∣ b ^ m - 1 := by
  have cG : Nat.Coprime G (b ^ m - 1) := ((cop_pow_sub hb hm).pow_left k).coprime_dvd_left hG
  have cL : Nat.Coprime left (b ^ i) := cop.pow_right i
  have cGL : Nat.Coprime G left := (cop.pow_right k).symm.coprime_dvd_left hG
  constructor
  · intro d
    exact ⟨cG.dvd_of_dvd_mul_right (Nat.dvd_trans (Nat.dvd_mul_right _ _) d), cL.dvd_of_dvd_mul_left (Nat.dvd_trans (Nat.dvd_mul_left _ _) d)⟩
  · rintro ⟨d1, d2⟩
    exact cGL.mul_dvd_of_dvd_of_dvd (Nat.dvd_trans d1 (Nat.dvd_mul_right _ _)) (Nat.dvd_trans d2 (Nat.dvd_mul_left _ _))
def left (b q i : Nat) : Nat := q / q.gcd (b ^ i)
theorem left_mul (b q i : Nat) : q.gcd (b ^ i) * left b q i = q := Nat.mul_div_cancel' (Nat.gcd_dvd_left _ _)
theorem len_of {b q k r : Nat} (hb : 2 ≤ b) (hq : 0 < q) (cop : Nat.Coprime (left b q k) b) (mn : ∀ i, i < k → ¬ Nat.Coprime (left b q i) b)
    (hr : (left b q k = 1 ∧ r = 0) ∨ (1 < left b q k ∧ 0 < r ∧ left b q k ∣ b ^ r - 1 ∧ ∀ m, 0 < m → m < r → ¬ left b q k ∣ b ^ m - 1)) : Len (b : Int) q k r := by
  have hG : q.gcd (b ^ k) ∣ b ^ k := Nat.gcd_dvd_right _ _
  have e := left_mul b q k
  -- G goes into no smaller power
  have low : ∀ i, q.gcd (b ^ k) ∣ b ^ i → k ≤ i := fun i d => Nat.le_of_not_lt fun l => by
    have h1 : q.gcd (b ^ k) ∣ q.gcd (b ^ i) := Nat.dvd_gcd (Nat.gcd_dvd_left _ _) d
    have h2 : q.gcd (b ^ i) ∣ q.gcd (b ^ k) := Nat.dvd_gcd (Nat.gcd_dvd_left _ _) (Nat.dvd_trans (Nat.gcd_dvd_right _ _) (Nat.pow_dvd_pow b (Nat.le_of_lt l)))
    have h3 := Nat.dvd_antisymm h2 h1
    apply mn i l
    unfold left at cop ⊢
    rw [h3]; exact cop
  have toN : ∀ i m, 0 < m → ((q : Int) ∣ (b : Int) ^ i * ((b : Int) ^ m - 1) ↔ q ∣ b ^ i * (b ^ m - 1)) := fun i m hm => by
    have h1 : 1 ≤ b ^ m := Nat.pow_pos (by omega)
    have : (b : Int) ^ i * ((b : Int) ^ m - 1) = ((b ^ i * (b ^ m - 1) : Nat) : Int) := by
      rw [Int.natCast_mul, Int.natCast_pow, Int.natCast_sub h1, Int.natCast_pow]; rfl
    rw [this, Int.natCast_dvd_natCast]
  have toP : ∀ i, ((q : Int) ∣ (b : Int) ^ i ↔ q ∣ b ^ i) := fun i => by rw [← Int.natCast_pow, Int.natCast_dvd_natCast]
  rcases hr with ⟨h1, rfl⟩ | ⟨h1, h0, hd, hm⟩
  · rw [h1, Nat.mul_one] at e
    refine .inl ⟨rfl, (toP k).mpr (by rw [e] at hG; exact hG), fun i hi d => ?_⟩
    have d := (toP i).mp d
    have := low i (by rw [e]; exact d)
    omega
  · refine .inr ⟨h0, fun i d => ?_, (toN k r h0).mpr ?_, fun i m m0 d => ?_⟩
    · have d := (toP i).mp d
      have d2 : left b q k ∣ b ^ i := Nat.dvd_trans (by conv => rhs; rw [← e]
                                                        exact Nat.dvd_mul_left _ _) d
      have := (cop.pow_right i).eq_one_of_dvd d2
      omega
    · conv => lhs; rw [← e]
      exact (split_dvd (by omega) h0 hG cop).mpr ⟨hG, hd⟩
    · have d := (toN i m m0).mp d
      rw [← e] at d
      obtain ⟨d1, d2⟩ := (split_dvd (by omega) m0 hG cop).mp d
      refine ⟨low i d1, Nat.le_of_not_lt fun l => hm m m0 l d2⟩
/-- as long as something is in common, less is left at the next power -/
theorem left_lt {b q i : Nat} (hq : 0 < q) (h : ¬ Nat.Coprime (left b q i) b) : left b q (i + 1) < left b q i := by
  have e := left_mul b q i
  have e' := left_mul b q (i + 1)
  have g0 : 0 < q.gcd (b ^ i) := Nat.gcd_pos_of_pos_left _ hq
  have l0 : 0 < left b q i := Nat.pos_of_ne_zero fun z => by rw [z] at e; omega
  have d0 : 0 < (left b q i).gcd b := Nat.gcd_pos_of_pos_left _ l0
  have d1 : 1 < (left b q i).gcd b := by
    have : (left b q i).gcd b ≠ 1 := h
    omega
  have hd : q.gcd (b ^ i) * (left b q i).gcd b ∣ q.gcd (b ^ (i + 1)) := by
    refine Nat.dvd_gcd ?_ ?_
    · conv => rhs; rw [← e]
      exact Nat.mul_dvd_mul_left _ (Nat.gcd_dvd_left _ _)
    · rw [Nat.pow_succ]
      exact Nat.mul_dvd_mul (Nat.gcd_dvd_right _ _) (Nat.gcd_dvd_right _ _)
  have hle := Nat.le_of_dvd (Nat.gcd_pos_of_pos_left _ hq) hd
  refine Nat.lt_of_not_le fun c => ?_
  have h1 : q.gcd (b ^ i) * (left b q i).gcd b * left b q i ≤ q.gcd (b ^ (i + 1)) * left b q (i + 1) := Nat.mul_le_mul hle c
  rw [e'] at h1
  have h2 : q.gcd (b ^ i) * left b q i * 2 ≤ q.gcd (b ^ i) * (left b q i).gcd b * left b q i := by
    rw [Nat.mul_assoc, Nat.mul_assoc]
    refine Nat.mul_le_mul_left _ ?_
    rw [Nat.mul_comm]
    exact Nat.mul_le_mul_right _ d1
  rw [e] at h2
  omega
end RF

end
section
namespace RF
/-! ### the order of the base -/
theorem pow_mod_iff {b L m : Nat} (hb : 0 < b) (hL : 1 < L) : b ^ m % L = 1 ↔ L ∣ b ^ m - 1 := by
  have h1 : 1 ≤ b ^ m := Nat.pow_pos hb
  constructor
  · intro e
    have := Nat.div_add_mod (b ^ m) L
    rw [e] at this
    exact ⟨b ^ m / L, by omega⟩
  · rintro ⟨c, hc⟩
    have : b ^ m = 1 + L * c := by omega
    rw [this, Nat.add_mul_mod_self_left]
    exact Nat.mod_eq_of_lt hL
theorem order_ex {b L : Nat} (hb : 0 < b) (hL : 1 < L) (cop : Nat.Coprime L b) : ∃ N, 0 < N ∧ N < L ∧ L ∣ b ^ N - 1 := by
  have hq : (0 : Int) < (L : Int) := by omega
  obtain ⟨n, F, s⟩ := stop_ex (b := (b : Int)) hq (Int.emod_nonneg 1 (by omega)) (Int.emod_lt_of_pos 1 hq)
  have hn := F.lt hq (Int.emod_nonneg 1 (by omega)) (Int.emod_lt_of_pos 1 hq)
  have g1 : Int.gcd 1 (L : Int) = 1 := by simp
  rcases s with z | ⟨k, hk, e⟩
  · have d := (rst_zero_iff (b := (b : Int)) g1 n).mp z
    rw [← Int.natCast_pow, Int.natCast_dvd_natCast] at d
    have := (cop.pow_right n).eq_one_of_dvd d
    omega
  · have d := (rst_eq_iff (b := (b : Int)) g1 k (n - k)).mp (by rw [show k + (n - k) = n by omega]; exact e.symm)
    have h1 : 1 ≤ b ^ (n - k) := Nat.pow_pos hb
    have e2 : (b : Int) ^ k * ((b : Int) ^ (n - k) - 1) = ((b ^ k * (b ^ (n - k) - 1) : Nat) : Int) := by
      rw [Int.natCast_mul, Int.natCast_pow, Int.natCast_sub h1, Int.natCast_pow]; rfl
    rw [e2, Int.natCast_dvd_natCast] at d
    exact ⟨n - k, by omega, by omega, (cop.pow_right k).dvd_of_dvd_mul_left d⟩
/-! ### prime numbers -/
/-! ### rings of primes -/
end RF

end
section
namespace RF
/-! ### the figure at a place; a figure further -/
end RF

end
section
namespace RF
end RF

end
section
namespace RF
/-- one power more takes away once more what is in common -/
theorem left_succ {b q i : Nat} (hq : 0 < q) : left b q (i + 1) = left b q i / (left b q i).gcd b := by
  have e := left_mul b q i
  have g0 : 0 < q.gcd (b ^ i) := Nat.gcd_pos_of_pos_left _ hq
  obtain ⟨c, hc⟩ : q.gcd (b ^ i) ∣ b ^ i := Nat.gcd_dvd_right _ _
  have cop : Nat.Coprime (left b q i) c := by
    have h1 : q.gcd (b ^ i) * (left b q i).gcd c = q.gcd (b ^ i) * 1 := by
      rw [← Nat.gcd_mul_left, e, ← hc, Nat.mul_one]
    exact Nat.eq_of_mul_eq_mul_left g0 h1
  have h2 : q.gcd (b ^ (i + 1)) = q.gcd (b ^ i) * (left b q i).gcd b := by
    have h3 : q.gcd (b ^ (i + 1)) = (q.gcd (b ^ i) * left b q i).gcd (q.gcd (b ^ i) * (c * b)) := by
      rw [e, ← Nat.mul_assoc, ← hc, Nat.pow_succ]
    rw [h3, Nat.gcd_mul_left, cop.symm.gcd_mul_left_cancel_right]
  show q / q.gcd (b ^ (i + 1)) = q / q.gcd (b ^ i) / (left b q i).gcd b
  rw [h2, Nat.div_div_eq_div_mul]
/-! ### powers by squaring -/
theorem emod_pow (x q : Int) : ∀ n : Nat, (x % q) ^ n % q = x ^ n % q
  | 0 => by rw [Int.pow_zero, Int.pow_zero]
  | n + 1 => by
    rw [Int.pow_succ, Int.pow_succ, Int.mul_emod, emod_pow x q n, Int.emod_emod_of_dvd _ (Int.dvd_refl _), ← Int.mul_emod]
theorem emod_mul_l (x y q : Int) : x % q * y % q = x * y % q := by
  rw [Int.mul_emod, Int.emod_emod_of_dvd _ (Int.dvd_refl _), ← Int.mul_emod]
theorem emod_mul_r (x y q : Int) : x * (y % q) % q = x * y % q := by
  rw [Int.mul_emod, Int.emod_emod_of_dvd _ (Int.dvd_refl _), ← Int.mul_emod]
theorem sq_even {r s q : Int} (c : Nat) : r * (s * s % q) ^ c % q = r * s ^ (2 * c) % q := by
  rw [← emod_mul_r, emod_pow, emod_mul_r, Int.pow_mul]
  congr 3
  rw [show (2 : Nat) = 1 + 1 from rfl, Int.pow_succ, Int.pow_succ, Int.pow_zero, Int.one_mul]
theorem sq_odd {r s q : Int} (c : Nat) : r * s % q * (s * s % q) ^ c % q = r * s ^ (2 * c + 1) % q := by
  rw [sq_even, emod_mul_l, Int.pow_succ, Int.mul_assoc, Int.mul_comm s]
end RF

end
section
namespace RF
/-! ### sums and multiples over one bottom -/
end RF

end
section
namespace RF
/-! ### a whole number's figures, and notes as lists of signs -/
/-- the sign of a figure -/
def sgn (d : Nat) : Nat := if d < 10 then 48 + d else 87 + d
end RF

end
set_option Elab.async false
set_option maxRecDepth 100000
namespace L2
open PySem PySem.Spec PyProof.Rows
/-! MY OWN WORDS over the layer -/
/-- a def of the text with its promise, by its name -/
structure Got (P : Program) (w : World) (K : PySem.W.Frag) (mg : Str → Option Value) (base : Heap) (name : Str) (k : Nat) (ps : List Str) (sp : Sp) : Prop where
  ex : ∃ (f : Addr) (fd : FuncData), FnOk P w K mg base CX0 k f fd ps sp ∧ Binds K fd ps [] ∧ PySem.W.keepIn K (.ref f) = true ∧ mg name = some (.ref f)
/-- a def of the text as it stands -/
structure IsDef (K : PySem.W.Frag) (mg : Str → Option Value) (name : Str) (st : Stmt) (ps : List Str) : Prop where
  ex : ∃ (f : Addr) (fd : FuncData), Fun K name name st f fd ∧ Binds K fd ps [] ∧ mg name = some (.ref f)
/-- an int of the module's top -/
def IsInt (mg : Str → Option Value) (name : Str) (i : Int) : Prop := ∃ t, mg name = some (.int i t)
theorem IsDef.got {P : Program} {w : World} {K : PySem.W.Frag} {mg : Str → Option Value} {base : Heap} {name : Str} {st : Stmt} {ps N : List Str} {k : Nat} {sp : Sp} (D : IsDef K mg name st ps) (S : FnScope N ps (defScope st)) (len : ∀ vs H Q E, sp vs H Q E → vs.length = ps.length)
    (hbody : ∀ (f : Addr) (cdv : Value) (A : Around) (outer : List Env) (s : Shared) (H : Hp) (vs : List V) (Q : VK) (E : XK), Room k (A.deeper (envOfC name (defScope st) s.heap.objs.size f cdv)) → sp vs H Q E →
      ∃ t, PSs (cxOf CX0 P w K mg base N name (defScope st) f cdv A outer s H E).nox (defBody st) t ∧ t { nx := fun _ H' => Q .non H', rt := Q } (start N vs) H) : Got P w K mg base name (k + 1) ps sp := by
  obtain ⟨f, fd, F, b, m⟩ := D.ex
  exact ⟨f, fd, F.ok S len (fun cdv A outer s H vs Q E hr h => hbody f cdv A outer s H vs Q E hr h), b, F.kp, m⟩
section
variable {X : Cx} {x : Str} {p pos : Pos} {e : Expr} {es : List Expr} {t : TA} {k : Nat} {ps : List Str} {sp : Sp}
theorem pe_callG (G : Got X.prog X.w X.K X.mg X.base x k ps sp) (hr : Room k X.A) (hg : Gl X x) (ha : PA X (e :: es) t) (hdb : (x == ("__debug__" : Str)) = false := by decide)
    (he : starEach (e :: es) X.env = (false, eval e X.env) :: starEach es X.env := by rfl) (hpl : (backTo pos (starEach es X.env)).any (·.1) = false := by rfl) : PE X (.Call (.Name x p) (e :: es) [] pos) (tCall sp [] E0 t) := by
  obtain ⟨f, fd, F, b, kp, m⟩ := G.ex
  exact pe_call F hr hg m kp b .nil pass0 ha hdb he hpl
theorem pe_globI {i : Int} (h : IsInt X.mg x i) (hg : Gl X x) (hd : (x == ("__debug__" : Str)) = false := by decide) : PE X (.Name x pos) (tC (.int i)) := by
  obtain ⟨t, h⟩ := h
  exact pe_glob hg h ⟨t, rfl⟩ hd
/-! ### isinstance -/
/-! ### == of data: ints, lists of ints, tuples of these -/
inductive RdL (K : PySem.W.Frag) (H : Hp) : V → PyData → Prop
  | int (i : Int) : RdL K H (.int i) (.int i)
  | bl (b : Bool) : RdL K H (.bl b) (.bool b)
  | lst {a : Addr} {ns : List Int} : SqL K H a (ns.map V.int) → RdL K H (.ref a) (.list (ns.map PyData.int))
inductive RdT (K : PySem.W.Frag) (H : Hp) : V → PyData → Prop
  | of {v : V} {d : PyData} : RdL K H v d → RdT K H v d
  | tup {a : Addr} {xs : List V} {ds : List PyData} : SqT K H a xs → Paired (RdL K H) xs ds → RdT K H (.ref a) (.tuple ds)
theorem readsAll_ints {h : Heap} : ∀ {ns : List Int} {us : List Value}, Vals (ns.map V.int) us → ReadsAll h us (ns.map PyData.int) []
  | [], _, .nil => .nil
  | n :: ns, _, .cons r t => by
    obtain ⟨k, rfl⟩ := (show ∃ k, _ = Value.int n k from r)
    have := ReadsAll.cons (Reads.int (h := h) n k) (readsAll_ints (h := h) t)
    simpa using this
theorem RdL.reads {pins : List (Addr × Obj)} {s : Shared} {σ : St} {H : Hp} {v : V} {u : Value} {d : PyData} (I : Inv X pins σ H s) (r : RelV v u) (h : RdL X.K H v d) : ∃ as, Reads s.heap u d as := by
  cases h with
  | int i => obtain ⟨t, rfl⟩ := (show ∃ t, u = Value.int i t from r); exact ⟨_, Reads.int i t⟩
  | bl b => cases (show u = Value.bool b from r); exact ⟨_, Reads.bool b⟩
  | @lst a ns hs =>
    cases (show u = Value.ref a from r)
    obtain ⟨its, rv, pl, _⟩ := I.list hs
    obtain ⟨o, ho, hc, n, hd⟩ := pl.isList
    exact ⟨_, Reads.list ho hc hd (by simpa using readsAll_ints rv)⟩
theorem RdL.readsAll {pins : List (Addr × Obj)} {s : Shared} {σ : St} {H : Hp} (I : Inv X pins σ H s) : ∀ {xs : List V} {us : List Value} {ds : List PyData}, Vals xs us → Paired (RdL X.K H) xs ds → ∃ as, ReadsAll s.heap us ds as
  | _, _, _, .nil, .nil => ⟨_, ReadsAll.nil⟩
  | _, _, _, .cons r t, .cons q y => by
    obtain ⟨as, h1⟩ := RdL.reads I r q
    obtain ⟨bs, h2⟩ := RdL.readsAll I t y
    exact ⟨_, ReadsAll.cons h1 h2⟩
theorem RdT.reads {pins : List (Addr × Obj)} {s : Shared} {σ : St} {H : Hp} {v : V} {u : Value} {d : PyData} (I : Inv X pins σ H s) (r : RelV v u) (h : RdT X.K H v d) : ∃ as, Reads s.heap u d as := by
  cases h with
  | of h => exact h.reads I r
  | @tup a xs ds hs hp =>
    cases (show u = Value.ref a from r)
    obtain ⟨its, rv, ht, _⟩ := I.tuple hs
    obtain ⟨o, ho, hc, n, hd⟩ := ht
    obtain ⟨as, q⟩ := RdL.readsAll I rv hp
    exact ⟨_, Reads.tuple ho hc hd (by simpa using q)⟩
theorem canLay_ints : ∀ ns : List Int, PyData.canLayAll0 (ns.map PyData.int) = true
  | [] => rfl
  | _ :: r => by simp [PyData.canLayAll0, PyData.canLay0, canLay_ints r]
theorem depth_ints : ∀ ns : List Int, PyData.depthAll (ns.map PyData.int) = 0
  | [] => rfl
  | _ :: r => by simp [PyData.depthAll, PyData.depth, depth_ints r]
theorem RdL.lay {K : PySem.W.Frag} {H : Hp} {v : V} {d : PyData} (h : RdL K H v d) : d.canLay0 = true ∧ d.depth ≤ 1 := by
  cases h with
  | int i => simp [PyData.canLay0, PyData.depth]
  | bl i => simp [PyData.canLay0, PyData.depth]
  | @lst a ns hs => simp [PyData.canLay0, PyData.depth, canLay_ints, depth_ints]
theorem RdL.layAll {K : PySem.W.Frag} {H : Hp} : ∀ {xs : List V} {ds : List PyData}, Paired (RdL K H) xs ds → PyData.canLayAll0 ds = true ∧ PyData.depthAll ds ≤ 1
  | _, _, .nil => by simp [PyData.canLayAll0, PyData.depthAll]
  | _, _, .cons r t => by
    have h1 := r.lay
    have h2 := RdL.layAll t
    simp only [PyData.canLayAll0, PyData.depthAll, h1.1, h2.1, Bool.and_self, true_and]
    have := h1.2
    have := h2.2
    omega
theorem RdT.shaped {K : PySem.W.Frag} {H : Hp} {v : V} {d : PyData} (h : RdT K H v d) : SeqAt.shaped d = true := by
  have : d.canLay0 = true ∧ d.depth ≤ 3 := by
    cases h with
    | of h => exact ⟨h.lay.1, by have := h.lay.2; omega⟩
    | @tup a xs ds hs hp =>
      have := RdL.layAll hp
      simp only [PyData.canLay0, PyData.depth, this.1, true_and]
      have := this.2
      omega
  unfold SeqAt.shaped
  rw [this.1, Bool.true_and]
  exact decide_eq_true (by have := this.2; omega)
theorem op_eqD (hu : X.A.units + 64 < cLine) : OpR X (compareOp .Eq) (fun x y H Q => ∃ d e, RdT X.K H x d ∧ RdT X.K H y e ∧ Q (.bl (PyData.eqv d e)) H) := by
  intro pins s σ H x y v u Q I rx ry h
  obtain ⟨d, e, h1, h2, q⟩ := h
  obtain ⟨as, ra⟩ := h1.reads I rx
  obtain ⟨bs, rb⟩ := h2.reads I ry
  exact eq_dataH ra rb h1.shaped h2.shaped hu ⟨.bl _, H, I, rfl, q⟩
theorem op_neD (hu : X.A.units + 64 < cLine) : OpR X (compareOp .NotEq) (fun x y H Q => ∃ d e, RdT X.K H x d ∧ RdT X.K H y e ∧ Q (.bl (!PyData.eqv d e)) H) := by
  intro pins s σ H x y v u Q I rx ry h
  obtain ⟨d, e, h1, h2, q⟩ := h
  obtain ⟨as, ra⟩ := h1.reads I rx
  obtain ⟨bs, rb⟩ := h2.reads I ry
  exact ne_dataH ra rb h1.shaped h2.shaped hu ⟨.bl _, H, I, rfl, q⟩
end
theorem eqv_ints : ∀ ns ms : List Int, PyData.eqvAll (ns.map PyData.int) (ms.map PyData.int) = decide (ns = ms)
  | [], [] => by simp [PyData.eqvAll]
  | [], _ :: _ => by simp [PyData.eqvAll]
  | _ :: _, [] => by simp [PyData.eqvAll]
  | a :: r, b :: t => by
    simp only [List.map_cons, PyData.eqvAll, PyData.eqv, eqv_ints r t]
    by_cases h : a = b <;> by_cases h' : r = t <;> simp [h, h']
/-- == of lists of ints -/
inductive rEqL (K : PySem.W.Frag) (x : V) (y : V) (H : Hp) (Q : VK) : Prop
  | mk : ∀ (a b : Addr) (ns ms : List Int), (x = .ref a) → (y = .ref b) → (SqL K H a (ns.map V.int)) → (SqL K H b (ms.map V.int)) → (Q (.bl (decide (ns = ms))) H) → rEqL K x y H Q
inductive rNeL (K : PySem.W.Frag) (x : V) (y : V) (H : Hp) (Q : VK) : Prop
  | mk : ∀ (a b : Addr) (ns ms : List Int), (x = .ref a) → (y = .ref b) → (SqL K H a (ns.map V.int)) → (SqL K H b (ms.map V.int)) → (Q (.bl (!decide (ns = ms))) H) → rNeL K x y H Q
/-- a writing stands at p -/
structure WrAt (K : PySem.W.Frag) (H : Hp) (p la lg : Addr) (w : Int) (a g : List Int) : Prop where
  t : SqT K H p [.int w, .ref la, .ref lg]
  a : SqL K H la (a.map V.int)
  g : SqL K H lg (g.map V.int)
section
variable {X : Cx}
theorem op_eqL (hu : X.A.units + 64 < cLine) : OpR X (compareOp .Eq) (rEqL X.K) := fun pins s σ H x y v u Q I rx ry h => by
  obtain ⟨a, b, ns, ms, rfl, rfl, h1, h2, q⟩ := h
  exact op_eqD hu pins s σ H _ _ v u Q I rx ry ⟨_, _, .of (.lst h1), .of (.lst h2), by simp only [PyData.eqv, eqv_ints]; exact q⟩
theorem op_neL (hu : X.A.units + 64 < cLine) : OpR X (compareOp .NotEq) (rNeL X.K) := fun pins s σ H x y v u Q I rx ry h => by
  obtain ⟨a, b, ns, ms, rfl, rfl, h1, h2, q⟩ := h
  exact op_neD hu pins s σ H _ _ v u Q I rx ry ⟨_, _, .of (.lst h1), .of (.lst h2), by simp only [PyData.eqv, eqv_ints]; exact q⟩
end
/-! ### tests, again -/
theorem iteDF {c A B : Prop} [Decidable c] (hc : ¬ c) (h : B) : if decide c = true then A else B := by
  rw [decide_eq_false hc]; exact iteF h
theorem iteDT {c A B : Prop} [Decidable c] (hc : c) (h : A) : if decide c = true then A else B := by
  rw [decide_eq_true hc]; exact iteT h
theorem iteNDF {c A B : Prop} [Decidable c] (hc : c) (h : B) : if (!decide c) = true then A else B := iteNS hc h
theorem iteNDT {c A B : Prop} [Decidable c] (hc : ¬ c) (h : A) : if (!decide c) = true then A else B := by
  rw [decide_eq_false hc]; exact iteT h
theorem ite2D {c A B : Prop} [Decidable c] (h1 : c → A) (h2 : ¬ c → B) : if decide c = true then A else B := by
  by_cases h : c
  · exact iteDT h (h1 h)
  · exact iteDF h (h2 h)
theorem ite2N {c A B : Prop} [Decidable c] (h1 : ¬ c → A) (h2 : c → B) : if (!decide c) = true then A else B := by
  by_cases h : c
  · exact iteNDF h (h2 h)
  · exact iteNDT h (h1 h)
/-! ### what is kept -/
theorem Same.tup {K : PySem.W.Frag} {H H' : Hp} {a : Addr} {xs : List V} (e : Same H H') (h : SqT K H a xs) : SqT K H' a xs := by
  rcases h with (h | ⟨o, h⟩) | h
  · exact .inl (.inl (e _ _ h))
  · exact .inl (.inr ⟨o, e _ _ h⟩)
  · exact .inr h
theorem Same.upd {H : Hp} {a : Addr} {o : HO} (h : H a = none) : Same H (upd H a o) := fun b u e => by rw [upd_ne (ne_of_none e h)]; exact e
theorem Same.upd2 {H H' : Hp} {a : Addr} {o : HO} (s : Same H H') (h : H a = none) : Same H (L2.upd H' a o) := fun b u e => by rw [upd_ne (ne_of_none e h)]; exact s b u e
theorem Same.wr {K : PySem.W.Frag} {H H' : Hp} {p la lg : Addr} {w : Int} {a g : List Int} (e : Same H H') (h : WrAt K H p la lg w a g) : WrAt K H' p la lg w a g := ⟨e.tup h.t, e.seq h.a, e.seq h.g⟩
theorem map_int_cut {xs : List Int} {lo hi : Option Int} : cutV (xs.map V.int) lo hi = (((xs.drop (HT.sIx xs.length 0 lo)).take (HT.sIx xs.length xs.length hi - HT.sIx xs.length 0 lo))).map V.int := by
  unfold cutV
  rw [List.length_map, List.map_take, List.map_drop]
end L2
namespace L2
open PySem PySem.Spec PyProof.Rows
section
variable {X : Cx}
/-! ### products and quotients of long ints -/
theorem op_mulB : OpR X (binaryOp .Mult) (rI IntMulOk fun i j => .int (i * j)) := opI fun _ _ _ _ _ _ _ hc q => mul_int q hc
def CDivB (i j : Int) : Prop := 0 < j ∧ Builtin.divisionGoesByPylong i j = false
theorem op_fdivB : OpR X (binaryOp .FloorDiv) (rI CDivB fun i j => .int (i / j)) := opI fun i j _ _ _ _ _ hc q => by
  have h1 : (0 : Int) < j := hc.1
  exact floordiv_int (by omega) (by rw [Int.fdiv_eq_ediv_of_nonneg i (by omega)]; exact q) (.inl hc.2)
end
theorem intBits_le {x : Int} {m : Nat} (h : x.natAbs < 2 ^ m) : Builtin.Int.intBits x ≤ m := by
  unfold Builtin.Int.intBits
  by_cases e : (x == 0) = true
  · rw [if_pos e]; exact Nat.zero_le _
  · rw [if_neg e]
    have h0 : x.natAbs ≠ 0 := by
      intro z
      apply e
      have : x = 0 := by omega
      rw [this]; rfl
    have := (Nat.log2_lt h0).mpr h
    omega
theorem mulOk_of {x y : Int} {m n : Nat} (hx : x.natAbs < 2 ^ m) (hy : y.natAbs < 2 ^ n) (h : m + n ≤ 134217728) : IntMulOk x y := by
  have h1 := intBits_le hx
  have h2 := intBits_le hy
  have hc : Builtin.Int.intTooBig (Builtin.Int.intBits x + Builtin.Int.intBits y) = false := by
    unfold Builtin.Int.intTooBig bitsLine
    exact decide_eq_false (by omega)
  unfold IntMulOk
  rw [hc]
  simp
end L2

set_option Elab.async false
set_option maxRecDepth 100000
set_option maxHeartbeats 2000000
namespace L2
open PySem PySem.Spec PyProof.Rows
/-! ### a comprehension of one clause without tests: [elt for x in iter] -/
/-- the cells that a block takes from its def -/
def clStep (env : Env) (cs : List (Str × Addr)) (p : Str × NameKind) : List (Str × Addr) := if p.2 == .free then (p.1, (env.cells.lookup p.1).getD 0) :: cs else cs
def clOf (sc : Scope) (env : Env) : List (Str × Addr) := sc.names.foldl (clStep env) []
def frees (sc : Scope) (env : Env) : Bool := sc.names.all fun p => !(p.2 == .free) || (env.cells.lookup p.1).isSome
theorem closure_is {sc : Scope} {env : Env} (h : frees sc env = true) : closureFor sc env = pure (clOf sc env) := by
  have key : ∀ (l : List (Str × NameKind)) (cs : List (Str × Addr)), (l.all fun p => !(p.2 == .free) || (env.cells.lookup p.1).isSome) = true →
      (forIn l cs fun (x : Str × NameKind) (r : List (Str × Addr)) => (match x with
        | (name, kind) => if (kind == NameKind.free) = true then (do let a ← cellOf env name; pure (ForInStep.yield ((name, a) :: r))) else pure (ForInStep.yield r) : Sem (ForInStep (List (Str × Addr))))) = (pure (l.foldl (clStep env) cs) : Sem (List (Str × Addr))) := by
    intro l
    induction l with
    | nil => intro cs _; rfl
    | cons p l ih =>
      intro cs hl
      rw [List.all_cons, Bool.and_eq_true] at hl
      rw [List.forIn_cons, List.foldl_cons]
      obtain ⟨name, kind⟩ := p
      by_cases hk : (kind == NameKind.free) = true
      · have h1 : (env.cells.lookup name).isSome = true := by
          have := hl.1
          rw [hk] at this
          exact this
        obtain ⟨c, hc⟩ := Option.isSome_iff_exists.mp h1
        have e1 : clStep env cs (name, kind) = (name, c) :: cs := by unfold clStep; rw [if_pos hk, hc]; rfl
        have e2 : cellOf env name = pure c := by unfold cellOf; rw [hc]
        dsimp only
        rw [if_pos hk, e2, e1, pure_bind, pure_bind]
        exact ih _ hl.2
      · have e1 : clStep env cs (name, kind) = cs := by unfold clStep; rw [if_neg hk]
        dsimp only
        rw [if_neg hk, e1, pure_bind]
        exact ih _ hl.2
  have := key sc.names [] h
  show (forIn sc.names ([] : List (Str × Addr)) _ >>= fun s => pure s) = _
  rw [bind_pure]
  exact this
theorem clOf_mem {sc : Scope} {env : Env} (h : frees sc env = true) : ∀ p ∈ clOf sc env, env.cells.lookup p.1 = some p.2 := by
  have key : ∀ (l : List (Str × NameKind)) (cs : List (Str × Addr)), (l.all fun p => !(p.2 == .free) || (env.cells.lookup p.1).isSome) = true → (∀ p ∈ cs, env.cells.lookup p.1 = some p.2) → ∀ p ∈ l.foldl (clStep env) cs, env.cells.lookup p.1 = some p.2 := by
    intro l
    induction l with
    | nil => intro cs _ hc p hp; exact hc p hp
    | cons q l ih =>
      intro cs hl hc p hp
      rw [List.all_cons, Bool.and_eq_true] at hl
      rw [List.foldl_cons] at hp
      refine ih _ hl.2 (fun r hr => ?_) p hp
      unfold clStep at hr
      by_cases hk : (q.2 == NameKind.free) = true
      · rw [if_pos hk] at hr
        rcases List.mem_cons.mp hr with rfl | hr
        · have h1 : (env.cells.lookup q.1).isSome = true := by
            have := hl.1
            rw [hk] at this
            exact this
          obtain ⟨c, hcc⟩ := Option.isSome_iff_exists.mp h1
          show env.cells.lookup q.1 = some ((env.cells.lookup q.1).getD 0)
          rw [hcc]; rfl
        · exact hc r hr
      · rw [if_neg hk] at hr
        exact hc r hr
  exact key sc.names [] h (fun p hp => by simp at hp)
theorem lookup_mem {β : Type} : ∀ {l : List (Str × β)} {y : Str} {c : β}, l.lookup y = some c → (y, c) ∈ l
  | [], _, _, h => by simp at h
  | (z, d) :: l, y, c, h => by
    rw [List.lookup_cons] at h
    by_cases e : (y == z) = true
    · rw [e] at h
      have e1 : y = z := eq_of_beq e
      have h : d = c := by simpa using h
      rw [e1, h]; exact List.mem_cons_self
    · have e : (y == z) = false := by simpa using e
      rw [e] at h
      exact List.mem_cons_of_mem _ (lookup_mem h)
theorem clOf_lookup {sc : Scope} {env : Env} (h : frees sc env = true) {y : Str} {c : Addr} (e : (clOf sc env).lookup y = some c) : env.cells.lookup y = some c := clOf_mem h (y, c) (lookup_mem e)
/-- the block's context -/
def cxB (X : Cx) (sc : Scope) (C : Addr) (N' : List Str) (s0 : Shared) (H0 : Hp) (fp : List Addr) : Cx :=
  { X with N := N', s₀ := s0, H₀ := H0, env := compEnvC sc (clOf sc X.env) C X.env, outer := X.stack, stack := X.stack, ex := fp, fn := fun _ => false, pn := [], xe := fun _ _ => False }
/-- what a captured name (with its slot) must have -/
def capsOk (X : Cx) (sc : Scope) : List (Str × Nat) → Prop
  | [] => True
  | p :: r => (X.N[p.2]? = some p.1 ∧ Vis X.env.scope p.1 ∧ (X.env.kindOf p.1 = some .cell ∨ X.env.kindOf p.1 = some .free) ∧ ((relabel sc X.env).names.lookup p.1 = some .cell ∨ (relabel sc X.env).names.lookup p.1 = some .free) ∧ ((clOf sc X.env).lookup p.1).isSome = true) ∧ capsOk X sc r
structure CompOk (X : Cx) (sc : Scope) (x : Str) (caps : List (Str × Nat)) : Prop where
  kind : sc.kind = .function
  nocell : ∀ y ∈ sc.names, y.2 ≠ .cell
  names : ∀ y ∈ sc.names, y.2 = .local → sc.names.lookup y.1 = some .local
  loc : sc.names.lookup x = some .local
  free : frees sc X.env = true
  rel : ((relabel sc X.env).names.all fun p => !(p.2 == .cell || p.2 == .free) || ((clOf sc X.env).lookup p.1).isSome) = true
  cap : capsOk X sc caps
  nd : (x :: caps.map (·.1)).Nodup
theorem capsOk_get {X : Cx} {sc : Scope} : ∀ {caps : List (Str × Nat)} {j : Nat} {p : Str × Nat}, capsOk X sc caps → caps[j]? = some p →
    X.N[p.2]? = some p.1 ∧ Vis X.env.scope p.1 ∧ (X.env.kindOf p.1 = some .cell ∨ X.env.kindOf p.1 = some .free) ∧ ((relabel sc X.env).names.lookup p.1 = some .cell ∨ (relabel sc X.env).names.lookup p.1 = some .free) ∧ ((clOf sc X.env).lookup p.1).isSome = true
  | [], _, _, _, e => by simp at e
  | q :: r, 0, p, h, e => by
    have : q = p := by simpa using e
    subst this
    exact h.1
  | q :: r, j + 1, p, h, e => capsOk_get h.2 (by simpa using e)
/-- the block's slots: the turn's name, then what it takes from the def -/
def capsV (caps : List (Str × Nat)) (σ : St) : St := caps.map fun p => (σ[p.2]?).join
section
variable {X : Cx} {pins : List (Addr × Obj)} {σ : St} {H2 : Hp} {s2 : Shared} {sc : Scope} {x : Str} {caps : List (Str × Nat)} {fp : List Addr} {C : Addr}
theorem cxB_ok (I : Inv X pins σ H2 s2) (O : CompOk X sc x caps) (f2 : ∀ b ∈ fp, FpOk X pins H2 b) (hfp : ∀ b ∈ fp, b < s2.heap.objs.size) (hC : s2.heap.objs.size ≤ C) :
    (cxB X sc C (x :: caps.map (·.1)) s2 H2 fp).Ok where
  mod := I.ok.mod
  kind := O.kind
  glob := I.ok.glob
  blt := I.ok.blt
  above := hC
  inj := fun y z c h1 h2 => I.ok.inj y z c (clOf_lookup O.free h1) (clOf_lookup O.free h2)
  has := fun y hy => by
    have hy : (relabel sc X.env).names.lookup y = some .cell ∨ (relabel sc X.env).names.lookup y = some .free := hy
    have hall := List.all_eq_true.mp O.rel
    rcases hy with hy | hy
    · have := hall _ (lookup_mem hy)
      exact Option.isSome_iff_exists.mp this
    · have := hall _ (lookup_mem hy)
      exact Option.isSome_iff_exists.mp this
  cab := fun y c h _ => by cases h
  hd := I.ok.hd
  frames := I.ok.frames
  stk := .inl rfl
  exf := fun b hb => ⟨Nat.ne_of_lt (Nat.lt_of_lt_of_le (hfp b hb) hC), fun y c h => (f2 b hb).2.2.2.2.1 y c (clOf_lookup O.free h)⟩
  bs := I.bs
  bsz := Nat.le_trans I.ok.bsz I.sz
  noex := fun b o e hb => by
    rcases (f2 b hb).2.2.2.1 with h | h
    · exact I.ok.noex b o e h
    · exact absurd h (Nat.not_le.mpr (Heap.lt_size (I.ok.bs b o e).1))
  exfs := fun b hb hf => by
    rcases List.mem_cons.mp (I.stkSub b hf) with h | h
    · exact (f2 b hb).2.1 h
    · exact (f2 b hb).2.2.1 h
  funs := I.stack
  frf := I.stkFree
/-- the block's start: the list laid at D, the block's names at C -/
theorem cxB_start {s4 : Shared} {D : Addr} {m : Str → Option Value} (I : Inv X pins σ H2 s2) (O : CompOk X sc x caps) (f2 : ∀ b ∈ fp, FpOk X pins H2 b) (hfp : ∀ b ∈ fp, b < s2.heap.objs.size) (hC : s2.heap.objs.size ≤ C)
    (hD : s2.heap.objs.size ≤ D) (hCD : C ≠ D) (hos : s4.os = s2.os) (hg : s4.gens = s2.gens) (k : ∀ b o, s2.heap.get? b = some o → s4.heap.get? b = some o) (hns : s4.heap.Ns C m)
    (hl : s4.heap.get? D = some { cls := .type "list", data := .seq #[] }) :
    Inv (cxB X sc C (x :: caps.map (·.1)) s2 H2 fp) [] (none :: capsV caps σ) (upd H2 D (.lst [])) s4 where
  ok := cxB_ok I O f2 hfp hC
  os := hos
  bare := by rw [hg]; exact I.bare
  base := Un.laid k hD (I.hok.fresh hD)
  loc := by
    refine ⟨m, hns, fun i y v h1 h2 _ => ?_⟩
    cases i with
    | zero => simp at h2
    | succ j =>
      have h2 : (capsV caps σ)[j]? = some (some v) := by simpa using h2
      unfold capsV at h2
      rw [List.getElem?_map] at h2
      cases e : caps[j]? with
      | none => rw [e] at h2; cases h2
      | some p =>
        rw [e] at h2
        have h3 : (σ[p.2]?).join = some v := Option.some.inj h2
        have h4 : σ[p.2]? = some (some v) := by
          cases q : σ[p.2]? with
          | none => rw [q] at h3; cases h3
          | some z => rw [q] at h3; rw [show z = some v from h3]
        have ey : y = p.1 := by
          have h1 : (caps.map (·.1))[j]? = some y := by simpa [cxB] using h1
          rw [List.getElem?_map, e] at h1
          exact (Option.some.inj h1).symm
        subst ey
        obtain ⟨c1, c2, c3, c4, c5⟩ := capsOk_get O.cap e
        obtain ⟨m0, _, hloc⟩ := I.loc
        obtain ⟨u, ru, lk⟩ := hloc p.2 p.1 v c1 h4 c2
        refine ⟨u, ru, .inr ⟨c4, ?_⟩⟩
        obtain ⟨c, hc⟩ := Option.isSome_iff_exists.mp c5
        refine ⟨c, hc, ?_⟩
        rcases lk with ⟨z, _⟩ | ⟨_, c', hc', hcell⟩
        · rcases c3 with c3 | c3 <;> (rw [z] at c3; cases c3)
        · have := clOf_lookup O.free hc
          rw [hc'] at this
          cases this
          obtain ⟨o, ho, hd⟩ := hcell
          exact ⟨o, k _ _ ho, hd⟩
  cell := fun y c h => by
    obtain ⟨v, o, ho, hd⟩ := I.cell y c (clOf_lookup O.free h)
    exact ⟨v, o, k _ _ ho, hd⟩
  free := by
    show upd H2 D (.lst []) C = none
    rw [upd_ne hCD]; exact I.hok.fresh hC
  freeC := fun y c h => by
    have h1 := clOf_lookup O.free h
    obtain ⟨v, o, ho, _⟩ := I.cell y c h1
    have : c ≠ D := Nat.ne_of_lt (Nat.lt_of_lt_of_le (Heap.lt_size ho) hD)
    rw [upd_ne this]
    exact I.freeC y c h1
  pin := fun p hp => by simp [cxB] at hp
  hok := I.hok.laid k hD ⟨Nat.zero_le _, [], 0, .nil, hl⟩
  len := by simp [cxB, capsV]
/-- the reading of a comprehension: W by the turn, a measure, the heap and the list so far -/
def tComp (caps : List (Str × Nat)) (wi : TI) (te : TE) : TE := fun σ H Q => wi σ H fun J H1 => ∀ D, H1 D = none → ∃ W : Nat → Nat → Hp → List V → Prop, (∃ m, W 0 m (upd H1 D (.lst [])) []) ∧
  ∀ i m H2 ys, W i m H2 ys → H2 D = some (.lst ys) ∧ ((J.stop i H2 ∧ Q (.ref D) H2) ∨ (J.go i H2 ∧ ys.length < sizeLine ∧ ∀ x H3, J.yld i H2 x H3 →
    te (some x :: capsV caps σ) H3 fun y H4 => H4 D = some (.lst ys) ∧ ∃ m', m' < m ∧ W (i + 1) m' (upd H4 D (.lst (ys ++ [y]))) (ys ++ [y])))
/-- one turn, with the step ahead of the store -/
theorem compLoop_turn {prog : Program} {w : World} {A : Around} {R : Result → Shared → Prop} {s : Shared} {elt target iter : Expr} {scope : Scope} {pos : Pos} {it acc : Value} {env : Env} (I : Nat → Shared → Prop)
    (turn : ∀ n s, I n s → ∀ E : Value → Shared → Prop, wpAny (model prog w) A (pyNext it) (fun r s₁ => match r with
      | none => R (.ok .next) s₁
      | some v => wpAny (model prog w) A (letOwnedTupleGo target it v) (fun _ s₁' => wpAny (model prog w) A (assign target env v) (fun _ s₂ => wpAny (model prog w) A (eval elt env) (fun x s₃ =>
          wpAny (model prog w) A (call (.builtin "list.append") [acc, x]) (fun _ s₄ => ∃ m, m < n ∧ I m s₄) E s₃) E s₂) E s₁') E s₁) E s)
    (n : Nat) (h : I n s) : codeAny (model prog w) A (.compLoop (.ListComp elt [⟨target, iter, [], 0⟩] scope pos) 0 it acc env) R s := by
  refine codeAny_loop rfl I (fun n s hI => ?_) n h
  show wpAny _ _ ((compTurn (.ListComp elt [⟨target, iter, [], 0⟩] scope pos) 0 it acc env).onRaise (fun x => do noteFrame x env; theTreesLotGoes x)) _ _ s
  refine wpAny_noted ?_
  rw [compTurn_list1]
  refine wpAny_bind (wpAny_standAt (wpAny_bind (wpAny_mono (turn n s hI _) (fun r s₁ h₁ => ?_) fun _ _ h' => h')))
  cases r with
  | none => exact wpAny_pure h₁
  | some v =>
    exact wpAny_bind (wpAny_mono h₁ (fun _ s₁' h₁' => wpAny_bind (wpAny_mono h₁' (fun _ s₂ h₂ => wpAny_bind (wpAny_bind (wpAny_mono h₂ (fun x s₃ h₃ => wpAny_bind (wpAny_mono h₃
      (fun _ s₄ h₄ => wpAny_pure (wpAny_pure ⟨rfl, h₄⟩)) fun _ _ h' => h')) fun _ _ h' => h'))) fun _ _ h' => h')) fun _ _ h' => h')
/-- the block runs -/
theorem comp_run {elt iter : Expr} {px pos : Pos} {te : TE} {J : It} {it : Addr} {tn : Nat → Heap → Prop} {Q : VK} {E : Value → Shared → Prop} {RR : Value → Addr → Result → Shared → Prop} (hc : X.calm = true)
    (I : Inv X pins σ H2 s2) (T : Turn X.prog X.w X.K (.Name x px) J fp it tn) (st : tn 0 s2.heap) (f2 : ∀ b ∈ fp, FpOk X pins H2 b) (O : CompOk X sc x caps)
    (he : ∀ C s0 H0 fp, PE (cxB X sc C (x :: caps.map (·.1)) s0 H0 fp) elt te)
    (h : ∀ D, H2 D = none → ∃ W : Nat → Nat → Hp → List V → Prop, (∃ m, W 0 m (upd H2 D (.lst [])) []) ∧
      ∀ i m H2 ys, W i m H2 ys → H2 D = some (.lst ys) ∧ ((J.stop i H2 ∧ Q (.ref D) H2) ∨ (J.go i H2 ∧ ys.length < sizeLine ∧ ∀ x H3, J.yld i H2 x H3 →
        te (some x :: capsV caps σ) H3 fun y H4 => H4 D = some (.lst ys) ∧ ∃ m', m' < m ∧ W (i + 1) m' (upd H4 D (.lst (ys ++ [y]))) (ys ++ [y]))))
    (hRR : ∀ D C s' H' m, s2.heap.objs.size ≤ C → H' C = none → Inv X pins σ H' s' → Q (.ref D) H' → s'.heap.Ns C m → RR (.ref D) C (.ok .next) s') :
    wpAny (model X.prog X.w) X.A (newList []) (fun acc s₃ => wpAny (model X.prog X.w) X.A (newFunctionEnv sc X.env.globals (clOf sc X.env) [] X.env.qual none .none (some X.env)) (fun cenv s₄ =>
      codeAny (model X.prog X.w) X.A (.compStart (.ListComp elt [⟨.Name x px, iter, [], 0⟩] sc pos) 0 (.ref it) acc { cenv with scope := relabel sc X.env }) (RR acc cenv.locals) s₄) E s₃) E s2 := by
  have hfp : ∀ b ∈ fp, b < s2.heap.objs.size := fun b hb => by
    obtain ⟨o, ho, _⟩ := T.obj 0 _ st b hb
    exact Heap.lt_size ho
  refine wpAny_newObj_type (wpAny_newFunctionEnv O.nocell (by intro y hy; simp at hy) (fun h₁ hns₁ hsb₁ => ?_) O.kind)
  dsimp only at hns₁ hsb₁ ⊢
  generalize hH2 : s2.heap.push { cls := .type "list", dict := none, data := .seq ([] : List Value).toArray } = G2 at hns₁ hsb₁ ⊢
  have hC : G2.objs.size = s2.heap.objs.size + 1 := by rw [← hH2, Heap.size_push]
  have hDC : s2.heap.objs.size ≠ G2.objs.size := by rw [hC]; exact Nat.ne_of_lt (Nat.lt_succ_self _)
  have hCle : s2.heap.objs.size ≤ G2.objs.size := by rw [hC]; exact Nat.le_succ _
  have old : ∀ b o, s2.heap.get? b = some o → h₁.get? b = some o := fun b o e =>
    hsb₁.extBut b o (by rw [hC]; exact Nat.ne_of_lt (Nat.lt_succ_of_lt (Heap.lt_size e))) (Heap.get?_push_of_some _ (hH2 ▸ Heap.get?_push_of_some _ e))
  have hacc : h₁.get? s2.heap.objs.size = some { cls := .type "list", data := .seq #[] } := hsb₁.extBut _ _ hDC (Heap.get?_push_of_some _ (hH2 ▸ Heap.get?_push_size _ rfl))
  have hst₁ : tn 0 h₁ := T.keep 0 _ _ st fun b _ o e => old b o e
  have I4 : Inv (cxB X sc G2.objs.size (x :: caps.map (·.1)) s2 H2 fp) [] (none :: capsV caps σ) (upd H2 s2.heap.objs.size (.lst [])) { s2 with heap := h₁, toks := s2.toks + ([] : List (Str × Value)).length } :=
    cxB_start I O f2 hfp hCle (Nat.le_refl _) hDC.symm rfl rfl old hns₁ hacc
  obtain ⟨W, ⟨m0, w0⟩, turn⟩ := h s2.heap.objs.size (I.hok.fresh (Nat.le_refl _))
  have stat : ∀ {H' : Hp}, (∀ b ∈ fp, H' b = none) → ∀ b ∈ fp, FpOk (cxB X sc G2.objs.size (x :: caps.map (·.1)) s2 H2 fp) [] H' b := fun hn b hb =>
    ⟨hn b hb, ((cxB_ok I O f2 hfp hCle).exf b hb).1, (cxB_ok I O f2 hfp hCle).exfs b hb, .inl hb, ((cxB_ok I O f2 hfp hCle).exf b hb).2, fun p hp => by simp [cxB] at hp⟩
  have fr0 : ∀ b ∈ fp, upd H2 s2.heap.objs.size (.lst []) b = none := fun b hb => by
    rw [upd_ne (Nat.ne_of_lt (hfp b hb))]; exact (f2 b hb).1
  have loop : ∀ s₃ : Shared, s₃ = { s2 with heap := h₁, toks := s2.toks + ([] : List (Str × Value)).length } →
      codeAny (model X.prog X.w) X.A (.compLoop (.ListComp elt [⟨.Name x px, iter, [], 0⟩] sc pos) 0 (.ref it) (.ref s2.heap.objs.size) (compEnvC sc (clOf sc X.env) G2.objs.size X.env))
        (RR (.ref s2.heap.objs.size) G2.objs.size) s₃ := by
    rintro s₃ rfl
    refine compLoop_turn (fun n s' => ∃ i v0 H' ys, Inv (cxB X sc G2.objs.size (x :: caps.map (·.1)) s2 H2 fp) [] (v0 :: capsV caps σ) H' s' ∧ tn i s'.heap ∧ (∀ b ∈ fp, H' b = none) ∧ W i n H' ys) ?_ m0 ⟨0, _, _, _, I4, hst₁, fr0, w0⟩
    rintro n s3 ⟨i, v0, H3, ys, I3, st3, fr3, w3⟩ E'
    obtain ⟨hDl, hw⟩ := turn i n H3 ys w3
    rcases hw with ⟨stop, qn⟩ | ⟨go, hlen, step⟩
    · refine thn (T.done (cxB X sc G2.objs.size (x :: caps.map (·.1)) s2 H2 fp) rfl rfl rfl hc i [] s3 _ H3 E' I3 (stat fr3) st3 stop) fun r s4 ⟨hr, I4'⟩ => ?_
      subst hr
      obtain ⟨m, hn, _⟩ := I4'.loc
      refine hRR _ _ s4 H3 m hCle I4'.free (I.call' (ch := fp) I4'.os I4'.base I4'.hok I4'.bare fun b hb => ⟨(f2 b hb).2.2.2.1, (f2 b hb).2.1, (f2 b hb).2.2.2.2.1, (f2 b hb).2.2.2.2.2⟩) qn hn
    · refine thn (T.item (cxB X sc G2.objs.size (x :: caps.map (·.1)) s2 H2 fp) rfl rfl rfl hc i [] s3 _ H3 E' I3 (stat fr3) st3 go) fun r s4 ⟨u, hr, h4⟩ => ?_
      subst hr
      refine thn h4 fun _ s5 ⟨y, H5, I5, r5, y5, st5, fr5⟩ => ?_
      have I5' := I5.pinned (stat fr5) (T.obj _ _ st5)
      have hgn : PG (cxB X sc G2.objs.size (x :: caps.map (·.1)) s2 H2 fp) (.Name x px) (gName 0) := pg_name O.nd rfl (.inl (lookup_relabel_local O.loc)) (.inr (lookup_relabel_local O.loc))
      refine wpAny_mono (hgn _ s5 _ H5 y u (fun σ' H' => σ' = some y :: capsV caps σ ∧ H' = H5) I5' r5 ⟨rfl, rfl⟩) (fun _ s6 ⟨σ6, H6, I6, e6, e6'⟩ => ?_) (fun _ _ z => z.elim)
      subst e6 e6'
      refine wpAny_mono (he _ _ _ _ _ s6 _ H6 _ I6 (step y H6 y5)) (fun vz s7 ⟨z, H7, I7, r7, q7, m', hm', w7⟩ => ?_) (fun _ _ z => z.elim)
      refine wpAny_mono (mt_append (X := cxB X sc G2.objs.size (x :: caps.map (·.1)) s2 H2 fp) _ s7 _ H7 (.ref s2.heap.objs.size) [z] _ [vz] (fun _ H' => H' = upd H7 s2.heap.objs.size (.lst (ys ++ [z]))) I7 rfl (.cons r7 .nil)
        ⟨_, ys, z, rfl, rfl, q7, hlen, rfl⟩) (fun _ s8 ⟨_, H8, I8, _, e8⟩ => ?_) (fun _ _ z => z.elim)
      subst e8
      refine ⟨m', hm', i + 1, _, _, _, I8.unpinned, T.keep _ _ _ st5 fun b hb o e => (I8.pin (b, o) (List.mem_append_right _ (List.mem_append_right _ (mem_pinsAt hb e)))).1, fun b hb => ?_, w7⟩
      obtain ⟨o, e, d⟩ := T.obj _ _ st5 b hb
      exact (I8.pin (b, o) (List.mem_append_right _ (List.mem_append_right _ (mem_pinsAt hb e)))).2.1
  exact codeAny_compStart_list (loop _ rfl) (T.self _ 0 _ _ _ hst₁ (loop _ rfl))
/-- forgetting the block's names -/
theorem Inv.letGo {H' : Hp} {s' : Shared} {h' : Heap} (I : Inv X pins σ H' s') (hC : X.s₀.heap.objs.size ≤ C) (hn : H' C = none) (hL : C ≠ X.env.locals) (hcl : ∀ y c, X.env.cells.lookup y = some c → c ≠ C) (hpin : ∀ p ∈ X.pn ++ pins, p.1 ≠ C) (hs : Heap.SameBut C s'.heap h') :
    Inv X pins σ H' { s' with heap := h' } :=
  I.turned (t' := s'.toks) (fun b o hb e => hs.extBut b o hb e) hn hL (.inr hC) hcl hpin
/-- [elt for x in iter] as a value -/
theorem pe_comp {elt iter : Expr} {px pos : Pos} {wi : TI} {te : TE} (caps : List (Str × Nat)) (hc : X.calm = true) (hi : PI X (.Name x px) iter wi) (O : CompOk X sc x caps) (he : ∀ C s0 H0 fp, PE (cxB X sc C (x :: caps.map (·.1)) s0 H0 fp) elt te)
    (hs : ∀ x, foldedSetIterable iter X.env x = pure x := by intro _; rfl) : PE X (.ListComp elt [⟨.Name x px, iter, [], 0⟩] sc pos) (tComp caps wi te) := by
  intro pins s σ H Q I h
  rw [eval_ListComp]
  refine wpAny_comprehension_free (use := none) rfl hs (closure_is O.free) O.kind O.names (thn (hi pins s σ H _ I h) fun v s1 h1 => thn h1 fun itv s2 h2 => ?_)
  obtain ⟨it, fp, tn, J, H2, e, I2, T, st2, f2, hR⟩ := h2
  subst e
  refine comp_run (RR := fun acc C => compPost (model X.prog X.w) X.A X.xe none (EP X pins σ Q) acc C) hc I2 T st2 f2 O he hR ?_
  intro D C s' H' m hC hn I' q hns
  have hlt : ∀ b, b < s2.heap.objs.size → b ≠ C := fun b hb => Nat.ne_of_lt (Nat.lt_of_lt_of_le hb hC)
  refine ⟨m, hns, fun h' hs' => ⟨.ref D, H', I'.letGo (Nat.le_trans I2.sz hC) hn (hlt _ I2.lt).symm (fun y c hy => ?_) (fun p hp => ?_) hs', rfl, q⟩⟩
  · obtain ⟨_, o, ho, _⟩ := I2.cell y c hy
    exact hlt _ (Heap.lt_size ho)
  · exact hlt _ (Heap.lt_size (I2.pin p hp).1)
/-- y = [elt for x in iter] -/
theorem ps_comp {elt iter : Expr} {px py pos spos : Pos} {wi : TI} {te : TE} {i : Nat} {y : Str} (caps : List (Str × Nat)) (hN : X.N.Nodup) (hi' : X.N[i]? = some y) (hy : Loc X.env.scope y) (hc : X.calm = true) (hi : PI X (.Name x px) iter wi) (O : CompOk X sc x caps) (he : ∀ C s0 H0 fp, PE (cxB X sc C (x :: caps.map (·.1)) s0 H0 fp) elt te)
    (hsw : swapsWith (.ListComp elt [⟨.Name x px, iter, [], 0⟩] sc pos) (some (.Name y py)) spos.line X.env = pure true := by rfl)
    (hs : ∀ x, foldedSetIterable iter X.env x = pure x := by intro _; rfl) (hf : X.fn y = true ∨ X.env.scope.names.lookup y = some .local := by first | exact .inl rfl | exact .inr rfl) :
    PS X (.Assign [.Name y py] (.ListComp elt [⟨.Name x px, iter, [], 0⟩] sc pos) spos) (tAsg (tComp caps wi te) (gName i)) := by
  intro pins s σ H D0 I h
  rw [exec_Assign_Name_used _ _ _ _ hsw]
  refine wpAny_bind (wpAny_standAt (wpAny_bind ?_))
  show wpAny _ X.A (do let _ ← comprehension (.ListComp elt [⟨.Name x px, iter, [], 0⟩] sc pos) sc X.env _ (newList []) false (eval iter X.env) (some (assign (.Name y py) X.env))) _ _ s
  refine wpAny_bind (wpAny_mono (wpAny_comprehension_free (use := some (assign (.Name y py) X.env)) (Q := fun _ s' => SP X pins D0 .next s') rfl hs (closure_is O.free) O.kind O.names
    (thn (hi pins s σ H _ I h) fun v s1 h1 => thn h1 fun itv s2 h2 => ?_)) (fun _ s' hq => wpAny_pure (wpAny_pure hq)) fun _ _ e => e)
  obtain ⟨it, fp, tn, J, H2, e, I2, T, st2, f2, hR⟩ := h2
  subst e
  refine comp_run (RR := fun acc C => compPost (model X.prog X.w) X.A X.xe (some (assign (.Name y py) X.env)) (fun _ s' => SP X pins D0 .next s') acc C) (Q := fun v H1 => gName i v σ H1 D0.nx) hc I2 T st2 f2 O he hR ?_
  intro D C s' H' m hC hn I' q hns
  have hlt : ∀ b, b < s2.heap.objs.size → b ≠ C := fun b hb => Nat.ne_of_lt (Nat.lt_of_lt_of_le hb hC)
  have hcl : ∀ z c, X.env.cells.lookup z = some c → c ≠ C := fun z c hz => by
    obtain ⟨_, o, ho, _⟩ := I2.cell z c hz
    exact hlt _ (Heap.lt_size ho)
  show wpAny _ X.A (assign (.Name y py) X.env (.ref D)) _ _ _
  refine wpAny_assign_Name (store_ok2 (v := .ref D) I' hN hi' hy rfl (fun s6 I6 ⟨a, hsb, ha⟩ => ?_) hf)
  have haC : C ≠ a := by
    rcases ha with ha | ha
    · rw [ha]; exact (hlt _ I2.lt).symm
    · exact (hcl y a ha).symm
  refine ⟨m, hns.sameBut hsb haC, fun h' hs' => ⟨_, H', I6.letGo (Nat.le_trans I2.sz hC) hn (hlt _ I2.lt).symm hcl (fun p hp => hlt _ (Heap.lt_size (I2.pin p hp).1)) hs', q⟩⟩
end
/-! ### the forms one uses: the element leaves the heap as it is -/
/-- over a list of the right length, each item by its own value -/
theorem comp_list {K : PySem.W.Frag} {a D : Addr} {xs : List V} {te : TE} {cs : St} {H1 : Hp} {Q : Hp → Prop} (f : Nat → V) (hz : xs.length ≤ sizeLine) (hD : H1 D = none) (hl : ∀ H, Same H1 H → SqL K H a xs)
    (step : ∀ i x H, xs[i]? = some x → Same H1 H → ∀ R : VK, R (f i) H → te (some x :: cs) H R) (q : Q (upd H1 D (.lst ((List.range xs.length).map f)))) :
    ∃ W : Nat → Nat → Hp → List V → Prop, (∃ m, W 0 m (upd H1 D (.lst [])) []) ∧
      ∀ i m H2 ys, W i m H2 ys → H2 D = some (.lst ys) ∧ (((Itl K a).stop i H2 ∧ Q H2) ∨ ((Itl K a).go i H2 ∧ ys.length < sizeLine ∧ ∀ x H3, (Itl K a).yld i H2 x H3 →
        te (some x :: cs) H3 fun y H4 => H4 D = some (.lst ys) ∧ ∃ m', m' < m ∧ W (i + 1) m' (upd H4 D (.lst (ys ++ [y]))) (ys ++ [y]))) := by
  refine ⟨fun i m H2 ys => m + i = xs.length ∧ ys = (List.range i).map f ∧ H2 = upd H1 D (.lst ys), ⟨xs.length, by omega, rfl, rfl⟩, ?_⟩
  rintro i m H2 ys ⟨hm, rfl, rfl⟩
  have sm : ∀ zs : List V, Same H1 (upd H1 D (.lst zs)) := fun zs => Same.upd hD
  refine ⟨upd_same, ?_⟩
  by_cases hi : i = xs.length
  · subst hi
    exact .inl ⟨⟨xs, hl _ (sm _), Nat.le_refl _⟩, q⟩
  · have hlt : i < xs.length := by omega
    refine .inr ⟨⟨xs, xs[i], hl _ (sm _), List.getElem?_eq_getElem hlt⟩, by rw [List.length_map, List.length_range]; omega, ?_⟩
    rintro x H3 ⟨rfl, hy⟩
    refine step i x _ (hy xs (hl _ (sm _))) (sm _) _ ⟨upd_same, m - 1, by omega, by omega, ?_, ?_⟩
    · rw [List.range_succ, List.map_append]; rfl
    · rw [upd_upd]
/-- over a range -/
theorem comp_range {lo : Int} {n : Nat} {D : Addr} {te : TE} {cs : St} {H1 : Hp} {Q : Hp → Prop} (f : Nat → V) (hz : n ≤ sizeLine) (hD : H1 D = none)
    (step : ∀ i H, i < n → Same H1 H → ∀ R : VK, R (f i) H → te (some (.int (lo + i)) :: cs) H R) (q : Q (upd H1 D (.lst ((List.range n).map f)))) :
    ∃ W : Nat → Nat → Hp → List V → Prop, (∃ m, W 0 m (upd H1 D (.lst [])) []) ∧
      ∀ i m H2 ys, W i m H2 ys → H2 D = some (.lst ys) ∧ (((Itr lo n).stop i H2 ∧ Q H2) ∨ ((Itr lo n).go i H2 ∧ ys.length < sizeLine ∧ ∀ x H3, (Itr lo n).yld i H2 x H3 →
        te (some x :: cs) H3 fun y H4 => H4 D = some (.lst ys) ∧ ∃ m', m' < m ∧ W (i + 1) m' (upd H4 D (.lst (ys ++ [y]))) (ys ++ [y]))) := by
  refine ⟨fun i m H2 ys => m + i = n ∧ ys = (List.range i).map f ∧ H2 = upd H1 D (.lst ys), ⟨n, by omega, rfl, rfl⟩, ?_⟩
  rintro i m H2 ys ⟨hm, rfl, rfl⟩
  refine ⟨upd_same, ?_⟩
  by_cases hi : i = n
  · subst hi
    exact .inl ⟨Nat.le_refl _, q⟩
  · have hlt : i < n := by omega
    refine .inr ⟨hlt, by rw [List.length_map, List.length_range]; omega, ?_⟩
    rintro x H3 ⟨rfl, rfl⟩
    refine step i _ hlt (Same.upd hD) _ ⟨upd_same, m - 1, by omega, by omega, ?_, ?_⟩
    · rw [List.range_succ, List.map_append]; rfl
    · rw [upd_upd]
/-! ### a statement, then the rest, with a word between -/
inductive tMid (t u : TS) (D : Ends) (σ : St) (H : Hp) : Prop
  | mk : ∀ P : St → Hp → Prop, (t { D with nx := P } σ H) → (∀ σ' H', P σ' H' → u D σ' H') → tMid t u D σ H
section
variable {X : Cx} {st : Stmt} {rest : List Stmt} {t u : TS}
theorem pss_mid (h1 : PS X st t) (h2 : PSs X rest u) : PSs X (st :: rest) (tMid t u) := by
  intro pins s σ H D I ⟨P, h, hP⟩
  refine wpAny_execs_cons (thn (h1 pins s σ H { D with nx := P } I h) fun f s1 q => ?_)
  cases f with
  | next =>
    obtain ⟨σ', H', I', q⟩ := q
    exact h2 pins s1 σ' H' D I' (hP σ' H' q)
  | ret v => exact q
  | brk => exact q
  | cont => exact q
end
end L2

set_option Elab.async false
set_option maxRecDepth 100000
namespace L2
open PySem PySem.Spec PyProof.Rows
/-! ### max, min of a list of ints -/
section
variable {X : Cx}
end
end L2
namespace L2
open PySem PySem.Spec PyProof.Rows
section
variable {X : Cx} {K : PySem.W.Frag}
end
end L2

set_option Elab.async false
set_option maxRecDepth 100000
namespace L2
open PySem PySem.Spec PyProof.Rows
/-! ### arguments, item by item, by the make of the item: no search for a star -/
section
variable {X : Cx} {e : Expr} {es : List Expr} {te : TE} {t : TA}
theorem pa_k {c j p} (ha : PE X (.Constant c j p) te) (hr : PA X es t) : PA X (.Constant c j p :: es) (tCons te t) := pa_cons ha hr rfl
theorem pa_n {c p} (ha : PE X (.Name c p) te) (hr : PA X es t) : PA X (.Name c p :: es) (tCons te t) := pa_cons ha hr rfl
theorem pa_b {l o r p} (ha : PE X (.BinOp l o r p) te) (hr : PA X es t) : PA X (.BinOp l o r p :: es) (tCons te t) := pa_cons ha hr rfl
theorem pa_u {o r p} (ha : PE X (.UnaryOp o r p) te) (hr : PA X es t) : PA X (.UnaryOp o r p :: es) (tCons te t) := pa_cons ha hr rfl
theorem pa_c {f l o p} (ha : PE X (.Call f l o p) te) (hr : PA X es t) : PA X (.Call f l o p :: es) (tCons te t) := pa_cons ha hr rfl
theorem pa_s {v s p} (ha : PE X (.Subscript v s p) te) (hr : PA X es t) : PA X (.Subscript v s p :: es) (tCons te t) := pa_cons ha hr rfl
theorem pa_t {v s p} (ha : PE X (.Tuple v s p) te) (hr : PA X es t) : PA X (.Tuple v s p :: es) (tCons te t) := pa_cons ha hr rfl
theorem pa_l {v p} (ha : PE X (.List v p) te) (hr : PA X es t) : PA X (.List v p :: es) (tCons te t) := pa_cons ha hr rfl
end
/-! ### a subscript that is no slice, by its make -/
theorem px_k {i : Int} {j p} : PlainIx (.Constant (.int i) j p) := fun _ _ => rfl
theorem px_n {i p} : PlainIx (.Name i p) := fun _ _ => rfl
theorem px_b {l o r p} : PlainIx (.BinOp l o r p) := fun _ _ => rfl
theorem px_u {o r p} : PlainIx (.UnaryOp o r p) := fun _ _ => rfl
theorem px_c {f l o p} : PlainIx (.Call f l o p) := fun _ _ => rfl
section
variable {X : Cx}
/-! ### list(range(n)) -/
end
end L2

set_option Elab.async false
set_option maxRecDepth 100000
namespace My
open PySem L2
/-! the promises of the defs -/
inductive spCheckBase (vs : List V) (H : Hp) (Q : VK) (u3 : XK) : Prop
  | mk : ∀ b : Int, (vs = [.int b]) → (2 ≤ b) → (b ≤ 36) → (Q .non H) → spCheckBase vs H Q u3
inductive spCheckFraction (vs : List V) (H : Hp) (Q : VK) (u3 : XK) : Prop
  | mk : ∀ t q : Int, (vs = [.int t, .int q]) → (0 ≤ t) → (t ≤ 1000000000000) → (1 ≤ q) → (q ≤ 2000) → (Q .non H) → spCheckFraction vs H Q u3
inductive spCell (K : PySem.W.Frag) (vs : List V) (H : Hp) (Q : VK) (u3 : XK) : Prop
  | mk : ∀ (a : Addr) (ns : List Int) (k : Int), (vs = [.ref a, .int k]) → (SqL K H a (ns.map V.int)) → (0 ≤ k) → (∀ z : Int, z = ns.getD k.toNat 0 → Q (.int z) H) → spCell K vs H Q u3
/-- a new writing at p, its lists new and apart -/
structure NewWr (H H' : Hp) (p la lg : Addr) (w : Int) (a g : List Int) : Prop where
  sm : Same H H'
  t : H' p = some (.tup [.int w, .ref la, .ref lg])
  a : H' la = some (.lst (a.map V.int))
  g : H' lg = some (.lst (g.map V.int))
  np : H p = none
  na : H la = none
  ng : H lg = none
  ne : la ≠ lg
theorem NewWr.wr {K : PySem.W.Frag} {H H' : Hp} {p la lg : Addr} {w : Int} {a g : List Int} (h : NewWr H H' p la lg w a g) : WrAt K H' p la lg w a g := ⟨.of h.t, .of h.a, .of h.g⟩
/-- written, and the law's own long division -/
inductive spDivided (vs : List V) (H : Hp) (Q : VK) (u3 : XK) : Prop
  | mk : ∀ b t q : Int, (vs = [.int b, .int t, .int q]) → (2 ≤ b) → (b ≤ 36) → (0 ≤ t) → (t ≤ 1000000000000) → (1 ≤ q) → (q ≤ 2000) → (∀ (w : Int) (a g : List Int) (p la lg : Addr) (H' : Hp), RF.DivIs b t q w a g → NewWr H H' p la lg w a g → Q (.ref p) H') → spDivided vs H Q u3
/-- law's: a list of at most 63 ints is handed in, True comes out -/
inductive spLaw (K : PySem.W.Frag) (vs : List V) (H : Hp) (Q : VK) (u3 : XK) : Prop
  | mk : ∀ (a : Addr) (ns : List Int), (vs = [.ref a]) → (SqL K H a (ns.map V.int)) → (ns.length ≤ 63) → (∀ H', Q (.bl true) H') → spLaw K vs H Q u3
/-! small facts -/
theorem atI_int {ns : List Int} {k : Int} (h0 : 0 ≤ k) (h1 : k < ns.length) : atI (ns.map V.int) k = some (.int (ns.getD k.toNat 0)) := by
  obtain ⟨j, rfl⟩ : ∃ j : Nat, k = (j : Int) := ⟨k.toNat, by omega⟩
  rw [Int.toNat_natCast]
  apply atI_nat
  have hl : j < ns.length := by omega
  simp [List.getD_eq_getElem?_getD, List.getElem?_eq_getElem hl]
theorem getD_out {ns : List Int} {k : Int} (h1 : ¬ k < ns.length) : ns.getD k.toNat 0 = 0 := by
  have hl : ns.length ≤ k.toNat := by omega
  simp [List.getD_eq_getElem?_getD, List.getElem?_eq_none hl]
theorem pow12 : (10 : Int) ^ (12 : Int).toNat = 1000000000000 := by decide
/-! the dict of rests -/
open RF in
def seen (b q r : Int) (n : Nat) : List (Key × V) := (List.range n).map fun i => (Sum.inl (rst b q r i), V.int (i : Int))
open RF in
theorem seen_none {b q r : Int} {n : Nat} {x : Int} (h : ∀ i, i < n → rst b q r i ≠ x) : valV (seen b q r n) (Sum.inl x : Key) = none := by
  unfold valV
  rw [Option.map_eq_none_iff, List.find?_eq_none]
  intro p hp
  obtain ⟨i, hi, rfl⟩ := List.mem_map.mp hp
  have := h i (List.mem_range.mp hi)
  simp
  exact this
open RF in
theorem seen_some {b q r : Int} {n k : Nat} {x : Int} (hk : k < n) (e : rst b q r k = x) (h : ∀ i j, i < j → j < n → rst b q r i ≠ rst b q r j) : valV (seen b q r n) (Sum.inl x : Key) = some (V.int (k : Int)) := by
  unfold valV
  have : (seen b q r n).find? (fun kv => decide (kv.1 = (Sum.inl x : Key))) = some (Sum.inl (rst b q r k), V.int (k : Int)) := by
    rw [List.find?_eq_some_iff_getElem]
    refine ⟨by simp [e], k, by simpa [seen] using hk, by simp [seen], fun j hj => ?_⟩
    have := h j k hj hk
    rw [e] at this
    simp [seen]
    exact this
  rw [this]; rfl
open RF in
theorem seen_put {b q r : Int} {n : Nat} (F : ∀ i, i < n → rst b q r i ≠ rst b q r n) : putK (seen b q r n) (Sum.inl (rst b q r n) : Key) (V.int (n : Int)) = seen b q r (n + 1) := by
  rw [putK_new _ (seen_none F)]
  simp [seen, List.range_succ]
theorem seen_length {b q r : Int} {n : Nat} : (seen b q r n).length = n := by simp [seen]
open RF in
/-- a rest that was met stands in the dict -/
theorem seen_or {b q r : Int} {n : Nat} (x : Int) : (∀ i, i < n → rst b q r i ≠ x) ∨ ∃ k, k < n ∧ rst b q r k = x := by
  by_cases h : ∃ k, k < n ∧ rst b q r k = x
  · exact .inr h
  · exact .inl fun i hi e => h ⟨i, hi, e⟩
theorem cut_take {ns : List Int} {k : Nat} (h : k ≤ ns.length) : cutV (ns.map V.int) none (some (k : Int)) = (ns.take k).map V.int := by
  rw [map_int_cut, HT.sIx_none, HT.sIx_nat, List.drop_zero, Nat.sub_zero, Nat.min_eq_left h]
theorem cut_drop {ns : List Int} {k : Nat} (h : k ≤ ns.length) : cutV (ns.map V.int) (some (k : Int)) none = (ns.drop k).map V.int := by
  rw [map_int_cut, HT.sIx_none, HT.sIx_nat, Nat.min_eq_left h]
  congr 1
  apply List.take_of_length_le
  rw [List.length_drop]; omega
theorem size2000 {n : Nat} (h : n ≤ 100000) : n < sizeLine := Nat.lt_of_le_of_lt h (by decide)
end My
namespace My
open PySem L2
theorem NewWr.mk1 {H H1 : Hp} {p la lg : Addr} {w : Int} {a g : List Int} (sm : Same H H1) (ha : H1 la = some (.lst (a.map V.int))) (na : H la = none) (hg : H1 lg = none) (hp : upd H1 lg (.lst (g.map V.int)) p = none) :
    NewWr H (upd (upd H1 lg (.lst (g.map V.int))) p (.tup [.int w, .ref la, .ref lg])) p la lg w a g := by
  have npg : p ≠ lg := fun e => by rw [e, upd_same] at hp; cases hp
  have hp1 : H1 p = none := by rw [upd_ne npg] at hp; exact hp
  have nla : la ≠ lg := ne_of_none ha hg
  have npl : la ≠ p := ne_of_none ha hp1
  refine ⟨(sm.trans (Same.upd hg)).trans (Same.upd hp), upd_same, ?_, ?_, sm.free hp1, na, sm.free hg, nla⟩
  · rw [upd_ne npl, upd_ne nla]; exact ha
  · rw [upd_ne npg.symm]; exact upd_same
theorem NewWr.mk2 {H H1 : Hp} {p la lg : Addr} {w : Int} {a g : List Int} (sm : Same H H1) (ha : H1 la = none) (hg : upd H1 la (.lst (a.map V.int)) lg = none) (hp : upd (upd H1 la (.lst (a.map V.int))) lg (.lst (g.map V.int)) p = none) :
    NewWr H (upd (upd (upd H1 la (.lst (a.map V.int))) lg (.lst (g.map V.int))) p (.tup [.int w, .ref la, .ref lg])) p la lg w a g :=
  NewWr.mk1 (sm.trans (Same.upd ha)) upd_same (sm.free ha) hg hp
end My
namespace My
open PySem L2
/-- a writing that is none of the refused ones -/
structure GoodW (b w : Int) (a g : List Int) : Prop where
  w0 : 0 ≤ w
  w1 : w ≤ 1000000000000
  fa : RF.Figs b a
  fg : RF.Figs b g
  la : a.length ≤ 4000
  lg : g.length ≤ 4000
inductive spCheckFigures (K : PySem.W.Frag) (vs : List V) (H : Hp) (Q : VK) (u3 : XK) : Prop
  | mk : ∀ (b : Int) (l : Addr) (ns : List Int), (vs = [.int b, .ref l]) → (SqL K H l (ns.map V.int)) → (ns.length ≤ 4000) → (RF.Figs b ns) → (Q .non H) → spCheckFigures K vs H Q u3
inductive spCheckWriting (K : PySem.W.Frag) (vs : List V) (H : Hp) (Q : VK) (u3 : XK) : Prop
  | mk : ∀ (b : Int) (p la lg : Addr) (x : Int) (a g : List Int), (vs = [.int b, .ref p]) → (WrAt K H p la lg x a g) → (GoodW b x a g) → (Q .non H) → spCheckWriting K vs H Q u3
inductive spNumberOf (K : PySem.W.Frag) (vs : List V) (H : Hp) (Q : VK) (u3 : XK) : Prop
  | mk : ∀ (b : Int) (l : Addr) (ns : List Int), (vs = [.int b, .ref l]) → (SqL K H l (ns.map V.int)) → (2 ≤ b) → (b ≤ 36) → (Q (.int (RF.num b ns)) H) → spNumberOf K vs H Q u3
inductive spPower (vs : List V) (H : Hp) (Q : VK) (u3 : XK) : Prop
  | mk : ∀ (b n : Int), (vs = [.int b, .int n]) → (2 ≤ b) → (b ≤ 36) → (0 ≤ n) → (n ≤ 100000) → (Q (.int (b ^ n.toNat)) H) → spPower vs H Q u3
inductive spCommon (vs : List V) (H : Hp) (Q : VK) (u3 : XK) : Prop
  | mk : ∀ (x y : Int), (vs = [.int x, .int y]) → (0 ≤ x) → (0 ≤ y) → (Q (.int (Int.gcd x y : Nat)) H) → spCommon vs H Q u3
/-- the divisions of a worth are short ones -/
def DivOk (N B : Int) : Prop := Builtin.divisionGoesByPylong B (Int.gcd N B : Nat) = false ∧ Builtin.divisionGoesByPylong N (Int.gcd N B : Nat) = false
inductive spWorth (K : PySem.W.Frag) (vs : List V) (H : Hp) (Q : VK) (u3 : XK) : Prop
  | mk : ∀ (b : Int) (p la lg : Addr) (x : Int) (a g : List Int), (vs = [.int b, .ref p]) → (2 ≤ b) → (b ≤ 36) → (WrAt K H p la lg x a g) → (GoodW b x a g) → (DivOk (RF.num b a * RF.rM b g + RF.num b g) (RF.wB b a g)) → (∀ (p' : Addr) (H' : Hp), Same H H' → H p' = none → H' p' = some (.tup [.int (RF.low (RF.wT b x a g) (RF.wB b a g)).1, .int (RF.low (RF.wT b x a g) (RF.wB b a g)).2]) → Q (.ref p') H') → spWorth K vs H Q u3
inductive spCopy (K : PySem.W.Frag) (vs : List V) (H : Hp) (Q : VK) (u3 : XK) : Prop
  | mk : ∀ (p la lg : Addr) (x : Int) (a g : List Int), (vs = [.ref p]) → (WrAt K H p la lg x a g) → (∀ (p' la' lg' : Addr) (H' : Hp), NewWr H H' p' la' lg' x a g → Q (.ref p') H') → spCopy K vs H Q u3
theorem mem_int {ns : List Int} {i : Nat} {y : V} (h : (ns.map V.int)[i]? = some y) : ∃ n, y = V.int n ∧ ns[i]? = some n := by
  rw [List.getElem?_map] at h
  cases e : ns[i]? with
  | none => rw [e] at h; cases h
  | some n => rw [e] at h; exact ⟨n, (Option.some.inj h).symm, rfl⟩
theorem mulOk_worth {b : Int} {a g : List Int} {x : Int} {n : Nat} (b2 : 2 ≤ b) (b36 : b ≤ 36) (la : a.length ≤ 4000) (lg : g.length ≤ 4000) (hx : x.natAbs ≤ 2 ^ n) (hn : n ≤ 100000) (y : Int) (hy : y.natAbs ≤ 2 ^ (6 * (a.length + g.length))) : IntMulOk x y :=
  mulOk_of (m := n + 1) (n := 6 * (a.length + g.length) + 1) (Nat.lt_of_le_of_lt hx (Nat.pow_lt_pow_right (by decide) (by omega))) (Nat.lt_of_le_of_lt hy (Nat.pow_lt_pow_right (by decide) (by omega))) (by omega)
/-- short writings: all divisions are short -/
theorem divOk_short {b : Int} {a g : List Int} (b2 : 2 ≤ b) (b36 : b ≤ 36) (fa : RF.Figs b a) (fg : RF.Figs b g) (h : a.length + g.length ≤ 1400) (W : Int) : DivOk (W * RF.wB b a g + (RF.num b a * RF.rM b g + RF.num b g)) (RF.wB b a g) := by
  have hB := RF.wB_pos b2 a g
  have hle := RF.wB_le b2 b36 a g
  have h1 : (Int.gcd (W * RF.wB b a g + (RF.num b a * RF.rM b g + RF.num b g)) (RF.wB b a g)) ≤ (RF.wB b a g).natAbs := Nat.le_of_dvd (by omega) (Int.gcd_dvd_natAbs_right _ _)
  have h2 : (Int.gcd (W * RF.wB b a g + (RF.num b a * RF.rM b g + RF.num b g)) (RF.wB b a g)) < 2 ^ 9000 :=
    Nat.lt_of_le_of_lt (Nat.le_trans h1 hle) (Nat.pow_lt_pow_right (by decide) (by omega))
  have h0 : 0 < (Int.gcd (W * RF.wB b a g + (RF.num b a * RF.rM b g + RF.num b g)) (RF.wB b a g)) := Int.gcd_pos_of_ne_zero_right _ (by omega)
  unfold DivOk
  generalize Int.gcd (W * RF.wB b a g + (RF.num b a * RF.rM b g + RF.num b g)) (RF.wB b a g) = G at *
  have h3 : ((G : Nat) : Int).natAbs.log2 < 9000 := by
    rw [Int.natAbs_natCast]
    exact (Nat.log2_lt (by omega)).mpr h2
  exact ⟨PyProof.noPylong_of_log2 h3, PyProof.noPylong_of_log2 h3⟩
end My
namespace My
open PySem L2
theorem NewWr.up {H H1 H2 : Hp} {p la lg : Addr} {w : Int} {a g : List Int} (s : Same H H1) (n : NewWr H1 H2 p la lg w a g) : NewWr H H2 p la lg w a g :=
  ⟨s.trans n.sm, n.t, n.a, n.g, s.free n.np, s.free n.na, s.free n.ng, n.ne⟩
theorem cut_last {ns : List Int} {y : Int} : cutV ((ns ++ [y]).map V.int) none (some (-1)) = ns.map V.int := by
  rw [map_int_cut]
  have e : HT.sIx (ns ++ [y]).length (ns ++ [y]).length (some (-1)) = ns.length := by
    show (if (-1 : Int) < 0 then ((-1 : Int) + ((ns ++ [y]).length : Int)).toNat else min (-1 : Int).toNat (ns ++ [y]).length) = ns.length
    rw [if_pos (by decide), List.length_append]
    simp
    omega
  rw [e, HT.sIx_none, List.drop_zero, Nat.sub_zero, List.take_left' rfl]
theorem map_rep (c : Nat) (h : List Int) : (List.replicate c (h.map V.int)).flatten = (RF.rep c h).map V.int := by
  induction c with
  | zero => rfl
  | succ c ih => rw [List.replicate_succ, List.flatten_cons, ih, RF.rep_succ, List.map_append]
theorem atI_back {ns : List Int} {i : Int} {j : Nat} {z : Int} (h0 : i < 0) (h1 : -(ns.length : Int) ≤ i) (hj : (j : Int) = ns.length + i) (hz : ns[j]? = some z) : atI (ns.map V.int) i = some (.int z) := by
  unfold atI ixN
  rw [List.length_map, if_neg (by omega), if_pos h1]
  have e : (i + (ns.length : Int)).toNat = j := by omega
  rw [Option.bind_some, e, List.getElem?_map, hz]; rfl
end My
namespace My
open PySem L2
theorem low_le {t q : Int} (hq : 0 < q) : (RF.low t q).2 ≤ q := by
  show q / (Int.gcd t q : Nat) ≤ q
  exact Int.ediv_le_self _ (Int.le_of_lt hq)
end My

set_option Elab.async false
set_option maxRecDepth 100000
namespace My
open PySem L2
/-! the law's drawn writings -/
def drawF (c k b : Int) : Int :=
  (((c % 2147483647 + 977 * k + 1) * 48271 % 2147483647) * ((c % 2147483647 + 977 * k + 1) * 48271 % 2147483647) % 2147483629 + 40692 * (k + 3)) * 69621 % 2147483647 / 8 % b
theorem drawF_bd (c k : Int) {b : Int} (hb : 0 < b) : 0 ≤ drawF c k b ∧ drawF c k b < b := ⟨Int.emod_nonneg _ (by omega), Int.emod_lt_of_pos _ hb⟩
theorem cmul_mod (x y : Int) : CMul (x % 2147483647) y := .inl ⟨by omega, by omega⟩
inductive spDraw (vs : List V) (H : Hp) (Q : VK) (u3 : XK) : Prop
  | mk : ∀ (c k b : Int), (vs = [.int c, .int k, .int b]) → (0 < b) → (Q (.int (drawF c k b)) H) → spDraw vs H Q u3
def drawL (c b : Int) (n : Nat) : List Int := (List.range n).map fun (i : Nat) => drawF c (0 + (i : Int)) b
theorem drawL_length {c b : Int} {n : Nat} : (drawL c b n).length = n := by simp [drawL]
theorem drawL_figs {c b : Int} {n : Nat} (hb : 0 < b) : RF.Figs b (drawL c b n) := fun d hd => by
  obtain ⟨i, _, rfl⟩ := List.mem_map.mp hd
  exact drawF_bd c _ hb
inductive spFiguresBy (vs : List V) (H : Hp) (Q : VK) (u3 : XK) : Prop
  | mk : ∀ (c b n : Int), (vs = [.int c, .int b, .int n]) → (2 ≤ b) → (b ≤ 36) → (0 ≤ n) → (n ≤ 1000) → (∀ (ns : List Int) (l : Addr), ns.length = n.toNat → RF.Figs b ns → H l = none → Q (.ref l) (upd H l (.lst (ns.map V.int)))) → spFiguresBy vs H Q u3
/-- two new lists -/
structure NewLs (H H' : Hp) (la lg : Addr) (a g : List Int) : Prop where
  sm : Same H H'
  a : H' la = some (.lst (a.map V.int))
  g : H' lg = some (.lst (g.map V.int))
  na : H la = none
  ng : H lg = none
  ne : la ≠ lg
theorem NewLs.ring {H H' : Hp} {la lg l : Addr} {a g h : List Int} (n : NewLs H H' la lg a g) (hl : H' l = none) : NewLs H (upd H' l (.lst (h.map V.int))) la l a h :=
  ⟨n.sm.trans (Same.upd hl), (Same.upd hl) _ _ n.a, upd_same, n.na, n.sm.free hl, ne_of_none n.a hl⟩
theorem NewLs.ahead {H H' : Hp} {la lg l : Addr} {a g h : List Int} (n : NewLs H H' la lg a g) (hl : H' l = none) : NewLs H (upd H' l (.lst (h.map V.int))) l lg h g :=
  ⟨n.sm.trans (Same.upd hl), upd_same, (Same.upd hl) _ _ n.g, n.sm.free hl, n.ng, (ne_of_none n.g hl).symm⟩
theorem NewLs.more {H H' : Hp} {la lg l : Addr} {a g : List Int} {o : HO} (n : NewLs H H' la lg a g) (hl : H' l = none) : NewLs H (upd H' l o) la lg a g :=
  ⟨n.sm.trans (Same.upd hl), (Same.upd hl) _ _ n.a, (Same.upd hl) _ _ n.g, n.na, n.ng, n.ne⟩
theorem NewLs.wr {H H' : Hp} {la lg p : Addr} {a g : List Int} {x : Int} (n : NewLs H H' la lg a g) (hp : H' p = none) : NewWr H (upd H' p (.tup [.int x, .ref la, .ref lg])) p la lg x a g :=
  ⟨n.sm.trans (Same.upd hp), upd_same, (Same.upd hp) _ _ n.a, (Same.upd hp) _ _ n.g, n.sm.free hp, n.na, n.ng, n.ne⟩
inductive spWritingBy (K : PySem.W.Frag) (vs : List V) (H : Hp) (Q : VK) (u3 : XK) : Prop
  | mk : ∀ (sc : Addr) (ns : List Int) (i b : Int), (vs = [.ref sc, .int i, .int b]) → (SqL K H sc (ns.map V.int)) → (0 ≤ i) → (2 ≤ b) → (b ≤ 36) → (∀ (x : Int) (a g : List Int) (p la lg : Addr) (H' : Hp), GoodW b x a g → a.length ≤ 130 → g.length ≤ 140 → NewWr H H' p la lg x a g → Q (.ref p) H') → spWritingBy K vs H Q u3
theorem divOk_short0 {b : Int} {a g : List Int} (b2 : 2 ≤ b) (b36 : b ≤ 36) (fa : RF.Figs b a) (fg : RF.Figs b g) (h : a.length + g.length ≤ 1400) : DivOk (RF.num b a * RF.rM b g + RF.num b g) (RF.wB b a g) := by
  have := divOk_short b2 b36 fa fg h 0
  rw [Int.zero_mul, Int.zero_add] at this
  exact this
end My
namespace My
open PySem L2
theorem map_const (n : Nat) (z : Int) : ((List.range n).map fun _ => V.int z) = (List.replicate n z).map V.int := by
  rw [List.map_replicate]
  apply List.eq_replicate_iff.mpr
  refine ⟨by simp, fun v hv => ?_⟩
  obtain ⟨_, _, rfl⟩ := List.mem_map.mp hv
  rfl
theorem figs_append {b : Int} {a g : List Int} (ha : RF.Figs b a) (hg : RF.Figs b g) : RF.Figs b (a ++ g) := fun d hd => (List.mem_append.mp hd).elim (ha d) (hg d)
theorem figs_replicate {b z : Int} {n : Nat} (h0 : 0 ≤ z) (h1 : z < b) : RF.Figs b (List.replicate n z) := fun d hd => by rw [List.eq_of_mem_replicate hd]; exact ⟨h0, h1⟩
theorem figs_rep {b : Int} {a : List Int} {n : Nat} (ha : RF.Figs b a) : RF.Figs b (RF.rep n a) := fun d hd => ha d (RF.rep_mem hd)
/-- two lists as ahead and ring, with bounds of their lengths -/
inductive WBy (H : Hp) (sc : Addr) (i b x c : Int) (A G : Nat) (σ : St) (H' : Hp) : Prop
  | mk : ∀ (la lg : Addr) (a g : List Int) (wv : Int), (σ = [some (.ref sc), some (.int i), some (.int b), some (.int x), some (.int c), some (.ref la), some (.ref lg), some (.int wv)]) → (NewLs H H' la lg a g) → (RF.Figs b a) → (RF.Figs b g) → (a.length ≤ A) → (g.length ≤ G) → WBy H sc i b x c A G σ H'
end My
namespace My
open PySem L2
theorem cut_ex (g : List Int) (lo hi : Option Int) : ∃ g' : List Int, cutV (g.map V.int) lo hi = g'.map V.int ∧ (∀ d, d ∈ g' → d ∈ g) ∧ g'.length ≤ g.length :=
  ⟨_, map_int_cut, fun d hd => List.mem_of_mem_drop (List.mem_of_mem_take hd), by rw [List.length_take, List.length_drop]; omega⟩
end My
namespace My
open PySem L2
end My
namespace My
open PySem L2
theorem low_nonneg {T B : Int} (hT : 0 ≤ T) : 0 ≤ (RF.low T B).1 := Int.ediv_nonneg hT (by omega)
theorem wT_nonneg {b x : Int} {a g : List Int} (b2 : 2 ≤ b) (gw : GoodW b x a g) : 0 ≤ RF.wT b x a g := by
  unfold RF.wT
  have h1 := Int.mul_nonneg gw.w0 (Int.le_of_lt (RF.wB_pos b2 a g))
  have h2 := (RF.wN_bd b2 gw.fa gw.fg).1
  omega
end My

set_option Elab.async false
set_option maxRecDepth 100000
namespace My
open PySem L2
end My
namespace My
open PySem L2
end My

set_option Elab.async false
set_option maxRecDepth 100000
namespace My
open PySem L2
/-! promises of the second stage -/
inductive spLengths (vs : List V) (H : Hp) (Q : VK) (u3 : XK) : Prop
  | mk : ∀ b q : Int, (vs = [.int b, .int q]) → (2 ≤ b) → (b ≤ 36) → (1 ≤ q) → (q ≤ 2000) → (∀ (k r : Nat) (p : Addr) (H' : Hp), RF.Len b q k r → Same H H' → H p = none → H' p = some (.tup [.int (k : Int), .int (r : Int)]) → Q (.ref p) H') → spLengths vs H Q u3
inductive spFigureAt (vs : List V) (H : Hp) (Q : VK) (u3 : XK) : Prop
  | mk : ∀ b t q n : Int, (vs = [.int b, .int t, .int q, .int n]) → (2 ≤ b) → (b ≤ 36) → (0 ≤ t) → (t ≤ 1000000000000) → (1 ≤ q) → (q ≤ 2000) → (0 ≤ n) → (n < 10 ^ 40) → (∀ (z : Int) (H' : Hp), z = RF.fig b q (t % q) n.toNat → Same H H' → Q (.int z) H') → spFigureAt vs H Q u3
theorem pow_mod_int (b j L : Nat) : ((b : Int) ^ j % (L : Int)) = ((b ^ j % L : Nat) : Int) := by rw [Int.natCast_emod, Int.natCast_pow]
theorem left_pos {b q i : Nat} (hq : 0 < q) : 0 < RF.left b q i := by
  have e := RF.left_mul b q i
  exact Nat.pos_of_ne_zero fun z => by rw [z] at e; omega
theorem left_le {b q i : Nat} : RF.left b q i ≤ q := Nat.div_le_self _ _
/-- one of a list of ints -/
theorem pickI {ns : List Int} {xs : List V} {i : Int} {n : Nat} {R : Int → Prop} (hx : xs = ns.map V.int) (hn : ns.length = n) (h0 : 0 ≤ i) (h1 : i < n) (h : ∀ d ∈ ns, R d) : ∃ y, atI xs i = some (.int y) ∧ R y := by
  subst hx
  subst hn
  refine ⟨_, atI_int h0 h1, ?_⟩
  have hl : i.toNat < ns.length := by omega
  rw [List.getD_eq_getElem?_getD, List.getElem?_eq_getElem hl]
  exact h _ (List.getElem_mem hl)
end My

set_option Elab.async false
set_option maxRecDepth 100000
namespace My
open PySem L2
inductive spCheckBottom (vs : List V) (H : Hp) (Q : VK) (u3 : XK) : Prop
  | mk : ∀ q : Int, (vs = [.int q]) → (1 ≤ q) → (q ≤ 2000) → (Q .non H) → spCheckBottom vs H Q u3
/-- long division of any top -/
inductive spDividedOut (vs : List V) (H : Hp) (Q : VK) (u3 : XK) : Prop
  | mk : ∀ b t q : Int, (vs = [.int b, .int t, .int q]) → (2 ≤ b) → (b ≤ 36) → (0 ≤ t) → (1 ≤ q) → (q ≤ 2000) → (∀ (w : Int) (a g : List Int) (p la lg : Addr) (H' : Hp), RF.DivIs b t q w a g → NewWr H H' p la lg w a g → Q (.ref p) H') → spDividedOut vs H Q u3
/-- the ring's length of what is left of a bottom -/
def RLen (b L r : Nat) : Prop := (L = 1 ∧ r = 0) ∨ (1 < L ∧ 0 < r ∧ L ∣ b ^ r - 1 ∧ ∀ m, 0 < m → m < r → ¬ L ∣ b ^ m - 1)
inductive spRingLength (vs : List V) (H : Hp) (Q : VK) (u3 : XK) : Prop
  | mk : ∀ b L : Nat, (vs = [.int (b : Int), .int (L : Int)]) → (2 ≤ b) → (b ≤ 36) → (0 < L) → (L ≤ 2000) → (Nat.Coprime L b) → (∀ r : Nat, RLen b L r → Q (.int (r : Int)) H) → spRingLength vs H Q u3
inductive spPowerRest (vs : List V) (H : Hp) (Q : VK) (u3 : XK) : Prop
  | mk : ∀ b n q : Int, (vs = [.int b, .int n, .int q]) → (2 ≤ b) → (b ≤ 36) → (0 ≤ n) → (1 ≤ q) → (q ≤ 2000) → (∀ z : Int, 0 ≤ z → z ≤ 2000 → z % q = b ^ n.toNat % q → Q (.int z) H) → spPowerRest vs H Q u3
end My

set_option Elab.async false
set_option maxRecDepth 100000
namespace L2
open PySem PySem.Spec PyProof.Rows
/-! ### texts: sign by sign -/
section
variable {X : Cx} {tg : Expr}
end
/-! ### methods of texts -/
section
variable {X : Cx}
theorem vals_strs : ∀ {ts : List Str} {us : List Value}, Vals (ts.map V.str) us → ∃ l : List (Str × Tok), us = strValues l ∧ l.map (·.1) = ts
  | [], _, .nil => ⟨[], rfl, rfl⟩
  | t :: ts, _, .cons r q => by
    obtain ⟨l, e, h⟩ := vals_strs q
    obtain ⟨k, rfl⟩ := (show ∃ k, _ = Value.str t k from r)
    exact ⟨(t, k) :: l, by rw [e]; rfl, by rw [List.map_cons, h]⟩
inductive rJoin (K : PySem.W.Frag) (x : V) (vs : List V) (H : Hp) (Q : VK) : Prop
  | mk : ∀ z a ts, (x = .str z) → (vs = [.ref a]) → (SqL K H a (ts.map V.str)) → (JoinOk z ts = true) → (Q (.str (PySem.Txt.join z ts)) H) → rJoin K x vs H Q
theorem mt_join : MtR X "str.join" (rJoin X.K) := by
  intro pins s σ H x vs v us Q I rx rv h
  obtain ⟨z, a, ts, rfl, rfl, hS, hok, q⟩ := h
  obtain ⟨t, rfl⟩ := rx
  obtain ⟨u, rfl, ru⟩ := rv.one
  cases ru
  obtain ⟨its, r, pl, _⟩ := I.list hS
  obtain ⟨l, rfl, hl⟩ := vals_strs r
  exact SC.join pl.isList hl hok fun t' k => ⟨.str _, H, I.tok k, ⟨t', rfl⟩, q⟩
end
/-- a text of the module's top -/
def IsStr (mg : Str → Option Value) (name : Str) (z : Str) : Prop := ∃ t, mg name = some (.str z t)
section
variable {X : Cx} {x : Str} {pos : Pos}
theorem pe_globS {z : Str} (h : IsStr X.mg x z) (hg : Gl X x) (hd : (x == ("__debug__" : Str)) = false := by decide) : PE X (.Name x pos) (tC (.str z)) := by
  obtain ⟨t, h⟩ := h
  exact pe_glob hg h ⟨t, rfl⟩ hd
end
/-! ### what the methods tell, by lists of signs -/
theorem join_signs (l : List Nat) : PySem.Txt.join ⟨#[]⟩ (l.map fun c => (⟨#[c]⟩ : Str)) = ⟨l.toArray⟩ := by
  show PySem.Builtin.Str.glued ⟨#[]⟩ _ = _
  rw [StrLaws.glued_eq_join]
  induction l with
  | nil => rfl
  | cons a l ih =>
    cases l with
    | nil => rfl
    | cons b l =>
      show (⟨#[a]⟩ : Str) ++ ⟨#[]⟩ ++ Str.join ⟨#[]⟩ ((b :: l).map fun c => (⟨#[c]⟩ : Str)) = _
      rw [ih]
      show (⟨#[a] ++ #[] ++ (b :: l).toArray⟩ : Str) = _
      simp
theorem joinOk_signs {l : List Nat} (h : l.length ≤ 16777216) : JoinOk ⟨#[]⟩ (l.map fun c => (⟨#[c]⟩ : Str)) = true :=
  joinOk_signsN (sep := ⟨#[]⟩) (y := ⟨l.toArray⟩) (N := l.length) (S := 0) (by simp [Str.length]) (Nat.le_refl _) (by omega)
end L2

set_option Elab.async false
set_option maxRecDepth 100000
namespace L2
open PySem PySem.Spec PyProof.Rows
/-! ### a, b, c = a list -/
section
variable {prog : Program} {w : World} {A : Around} {E : Value → Shared → Prop}
end
section
variable {X : Cx} {pos : Pos}
end
/-! ### insert -/
theorem insert_call {prog : Program} {w : World} {A : Around} {E : Value → Shared → Prop} {s : Shared} {D : Addr} {li : List Value} {n : Nat} {x : Int} {u : Tok} {y : Value} {Q : Value → Shared → Prop} (z : s.heap.get? D = some { cls := .type "list", data := .seq li.toArray n }) (hf : Builtin.List.listFitsIndex x = true) (hz : li.length ≤ sizeLine)
    (h : Q .none { s with heap := s.heap.update D (Obj.mapSeq fun xs => have k := if x < 0 then (x + ((xs.size : Nat) : Int)).toNat else min x.toNat xs.size; (xs.extract 0 k).push y ++ xs.extract k), toks := s.toks }) :
    wpAny (model prog w) A (call (.builtin "list.insert") [.ref D, .int x u, y]) Q E s := by
  refine call_meets PySem.F.slot_list_insert ⟨_, z, rfl⟩ PySem.F.entry_list_insert (PySem.F.args_list_insert_3 _ _ _) (PySem.AutoSeq1.list_insert_list_int_val_1 D _ n x u y (by simp [hf]) (by rw [List.size_toArray]; exact hz)) ⟨z, h⟩
section
variable {X : Cx}
inductive rInsert (x : V) (vs : List V) (H : Hp) (Q : VK) : Prop
  | mk : ∀ (l : Addr) (xs : List V) (i : Nat) (y : V), (x = .ref l) → (vs = [.int (i : Int), y]) → (H l = some (.lst xs)) → (i ≤ xs.length) → (xs.length < sizeLine) → (Q .non (upd H l (.lst (xs.take i ++ y :: xs.drop i)))) → rInsert x vs H Q
theorem mt_insert : MtM X "list.insert" rInsert := by
  intro pins s σ H x vs v us Q I rx rv h
  obtain ⟨l, xs, i, y, rfl, rfl, hH, hi, hz, q⟩ := h
  cases rx
  obtain ⟨u0, u, rfl, r0, ru⟩ := rv.two
  obtain ⟨t, rfl⟩ := r0
  obtain ⟨z, its, n, r, hl, e⟩ := I.lstM hH
  have hn := line63
  have hf : Builtin.List.listFitsIndex (i : Int) = true := by
    unfold Builtin.List.listFitsIndex
    rw [Bool.and_eq_true, decide_eq_true_iff, decide_eq_true_iff]
    omega
  refine insert_call e hf (by omega) ?_
  refine ⟨.non, _, I.lset (its' := its.take i ++ u :: its.drop i) hH e ?_ ((r.take i).append (.cons ru (r.drop i))) ?_, rfl, q⟩
  · have h1 : ¬ ((i : Int) < 0) := by omega
    have h2 : min i its.length = i := by omega
    simp only [h1, if_false, Int.toNat_natCast, List.size_toArray, h2]
    simp
    exact List.take_of_length_le (by rw [List.length_drop]; exact Nat.le_refl _)
  · rw [List.length_append, List.length_cons, List.length_take, List.length_drop]
    omega
end
/-! ### == and != of lists of writings -/
section
variable {X : Cx}
end
end L2
namespace L2
open PySem
end L2

set_option Elab.async false
set_option maxRecDepth 100000
namespace My
open PySem L2
/-! texts -/
abbrev txt (l : List Nat) : Str := ⟨l.toArray⟩
theorem txt_len (l : List Nat) : (txt l).length = l.length := by simp [Str.length]
abbrev signsT : Str := "0123456789abcdefghijklmnopqrstuvwxyz"
theorem signs_list : signsT.cps.toList = (List.range 36).map RF.sgn := by decide +kernel
theorem signs_len : signsT.length = 36 := by decide +kernel
theorem signs_at {d : Nat} (h : d < 36) : atI signsT.cps.toList (d : Int) = some (RF.sgn d) := by
  apply atI_nat
  rw [signs_list, List.getElem?_map, List.getElem?_range h]; rfl
theorem small_text {n : Nat} (h : n ≤ 20000) : n ≤ sizeLine := Nat.le_trans h (by decide)
end My

set_option Elab.async false
set_option maxRecDepth 100000
namespace L2
open PySem PySem.Spec PyProof.Rows
/-! ### exceptions of own classes: raised, passed on, caught -/
/-- a raised exception and its newest entry; fl: the frame that stands in it -/
structure Trc (h B : Heap) (a : Addr) (cls fl : Value) (oe ot : Obj) (vs ts : Array Value) (T : Addr) : Prop where
  oa : h.get? a = some oe
  cl : oe.cls = cls
  nd : oe.dict = none
  da : oe.data = .fields vs
  en : vs[1]? = some (.ref T)
  nw : B.get? T = none
  ne : T ≠ a
  oT : h.get? T = some ot
  dT : ot.data = .fields ts
  fl3 : ts[3]? = some fl
structure Fly (B : Heap) (l : List Env) (a : Addr) (cls fl : Value) (h : Heap) : Prop where
  st : B.StaysIn h
  nw : B.get? a = none
  fr : h.FunFrames B l
  tr : ∃ oe oT vs ts T, Trc h B a cls fl oe oT vs ts T
/-- how a raised exception stands in a frame: flying, noted by this frame, or just made -/
def Stage (B : Heap) (l : List Env) (_L a : Addr) (cls : Value) (h : Heap) : Prop :=
  (∃ fl, Fly B l a cls fl h) ∨ ∃ h1 args, B.StaysIn h1 ∧ h1.FunFrames B l ∧ Heap.MadeExcOf h1 h a cls args
section
variable {M : Model} {A : Around} {E : Value → Shared → Prop} {s : Shared} {B : Heap} {env : Env} {outer : List Env} {L a : Addr} {cls fl : Value}
theorem Stage.frames {l : List Env} {h : Heap} (x : Stage B l L a cls h) : h.FunFrames B l := by
  rcases x with ⟨_, x⟩ | ⟨h1, _, _, f, m⟩
  · exact x.fr
  · exact f.of_keeps fun b o e _ => ⟨o, m.keeps b o e, rfl⟩
/-- a fresh one is new to the base -/
theorem made_new {h1 : Heap} (k : B.StaysIn h1) {b : Addr} (hb : h1.get? b = none) : B.get? b = none := by
  cases q : B.get? b with
  | none => rfl
  | some o => rw [k b o q] at hb; cases hb
/-- the mark of the newest entry is put -/
theorem Fly.mark {Q : Unit → Shared → Prop} {l : List Env} {fr : Option Addr} (x : Fly B l a cls fl s.heap) (hQ : ∀ h', Fly B l a cls (fr.elim Value.none fun f => rawInt f) h' → s.heap.UpToSlots h' → Q () { s with heap := h' }) :
    wpAny M A (setFlight (.ref a) fr) Q E s := by
  obtain ⟨st, new, ff, oe, oT, vs, ts, T, y⟩ := x
  have sz : 3 < ts.size := (Array.getElem?_eq_some_iff.mp y.fl3).1
  have oth : ∀ b, b ≠ T → (s.heap.update T (Obj.mapFields (·.setIfInBounds 3 (fr.elim Value.none fun f => rawInt f)))).get? b = s.heap.get? b := fun b hb => Heap.get?_update_other _ _ (Ne.symm hb)
  have nr : ∀ b o, s.heap.get? b = some o → (∀ vs, o.data ≠ .fields vs) → b ≠ T := fun b o hb hn q => by
    have z := y.oT
    rw [← q, hb] at z
    cases z
    exact hn ts y.dT
  unfold setFlight
  refine wpAny_bind (wpAny_field y.oa y.da y.en ?_)
  rw [if_pos (show (Value.ref T != Value.none) = true from by simp)]
  have dT := Obj.data_mapFields y.dT (·.setIfInBounds 3 (fr.elim Value.none fun f => rawInt f))
  refine wpAny_setField y.oT y.dT sz (hQ _ ⟨?_, new, ?_, oe, _, vs, _, T, ⟨(oth a (Ne.symm y.ne)).trans y.oa, y.cl, y.nd, y.da, y.en, y.nw, y.ne, Heap.get?_update_self _ y.oT (Obj.isFreed_of_fields dT), dT, ?_⟩⟩ ?_)
  · intro b o e
    exact (oth b fun q => by rw [q, y.nw] at e; cases e).trans (st b o e)
  · exact ff.of_keeps fun b o e hn => ⟨o, (oth b (nr b o e hn)).trans e, rfl⟩
  · simp [sz]
  · intro b o e hn
    exact ⟨o.slots, (oth b (nr b o e hn)).trans e⟩
theorem dict_map (o : Obj) (f : Array Value → Array Value) : (Obj.mapFields f o).dict = o.dict := by
  obtain ⟨c, d, dt, sl⟩ := o
  cases dt <;> rfl
/-- a new entry for this frame -/
theorem new_entry {Q : Unit → Shared → Prop} {oe : Obj} {vs : Array Value} {hv : Value} {nx : Bool} (hfr : A.frames = some (env :: outer)) (ff : s.heap.FunFrames B (env :: outer)) (hf : env.frame = some L) (st : B.StaysIn s.heap) (new : B.get? a = none)
    (oa : s.heap.get? a = some oe) (cl : oe.cls = cls) (nd : oe.dict = none) (da : oe.data = .fields vs) (sz : 1 < vs.size) (hQ : ∀ h', Fly B (env :: outer) a cls (rawInt L) h' → s.heap.UpToSlots h' → Q () { s with heap := h' }) :
    wpAny M A (do let fo ← frameOf env; let pl ← entryPlaceOf L nx; let nb ← EntryCells.newEntry hv fo .none (rawInt L) .none pl; setField (.ref a) 1 nb) Q E s := by
  have anf : a ∉ (env :: outer).filterMap (·.frame) := fun hm => by
    obtain ⟨_, o, ho, hn⟩ := ff.mem hm
    rw [oa] at ho
    cases ho
    exact hn vs da
  refine wpAny_bind (wpAny_frameOf_fun hfr ff hf fun g1 r1 => ?_)
  refine wpAny_bind (wpAny_entryPlaceOf fun pl hpl => ?_)
  unfold EntryCells.newEntry newFields
  refine wpAny_bind (wpAny_newObj_type ?_ (hpl.sizeOk5 _ _ _ _ _))
  generalize hob : ({ cls := .type "traceback", dict := none, data := .fields ([hv, .ref L, .none, rawInt L, .none] ++ (if pl.isEmpty then List.replicate 6 Value.none else pl)).toArray } : Obj) = tb
  have a1 : g1.get? a = some oe := (r1.2.1 a anf).trans oa
  have b1 : B.StaysIn g1 := fun b o e => (r1.2.1 b fun hm => by rw [(ff.mem hm).1] at e; cases e).trans (st b o e)
  have a2 := Heap.get?_push_of_some tb a1
  refine wpAny_setField a2 da sz ?_
  have Ta : g1.objs.size ≠ a := Nat.ne_of_gt (Heap.lt_size a1)
  have da3 := Obj.data_mapFields da (·.setIfInBounds 1 (Value.ref g1.objs.size))
  have a3 := Heap.get?_update_self (Obj.mapFields (·.setIfInBounds 1 (Value.ref g1.objs.size))) a2 (Obj.isFreed_of_fields da3)
  have T3 : ((g1.push tb).update a (Obj.mapFields (·.setIfInBounds 1 (Value.ref g1.objs.size)))).get? g1.objs.size = some tb := (Heap.get?_update_other _ _ (Ne.symm Ta)).trans (Heap.get?_push_size g1 (by rw [← hob]; rfl))
  have kp : ∀ b o, b ≠ a → g1.get? b = some o → ((g1.push tb).update a (Obj.mapFields (·.setIfInBounds 1 (Value.ref g1.objs.size)))).get? b = some o := fun b o hb e =>
    (Heap.get?_update_other _ _ (Ne.symm hb)).trans (Heap.get?_push_of_some _ e)
  have nr : ∀ b o, s.heap.get? b = some o → (∀ vs, o.data ≠ .fields vs) → b ≠ a := fun b o hb hn q => by
    rw [q, oa] at hb
    cases hb
    exact hn vs da
  refine hQ _ ⟨fun b o e => kp b o (fun q => by rw [q, new] at e; cases e) (b1 b o e), new, ff.of_keeps fun b o e hn => ?_, _, tb, _, _, g1.objs.size, ⟨a3, (Obj.cls_mapFields _ _).trans cl, (dict_map _ _).trans nd, da3, by simp [sz], b1.fresh, Ta, T3, by rw [← hob], ?_⟩⟩ fun b o e hn => ?_
  · obtain ⟨sl, q⟩ := r1.2.2 b o e
    exact ⟨_, kp b _ (nr b o e hn) q, rfl⟩
  · rcases hpl with rfl | ⟨_, _, _, _, _, _, _, rfl⟩ <;> simp
  · obtain ⟨sl, q⟩ := r1.2.2 b o e
    exact ⟨sl, kp b _ (nr b o e hn) q⟩
/-- noted by the frame -/
theorem Stage.note {Q : Unit → Shared → Prop} (x : Stage B (env :: outer) L a cls s.heap) (hfr : A.frames = some (env :: outer)) (hf : env.frame = some L)
    (hQ : ∀ h', Fly B (env :: outer) a cls (rawInt L) h' → s.heap.UpToSlots h' → Q () { s with heap := h' }) : wpAny M A (noteFrame (.ref a) env) Q E s := by
  rcases x with ⟨fl, x⟩ | ⟨h1, args, k, f, m⟩
  · by_cases hfl : (fl == rawInt L) = true
    · have x' := x
      obtain ⟨_, _, _, oe, oT, vs, ts, T, y⟩ := x'
      unfold noteFrame
      simp only [hf]
      refine wpAny_bind (wpAny_field y.oa y.da y.en ?_)
      rw [if_pos (show (Value.ref T != Value.none) = true from by simp)]
      refine wpAny_bind (wpAny_field y.oT y.dT y.fl3 ?_)
      rw [if_pos hfl]
      exact wpAny_pure (hQ _ (eq_of_beq hfl ▸ x) (.refl _))
    obtain ⟨st, new, ff, oe, oT, vs, ts, T, y⟩ := x
    unfold noteFrame
    simp only [hf]
    refine wpAny_bind (wpAny_field y.oa y.da y.en ?_)
    rw [if_pos (show (Value.ref T != Value.none) = true from by simp)]
    refine wpAny_bind (wpAny_field y.oT y.dT y.fl3 ?_)
    rw [if_neg hfl]
    refine wpAny_bind (wpAny_setField y.oT y.dT (Array.getElem?_eq_some_iff.mp y.fl3).1 ?_)
    have oth : ∀ b, b ≠ T → (s.heap.update T (Obj.mapFields (·.setIfInBounds 3 Value.none))).get? b = s.heap.get? b := fun b hb => Heap.get?_update_other _ _ (Ne.symm hb)
    have nr : ∀ b o, s.heap.get? b = some o → (∀ vs, o.data ≠ .fields vs) → b ≠ T := fun b o hb hn q => by
      have z := y.oT
      rw [← q, hb] at z
      cases z
      exact hn ts y.dT
    refine new_entry hfr (ff.of_keeps fun b o e hn => ⟨o, (oth b (nr b o e hn)).trans e, rfl⟩) hf (fun b o e => (oth b fun q => by rw [q, y.nw] at e; cases e).trans (st b o e)) new ((oth a (Ne.symm y.ne)).trans y.oa) y.cl y.nd y.da (Array.getElem?_eq_some_iff.mp y.en).1 fun h' z u => hQ h' z fun b o e hn => ?_
    exact u b o ((oth b (nr b o e hn)).trans e) hn
  · obtain ⟨t, he, _, _⟩ := m.there
    unfold noteFrame
    simp only [hf]
    refine wpAny_bind (wpAny_field (x := Value.none) he rfl rfl ?_)
    rw [if_neg (by decide)]
    exact new_entry hfr (f.of_keeps fun b o e _ => ⟨o, m.keeps b o e, rfl⟩) hf (fun b o e => m.keeps b o (k b o e)) (made_new k m.new) he rfl rfl rfl (show 1 < 6 by decide) hQ
/-- out of the frame -/
theorem Stage.leave {Q : Unit → Shared → Prop} (x : Stage B (env :: outer) L a cls s.heap) (hfr : A.frames = some (env :: outer)) (hf : env.frame = some L)
    (hQ : ∀ h', Fly B outer a cls .none h' → s.heap.UpToSlots h' → Q () { s with heap := h' }) : wpAny M A (leaving env (.ref a)) Q E s := by
  unfold leaving
  refine wpAny_bind (x.note hfr hf fun h1 y u => ?_)
  refine Fly.mark (s := { s with heap := h1 }) (fr := none) y fun h2 z u2 => ?_
  exact hQ h2 ⟨z.st, z.nw, z.fr.2.2, z.tr⟩ (u.trans u2)
end
/-- what lies behind an exception: H' the abstract heap, held in B; h₀, H₀ those ahead of the call -/
structure Bx (P : Program) (w : World) (outer : List Env) (H₀ : Hp) (h₀ : Heap) (H' : Hp) (B : Heap) : Prop where
  old : ∀ b o, h₀.get? b = some o → H₀ b = none → b ∉ frs outer → B.get? b = some o
  thr : ∀ b o, h₀.get? b = some o → b ∉ frs outer → ∃ o', B.get? b = some o'
  hok : HOk P w H' B
  free : ∀ b o, h₀.get? b = some o → H₀ b = none → H' b = none
  tups : ∀ b xs, H₀ b = some (.tup xs) → H' b = some (.tup xs)
  frzs : ∀ b o u, H₀ b = some (.frz o u) → H' b = some (.frz o u)
  tbls : ∀ b ps, H₀ b = some (.tbl ps) → ∃ more, H' b = some (.tbl (ps ++ more))
/-- the callers' frames: their slots alone may have changed -/
def Slots (outer : List Env) (h₀ h : Heap) : Prop := ∀ b o, h₀.get? b = some o → b ∈ frs outer → ∃ sl, h.get? b = some { o with slots := sl }
theorem Slots.up {outer : List Env} {h₀ h h' B : Heap} (x : Slots outer h₀ h) (f : h.FunFrames B outer) (u : h.UpToSlots h') : Slots outer h₀ h' := fun b o e hb => by
  obtain ⟨sl, e1⟩ := x b o e hb
  obtain ⟨_, o1, e2, hn⟩ := f.mem hb
  rw [e1] at e2
  cases e2
  obtain ⟨sl', e3⟩ := u b _ e1 hn
  exact ⟨sl', e3⟩
theorem Bx.un {P : Program} {w : World} {outer : List Env} {H₀ H' : Hp} {h₀ B h : Heap} (x : Bx P w outer H₀ h₀ H' B) (sl : Slots outer h₀ h) (st : B.StaysIn h) : Un (frs outer) [] H₀ H' h₀ h where
  keep := fun b o e n hb _ => st b o (x.old b o e n hb)
  slot := fun b o e _ hb _ => sl b o e hb
  free := fun b o e n _ => x.free b o e n
  there := fun b o e _ => by
    by_cases hb : b ∈ frs outer
    · obtain ⟨s1, e1⟩ := sl b o e hb
      exact ⟨_, e1⟩
    · obtain ⟨o', e1⟩ := x.thr b o e hb
      exact ⟨o', st b o' e1⟩
  tups := x.tups
  frzs := x.frzs
  tbls := x.tbls
/-- how an exception lies behind a call -/
def CX1 (P : Program) (w : World) : CXT := fun outer H₀ s₀ E v s' => ∃ (a : Addr) (cls : Value) (H' : Hp) (B : Heap),
  v = .ref a ∧ s'.os = s₀.os ∧ AllBare s'.gens ∧ Bx P w outer H₀ s₀.heap H' B ∧ Slots outer s₀.heap s'.heap ∧ Fly B outer a cls .none s'.heap ∧ E cls none H'
/-- an exception within a def's frame -/
inductive RX (P : Program) (w : World) (A : Around) (env : Env) (outer : List Env) (L : Addr) (H₀ : Hp) (s₀ : Shared) (E : XK) (v : Value) (s : Shared) : Prop
  | mk : ∀ (a : Addr) (cls : Value) (H' : Hp) (B : Heap), (v = .ref a) → (A.frames = some (env :: outer)) → (s.os = s₀.os) → (AllBare s.gens) → (Bx P w outer H₀ s₀.heap H' B) → (Slots outer s₀.heap s.heap) → (Stage B (env :: outer) L a cls s.heap) → (E cls none H') → RX P w A env outer L H₀ s₀ E v s
theorem RX.leaves {P : Program} {w : World} {M : Model} {A : Around} {env : Env} {outer : List Env} {L : Addr} {H₀ : Hp} {s₀ s : Shared} {E : XK} {v : Value} {E' : Value → Shared → Prop} (hf : env.frame = some L)
    (x : RX P w A env outer L H₀ s₀ E v s) : wpAny M A (leaving env v) (fun _ s'' => CX1 P w outer H₀ s₀ E v s'') E' s := by
  obtain ⟨a, cls, H', B, rfl, hfr, os, ba, bx, sl, st, e⟩ := x
  refine st.leave hfr hf fun h' fl u => ⟨a, cls, H', B, rfl, os, ba, bx, ?_, fl, e⟩
  have f : s.heap.FunFrames B outer := st.frames.2.2
  exact sl.up f u
theorem RX.own {P : Program} {w : World} {M : Model} {A : Around} {env : Env} {outer : List Env} {L : Addr} {H₀ : Hp} {s₀ : Shared} {E : XK} (hf : env.frame = some L) :
    PassesOwn M A env (RX P w A env outer L H₀ s₀ E) := by
  rintro v s ⟨a, cls, H', B, rfl, hfr, os, ba, bx, sl, st, e⟩
  have f : s.heap.FunFrames B outer := st.frames.2.2
  refine st.note hfr hf fun h' hd u => ?_
  have sl' := sl.up f u
  have f' : h'.FunFrames B outer := hd.fr.2.2
  have hd0 := hd
  obtain ⟨_, _, _, oe, oT, vs, ts, T, y⟩ := hd0
  refine wpAny_bind (wpAny_field y.oa y.da y.en ?_)
  rw [if_neg (by simp), hf]
  refine Fly.mark (s := { s with heap := h' }) (fr := some L) hd fun h'' hd' u' => ?_
  exact ⟨a, cls, H', B, rfl, hfr, os, ba, bx, sl'.up f' u', .inl ⟨_, hd'⟩, e⟩
end L2

set_option Elab.async false
set_option maxRecDepth 100000
namespace L2
open PySem PySem.Spec PyProof.Rows
section
variable {X : Cx} {pins : List (Addr × Obj)} {σ : St} {H : Hp} {s : Shared}
theorem PSs.unR {R : Value → Shared → Prop} {st : List Stmt} {t : TS} (hR : X.Ok → ∀ e s', R e s' → X.xe e s') (h : PSs (X.wish R) st t) : PSs X st t := fun pins s σ H D I hw =>
  wpAny_mono (h pins s σ H D (I.wish _) hw) (fun _ _ q => q.unwish) fun e s' z => hR I.ok e s' z
/-- what the state holds, as B sees it: all but the frames -/
theorem bx_of (I : Inv X pins σ H s) (hst : X.stack = X.env :: X.outer) (hex : X.ex = []) : Bx X.prog X.w X.outer X.H₀ X.s₀.heap H (PySem.W.hideAll s.heap (frs X.stack)) := by
  have nfr : ∀ b o, X.s₀.heap.get? b = some o → b ∉ frs X.outer → b ∉ frs X.stack := fun b o e hb hm => by
    rcases List.mem_cons.mp (I.stkSub b hm) with q | q
    · exact absurd (Heap.lt_size e) (by rw [q]; exact Nat.not_lt.mpr I.ok.above)
    · exact hb q
  have nex : ∀ b : Addr, b ∉ X.ex := fun b z => by rw [hex] at z; cases z
  refine ⟨fun b o e n hb => ?_, fun b o e hb => ?_, fun b u e => ?_, fun b o e n => I.base.free b o e n (nex b), I.base.tups, I.base.frzs, I.base.tbls⟩
  · exact PySem.W.hideAll_get _ (I.base.keep b o e n hb (nex b)) (nfr b o e hb)
  · obtain ⟨o', e'⟩ := I.base.there b o e (nex b)
    exact ⟨o', PySem.W.hideAll_get _ e' (nfr b o e hb)⟩
  · refine (I.hok b u e).stay (fun c v hc q => PySem.W.hideAll_get _ q fun hm => ?_) (fun _ q => q) fun _ _ q => q
    have z := I.stkFree c hm
    rcases hc with rfl | hc
    · rw [z] at e; cases e
    · rw [z] at hc; cases hc
theorem slots_of (I : Inv X pins σ H s) (hex : X.ex = []) : Slots X.outer X.s₀.heap s.heap := fun b o e hb =>
  I.base.slot b o e (I.ok.frf b hb) hb (by rw [hex]; intro z; cases z)
theorem frames_of (I : Inv X pins σ H s) : s.heap.FunFrames (PySem.W.hideAll s.heap (frs X.stack)) X.stack :=
  PySem.W.funFrames_hide I.stack fun env he b hb => List.mem_filterMap.mpr ⟨env, he, hb⟩
/-- raised here -/
theorem raised_of {E : XK} {h' : Heap} {a : Addr} {cls : Value} {args : List Value} {tk : Nat} (I : Inv X pins σ H s) (hst : X.stack = X.env :: X.outer) (hex : X.ex = []) (m : Heap.MadeExcOf s.heap h' a cls args) (he : E cls none H) :
    RX X.prog X.w X.A X.env X.outer X.env.locals X.H₀ X.s₀ E (.ref a) { s with heap := h', toks := tk } := by
  refine ⟨a, cls, H, _, rfl, hst ▸ I.ok.frames, I.os, I.bare, bx_of I hst hex, fun b o e hb => ?_, .inr ⟨s.heap, args, fun b o e => PySem.W.of_hideAll _ e, ?_, m⟩, he⟩
  · obtain ⟨sl, q⟩ := slots_of I hex b o e hb
    exact ⟨sl, m.keeps _ _ q⟩
  · have := frames_of I
    rw [hst] at this ⊢
    exact this
/-- from a callee -/
theorem passed_of {E : XK} {v : Value} {s' : Shared} (I : Inv X pins σ H s) (hst : X.stack = X.env :: X.outer) (hex : X.ex = []) (x : CX1 X.prog X.w X.stack H s E v s') :
    RX X.prog X.w X.A X.env X.outer X.env.locals X.H₀ X.s₀ E v s' := by
  obtain ⟨a, cls, H', B, rfl, os, ba, bx, sl, fl, e⟩ := x
  have nfr : ∀ b o, X.s₀.heap.get? b = some o → b ∉ frs X.outer → b ∉ frs X.stack := fun b o e hb hm => by
    rcases List.mem_cons.mp (I.stkSub b hm) with q | q
    · exact absurd (Heap.lt_size e) (by rw [q]; exact Nat.not_lt.mpr I.ok.above)
    · exact hb q
  have nex : ∀ b : Addr, b ∉ X.ex := fun b z => by rw [hex] at z; cases z
  have sub : ∀ b, b ∈ frs X.outer → b ∈ frs X.stack := fun b hb => by
    rw [hst]
    unfold frs at hb ⊢
    rw [List.filterMap_cons]
    split
    · exact hb
    · exact List.mem_cons_of_mem _ hb
  refine ⟨a, cls, H', B, rfl, hst ▸ I.ok.frames, os.trans I.os, ba, ⟨fun b o e n hb => ?_, fun b o e hb => ?_, bx.hok, fun b o e n => ?_, fun b xs q => bx.tups _ _ (I.base.tups _ _ q), fun b o u q => bx.frzs _ _ _ (I.base.frzs _ _ _ q), fun b ps q => ?_⟩, fun b o e hb => ?_, .inl ⟨_, by rw [← hst]; exact fl⟩, e⟩
  · exact bx.old b o (I.base.keep b o e n hb (nex b)) (I.base.free b o e n (nex b)) (nfr b o e hb)
  · obtain ⟨o', e'⟩ := I.base.there b o e (nex b)
    exact bx.thr b o' e' (nfr b o e hb)
  · obtain ⟨o', e'⟩ := I.base.there b o e (nex b)
    exact bx.free b o' e' (I.base.free b o e n (nex b))
  · obtain ⟨m1, q1⟩ := I.base.tbls _ _ q
    obtain ⟨m2, q2⟩ := bx.tbls _ _ q1
    exact ⟨m1 ++ m2, by rw [q2, Array.append_assoc]⟩
  · obtain ⟨sl1, q⟩ := slots_of I hex b o e hb
    obtain ⟨sl2, q2⟩ := sl b _ q (sub b hb)
    exact ⟨sl2, q2⟩
end
/-- a def of the text that may raise -/
structure GotE (P : Program) (w : World) (K : PySem.W.Frag) (mg : Str → Option Value) (base : Heap) (name : Str) (k : Nat) (ps : List Str) (sp : Sp) : Prop where
  ex : ∃ (f : Addr) (fd : FuncData), FnOk P w K mg base (CX1 P w) k f fd ps sp ∧ Binds K fd ps [] ∧ PySem.W.keepIn K (.ref f) = true ∧ mg name = some (.ref f)
/-- the context of a def's body that may raise -/
abbrev cxE (P : Program) (w : World) (K : PySem.W.Frag) (mg : Str → Option Value) (base : Heap) (N : List Str) (qual : Str) (scope : Scope) (f : Addr) (cd : Value) (A : Around) (outer : List Env) (s : Shared) (H : Hp) (E : XK) : Cx :=
  (cxOf (CX1 P w) P w K mg base N qual scope f cd A outer s H E).wish (RX P w (A.deeper (envOfC qual scope s.heap.objs.size f cd)) (envOfC qual scope s.heap.objs.size f cd) outer s.heap.objs.size H s E)
theorem IsDef.gotE {P : Program} {w : World} {K : PySem.W.Frag} {mg : Str → Option Value} {base : Heap} {name : Str} {st : Stmt} {ps N : List Str} {k : Nat} {sp : Sp} (D : IsDef K mg name st ps) (S : FnScope N ps (defScope st)) (len : ∀ vs H Q E, sp vs H Q E → vs.length = ps.length)
    (hbody : ∀ (f : Addr) (cdv : Value) (A : Around) (outer : List Env) (s : Shared) (H : Hp) (vs : List V) (Q : VK) (E : XK), Room k (A.deeper (envOfC name (defScope st) s.heap.objs.size f cdv)) → sp vs H Q E →
      ∃ t, PSs (cxE P w K mg base N name (defScope st) f cdv A outer s H E) (defBody st) t ∧ t { nx := fun _ H' => Q .non H', rt := Q } (start N vs) H) : GotE P w K mg base name (k + 1) ps sp := by
  obtain ⟨f, fd, F, b, m⟩ := D.ex
  obtain ⟨oc, od, kV, doc, pm, an, cdv, ct, osl, rfl, lk, hcd⟩ := F.ex
  refine ⟨f, _, fn_of lk hcd S len (fun A outer s H vs Q E hr h => ?_), b, F.kp, m⟩
  obtain ⟨t, ht, q⟩ := hbody f cdv A outer s H vs Q E hr h
  exact ⟨t, ht.unR fun _ e s' z => RX.leaves rfl z, q⟩
section
variable {P : Program} {w : World} {K : PySem.W.Frag} {mg : Str → Option Value} {base : Heap} {N : List Str} {qual : Str} {scope : Scope} {f : Addr} {cd : Value} {A : Around} {outer : List Env} {s₀ : Shared} {H₀ : Hp} {E : XK}
theorem passE : Passes (CX1 P w) (cxE P w K mg base N qual scope f cd A outer s₀ H₀ E) E := fun _ _ _ _ _ _ I x => passed_of I rfl rfl x
theorem ownE : PassesOwn (model P w) (A.deeper (envOfC qual scope s₀.heap.objs.size f cd)) (envOfC qual scope s₀.heap.objs.size f cd) (RX P w (A.deeper (envOfC qual scope s₀.heap.objs.size f cd)) (envOfC qual scope s₀.heap.objs.size f cd) outer s₀.heap.objs.size H₀ s₀ E) :=
  RX.own rfl
variable {x : Str} {p pos : Pos} {e : Expr} {es : List Expr} {t : TA} {k : Nat} {ps : List Str} {sp : Sp}
theorem pe_callE (G : GotE P w K mg base x k ps sp) (hr : Room k (A.deeper (envOfC qual scope s₀.heap.objs.size f cd))) (hg : Gl (cxE P w K mg base N qual scope f cd A outer s₀ H₀ E) x) (ha : PA (cxE P w K mg base N qual scope f cd A outer s₀ H₀ E) (e :: es) t) (hdb : (x == ("__debug__" : Str)) = false := by decide)
    (he : starEach (e :: es) (envOfC qual scope s₀.heap.objs.size f cd) = (false, eval e (envOfC qual scope s₀.heap.objs.size f cd)) :: starEach es (envOfC qual scope s₀.heap.objs.size f cd) := by rfl) (hpl : (backTo pos (starEach es (envOfC qual scope s₀.heap.objs.size f cd))).any (·.1) = false := by rfl) :
    PE (cxE P w K mg base N qual scope f cd A outer s₀ H₀ E) (.Call (.Name x p) (e :: es) [] pos) (tCall sp [] E t) := by
  obtain ⟨f', fd, F, b, kp, m⟩ := G.ex
  exact pe_call F hr hg m kp b .nil passE ha hdb he hpl
end
end L2

set_option Elab.async false
set_option maxRecDepth 100000
namespace L2
open PySem PySem.Spec PyProof.Rows
/-- the built-in part of our classes' ways -/
abbrev veTail : List Value := [.type "ValueError", .type "Exception", .type "BaseException", .type "object"]
abbrev veNew : String := "ValueError.__new__"
/-- the class at C as an object of the heap -/
inductive ExcAt (h : Heap) (C : Addr) (bm : List Value) : Prop
  | mk : ∀ N nm q bs hdct sn sub ab col dd k0 k1 k2 k3 k5 mN, (h.get? C = some (excClassObj nm q C N bs bm hdct sn sub ab col dd k0 k1 k2 k3 k5 veNew)) → (h.Ns N mN) → (mN "__init__" = none) → (OwnTail h veTail bm) → ExcAt h C bm
theorem exc_at {K : PySem.W.Frag} {h : Heap} {C : Addr} (X : K.In h) (e : PySem.W.excIn K C veTail veNew = true) : ∃ bm, ExcAt h C bm ∧ ∀ D, PySem.W.mroIn K C D = some true → (Value.ref C :: bm).contains D = true := by
  revert e
  unfold PySem.W.excIn
  cases lk : K.lookup C with
  | none => intro e; cases e
  | some ob =>
    obtain ⟨c0, dd, dt, sl⟩ := ob
    intro e
    split at e
    case h_2 => cases e
    case h_1 cd' sl' lk' =>
      cases lk'
      split at e
      case h_2 => cases e
      case h_1 C2 tl k0 k1 k2 k3 nid k5 hm hs =>
        simp only [Bool.and_eq_true, beq_iff_eq, Bool.not_eq_true'] at e
        obtain ⟨⟨⟨⟨⟨hc, hn⟩, hdel⟩, ht⟩, hok⟩, hi⟩ := e
        subst hc
        subst hn
        have ob := X _ _ lk
        obtain ⟨arr⟩ := sl
        simp only at hs
        subst hs
        have hmro : ∀ D, PySem.W.mroIn K C2 D = some true → (Value.ref C2 :: tl).contains D = true := fun D q => by
          unfold PySem.W.mroIn PySem.W.clsIn at q
          rw [lk] at q
          simp only [Option.bind_some, hm] at q
          simpa using q
        obtain ⟨x1, x2, x3, x4, x5, x6, x7, x8, x9, x10, x11⟩ := cd'
        simp only at hm hdel hok hi
        subst hm
        subst hdel
        exact ⟨tl, ⟨_, _, _, _, _, _, _, _, _, _, _, _, _, _, _, _, ob, .of_isNs (PySem.W.isNs_of_in X hok), PySem.W.nsMap_none_of_in X hok hi, PySem.W.tail_of_in X ht⟩, hmro⟩
section
variable {M : Model} {A : Around} {E : Value → Shared → Prop}
/-- an exception of class C goes by the class D -/
theorem matches_own {s : Shared} {a C D : Addr} {oe : Obj} {bm bmD : List Value} {Q : Bool → Shared → Prop} (hC : ExcAt s.heap C bm) (hD : ExcAt s.heap D bmD) (he : s.heap.get? a = some oe) (hcls : oe.cls = .ref C)
    (hin : (Value.ref C :: bm).contains (.ref D) = true) (hq : Q true s) : wpAny M A (excMatches (.ref a) (.ref D)) Q E s := by
  obtain ⟨h, g, d, t, os⟩ := s
  obtain ⟨_, _, _, _, _, _, _, _, _, _, _, _, _, _, _, _, oC, _, _, _⟩ := hC
  obtain ⟨_, _, _, _, _, _, _, _, _, _, _, _, _, _, _, _, oD, _, _, tD⟩ := hD
  have hb : bmD.contains (.type "BaseException") = true := tD.hasType (by decide)
  have hbD : (Value.ref D :: bmD).contains (.type "BaseException") = true := by rw [List.contains_cons, hb, Bool.or_true]
  have f := tc_notTuple
  unfold excMatches
  repeat (first | (with_reducible refine wpAny_loadPart_at he ?_; rw [hcls]) | with_reducible refine wpAny_loadPart_at oD ?_ | (with_reducible refine wpAny_isSubtype_exc oD ?_; rw [hbD]) | (with_reducible refine wpAny_isSubtype_exc oC ?_; rw [hin]) | wp_step)
  exact hq
end
/-- a class of refusals: its name and its place -/
structure IsExc (K : PySem.W.Frag) (mg : Str → Option Value) (name : Str) (C : Addr) : Prop where
  mg : mg name = some (.ref C)
  ex : PySem.W.excIn K C veTail veNew = true
section
variable {P : Program} {w : World} {K : PySem.W.Frag} {mg : Str → Option Value} {base : Heap} {N : List Str} {qual : Str} {scope : Scope} {f : Addr} {cd : Value} {A : Around} {outer : List Env} {s₀ : Shared} {H₀ : Hp} {E : XK}
variable {x : Str} {np cpos pos : Pos} {e : Expr} {es : List Expr} {t : TA} {C : Addr}
/-- raise C(..) -/
def tRaise (C : Addr) (E : XK) (t : TA) : TS := fun _ σ H => t σ H fun vs H1 => vs.length ≤ sizeLine ∧ E (.ref C) none H1
theorem ps_raise (x1 : IsExc K mg x C) (hg : Gl (cxE P w K mg base N qual scope f cd A outer s₀ H₀ E) x) (ha : PA (cxE P w K mg base N qual scope f cd A outer s₀ H₀ E) (e :: es) t) (hdb : (x == ("__debug__" : Str)) = false := by decide)
    (he : starEach (e :: es) (envOfC qual scope s₀.heap.objs.size f cd) = (false, eval e (envOfC qual scope s₀.heap.objs.size f cd)) :: starEach es (envOfC qual scope s₀.heap.objs.size f cd) := by rfl) (hpl : (backTo cpos (starEach es (envOfC qual scope s₀.heap.objs.size f cd))).any (·.1) = false := by rfl) :
    PS (cxE P w K mg base N qual scope f cd A outer s₀ H₀ E) (.Raise (some (.Call (.Name x np) (e :: es) [] cpos)) none pos) (tRaise C E t) := by
  intro pins s σ H D I h
  obtain ⟨bm, ⟨Na, nm, q, bs, hdct, sn, sub, ab, col, dd, k0, k1, k2, k3, k5, mN, oC, hN, hni, TL⟩, _⟩ := exc_at I.ok.mod.kin x1.ex
  have hpl2 : (backTo cpos (starEach (e :: es) (envOfC qual scope s₀.heap.objs.size f cd))).any (·.1) = false := by
    rw [he]
    show (false || (backTo cpos (starEach es (envOfC qual scope s₀.heap.objs.size f cd))).any (·.1)) = false
    rw [hpl]; rfl
  refine wpAny_Raise_call_subT (C := C) (nm := nm) (q := q) (N := Na) (bs := bs) (bm := bm) (hdct := hdct) (sn := sn) (sub := sub) (ab := ab) (col := col) (dd := dd) (k0 := k0) (k1 := k1) (k2 := k2) (k3 := k3) (k5 := k5)
    PySem.F.excBase_ValueError (mN := mN) (TL.hasType (by decide)) (I.ok.hd rfl) hpl2 hni (ld_glob I hg x1.mg ⟨rfl, ?_⟩ hdb)
  have hs := ha cpos pins s σ H _ I h
  change wpAny _ _ (evalArgs (.ref C) true (backTo cpos (starEach (e :: es) (envOfC qual scope s₀.heap.objs.size f cd))) []) _ _ _
  change wpAny _ _ (spliced (backTo cpos (starEach (e :: es) (envOfC qual scope s₀.heap.objs.size f cd)))) _ _ _ at hs
  rw [he] at hs ⊢
  refine Calls.evalArgs_plain (thn hs fun us s1 ⟨vs, H1, I1, r, hl, hE⟩ => ?_)
  refine ⟨rfl, by rw [← r.length]; exact hl, I1.bk _ _ oC, hN.keeps I1.bk, TL.keeps I1.bk, fun h' a m => ?_⟩
  exact raised_of (tk := s1.toks) I1 rfl rfl m hE
end
end L2

set_option Elab.async false
set_option maxRecDepth 100000
namespace L2
open PySem PySem.Spec PyProof.Rows
/-! ### caught -/
/-- an exception that is held by a name: its class -/
def ofCls (a : Addr) (cls : Value) (h : Heap) : Prop := ∃ ob, h.get? a = some ob ∧ ob.cls = cls ∧ ob.dict = none ∧ ∃ vs, ob.data = .fields vs
/-- within an except's suite (or a def called there) -/
abbrev cxR (X : Cx) (A' : Around) : Cx := { X with A := A', calm := false, xe := fun _ _ => False }
section
variable {X : Cx} {pins : List (Addr × Obj)} {σ : St} {H : Hp} {s : Shared} {A' : Around}
theorem Inv.re (I : Inv X pins σ H s) (hA : A'.frames = X.A.frames) : Inv (cxR X A') pins σ H s :=
  ⟨⟨I.ok.mod, I.ok.kind, I.ok.glob, I.ok.blt, I.ok.above, I.ok.inj, I.ok.has, I.ok.cab, fun z => Bool.noConfusion (show false = true from z), hA.trans I.ok.frames, I.ok.stk, I.ok.exf, I.ok.bs, I.ok.bsz, I.ok.noex, I.ok.exfs, I.ok.funs, I.ok.frf⟩,
    I.os, I.bare, I.base, I.loc, I.cell, I.free, I.freeC, I.pin, I.hok, I.len⟩
theorem Inv.unre (ok : X.Ok) (I : Inv (cxR X A') pins σ H s) : Inv X pins σ H s :=
  ⟨ok, I.os, I.bare, I.base, I.loc, I.cell, I.free, I.freeC, I.pin, I.hok, I.len⟩
/-- behind the catch: the state ahead of the call, as it is now, and the exception tracked -/
theorem catch_inv {sc : Shared} {H' : Hp} {B : Heap} {a : Addr} {cls fl : Value} (I : Inv X pins σ H sc) (os : s.os = sc.os) (ba : AllBare s.gens) (bx : Bx X.prog X.w X.stack H sc.heap H' B) (sl : Slots X.stack sc.heap s.heap) (x : Fly B X.stack a cls fl s.heap) :
    Inv X pins σ (upd H' a (.ext (ofCls a cls))) s ∧ H' a = none := by
  obtain ⟨st, nw, ff, oe, oT, vs, ts, T, y⟩ := x
  have trk : ∀ b u, H' b = some u → b ≠ a := fun b u e q => by
    have z := (bx.hok b u e)
    have lt : ∃ o, B.get? b = some o := by
      cases u with
      | lst xs => obtain ⟨_, _, _, _, e⟩ := z; exact ⟨_, e⟩
      | tup xs => obtain ⟨_, _, _, ob, e, _⟩ := z; exact ⟨_, e⟩
      | dK kvs => obtain ⟨_, _, _, _, o, _, _, e, _⟩ := z; exact ⟨_, e⟩
      | dT kvs => obtain ⟨_, _, _, _, o, _, _, e, _⟩ := z; exact ⟨_, e⟩
      | set S n => obtain ⟨o, _, _, _, e, _⟩ := z; exact ⟨_, e⟩
      | ins C dx fs => obtain ⟨_, _, _, e, _⟩ := z; exact ⟨_, e⟩
      | own y => obtain ⟨_, e⟩ := z; exact ⟨_, e⟩
      | xd fs => obtain ⟨_, ⟨_, _, _, e, _⟩, _⟩ := z; exact ⟨_, e⟩
      | rng lo hi => obtain ⟨_, _, _, e⟩ := z; exact ⟨_, e⟩
      | frz ob u => obtain ⟨e, _⟩ := z; exact ⟨_, e⟩
      | tbl ps => exact ⟨_, show B.get? b = some _ from z⟩
      | met f y => exact ⟨_, show B.get? b = some _ from z⟩
      | ext φ => obtain ⟨_, ⟨_, e⟩, _⟩ := z; exact ⟨_, e⟩
    obtain ⟨o, e2⟩ := lt
    rw [q, nw] at e2
    cases e2
  have Ha : H' a = none := by
    cases q : H' a with
    | none => rfl
    | some u => exact absurd rfl (trk a u q)
  have un := bx.un sl st
  have old : ∀ b o, sc.heap.get? b = some o → b ≠ a := fun b o e q => by
    by_cases hb : b ∈ frs X.stack
    · obtain ⟨_, o1, e1, hn⟩ := ff.mem hb
      rw [q, y.oa] at e1
      cases e1
      exact hn vs y.da
    · obtain ⟨o', e1⟩ := bx.thr b o e hb
      rw [q, nw] at e1
      cases e1
  refine ⟨I.call' (ch := []) os ⟨un.keep, un.slot, fun b o e n hx => ?_, un.there, fun b xs e => ?_, fun b o u e => ?_, fun b ps e => ?_⟩ (fun b u e => ?_) ba (fun b z => absurd z (by simp)), Ha⟩
  · rw [upd_ne (old b o e)]; exact un.free b o e n hx
  · have z := un.tups b xs e
    rw [upd_ne (trk b _ z)]; exact z
  · have z := un.frzs b o u e
    rw [upd_ne (trk b _ z)]; exact z
  · obtain ⟨more, z⟩ := un.tbls b ps e
    exact ⟨more, by rw [upd_ne (trk b _ z)]; exact z⟩
  · by_cases q : b = a
    · subst q
      rw [upd_same] at e
      cases e
      refine ⟨⟨oe, y.oa, y.cl, y.nd, vs, y.da⟩, ⟨oe, y.oa⟩, ?_⟩
      rintro h1 h2 ⟨ob, e1, e2⟩ k
      exact ⟨ob, k ob e1, e2⟩
    · rw [upd_ne q] at e
      refine (bx.hok b u e).stay (fun c v _ e1 => st c v e1) (fun c e1 => ?_) fun c xs e1 => ?_
      · rw [upd_ne (trk c _ e1)]; exact e1
      · rw [upd_ne (trk c _ e1)]; exact e1
end
/-- statements at a def's top, where nothing is pinned -/
def PS0 (X : Cx) (st : Stmt) (t : TS) : Prop :=
  ∀ (s : Shared) (σ : St) (H : Hp) (D : Ends), Inv X [] σ H s → t D σ H → wpAny (model X.prog X.w) X.A (exec st X.env) (SP X [] D) X.xe s
def PSs0 (X : Cx) (st : List Stmt) (t : TS) : Prop :=
  ∀ (s : Shared) (σ : St) (H : Hp) (D : Ends), Inv X [] σ H s → t D σ H → wpAny (model X.prog X.w) X.A (execs st X.env) (SP X [] D) X.xe s
section
variable {X : Cx} {st : Stmt} {rest : List Stmt} {t u : TS}
theorem pss0_cons (h1 : PS0 X st t) (h2 : PSs X rest u) : PSs0 X (st :: rest) (tSeq t u) := by
  intro s σ H D I h
  refine wpAny_execs_cons (thn (h1 s σ H { D with nx := u D } I h) fun f s1 q => ?_)
  cases f with
  | next =>
    obtain ⟨σ', H', I', q⟩ := q
    exact h2 [] s1 σ' H' D I' q
  | ret v => exact q
  | brk => exact q
  | cont => exact q
end
/-- the frame's names are forgotten -/
theorem Inv.forget {X : Cx} {pins : List (Addr × Obj)} {σ : St} {H : Hp} {s : Shared} {h' : Heap} {m' : Str → Option Value} {tk : Nat} (I : Inv X pins σ H s) (hn : h'.Ns X.env.locals m') (hs : Heap.SameBut X.env.locals s.heap h') :
    Inv X pins (List.replicate X.N.length none) H { s with heap := h', toks := tk } := by
  have lo : ∀ b o, X.s₀.heap.get? b = some o → b ≠ X.env.locals := fun b o e => Nat.ne_of_lt (Nat.lt_of_lt_of_le (Heap.lt_size e) I.ok.above)
  refine ⟨I.ok, I.os, I.bare, ⟨fun b o e n hb hx => ?_, fun b o e n hb hx => ?_, I.base.free, fun b o e hx => ?_, I.base.tups, I.base.frzs, I.base.tbls⟩, ⟨m', hn, fun i x v _ e _ => ?_⟩, fun x c e => ?_, I.free, I.freeC, fun p hp => ?_, fun b u e => ?_, by rw [List.length_replicate]⟩
  · exact (hs.2 b (lo b o e)).trans (I.base.keep b o e n hb hx)
  · obtain ⟨sl, q⟩ := I.base.slot b o e n hb hx
    exact ⟨sl, (hs.2 b (lo b o e)).trans q⟩
  · obtain ⟨o', q⟩ := I.base.there b o e hx
    exact ⟨o', (hs.2 b (lo b o e)).trans q⟩
  · rw [List.getElem?_replicate] at e
    split at e <;> cases e
  · obtain ⟨v, z⟩ := I.cell x c e
    exact ⟨v, z.sameBut hs (I.cne x c e)⟩
  · obtain ⟨e, n, ne, nf, d⟩ := I.pin p hp
    exact ⟨(hs.2 p.1 ne).trans e, n, ne, nf, d⟩
  · refine (I.hok b u e).stay (fun c v hc q => (hs.2 c ?_).trans q) (fun _ q => q) fun _ _ q => q
    rintro rfl
    rcases hc with z | z
    · rw [← z, I.free] at e; cases e
    · rw [I.free] at z; cases z
/-- try: body, except F as n: suite -/
inductive tTry (K : PySem.W.Frag) (F : Addr) (N : Nat) (i : Nat) (tb : XK → TS) (th : TS) (D : Ends) (σ : St) (H : Hp) : Prop
  | mk : ∀ E : XK, (tb E D σ H) → (∀ cls H', E cls none H' → ∃ C, cls = .ref C ∧ PySem.W.excIn K C veTail veNew = true ∧ PySem.W.mroIn K C (.ref F) = some true ∧
  ∀ (a : Addr) (σ' : St), σ'.length = N → H' a = none → th { nx := fun _ H2 => D.nx (List.replicate N none) H2, rt := D.rt, bk := fun _ H2 => D.bk (List.replicate N none) H2, ct := fun _ H2 => D.ct (List.replicate N none) H2 } (σ'.set i (some (.ref a))) (upd H' a (.ext (ofCls a (.ref C))))) → tTry K F N i tb th D σ H
theorem ps_try {X : Cx} {cn n : Str} {F : Addr} {i : Nat} {np hpos pos : Pos} {body suite : List Stmt} {b₀ : Stmt} {tb : XK → TS} {th : TS} (hst : X.stack = X.env :: X.outer) (hf : X.env.frame = some X.env.locals) (xF : IsExc X.K X.mg cn F) (hg : Gl X cn)
    (hN : X.N.Nodup) (hi : X.N[i]? = some n) (hl : X.env.scope.names.lookup n = some .local) (hb : ∀ (R : Value → Shared → Prop) (E : XK), Passes (CX1 X.prog X.w) (X.wish R) E → PSs (X.wish R) body (tb E)) (hh : ∀ hv : Option Value, PSs (cxR X (X.A.mark hv)) (b₀ :: suite) th)
    (hd : (cn == ("__debug__" : Str)) = false := by decide) : PS0 X (.Try body [.ExceptHandler (some (.Name cn np)) (some n) (b₀ :: suite) hpos] [] [] pos) (tTry X.K F X.N.length i tb th) := by
  intro s σ H D I ⟨E, hbd, hhd⟩
  have ok := I.ok
  let R : Value → Shared → Prop := fun v s' => ∃ (pins : List (Addr × Obj)) (σ' : St) (H1 : Hp) (sc : Shared) (a : Addr) (cls : Value) (H' : Hp) (B : Heap), Inv X pins σ' H1 sc ∧ v = .ref a ∧ s'.os = sc.os ∧ AllBare s'.gens ∧ Bx X.prog X.w X.stack H1 sc.heap H' B ∧ Slots X.stack sc.heap s'.heap ∧ Fly B X.stack a cls .none s'.heap ∧ E cls none H'
  have hp : Passes (CX1 X.prog X.w) (X.wish R) E := fun pins σ' H1 sc v s' J x => by
    obtain ⟨a, cls, H', B, rfl, os, ba, bx, sl, fl, e⟩ := x
    exact ⟨pins, σ', H1, sc, a, cls, H', B, J.unwish, rfl, os, ba, bx, sl, fl, e⟩
  refine wpAny_Try_except (wpAny_mono (hb R E hp [] s σ H D (I.wish R) hbd) (fun f s1 q => ?_) fun v s1 q => ?_)
  · have q := q.unwish
    cases f with
    | next => exact wpAny_execs_nil q
    | ret v => exact q
    | brk => exact q
    | cont => exact q
  obtain ⟨pins, σ', H1, sc, a, cls, H', B, J, rfl, os, ba, bx, sl, fl, e⟩ := q
  obtain ⟨C, rfl, xC, mC, hth⟩ := hhd _ _ e
  have hfr : X.A.frames = some (X.env :: X.outer) := hst ▸ ok.frames
  have stg : Stage B (X.env :: X.outer) X.env.locals a (.ref C) s1.heap := .inl ⟨_, hst ▸ fl⟩
  refine stg.note hfr hf fun h2 y2 u2 => ?_
  have sl2 := sl.up fl.fr u2
  refine Fly.mark (s := { s1 with heap := h2 }) (fr := none) y2 fun h3 y3 u3 => ?_
  have y2' : Fly B X.stack a (.ref C) (rawInt X.env.locals) h2 := hst ▸ y2
  have y3' : Fly B X.stack a (.ref C) .none h3 := hst ▸ y3
  have sl3 := sl2.up y2'.fr u3
  have I3 := (catch_inv (s := { s1 with heap := h3 }) J os ba bx sl3 y3').1
  have KI := I3.kIn
  obtain ⟨bmC, eC, inC⟩ := exc_at KI xC
  obtain ⟨bmF, eF, _⟩ := exc_at KI xF.ex
  obtain ⟨_, _, _, oe3, oT3, vs3, ts3, T3, t3⟩ := y3'
  refine wpAny_handleBy_cons (codeAny_handlers_test (ld_glob (I3.re (A' := X.A.mark (some (.ref a))) rfl) hg xF.mg (matches_own eC eF t3.oa t3.cl (inC _ mC) ?_) hd)) (by intro q; cases q)
  refine codeAny_handlers_suite_as ?_
  have y3'' : Fly B X.stack a (.ref C) .none h3 := hst ▸ y3
  refine Fly.mark (s := { s1 with heap := h3 }) (fr := none) y3'' fun h4 y4 u4 => ?_
  have sl4 := sl3.up y3''.fr u4
  obtain ⟨I4, Ha⟩ := catch_inv (s := { s1 with heap := h4 }) J os ba bx sl4 y4
  have I4r := (I4.pins_of (pins' := []) (fun p hp => by cases hp)).re (A' := X.A.mark (some (.ref a))) rfl
  refine store_ok (X := cxR X (X.A.mark (some (.ref a)))) (v := .ref a) I4r hN hi (.inl hl) rfl (fun s5 I5 => ?_) (.inr hl)
  refine wpAny_mono (hh (some (.ref a)) [] s5 _ _ _ I5 (hth a σ' J.len Ha)) (fun f s6 q => ?_) fun _ _ z => False.elim z
  have hcls : (X.env.scope.kind == .class || (X.env.scope.kind == .module && X.env.locals != X.env.globals)) = false := by rw [ok.kind]; rfl
  have fin : ∀ {σ6 : St} {H6 : Hp} {Q : Unit → Shared → Prop}, Inv (cxR X (X.A.mark (some (.ref a)))) [] σ6 H6 s6 → (∀ s7, Inv X [] (List.replicate X.N.length none) H6 s7 → Q () s7) → wpAny (model X.prog X.w) X.A (do bindName X.env n .none; unbindBehindTheSuite X.env n hpos) Q X.xe s6 := fun {σ6 H6 Q} I6 hQ => by
    obtain ⟨m, hn, _⟩ := id I6.loc
    exact wpAny_nameGoes (s := s6) hl hn hcls fun h' m' hn' hs => hQ _ ((I6.unre ok).forget (tk := s6.toks + 1) hn' hs)
  cases f with
  | next =>
    obtain ⟨σ6, H6, I6, q⟩ := q
    exact fin I6 fun s7 I7 => ⟨_, H6, I7, q⟩
  | brk =>
    obtain ⟨σ6, H6, I6, q⟩ := q
    exact fin I6 fun s7 I7 => ⟨_, H6, I7, q⟩
  | cont =>
    obtain ⟨σ6, H6, I6, q⟩ := q
    exact fin I6 fun s7 I7 => ⟨_, H6, I7, q⟩
  | ret u =>
    obtain ⟨v, σ6, H6, I6, r, q⟩ := q
    exact fin I6 fun s7 I7 => ⟨v, _, H6, I7, r, q⟩
end L2

set_option Elab.async false
set_option maxRecDepth 100000
namespace L2
open PySem PySem.Spec PyProof.Rows
/-! ### isinstance of a caught exception -/
/-- what the fragment says of a class of ours -/
structure XcOk (K : PySem.W.Frag) (C : Addr) : Prop where
  ga : PySem.W.findIn K (.ref C) "__getattribute__" = some (some (.builtin "BaseException.__getattribute__"))
  gx : PySem.W.findIn K (.ref C) "__getattr__" = some none
  cl : PySem.W.findIn K (.ref C) "__class__" = some (some (.builtin "object.__class__"))
  gg : PySem.W.specialIn K (.builtin "object.__class__") "__get__" = some (some (.builtin "getset_descriptor.__get__"))
  tk : PySem.W.takesIn K (.builtin "object.__class__") = some true
  mo : PySem.W.mroIn K C (.type "object") = some true
  mb : PySem.W.mroIn K C (.type "BaseException") = some true
  cs : ∃ cd, PySem.W.clsIn K C = some cd
section
variable {prog : Program} {w : World} {A : Around} {E : Value → Shared → Prop} {s : Shared} {K : PySem.W.Frag} {C a : Addr} {ox : Obj}
theorem exc_find (x : XcOk K C) : PySem.W.findObj K C none "__class__" = some (.bind (.builtin "getset_descriptor.__get__") (.builtin "object.__class__")) := by
  obtain ⟨cd, hc⟩ := x.cs
  unfold PySem.W.findObj
  rw [hc, Option.bind_some, x.cl, Option.bind_some]
  simp [x.gg, x.tk]
theorem exc_ga {tk : Tok} {R : Result → Shared → Prop} (X : K.In s.heap) (I : PySem.W.InstAt s.heap a ox C none) (x : XcOk K C) (hq : R (.ok (.ret (.ref C))) s) :
    codeAny (model prog w) A (.call (.builtin "BaseException.__getattribute__") ⟨[.ref a, .str "__class__" tk], []⟩) R s := by
  have L0 := I.type (M := model prog w)
  have Lb := PySem.W.looks_mroIn (M := model prog w) X x.mb
  have Lf := PySem.W.looks_find (M := model prog w) X I (exc_find x)
  have LI : PySem.W.Looks (model prog w) s.heap (isInstance (.ref a) (.type "BaseException")) true := L0.andThen Lb
  refine codeAny_call_builtin (PySem.F.excAttr_ValueError).ga.plain PySem.F.entry_bexc_ga ?_
  have e1 : builtinKind "BaseException.__getattribute__" = some .slot := by decide +kernel
  have e2 : splitId "BaseException.__getattribute__" = some ("BaseException", "__getattribute__") := by decide +kernel
  have e3 := PySem.F.args_bexc_ga (.ref a) (.str "__class__" tk)
  obtain ⟨hh, g, d, t, os⟩ := s
  simp only [checkBuiltinCall, e1, e2]
  refine wpAny_bind (LI.at ?_)
  repeat (first | assumption | with_reducible refine L0.at ?_ | with_reducible refine Lf.at ?_ | wp_step)
  exact PySem.W.class_get X I x.mo (wpAny_pure hq)
theorem exc_class {Q : Option Value → Shared → Prop} (X : K.In s.heap) (I : PySem.W.InstAt s.heap a ox C none) (x : XcOk K C) (hq : Q (some (.ref C)) { s with toks := s.toks + 1 }) :
    wpAny (model prog w) A (getAttr? (.ref a) "__class__") Q E s := by
  have L0 := I.type (M := model prog w)
  have L1 := PySem.W.looks_findIn (M := model prog w) X x.ga
  have L2 := PySem.W.looks_findIn (M := model prog w) X x.gx
  have f3 := (PySem.F.excAttr_ValueError).ga.bind (.ref a)
  have n0 : (false && onTheHeap (Value.builtin "BaseException.__getattribute__")) = false := rfl
  have n2 : (Value.builtin "BaseException.__getattribute__" == Value.builtin "object.__getattribute__") = false := by decide +kernel
  have n1 : (onTheHeap (Value.ref C) && Value.builtin "BaseException.__getattribute__" == Value.builtin "object.__getattribute__") = false := by rw [n2, Bool.and_false]
  obtain ⟨hh, g, d, t, os⟩ := s
  unfold getAttr? getAttrBy? getAttrBy
  repeat (first | assumption | with_reducible refine L0.at ?_ | with_reducible refine L1.at ?_ | with_reducible refine L2.at ?_ | wp_step)
  exact exc_ga (s := ⟨hh, g, d, t + 1, os⟩) X I x (PySem.W.handed_on rfl (wpAny_pure hq))
theorem kitx_exc (x : XcOk K C) : PySem.W.KitX K (.ref a) (.ref C) (ofCls a (.ref C)) where
  ty := fun _ h _ ⟨ob, e, c, d, vs, dt⟩ => PySem.W.InstAt.type (ox := ob) (od := none) ⟨e, c, by obtain ⟨_, _, _, _⟩ := ob; cases dt; rfl, by rw [d]; trivial⟩
  it := fun _ h X _ => by
    obtain ⟨cd, hc⟩ := x.cs
    unfold PySem.W.clsIn at hc
    split at hc
    · rename_i lk
      intro A' Q' E' s' k q
      unfold isType loadHead
      exact wpAny_bind (wpAny_loadPart (k _ _ (X _ _ lk)) (wpAny_pure q))
    · cases hc
  ne := fun h tp dd its n sl X htp => by
    obtain ⟨cd, hc⟩ := x.cs
    refine Bool.eq_false_iff.mpr fun q => ?_
    have e : C = tp := Value.ref.inj (beq_iff_eq.mp q)
    subst e
    unfold PySem.W.clsIn at hc
    split at hc
    · rename_i lk
      have z := (X _ _ lk).symm.trans htp
      cases z
    · cases hc
  ca := fun X ⟨ob, e, c, d, vs, dt⟩ k => exc_class (ox := ob) X ⟨e, c, by obtain ⟨_, _, _, _⟩ := ob; cases dt; rfl, by rw [d]; trivial⟩ x k
end
section
variable {X : Cx}
/-- isinstance(e, D) of a caught exception -/
theorem call_isiE : CallR X (.builtin "isinstance") (fun xs H Q => ∃ (a C : Addr) (d : V) (c : Value) (b : Bool), xs = [.ref a, d] ∧ H a = some (.ext (ofCls a (.ref C))) ∧ XcOk X.K C ∧ ((∃ D, d = .ref D ∧ c = .ref D) ∨ ∃ T, d = .ty T ∧ c = .type T) ∧ PySem.W.kitOne X.K (.ref C) c = some b ∧ Q (.bl b) H) := by
  intro pins s σ H xs us Q I r h
  obtain ⟨a, C, d, c, b, rfl, hH, x, hd, e, q⟩ := h
  obtain ⟨u, w', rfl, r1, r2⟩ := vals2 r
  cases (show u = Value.ref a from r1)
  have ew : w' = c := by
    rcases hd with ⟨D, rfl, rfl⟩ | ⟨T, rfl, rfl⟩
    · exact r2
    · exact r2
  subst ew
  obtain ⟨hφ, _, _⟩ := (show ObjOk X.prog X.w H s.heap a (.ext (ofCls a (.ref C))) from I.hok a _ hH)
  exact PySem.W.kia_one (kitx_exc x) I.kIn hφ e (fun z => by cases z) fun tk => ⟨.bl b, H, I.tok tk, rfl, q⟩
/-! ### count, index of a list of bools -/
theorem vals_bools : ∀ {bs : List Bool} {us : List Value}, Vals (bs.map V.bl) us → us = bs.map Value.bool
  | [], _, .nil => rfl
  | b :: bs, _, .cons r t => by
    rw [List.map_cons, vals_bools t, show _ = Value.bool b from r]
theorem reads_bools {h : Heap} : ∀ bs : List Bool, ReadsAll h (bs.map Value.bool) (bs.map PyData.bool) []
  | [] => .nil
  | b :: bs => by
    have := ReadsAll.cons (Reads.bool (h := h) b) (reads_bools (h := h) bs)
    simpa using this
theorem all_bools : ∀ bs : List Bool, (bs.map PyData.bool).all Shape.bool.has = true
  | [] => rfl
  | _ :: bs => by rw [List.map_cons, List.all_cons, all_bools bs]; rfl
inductive rCountB (x : V) (vs : List V) (H : Hp) (Q : VK) : Prop
  | mk : ∀ (l : Addr) (bs : List Bool) (k : Bool), (x = .ref l) → (vs = [.bl k]) → (H l = some (.lst (bs.map V.bl))) → (Q (.int (countIn (.bool k) (bs.map PyData.bool))) H) → rCountB x vs H Q
theorem mt_countB : MtM X "list.count" rCountB := by
  intro pins s σ H x vs v us Q I rx rv h
  obtain ⟨l, bs, k, rfl, rfl, hH, q⟩ := h
  cases rx
  obtain ⟨u, rfl, ru⟩ := rv.one
  cases (show u = Value.bool k from ru)
  obtain ⟨z, its, n, r, hl, e⟩ := I.lstM hH
  have ei := vals_bools r
  subst ei
  exact count_list_bools (vs := bs.map Value.bool) ⟨_, e, rfl, n, rfl⟩ (reads_bools (h := s.heap) bs) (all_bools bs) ⟨.int (countIn (.bool k) (bs.map PyData.bool)), H, I.tok _, ⟨_, rfl⟩, q⟩
inductive rIndexB (x : V) (vs : List V) (H : Hp) (Q : VK) : Prop
  | mk : ∀ (l : Addr) (bs : List Bool) (k : Bool) (j : Nat), (x = .ref l) → (vs = [.bl k]) → (H l = some (.lst (bs.map V.bl))) → (bs[j]? = some k) → ((∀ i, i < j → bs[i]? = some (!k))) → (Q (.int (j : Int)) H) → rIndexB x vs H Q
theorem mt_indexB : MtM X "list.index" rIndexB := by
  intro pins s σ H x vs v us Q I rx rv h
  obtain ⟨l, bs, k, j, rfl, rfl, hH, hj, hno, q⟩ := h
  cases rx
  obtain ⟨u, rfl, ru⟩ := rv.one
  cases (show u = Value.bool k from ru)
  obtain ⟨z, its, n, r, hl, e⟩ := I.lstM hH
  have ei := vals_bools r
  subst ei
  have jl : j < bs.length := (List.getElem?_eq_some_iff.mp hj).1
  have zl : bs.length ≤ sizeLine := by simpa using z
  have j63 : (j : Int) < 2 ^ 63 - 1 := by
    have h1 : sizeLine ≤ 2 ^ 62 := by decide
    have h2 : j < 2 ^ 62 := Nat.lt_of_lt_of_le jl (Nat.le_trans zl h1)
    omega
  refine call_meets PySem.F.slot_list_index ⟨_, e, rfl⟩ PySem.F.entry_list_index (PySem.F.args_list_index_2 _ _)
    (MeetsSeq.list_index l (bs.map Value.bool).toArray n (.bool k) (isBoolOf k) (fun y hy => ?_) j (by simpa using jl) j63 ?_ fun m hm hlt => ?_) ⟨e, ⟨.int (j : Int), H, I.tok _, ⟨_, rfl⟩, q⟩⟩
  · obtain ⟨b, _, rfl⟩ := List.mem_map.mp (by simpa using hy : y ∈ bs.map Value.bool)
    exact fun prog w A E s Q h => PySem.SeqAt.EqAt.bool_bool b k prog w E Q h
  · have := List.getElem?_eq_some_iff.mp hj
    simp [isBoolOf, this.2]
  · have := List.getElem?_eq_some_iff.mp (hno m hlt)
    simp [isBoolOf, this.2]
end
end L2

set_option Elab.async false
set_option maxRecDepth 100000
namespace L2
open PySem PySem.Spec PyProof.Rows
/-! ### defs whose body holds a try; defs that are called within an except -/
/-- room, whatever is handled -/
structure RoomX (k : Nat) (A : Around) : Prop where
  dp : A.depth + 3 * k + 5 < recursionLimit
  un : A.units + 16 * k + 200 < cLine
theorem Room.x {k : Nat} {A : Around} (r : Room k A) : RoomX k A := ⟨r.dp, r.un⟩
theorem RoomX.mark {k : Nat} {A : Around} {h : Option Value} (r : RoomX k A) : RoomX k (A.mark h) := ⟨r.dp, r.un⟩
theorem RoomX.mono {j k : Nat} {A : Around} (r : RoomX k A) (h : j ≤ k) : RoomX j A := ⟨by have := r.dp; omega, by have := r.un; omega⟩
theorem RoomX.deeper {k : Nat} {A : Around} (r : RoomX (k + 1) A) (env : Env) : RoomX k (A.deeper env) :=
  ⟨by have := r.dp; show A.depth + 1 + 3 * k + 5 < _; omega, by have := r.un; show A.units + 3 + 16 * k + 200 < _; omega⟩
structure FnOkX (P : Program) (w : World) (K : PySem.W.Frag) (mg : Str → Option Value) (base : Heap) (k : Nat) (f : Addr) (fd : FuncData) (ps : List Str) (sp : Sp) : Prop where
  len : ∀ vs H Q E, sp vs H Q E → vs.length = ps.length
  run : ∀ (A : Around) (outer : List Env) (s : Shared) (H : Hp) (args : Args) (us : List Value) (vs : List V) (Q : VK) (E : XK), RoomX k A → Env0 P w K mg base A outer s H → BindsTo s fd args (ps.zip us) → Vals vs us → sp vs H Q E →
    codeAny (model P w) A (.call (.ref f) args) (CR CX0 outer P w H s Q E) s
structure GotX (P : Program) (w : World) (K : PySem.W.Frag) (mg : Str → Option Value) (base : Heap) (name : Str) (k : Nat) (ps : List Str) (sp : Sp) : Prop where
  ex : ∃ (f : Addr) (fd : FuncData), FnOkX P w K mg base k f fd ps sp ∧ Binds K fd ps [] ∧ PySem.W.keepIn K (.ref f) = true ∧ mg name = some (.ref f)
abbrev cxX (P : Program) (w : World) (K : PySem.W.Frag) (mg : Str → Option Value) (base : Heap) (N : List Str) (qual : Str) (scope : Scope) (f : Addr) (cd : Value) (A : Around) (outer : List Env) (s : Shared) (H : Hp) (E : XK) : Cx :=
  cxR (cxOf CX0 P w K mg base N qual scope f cd A outer s H E) (A.deeper (envOfC qual scope s.heap.objs.size f cd))
section
variable {P : Program} {w : World} {K : PySem.W.Frag} {mg : Str → Option Value} {base : Heap} {name : Str} {st : Stmt} {ps N : List Str} {k : Nat} {sp : Sp}
theorem IsDef.gotX (D : IsDef K mg name st ps) (S : FnScope N ps (defScope st)) (len : ∀ vs H Q E, sp vs H Q E → vs.length = ps.length)
    (hbody : ∀ (f : Addr) (cdv : Value) (A : Around) (outer : List Env) (s : Shared) (H : Hp) (vs : List V) (Q : VK) (E : XK), RoomX k (A.deeper (envOfC name (defScope st) s.heap.objs.size f cdv)) → sp vs H Q E →
      ∃ t, PSs (cxX P w K mg base N name (defScope st) f cdv A outer s H E) (defBody st) t ∧ t { nx := fun _ H' => Q .non H', rt := Q } (start N vs) H) : GotX P w K mg base name (k + 1) ps sp := by
  obtain ⟨f, fd, F, b, m⟩ := D.ex
  obtain ⟨oc, od, kV, doc, pm, an, cdv, ct, osl, rfl, lk, hcd⟩ := F.ex
  refine ⟨f, _, ⟨len, fun A outer s H args us vs Q E hr e0 hb r hsp => ?_⟩, b, F.kp, m⟩
  have hl := len _ _ _ _ hsp
  have KX : K.In s.heap := e0.mod.kin.keeps fun b o e => (e0.bs b o e).1
  have lim : s.heap.NoLimit := e0.mod.nolimit.keeps fun b o e => (e0.bs b o e).1
  have hkind : ∀ y ∈ ps.zip us, (defScope st).names.lookup y.1 = some .local ∨ ((defScope st).names.lookup y.1 = some .cell ∧ ((cellsFrom (s.heap.objs.size + 1) (defScope st).names []).lookup y.1).isSome = true) := fun ⟨n, v⟩ hy => by
    rcases S.par n (List.of_mem_zip hy).1 with q | q
    · exact .inl q
    · exact .inr ⟨q, PySem.W.cellsFrom_some _ _ _ (.inl q)⟩
  refine codeAny_call_function (by have := hr.dp; omega) (KX _ _ lk) rfl S.co S.gen rfl (PySem.W.codeRec_of KX hcd) (hb _ _ _ _ ?_)
  refine wpAny_newFunctionEnv_cells S.kind hkind fun env he s1 x => ?_
  subst he
  refine ⟨lim.keeps x.toInCall.keep, codeAny_func ?_⟩
  obtain ⟨t, ht, hq⟩ := hbody f cdv A outer s H vs Q E (hr.deeper _) hsp
  have e1 : Env0 P w K mg base { A with handled := none } outer s H := ⟨e0.frames, e0.mod, e0.bs, e0.bsz, e0.funs, e0.frf, e0.hok, e0.bare⟩
  have I0 : Inv (cxOf CX0 P w K mg base N name (defScope st) f cdv { A with handled := none } outer s H E) [] (start N vs) H s1 := inv_start S rfl e1 hl r x
  have I : Inv (cxX P w K mg base N name (defScope st) f cdv A outer s H E) [] (start N vs) H s1 := I0.re (A' := A.deeper (envOfC name (defScope st) s.heap.objs.size f cdv)) rfl
  refine wpAny_mono (ht [] s1 (start N vs) H _ I hq) (fun fl s' hs => ?_) fun e s' hs => False.elim hs
  have fin : ∀ {σ' : St} {H' : Hp} {v : V} {u : Value}, Inv (cxX P w K mg base N name (defScope st) f cdv A outer s H E) [] σ' H' s' → RelV v u → Q v H' → CE outer P w H s Q u s' :=
    fun {σ' H' v u} J rv q => ⟨v, H', J.os, J.bare, J.base, J.hok, rv, q⟩
  cases fl with
  | ret u =>
    obtain ⟨v, σ', H', J, rv, q⟩ := hs
    exact fin J rv q
  | next =>
    obtain ⟨σ', H', J, q⟩ := hs
    exact fin (v := V.non) (u := Value.none) J rfl q
  | brk =>
    obtain ⟨_, _, _, q⟩ := hs
    exact False.elim q
  | cont =>
    obtain ⟨_, _, _, q⟩ := hs
    exact False.elim q
/-- a def whose body begins with a try -/
theorem IsDef.got0 (D : IsDef K mg name st ps) (S : FnScope N ps (defScope st)) (len : ∀ vs H Q E, sp vs H Q E → vs.length = ps.length)
    (hbody : ∀ (f : Addr) (cdv : Value) (A : Around) (outer : List Env) (s : Shared) (H : Hp) (vs : List V) (Q : VK) (E : XK), Room k (A.deeper (envOfC name (defScope st) s.heap.objs.size f cdv)) → sp vs H Q E →
      ∃ t, PSs0 (cxOf CX0 P w K mg base N name (defScope st) f cdv A outer s H E).nox (defBody st) t ∧ t { nx := fun _ H' => Q .non H', rt := Q } (start N vs) H) : Got P w K mg base name (k + 1) ps sp := by
  obtain ⟨f, fd, F, b, m⟩ := D.ex
  obtain ⟨oc, od, kV, doc, pm, an, cdv, ct, osl, rfl, lk, hcd⟩ := F.ex
  refine ⟨f, _, ⟨len, fun A outer s H args us vs Q E hr e0 hb r hsp => ?_⟩, b, F.kp, m⟩
  have hl := len _ _ _ _ hsp
  have KX : K.In s.heap := e0.mod.kin.keeps fun b o e => (e0.bs b o e).1
  have lim : s.heap.NoLimit := e0.mod.nolimit.keeps fun b o e => (e0.bs b o e).1
  have hkind : ∀ y ∈ ps.zip us, (defScope st).names.lookup y.1 = some .local ∨ ((defScope st).names.lookup y.1 = some .cell ∧ ((cellsFrom (s.heap.objs.size + 1) (defScope st).names []).lookup y.1).isSome = true) := fun ⟨n, v⟩ hy => by
    rcases S.par n (List.of_mem_zip hy).1 with q | q
    · exact .inl q
    · exact .inr ⟨q, PySem.W.cellsFrom_some _ _ _ (.inl q)⟩
  refine codeAny_call_function hr.depth (KX _ _ lk) rfl S.co S.gen rfl (PySem.W.codeRec_of KX hcd) (hb _ _ _ _ ?_)
  refine wpAny_newFunctionEnv_cells S.kind hkind fun env he s1 x => ?_
  subst he
  refine ⟨lim.keeps x.toInCall.keep, codeAny_func ?_⟩
  obtain ⟨t, ht, hq⟩ := hbody f cdv A outer s H vs Q E (hr.deeper _) hsp
  have I : Inv (cxOf CX0 P w K mg base N name (defScope st) f cdv A outer s H E) [] (start N vs) H s1 := inv_start S hr.hd e0 hl r x
  refine wpAny_mono (ht s1 (start N vs) H _ (I.wish _) hq) (fun fl s' hs => ?_) fun e s' hs => False.elim hs
  have hs := hs.unwish
  have fin : ∀ {σ' : St} {H' : Hp} {v : V} {u : Value}, Inv (cxOf CX0 P w K mg base N name (defScope st) f cdv A outer s H E) [] σ' H' s' → RelV v u → Q v H' → CE outer P w H s Q u s' :=
    fun {σ' H' v u} J rv q => ⟨v, H', J.os, J.bare, J.base, J.hok, rv, q⟩
  cases fl with
  | ret u =>
    obtain ⟨v, σ', H', J, rv, q⟩ := hs
    exact fin J rv q
  | next =>
    obtain ⟨σ', H', J, q⟩ := hs
    exact fin (v := V.non) (u := Value.none) J rfl q
  | brk =>
    obtain ⟨_, _, _, q⟩ := hs
    exact False.elim q
  | cont =>
    obtain ⟨_, _, _, q⟩ := hs
    exact False.elim q
end
section
variable {X : Cx} {x : Str} {p pos : Pos} {e : Expr} {es : List Expr} {t : TA} {k : Nat} {ps : List Str} {sp : Sp} {E : XK}
/-- a call of a def that may raise, in a body that looks out for it -/
theorem pe_callP (G : GotE X.prog X.w X.K X.mg X.base x k ps sp) (hp : Passes (CX1 X.prog X.w) X E) (hr : Room k X.A) (hg : Gl X x) (ha : PA X (e :: es) t) (hdb : (x == ("__debug__" : Str)) = false := by decide)
    (he : starEach (e :: es) X.env = (false, eval e X.env) :: starEach es X.env := by rfl) (hpl : (backTo pos (starEach es X.env)).any (·.1) = false := by rfl) : PE X (.Call (.Name x p) (e :: es) [] pos) (tCall sp [] E t) := by
  obtain ⟨f, fd, F, b, kp, m⟩ := G.ex
  exact pe_call F hr hg m kp b .nil hp ha hdb he hpl
/-- a call within an except -/
theorem pe_callX (G : GotX X.prog X.w X.K X.mg X.base x k ps sp) (hr : RoomX k X.A) (hg : Gl X x) (ha : PA X (e :: es) t) (hdb : (x == ("__debug__" : Str)) = false := by decide)
    (he : starEach (e :: es) X.env = (false, eval e X.env) :: starEach es X.env := by rfl) (hpl : (backTo pos (starEach es X.env)).any (·.1) = false := by rfl) : PE X (.Call (.Name x p) (e :: es) [] pos) (tCall sp [] E0 t) := by
  obtain ⟨f, fd, F, b, kp, m⟩ := G.ex
  intro pins s σ H Q I h
  refine wpAny_Call_Name_kw (ld_glob I hg m ?_ hdb)
  refine PySem.W.callWith_K (h₀ := X.base) I.ok.mod.kin kp (thn (ha pos pins s σ H _ I h) fun us s1 ⟨vs, H1, I1, r, q⟩ => ⟨I1.kIn, ?_⟩) he hpl
  have q : sp vs H1 Q E0 := by
    have q : sp (vs ++ []) H1 Q E0 := q
    rwa [List.append_nil] at q
  have hl : us.length = ps.length := by rw [← r.length]; exact F.len _ _ _ _ q
  have hb := b s1 us I1.kIn (by rw [List.append_nil]; exact hl)
  rw [List.append_nil] at hb
  refine wpAny_call (codeAny_mono (F.run X.A X.stack s1 H1 ⟨us, []⟩ us vs Q E0 hr I1.env0 hb r q) fun r s' hq => ?_)
  cases r with
  | error e => exact False.elim hq
  | ok fl =>
    cases fl with
    | ret u => exact I1.after hq
    | next => exact False.elim hq
    | brk => exact False.elim hq
    | cont => exact False.elim hq
/-- a class by its name -/
theorem pe_globC {C : Addr} (h : X.mg x = some (.ref C)) (hg : Gl X x) (hd : (x == ("__debug__" : Str)) = false := by decide) : PE X (.Name x pos) (tC (.ref C)) := pe_glob hg h rfl hd
end
end L2

set_option Elab.async false
set_option maxRecDepth 100000
namespace L2
open PySem PySem.Spec PyProof.Rows
theorem _root_.PyProof.Rows.boot_ValueError : bootBuiltins "ValueError" = some (.type "ValueError") := by decide +kernel
/-! ### the six classes of refusals -/
/-- by their names -/
structure Exs (mg : Str → Option Value) (F c0 c1 c2 c3 c4 c5 : Addr) : Prop where
  f : mg "FigureError" = some (.ref F)
  n0 : mg "NoBase" = some (.ref c0)
  n1 : mg "NoFraction" = some (.ref c1)
  n2 : mg "NoWriting" = some (.ref c2)
  n3 : mg "NoNumber" = some (.ref c3)
  n4 : mg "TooLong" = some (.ref c4)
  n5 : mg "NoNote" = some (.ref c5)
/-- how the class C, the j-th of them, stands to the others -/
structure RefX (K : PySem.W.Frag) (F c0 c1 c2 c3 c4 c5 C : Addr) (j : Nat) : Prop where
  up : PySem.W.mroIn K C (.ref F) = some true
  ve : PySem.W.kitOne K (.ref C) (.type "ValueError") = some true
  k0 : PySem.W.kitOne K (.ref C) (.ref c0) = some (decide (j = 0))
  k1 : PySem.W.kitOne K (.ref C) (.ref c1) = some (decide (j = 1))
  k2 : PySem.W.kitOne K (.ref C) (.ref c2) = some (decide (j = 2))
  k3 : PySem.W.kitOne K (.ref C) (.ref c3) = some (decide (j = 3))
  k4 : PySem.W.kitOne K (.ref C) (.ref c4) = some (decide (j = 4))
  k5 : PySem.W.kitOne K (.ref C) (.ref c5) = some (decide (j = 5))
structure Ref (K : PySem.W.Frag) (mg : Str → Option Value) (j : Nat) (C : Addr) : Prop where
  lt : j < 6
  ex : PySem.W.excIn K C veTail veNew = true
  xc : XcOk K C
  all : ∀ F c0 c1 c2 c3 c4 c5, Exs mg F c0 c1 c2 c3 c4 c5 → RefX K F c0 c1 c2 c3 c4 c5 C j
theorem ref_mk {K : PySem.W.Frag} {mg : Str → Option Value} {F c0 c1 c2 c3 c4 c5 C : Addr} {j : Nat} (x : Exs mg F c0 c1 c2 c3 c4 c5) (lt : j < 6) (ex : PySem.W.excIn K C veTail veNew = true) (xc : XcOk K C) (r : RefX K F c0 c1 c2 c3 c4 c5 C j) : Ref K mg j C :=
  ⟨lt, ex, xc, fun F' d0 d1 d2 d3 d4 d5 y => by
    have ef := x.f.symm.trans y.f
    have e0 := x.n0.symm.trans y.n0
    have e1 := x.n1.symm.trans y.n1
    have e2 := x.n2.symm.trans y.n2
    have e3 := x.n3.symm.trans y.n3
    have e4 := x.n4.symm.trans y.n4
    have e5 := x.n5.symm.trans y.n5
    cases ef; cases e0; cases e1; cases e2; cases e3; cases e4; cases e5
    exact r⟩
/-- the j-th refusal is told, and nothing that was there has changed -/
def Raised (K : PySem.W.Frag) (mg : Str → Option Value) (j : Nat) (E : XK) (H : Hp) : Prop := ∀ C H', Ref K mg j C → Same H H' → E (.ref C) none H'
theorem Raised.up {K : PySem.W.Frag} {mg : Str → Option Value} {j : Nat} {E : XK} {H H1 : Hp} (r : Raised K mg j E H) (s : Same H H1) : Raised K mg j E H1 := fun C H' x s' => r C H' x (s.trans s')
def wordOf : Nat → Str
  | 0 => "base"
  | 1 => "fraction"
  | 2 => "writing"
  | 3 => "number"
  | 4 => "long"
  | _ => "note"
section
variable {X : Cx} {x : Str} {p pos : Pos} {e : Expr} {es : List Expr} {t : TA} {k : Nat} {ps : List Str} {sp : Sp}
end
end L2

set_option Elab.async false
set_option maxRecDepth 100000
namespace My
open PySem L2
/-! sums and multiples -/
def Long (T B : Int) : Prop := 1000000000000 < T / B ∨ 2000 < (RF.low T B).2
/-- what is told of a result -/
def Out (K : PySem.W.Frag) (mg : Str → Option Value) (b T B : Int) (H : Hp) (Q : VK) (E : XK) : Prop :=
  (Long T B → Raised K mg 4 E H) ∧ (¬ Long T B → ∀ (w : Int) (a g : List Int) (p la lg : Addr) (H' : Hp), RF.DivIs b (RF.low T B).1 (RF.low T B).2 w a g → NewWr H H' p la lg w a g → Q (.ref p) H')
theorem Out.up {K : PySem.W.Frag} {mg : Str → Option Value} {b T B : Int} {H H1 : Hp} {Q : VK} {E : XK} (o : Out K mg b T B H Q E) (s : Same H H1) : Out K mg b T B H1 Q E :=
  ⟨fun l => (o.1 l).up s, fun l w a g p la lg H' d n => o.2 l w a g p la lg H' d (NewWr.up s n)⟩
inductive spResultOf (K : PySem.W.Frag) (mg : Str → Option Value) (vs : List V) (H : Hp) (Q : VK) (E : XK) : Prop
  | mk : ∀ b T B : Int, (vs = [.int b, .int T, .int B]) → (2 ≤ b) → (b ≤ 36) → (0 ≤ T) → (0 < B) → (B.natAbs < 2 ^ 8500) → (Out K mg b T B H Q E) → spResultOf K mg vs H Q E
inductive spCheckNumberE (K : PySem.W.Frag) (mg : Str → Option Value) (vs : List V) (H : Hp) (Q : VK) (E : XK) : Prop
  | mk : ∀ n : Int, (vs = [.int n]) → ((0 ≤ n ∧ n ≤ 1000000 → Q .non H)) → ((¬ (0 ≤ n ∧ n ≤ 1000000) → Raised K mg 3 E H)) → spCheckNumberE K mg vs H Q E
/-- top and bottom of a worth -/
abbrev tp (b x : Int) (a g : List Int) : Int := (RF.low (RF.wT b x a g) (RF.wB b a g)).1
abbrev bt (b x : Int) (a g : List Int) : Int := (RF.low (RF.wT b x a g) (RF.wB b a g)).2
/-- a writing that one may reckon with -/
structure Reck (b x : Int) (a g : List Int) : Prop where
  gw : GoodW b x a g
  dv : DivOk (RF.num b a * RF.rM b g + RF.num b g) (RF.wB b a g)
  sm : (bt b x a g).natAbs < 2 ^ 3900
structure Sizes (t q : Int) : Prop where
  t0 : 0 ≤ t
  q0 : 0 < q
  ts : t.natAbs < 2 ^ 3990
  qs : q.natAbs < 2 ^ 3900
theorem Reck.sizes {b x : Int} {a g : List Int} (b2 : 2 ≤ b) (r : Reck b x a g) : Sizes (tp b x a g) (bt b x a g) := by
  have hB := RF.wB_pos b2 a g
  have hN := RF.wN_bd b2 r.gw.fa r.gw.fg
  have hT := wT_nonneg b2 r.gw
  have q0 := RF.low_pos (T := RF.wT b x a g) hB
  have t0 := low_nonneg (B := RF.wB b a g) hT
  have e := RF.low_mul (T := RF.wT b x a g) hB
  have sm := r.sm
  have x1 := r.gw.w1
  refine ⟨t0, q0, ?_, sm⟩
  have h1 : RF.wT b x a g ≤ (x + 1) * RF.wB b a g := by
    unfold RF.wT
    rw [Int.add_mul, Int.one_mul]
    omega
  have h2 : tp b x a g * RF.wB b a g ≤ (x + 1) * bt b x a g * RF.wB b a g := by
    show (RF.low (RF.wT b x a g) (RF.wB b a g)).1 * RF.wB b a g ≤ _
    rw [← e]
    have := Int.mul_le_mul_of_nonneg_right h1 (Int.le_of_lt q0)
    rw [Int.mul_assoc, Int.mul_comm (bt b x a g), ← Int.mul_assoc]
    exact this
  have h3 : tp b x a g ≤ (x + 1) * bt b x a g := Int.le_of_mul_le_mul_right h2 hB
  have h4 : (x + 1) * bt b x a g ≤ 2 ^ 41 * bt b x a g := Int.mul_le_mul_of_nonneg_right (by omega) (Int.le_of_lt q0)
  have h5 : (bt b x a g) < 2 ^ 3900 := by
    have : ((bt b x a g).natAbs : Int) < ((2 ^ 3900 : Nat) : Int) := Int.ofNat_lt.mpr sm
    rw [Int.natAbs_of_nonneg (Int.le_of_lt q0), Int.natCast_pow] at this
    exact this
  have h6 : 2 ^ 41 * bt b x a g < 2 ^ 41 * 2 ^ 3900 := Int.mul_lt_mul_of_pos_left h5 (by decide)
  have h7 : ((tp b x a g).natAbs : Int) < ((2 ^ 41 * 2 ^ 3900 : Nat) : Int) := by
    rw [Int.natAbs_of_nonneg t0, Int.natCast_mul, Int.natCast_pow, Int.natCast_pow]
    exact Int.lt_of_le_of_lt h3 (Int.lt_of_le_of_lt h4 h6)
  have h8 := Int.ofNat_lt.mp h7
  rw [← Nat.pow_add] at h8
  exact Nat.lt_of_lt_of_le h8 (Nat.pow_le_pow_right (by decide) (by decide))
inductive spAdded (K : PySem.W.Frag) (mg : Str → Option Value) (vs : List V) (H : Hp) (Q : VK) (E : XK) : Prop
  | mk : ∀ (b : Int) (p1 la1 lg1 : Addr) (x1 : Int) (a1 g1 : List Int) (p2 la2 lg2 : Addr) (x2 : Int) (a2 g2 : List Int), (vs = [.int b, .ref p1, .ref p2]) → (2 ≤ b) → (b ≤ 36) → (WrAt K H p1 la1 lg1 x1 a1 g1) → (Reck b x1 a1 g1) → (WrAt K H p2 la2 lg2 x2 a2 g2) → (Reck b x2 a2 g2) → (Out K mg b (tp b x1 a1 g1 * bt b x2 a2 g2 + tp b x2 a2 g2 * bt b x1 a1 g1) (bt b x1 a1 g1 * bt b x2 a2 g2) H Q E) → spAdded K mg vs H Q E
inductive spTimes (K : PySem.W.Frag) (mg : Str → Option Value) (vs : List V) (H : Hp) (Q : VK) (E : XK) : Prop
  | mk : ∀ (b : Int) (p la lg : Addr) (x : Int) (a g : List Int) (n : Int), (vs = [.int b, .ref p, .int n]) → (2 ≤ b) → (b ≤ 36) → (WrAt K H p la lg x a g) → (Reck b x a g) → ((0 ≤ n ∧ n ≤ 1000000 → Out K mg b (tp b x a g * n) (bt b x a g) H Q E)) → ((¬ (0 ≤ n ∧ n ≤ 1000000) → Raised K mg 3 E H)) → spTimes K mg vs H Q E
/-- short writings, and those of fractions -/
theorem reck_short {b x : Int} {a g : List Int} (b2 : 2 ≤ b) (b36 : b ≤ 36) (gw : GoodW b x a g) (h : a.length + g.length ≤ 600) : Reck b x a g := by
  refine ⟨gw, divOk_short0 b2 b36 gw.fa gw.fg (by omega), ?_⟩
  have hB := RF.wB_pos b2 a g
  have h1 := low_le (t := RF.wT b x a g) hB
  have h0 := RF.low_pos (T := RF.wT b x a g) hB
  have h2 := RF.wB_le b2 b36 a g
  refine Nat.lt_of_le_of_lt (Nat.le_trans (show (bt b x a g).natAbs ≤ (RF.wB b a g).natAbs from ?_) h2) (Nat.pow_lt_pow_right (by decide) (by omega))
  show (RF.low (RF.wT b x a g) (RF.wB b a g)).2.natAbs ≤ _
  omega
/-! a fraction n by D, D at most 2000 -/
/-! the law's own words of sums -/
inductive spWordOf (K : PySem.W.Frag) (mg : Str → Option Value) (vs : List V) (H : Hp) (Q : VK) (u3 : XK) : Prop
  | mk : ∀ (a C : Addr) (j : Nat), (vs = [.ref a]) → (H a = some (.ext (ofCls a (.ref C)))) → (Ref K mg j C) → (∀ H', Same H H' → Q (.str (wordOf j)) H') → spWordOf K mg vs H Q u3
abbrev wds (j : Nat) : List Bool := [decide (j = 0), decide (j = 1), decide (j = 2), decide (j = 3), decide (j = 4), decide (j = 5)]
theorem lt_step {R : Nat → Prop} {n j : Nat} (h : j < n + 1) (hn : R n) (k : j < n → R j) : R j := (Nat.lt_succ_iff_lt_or_eq.mp h).elim k fun e => e ▸ hn
theorem six {R : Nat → Prop} (h0 : R 0) (h1 : R 1) (h2 : R 2) (h3 : R 3) (h4 : R 4) (h5 : R 5) {j : Nat} (h : j < 6) : R j :=
  lt_step h h5 fun h => lt_step h h4 fun h => lt_step h h3 fun h => lt_step h h2 fun h => lt_step h h1 fun h => lt_step h h0 fun h => absurd h (Nat.not_lt_zero _)
theorem word_count {j : Nat} (h : j < 6) : PySem.Spec.countIn (.bool true) ((wds j).map PyData.bool) = 1 := six (R := fun j => PySem.Spec.countIn (.bool true) ((wds j).map PyData.bool) = 1) (by decide) (by decide) (by decide) (by decide) (by decide) (by decide) h
theorem word_ix {j : Nat} (h : j < 6) : (wds j)[j]? = some true := six (R := fun j => (wds j)[j]? = some true) rfl rfl rfl rfl rfl rfl h
theorem word_no {j : Nat} (h : j < 6) : ∀ i, i < j → (wds j)[i]? = some (!true) := fun i hi => by
  have : ∀ j : Fin 6, ∀ i : Fin 6, i.val < j.val → (wds j.val)[i.val]? = some (!true) := by decide
  exact this ⟨j, h⟩ ⟨i, by omega⟩ hi
theorem word_at {j : Nat} (h : j < 6) : atI [V.str "base", .str "fraction", .str "writing", .str "number", .str "long", .str "note"] (j : Int) = some (.str (wordOf j)) :=
  atI_nat (six (R := fun j => [V.str "base", .str "fraction", .str "writing", .str "number", .str "long", .str "note"][j]? = some (.str (wordOf j))) rfl rfl rfl rfl rfl rfl h)
theorem slot_set {σ : St} {i n : Nat} {v : V} (h : σ.length = n) (hi : i < n) : (σ.set i (some v))[i]? = some (some v) := by
  rw [List.getElem?_set_self (by omega)]
/-- a writing whose objects are not D -/
structure WrN (D : Addr) (H : Hp) (p la lg : Addr) (x : Int) (a g : List Int) : Prop where
  t : H p = some (.tup [.int x, .ref la, .ref lg])
  a : H la = some (.lst (a.map V.int))
  g : H lg = some (.lst (g.map V.int))
  np : p ≠ D
  na : la ≠ D
  ng : lg ≠ D
theorem WrN.of {D : Addr} {H H' : Hp} {p la lg : Addr} {x : Int} {a g : List Int} {o : HO} (hD : H D = some o) (n : NewWr H H' p la lg x a g) : WrN D H' p la lg x a g :=
  ⟨n.t, n.a, n.g, fun e => (by have := n.np; rw [e, hD] at this; cases this), fun e => (by have := n.na; rw [e, hD] at this; cases this), fun e => (by have := n.ng; rw [e, hD] at this; cases this)⟩
theorem WrN.same {D : Addr} {H H' : Hp} {p la lg : Addr} {x : Int} {a g : List Int} (w : WrN D H p la lg x a g) (s : Same H H') : WrN D H' p la lg x a g := ⟨s _ _ w.t, s _ _ w.a, s _ _ w.g, w.np, w.na, w.ng⟩
theorem WrN.put {D : Addr} {H : Hp} {p la lg : Addr} {x : Int} {a g : List Int} {o : HO} (w : WrN D H p la lg x a g) : WrN D (upd H D o) p la lg x a g :=
  ⟨by rw [upd_ne w.np]; exact w.t, by rw [upd_ne w.na]; exact w.a, by rw [upd_ne w.ng]; exact w.g, w.np, w.na, w.ng⟩
theorem WrN.wr {K : PySem.W.Frag} {D : Addr} {H : Hp} {p la lg : Addr} {x : Int} {a g : List Int} (w : WrN D H p la lg x a g) : WrAt K H p la lg x a g := ⟨.of w.t, .of w.a, .of w.g⟩
end My

set_option Elab.async false
set_option maxRecDepth 100000
namespace My
open PySem L2
/-! refusals -/
def BaseOk (b : Int) : Prop := 2 ≤ b ∧ b ≤ 36
def FracOk (t q : Int) : Prop := 0 ≤ t ∧ t ≤ 1000000000000 ∧ 1 ≤ q ∧ q ≤ 2000
def BotOk (q : Int) : Prop := 1 ≤ q ∧ q ≤ 2000
def RingOk (b : Int) (g : List Int) : Prop := g.length ≤ 4000 ∧ RF.Figs b g
theorem good_iff {b x : Int} {a g : List Int} : GoodW b x a g ↔ 0 ≤ x ∧ x ≤ 1000000000000 ∧ RingOk b a ∧ RingOk b g :=
  ⟨fun h => ⟨h.w0, h.w1, ⟨h.la, h.fa⟩, ⟨h.lg, h.fg⟩⟩, fun h => ⟨h.1, h.2.1, h.2.2.1.2, h.2.2.2.2, h.2.2.1.1, h.2.2.2.1⟩⟩
section
variable (K : PySem.W.Frag) (mg : Str → Option Value)
def spCheckBaseE : Sp := fun vs H Q E => spCheckBase vs H Q E ∨ ∃ b : Int, vs = [.int b] ∧ ¬ BaseOk b ∧ Raised K mg 0 E H
def spCheckBottomE : Sp := fun vs H Q E => spCheckBottom vs H Q E ∨ ∃ q : Int, vs = [.int q] ∧ ¬ BotOk q ∧ Raised K mg 1 E H
def spCheckFractionE : Sp := fun vs H Q E => spCheckFraction vs H Q E ∨ ∃ t q : Int, vs = [.int t, .int q] ∧ ¬ FracOk t q ∧ Raised K mg 1 E H
def spCheckFiguresE : Sp := fun vs H Q E => spCheckFigures K vs H Q E ∨ ∃ (b : Int) (l : Addr) (ns : List Int), vs = [.int b, .ref l] ∧ SqL K H l (ns.map V.int) ∧ ¬ RingOk b ns ∧ Raised K mg 2 E H
def spCheckWritingE : Sp := fun vs H Q E => spCheckWriting K vs H Q E ∨ ∃ (b : Int) (p la lg : Addr) (x : Int) (a g : List Int), vs = [.int b, .ref p] ∧ WrAt K H p la lg x a g ∧ ¬ GoodW b x a g ∧ Raised K mg 2 E H
/-- refused: the base, or what comes behind it -/
def Ref1 (b : Int) (ok : Prop) (j : Nat) (E : XK) (H : Hp) : Prop := (¬ BaseOk b ∧ Raised K mg 0 E H) ∨ (BaseOk b ∧ ¬ ok ∧ Raised K mg j E H)
def spWrittenE : Sp := fun vs H Q E => spDivided vs H Q E ∨ ∃ b t q : Int, vs = [.int b, .int t, .int q] ∧ Ref1 K mg b (FracOk t q) 1 E H
def spFigureAtE : Sp := fun vs H Q E => spFigureAt vs H Q E ∨ ∃ b t q n : Int, vs = [.int b, .int t, .int q, .int n] ∧ Ref1 K mg b (FracOk t q) 1 E H
def spLengthsE : Sp := fun vs H Q E => spLengths vs H Q E ∨ ∃ b q : Int, vs = [.int b, .int q] ∧ Ref1 K mg b (BotOk q) 1 E H
inductive RefW (vs : List V) (H : Hp) (u2 : VK) (E : XK) : Prop
  | mk : ∀ (b : Int) (p la lg : Addr) (x : Int) (a g : List Int), (vs = [.int b, .ref p]) → (WrAt K H p la lg x a g) → (Ref1 K mg b (GoodW b x a g) 2 E H) → RefW vs H u2 E
def spWorthE : Sp := fun vs H Q E => spWorth K vs H Q E ∨ RefW K mg vs H Q E
def spAddedE : Sp := fun vs H Q E => spAdded K mg vs H Q E ∨ ∃ (b : Int) (p1 la1 lg1 : Addr) (x1 : Int) (a1 g1 : List Int) (p2 la2 lg2 : Addr) (x2 : Int) (a2 g2 : List Int), vs = [.int b, .ref p1, .ref p2] ∧ WrAt K H p1 la1 lg1 x1 a1 g1 ∧ WrAt K H p2 la2 lg2 x2 a2 g2 ∧
  (Ref1 K mg b (GoodW b x1 a1 g1) 2 E H ∨ (BaseOk b ∧ Reck b x1 a1 g1 ∧ ¬ GoodW b x2 a2 g2 ∧ Raised K mg 2 E H))
def spTimesE : Sp := fun vs H Q E => spTimes K mg vs H Q E ∨ ∃ (b : Int) (p la lg : Addr) (x : Int) (a g : List Int) (n : Int), vs = [.int b, .ref p, .int n] ∧ WrAt K H p la lg x a g ∧ Ref1 K mg b (GoodW b x a g) 2 E H
end
end My

set_option Elab.async false
set_option maxRecDepth 100000
namespace My
open PySem L2
/-! who refuses what -/
def argOk : Nat → Int → Int → Int → Int → List Int → List Int → Prop
  | 0, _, t, q, _, _, _ => FracOk t q
  | 1, _, t, q, _, _, _ => FracOk t q
  | 9, _, _, q, _, _, _ => BotOk q
  | 10, b, _, _, _, _, g => RingOk b g
  | _, b, _, _, x, a, g => GoodW b x a g
def argWord : Nat → Nat
  | 0 => 1
  | 1 => 1
  | 9 => 1
  | _ => 2
inductive Acc (j : Nat) (b t q x : Int) (a g : List Int) : Str → Prop
  | base : ¬ BaseOk b → Acc j b t q x a g (wordOf 0)
  | arg : BaseOk b → ¬ argOk j b t q x a g → Acc j b t q x a g (wordOf (argWord j))
  | num : BaseOk b → argOk j b t q x a g → j = 8 → Acc j b t q x a g (wordOf 3)
  | long : BaseOk b → argOk j b t q x a g → (j = 6 ∨ j = 7) → Acc j b t q x a g (wordOf 4)
  | done : BaseOk b → argOk j b t q x a g → j ≠ 8 → Acc j b t q x a g "done"
inductive spCalled (K : PySem.W.Frag) (mg : Str → Option Value) (vs : List V) (H : Hp) (Q : VK) (E : XK) : Prop
  | mk : ∀ (j : Nat) (b : Int) (pf : Addr) (t q : Int) (pw la lg : Addr) (x : Int) (a g : List Int), (vs = [.int (j : Int), .int b, .ref pf, .ref pw]) → (j < 11) → (SqT K H pf [.int t, .int q]) → (WrAt K H pw la lg x a g) → ((BaseOk b → GoodW b x a g → (j = 2 ∨ j = 6 ∨ j = 7 ∨ j = 8) → Reck b x a g)) → ((∀ i, Acc j b t q x a g (wordOf i) → Raised K mg i E H)) → ((Acc j b t q x a g "done" → ∀ H', Same H H' → Q .non H')) → spCalled K mg vs H Q E
inductive spTried (K : PySem.W.Frag) (vs : List V) (H : Hp) (Q : VK) (u3 : XK) : Prop
  | mk : ∀ (j : Nat) (b : Int) (pf : Addr) (t q : Int) (pw la lg : Addr) (x : Int) (a g : List Int), (vs = [.int (j : Int), .int b, .ref pf, .ref pw]) → (j < 11) → (SqT K H pf [.int t, .int q]) → (WrAt K H pw la lg x a g) → ((BaseOk b → GoodW b x a g → (j = 2 ∨ j = 6 ∨ j = 7 ∨ j = 8) → Reck b x a g)) → (∀ (z : Str) (H' : Hp), Acc j b t q x a g z → Same H H' → Q (.str z) H') → spTried K vs H Q u3
theorem good_one {b : Int} (ob : BaseOk b) : GoodW b 1 [] [0] :=
  ⟨by decide, by decide, fun d hd => by simp at hd, fun d hd => by
    have : d = 0 := by simpa using hd
    have := ob.1
    omega, by decide, by decide⟩
theorem reck_one {b : Int} (ob : BaseOk b) : Reck b 1 [] [0] := reck_short ob.1 ob.2 (good_one ob) (by decide)
theorem NewLs.putA {H H' : Hp} {la lg : Addr} {a a' g : List Int} {xs : List V} (n : NewLs H H' la lg a g) (e : xs = a'.map V.int) : NewLs H (upd H' la (.lst xs)) la lg a' g :=
  ⟨n.sm.upd2 n.na, by rw [upd_same, e], by rw [upd_ne n.ne.symm]; exact n.g, n.na, n.ng, n.ne⟩
theorem NewLs.putG {H H' : Hp} {la lg : Addr} {a g g' : List Int} {xs : List V} (n : NewLs H H' la lg a g) (e : xs = g'.map V.int) : NewLs H (upd H' lg (.lst xs)) la lg a g' :=
  ⟨n.sm.upd2 n.ng, by rw [upd_ne n.ne]; exact n.a, by rw [upd_same, e], n.na, n.ng, n.ne⟩
theorem NewWr.ls {H H' : Hp} {p la lg : Addr} {x : Int} {a g : List Int} (n : NewWr H H' p la lg x a g) : NewLs H H' la lg a g := ⟨n.sm, n.a, n.g, n.na, n.ng, n.ne⟩
theorem ins_map (l : List Int) (i : Nat) (v : Int) : (l.map V.int).take i ++ V.int v :: (l.map V.int).drop i = (l.take i ++ v :: l.drop i).map V.int := by
  rw [List.map_append, List.map_cons, List.map_take, List.map_drop]
theorem bad_ins {b v : Int} {l : List Int} {i : Nat} (hv : ¬ (0 ≤ v ∧ v < b)) : ¬ RingOk b (l.take i ++ v :: l.drop i) := fun h => hv (h.2 v (List.mem_append_right _ List.mem_cons_self))
theorem bad_ext {b : Int} {l : List Int} : ¬ RingOk b (l ++ List.replicate 4001 1) := fun h => by
  have := h.1
  rw [List.length_append, List.length_replicate] at this
  omega
theorem ext_map (l : List Int) : l.map V.int ++ (List.range (4001 : Int).toNat).map (fun _ => V.int 1) = (l ++ List.replicate 4001 1).map V.int := by
  rw [List.map_append]
  congr 1
inductive spSpoilt (K : PySem.W.Frag) (vs : List V) (H : Hp) (Q : VK) (u3 : XK) : Prop
  | mk : ∀ (sc : Addr) (ns : List Int) (b : Int) (p la lg : Addr) (x : Int) (a g : List Int) (wy fr : Int), (vs = [.ref sc, .int b, .ref p, .int wy, .int fr]) → (SqL K H sc (ns.map V.int)) → (BaseOk b) → (WrAt K H p la lg x a g) → (GoodW b x a g) → (0 ≤ wy) → (wy < 8) → (0 ≤ fr) → (∀ (x' : Int) (a' g' : List Int) (p' la' lg' : Addr) (H' : Hp), ¬ GoodW b x' a' g' → (RingOk b g' ↔ ¬ (1 < wy ∧ wy % 2 = 1)) → NewWr H H' p' la' lg' x' a' g' → Q (.ref p') H') → spSpoilt K vs H Q u3
/-- the word that is due -/
def Fits (ok : Prop) (d bad : Str) : Prop := (ok ∧ d = "done") ∨ (¬ ok ∧ d = bad)
theorem WrN.fresh {D : Addr} {H0 H : Hp} {p la lg : Addr} {x : Int} {a g : List Int} {o : HO} (n : NewWr H0 H p la lg x a g) (hD : H D = none) : WrN D (upd H D o) p la lg x a g :=
  have e1 := ne_of_none n.t hD
  have e2 := ne_of_none n.a hD
  have e3 := ne_of_none n.g hD
  ⟨by rw [upd_ne e1]; exact n.t, by rw [upd_ne e2]; exact n.a, by rw [upd_ne e3]; exact n.g, e1, e2, e3⟩
/-- the words that are due of all -/
def Wants (b t q x : Int) (a g : List Int) (d0 d1 d2 d3 : Str) : Prop :=
  (¬ BaseOk b ∧ d0 = wordOf 0 ∧ d1 = wordOf 0 ∧ d2 = wordOf 0 ∧ d3 = wordOf 0) ∨
  (BaseOk b ∧ Fits (FracOk t q) d0 (wordOf 1) ∧ Fits (GoodW b x a g) d1 (wordOf 2) ∧ Fits (BotOk q) d2 (wordOf 1) ∧ Fits (RingOk b g) d3 (wordOf 2) ∧ (GoodW b x a g → Reck b x a g))
abbrev dws (d0 d1 d2 d3 : Str) : List Str := [d0, d0, d1, d1, d1, d1, d1, d1, d1, d2, d3]
def want (d0 d1 d2 d3 : Str) (i : Nat) : Str := if i = 8 ∧ (dws d0 d1 d2 d3).getD i "" = ("done" : Str) then ("number" : Str) else (dws d0 d1 d2 d3).getD i ""
theorem eleven {R : Nat → Prop} (h0 : R 0) (h1 : R 1) (h2 : R 2) (h3 : R 3) (h4 : R 4) (h5 : R 5) (h6 : R 6) (h7 : R 7) (h8 : R 8) (h9 : R 9) (h10 : R 10) {j : Nat} (h : j < 11) : R j :=
  lt_step h h10 fun h => lt_step h h9 fun h => lt_step h h8 fun h => lt_step h h7 fun h => lt_step h h6 fun h => six h0 h1 h2 h3 h4 h5 h
theorem dws_at {d0 d1 d2 d3 : Str} {i : Nat} (h : i < 11) : atI ((dws d0 d1 d2 d3).map V.str) (0 + (i : Int)) = some (.str ((dws d0 d1 d2 d3).getD i "")) := by
  rw [Int.zero_add]
  exact atI_nat (eleven (R := fun i => ((dws d0 d1 d2 d3).map V.str)[i]? = some (.str ((dws d0 d1 d2 d3).getD i ""))) rfl rfl rfl rfl rfl rfl rfl rfl rfl rfl rfl h)
theorem dws_base {i : Nat} (h : i < 11) : (dws (wordOf 0) (wordOf 0) (wordOf 0) (wordOf 0)).getD i "" = wordOf 0 :=
  eleven (R := fun i => (dws (wordOf 0) (wordOf 0) (wordOf 0) (wordOf 0)).getD i "" = wordOf 0) rfl rfl rfl rfl rfl rfl rfl rfl rfl rfl rfl h
/-- at place i the word of what is handed to i -/
theorem dws_fits {b t q x : Int} {a g : List Int} {d0 d1 d2 d3 : Str} {i : Nat} (h : i < 11) (f0 : Fits (FracOk t q) d0 (wordOf 1)) (f1 : Fits (GoodW b x a g) d1 (wordOf 2)) (f2 : Fits (BotOk q) d2 (wordOf 1)) (f3 : Fits (RingOk b g) d3 (wordOf 2)) :
    Fits (argOk i b t q x a g) ((dws d0 d1 d2 d3).getD i "") (wordOf (argWord i)) :=
  eleven (R := fun i => Fits (argOk i b t q x a g) ((dws d0 d1 d2 d3).getD i "") (wordOf (argWord i))) f0 f0 f1 f1 f1 f1 f1 f1 f1 f2 f3 h
theorem told_wanted {b t q x : Int} {a g : List Int} {d0 d1 d2 d3 z : Str} {i : Nat} (h : i < 11) (w : Wants b t q x a g d0 d1 d2 d3) (c : Acc i b t q x a g z) :
    z = want d0 d1 d2 d3 i ∨ ((i = 6 ∨ i = 7) ∧ want d0 d1 d2 d3 i = "done" ∧ z = "long") := by
  rcases w with ⟨nb, rfl, rfl, rfl, rfl⟩ | ⟨ob, f0, f1, f2, f3, _⟩
  · cases c with
    | base _ =>
      left
      unfold want
      rw [dws_base h, if_neg]
      rintro ⟨_, e⟩
      revert e
      decide
    | arg ob => exact absurd ob nb
    | num ob => exact absurd ob nb
    | long ob => exact absurd ob nb
    | done ob => exact absurd ob nb
  · have ft := dws_fits h f0 f1 f2 f3
    generalize hd : (dws d0 d1 d2 d3).getD i "" = d at ft
    have hw : want d0 d1 d2 d3 i = if i = 8 ∧ d = ("done" : Str) then ("number" : Str) else d := by unfold want; rw [hd]
    rw [hw]
    cases c with
    | base nb => exact absurd ob nb
    | arg _ na =>
      rcases ft with ⟨ok, _⟩ | ⟨_, rfl⟩
      · exact absurd ok na
      · left
        rw [if_neg]
        rintro ⟨_, e⟩
        revert e
        exact eleven (R := fun i => ¬ wordOf (argWord i) = "done") (by decide) (by decide) (by decide) (by decide) (by decide) (by decide) (by decide) (by decide) (by decide) (by decide) (by decide) h
    | num _ ok e =>
      rcases ft with ⟨_, rfl⟩ | ⟨no, _⟩
      · left
        rw [if_pos ⟨e, rfl⟩]; rfl
      · exact absurd ok no
    | long _ ok e =>
      rcases ft with ⟨_, rfl⟩ | ⟨no, _⟩
      · refine .inr ⟨e, ?_, rfl⟩
        rw [if_neg (by omega)]
      · exact absurd ok no
    | done _ ok e =>
      rcases ft with ⟨_, rfl⟩ | ⟨no, _⟩
      · left
        rw [if_neg (fun y => e y.1)]
      · exact absurd ok no
/-- with good ones nothing but done is told, of those that reckon nothing -/
theorem told_done {b t q x : Int} {a g : List Int} {z : Str} {i : Nat} (h : i ≠ 6 ∧ i ≠ 7 ∧ i ≠ 8) (ob : BaseOk b) (ok : argOk i b t q x a g) (c : Acc i b t q x a g z) : z = "done" := by
  cases c with
  | base nb => exact absurd ob nb
  | arg _ no => exact absurd ok no
  | num _ _ e => exact absurd e h.2.2
  | long _ _ e => exact absurd e (by omega)
  | done _ _ _ => rfl
theorem good_long {b : Int} (ob : BaseOk b) : GoodW b 1000000000000 (List.replicate 4000 0) (1 :: List.replicate 3999 0) := by
  have h := ob.1
  refine ⟨by decide, by decide, figs_replicate (by decide) (by omega), fun d hd => ?_, by rw [List.length_replicate]; decide, by rw [List.length_cons, List.length_replicate]; decide⟩
  rcases List.mem_cons.mp hd with rfl | hd
  · omega
  · rw [List.eq_of_mem_replicate hd]; omega
end My

set_option Elab.async false
set_option maxRecDepth 100000
namespace L2
open PySem
/-! ### statement by statement, each with a goal of its own (so that a proof's term stays short) -/
/-- a statement, then the rest, with a word between -/
theorem md {t u : TS} {D : Ends} {σ : St} {H : Hp} (N : St → Hp → Prop) (h1 : ∀ D' : Ends, (∀ σ' H', N σ' H' → D'.nx σ' H') → (∀ v H', D.rt v H' → D'.rt v H') → t D' σ H) (h2 : ∀ σ' H', N σ' H' → u D σ' H') : tMid t u D σ H :=
  ⟨N, h1 { D with nx := N } (fun _ _ z => z) (fun _ _ z => z), h2⟩
theorem mr {t u : TS} {D : Ends} {M : St → Hp → Prop} (N : St → Hp → Prop) (h1 : ∀ σ H, M σ H → ∀ D' : Ends, (∀ σ' H', N σ' H' → D'.nx σ' H') → (∀ v H', D.rt v H' → D'.rt v H') → t D' σ H) (h2 : ∀ σ' H', N σ' H' → u D σ' H') : ∀ σ H, M σ H → tMid t u D σ H :=
  fun σ H m => md N (h1 σ H m) h2
end L2

set_option Elab.async false
set_option maxRecDepth 100000
namespace My
open PySem L2
/-! what is refused, and what is told, whatever it be -/
section
variable (K : PySem.W.Frag) (mg : Str → Option Value)
/-- some value, and nothing that was there has changed -/
abbrev Any (H : Hp) (Q : VK) : Prop := ∀ v H', Same H H' → Q v H'
structure Outc (b : Int) (ok : Prop) (j : Nat) (H : Hp) (Q : VK) (E : XK) : Prop where
  nb : ¬ BaseOk b → Raised K mg 0 E H
  na : BaseOk b → ¬ ok → Raised K mg j E H
  ok : BaseOk b → ok → Any H Q
inductive spShortestW (vs : List V) (H : Hp) (Q : VK) (u3 : XK) : Prop
  | mk : ∀ (l : Addr) (ns : List Int), (vs = [.ref l]) → (SqL K H l (ns.map V.int)) → (ns.length ≤ 4000) → (∀ (l' : Addr) (h : List Int) (H' : Hp), h.length ≤ ns.length → Same H H' → H' l' = some (.lst (h.map V.int)) → Q (.ref l') H') → spShortestW vs H Q u3
inductive spWithoutLastW (vs : List V) (H : Hp) (Q : VK) (u3 : XK) : Prop
  | mk : ∀ (l : Addr) (ns : List Int) (f : Int), (vs = [.ref l, .int f]) → (SqL K H l (ns.map V.int)) → (∀ (l' : Addr) (a' : List Int) (H' : Hp), a'.length ≤ ns.length → Same H H' → H' l' = some (.lst (a'.map V.int)) → Q (.ref l') H') → spWithoutLastW vs H Q u3
inductive spRoundedUpW (vs : List V) (H : Hp) (Q : VK) (u3 : XK) : Prop
  | mk : ∀ (b x : Int) (l : Addr) (a : List Int), (vs = [.int b, .int x, .ref l]) → (SqL K H l (a.map V.int)) → (a.length ≤ 4000) → (Any H Q) → spRoundedUpW vs H Q u3
inductive spDrawnW (vs : List V) (H : Hp) (Q : VK) (u3 : XK) : Prop
  | mk : ∀ (x : Int) (la lh : Addr) (a h : List Int), (vs = [.int x, .ref la, .ref lh]) → (SqL K H la (a.map V.int)) → (SqL K H lh (h.map V.int)) → (h ≠ []) → (a.length ≤ 4000) → (h.length ≤ 4000) → (Any H Q) → spDrawnW vs H Q u3
inductive spTextW (vs : List V) (H : Hp) (Q : VK) (u3 : XK) : Prop
  | mk : ∀ (l : Addr) (ds : List Int), (vs = [.ref l]) → (SqL K H l (ds.map V.int)) → (RF.Figs 36 ds) → (ds.length ≤ 4000) → (∀ (z : Str) (H' : Hp), z.length ≤ 4000 → Same H H' → Q (.str z) H') → spTextW vs H Q u3
inductive spFigsW (vs : List V) (H : Hp) (Q : VK) (u3 : XK) : Prop
  | mk : ∀ b n : Int, (vs = [.int b, .int n]) → (BaseOk b) → (0 ≤ n) → (n ≤ 1000000000000) → (∀ (l : Addr) (ds : List Int) (H' : Hp), RF.Figs 36 ds → ds.length ≤ 4000 → Same H H' → H' l = some (.lst (ds.map V.int)) → Q (.ref l) H') → spFigsW vs H Q u3
inductive spFoldsW (vs : List V) (H : Hp) (Q : VK) (E : XK) : Prop
  | mk : ∀ (b : Int) (l : Addr) (g : List Int), (vs = [.int b, .ref l]) → (SqL K H l (g.map V.int)) → (Outc K mg b (RingOk b g) 2 H Q E) → spFoldsW vs H Q E
/-- of a writing -/
inductive spWrW (vs : List V) (H : Hp) (Q : VK) (E : XK) : Prop
  | mk : ∀ (b : Int) (p la lg : Addr) (x : Int) (a g : List Int), (vs = [.int b, .ref p]) → (WrAt K H p la lg x a g) → (Outc K mg b (GoodW b x a g) 2 H Q E) → spWrW vs H Q E
end
section
variable {K : PySem.W.Frag} {mg : Str → Option Value}
theorem Outc.ref1 {b : Int} {ok : Prop} {j : Nat} {H : Hp} {Q : VK} {E : XK} (o : Outc K mg b ok j H Q E) (h : ¬ (BaseOk b ∧ ok)) : Ref1 K mg b ok j E H := by
  by_cases ob : BaseOk b
  · exact .inr ⟨ob, fun z => h ⟨ob, z⟩, o.na ob fun z => h ⟨ob, z⟩⟩
  · exact .inl ⟨ob, o.nb ob⟩
theorem Outc.cases {b : Int} {ok : Prop} {j : Nat} {H : Hp} {Q : VK} {E : XK} {R : Prop} (o : Outc K mg b ok j H Q E) (h1 : BaseOk b → ok → Any H Q → R) (h2 : Ref1 K mg b ok j E H → R) : R := by
  by_cases h : BaseOk b ∧ ok
  · exact h1 h.1 h.2 (o.ok h.1 h.2)
  · exact h2 (o.ref1 h)
theorem as_written {b t q : Int} {H : Hp} {Q : VK} {E : XK} (o : Outc K mg b (FracOk t q) 1 H Q E) : spWrittenE K mg [.int b, .int t, .int q] H Q E :=
  o.cases (fun ob ok k => .inl ⟨b, t, q, rfl, ob.1, ob.2, ok.1, ok.2.1, ok.2.2.1, ok.2.2.2, fun _ _ _ _ _ _ _ _ n => k _ _ n.sm⟩) fun r => .inr ⟨b, t, q, rfl, r⟩
theorem as_figure_at {b t q : Int} {H : Hp} {Q : VK} {E : XK} (o : Outc K mg b (FracOk t q) 1 H Q E) : spFigureAtE K mg [.int b, .int t, .int q, .int 5] H Q E :=
  o.cases (fun ob ok k => .inl ⟨b, t, q, 5, rfl, ob.1, ob.2, ok.1, ok.2.1, ok.2.2.1, ok.2.2.2, by decide, by decide, fun _ _ _ s => k _ _ s⟩) fun r => .inr ⟨b, t, q, 5, rfl, r⟩
theorem as_lengths {b q : Int} {H : Hp} {Q : VK} {E : XK} (o : Outc K mg b (BotOk q) 1 H Q E) : spLengthsE K mg [.int b, .int q] H Q E :=
  o.cases (fun ob ok k => .inl ⟨b, q, rfl, ob.1, ob.2, ok.1, ok.2, fun _ _ _ _ _ s _ _ => k _ _ s⟩) fun r => .inr ⟨b, q, rfl, r⟩
section
variable {b : Int} {p la lg : Addr} {x : Int} {a g : List Int} {H : Hp} {Q : VK} {E : XK}
theorem as_worth (hW : WrAt K H p la lg x a g) (hk : BaseOk b → GoodW b x a g → Reck b x a g) (o : Outc K mg b (GoodW b x a g) 2 H Q E) : spWorthE K mg [.int b, .ref p] H Q E :=
  o.cases (fun ob ok k => .inl ⟨b, p, la, lg, x, a, g, rfl, ob.1, ob.2, hW, ok, (hk ob ok).dv, fun _ _ s _ _ => k _ _ s⟩) fun r => .inr ⟨b, p, la, lg, x, a, g, rfl, hW, r⟩
theorem as_added {p1 l1 l2 : Addr} (hW : WrAt K H p la lg x a g) (hO : WrAt K H p1 l1 l2 1 [] [0]) (hk : BaseOk b → GoodW b x a g → Reck b x a g) (hl : BaseOk b → GoodW b x a g → Raised K mg 4 E H) (o : Outc K mg b (GoodW b x a g) 2 H Q E) : spAddedE K mg [.int b, .ref p, .ref p1] H Q E :=
  o.cases (fun ob ok k => .inl ⟨b, p, la, lg, x, a, g, p1, l1, l2, 1, [], [0], rfl, ob.1, ob.2, hW, hk ob ok, hO, reck_one ob, fun _ => hl ob ok, fun _ _ _ _ _ _ _ _ _ n => k _ _ n.sm⟩) fun r => .inr ⟨b, p, la, lg, x, a, g, p1, l1, l2, 1, [], [0], rfl, hW, hO, .inl r⟩
theorem as_added2 {p1 l1 l2 : Addr} (hW : WrAt K H p la lg x a g) (hO : WrAt K H p1 l1 l2 1 [] [0]) (hk : BaseOk b → GoodW b x a g → Reck b x a g) (hl : BaseOk b → GoodW b x a g → Raised K mg 4 E H) (o : Outc K mg b (GoodW b x a g) 2 H Q E) : spAddedE K mg [.int b, .ref p1, .ref p] H Q E := by
  by_cases ob : BaseOk b
  · by_cases ok : GoodW b x a g
    · exact .inl ⟨b, p1, l1, l2, 1, [], [0], p, la, lg, x, a, g, rfl, ob.1, ob.2, hO, reck_one ob, hW, hk ob ok, fun _ => hl ob ok, fun _ _ _ _ _ _ _ _ _ n => o.ok ob ok _ _ n.sm⟩
    · exact .inr ⟨b, p1, l1, l2, 1, [], [0], p, la, lg, x, a, g, rfl, hO, hW, .inr ⟨ob, reck_one ob, ok, o.na ob ok⟩⟩
  · exact .inr ⟨b, p1, l1, l2, 1, [], [0], p, la, lg, x, a, g, rfl, hO, hW, .inl (.inl ⟨ob, o.nb ob⟩)⟩
theorem as_times (hW : WrAt K H p la lg x a g) (hk : BaseOk b → GoodW b x a g → Reck b x a g) (hn : BaseOk b → GoodW b x a g → Raised K mg 3 E H) (h0 : ¬ BaseOk b → Raised K mg 0 E H) (h2 : BaseOk b → ¬ GoodW b x a g → Raised K mg 2 E H) : spTimesE K mg [.int b, .ref p, .int (-1)] H Q E := by
  by_cases ob : BaseOk b
  · by_cases ok : GoodW b x a g
    · exact .inl ⟨b, p, la, lg, x, a, g, -1, rfl, ob.1, ob.2, hW, hk ob ok, fun z => absurd z.1 (by decide), fun _ => hn ob ok⟩
    · exact .inr ⟨b, p, la, lg, x, a, g, -1, rfl, hW, .inr ⟨ob, ok, h2 ob ok⟩⟩
  · exact .inr ⟨b, p, la, lg, x, a, g, -1, rfl, hW, .inl ⟨ob, h0 ob⟩⟩
end
/-- between the calls -/
inductive CalN (K : PySem.W.Frag) (H : Hp) (j : Nat) (b t q x : Int) (a g : List Int) (pf pw : Addr) (k : Nat) (σ : St) (H' : Hp) : Prop
  | mk : ∀ p1 l1 l2 : Addr, (σ = [some (.int (j : Int)), some (.int b), some (.ref pf), some (.ref pw), some (.ref p1)]) → (Same H H') → (WrAt K H' p1 l1 l2 1 [] [0]) → ((j < k → Acc j b t q x a g "done")) → CalN K H j b t q x a g pf pw k σ H'
/-- how one of them ends -/
structure Ends11 (K : PySem.W.Frag) (mg : Str → Option Value) (H : Hp) (E : XK) (j : Nat) (b t q x : Int) (a g : List Int) : Prop where
  rs : ∀ i, Acc j b t q x a g (wordOf i) → Raised K mg i E H
theorem Ends11.at {H : Hp} {E : XK} {j : Nat} {b t q x : Int} {a g : List Int} (o : Ends11 K mg H E j b t q x a g) {i : Nat} (e : j = i) (n8 : i ≠ 8) {G : Hp} {Q : VK} (s : Same H G) (k : Acc j b t q x a g "done" → Any G Q) : Outc K mg b (argOk i b t q x a g) (argWord i) G Q E := by
  subst e
  exact ⟨fun nb => (o.rs 0 (.base nb)).up s, fun ob na => (o.rs _ (.arg ob na)).up s, fun ob ok => k (.done ob ok n8)⟩
theorem Ends11.long {H : Hp} {E : XK} {j : Nat} {b t q x : Int} {a g : List Int} (o : Ends11 K mg H E j b t q x a g) (e : j = 6 ∨ j = 7) {G : Hp} (s : Same H G) (ob : BaseOk b) (ok : GoodW b x a g) : Raised K mg 4 E G := by
  refine (o.rs 4 (.long ob ?_ e)).up s
  rcases e with rfl | rfl <;> exact ok
theorem Ends11.times {H : Hp} {E : XK} {j : Nat} {b t q x : Int} {a g : List Int} (o : Ends11 K mg H E j b t q x a g) (e : j = 8) {G : Hp} (s : Same H G) : (¬ BaseOk b → Raised K mg 0 E G) ∧ (BaseOk b → ¬ GoodW b x a g → Raised K mg 2 E G) ∧ (BaseOk b → GoodW b x a g → Raised K mg 3 E G) := by
  subst e
  exact ⟨fun nb => (o.rs 0 (.base nb)).up s, fun ob na => (o.rs 2 (.arg ob na)).up s, fun ob ok => (o.rs 3 (.num ob ok rfl)).up s⟩
theorem CalN.no {K : PySem.W.Frag} {H H' : Hp} {j : Nat} {b t q x : Int} {a g : List Int} {pf pw p1 l1 l2 : Addr} {k : Nat} (s : Same H H') (hO : WrAt K H' p1 l1 l2 1 [] [0]) (hp : j < k → Acc j b t q x a g "done") (e : ¬ V.int (j : Int) = V.int (k : Int)) : CalN K H j b t q x a g pf pw (k + 1) [some (.int (j : Int)), some (.int b), some (.ref pf), some (.ref pw), some (.ref p1)] H' :=
  ⟨p1, l1, l2, rfl, s, hO, fun z => hp (by have : j ≠ k := fun y => e (by rw [y]); omega)⟩
theorem CalN.yes {K : PySem.W.Frag} {H H' H2 : Hp} {j : Nat} {b t q x : Int} {a g : List Int} {pf pw p1 l1 l2 : Addr} {k : Nat} (s : Same H H') (hO : WrAt K H' p1 l1 l2 1 [] [0]) (ac : Acc j b t q x a g "done") (s2 : Same H' H2) : CalN K H j b t q x a g pf pw k [some (.int (j : Int)), some (.int b), some (.ref pf), some (.ref pw), some (.ref p1)] H2 :=
  ⟨p1, l1, l2, rfl, s.trans s2, s2.wr hO, fun _ => ac⟩
theorem j_ne {j k : Nat} (e : ¬ V.int (j : Int) = V.int (k : Int)) : j ≠ k := fun y => e (by rw [y])
theorem j_is {j k : Nat} (e : V.int (j : Int) = V.int (k : Int)) : j = k := by have := V.int.inj e; omega
end
/-- the lists to be spoilt, and the one that is chosen -/
structure SpS (H : Hp) (a g : List Int) (wy : Int) (lac lgc sd : Addr) (sl : List Int) (H' : Hp) : Prop where
  nl : NewLs H H' lac lgc a g
  sd : (wy % 2 = 0 ∧ sd = lac ∧ sl = a) ∨ (wy % 2 = 1 ∧ sd = lgc ∧ sl = g)
theorem SpS.side {H H' : Hp} {a g sl : List Int} {wy : Int} {lac lgc sd : Addr} (s : SpS H a g wy lac lgc sd sl H') : H' sd = some (.lst (sl.map V.int)) := by
  rcases s.sd with ⟨_, rfl, rfl⟩ | ⟨_, rfl, rfl⟩
  · exact s.nl.a
  · exact s.nl.g
theorem SpS.len {H H' : Hp} {a g sl : List Int} {wy b x : Int} {lac lgc sd : Addr} (s : SpS H a g wy lac lgc sd sl H') (gw : GoodW b x a g) : sl.length ≤ 4000 := by
  rcases s.sd with ⟨_, rfl, rfl⟩ | ⟨_, rfl, rfl⟩
  · exact gw.la
  · exact gw.lg
/-- spoilt -/
inductive SpO (H : Hp) (b x : Int) (wy : Int) (lac lgc : Addr) (H' : Hp) : Prop
  | mk : ∀ a' g' : List Int, (NewLs H H' lac lgc a' g') → (¬ GoodW b x a' g') → ((RingOk b g' ↔ ¬ (1 < wy ∧ wy % 2 = 1))) → SpO H b x wy lac lgc H'
theorem SpS.put {H H' : Hp} {a g sl l' : List Int} {xs : List V} {wy b x : Int} {lac lgc sd : Addr} (s : SpS H a g wy lac lgc sd sl H') (gw : GoodW b x a g) (w1 : 1 < wy) (e : xs = l'.map V.int) (nb : ¬ RingOk b l') : SpO H b x wy lac lgc (upd H' sd (.lst xs)) := by
  rcases s.sd with ⟨h, rfl, rfl⟩ | ⟨h, rfl, rfl⟩
  · exact ⟨l', g, s.nl.putA e, fun z => nb (good_iff.mp z).2.2.1, fun _ z => by omega, fun _ => ⟨gw.lg, gw.fg⟩⟩
  · exact ⟨a, l', s.nl.putG e, fun z => nb (good_iff.mp z).2.2.2, fun z => absurd z nb, fun z => absurd ⟨w1, h⟩ z⟩
inductive WBx (H : Hp) (sc : Addr) (i b : Int) (A G : Nat) (σ : St) (H' : Hp) : Prop
  | mk : ∀ x c : Int, (0 ≤ x) → (x ≤ 1000000000000) → (WBy H sc i b x c A G σ H') → WBx H sc i b A G σ H'
/-- the law's own lists: fraction, writing, what is due -/
structure LwS (H : Hp) (ld pf p la lg : Addr) (t q x : Int) (a g : List Int) (d0 d1 d2 d3 : Str) (H' : Hp) : Prop where
  sm : Same H H'
  f : H' pf = some (.tup [.int t, .int q])
  w : WrN ld H' p la lg x a g
  d : H' ld = some (.lst [.str d0, .str d1, .str d2, .str d3])
  nf : pf ≠ ld
  nd : H ld = none
theorem LwS.same {H H' H2 : Hp} {ld pf p la lg : Addr} {t q x : Int} {a g : List Int} {d0 d1 d2 d3 : Str} (l : LwS H ld pf p la lg t q x a g d0 d1 d2 d3 H') (s : Same H' H2) : LwS H ld pf p la lg t q x a g d0 d1 d2 d3 H2 :=
  ⟨l.sm.trans s, s _ _ l.f, l.w.same s, s _ _ l.d, l.nf, l.nd⟩
theorem LwS.put {H H' : Hp} {ld pf p la lg : Addr} {t q x : Int} {a g : List Int} {d0 d1 d2 d3 c0 c1 c2 c3 : Str} (l : LwS H ld pf p la lg t q x a g d0 d1 d2 d3 H') : LwS H ld pf p la lg t q x a g c0 c1 c2 c3 (upd H' ld (.lst [.str c0, .str c1, .str c2, .str c3])) :=
  ⟨l.sm.upd2 l.nd, by rw [upd_ne l.nf]; exact l.f, l.w.put, upd_same, l.nf, l.nd⟩
theorem LwS.wr {H H' H2 : Hp} {ld pf p la lg p' la' lg' : Addr} {t q x x' : Int} {a g a' g' : List Int} {d0 d1 d2 d3 : Str} (l : LwS H ld pf p la lg t q x a g d0 d1 d2 d3 H') (n : NewWr H' H2 p' la' lg' x' a' g') : LwS H ld pf p' la' lg' t q x' a' g' d0 d1 d2 d3 H2 :=
  ⟨l.sm.trans n.sm, n.sm _ _ l.f, WrN.of l.d n, n.sm _ _ l.d, l.nf, l.nd⟩
theorem LwS.fr {H H' H2 : Hp} {ld pf pX p la lg : Addr} {t q x tX qX : Int} {a g : List Int} {d0 d1 d2 d3 : Str} (l : LwS H ld pf p la lg t q x a g d0 d1 d2 d3 H') (s : Same H' H2) (f : H2 pX = some (.tup [.int tX, .int qX])) : LwS H ld pX p la lg tX qX x a g d0 d1 d2 d3 H2 :=
  ⟨l.sm.trans s, f, l.w.same s, s _ _ l.d, fun e => (by have := s _ _ l.d; rw [← e, f] at this; cases this), l.nd⟩
theorem LwS.due {H H' : Hp} {ld ln pf p la lg : Addr} {t q x : Int} {a g : List Int} {d0 d1 d2 d3 c0 c1 c2 c3 : Str} (l : LwS H ld pf p la lg t q x a g d0 d1 d2 d3 H') (h : H' ln = none) : LwS H ln pf p la lg t q x a g c0 c1 c2 c3 (upd H' ln (.lst [.str c0, .str c1, .str c2, .str c3])) :=
  have s := Same.upd (o := .lst [.str c0, .str c1, .str c2, .str c3]) h
  ⟨l.sm.trans s, s _ _ l.f, ⟨s _ _ l.w.t, s _ _ l.w.a, s _ _ l.w.g, ne_of_none l.w.t h, ne_of_none l.w.a h, ne_of_none l.w.g h⟩, upd_same, ne_of_none l.f h, l.sm.free h⟩
abbrev Sg (sc : Addr) (b fr : Int) (pf p : Addr) (wy : Int) (ld : Addr) (v7 v8 v9 v10 v11 : Option V) : St := [some (.ref sc), some (.int b), some (.int fr), some (.ref pf), some (.ref p), some (.int wy), some (.ref ld), v7, v8, v9, v10, v11]
section
variable (H : Hp) (sc : Addr)
inductive A1 (σ : St) (H' : Hp) : Prop
  | mk : ∀ b : Int, (BaseOk b) → (σ = [some (.ref sc), some (.int b), none, none, none, none, none, none, none, none, none, none]) → (H' = H) → A1 σ H'
inductive A2 (σ : St) (H' : Hp) : Prop
  | mk : ∀ b fr : Int, (BaseOk b) → (0 ≤ fr) → (σ = [some (.ref sc), some (.int b), some (.int fr), none, none, none, none, none, none, none, none, none]) → (H' = H) → A2 σ H'
inductive A3 (σ : St) (H' : Hp) : Prop
  | mk : ∀ (b fr : Int) (pf : Addr) (t q : Int), (BaseOk b) → (0 ≤ fr) → (FracOk t q) → (H' pf = some (.tup [.int t, .int q])) → (Same H H') → (σ = [some (.ref sc), some (.int b), some (.int fr), some (.ref pf), none, none, none, none, none, none, none, none]) → A3 σ H'
inductive A4 (σ : St) (H' : Hp) : Prop
  | mk : ∀ (b fr : Int) (pf p la lg : Addr) (t q x : Int) (a g : List Int), (BaseOk b) → (0 ≤ fr) → (FracOk t q) → (GoodW b x a g) → (a.length + g.length ≤ 600) → (H' pf = some (.tup [.int t, .int q])) → ((∃ H0, NewWr H0 H' p la lg x a g)) → (Same H H') → (σ = [some (.ref sc), some (.int b), some (.int fr), some (.ref pf), some (.ref p), none, none, none, none, none, none, none]) → A4 σ H'
inductive A5 (σ : St) (H' : Hp) : Prop
  | mk : ∀ (b fr : Int) (pf p la lg : Addr) (t q x : Int) (a g : List Int) (wy : Int), (BaseOk b) → (0 ≤ fr) → (FracOk t q) → (GoodW b x a g) → (a.length + g.length ≤ 600) → (H' pf = some (.tup [.int t, .int q])) → ((∃ H0, NewWr H0 H' p la lg x a g)) → (Same H H') → (0 ≤ wy) → (σ = [some (.ref sc), some (.int b), some (.int fr), some (.ref pf), some (.ref p), some (.int wy), none, none, none, none, none, none]) → A5 σ H'
inductive A6 (σ : St) (H' : Hp) : Prop
  | mk : ∀ (b fr wy : Int) (ld pf p la lg : Addr) (t q x : Int) (a g : List Int), (BaseOk b) → (0 ≤ fr) → (0 ≤ wy) → (FracOk t q) → (GoodW b x a g) → (a.length + g.length ≤ 600) → (LwS H ld pf p la lg t q x a g "done" "done" "done" "done" H') → (σ = Sg sc b fr pf p wy ld none none none none none) → A6 σ H'
inductive A7 (σ : St) (H' : Hp) : Prop
  | mk : ∀ (b fr wy : Int) (ld pf p la lg : Addr) (t q x : Int) (a g : List Int) (d1 d3 : Str), (BaseOk b) → (0 ≤ fr) → (FracOk t q) → (Fits (GoodW b x a g) d1 (wordOf 2)) → (Fits (RingOk b g) d3 (wordOf 2)) → ((GoodW b x a g → Reck b x a g)) → (LwS H ld pf p la lg t q x a g "done" d1 "done" d3 H') → (σ = Sg sc b fr pf p wy ld none none none none none) → A7 σ H'
inductive A8 (σ : St) (H' : Hp) : Prop
  | mk : ∀ (b fr wy : Int) (ld pf p la lg : Addr) (t q x : Int) (a g : List Int) (d1 d3 : Str) (kd : Int), (BaseOk b) → (0 ≤ fr) → (FracOk t q) → (Fits (GoodW b x a g) d1 (wordOf 2)) → (Fits (RingOk b g) d3 (wordOf 2)) → ((GoodW b x a g → Reck b x a g)) → (LwS H ld pf p la lg t q x a g "done" d1 "done" d3 H') → (0 ≤ kd) → (σ = Sg sc b fr pf p wy ld (some (.int kd)) none none none none) → A8 σ H'
inductive A9 (σ : St) (H' : Hp) : Prop
  | mk : ∀ (b fr wy : Int) (ld pf p la lg : Addr) (t q x : Int) (a g : List Int) (d0 d1 d2 d3 : Str) (v7 : Option V), (BaseOk b) → (0 ≤ fr) → (Fits (FracOk t q) d0 (wordOf 1)) → (Fits (GoodW b x a g) d1 (wordOf 2)) → (Fits (BotOk q) d2 (wordOf 1)) → (Fits (RingOk b g) d3 (wordOf 2)) → ((GoodW b x a g → Reck b x a g)) → (LwS H ld pf p la lg t q x a g d0 d1 d2 d3 H') → (σ = Sg sc b fr pf p wy ld v7 none none none none) → A9 σ H'
inductive A10 (σ : St) (H' : Hp) : Prop
  | mk : ∀ (b fr wy : Int) (ld pf p la lg : Addr) (t q x : Int) (a g : List Int) (d0 d1 d2 d3 : Str) (v7 v8 v9 v10 v11 : Option V), (Wants b t q x a g d0 d1 d2 d3) → (LwS H ld pf p la lg t q x a g d0 d1 d2 d3 H') → (σ = Sg sc b fr pf p wy ld v7 v8 v9 v10 v11) → A10 σ H'
end
theorem A1.elim {H : Hp} {sc : Addr} {σ : St} {H' : Hp} {Z : St → Hp → Prop} (m : A1 H sc σ H') (h : ∀ (b : Int), (BaseOk b) → Z [some (.ref sc), some (.int b), none, none, none, none, none, none, none, none, none, none] H) : Z σ H' := by
  obtain ⟨b, h0, rfl, rfl⟩ := m
  exact h _ h0
theorem A2.elim {H : Hp} {sc : Addr} {σ : St} {H' : Hp} {Z : St → Hp → Prop} (m : A2 H sc σ H') (h : ∀ (b fr : Int), (BaseOk b) → (0 ≤ fr) → Z [some (.ref sc), some (.int b), some (.int fr), none, none, none, none, none, none, none, none, none] H) : Z σ H' := by
  obtain ⟨b, fr, h0, h1, rfl, rfl⟩ := m
  exact h _ _ h0 h1
theorem A3.elim {H : Hp} {sc : Addr} {σ : St} {H' : Hp} {Z : St → Hp → Prop} (m : A3 H sc σ H') (h : ∀ (b fr : Int) (pf : Addr) (t q : Int), (BaseOk b) → (0 ≤ fr) → (FracOk t q) → (H' pf = some (.tup [.int t, .int q])) → (Same H H') → Z [some (.ref sc), some (.int b), some (.int fr), some (.ref pf), none, none, none, none, none, none, none, none] H') : Z σ H' := by
  obtain ⟨b, fr, pf, t, q, h0, h1, h2, h3, h4, rfl⟩ := m
  exact h _ _ _ _ _ h0 h1 h2 h3 h4
theorem A4.elim {H : Hp} {sc : Addr} {σ : St} {H' : Hp} {Z : St → Hp → Prop} (m : A4 H sc σ H') (h : ∀ (b fr : Int) (pf p la lg : Addr) (t q x : Int) (a g : List Int), (BaseOk b) → (0 ≤ fr) → (FracOk t q) → (GoodW b x a g) → (a.length + g.length ≤ 600) → (H' pf = some (.tup [.int t, .int q])) → ((∃ H0, NewWr H0 H' p la lg x a g)) → (Same H H') → Z [some (.ref sc), some (.int b), some (.int fr), some (.ref pf), some (.ref p), none, none, none, none, none, none, none] H') : Z σ H' := by
  obtain ⟨b, fr, pf, p, la, lg, t, q, x, a, g, h0, h1, h2, h3, h4, h5, h6, h7, rfl⟩ := m
  exact h _ _ _ _ _ _ _ _ _ _ _ h0 h1 h2 h3 h4 h5 h6 h7
theorem A5.elim {H : Hp} {sc : Addr} {σ : St} {H' : Hp} {Z : St → Hp → Prop} (m : A5 H sc σ H') (h : ∀ (b fr : Int) (pf p la lg : Addr) (t q x : Int) (a g : List Int) (wy : Int), (BaseOk b) → (0 ≤ fr) → (FracOk t q) → (GoodW b x a g) → (a.length + g.length ≤ 600) → (H' pf = some (.tup [.int t, .int q])) → ((∃ H0, NewWr H0 H' p la lg x a g)) → (Same H H') → (0 ≤ wy) → Z [some (.ref sc), some (.int b), some (.int fr), some (.ref pf), some (.ref p), some (.int wy), none, none, none, none, none, none] H') : Z σ H' := by
  obtain ⟨b, fr, pf, p, la, lg, t, q, x, a, g, wy, h0, h1, h2, h3, h4, h5, h6, h7, h8, rfl⟩ := m
  exact h _ _ _ _ _ _ _ _ _ _ _ _ h0 h1 h2 h3 h4 h5 h6 h7 h8
theorem A6.elim {H : Hp} {sc : Addr} {σ : St} {H' : Hp} {Z : St → Hp → Prop} (m : A6 H sc σ H') (h : ∀ (b fr wy : Int) (ld pf p la lg : Addr) (t q x : Int) (a g : List Int), (BaseOk b) → (0 ≤ fr) → (0 ≤ wy) → (FracOk t q) → (GoodW b x a g) → (a.length + g.length ≤ 600) → (LwS H ld pf p la lg t q x a g "done" "done" "done" "done" H') → Z (Sg sc b fr pf p wy ld none none none none none) H') : Z σ H' := by
  obtain ⟨b, fr, wy, ld, pf, p, la, lg, t, q, x, a, g, h0, h1, h2, h3, h4, h5, h6, rfl⟩ := m
  exact h _ _ _ _ _ _ _ _ _ _ _ _ _ h0 h1 h2 h3 h4 h5 h6
theorem A7.elim {H : Hp} {sc : Addr} {σ : St} {H' : Hp} {Z : St → Hp → Prop} (m : A7 H sc σ H') (h : ∀ (b fr wy : Int) (ld pf p la lg : Addr) (t q x : Int) (a g : List Int) (d1 d3 : Str), (BaseOk b) → (0 ≤ fr) → (FracOk t q) → (Fits (GoodW b x a g) d1 (wordOf 2)) → (Fits (RingOk b g) d3 (wordOf 2)) → ((GoodW b x a g → Reck b x a g)) → (LwS H ld pf p la lg t q x a g "done" d1 "done" d3 H') → Z (Sg sc b fr pf p wy ld none none none none none) H') : Z σ H' := by
  obtain ⟨b, fr, wy, ld, pf, p, la, lg, t, q, x, a, g, d1, d3, h0, h1, h2, h3, h4, h5, h6, rfl⟩ := m
  exact h _ _ _ _ _ _ _ _ _ _ _ _ _ _ _ h0 h1 h2 h3 h4 h5 h6
theorem A8.elim {H : Hp} {sc : Addr} {σ : St} {H' : Hp} {Z : St → Hp → Prop} (m : A8 H sc σ H') (h : ∀ (b fr wy : Int) (ld pf p la lg : Addr) (t q x : Int) (a g : List Int) (d1 d3 : Str) (kd : Int), (BaseOk b) → (0 ≤ fr) → (FracOk t q) → (Fits (GoodW b x a g) d1 (wordOf 2)) → (Fits (RingOk b g) d3 (wordOf 2)) → ((GoodW b x a g → Reck b x a g)) → (LwS H ld pf p la lg t q x a g "done" d1 "done" d3 H') → (0 ≤ kd) → Z (Sg sc b fr pf p wy ld (some (.int kd)) none none none none) H') : Z σ H' := by
  obtain ⟨b, fr, wy, ld, pf, p, la, lg, t, q, x, a, g, d1, d3, kd, h0, h1, h2, h3, h4, h5, h6, h7, rfl⟩ := m
  exact h _ _ _ _ _ _ _ _ _ _ _ _ _ _ _ _ h0 h1 h2 h3 h4 h5 h6 h7
theorem A9.elim {H : Hp} {sc : Addr} {σ : St} {H' : Hp} {Z : St → Hp → Prop} (m : A9 H sc σ H') (h : ∀ (b fr wy : Int) (ld pf p la lg : Addr) (t q x : Int) (a g : List Int) (d0 d1 d2 d3 : Str) (v7 : Option V), (BaseOk b) → (0 ≤ fr) → (Fits (FracOk t q) d0 (wordOf 1)) → (Fits (GoodW b x a g) d1 (wordOf 2)) → (Fits (BotOk q) d2 (wordOf 1)) → (Fits (RingOk b g) d3 (wordOf 2)) → ((GoodW b x a g → Reck b x a g)) → (LwS H ld pf p la lg t q x a g d0 d1 d2 d3 H') → Z (Sg sc b fr pf p wy ld v7 none none none none) H') : Z σ H' := by
  obtain ⟨b, fr, wy, ld, pf, p, la, lg, t, q, x, a, g, d0, d1, d2, d3, v7, h0, h1, h2, h3, h4, h5, h6, h7, rfl⟩ := m
  exact h _ _ _ _ _ _ _ _ _ _ _ _ _ _ _ _ _ _ h0 h1 h2 h3 h4 h5 h6 h7
theorem A10.elim {H : Hp} {sc : Addr} {σ : St} {H' : Hp} {Z : St → Hp → Prop} (m : A10 H sc σ H') (h : ∀ (b fr wy : Int) (ld pf p la lg : Addr) (t q x : Int) (a g : List Int) (d0 d1 d2 d3 : Str) (v7 v8 v9 v10 v11 : Option V), (Wants b t q x a g d0 d1 d2 d3) → (LwS H ld pf p la lg t q x a g d0 d1 d2 d3 H') → Z (Sg sc b fr pf p wy ld v7 v8 v9 v10 v11) H') : Z σ H' := by
  obtain ⟨b, fr, wy, ld, pf, p, la, lg, t, q, x, a, g, d0, d1, d2, d3, v7, v8, v9, v10, v11, h0, h1, rfl⟩ := m
  exact h _ _ _ _ _ _ _ _ _ _ _ _ _ _ _ _ _ _ _ _ _ _ h0 h1
theorem bad_fr {p0 p1 p2 p3 : Addr} {fr kd : Int} {G : Hp} (f0 : 0 ≤ fr) (h0 : 0 ≤ kd) (h1 : kd < 4) (c0 : G p0 = some (.tup [.int (-1 - fr), .int 7])) (c1 : G p1 = some (.tup [.int (10 ^ (12 : Int).toNat + 1 + fr), .int 7])) (c2 : G p2 = some (.tup [.int 5, .int (0 - fr)])) (c3 : G p3 = some (.tup [.int 5, .int (2001 + fr)])) :
    ∃ (pX : Addr) (tX qX : Int), atI [V.ref p0, .ref p1, .ref p2, .ref p3] kd = some (.ref pX) ∧ G pX = some (.tup [.int tX, .int qX]) ∧ ¬ FracOk tX qX ∧ (BotOk qX ↔ kd < 2) := by
  obtain ⟨i, rfl⟩ : ∃ i : Nat, kd = (i : Int) := ⟨kd.toNat, by omega⟩
  match i, h1 with
  | 0, _ => exact ⟨p0, _, _, rfl, c0, fun z => absurd z.1 (by omega), fun _ => by decide, fun _ => ⟨by decide, by decide⟩⟩
  | 1, _ => exact ⟨p1, _, _, rfl, c1, fun z => absurd z.2.1 (by rw [pow12]; omega), fun _ => by decide, fun _ => ⟨by decide, by decide⟩⟩
  | 2, _ => exact ⟨p2, _, _, rfl, c2, fun z => absurd z.2.2.1 (by omega), fun z => absurd z.1 (by omega), fun z => absurd z (by omega)⟩
  | 3, _ => exact ⟨p3, _, _, rfl, c3, fun z => absurd z.2.2.2 (by omega), fun z => absurd z.2 (by omega), fun z => absurd z (by omega)⟩
theorem bot_word {q kd : Int} (h0 : 0 ≤ kd) (h1 : kd < 4) (h : BotOk q ↔ kd < 2) : ∃ d : Str, atI [V.str (Str.ofString "done"), .str (Str.ofString "fraction")] (kd / 2) = some (.str d) ∧ Fits (BotOk q) d (wordOf 1) := by
  by_cases e : kd < 2
  · exact ⟨Str.ofString "done", by rw [show kd / 2 = 0 by omega]; rfl, .inl ⟨h.mpr e, rfl⟩⟩
  · exact ⟨Str.ofString "fraction", by rw [show kd / 2 = 1 by omega]; rfl, .inr ⟨fun z => e (h.mp z), rfl⟩⟩
theorem Wants.reck {b t q x : Int} {a g : List Int} {d0 d1 d2 d3 : Str} (w : Wants b t q x a g d0 d1 d2 d3) : BaseOk b → GoodW b x a g → Reck b x a g := by
  rcases w with ⟨nb, _⟩ | ⟨_, _, _, _, _, rk⟩
  · exact fun ob => absurd ob nb
  · exact fun _ => rk
theorem Wants.ok {b t q x : Int} {a g : List Int} {d0 d1 d2 d3 : Str} (w : Wants b t q x a g d0 d1 d2 d3) (ne : ¬ V.str d1 = V.str (wordOf 0)) : BaseOk b := by
  rcases w with ⟨_, _, e, _⟩ | ⟨ob, _⟩
  · exact absurd (congrArg V.str e) ne
  · exact ob
theorem WBx.elim {H : Hp} {sc : Addr} {i b : Int} {A G : Nat} {σ : St} {H' : Hp} {Z : St → Hp → Prop} (m : WBx H sc i b A G σ H') (h : ∀ (x c : Int) (la lg : Addr) (a g : List Int) (wv : Int), 0 ≤ x → x ≤ 1000000000000 → NewLs H H' la lg a g → RF.Figs b a → RF.Figs b g → a.length ≤ A → g.length ≤ G → Z [some (.ref sc), some (.int i), some (.int b), some (.int x), some (.int c), some (.ref la), some (.ref lg), some (.int wv)] H') : Z σ H' := by
  obtain ⟨x, c, x0, x1, la, lg, a, g, wv, rfl, nl, fa, fg, ha, hg⟩ := m
  exact h x c la lg a g wv x0 x1 nl fa fg ha hg
theorem WBy.elim {H : Hp} {sc : Addr} {i b x c : Int} {A G : Nat} {σ : St} {H' : Hp} {Z : St → Hp → Prop} (m : WBy H sc i b x c A G σ H') (h : ∀ (la lg : Addr) (a g : List Int) (wv : Int), NewLs H H' la lg a g → RF.Figs b a → RF.Figs b g → a.length ≤ A → g.length ≤ G → Z [some (.ref sc), some (.int i), some (.int b), some (.int x), some (.int c), some (.ref la), some (.ref lg), some (.int wv)] H') : Z σ H' := by
  obtain ⟨la, lg, a, g, wv, rfl, nl, fa, fg, ha, hg⟩ := m
  exact h la lg a g wv nl fa fg ha hg
theorem CalN.elim {K : PySem.W.Frag} {H : Hp} {j : Nat} {b t q x : Int} {a g : List Int} {pf pw : Addr} {k : Nat} {σ : St} {H' : Hp} {Z : St → Hp → Prop} (m : CalN K H j b t q x a g pf pw k σ H') (h : ∀ p1 l1 l2 : Addr, Same H H' → WrAt K H' p1 l1 l2 1 [] [0] → (j < k → Acc j b t q x a g "done") → Z [some (.int (j : Int)), some (.int b), some (.ref pf), some (.ref pw), some (.ref p1)] H') : Z σ H' := by
  obtain ⟨p1, l1, l2, rfl, s, hO, hp⟩ := m
  exact h p1 l1 l2 s hO hp
/-- the lists to be spoilt and the place, with a word on the way -/
inductive SpN (H : Hp) (sc : Addr) (b : Int) (p : Addr) (wy fr x : Int) (a g : List Int) (c : Prop) (σ : St) (H' : Hp) : Prop
  | mk : ∀ (lac lgc sd : Addr) (sl : List Int) (i : Nat), (SpS H a g wy lac lgc sd sl H') → (i ≤ sl.length) → (c) → (σ = [some (.ref sc), some (.int b), some (.ref p), some (.int wy), some (.int fr), some (.int x), some (.ref lac), some (.ref lgc), some (.ref sd), some (.int (i : Int))]) → SpN H sc b p wy fr x a g c σ H'
theorem SpN.elim {H : Hp} {sc : Addr} {b : Int} {p : Addr} {wy fr x : Int} {a g : List Int} {c : Prop} {σ : St} {H' : Hp} {Z : St → Hp → Prop} (m : SpN H sc b p wy fr x a g c σ H') (h : ∀ (lac lgc sd : Addr) (sl : List Int) (i : Nat), SpS H a g wy lac lgc sd sl H' → i ≤ sl.length → c → Z [some (.ref sc), some (.int b), some (.ref p), some (.int wy), some (.int fr), some (.int x), some (.ref lac), some (.ref lgc), some (.ref sd), some (.int (i : Int))] H') : Z σ H' := by
  obtain ⟨lac, lgc, sd, sl, i, sp, il, y, rfl⟩ := m
  exact h lac lgc sd sl i sp il y
theorem figs36 {b : Int} {a : List Int} (ob : BaseOk b) (h : RF.Figs b a) : RF.Figs 36 a := fun d hd => ⟨(h d hd).1, Int.lt_of_lt_of_le (h d hd).2 ob.2⟩
theorem str_len' (x y : Str) : (x ++ y).length = x.length + y.length := by
  show (x.cps ++ y.cps).size = _
  rw [Array.size_append]; rfl
theorem add_ok' {x y : Str} {a b : Nat} (hx : x.length ≤ a) (hy : y.length ≤ b) (h : a + b ≤ 20000) : x.length + y.length ≤ sizeLine := small_text (by omega)
theorem add_le' {x y : Str} {a b : Nat} (hx : x.length ≤ a) (hy : y.length ≤ b) : (x ++ y).length ≤ a + b := by rw [str_len']; omega
theorem halves {b r : Int} {k : Nat} (b2 : 2 ≤ b) (r0 : 0 < r) (h : r * 2 ^ k ≤ 1000000000000) : k < 40 ∧ 0 ≤ r / b ∧ r / b < r ∧ r / b * 2 ^ (k + 1) ≤ 1000000000000 := by
  have p0 : (0 : Int) < 2 ^ k := Int.pow_pos (by decide)
  have hd0 : 0 ≤ r / b := Int.ediv_nonneg (by omega) (by omega)
  have hd2 : r / b * 2 ≤ r := by
    have h1 := Int.mul_ediv_self_le (x := r) (k := b) (by omega)
    have h2 : r / b * 2 ≤ r / b * b := Int.mul_le_mul_of_nonneg_left b2 hd0
    rw [Int.mul_comm b] at h1
    omega
  refine ⟨?_, hd0, Int.ediv_lt_self_of_pos_of_ne_one r0 (by omega), ?_⟩
  · by_cases hc : k < 40
    · exact hc
    · exfalso
      have h1 : (2 : Int) ^ 40 ≤ 2 ^ k := by
        have := Int.ofNat_le.mpr (Nat.pow_le_pow_right (n := 2) (by decide) (show 40 ≤ k by omega))
        rw [Int.natCast_pow, Int.natCast_pow] at this
        exact this
      have h2 : 1 * (2 : Int) ^ k ≤ r * 2 ^ k := Int.mul_le_mul_of_nonneg_right (by omega) (by omega)
      omega
  · rw [Int.pow_succ, Int.mul_comm (2 ^ k) 2, ← Int.mul_assoc]
    exact Int.le_trans (Int.mul_le_mul_of_nonneg_right hd2 (Int.le_of_lt p0)) h
theorem worth_split {K : PySem.W.Frag} {mg : Str → Option Value} {vs : List V} {H : Hp} {Q : VK} {E : XK} (h : spWorthE K mg vs H Q E) : ∃ (b : Int) (p la lg : Addr) (x : Int) (a g : List Int), vs = [.int b, .ref p] ∧ WrAt K H p la lg x a g ∧ (¬ BaseOk b → Raised K mg 0 E H) ∧ (BaseOk b → ¬ GoodW b x a g → Raised K mg 2 E H) ∧
    (BaseOk b → GoodW b x a g → DivOk (RF.num b a * RF.rM b g + RF.num b g) (RF.wB b a g) ∧ ∀ (p' : Addr) (H' : Hp), Same H H' → H p' = none → H' p' = some (.tup [.int (RF.low (RF.wT b x a g) (RF.wB b a g)).1, .int (RF.low (RF.wT b x a g) (RF.wB b a g)).2]) → Q (.ref p') H') := by
  rcases h with h | h
  · obtain ⟨b, p, la, lg, x, a, g, rfl, b2, b36, hW, hG, hd, k⟩ := h
    exact ⟨b, p, la, lg, x, a, g, rfl, hW, fun z => absurd ⟨b2, b36⟩ z, fun _ z => absurd hG z, fun _ _ => ⟨hd, k⟩⟩
  · obtain ⟨b, p, la, lg, x, a, g, rfl, hW, h⟩ := h
    rcases h with ⟨nb, r⟩ | ⟨ob, ng, r⟩
    · exact ⟨b, p, la, lg, x, a, g, rfl, hW, fun _ => r, fun z => absurd z nb, fun z => absurd z nb⟩
    · exact ⟨b, p, la, lg, x, a, g, rfl, hW, fun z => absurd ob z, fun _ _ => r, fun _ z => absurd z ng⟩
theorem last_at {a : List Int} (h : a ≠ []) : ∃ y : Int, atI (a.map V.int) (-1) = some (.int y) := by
  rcases List.eq_nil_or_concat a with e | ⟨q, y, e⟩
  · exact absurd e h
  · refine ⟨y, ?_⟩
    rw [e, List.concat_eq_append, List.map_append]
    exact atI_last _ _
/-! small facts of lengths and rests, so that a proof's term need not hold them again and again -/
theorem szm {g : List Int} {n : Nat} (h : g.length ≤ n) (hn : n ≤ 100000) : (g.map V.int).length ≤ sizeLine := by
  rw [List.length_map]; exact Nat.le_of_lt (size2000 (Nat.le_trans h hn))
theorem sz2 {a g : List Int} {n m : Nat} (ha : a.length ≤ n) (hg : g.length ≤ m) (hn : n + m ≤ 100000) : (a.map V.int).length + (g.map V.int).length ≤ sizeLine := by
  rw [List.length_map, List.length_map]; exact Nat.le_of_lt (size2000 (Nat.le_trans (Nat.add_le_add ha hg) hn))
theorem app_le {a g : List Int} {n m : Nat} (ha : a.length ≤ n) (hg : g.length ≤ m) : (a ++ g).length ≤ n + m := by
  rw [List.length_append]; exact Nat.add_le_add ha hg
theorem repl_le {g : List Int} {z : Int} {m : Nat} (hg : g.length ≤ m) : (List.replicate g.length z).length ≤ m := by
  rw [List.length_replicate]; exact hg
theorem rep_le {g : List Int} {k n m : Nat} (hk : k ≤ n) (hg : g.length ≤ m) : (RF.rep k g).length ≤ n * m := by
  rw [RF.rep_length]; exact Nat.mul_le_mul hk hg
theorem szr {g : List Int} {k n m : Nat} (hk : k ≤ n) (hg : g.length ≤ m) (hn : m * n ≤ 100000) : (g.map V.int).length * k ≤ sizeLine := by
  rw [List.length_map]; exact Nat.le_of_lt (size2000 (Nat.le_trans (Nat.mul_le_mul hg hk) hn))
theorem figs_up {b : Int} (b2 : 2 ≤ b) {n : Nat} : RF.Figs b (List.replicate n (b - 1)) := figs_replicate (by omega) (by omega)
theorem figs_no {b : Int} (b2 : 2 ≤ b) {n : Nat} : RF.Figs b (List.replicate n 0) := figs_replicate (by omega) (by omega)
theorem em0 {c n : Int} (hn : 0 < n) : 0 ≤ c % n := Int.emod_nonneg _ (by omega)
theorem em1 {c n m : Int} (hn : 0 < n) (hm : n ≤ m + 1) : c % n ≤ m := by have := Int.emod_lt_of_pos c hn; omega
theorem eml {a : List Int} {c n : Int} {m : Nat} (h : a.length = (c % n).toNat) (hn : 0 < n) (hm : n ≤ (m : Int) + 1) : a.length ≤ m := by have := em1 (c := c) hn hm; omega
/-- a number and a rest on top -/
structure OffR (z : Int) (m : Nat) : Prop where
  lo : 0 ≤ z
  hi : z ≤ (m : Int)
theorem OffR.of {k c n : Int} {m : Nat} (k0 : 0 ≤ k) (hn : 0 < n) (hm : k + n ≤ (m : Int) + 1) : OffR (k + c % n) m := by
  have h0 := em0 (c := c) hn
  have h1 := em1 (c := c) (m := (m : Int) - k) hn (by omega)
  exact ⟨by omega, by omega⟩
theorem OffR.nat {z : Int} {m : Nat} (o : OffR z m) : z.toNat ≤ m := by have := o.lo; have := o.hi; omega
theorem OffR.top {z : Int} {m : Nat} (o : OffR z m) {n : Int} (h : (m : Int) ≤ n) : z ≤ n := Int.le_trans o.hi h
theorem OffR.lt {z : Int} {m : Nat} (o : OffR z m) {n : Int} (h : (m : Int) < n) : z < n := Int.lt_of_le_of_lt o.hi h
theorem OffR.ge {z : Int} {m : Nat} (o : OffR z m) {n : Int} (h : n ≤ 0) : n ≤ z := Int.le_trans h o.lo
theorem OffR.len {z : Int} {m : Nat} (o : OffR z m) {a : List Int} (h : a.length = z.toNat) : a.length ≤ m := h ▸ o.nat
theorem next0 {i : Int} (h : 0 ≤ i) {k : Int} (hk : 0 ≤ k) : 0 ≤ i + k := Int.add_nonneg h hk
theorem back_at {a : List Int} {u : Nat} (h : u < a.length) : ∃ y : Int, atI (a.map V.int) (-1 - (u : Int)) = some (.int y) :=
  have ia : a.length - 1 - u < a.length := by omega
  ⟨_, atI_back (j := a.length - 1 - u) (by omega) (by omega) (by omega) (List.getElem?_eq_getElem ia)⟩
theorem back_mod {h : List Int} {u : Nat} (hm : 0 < h.length) : ∃ y : Int, atI (h.map V.int) (-1 - (u : Int) % (h.length : Int)) = some (.int y) := by
  rw [show ((u : Int) % (h.length : Int)) = ((u % h.length : Nat) : Int) from (Int.natCast_emod u h.length).symm]
  exact back_at (Nat.mod_lt u hm)
theorem one_less {m u n : Nat} (h : m + u = n) (hl : u < n) : m - 1 < m ∧ m - 1 + (u + 1) = n := ⟨by omega, by omega⟩
theorem le_of_sum {m u n : Nat} (h : m + u = n) : u ≤ n := h ▸ Nat.le_add_left u m
/-! words between the statements -/
inductive WB5 (H : Hp) (sc : Addr) (i b : Int) (σ : St) (H' : Hp) : Prop
  | mk : ∀ (x c : Int) (la : Addr) (a : List Int), (0 ≤ x) → (x ≤ 1000000000000) → (RF.Figs b a) → (a.length ≤ 5) → (H la = none) → (σ = [some (.ref sc), some (.int i), some (.int b), some (.int x), some (.int c), some (.ref la), none, none]) → (H' = upd H la (.lst (a.map V.int))) → WB5 H sc i b σ H'
inductive WB6 (H : Hp) (sc : Addr) (i b : Int) (σ : St) (H' : Hp) : Prop
  | mk : ∀ (x c : Int) (la lg : Addr) (a g : List Int), (0 ≤ x) → (x ≤ 1000000000000) → (RF.Figs b a) → (a.length ≤ 5) → (RF.Figs b g) → (g.length ≤ 6) → (NewLs H H' la lg a g) → (σ = [some (.ref sc), some (.int i), some (.int b), some (.int x), some (.int c), some (.ref la), some (.ref lg), none]) → WB6 H sc i b σ H'
inductive B7 (H : Hp) (sc : Addr) (b fr wy : Int) (ld pf : Addr) (t q : Int) (d1 : Str) (σ : St) (H2 : Hp) : Prop
  | mk : ∀ (p la lg : Addr) (x : Int) (a g : List Int), (¬ GoodW b x a g) → ((RingOk b g ↔ ¬ (1 < wy ∧ wy % 2 = 1))) → (LwS H ld pf p la lg t q x a g "done" d1 "done" "done" H2) → (σ = Sg sc b fr pf p wy ld none none none none none) → B7 H sc b fr wy ld pf t q d1 σ H2
inductive B9 (H : Hp) (sc : Addr) (b fr wy : Int) (ld p la lg : Addr) (x : Int) (a g : List Int) (d0 d1 d3 : Str) (kd : Int) (σ : St) (H2 : Hp) : Prop
  | mk : ∀ (pf : Addr) (t q : Int), (¬ FracOk t q) → ((BotOk q ↔ kd < 2)) → (LwS H ld pf p la lg t q x a g d0 d1 "done" d3 H2) → (σ = Sg sc b fr pf p wy ld (some (.int kd)) none none none none) → B9 H sc b fr wy ld p la lg x a g d0 d1 d3 kd σ H2
end My

set_option maxHeartbeats 4000000

/-! the law's own part: the text by places -/
namespace My
open PySem L2
def top (i : Nat) : Stmt := PySem.Challenge.pw_ringfigures_k16_refused.main.body.getD i (.Pass ⟨0, 0, 0, 0⟩)
abbrev s_check_base : Stmt := top 16
abbrev s_check_fraction : Stmt := top 17
abbrev s_check_bottom : Stmt := top 18
abbrev s_check_figures : Stmt := top 19
abbrev s_check_writing : Stmt := top 20
abbrev s_check_number : Stmt := top 21
abbrev s_written : Stmt := top 23
abbrev s_divided_out : Stmt := top 24
abbrev s_worth : Stmt := top 25
abbrev s_plain : Stmt := top 26
abbrev s_is_plain : Stmt := top 27
abbrev s_number_of : Stmt := top 28
abbrev s_power : Stmt := top 29
abbrev s_common_measure : Stmt := top 30
abbrev s_shortest_ring : Stmt := top 31
abbrev s_without_last : Stmt := top 32
abbrev s_rounded_up : Stmt := top 33
abbrev s_drawn_into_ring : Stmt := top 34
abbrev s_lengths : Stmt := top 36
abbrev s_ring_length : Stmt := top 37
abbrev s_figure_at : Stmt := top 38
abbrev s_power_rest : Stmt := top 39
abbrev s_folds : Stmt := top 40
abbrev s_shown : Stmt := top 43
abbrev s_text_of : Stmt := top 44
abbrev s_figures_of_whole : Stmt := top 45
abbrev s_added : Stmt := top 47
abbrev s_times : Stmt := top 48
abbrev s_result_of : Stmt := top 49
abbrev s_law_cell_at : Stmt := top 51
abbrev s_law_draw : Stmt := top 52
abbrev s_law_figures_by : Stmt := top 53
abbrev s_law_writing_by : Stmt := top 54
abbrev s_law_copy : Stmt := top 55
abbrev s_law_word_of : Stmt := top 56
abbrev s_law_called : Stmt := top 57
abbrev s_law_tried : Stmt := top 58
abbrev s_law_spoilt : Stmt := top 59
abbrev s_law : Stmt := top 60
structure Txt (K : PySem.W.Frag) (mg : Str → Option Value) : Prop where
  d_check_base : IsDef K mg "check_base" s_check_base ["base"]
  d_check_fraction : IsDef K mg "check_fraction" s_check_fraction ["top", "bottom"]
  d_check_bottom : IsDef K mg "check_bottom" s_check_bottom ["bottom"]
  d_check_figures : IsDef K mg "check_figures" s_check_figures ["base", "figures"]
  d_check_writing : IsDef K mg "check_writing" s_check_writing ["base", "writing"]
  d_check_number : IsDef K mg "check_number" s_check_number ["number"]
  d_written : IsDef K mg "written" s_written ["base", "top", "bottom"]
  d_divided_out : IsDef K mg "divided_out" s_divided_out ["base", "top", "bottom"]
  d_worth : IsDef K mg "worth" s_worth ["base", "writing"]
  d_plain : IsDef K mg "plain" s_plain ["base", "writing"]
  d_is_plain : IsDef K mg "is_plain" s_is_plain ["base", "writing"]
  d_number_of : IsDef K mg "number_of" s_number_of ["base", "figures"]
  d_power : IsDef K mg "power" s_power ["base", "count"]
  d_common_measure : IsDef K mg "common_measure" s_common_measure ["one", "other"]
  d_shortest_ring : IsDef K mg "shortest_ring" s_shortest_ring ["ring"]
  d_without_last : IsDef K mg "without_last" s_without_last ["figures", "figure"]
  d_rounded_up : IsDef K mg "rounded_up" s_rounded_up ["base", "whole", "ahead"]
  d_drawn_into_ring : IsDef K mg "drawn_into_ring" s_drawn_into_ring ["whole", "ahead", "ring"]
  d_lengths : IsDef K mg "lengths" s_lengths ["base", "bottom"]
  d_ring_length : IsDef K mg "ring_length" s_ring_length ["base", "left"]
  d_figure_at : IsDef K mg "figure_at" s_figure_at ["base", "top", "bottom", "place"]
  d_power_rest : IsDef K mg "power_rest" s_power_rest ["base", "count", "bottom"]
  d_folds : IsDef K mg "folds" s_folds ["base", "ring"]
  d_shown : IsDef K mg "shown" s_shown ["base", "writing"]
  d_text_of : IsDef K mg "text_of" s_text_of ["figures"]
  d_figures_of_whole : IsDef K mg "figures_of_whole" s_figures_of_whole ["base", "whole"]
  d_added : IsDef K mg "added" s_added ["base", "one", "other"]
  d_times : IsDef K mg "times" s_times ["base", "writing", "number"]
  d_result_of : IsDef K mg "result_of" s_result_of ["base", "top", "bottom"]
  d_law_cell_at : IsDef K mg "_law_cell_at" s_law_cell_at ["script", "k"]
  d_law_draw : IsDef K mg "_law_draw" s_law_draw ["cell", "k", "bound"]
  d_law_figures_by : IsDef K mg "_law_figures_by" s_law_figures_by ["cell", "base", "many"]
  d_law_writing_by : IsDef K mg "_law_writing_by" s_law_writing_by ["script", "first", "base"]
  d_law_copy : IsDef K mg "_law_copy" s_law_copy ["writing"]
  d_law_word_of : IsDef K mg "_law_word_of" s_law_word_of ["e"]
  d_law_called : IsDef K mg "_law_called" s_law_called ["which", "base", "fraction", "writing"]
  d_law_tried : IsDef K mg "_law_tried" s_law_tried ["which", "base", "fraction", "writing"]
  d_law_spoilt : IsDef K mg "_law_spoilt" s_law_spoilt ["script", "base", "writing", "way", "far"]
  d_law : IsDef K mg "law" s_law ["script"]
  i_GREATEST_BASE : IsInt mg "GREATEST_BASE" 36
  i_GREATEST_BOTTOM : IsInt mg "GREATEST_BOTTOM" 2000
  i_GREATEST_NUMBER : IsInt mg "GREATEST_NUMBER" 1000000
  i_GREATEST_TOP : IsInt mg "GREATEST_TOP" 1000000000000
  i_GREATEST_WHOLE : IsInt mg "GREATEST_WHOLE" 1000000000000
  i_LEAST_BASE : IsInt mg "LEAST_BASE" 2
  i_MOST_FIGURES : IsInt mg "MOST_FIGURES" 4000
  s_SIGNS : IsStr mg "SIGNS" "0123456789abcdefghijklmnopqrstuvwxyz"
  b_ValueError : mg "ValueError" = none
  b_int : mg "int" = none
  b_isinstance : mg "isinstance" = none
  b_len : mg "len" = none
  b_list : mg "list" = none
  b_range : mg "range" = none
  x_all : ∃ F c0 c1 c2 c3 c4 c5, Exs mg F c0 c1 c2 c3 c4 c5 ∧ IsExc K mg "FigureError" F
  x_NoBase : ∃ C, IsExc K mg "NoBase" C ∧ Ref K mg 0 C
  x_NoFraction : ∃ C, IsExc K mg "NoFraction" C ∧ Ref K mg 1 C
  x_NoNumber : ∃ C, IsExc K mg "NoNumber" C ∧ Ref K mg 3 C
  x_NoWriting : ∃ C, IsExc K mg "NoWriting" C ∧ Ref K mg 2 C
  x_TooLong : ∃ C, IsExc K mg "TooLong" C ∧ Ref K mg 4 C
theorem sc_check_base : FnScope ["base"] ["base"] (defScope s_check_base) := ⟨rfl, rfl, rfl, by decide +kernel, rfl, by decide +kernel, by decide +kernel⟩
theorem sc_check_fraction : FnScope ["top", "bottom"] ["top", "bottom"] (defScope s_check_fraction) := ⟨rfl, rfl, rfl, by decide +kernel, rfl, by decide +kernel, by decide +kernel⟩
theorem sc_check_bottom : FnScope ["bottom"] ["bottom"] (defScope s_check_bottom) := ⟨rfl, rfl, rfl, by decide +kernel, rfl, by decide +kernel, by decide +kernel⟩
theorem sc_check_figures : FnScope ["base", "figures", "figure"] ["base", "figures"] (defScope s_check_figures) := ⟨rfl, rfl, rfl, by decide +kernel, rfl, by decide +kernel, by decide +kernel⟩
theorem sc_check_writing : FnScope ["base", "writing"] ["base", "writing"] (defScope s_check_writing) := ⟨rfl, rfl, rfl, by decide +kernel, rfl, by decide +kernel, by decide +kernel⟩
theorem sc_check_number : FnScope ["number"] ["number"] (defScope s_check_number) := ⟨rfl, rfl, rfl, by decide +kernel, rfl, by decide +kernel, by decide +kernel⟩
theorem sc_written : FnScope ["base", "top", "bottom"] ["base", "top", "bottom"] (defScope s_written) := ⟨rfl, rfl, rfl, by decide +kernel, rfl, by decide +kernel, by decide +kernel⟩
theorem sc_divided_out : FnScope ["base", "top", "bottom", "figures", "place_of_rest", "rest", "start"] ["base", "top", "bottom"] (defScope s_divided_out) := ⟨rfl, rfl, rfl, by decide +kernel, rfl, by decide +kernel, by decide +kernel⟩
theorem sc_worth : FnScope ["base", "writing", "ahead", "ring", "top", "bottom", "round_bottom", "common"] ["base", "writing"] (defScope s_worth) := ⟨rfl, rfl, rfl, by decide +kernel, rfl, by decide +kernel, by decide +kernel⟩
theorem sc_plain : FnScope ["base", "writing", "whole", "ahead", "ring"] ["base", "writing"] (defScope s_plain) := ⟨rfl, rfl, rfl, by decide +kernel, rfl, by decide +kernel, by decide +kernel⟩
theorem sc_is_plain : FnScope ["base", "writing", "ahead", "ring"] ["base", "writing"] (defScope s_is_plain) := ⟨rfl, rfl, rfl, by decide +kernel, rfl, by decide +kernel, by decide +kernel⟩
theorem sc_number_of : FnScope ["base", "figures", "number", "figure"] ["base", "figures"] (defScope s_number_of) := ⟨rfl, rfl, rfl, by decide +kernel, rfl, by decide +kernel, by decide +kernel⟩
theorem sc_power : FnScope ["base", "count", "result", "step"] ["base", "count"] (defScope s_power) := ⟨rfl, rfl, rfl, by decide +kernel, rfl, by decide +kernel, by decide +kernel⟩
theorem sc_common_measure : FnScope ["one", "other", "rest"] ["one", "other"] (defScope s_common_measure) := ⟨rfl, rfl, rfl, by decide +kernel, rfl, by decide +kernel, by decide +kernel⟩
theorem sc_shortest_ring : FnScope ["ring", "length"] ["ring"] (defScope s_shortest_ring) := ⟨rfl, rfl, rfl, by decide +kernel, rfl, by decide +kernel, by decide +kernel⟩
theorem sc_without_last : FnScope ["figures", "figure", "kept"] ["figures", "figure"] (defScope s_without_last) := ⟨rfl, rfl, rfl, by decide +kernel, rfl, by decide +kernel, by decide +kernel⟩
theorem sc_rounded_up : FnScope ["base", "whole", "ahead", "figures"] ["base", "whole", "ahead"] (defScope s_rounded_up) := ⟨rfl, rfl, rfl, by decide +kernel, rfl, by decide +kernel, by decide +kernel⟩
theorem sc_drawn_into_ring : FnScope ["whole", "ahead", "ring", "length", "turns", "cut"] ["whole", "ahead", "ring"] (defScope s_drawn_into_ring) := ⟨rfl, rfl, rfl, by decide +kernel, rfl, by decide +kernel, by decide +kernel⟩
theorem sc_lengths : FnScope ["base", "bottom", "ahead", "left", "common"] ["base", "bottom"] (defScope s_lengths) := ⟨rfl, rfl, rfl, by decide +kernel, rfl, by decide +kernel, by decide +kernel⟩
theorem sc_ring_length : FnScope ["base", "left", "length", "rest"] ["base", "left"] (defScope s_ring_length) := ⟨rfl, rfl, rfl, by decide +kernel, rfl, by decide +kernel, by decide +kernel⟩
theorem sc_figure_at : FnScope ["base", "top", "bottom", "place", "rest"] ["base", "top", "bottom", "place"] (defScope s_figure_at) := ⟨rfl, rfl, rfl, by decide +kernel, rfl, by decide +kernel, by decide +kernel⟩
theorem sc_power_rest : FnScope ["base", "count", "bottom", "result", "square"] ["base", "count", "bottom"] (defScope s_power_rest) := ⟨rfl, rfl, rfl, by decide +kernel, rfl, by decide +kernel, by decide +kernel⟩
theorem sc_folds : FnScope ["base", "ring", "half", "place"] ["base", "ring"] (defScope s_folds) := ⟨rfl, rfl, rfl, by decide +kernel, rfl, by decide +kernel, by decide +kernel⟩
theorem sc_shown : FnScope ["base", "writing", "text"] ["base", "writing"] (defScope s_shown) := ⟨rfl, rfl, rfl, by decide +kernel, rfl, by decide +kernel, by decide +kernel⟩
theorem sc_text_of : FnScope ["figures"] ["figures"] (defScope s_text_of) := ⟨rfl, rfl, rfl, by decide +kernel, rfl, by decide +kernel, by decide +kernel⟩
theorem sc_figures_of_whole : FnScope ["base", "whole", "figures", "rest"] ["base", "whole"] (defScope s_figures_of_whole) := ⟨rfl, rfl, rfl, by decide +kernel, rfl, by decide +kernel, by decide +kernel⟩
theorem sc_added : FnScope ["base", "one", "other", "first", "second", "top"] ["base", "one", "other"] (defScope s_added) := ⟨rfl, rfl, rfl, by decide +kernel, rfl, by decide +kernel, by decide +kernel⟩
theorem sc_times : FnScope ["base", "writing", "number", "value"] ["base", "writing", "number"] (defScope s_times) := ⟨rfl, rfl, rfl, by decide +kernel, rfl, by decide +kernel, by decide +kernel⟩
theorem sc_result_of : FnScope ["base", "top", "bottom", "common"] ["base", "top", "bottom"] (defScope s_result_of) := ⟨rfl, rfl, rfl, by decide +kernel, rfl, by decide +kernel, by decide +kernel⟩
theorem sc_law_cell_at : FnScope ["script", "k"] ["script", "k"] (defScope s_law_cell_at) := ⟨rfl, rfl, rfl, by decide +kernel, rfl, by decide +kernel, by decide +kernel⟩
theorem sc_law_draw : FnScope ["cell", "k", "bound", "stir"] ["cell", "k", "bound"] (defScope s_law_draw) := ⟨rfl, rfl, rfl, by decide +kernel, rfl, by decide +kernel, by decide +kernel⟩
theorem sc_law_figures_by : FnScope ["cell", "base", "many"] ["cell", "base", "many"] (defScope s_law_figures_by) := ⟨rfl, rfl, rfl, by decide +kernel, rfl, by decide +kernel, by decide +kernel⟩
theorem sc_law_writing_by : FnScope ["script", "first", "base", "whole", "cell", "ahead", "ring", "way"] ["script", "first", "base"] (defScope s_law_writing_by) := ⟨rfl, rfl, rfl, by decide +kernel, rfl, by decide +kernel, by decide +kernel⟩
theorem sc_law_copy : FnScope ["writing"] ["writing"] (defScope s_law_copy) := ⟨rfl, rfl, rfl, by decide +kernel, rfl, by decide +kernel, by decide +kernel⟩
theorem sc_law_word_of : FnScope ["e", "kinds"] ["e"] (defScope s_law_word_of) := ⟨rfl, rfl, rfl, by decide +kernel, rfl, by decide +kernel, by decide +kernel⟩
theorem sc_law_called : FnScope ["which", "base", "fraction", "writing", "good"] ["which", "base", "fraction", "writing"] (defScope s_law_called) := ⟨rfl, rfl, rfl, by decide +kernel, rfl, by decide +kernel, by decide +kernel⟩
theorem sc_law_tried : FnScope ["which", "base", "fraction", "writing", "e"] ["which", "base", "fraction", "writing"] (defScope s_law_tried) := ⟨rfl, rfl, rfl, by decide +kernel, rfl, by decide +kernel, by decide +kernel⟩
theorem sc_law_spoilt : FnScope ["script", "base", "writing", "way", "far", "whole", "ahead", "ring", "side", "at"] ["script", "base", "writing", "way", "far"] (defScope s_law_spoilt) := ⟨rfl, rfl, rfl, by decide +kernel, rfl, by decide +kernel, by decide +kernel⟩
theorem sc_law : FnScope ["script", "base", "far", "fraction", "writing", "way", "due", "kind", "long", "which", "wanted", "told"] ["script"] (defScope s_law) := ⟨rfl, rfl, rfl, by decide +kernel, rfl, by decide +kernel, by decide +kernel⟩
seal L2.PE L2.PT L2.PW L2.PA L2.PS L2.PSs L2.PI L2.PG
section
variable {P : Program} {w : World} {K : PySem.W.Frag} {mg : Str → Option Value} {base : Heap}
theorem gotE_check_base (T : Txt K mg) : GotE P w K mg base "check_base" 1 ["base"] (spCheckBaseE K mg) := by
  obtain ⟨C_NoBase, X_NoBase, R_NoBase⟩ := T.x_NoBase
  refine T.d_check_base.gotE sc_check_base (fun vs H Q E h => ?_) (fun f cdv A outer s H vs Q E hr h => ?_)
  · rcases h with h | h
    · obtain ⟨b, rfl, _⟩ := h; rfl
    · obtain ⟨b, rfl, _⟩ := h; rfl
  · refine ⟨_, (pss_one (ps_if (PW.pt (pw_or (pt_cmpR op_lt (pv 0) (pe_globI T.i_LEAST_BASE rfl) (nomark _)) (pw_or1 (pt_cmpR op_gt (pv 0) (pe_globI T.i_GREATEST_BASE rfl) (nomark _))))) (pss_one (ps_raise X_NoBase rfl (pa_k pe_str pa_nil))) pss_nil)), ?_⟩
    rcases h with h | h
    · obtain ⟨b, rfl, h2, h36, k⟩ := h
      refine ⟨_, rfl, _, _, rfl, rfl, _, rfl, iteDF (by omega) ?_⟩
      refine ⟨_, rfl, _, _, rfl, rfl, _, rfl, iteDF (by omega) ?_⟩
      exact k
    · obtain ⟨b, rfl, nb, r⟩ := h
      refine ⟨_, rfl, _, _, rfl, rfl, _, rfl, ite2D (fun h0 => ?_) (fun h0 => ?_)⟩
      · exact iteT ⟨(show 1 ≤ sizeLine by decide), r _ _ R_NoBase (Same.refl H)⟩
      refine ⟨_, rfl, _, _, rfl, rfl, _, rfl, ite2D (fun h1 => ?_) (fun h1 => ?_)⟩
      · exact ⟨(show 1 ≤ sizeLine by decide), r _ _ R_NoBase (Same.refl H)⟩
      · exact absurd ⟨by omega, by omega⟩ nb
theorem gotE_check_bottom (T : Txt K mg) : GotE P w K mg base "check_bottom" 1 ["bottom"] (spCheckBottomE K mg) := by
  obtain ⟨C_NoFraction, X_NoFraction, R_NoFraction⟩ := T.x_NoFraction
  refine T.d_check_bottom.gotE sc_check_bottom (fun vs H Q E h => ?_) (fun f cdv A outer s H vs Q E hr h => ?_)
  · rcases h with h | h
    · obtain ⟨b, rfl, _⟩ := h; rfl
    · obtain ⟨b, rfl, _⟩ := h; rfl
  · refine ⟨_, (pss_one (ps_if (PW.pt (pw_or (pt_cmpR op_lt (pv 0) pe_int (nomark _)) (pw_or1 (pt_cmpR op_gt (pv 0) (pe_globI T.i_GREATEST_BOTTOM rfl) (nomark _))))) (pss_one (ps_raise X_NoFraction rfl (pa_k pe_str pa_nil))) pss_nil)), ?_⟩
    rcases h with h | h
    · obtain ⟨q, rfl, q1, q2, k⟩ := h
      refine ⟨_, rfl, _, _, rfl, rfl, _, rfl, iteDF (by omega) ?_⟩
      refine ⟨_, rfl, _, _, rfl, rfl, _, rfl, iteDF (by omega) ?_⟩
      exact k
    · obtain ⟨q, rfl, nb, r⟩ := h
      refine ⟨_, rfl, _, _, rfl, rfl, _, rfl, ite2D (fun h0 => ?_) (fun h0 => ?_)⟩
      · exact iteT ⟨(show 1 ≤ sizeLine by decide), r _ _ R_NoFraction (Same.refl H)⟩
      refine ⟨_, rfl, _, _, rfl, rfl, _, rfl, ite2D (fun h1 => ?_) (fun h1 => ?_)⟩
      · exact ⟨(show 1 ≤ sizeLine by decide), r _ _ R_NoFraction (Same.refl H)⟩
      · exact absurd ⟨by omega, by omega⟩ nb
theorem gotE_check_fraction (T : Txt K mg) : GotE P w K mg base "check_fraction" 2 ["top", "bottom"] (spCheckFractionE K mg) := by
  obtain ⟨C_NoFraction, X_NoFraction, R_NoFraction⟩ := T.x_NoFraction
  refine T.d_check_fraction.gotE sc_check_fraction (fun vs H Q E h => ?_) (fun f cdv A outer s H vs Q E hr h => ?_)
  · rcases h with h | h
    · obtain ⟨t, q, rfl, _⟩ := h; rfl
    · obtain ⟨t, q, rfl, _⟩ := h; rfl
  · refine ⟨_, (pss_cons (ps_if (PW.pt (pw_or (pt_cmpR op_lt (pv 0) pe_int (nomark _)) (pw_or1 (pt_cmpR op_gt (pv 0) (pe_globI T.i_GREATEST_TOP rfl) (nomark _))))) (pss_one (ps_raise X_NoFraction rfl (pa_k pe_str pa_nil))) pss_nil)
      (pss_one (ps_expr (pe_callE (gotE_check_bottom T) (hr.mono (by decide)) rfl (pa_n (pv 1) pa_nil))))), ?_⟩
    rcases h with h | h
    · obtain ⟨t, q, rfl, h1, h2, h3, h4, k⟩ := h
      refine ⟨_, rfl, _, _, rfl, rfl, _, rfl, iteDF (by omega) ?_⟩
      refine ⟨_, rfl, _, _, rfl, rfl, _, rfl, iteDF (by omega) ?_⟩
      exact ⟨_, rfl, .inl ⟨q, rfl, h3, h4, k⟩⟩
    · obtain ⟨t, q, rfl, nb, r⟩ := h
      refine ⟨_, rfl, _, _, rfl, rfl, _, rfl, ite2D (fun h0 => ?_) (fun h0 => ?_)⟩
      · exact iteT ⟨(show 1 ≤ sizeLine by decide), r _ _ R_NoFraction (Same.refl H)⟩
      refine ⟨_, rfl, _, _, rfl, rfl, _, rfl, ite2D (fun h1 => ?_) (fun h1 => ?_)⟩
      · exact ⟨(show 1 ≤ sizeLine by decide), r _ _ R_NoFraction (Same.refl H)⟩
      · exact ⟨_, rfl, .inr ⟨q, rfl, fun z => nb ⟨by omega, by omega, z.1, z.2⟩, r⟩⟩
theorem gotE_check_figures (T : Txt K mg) : GotE P w K mg base "check_figures" 1 ["base", "figures"] (spCheckFiguresE K mg) := by
  obtain ⟨C_NoWriting, X_NoWriting, R_NoWriting⟩ := T.x_NoWriting
  refine T.d_check_figures.gotE sc_check_figures (fun vs H Q E h => ?_) (fun f cdv A outer s H vs Q E hr h => ?_)
  · rcases h with h | h
    · obtain ⟨b, l, ns, rfl, _⟩ := h; rfl
    · obtain ⟨b, l, ns, rfl, _⟩ := h; rfl
  · refine ⟨_, (pss_cons (ps_if (pt_cmpR op_gt (pe_callB call_len_seq rfl T.b_len PySem.boot_len (pa_n (pv 1) pa_nil)) (pe_globI T.i_MOST_FIGURES rfl) (nomark _)) (pss_one (ps_raise X_NoWriting rfl (pa_k pe_str pa_nil))) pss_nil)
      (pss_one (ps_for ownE rfl (pi_list (pv 1)) (pg_name (i := 2) sc_check_figures.nd rfl (Or.inl rfl)) (pss_one (ps_if (PW.pt (pw_or (pt_cmpR op_lt (pv 2) pe_int (nomark _)) (pw_or1 (pt_cmpR op_ge (pv 2) (pv 0) (nomark _))))) (pss_one (ps_raise X_NoWriting rfl (pa_k pe_str pa_nil))) pss_nil))))), ?_⟩
    rcases h with h | h
    · obtain ⟨b, l, ns, rfl, hS, hl, hF, k⟩ := h
      refine ⟨_, rfl, l, _, rfl, .inl hS, _, _, rfl, rfl, _, rfl, iteDF (by rw [List.length_map]; omega) ?_⟩
      refine ⟨_, rfl, l, rfl, ⟨_, hS⟩, for_list (K := K) (a := l) (xs := ns.map V.int) (fun i σ H2 => ∃ v, σ = [some (.int b), some (.ref l), v] ∧ H2 = H) ⟨_, rfl, rfl⟩ (fun i σ H2 _ ⟨_, _, e⟩ => by rw [e]; exact hS) ?_ ?_⟩
      · rintro i y σ H2 hi ⟨v, rfl, rfl⟩
        obtain ⟨n, rfl, hn⟩ := mem_int hi
        have := hF n (List.mem_of_getElem? hn)
        refine ⟨_, rfl, _, _, rfl, rfl, _, rfl, iteDF (by omega) ?_⟩
        refine ⟨_, rfl, _, rfl, _, _, rfl, rfl, _, rfl, iteDF (by omega) ?_⟩
        exact ⟨_, rfl, rfl⟩
      · rintro σ H2 ⟨v, rfl, rfl⟩
        exact k
    · obtain ⟨b, l, ns, rfl, hS, nb, r⟩ := h
      refine ⟨_, rfl, l, _, rfl, .inl hS, _, _, rfl, rfl, _, rfl, ite2D (fun h0 => ?_) (fun h0 => ?_)⟩
      · exact ⟨(show 1 ≤ sizeLine by decide), r _ _ R_NoWriting (Same.refl H)⟩
      rw [List.length_map] at h0
      refine ⟨_, rfl, l, rfl, ⟨_, hS⟩, for_list (K := K) (a := l) (xs := ns.map V.int) (fun i σ H2 => (∃ v, σ = [some (.int b), some (.ref l), v]) ∧ H2 = H ∧ ∀ j, j < i → ∀ n, ns[j]? = some n → 0 ≤ n ∧ n < b) ⟨⟨_, rfl⟩, rfl, fun j hj => absurd hj (by omega)⟩ (fun i σ H2 _ ⟨_, e, _⟩ => by rw [e]; exact hS) ?_ ?_⟩
      · rintro i y σ H2 hi ⟨⟨v, rfl⟩, rfl, hj⟩
        obtain ⟨n, rfl, hn⟩ := mem_int hi
        refine ⟨_, rfl, _, _, rfl, rfl, _, rfl, ite2D (fun h1 => ?_) (fun h1 => ?_)⟩
        · exact iteT ⟨(show 1 ≤ sizeLine by decide), r _ _ R_NoWriting (Same.refl _)⟩
        refine ⟨_, rfl, _, rfl, _, _, rfl, rfl, _, rfl, ite2D (fun h2 => ?_) (fun h2 => ?_)⟩
        · exact ⟨(show 1 ≤ sizeLine by decide), r _ _ R_NoWriting (Same.refl _)⟩
        refine ⟨⟨_, rfl⟩, rfl, fun j hji m hm => ?_⟩
        by_cases e : j = i
        · subst e
          rw [hn] at hm
          obtain rfl := Option.some.inj hm
          omega
        · exact hj j (by omega) m hm
      · rintro σ H2 ⟨⟨v, rfl⟩, rfl, hj⟩
        refine absurd ⟨by omega, fun d hd => ?_⟩ nb
        obtain ⟨j, hlt, rfl⟩ := List.getElem_of_mem hd
        exact hj j (by rw [List.length_map]; exact hlt) _ (List.getElem?_eq_getElem hlt)
theorem gotE_check_writing (T : Txt K mg) : GotE P w K mg base "check_writing" 2 ["base", "writing"] (spCheckWritingE K mg) := by
  obtain ⟨C_NoWriting, X_NoWriting, R_NoWriting⟩ := T.x_NoWriting
  refine T.d_check_writing.gotE sc_check_writing (fun vs H Q E h => ?_) (fun f cdv A outer s H vs Q E hr h => ?_)
  · rcases h with h | h
    · obtain ⟨b, p, la, lg, x, a, g, rfl, _⟩ := h; rfl
    · obtain ⟨b, p, la, lg, x, a, g, rfl, _⟩ := h; rfl
  · refine ⟨_, (pss_cons (ps_if (PW.pt (pw_or (pt_cmpR op_lt (pe_ix ix_tup (pv 1) pe_int px_k) pe_int (nomark _)) (pw_or1 (pt_cmpR op_gt (pe_ix ix_tup (pv 1) pe_int px_k) (pe_globI T.i_GREATEST_WHOLE rfl) (nomark _))))) (pss_one (ps_raise X_NoWriting rfl (pa_k pe_str pa_nil))) pss_nil)
      (pss_cons (ps_expr (pe_callE (gotE_check_figures T) (hr.mono (by decide)) rfl (pa_n (pv 0) (pa_s (pe_ix ix_tup (pv 1) pe_int px_k) pa_nil))))
      (pss_one (ps_expr (pe_callE (gotE_check_figures T) (hr.mono (by decide)) rfl (pa_n (pv 0) (pa_s (pe_ix ix_tup (pv 1) pe_int px_k) pa_nil))))))), ?_⟩
    rcases h with h | h
    · obtain ⟨b, p, la, lg, x, a, g, rfl, hW, hG, k⟩ := h
      have w0 := hG.w0
      have w1 := hG.w1
      refine ⟨_, rfl, p, _, _, _, rfl, rfl, hW.t, rfl, _, _, rfl, rfl, _, rfl, iteDF (by omega) ?_⟩
      refine ⟨_, rfl, p, _, _, _, rfl, rfl, hW.t, rfl, _, _, rfl, rfl, _, rfl, iteDF (by omega) ?_⟩
      refine ⟨_, rfl, _, rfl, p, _, _, _, rfl, rfl, hW.t, rfl, .inl ⟨b, la, a, rfl, hW.a, hG.la, hG.fa, ?_⟩⟩
      exact ⟨_, rfl, _, rfl, p, _, _, _, rfl, rfl, hW.t, rfl, .inl ⟨b, lg, g, rfl, hW.g, hG.lg, hG.fg, k⟩⟩
    · obtain ⟨b, p, la, lg, x, a, g, rfl, hW, nb, r⟩ := h
      rw [good_iff] at nb
      refine ⟨_, rfl, p, _, _, _, rfl, rfl, hW.t, rfl, _, _, rfl, rfl, _, rfl, ite2D (fun h0 => ?_) (fun h0 => ?_)⟩
      · exact iteT ⟨(show 1 ≤ sizeLine by decide), r _ _ R_NoWriting (Same.refl H)⟩
      refine ⟨_, rfl, p, _, _, _, rfl, rfl, hW.t, rfl, _, _, rfl, rfl, _, rfl, ite2D (fun h1 => ?_) (fun h1 => ?_)⟩
      · exact ⟨(show 1 ≤ sizeLine by decide), r _ _ R_NoWriting (Same.refl H)⟩
      by_cases ra : RingOk b a
      · refine ⟨_, rfl, _, rfl, p, _, _, _, rfl, rfl, hW.t, rfl, .inl ⟨b, la, a, rfl, hW.a, ra.1, ra.2, ?_⟩⟩
        exact ⟨_, rfl, _, rfl, p, _, _, _, rfl, rfl, hW.t, rfl, .inr ⟨b, lg, g, rfl, hW.g, fun z => nb ⟨by omega, by omega, ra, z⟩, r⟩⟩
      · exact ⟨_, rfl, _, rfl, p, _, _, _, rfl, rfl, hW.t, rfl, .inr ⟨b, la, a, rfl, hW.a, ra, r⟩⟩
theorem gotE_check_number (T : Txt K mg) : GotE P w K mg base "check_number" 1 ["number"] (spCheckNumberE K mg) := by
  obtain ⟨C_NoNumber, X_NoNumber, R_NoNumber⟩ := T.x_NoNumber
  refine T.d_check_number.gotE sc_check_number (fun vs H Q E h => ?_) (fun f cdv A outer s H vs Q E hr h => ?_)
  · obtain ⟨n, rfl, _⟩ := h; rfl
  · obtain ⟨n, rfl, k1, k2⟩ := h
    refine ⟨_, (pss_one (ps_if (PW.pt (pw_or (pt_cmpR op_lt (pv 0) pe_int (nomark _)) (pw_or1 (pt_cmpR op_gt (pv 0) (pe_globI T.i_GREATEST_NUMBER rfl) (nomark _))))) (pss_one (ps_raise X_NoNumber rfl (pa_k pe_str pa_nil))) pss_nil)), ?_⟩
    refine ⟨_, rfl, _, _, rfl, rfl, _, rfl, ite2D (fun h0 => ?_) (fun h0 => ?_)⟩
    · exact iteT ⟨(show 1 ≤ sizeLine by decide), k2 (by omega) _ _ R_NoNumber (Same.refl H)⟩
    refine ⟨_, rfl, _, _, rfl, rfl, _, rfl, ite2D (fun h1 => ?_) (fun h1 => ?_)⟩
    · exact ⟨(show 1 ≤ sizeLine by decide), k2 (by omega) _ _ R_NoNumber (Same.refl H)⟩
    · exact k1 ⟨by omega, by omega⟩
theorem got_divided_out (T : Txt K mg) : Got P w K mg base "divided_out" 1 ["base", "top", "bottom"] spDividedOut := by
  refine T.d_divided_out.got sc_divided_out (fun vs H Q E h => ?_) (fun f cdv A outer s H vs Q E hr h => ?_)
  · obtain ⟨b, t, q, rfl, _⟩ := h; rfl
  · obtain ⟨b, t, q, rfl, b2, b36, t0, q1, q2, k⟩ := h
    have hu := hu_of hr
    refine ⟨_, (pss_cons (ps_set (i := 3) sc_divided_out.nd rfl (Or.inl rfl) (pe_lst pa_nil))
      (pss_cons (ps_set (i := 4) sc_divided_out.nd rfl (Or.inl rfl) pe_dnewK)
      (pss_cons (ps_set (i := 5) sc_divided_out.nd rfl (Or.inl rfl) (pe_op op_mod (pv 1) (pv 2)))
      (pss_cons (ps_while PassesOwn.never (PW.pt (pw_and (pt_cmpR op_ne (pv 5) pe_int (nomark _)) (pw_and1 (pt_cmp (pc_dnotin hu (pv 5) (pv 4)))))) (pss_cons (ps_dput hu (pv 4) (pv 5) (pe_callB call_len_seq rfl T.b_len PySem.boot_len (pa_n (pv 3) pa_nil)) rfl)
      (pss_cons (ps_expr (pe_bm PySem.F.plainAttrs_list PySem.F.slot_list_append PySem.F.type_list_append mt_append (pv 3) (pa_b (pe_op op_fdiv (pe_op op_mul (pv 5) (pv 0)) (pv 2)) pa_nil)))
      (pss_one (ps_set (i := 5) sc_divided_out.nd rfl (Or.inl rfl) (pe_op op_mod (pe_op op_mul (pv 5) (pv 0)) (pv 2)))))))
      (pss_cons (ps_if (pt_cmpR op_eq (pv 5) pe_int (nomark _)) (pss_one (ps_ret (pe_tup (pa_b (pe_op op_fdiv (pv 1) (pv 2)) (pa_n (pv 3) (pa_l (pe_lst pa_nil) pa_nil)))))) pss_nil)
      (pss_cons (ps_set (i := 6) sc_divided_out.nd rfl (Or.inl rfl) (pe_dget hu (pv 4) (pv 5) (fun _ _ => rfl)))
      (pss_one (ps_ret (pe_tup (pa_b (pe_op op_fdiv (pv 1) (pv 2)) (pa_s (pe_slice sl_list (pv 3) po_none (po_some (pv 6))) (pa_s (pe_slice sl_list (pv 3) (po_some (pv 6)) po_none) pa_nil)))))))))))), ?_⟩
    refine ⟨(show 0 ≤ sizeLine by decide), fun lf hf => ?_⟩
    intro d hd
    refine ⟨_, rfl, _, rfl, _, _, rfl, rfl, (show (0 : Int) < q by omega), ?_⟩
    have r0 : 0 ≤ t % q := Int.emod_nonneg _ (by omega)
    have r1 : t % q < q := Int.emod_lt_of_pos _ (by omega)
    have bd := RF.rst_bd (b := b) (r := t % q) (show 0 < q by omega) r0 r1
    have nfd : d ≠ lf := fun e => by rw [e, upd_same] at hd; cases hd
    have hd' : H d = none := by rw [upd_ne nfd] at hd; exact hd
    have inq : ∀ x : Int, (-(2 ^ 64) < x ∧ x < 2 ^ 64) ∨ (-(2 ^ 64) < b ∧ b < 2 ^ 64) := fun x => .inr ⟨by omega, by omega⟩
    refine ⟨fun m σ H' => ∃ n, m + n = q.toNat ∧ RF.Fresh b q (t % q) n ∧ σ = [some (.int b), some (.int t), some (.int q), some (.ref lf), some (.ref d), some (.int (RF.rst b q (t % q) n)), none] ∧
      Same H H' ∧ H' lf = some (.lst ((RF.figs b q (t % q) 0 n).map V.int)) ∧ H' d = some (.dK (seen b q (t % q) n)), ⟨q.toNat, 0, by omega, RF.Fresh.zero, rfl, (Same.upd hf).trans (Same.upd hd), by rw [upd_ne nfd.symm]; exact upd_same, upd_same⟩, ?_⟩
    rintro m σ H' ⟨n, hm, F, rfl, sm, hl, hdd⟩
    have hn := F.lt (show 0 < q by omega) r0 r1
    have nf : H lf = none := hf
    refine ⟨_, rfl, rfl, _, rfl, ite2N (fun hz => ?_) (fun hz => ?_)⟩
    · -- the rest is not nought: is it met
      have hz : RF.rst b q (t % q) n ≠ 0 := fun e => hz (congrArg V.int e)
      refine ⟨_, rfl, _, rfl, d, _, rfl, DGet.k (k := Sum.inl _) hdd, _, rfl, ?_⟩
      rcases seen_or (b := b) (q := q) (r := t % q) (n := n) (RF.rst b q (t % q) n) with hs | ⟨j, hj, ej⟩
      · rw [seen_none hs]
        refine iteT ⟨fun σ' H2 => σ' = [some (.int b), some (.int t), some (.int q), some (.ref lf), some (.ref d), some (.int (RF.rst b q (t % q) (n + 1))), none] ∧
          Same H H2 ∧ H2 lf = some (.lst ((RF.figs b q (t % q) 0 (n + 1)).map V.int)) ∧ H2 d = some (.dK (seen b q (t % q) (n + 1))), ?_, ?_⟩
        · rintro σ' H2 ⟨e, s2, l2, d2⟩
          have F2 := F.succ hz hs
          have hn2 := F2.lt (show 0 < q by omega) r0 r1
          exact ⟨q.toNat - (n + 1), by omega, n + 1, by omega, F2, e, s2, l2, d2⟩
        · have nld : lf ≠ d := ne_of hl hdd (by intro z; cases z)
          have el : (((RF.figs b q (t % q) 0 n).map V.int).length : Int) = (n : Int) := by rw [List.length_map, RF.figs_length]
          refine ⟨_, rfl, lf, _, rfl, .inl (SqL.of hl), _, rfl, _, rfl, d, _, rfl, DPut.k (k := Sum.inl _) hdd (by rw [seen_length]; exact size2000 (by omega)), ?_⟩
          rw [el, seen_put hs]
          refine ⟨_, rfl, .inl ⟨rfl, _, SqL.of (by rw [upd_ne nld]; exact hl)⟩, ?_⟩
          refine ⟨_, rfl, _, rfl, _, _, rfl, rfl, inq _, _, rfl, _, _, rfl, rfl, ⟨by omega, by omega⟩, lf, _, _, rfl, rfl, (by rw [upd_ne nld]; exact hl), (by rw [List.length_map, RF.figs_length]; exact size2000 (by omega)), ?_⟩
          refine ⟨_, rfl, _, rfl, _, _, rfl, rfl, inq _, _, rfl, _, _, rfl, rfl, (show (0 : Int) < q by omega), ?_⟩
          refine ⟨rfl, ?_, ?_, ?_⟩
          · exact (sm.upd2 hd').upd2 nf
          · rw [upd_same, RF.figs_succ, List.map_append, Nat.zero_add]; rfl
          · rw [upd_ne nld.symm]; exact upd_same
      · have hsm := seen_some hj ej F.ne
        have ht : (RF.figs b q (t % q) 0 n).length = n := RF.figs_length
        rw [hsm]
        refine iteF ?_
        have hg : DGet H' d (.int (RF.rst b q (t % q) n)) (some (V.int (j : Int))) := by
          have := DGet.k (k := (Sum.inl (RF.rst b q (t % q) n) : Key)) hdd
          rw [hsm] at this
          exact this
        have dv : RF.DivIs b t q (t / q) ((RF.figs b q (t % q) 0 n).take j) ((RF.figs b q (t % q) 0 n).drop j) :=
          ⟨rfl, n, F, .inr ⟨j, hj, hz, ej, RF.figs_take (by omega), RF.figs_drop⟩⟩
        refine ⟨_, rfl, rfl, _, rfl, iteDF (fun e => hz (V.int.inj e)) ?_⟩
        refine ⟨_, rfl, _, rfl, d, _, rfl, hg, ?_⟩
        refine ⟨_, rfl, _, rfl, _, _, rfl, rfl, ⟨by omega, by omega⟩, ?_⟩
        refine ⟨_, rfl, _, rfl, _, rfl, lf, _, rfl, SqL.of hl, fun la hla => ?_⟩
        have hl2 : upd H' la (.lst (cutV ((RF.figs b q (t % q) 0 n).map V.int) none (some (j : Int)))) lf = some (.lst ((RF.figs b q (t % q) 0 n).map V.int)) := by rw [upd_ne (ne_of_none hl hla)]; exact hl
        refine ⟨_, rfl, _, rfl, _, rfl, lf, _, rfl, SqL.of hl2, fun lg hlg => ⟨(show 3 ≤ sizeLine by decide), fun p hp => ?_⟩⟩
        rw [cut_take (by omega)] at hlg hp ⊢
        rw [cut_drop (by omega)] at hp ⊢
        exact k _ _ _ p la lg _ dv (NewWr.mk2 sm hla hlg hp)
    · have hz : RF.rst b q (t % q) n = 0 := V.int.inj hz
      refine iteF ?_
      refine ⟨_, rfl, rfl, _, rfl, iteDT (congrArg V.int hz) ?_⟩
      refine ⟨_, rfl, _, rfl, _, _, rfl, rfl, ⟨by omega, by omega⟩, _, rfl, (show 0 ≤ sizeLine by decide), fun l2 h2 => ⟨(show 3 ≤ sizeLine by decide), fun p hp => ?_⟩⟩
      exact k (t / q) (RF.figs b q (t % q) 0 n) [] p lf l2 _ ⟨rfl, n, F, .inl ⟨hz, rfl, rfl⟩⟩ (NewWr.mk1 (g := []) sm hl nf h2 hp)
theorem gotE_written (T : Txt K mg) : GotE P w K mg base "written" 3 ["base", "top", "bottom"] (spWrittenE K mg) := by
  refine T.d_written.gotE sc_written (fun vs H Q E h => ?_) (fun f cdv A outer s H vs Q E hr h => ?_)
  · rcases h with h | h
    · obtain ⟨b, t, q, rfl, _⟩ := h; rfl
    · obtain ⟨b, t, q, rfl, _⟩ := h; rfl
  · refine ⟨_, (pss_cons (ps_expr (pe_callE (gotE_check_base T) (hr.mono (by decide)) rfl (pa_n (pv 0) pa_nil)))
      (pss_cons (ps_expr (pe_callE (gotE_check_fraction T) (hr.mono (by decide)) rfl (pa_n (pv 1) (pa_n (pv 2) pa_nil))))
      (pss_one (ps_ret (pe_callG (got_divided_out T) (hr.mono (by decide)) rfl (pa_n (pv 0) (pa_n (pv 1) (pa_n (pv 2) pa_nil)))))))), ?_⟩
    rcases h with h | h
    · obtain ⟨b, t, q, rfl, b2, b36, t0, t12, q1, q2, k⟩ := h
      refine ⟨_, rfl, .inl ⟨b, rfl, b2, b36, ?_⟩⟩
      refine ⟨_, rfl, _, rfl, .inl ⟨t, q, rfl, t0, t12, q1, q2, ?_⟩⟩
      exact ⟨_, rfl, _, rfl, _, rfl, b, t, q, rfl, b2, b36, t0, q1, q2, k⟩
    · obtain ⟨b, t, q, rfl, h⟩ := h
      rcases h with ⟨nb, r⟩ | ⟨ob, nf, r⟩
      · exact ⟨_, rfl, .inr ⟨b, rfl, nb, r⟩⟩
      · exact ⟨_, rfl, .inl ⟨b, rfl, ob.1, ob.2, _, rfl, _, rfl, .inr ⟨t, q, rfl, nf, r⟩⟩⟩
theorem got_number_of (T : Txt K mg) : Got P w K mg base "number_of" 1 ["base", "figures"] (spNumberOf K) := by
  refine T.d_number_of.got sc_number_of (fun vs H Q E h => ?_) (fun f cdv A outer s H vs Q E hr h => ?_)
  · obtain ⟨b, l, ns, rfl, _⟩ := h; rfl
  · obtain ⟨b, l, ns, rfl, hS, b2, b36, k⟩ := h
    refine ⟨_, (pss_cons (ps_set (i := 2) sc_number_of.nd rfl (Or.inl rfl) pe_int)
      (pss_cons (ps_for PassesOwn.never rfl (pi_list (pv 1)) (pg_name (i := 3) sc_number_of.nd rfl (Or.inl rfl)) (pss_one (ps_set (i := 2) sc_number_of.nd rfl (Or.inl rfl) (pe_op op_add (pe_op op_mul (pv 2) (pv 0)) (pv 3)))))
      (pss_one (ps_ret (pv 2))))), ?_⟩
    refine ⟨_, rfl, l, rfl, ⟨_, hS⟩, for_list (K := K) (a := l) (xs := ns.map V.int) (fun i σ H2 => ∃ v, σ = [some (.int b), some (.ref l), some (.int (RF.num b (ns.take i))), v] ∧ H2 = H) ⟨_, rfl, rfl⟩ (fun i σ H2 _ ⟨_, _, e⟩ => by rw [e]; exact hS) ?_ ?_⟩
    · rintro i y σ H2 hi ⟨v, rfl, rfl⟩
      obtain ⟨n, rfl, hn⟩ := mem_int hi
      refine ⟨_, rfl, _, rfl, _, _, rfl, rfl, .inr ⟨by omega, by omega⟩, _, rfl, _, _, rfl, rfl, ?_⟩
      exact ⟨_, by rw [RF.num_take_succ hn]; rfl, rfl⟩
    · rintro σ H2 ⟨v, rfl, rfl⟩
      refine ⟨_, rfl, ?_⟩
      rw [List.length_map, List.take_length]
      exact k
theorem got_power (T : Txt K mg) : Got P w K mg base "power" 1 ["base", "count"] spPower := by
  refine T.d_power.got sc_power (fun vs H Q E h => ?_) (fun f cdv A outer s H vs Q E hr h => ?_)
  · obtain ⟨b, n, rfl, _⟩ := h; rfl
  · obtain ⟨b, n, rfl, b2, b36, n0, n1, k⟩ := h
    refine ⟨_, (pss_cons (ps_set (i := 2) sc_power.nd rfl (Or.inl rfl) pe_int)
      (pss_cons (ps_for PassesOwn.never rfl (pi_range1 rfl T.b_range (pa_n (pv 1) pa_nil)) (pg_name (i := 3) sc_power.nd rfl (Or.inl rfl)) (pss_one (ps_set (i := 2) sc_power.nd rfl (Or.inl rfl) (pe_op op_mul (pv 2) (pv 0)))))
      (pss_one (ps_ret (pv 2))))), ?_⟩
    refine ⟨_, rfl, n, rfl, by omega, by omega, for_range (lo := 0) (n := n.toNat) (fun i σ H2 => ∃ v, σ = [some (.int b), some (.int n), some (.int (b ^ i)), v] ∧ H2 = H) ⟨_, by rw [Int.pow_zero]; rfl, rfl⟩ ?_ ?_⟩
    · rintro i σ H2 hi ⟨v, rfl, rfl⟩
      refine ⟨_, rfl, _, rfl, _, _, rfl, rfl, .inr ⟨by omega, by omega⟩, ?_⟩
      exact ⟨_, by rw [Int.pow_succ]; rfl, rfl⟩
    · rintro σ H2 ⟨v, rfl, rfl⟩
      exact ⟨_, rfl, k⟩
theorem got_common_measure (T : Txt K mg) : Got P w K mg base "common_measure" 1 ["one", "other"] spCommon := by
  refine T.d_common_measure.got sc_common_measure (fun vs H Q E h => ?_) (fun f cdv A outer s H vs Q E hr h => ?_)
  · obtain ⟨x, y, rfl, _⟩ := h; rfl
  · obtain ⟨x, y, rfl, x0, y0, k⟩ := h
    refine ⟨_, (pss_cons (ps_while PassesOwn.never (pt_cmpR op_ne (pv 1) pe_int (nomark _)) (pss_cons (ps_set (i := 2) sc_common_measure.nd rfl (Or.inl rfl) (pe_op op_mod (pv 0) (pv 1)))
      (pss_cons (ps_set (i := 0) sc_common_measure.nd rfl (Or.inl rfl) (pv 1))
      (pss_one (ps_set (i := 1) sc_common_measure.nd rfl (Or.inl rfl) (pv 2))))))
      (pss_one (ps_ret (pv 0)))), ?_⟩
    refine ⟨fun m σ H2 => ∃ (x' y' : Int) (v : Option V), m = y'.toNat ∧ 0 ≤ x' ∧ 0 ≤ y' ∧ Int.gcd x' y' = Int.gcd x y ∧ σ = [some (.int x'), some (.int y'), v] ∧ H2 = H, ⟨_, x, y, _, rfl, x0, y0, rfl, rfl, rfl⟩, ?_⟩
    rintro m σ H2 ⟨x', y', v, rfl, x0', y0', e, rfl, rfl⟩
    refine ⟨_, rfl, rfl, _, rfl, ite2N (fun hz => ?_) (fun hz => ?_)⟩
    · have hy : 0 < y' := by
        have : y' ≠ 0 := fun e => hz (congrArg V.int e)
        omega
      refine ⟨fun σ' H3 => σ' = [some (.int y'), some (.int (x' % y')), some (.int (x' % y'))] ∧ H3 = H2, ?_, ?_⟩
      · rintro σ' H3 ⟨rfl, rfl⟩
        have h1 := Int.emod_nonneg x' (show y' ≠ 0 by omega)
        have h2 := Int.emod_lt_of_pos x' hy
        exact ⟨_, by omega, y', x' % y', _, rfl, by omega, h1, by rw [RF.gcd_step]; exact e, rfl, rfl⟩
      · refine ⟨_, rfl, _, rfl, _, _, rfl, rfl, hy, ?_⟩
        exact ⟨_, rfl, _, rfl, rfl, rfl⟩
    · have hy : y' = 0 := by exact V.int.inj hz
      subst hy
      refine ⟨_, rfl, ?_⟩
      have e2 : ((Int.gcd x y : Nat) : Int) = x' := by
        rw [← e, Int.gcd_zero_right]
        omega
      rw [e2] at k
      exact k
theorem gotE_worth (T : Txt K mg) : GotE P w K mg base "worth" 3 ["base", "writing"] (spWorthE K mg) := by
  refine T.d_worth.gotE sc_worth (fun vs H Q E h => ?_) (fun f cdv A outer s H vs Q E hr h => ?_)
  · obtain ⟨b, p, la, lg, x, a, g, rfl, _⟩ := worth_split h; rfl
  · obtain ⟨b, p, la, lg, x, a, g, rfl, hW, nb, na, ok⟩ := worth_split h
    clear h
    refine ⟨_, (pss_mid (ps_expr (pe_callE (gotE_check_base T) (hr.mono (by decide)) rfl (pa_n (pv 0) pa_nil)))
      (pss_mid (ps_expr (pe_callE (gotE_check_writing T) (hr.mono (by decide)) rfl (pa_n (pv 0) (pa_n (pv 1) pa_nil))))
      (pss_mid (ps_set (i := 2) sc_worth.nd rfl (Or.inl rfl) (pe_ix ix_tup (pv 1) pe_int px_k))
      (pss_mid (ps_set (i := 3) sc_worth.nd rfl (Or.inl rfl) (pe_ix ix_tup (pv 1) pe_int px_k))
      (pss_mid (ps_set (i := 4) sc_worth.nd rfl (Or.inl rfl) (pe_callG (got_number_of T) (hr.mono (by decide)) rfl (pa_n (pv 0) (pa_n (pv 2) pa_nil))))
      (pss_mid (ps_set (i := 5) sc_worth.nd rfl (Or.inl rfl) (pe_callG (got_power T) (hr.mono (by decide)) rfl (pa_n (pv 0) (pa_c (pe_callB call_len_seq rfl T.b_len PySem.boot_len (pa_n (pv 2) pa_nil)) pa_nil))))
      (pss_mid (ps_if (pt_cmpR (op_neL hr.units) (pv 3) (pe_lst pa_nil) (nomark _)) (pss_mid (ps_set (i := 6) sc_worth.nd rfl (Or.inl rfl) (pe_op op_sub (pe_callG (got_power T) (hr.mono (by decide)) rfl (pa_n (pv 0) (pa_c (pe_callB call_len_seq rfl T.b_len PySem.boot_len (pa_n (pv 3) pa_nil)) pa_nil))) pe_int))
      (pss_mid (ps_set (i := 4) sc_worth.nd rfl (Or.inl rfl) (pe_op op_add (pe_op op_mulB (pv 4) (pv 6)) (pe_callG (got_number_of T) (hr.mono (by decide)) rfl (pa_n (pv 0) (pa_n (pv 3) pa_nil)))))
      (pss_one (ps_set (i := 5) sc_worth.nd rfl (Or.inl rfl) (pe_op op_mulB (pv 5) (pv 6)))))) pss_nil)
      (pss_mid (ps_set (i := 7) sc_worth.nd rfl (Or.inl rfl) (pe_callG (got_common_measure T) (hr.mono (by decide)) rfl (pa_n (pv 4) (pa_n (pv 5) pa_nil))))
      (pss_one (ps_ret (pe_tup (pa_b (pe_op op_add (pe_op op_mulB (pe_ix ix_tup (pv 1) pe_int px_k) (pe_op op_fdivB (pv 5) (pv 7))) (pe_op op_fdivB (pv 4) (pv 7))) (pa_b (pe_op op_fdivB (pv 5) (pv 7)) pa_nil))))))))))))), ?_⟩
    refine md (fun σ H' => σ = [some (.int b), some (.ref p), none, none, none, none, none, none] ∧ H' = H ∧ BaseOk b) ?c1 (mr (fun σ H' => σ = [some (.int b), some (.ref p), none, none, none, none, none, none] ∧ H' = H ∧ BaseOk b ∧ GoodW b x a g) ?c2 (mr (fun σ H' => σ = [some (.int b), some (.ref p), some (.ref la), none, none, none, none, none] ∧ H' = H ∧ BaseOk b ∧ GoodW b x a g) ?a1 (mr (fun σ H' => σ = [some (.int b), some (.ref p), some (.ref la), some (.ref lg), none, none, none, none] ∧ H' = H ∧ BaseOk b ∧ GoodW b x a g) ?a2 (mr (fun σ H' => σ = [some (.int b), some (.ref p), some (.ref la), some (.ref lg), some (.int (RF.num b a)), none, none, none] ∧ H' = H ∧ BaseOk b ∧ GoodW b x a g) ?a3 (mr (fun σ H' => σ = [some (.int b), some (.ref p), some (.ref la), some (.ref lg), some (.int (RF.num b a)), some (.int (b ^ a.length)), none, none] ∧ H' = H ∧ BaseOk b ∧ GoodW b x a g) ?a4
      (mr (fun σ H' => ∃ v : Option V, σ = [some (.int b), some (.ref p), some (.ref la), some (.ref lg), some (.int (RF.num b a * RF.rM b g + RF.num b g)), some (.int (RF.wB b a g)), v, none] ∧ Same H H' ∧ BaseOk b ∧ GoodW b x a g) ?a5
      (mr (fun σ H' => ∃ v : Option V, σ = [some (.int b), some (.ref p), some (.ref la), some (.ref lg), some (.int (RF.num b a * RF.rM b g + RF.num b g)), some (.int (RF.wB b a g)), v, some (.int ((Int.gcd (RF.num b a * RF.rM b g + RF.num b g) (RF.wB b a g) : Nat) : Int))] ∧ Same H H' ∧ BaseOk b ∧ GoodW b x a g) ?a6 ?a7)))))))
    case c1 =>
      intro D n r
      by_cases ob : BaseOk b
      · exact ⟨_, rfl, .inl ⟨b, rfl, ob.1, ob.2, n _ _ ⟨rfl, rfl, ob⟩⟩⟩
      · exact ⟨_, rfl, .inr ⟨b, rfl, ob, nb ob⟩⟩
    case c2 =>
      rintro σ H' ⟨rfl, rfl, ob⟩ D n r
      by_cases gw : GoodW b x a g
      · exact ⟨_, rfl, _, rfl, .inl ⟨b, p, la, lg, x, a, g, rfl, hW, gw, n _ _ ⟨rfl, rfl, ob, gw⟩⟩⟩
      · exact ⟨_, rfl, _, rfl, .inr ⟨b, p, la, lg, x, a, g, rfl, hW, gw, na ob gw⟩⟩
    case a1 =>
      rintro σ H' ⟨rfl, rfl, ob, gw⟩ D n r
      exact ⟨_, rfl, p, _, _, _, rfl, rfl, hW.t, rfl, n _ _ ⟨rfl, rfl, ob, gw⟩⟩
    case a2 =>
      rintro σ H' ⟨rfl, rfl, ob, gw⟩ D n r
      exact ⟨_, rfl, p, _, _, _, rfl, rfl, hW.t, rfl, n _ _ ⟨rfl, rfl, ob, gw⟩⟩
    case a3 =>
      rintro σ H' ⟨rfl, rfl, ob, gw⟩ D n r
      exact ⟨_, rfl, _, rfl, b, la, a, rfl, hW.a, ob.1, ob.2, n _ _ ⟨rfl, rfl, ob, gw⟩⟩
    case a4 =>
      rintro σ H' ⟨rfl, rfl, ob, gw⟩ D n r
      have hla := gw.la
      refine ⟨_, rfl, _, rfl, la, _, rfl, .inl hW.a, b, _, rfl, ob.1, ob.2, by omega, by rw [List.length_map]; omega, n _ _ ⟨?_, rfl, ob, gw⟩⟩
      rw [List.length_map, Int.toNat_natCast]; rfl
    case a5 =>
      rintro σ H' ⟨rfl, rfl, ob, gw⟩ D n r
      obtain ⟨b2, b36⟩ := id ob
      have hla := gw.la
      have hlg := gw.lg
      refine ⟨_, rfl, (show 0 ≤ sizeLine by decide), fun l hl => ⟨lg, l, g, [], rfl, rfl, (Same.upd hl).seq hW.g, SqL.of upd_same, _, rfl, ite2N (fun hne => ?_) (fun he => n _ _ ⟨none, ?_, Same.upd hl, ob, gw⟩)⟩⟩
      · have hg' := (Same.upd (o := .lst []) hl).seq hW.g
        have eM := RF.rM_ne b hne
        have mM : (RF.rM b g).natAbs ≤ 2 ^ (6 * (a.length + g.length)) := by
          have h1 := RF.rM_le b2 g
          have h2 := RF.rM_pos b2 g
          have h3 := RF.pow_lt (b := b) (by omega) b36 g.length
          exact Nat.le_trans (show (RF.rM b g).natAbs ≤ (b ^ g.length).natAbs by omega) (Nat.le_trans h3 (Nat.pow_le_pow_right (by decide) (by omega)))
        have mA : (b ^ a.length).natAbs ≤ 2 ^ (6 * a.length) := RF.pow_lt (by omega) b36 _
        have mN : (RF.num b a).natAbs ≤ 2 ^ (6 * a.length) := by
          have := RF.num_bd (b := b) (by omega) gw.fa
          omega
        refine md (fun σ H2 => σ = [some (.int b), some (.ref p), some (.ref la), some (.ref lg), some (.int (RF.num b a)), some (.int (b ^ a.length)), some (.int (RF.rM b g)), none] ∧ H2 = upd H' l (.lst [])) ?b1
          (mr (fun σ H2 => σ = [some (.int b), some (.ref p), some (.ref la), some (.ref lg), some (.int (RF.num b a * RF.rM b g + RF.num b g)), some (.int (b ^ a.length)), some (.int (RF.rM b g)), none] ∧ H2 = upd H' l (.lst [])) ?b2 ?b3)
        case b1 =>
          intro D1 n1 r1
          refine ⟨_, rfl, _, rfl, lg, _, rfl, .inl hg', b, _, rfl, b2, b36, by omega, by rw [List.length_map]; omega, _, _, rfl, rfl, n1 _ _ ⟨?_, rfl⟩⟩
          rw [List.length_map, Int.toNat_natCast, eM]; rfl
        case b2 =>
          rintro σ H2 ⟨rfl, rfl⟩ D1 n1 r1
          exact ⟨_, rfl, _, rfl, _, _, rfl, rfl, mulOk_worth (a := a) (g := g) b2 b36 hla hlg mN (by omega) _ mM, _, rfl, _, rfl, b, lg, g, rfl, hg', b2, b36, _, _, rfl, rfl, n1 _ _ ⟨rfl, rfl⟩⟩
        case b3 =>
          rintro σ H2 ⟨rfl, rfl⟩
          exact ⟨_, rfl, _, rfl, _, _, rfl, rfl, mulOk_worth (a := a) (g := g) b2 b36 hla hlg mA (by omega) _ mM, n _ _ ⟨_, rfl, Same.upd hl, ob, gw⟩⟩
      · have eB : b ^ a.length = RF.wB b a g := by rw [he]; simp [RF.wB, RF.rM]
        have eN : RF.num b a = RF.num b a * RF.rM b g + RF.num b g := by rw [he]; simp [RF.rM, RF.num_nil]
        rw [← eB, ← eN]
    case a6 =>
      rintro σ H' ⟨v, rfl, s, ob, gw⟩ D n r
      exact ⟨_, rfl, _, rfl, _, _, rfl, (RF.wN_bd ob.1 gw.fa gw.fg).1, Int.le_of_lt (RF.wB_pos ob.1 a g), n _ _ ⟨v, rfl, s, ob, gw⟩⟩
    case a7 =>
      rintro σ H' ⟨v, rfl, s1, ob, gw⟩
      obtain ⟨hd, k⟩ := ok ob gw
      have hB := RF.wB_pos ob.1 a g
      have hle := RF.wB_le ob.1 ob.2 a g
      have g0 : 0 < Int.gcd (RF.num b a * RF.rM b g + RF.num b g) (RF.wB b a g) := Int.gcd_pos_of_ne_zero_right _ (by omega)
      have hlow := RF.low_add (W := x) (N := RF.num b a * RF.rM b g + RF.num b g) hB
      have mx : ∀ y : Int, y.natAbs ≤ (RF.wB b a g).natAbs → IntMulOk x y := fun y hy =>
        mulOk_worth (a := a) (g := g) (n := 64) ob.1 ob.2 gw.la gw.lg (show x.natAbs ≤ 2 ^ 64 by have := gw.w0; have := gw.w1; omega) (by omega) y (Nat.le_trans hy hle)
      have dB : (RF.wB b a g / (Int.gcd (RF.num b a * RF.rM b g + RF.num b g) (RF.wB b a g) : Nat)).natAbs ≤ (RF.wB b a g).natAbs := by
        have h1 := Int.ediv_le_self (b := (Int.gcd (RF.num b a * RF.rM b g + RF.num b g) (RF.wB b a g) : Nat)) (Int.le_of_lt hB)
        have h2 := Int.ediv_nonneg (b := (Int.gcd (RF.num b a * RF.rM b g + RF.num b g) (RF.wB b a g) : Nat)) (Int.le_of_lt hB) (by omega)
        omega
      have gp : (0 : Int) < ((Int.gcd (RF.num b a * RF.rM b g + RF.num b g) (RF.wB b a g) : Nat) : Int) := by omega
      refine ⟨_, rfl, p, _, _, _, rfl, rfl, s1.tup hW.t, rfl, _, rfl, _, rfl, _, _, rfl, rfl, ⟨gp, hd.1⟩, _, _, rfl, rfl, mx _ dB, _, rfl, _, rfl, _, _, rfl, rfl, ⟨gp, hd.2⟩, _, _, rfl, rfl, _, rfl, _, rfl, _, _, rfl, rfl, ⟨gp, hd.1⟩, (show 2 ≤ sizeLine by decide), fun p' hp' => ?_⟩
      exact k p' _ (s1.trans (Same.upd hp')) (s1.free hp') (by rw [upd_same, show RF.wT b x a g = x * RF.wB b a g + (RF.num b a * RF.rM b g + RF.num b g) from rfl, hlow])
theorem got_shortest_ring (T : Txt K mg) : Got P w K mg base "shortest_ring" 1 ["ring"] (spShortestW K) := by
  refine T.d_shortest_ring.got sc_shortest_ring (fun vs H Q E h => ?_) (fun f cdv A outer s H vs Q E hr h => ?_)
  · obtain ⟨l, ns, rfl, _⟩ := h; rfl
  · obtain ⟨l, ns, rfl, hS, hl, k⟩ := h
    refine ⟨_, (pss_mid (ps_for PassesOwn.never rfl (pi_range2 rfl T.b_range (pa_k pe_int (pa_c (pe_callB call_len_seq rfl T.b_len PySem.boot_len (pa_n (pv 0) pa_nil)) pa_nil))) (pg_name (i := 1) sc_shortest_ring.nd rfl (Or.inl rfl)) (pss_one (ps_if (PW.pt (pw_and (pt_cmpR op_eq (pe_op op_mod (pe_callB call_len_seq rfl T.b_len PySem.boot_len (pa_n (pv 0) pa_nil)) (pv 1)) pe_int (nomark _)) (pw_and1 (pt_cmpR (op_eqL hr.units) (pe_op op_rep (pe_slice sl_list (pv 0) po_none (po_some (pv 1))) (pe_op op_fdiv (pe_callB call_len_seq rfl T.b_len PySem.boot_len (pa_n (pv 0) pa_nil)) (pv 1))) (pv 0) (nomark _))))) (pss_one (ps_ret (pe_slice sl_list (pv 0) po_none (po_some (pv 1))))) pss_nil)))
      (pss_one (ps_ret (pe_callTy call_list_of rfl T.b_list PyProof.Rows.boot_list (pa_n (pv 0) pa_nil))))), ?_⟩
    refine md (fun σ H' => ∃ v, σ = [some (.ref l), v] ∧ Same H H') ?a1 ?a2
    case a1 =>
      intro D n r
      refine ⟨_, rfl, l, _, rfl, .inl hS, 1, _, rfl, ⟨by decide, by decide, by omega, by rw [List.length_map]; omega⟩, ?_⟩
      rw [List.length_map]
      refine for_range (lo := 1) (n := ((ns.length : Int) - 1).toNat) (fun i σ H2 => ∃ v, σ = [some (.ref l), v] ∧ Same H H2) ⟨_, rfl, Same.refl H⟩ ?_ (fun σ H2 ⟨v, e, s⟩ => n _ _ ⟨v, e, s⟩)
      rintro i σ H2 hi ⟨v, rfl, s2⟩
      rw [show (1 : Int) + (i : Int) = ((i + 1 : Nat) : Int) by omega]
      have hS2 := s2.seq hS
      refine ⟨_, rfl, l, _, rfl, .inl hS2, _, rfl, _, _, rfl, rfl, (show (0 : Int) < ((i + 1 : Nat) : Int) by omega), rfl, _, rfl, ite2D (fun hm => ?_) (fun hm => iteF ⟨_, rfl, s2⟩)⟩
      have hdv : ns.length / (i + 1) * (i + 1) ≤ ns.length := Nat.div_mul_le_self _ _
      refine ⟨_, rfl, _, rfl, _, rfl, l, _, rfl, hS2, fun l1 h1 => ?_⟩
      have s3 := s2.trans (Same.upd (o := .lst (cutV (ns.map V.int) none (some ((i + 1 : Nat) : Int)))) h1)
      refine ⟨_, rfl, l, _, rfl, .inl (s3.seq hS), _, rfl, _, _, rfl, rfl, ⟨by omega, by omega⟩, ?_⟩
      dsimp only
      rw [List.length_map, ← Int.natCast_ediv]
      have hc0 : (0 : Int) ≤ ((ns.length / (i + 1) : Nat) : Int) := Int.natCast_nonneg _
      have hdl := Nat.div_le_self ns.length (i + 1)
      refine ⟨l1, ((ns.length / (i + 1) : Nat) : Int), _, rfl, rfl, upd_same, by omega, by omega, ?_, fun l2 h2 => ?_⟩
      · rw [cut_take (by omega), List.length_map, List.length_take, Int.toNat_natCast, Nat.min_eq_left (by omega), Nat.mul_comm]
        exact Nat.le_of_lt (size2000 (by omega))
      have s4 := s3.trans (Same.upd (o := .lst (List.replicate (((ns.length / (i + 1) : Nat) : Int)).toNat (cutV (ns.map V.int) none (some ((i + 1 : Nat) : Int)))).flatten) h2)
      refine ⟨_, rfl, l2, l, RF.rep (ns.length / (i + 1)) (ns.take (i + 1)), ns, rfl, rfl, SqL.of ?_, s4.seq hS, _, rfl, ite2D (fun he => ?_) (fun he => ⟨_, rfl, s4⟩)⟩
      · rw [upd_same, cut_take (by omega), Int.toNat_natCast, map_rep]
      · refine ⟨_, rfl, _, rfl, _, rfl, l, _, rfl, s4.seq hS, fun l3 h3 => r _ _ ?_⟩
        refine k l3 (ns.take (i + 1)) _ (by rw [List.length_take]; omega) (s4.trans (Same.upd h3)) ?_
        rw [upd_same, cut_take (by omega)]
    case a2 =>
      rintro σ H2 ⟨v, rfl, s2⟩
      refine ⟨_, rfl, l, _, rfl, .inl (s2.seq hS), fun l3 h3 => ?_⟩
      exact k l3 ns _ (Nat.le_refl _) (s2.trans (Same.upd h3)) upd_same
theorem got_without_last (T : Txt K mg) : Got P w K mg base "without_last" 1 ["figures", "figure"] (spWithoutLastW K) := by
  refine T.d_without_last.got sc_without_last (fun vs H Q E h => ?_) (fun f cdv A outer s H vs Q E hr h => ?_)
  · obtain ⟨l, ns, z, rfl, _⟩ := h; rfl
  · obtain ⟨l, ns, z, rfl, hS, k⟩ := h
    refine ⟨_, (pss_mid (ps_set (i := 2) sc_without_last.nd rfl (Or.inl rfl) (pe_callB call_len_seq rfl T.b_len PySem.boot_len (pa_n (pv 0) pa_nil)))
      (pss_mid (ps_while PassesOwn.never (PW.pt (pw_and (pt_cmpR op_gt (pv 2) pe_int (nomark _)) (pw_and1 (pt_cmpR op_eq (pe_ix ix_list (pv 0) (pe_op op_sub (pv 2) pe_int) px_b) (pv 1) (nomark _))))) (pss_one (ps_set (i := 2) sc_without_last.nd rfl (Or.inl rfl) (pe_op op_sub (pv 2) pe_int))))
      (pss_one (ps_ret (pe_slice sl_list (pv 0) po_none (po_some (pv 2))))))), ?_⟩
    refine md (fun σ H' => ∃ m : Nat, m ≤ ns.length ∧ σ = [some (.ref l), some (.int z), some (.int (m : Int))] ∧ H' = H) ?a1
      (mr (fun σ H' => ∃ m : Nat, m ≤ ns.length ∧ σ = [some (.ref l), some (.int z), some (.int (m : Int))] ∧ H' = H) ?a2 ?a3)
    case a1 =>
      intro D n r
      refine ⟨_, rfl, l, _, rfl, .inl hS, n _ _ ⟨ns.length, Nat.le_refl _, ?_, rfl⟩⟩
      rw [List.length_map]; rfl
    case a2 =>
      rintro σ H' ⟨m, hm, rfl, rfl⟩ D n r
      refine ⟨fun m σ H2 => m ≤ ns.length ∧ σ = [some (.ref l), some (.int z), some (.int (m : Int))] ∧ H2 = H', ⟨m, hm, rfl, rfl⟩, ?_⟩
      rintro m σ H2 ⟨hm, rfl, rfl⟩
      refine ⟨_, rfl, _, _, rfl, rfl, _, rfl, ite2D (fun h0 => ?_) (fun h0 => iteF (n _ _ ⟨m, hm, rfl, rfl⟩))⟩
      refine ⟨_, rfl, _, rfl, _, _, rfl, rfl, l, _, _, _, rfl, rfl, hS, atI_int (by omega) (by omega), _, rfl, rfl, _, rfl, ite2D (fun hz => ?_) (fun hz => n _ _ ⟨m, hm, rfl, rfl⟩)⟩
      refine ⟨fun σ' H3 => σ' = [some (.ref l), some (.int z), some (.int ((m - 1 : Nat) : Int))] ∧ H3 = H2, ?_, ?_⟩
      · rintro σ' H3 ⟨rfl, rfl⟩
        exact ⟨m - 1, by omega, by omega, rfl, rfl⟩
      · refine ⟨_, rfl, _, _, rfl, rfl, ?_, rfl⟩
        rw [show ((m - 1 : Nat) : Int) = (m : Int) - 1 by omega]; rfl
    case a3 =>
      rintro σ H' ⟨m, hm, rfl, rfl⟩
      refine ⟨_, rfl, _, rfl, _, rfl, l, _, rfl, hS, fun l' h' => ?_⟩
      rw [cut_take hm]
      exact k l' (ns.take m) _ (by rw [List.length_take]; omega) (Same.upd h') upd_same
theorem got_rounded_up (T : Txt K mg) : Got P w K mg base "rounded_up" 2 ["base", "whole", "ahead"] (spRoundedUpW K) := by
  refine T.d_rounded_up.got sc_rounded_up (fun vs H Q E h => ?_) (fun f cdv A outer s H vs Q E hr h => ?_)
  · obtain ⟨b, x, l, a, rfl, _⟩ := h; rfl
  · obtain ⟨b, x, l, a, rfl, hS, hl, k⟩ := h
    refine ⟨_, (pss_mid (ps_set (i := 3) sc_rounded_up.nd rfl (Or.inl rfl) (pe_callG (got_without_last T) (hr.mono (by decide)) rfl (pa_n (pv 2) (pa_b (pe_op op_sub (pv 0) pe_int) pa_nil))))
      (pss_mid (ps_if (pt_cmpR (op_eqL hr.units) (pv 3) (pe_lst pa_nil) (nomark _)) (pss_one (ps_ret (pe_tup (pa_b (pe_op op_add (pv 1) pe_int) (pa_l (pe_lst pa_nil) (pa_l (pe_lst pa_nil) pa_nil)))))) pss_nil)
      (pss_one (ps_ret (pe_tup (pa_n (pv 1) (pa_b (pe_op op_cat (pe_slice sl_list (pv 3) po_none (po_some (pe_un un_neg pe_int))) (pe_lst (pa_b (pe_op op_add (pe_ix ix_list (pv 3) (pe_un un_neg pe_int) px_u) pe_int) pa_nil))) (pa_l (pe_lst pa_nil) pa_nil)))))))), ?_⟩
    refine md (fun σ H' => ∃ (l1 : Addr) (a' : List Int), a'.length ≤ 4000 ∧ H' l1 = some (.lst (a'.map V.int)) ∧ σ = [some (.int b), some (.int x), some (.ref l), some (.ref l1)] ∧ Same H H') ?a1
      (mr (fun σ H' => ∃ (l1 : Addr) (q : List Int) (y : Int), q.length ≤ 4000 ∧ H' l1 = some (.lst ((q ++ [y]).map V.int)) ∧ σ = [some (.int b), some (.int x), some (.ref l), some (.ref l1)] ∧ Same H H') ?a2 ?a3)
    case a1 =>
      intro D n r
      exact ⟨_, rfl, _, rfl, _, _, rfl, rfl, l, a, _, rfl, hS, fun l1 a' H' la s1 h1 => n _ _ ⟨l1, a', by omega, h1, rfl, s1⟩⟩
    case a2 =>
      rintro σ H' ⟨l1, a', la, h1, rfl, s1⟩ D n r
      refine ⟨_, rfl, (show 0 ≤ sizeLine by decide), fun l2 h2 => ⟨l1, l2, a', [], rfl, rfl, (Same.upd h2).seq (SqL.of h1), SqL.of upd_same, _, rfl, ite2D (fun he => ?_) (fun he => ?_)⟩⟩
      · exact ⟨_, rfl, _, _, rfl, rfl, (show 0 ≤ sizeLine by decide), fun l3 h3 => ⟨(show 0 ≤ sizeLine by decide), fun l4 h4 => ⟨(show 3 ≤ sizeLine by decide), fun p hp => r _ _ (k _ _ ((((s1.trans (Same.upd h2)).trans (Same.upd h3)).trans (Same.upd h4)).trans (Same.upd hp)))⟩⟩⟩
      · rcases List.eq_nil_or_concat a' with e | ⟨q, y, e⟩
        · exact absurd e he
        · rw [List.concat_eq_append] at e
          subst e
          exact n _ _ ⟨l1, q, y, by rw [List.length_append] at la; omega, Same.upd h2 _ _ h1, rfl, s1.trans (Same.upd h2)⟩
    case a3 =>
      rintro σ H' ⟨l1, q, y, hq, h1, rfl, s1⟩
      refine ⟨_, rfl, _, rfl, _, rfl, _, rfl, l1, _, rfl, SqL.of h1, fun l3 h3 => ?_⟩
      refine ⟨_, rfl, _, rfl, l1, _, _, _, rfl, rfl, SqL.of (Same.upd h3 _ _ h1), (show atI ((q ++ [y]).map V.int) (-1) = some (.int y) by rw [List.map_append]; exact atI_last _ _), _, _, rfl, rfl, (show 1 ≤ sizeLine by decide), fun l4 h4 => ?_⟩
      refine ⟨l3, l4, _, _, rfl, rfl, Same.upd h4 _ _ upd_same, upd_same, ?_, fun l5 h5 => ⟨(show 0 ≤ sizeLine by decide), fun l6 h6 => ⟨(show 3 ≤ sizeLine by decide), fun p hp => k _ _ ?_⟩⟩⟩
      · rw [cut_last, List.length_map]
        exact Nat.le_of_lt (size2000 (by simp; omega))
      · exact (((((s1.trans (Same.upd h3)).trans (Same.upd h4)).trans (Same.upd h5)).trans (Same.upd h6)).trans (Same.upd hp))
theorem got_drawn_into_ring (T : Txt K mg) : Got P w K mg base "drawn_into_ring" 1 ["whole", "ahead", "ring"] (spDrawnW K) := by
  refine T.d_drawn_into_ring.got sc_drawn_into_ring (fun vs H Q E h => ?_) (fun f cdv A outer s H vs Q E hr h => ?_)
  · obtain ⟨x, la, lh, a, h, rfl, _⟩ := h; rfl
  · obtain ⟨x, la, lh, a, h, rfl, hA, hH, hne, l1, l2, k⟩ := h
    have hm : 0 < h.length := List.length_pos_iff.mpr hne
    have hmI : (0 : Int) < (h.length : Int) := Int.ofNat_lt.mpr hm
    refine ⟨_, (pss_mid (ps_set (i := 3) sc_drawn_into_ring.nd rfl (Or.inl rfl) (pe_callB call_len_seq rfl T.b_len PySem.boot_len (pa_n (pv 2) pa_nil)))
      (pss_mid (ps_set (i := 4) sc_drawn_into_ring.nd rfl (Or.inl rfl) pe_int)
      (pss_mid (ps_while PassesOwn.never (PW.pt (pw_and (pt_cmpR op_lt (pv 4) (pe_callB call_len_seq rfl T.b_len PySem.boot_len (pa_n (pv 1) pa_nil)) (nomark _)) (pw_and1 (pt_cmpR op_eq (pe_ix ix_list (pv 1) (pe_op op_sub (pe_un un_neg pe_int) (pv 4)) px_b) (pe_ix ix_list (pv 2) (pe_op op_sub (pe_un un_neg pe_int) (pe_op op_mod (pv 4) (pv 3))) px_b) (nomark _))))) (pss_one (ps_set (i := 4) sc_drawn_into_ring.nd rfl (Or.inl rfl) (pe_op op_add (pv 4) pe_int))))
      (pss_mid (ps_set (i := 5) sc_drawn_into_ring.nd rfl (Or.inl rfl) (pe_op op_sub (pv 3) (pe_op op_mod (pv 4) (pv 3))))
      (pss_one (ps_ret (pe_tup (pa_n (pv 0) (pa_s (pe_slice sl_list (pv 1) po_none (po_some (pe_op op_sub (pe_callB call_len_seq rfl T.b_len PySem.boot_len (pa_n (pv 1) pa_nil)) (pv 4)))) (pa_b (pe_op op_cat (pe_slice sl_list (pv 2) (po_some (pv 5)) po_none) (pe_slice sl_list (pv 2) po_none (po_some (pv 5)))) pa_nil)))))))))), ?_⟩
    refine md (fun σ H' => σ = [some (.int x), some (.ref la), some (.ref lh), some (.int (h.length : Int)), none, none] ∧ H' = H) ?a1
      (mr (fun σ H' => ∃ u : Nat, u ≤ a.length ∧ σ = [some (.int x), some (.ref la), some (.ref lh), some (.int (h.length : Int)), some (.int (u : Int)), none] ∧ H' = H) ?a2
      (mr (fun σ H' => ∃ u : Nat, u ≤ a.length ∧ σ = [some (.int x), some (.ref la), some (.ref lh), some (.int (h.length : Int)), some (.int (u : Int)), none] ∧ H' = H) ?a3
      (mr (fun σ H' => ∃ u c : Int, σ = [some (.int x), some (.ref la), some (.ref lh), some (.int (h.length : Int)), some (.int u), some (.int c)] ∧ H' = H) ?a4 ?a5)))
    case a1 =>
      intro D n r
      refine ⟨_, rfl, lh, _, rfl, .inl hH, n _ _ ⟨?_, rfl⟩⟩
      rw [List.length_map]; rfl
    case a2 =>
      rintro σ H' ⟨rfl, rfl⟩ D n r
      exact n _ _ ⟨0, Nat.zero_le _, rfl, rfl⟩
    case a3 =>
      rintro σ H' ⟨u, hu, rfl, rfl⟩ D n r
      refine ⟨fun m σ H2 => ∃ u : Nat, m + u = a.length ∧ σ = [some (.int x), some (.ref la), some (.ref lh), some (.int (h.length : Int)), some (.int (u : Int)), none] ∧ H2 = H', ⟨a.length - u, u, Nat.sub_add_cancel hu, rfl, rfl⟩, ?_⟩
      rintro m σ H2 ⟨u, hmu, rfl, rfl⟩
      refine ⟨_, rfl, _, rfl, la, _, rfl, .inl hA, _, _, rfl, rfl, _, rfl, ?_⟩
      rw [List.length_map]
      refine ite2D (fun h0 => ?_) (fun h0 => iteF (n _ _ ⟨u, le_of_sum hmu, rfl, rfl⟩))
      have hl : u < a.length := Int.ofNat_lt.mp h0
      obtain ⟨y, ey⟩ := back_at hl
      refine ⟨_, rfl, _, rfl, _, rfl, _, _, rfl, rfl, la, _, _, _, rfl, rfl, hA, ey, ?_⟩
      obtain ⟨z, ez⟩ := back_mod (u := u) hm
      refine ⟨_, rfl, _, rfl, _, rfl, _, rfl, _, _, rfl, rfl, hmI, _, _, rfl, rfl, lh, _, _, _, rfl, rfl, hH, ez, rfl, _, rfl, ite2D (fun hz => ?_) (fun hz => n _ _ ⟨u, le_of_sum hmu, rfl, rfl⟩)⟩
      refine ⟨fun σ' H3 => σ' = [some (.int x), some (.ref la), some (.ref lh), some (.int (h.length : Int)), some (.int ((u + 1 : Nat) : Int)), none] ∧ H3 = H2, ?_, ?_⟩
      · rintro σ' H3 ⟨rfl, rfl⟩
        exact ⟨m - 1, (one_less hmu hl).1, u + 1, (one_less hmu hl).2, rfl, rfl⟩
      · refine ⟨_, rfl, _, _, rfl, rfl, ?_, rfl⟩
        rw [show ((u + 1 : Nat) : Int) = (u : Int) + 1 from rfl]; rfl
    case a4 =>
      rintro σ H' ⟨u, hu, rfl, rfl⟩ D n r
      exact ⟨_, rfl, _, rfl, _, rfl, _, _, rfl, rfl, hmI, _, _, rfl, rfl, n _ _ ⟨_, _, rfl, rfl⟩⟩
    case a5 =>
      rintro σ H' ⟨u, c, rfl, rfl⟩
      refine ⟨_, rfl, _, rfl, _, rfl, la, _, rfl, .inl hA, _, rfl, _, _, rfl, rfl, _, rfl, la, _, rfl, hA, fun l3 h3 => ?_⟩
      obtain ⟨c1, e1, _, q1⟩ := cut_ex h (some c) none
      obtain ⟨c2, e2, _, q2⟩ := cut_ex h none (some c)
      refine ⟨_, rfl, _, rfl, _, rfl, lh, _, rfl, (Same.upd h3).seq hH, fun l4 h4 => ?_⟩
      refine ⟨_, rfl, _, rfl, _, rfl, lh, _, rfl, ((Same.upd h3).trans (Same.upd h4)).seq hH, fun l5 h5 => ?_⟩
      refine ⟨l4, l5, _, _, rfl, rfl, Same.upd h5 _ _ upd_same, upd_same, ?_, fun l6 h6 => ⟨(show 3 ≤ sizeLine by decide), fun p hp => ?_⟩⟩
      · rw [e1, e2]
        exact sz2 (Nat.le_trans q1 l2) (Nat.le_trans q2 l2) (by decide)
      · exact k _ _ (((((Same.upd h3).trans (Same.upd h4)).trans (Same.upd h5)).trans (Same.upd h6)).trans (Same.upd hp))
theorem gotE_plain (T : Txt K mg) : GotE P w K mg base "plain" 3 ["base", "writing"] (spWrW K mg) := by
  refine T.d_plain.gotE sc_plain (fun vs H Q E h => ?_) (fun f cdv A outer s H vs Q E hr h => ?_)
  · obtain ⟨b, p, la, lg, x, a, g, rfl, _⟩ := h; rfl
  · obtain ⟨b, p, la, lg, x, a, g, rfl, hW, o⟩ := h
    refine ⟨_, (pss_mid (ps_expr (pe_callE (gotE_check_base T) (hr.mono (by decide)) rfl (pa_n (pv 0) pa_nil)))
      (pss_mid (ps_expr (pe_callE (gotE_check_writing T) (hr.mono (by decide)) rfl (pa_n (pv 0) (pa_n (pv 1) pa_nil))))
      (pss_mid (ps_set (i := 2) sc_plain.nd rfl (Or.inl rfl) (pe_ix ix_tup (pv 1) pe_int px_k))
      (pss_mid (ps_set (i := 3) sc_plain.nd rfl (Or.inl rfl) (pe_ix ix_tup (pv 1) pe_int px_k))
      (pss_mid (ps_set (i := 4) sc_plain.nd rfl (Or.inl rfl) (pe_callG (got_shortest_ring T) (hr.mono (by decide)) rfl (pa_s (pe_ix ix_tup (pv 1) pe_int px_k) pa_nil)))
      (pss_mid (ps_if (pt_cmpR (op_eqL hr.units) (pv 4) (pe_lst (pa_b (pe_op op_sub (pv 0) pe_int) pa_nil)) (nomark _)) (pss_one (ps_ret (pe_callG (got_rounded_up T) (hr.mono (by decide)) rfl (pa_n (pv 0) (pa_n (pv 2) (pa_n (pv 3) pa_nil)))))) pss_nil)
      (pss_mid (ps_if (PW.pt (pw_or (pt_cmpR (op_eqL hr.units) (pv 4) (pe_lst pa_nil) (nomark _)) (pw_or1 (pt_cmpR (op_eqL hr.units) (pv 4) (pe_lst (pa_k pe_int pa_nil)) (nomark _))))) (pss_one (ps_ret (pe_tup (pa_n (pv 2) (pa_c (pe_callG (got_without_last T) (hr.mono (by decide)) rfl (pa_n (pv 3) (pa_k pe_int pa_nil))) (pa_l (pe_lst pa_nil) pa_nil)))))) pss_nil)
      (pss_one (ps_ret (pe_callG (got_drawn_into_ring T) (hr.mono (by decide)) rfl (pa_n (pv 2) (pa_n (pv 3) (pa_n (pv 4) pa_nil))))))))))))), ?_⟩
    refine md (fun σ H' => σ = [some (.int b), some (.ref p), none, none, none] ∧ H' = H ∧ BaseOk b) ?c1 (mr (fun σ H' => σ = [some (.int b), some (.ref p), none, none, none] ∧ H' = H ∧ BaseOk b ∧ GoodW b x a g) ?c2 
      (mr (fun σ H' => σ = [some (.int b), some (.ref p), some (.int x), none, none] ∧ H' = H ∧ BaseOk b ∧ GoodW b x a g) ?a3
      (mr (fun σ H' => σ = [some (.int b), some (.ref p), some (.int x), some (.ref la), none] ∧ H' = H ∧ BaseOk b ∧ GoodW b x a g) ?a4
      (mr (fun σ H' => ∃ (l1 : Addr) (h : List Int), h.length ≤ 4000 ∧ H' l1 = some (.lst (h.map V.int)) ∧ σ = [some (.int b), some (.ref p), some (.int x), some (.ref la), some (.ref l1)] ∧ Same H H' ∧ BaseOk b ∧ GoodW b x a g) ?a5
      (mr (fun σ H' => ∃ (l1 : Addr) (h : List Int), h.length ≤ 4000 ∧ H' l1 = some (.lst (h.map V.int)) ∧ σ = [some (.int b), some (.ref p), some (.int x), some (.ref la), some (.ref l1)] ∧ Same H H' ∧ BaseOk b ∧ GoodW b x a g) ?a6
      (mr (fun σ H' => ∃ (l1 : Addr) (h : List Int), h.length ≤ 4000 ∧ h ≠ [] ∧ H' l1 = some (.lst (h.map V.int)) ∧ σ = [some (.int b), some (.ref p), some (.int x), some (.ref la), some (.ref l1)] ∧ Same H H' ∧ BaseOk b ∧ GoodW b x a g) ?a7 ?a8))))))
    case c1 =>
      intro D n r
      by_cases ob : BaseOk b
      · exact ⟨_, rfl, .inl ⟨b, rfl, ob.1, ob.2, n _ _ ⟨rfl, rfl, ob⟩⟩⟩
      · exact ⟨_, rfl, .inr ⟨b, rfl, ob, o.nb ob⟩⟩
    case c2 =>
      rintro σ H' ⟨rfl, rfl, ob⟩ D n r
      by_cases gw : GoodW b x a g
      · exact ⟨_, rfl, _, rfl, .inl ⟨b, p, la, lg, x, a, g, rfl, hW, gw, n _ _ ⟨rfl, rfl, ob, gw⟩⟩⟩
      · exact ⟨_, rfl, _, rfl, .inr ⟨b, p, la, lg, x, a, g, rfl, hW, gw, o.na ob gw⟩⟩
    case a3 =>
      rintro σ H' ⟨rfl, rfl, ob, gw⟩ D n r
      exact ⟨_, rfl, p, _, _, _, rfl, rfl, hW.t, rfl, n _ _ ⟨rfl, rfl, ob, gw⟩⟩
    case a4 =>
      rintro σ H' ⟨rfl, rfl, ob, gw⟩ D n r
      exact ⟨_, rfl, p, _, _, _, rfl, rfl, hW.t, rfl, n _ _ ⟨rfl, rfl, ob, gw⟩⟩
    case a5 =>
      rintro σ H' ⟨rfl, rfl, ob, gw⟩ D n r
      exact ⟨_, rfl, p, _, _, _, rfl, rfl, hW.t, rfl, lg, g, rfl, hW.g, gw.lg, fun l1 h H1 hl s1 h1 => n _ _ ⟨l1, h, Nat.le_trans hl gw.lg, h1, rfl, s1, ob, gw⟩⟩
    case a6 =>
      rintro σ H' ⟨l1, h, lh, h1, rfl, s1, ob, gw⟩ D n r
      refine ⟨_, rfl, _, rfl, _, _, rfl, rfl, (show 1 ≤ sizeLine by decide), fun l2 h2 => ⟨l1, l2, h, [b - 1], rfl, rfl, (Same.upd h2).seq (SqL.of h1), SqL.of upd_same, _, rfl, ite2D (fun e1 => ?_) (fun e1 => n _ _ ⟨l1, h, lh, Same.upd h2 _ _ h1, rfl, s1.trans (Same.upd h2), ob, gw⟩)⟩⟩
      exact ⟨_, rfl, _, rfl, _, rfl, b, x, la, a, rfl, (s1.trans (Same.upd h2)).seq hW.a, gw.la, fun v H2 s2 => r _ _ (o.ok ob gw _ _ ((s1.trans (Same.upd h2)).trans s2))⟩
    case a7 =>
      rintro σ H' ⟨l1, h, lh, h1, rfl, s1, ob, gw⟩ D n r
      refine ⟨_, rfl, (show 0 ≤ sizeLine by decide), fun l3 h3 => ⟨l1, l3, h, [], rfl, rfl, (Same.upd h3).seq (SqL.of h1), SqL.of upd_same, _, rfl, ite2D (fun e2 => iteT ?_) (fun e2 => ?_)⟩⟩
      · exact ⟨_, rfl, _, rfl, la, a, 0, rfl, (s1.trans (Same.upd h3)).seq hW.a, fun l5 a' H5 _ s5 _ => ⟨(show 0 ≤ sizeLine by decide), fun l6 h6 => ⟨(show 3 ≤ sizeLine by decide), fun p' hp => r _ _ (o.ok ob gw _ _ ((((s1.trans (Same.upd h3)).trans s5).trans (Same.upd h6)).trans (Same.upd hp)))⟩⟩⟩
      · have s3 := s1.trans (Same.upd (o := .lst []) h3)
        refine ⟨_, rfl, (show 1 ≤ sizeLine by decide), fun l4 h4 => ⟨l1, l4, h, [0], rfl, rfl, (Same.upd h4).seq (SqL.of (Same.upd h3 _ _ h1)), SqL.of upd_same, _, rfl, ite2D (fun e3 => ?_) (fun e3 => n _ _ ⟨l1, h, lh, e2, Same.upd h4 _ _ (Same.upd h3 _ _ h1), rfl, s3.trans (Same.upd h4), ob, gw⟩)⟩⟩
        exact ⟨_, rfl, _, rfl, la, a, 0, rfl, (s3.trans (Same.upd h4)).seq hW.a, fun l5 a' H5 _ s5 _ => ⟨(show 0 ≤ sizeLine by decide), fun l6 h6 => ⟨(show 3 ≤ sizeLine by decide), fun p' hp => r _ _ (o.ok ob gw _ _ ((((s3.trans (Same.upd h4)).trans s5).trans (Same.upd h6)).trans (Same.upd hp)))⟩⟩⟩
    case a8 =>
      rintro σ H' ⟨l1, h, lh, hne, h1, rfl, s1, ob, gw⟩
      exact ⟨_, rfl, _, rfl, _, rfl, x, la, l1, a, h, rfl, s1.seq hW.a, SqL.of h1, hne, gw.la, lh, fun v H2 s2 => o.ok ob gw _ _ (s1.trans s2)⟩
theorem gotE_is_plain (T : Txt K mg) : GotE P w K mg base "is_plain" 3 ["base", "writing"] (spWrW K mg) := by
  refine T.d_is_plain.gotE sc_is_plain (fun vs H Q E h => ?_) (fun f cdv A outer s H vs Q E hr h => ?_)
  · obtain ⟨b, p, la, lg, x, a, g, rfl, _⟩ := h; rfl
  · obtain ⟨b, p, la, lg, x, a, g, rfl, hW, o⟩ := h
    refine ⟨_, (pss_mid (ps_expr (pe_callE (gotE_check_base T) (hr.mono (by decide)) rfl (pa_n (pv 0) pa_nil)))
      (pss_mid (ps_expr (pe_callE (gotE_check_writing T) (hr.mono (by decide)) rfl (pa_n (pv 0) (pa_n (pv 1) pa_nil))))
      (pss_mid (ps_set (i := 2) sc_is_plain.nd rfl (Or.inl rfl) (pe_ix ix_tup (pv 1) pe_int px_k))
      (pss_mid (ps_set (i := 3) sc_is_plain.nd rfl (Or.inl rfl) (pe_ix ix_tup (pv 1) pe_int px_k))
      (pss_mid (ps_if (pt_cmpR (op_eqL hr.units) (pv 3) (pe_lst pa_nil) (nomark _)) (pss_one (ps_ret (pe_or (pe_cmpR (op_eqL hr.units) (pv 2) (pe_lst pa_nil) (nomark _)) (pe_one (pe_cmpR op_ne (pe_ix ix_list (pv 2) (pe_un un_neg pe_int) px_u) pe_int (nomark _)))))) pss_nil)
      (pss_mid (ps_if (PW.pt (pw_or (pt_cmpR (op_neL hr.units) (pe_callG (got_shortest_ring T) (hr.mono (by decide)) rfl (pa_n (pv 3) pa_nil)) (pv 3) (nomark _)) (pw_or (pt_cmpR (op_eqL hr.units) (pv 3) (pe_lst (pa_k pe_int pa_nil)) (nomark _)) (pw_or1 (pt_cmpR (op_eqL hr.units) (pv 3) (pe_lst (pa_b (pe_op op_sub (pv 0) pe_int) pa_nil)) (nomark _)))))) (pss_one (ps_ret pe_bl)) pss_nil)
      (pss_one (ps_ret (pe_or (pe_cmpR (op_eqL hr.units) (pv 2) (pe_lst pa_nil) (nomark _)) (pe_one (pe_cmpR op_ne (pe_ix ix_list (pv 2) (pe_un un_neg pe_int) px_u) (pe_ix ix_list (pv 3) (pe_un un_neg pe_int) px_u) (nomark _)))))))))))), ?_⟩
    refine md (fun σ H' => σ = [some (.int b), some (.ref p), none, none] ∧ H' = H ∧ BaseOk b) ?c1 (mr (fun σ H' => σ = [some (.int b), some (.ref p), none, none] ∧ H' = H ∧ BaseOk b ∧ GoodW b x a g) ?c2 
      (mr (fun σ H' => σ = [some (.int b), some (.ref p), some (.ref la), none] ∧ H' = H ∧ BaseOk b ∧ GoodW b x a g) ?a3
      (mr (fun σ H' => σ = [some (.int b), some (.ref p), some (.ref la), some (.ref lg)] ∧ H' = H ∧ BaseOk b ∧ GoodW b x a g) ?a4
      (mr (fun σ H' => σ = [some (.int b), some (.ref p), some (.ref la), some (.ref lg)] ∧ Same H H' ∧ BaseOk b ∧ GoodW b x a g ∧ g ≠ []) ?a5
      (mr (fun σ H' => σ = [some (.int b), some (.ref p), some (.ref la), some (.ref lg)] ∧ Same H H' ∧ BaseOk b ∧ GoodW b x a g ∧ g ≠ []) ?a6 ?a7)))))
    case c1 =>
      intro D n r
      by_cases ob : BaseOk b
      · exact ⟨_, rfl, .inl ⟨b, rfl, ob.1, ob.2, n _ _ ⟨rfl, rfl, ob⟩⟩⟩
      · exact ⟨_, rfl, .inr ⟨b, rfl, ob, o.nb ob⟩⟩
    case c2 =>
      rintro σ H' ⟨rfl, rfl, ob⟩ D n r
      by_cases gw : GoodW b x a g
      · exact ⟨_, rfl, _, rfl, .inl ⟨b, p, la, lg, x, a, g, rfl, hW, gw, n _ _ ⟨rfl, rfl, ob, gw⟩⟩⟩
      · exact ⟨_, rfl, _, rfl, .inr ⟨b, p, la, lg, x, a, g, rfl, hW, gw, o.na ob gw⟩⟩
    case a3 =>
      rintro σ H' ⟨rfl, rfl, ob, gw⟩ D n r
      exact ⟨_, rfl, p, _, _, _, rfl, rfl, hW.t, rfl, n _ _ ⟨rfl, rfl, ob, gw⟩⟩
    case a4 =>
      rintro σ H' ⟨rfl, rfl, ob, gw⟩ D n r
      exact ⟨_, rfl, p, _, _, _, rfl, rfl, hW.t, rfl, n _ _ ⟨rfl, rfl, ob, gw⟩⟩
    case a5 =>
      rintro σ H' ⟨rfl, rfl, ob, gw⟩ D n r
      refine ⟨_, rfl, (show 0 ≤ sizeLine by decide), fun l1 h1 => ⟨lg, l1, g, [], rfl, rfl, (Same.upd h1).seq hW.g, SqL.of upd_same, _, rfl, ite2D (fun e1 => ?_) (fun e1 => n _ _ ⟨rfl, Same.upd h1, ob, gw, e1⟩)⟩⟩
      have s1 := Same.upd (o := .lst []) h1
      refine ⟨_, rfl, (show 0 ≤ sizeLine by decide), fun l2 h2 => ⟨la, l2, a, [], rfl, rfl, (Same.upd h2).seq (s1.seq hW.a), SqL.of upd_same, _, rfl, ite2D (fun e2 => ?_) (fun e2 => ?_)⟩⟩
      · exact r _ _ (o.ok ob gw _ _ (s1.trans (Same.upd h2)))
      · obtain ⟨y, hy⟩ := last_at e2
        exact ⟨_, rfl, _, rfl, la, _, _, _, rfl, rfl, (s1.trans (Same.upd h2)).seq hW.a, hy, rfl, r _ _ (o.ok ob gw _ _ (s1.trans (Same.upd h2)))⟩
    case a6 =>
      rintro σ H' ⟨rfl, s1, ob, gw, hg⟩ D n r
      refine ⟨_, rfl, lg, g, rfl, s1.seq hW.g, gw.lg, fun l2 h H2 _ s2 hl2 => ⟨_, rfl, l2, lg, h, g, rfl, rfl, SqL.of hl2, s2.seq (s1.seq hW.g), _, rfl, ite2N (fun ne => iteT (r _ _ (o.ok ob gw _ _ (s1.trans s2)))) (fun eq => ?_)⟩⟩
      have s3 := s1.trans s2
      refine ⟨_, rfl, (show 1 ≤ sizeLine by decide), fun l3 h3 => ⟨lg, l3, g, [0], rfl, rfl, (Same.upd h3).seq (s3.seq hW.g), SqL.of upd_same, _, rfl, ite2D (fun e2 => iteT (r _ _ (o.ok ob gw _ _ (s3.trans (Same.upd h3))))) (fun e2 => ?_)⟩⟩
      have s4 := s3.trans (Same.upd (o := .lst [.int 0]) h3)
      exact ⟨_, rfl, _, rfl, _, _, rfl, rfl, (show 1 ≤ sizeLine by decide), fun l4 h4 => ⟨lg, l4, g, [b - 1], rfl, rfl, (Same.upd h4).seq (s4.seq hW.g), SqL.of upd_same, _, rfl, ite2D (fun e3 => r _ _ (o.ok ob gw _ _ (s4.trans (Same.upd h4)))) (fun e3 => n _ _ ⟨rfl, s4.trans (Same.upd h4), ob, gw, hg⟩)⟩⟩
    case a7 =>
      rintro σ H' ⟨rfl, s1, ob, gw, hg⟩
      refine ⟨_, rfl, (show 0 ≤ sizeLine by decide), fun l5 h5 => ⟨la, l5, a, [], rfl, rfl, (Same.upd h5).seq (s1.seq hW.a), SqL.of upd_same, _, rfl, ite2D (fun e4 => o.ok ob gw _ _ (s1.trans (Same.upd h5))) (fun e4 => ?_)⟩⟩
      have s6 := s1.trans (Same.upd (o := .lst []) h5)
      obtain ⟨y, hy⟩ := last_at e4
      obtain ⟨y', hy'⟩ := last_at hg
      exact ⟨_, rfl, _, rfl, la, _, _, _, rfl, rfl, s6.seq hW.a, hy, _, rfl, _, rfl, lg, _, _, _, rfl, rfl, s6.seq hW.g, hy', rfl, o.ok ob gw _ _ s6⟩
theorem got_ring_length (T : Txt K mg) : Got P w K mg base "ring_length" 1 ["base", "left"] spRingLength := by
  refine T.d_ring_length.got sc_ring_length (fun vs H Q E h => ?_) (fun f cdv A outer s H vs Q E hr h => ?_)
  · obtain ⟨b, L, rfl, _⟩ := h; rfl
  · obtain ⟨b, L, rfl, b2, b36, L0, L2, cop, k⟩ := h
    refine ⟨_, (pss_cons (ps_if (pt_cmpR op_eq (pv 1) pe_int (nomark _)) (pss_one (ps_ret pe_int)) pss_nil)
      (pss_cons (ps_set (i := 2) sc_ring_length.nd rfl (Or.inl rfl) pe_int)
      (pss_cons (ps_set (i := 3) sc_ring_length.nd rfl (Or.inl rfl) (pe_op op_mod (pv 0) (pv 1)))
      (pss_cons (ps_while PassesOwn.never (pt_cmpR op_ne (pv 3) pe_int (nomark _)) (pss_cons (ps_set (i := 2) sc_ring_length.nd rfl (Or.inl rfl) (pe_op op_add (pv 2) pe_int))
      (pss_one (ps_set (i := 3) sc_ring_length.nd rfl (Or.inl rfl) (pe_op op_mod (pe_op op_mul (pv 3) (pv 0)) (pv 1))))))
      (pss_one (ps_ret (pv 2))))))), ?_⟩
    refine ⟨_, rfl, rfl, _, rfl, ite2D (fun h1 => ?_) (fun h1 => ?_)⟩
    · have h1 := V.int.inj h1
      exact k 0 (.inl ⟨by omega, rfl⟩)
    have l1 : 1 < L := by
      have : L ≠ 1 := fun e => h1 (by rw [e]; rfl)
      omega
    obtain ⟨N, n0, _, nd⟩ := RF.order_ex (b := b) (by omega) l1 cop
    have hbnd : ∀ j : Nat, (∀ m, 0 < m → m < j → ¬ L ∣ b ^ m - 1) → j ≤ N := fun j hj => Nat.le_of_not_lt fun z => hj N n0 z nd
    refine ⟨_, rfl, _, rfl, _, _, rfl, rfl, (show (0 : Int) < (L : Int) by omega), ?_⟩
    refine ⟨fun m σ H2 => ∃ j : Nat, m + j = N ∧ 0 < j ∧ σ = [some (.int (b : Int)), some (.int (L : Int)), some (.int (j : Int)), some (.int ((b : Int) ^ j % (L : Int)))] ∧ H2 = H ∧ ∀ m, 0 < m → m < j → ¬ L ∣ b ^ m - 1,
      ⟨N - 1, 1, by omega, by omega, by rw [Int.pow_succ, Int.pow_zero, Int.one_mul]; rfl, rfl, fun m m0 m1 => absurd m1 (by omega)⟩, ?_⟩
    rintro m σ H2 ⟨j, hm, j0, rfl, rfl, hj⟩
    refine ⟨_, rfl, rfl, _, rfl, ite2N (fun y => ?_) (fun y => ?_)⟩
    · have hnd : ¬ L ∣ b ^ j - 1 := fun d => y (by rw [pow_mod_int, (RF.pow_mod_iff (by omega) l1).mpr d]; rfl)
      have more : ∀ m, 0 < m → m < j + 1 → ¬ L ∣ b ^ m - 1 := fun m m0 m1 => by
        by_cases e : m = j
        · rw [e]; exact hnd
        · exact hj m m0 (by omega)
      have := hbnd (j + 1) more
      refine ⟨fun σ' H' => σ' = [some (.int (b : Int)), some (.int (L : Int)), some (.int ((j + 1 : Nat) : Int)), some (.int ((b : Int) ^ (j + 1) % (L : Int)))] ∧ H' = H2, ?_, ?_⟩
      · rintro σ' H' ⟨e1, e2⟩
        exact ⟨N - (j + 1), by omega, j + 1, by omega, by omega, e1, e2, more⟩
      · refine ⟨_, rfl, _, _, rfl, rfl, ?_⟩
        refine ⟨_, rfl, _, rfl, _, _, rfl, rfl, .inr ⟨by omega, by omega⟩, _, rfl, _, _, rfl, rfl, (show (0 : Int) < (L : Int) by omega), ?_⟩
        refine ⟨?_, rfl⟩
        rw [Int.pow_succ, RF.emod_mul_l, show ((j + 1 : Nat) : Int) = (j : Int) + 1 by omega]
        rfl
    · have hd : L ∣ b ^ j - 1 := by
        rw [← RF.pow_mod_iff (by omega) l1]
        have := V.int.inj y
        rw [pow_mod_int] at this
        omega
      exact ⟨_, rfl, k j (.inr ⟨l1, j0, hd, hj⟩)⟩
theorem gotE_lengths (T : Txt K mg) : GotE P w K mg base "lengths" 2 ["base", "bottom"] (spLengthsE K mg) := by
  refine T.d_lengths.gotE sc_lengths (fun vs H Q E h => ?_) (fun f cdv A outer s H vs Q E hr h => ?_)
  · rcases h with h | h
    · obtain ⟨b, q, rfl, _⟩ := h; rfl
    · obtain ⟨b, q, rfl, _⟩ := h; rfl
  · refine ⟨_, (pss_cons (ps_expr (pe_callE (gotE_check_base T) (hr.mono (by decide)) rfl (pa_n (pv 0) pa_nil)))
      (pss_cons (ps_expr (pe_callE (gotE_check_bottom T) (hr.mono (by decide)) rfl (pa_n (pv 1) pa_nil)))
      (pss_cons (ps_set (i := 2) sc_lengths.nd rfl (Or.inl rfl) pe_int)
      (pss_cons (ps_set (i := 3) sc_lengths.nd rfl (Or.inl rfl) (pv 1))
      (pss_cons (ps_set (i := 4) sc_lengths.nd rfl (Or.inl rfl) (pe_callG (got_common_measure T) (hr.mono (by decide)) rfl (pa_n (pv 3) (pa_n (pv 0) pa_nil))))
      (pss_cons (ps_while ownE (pt_cmpR op_gt (pv 4) pe_int (nomark _)) (pss_cons (ps_set (i := 2) sc_lengths.nd rfl (Or.inl rfl) (pe_op op_add (pv 2) pe_int))
      (pss_cons (ps_set (i := 3) sc_lengths.nd rfl (Or.inl rfl) (pe_op op_fdiv (pv 3) (pv 4)))
      (pss_one (ps_set (i := 4) sc_lengths.nd rfl (Or.inl rfl) (pe_callG (got_common_measure T) (hr.mono (by decide)) rfl (pa_n (pv 3) (pa_n (pv 0) pa_nil))))))))
      (pss_one (ps_ret (pe_tup (pa_n (pv 2) (pa_c (pe_callG (got_ring_length T) (hr.mono (by decide)) rfl (pa_n (pv 0) (pa_n (pv 3) pa_nil))) pa_nil))))))))))), ?_⟩
    rcases h with h | h
    · obtain ⟨b, q, rfl, b2, b36, q1, q2, k⟩ := h
      obtain ⟨bn, rfl⟩ : ∃ bn : Nat, b = (bn : Int) := ⟨b.toNat, by omega⟩
      obtain ⟨qn, rfl⟩ : ∃ qn : Nat, q = (qn : Int) := ⟨q.toNat, by omega⟩
      have hq : 0 < qn := by omega
      have hb : 2 ≤ bn := by omega
      have e0 : RF.left bn qn 0 = qn := by
        show qn / qn.gcd (bn ^ 0) = qn
        rw [Nat.pow_zero, Nat.gcd_one_right, Nat.div_one]
      refine ⟨_, rfl, .inl ⟨_, rfl, b2, b36, ?_⟩⟩
      refine ⟨_, rfl, .inl ⟨_, rfl, q1, q2, ?_⟩⟩
      refine ⟨_, rfl, _, rfl, _, rfl, _, _, rfl, by omega, by omega, ?_⟩
      refine ⟨fun m σ H' => ∃ i : Nat, m = RF.left bn qn i ∧ σ = [some (.int (bn : Int)), some (.int (qn : Int)), some (.int (i : Int)), some (.int ((RF.left bn qn i : Nat) : Int)), some (.int (((RF.left bn qn i).gcd bn : Nat) : Int))] ∧ H' = H ∧ ∀ j, j < i → ¬ Nat.Coprime (RF.left bn qn j) bn,
        ⟨_, 0, rfl, by rw [e0]; rfl, rfl, fun j hj => absurd hj (by omega)⟩, ?_⟩
      rintro m σ H' ⟨i, rfl, rfl, rfl, mn⟩
      have lp := left_pos (b := bn) (i := i) hq
      have ll := left_le (b := bn) (q := qn) (i := i)
      have g0 : 0 < (RF.left bn qn i).gcd bn := Nat.gcd_pos_of_pos_left _ lp
      have gl : (RF.left bn qn i).gcd bn ≤ RF.left bn qn i := Nat.gcd_le_left _ lp
      refine ⟨_, rfl, _, _, rfl, rfl, _, rfl, ite2D (fun hc => ?_) (fun hc => ?_)⟩
      · have hnc : ¬ Nat.Coprime (RF.left bn qn i) bn := fun z => by
          have z : (RF.left bn qn i).gcd bn = 1 := z
          omega
        refine ⟨fun σ' H2 => σ' = [some (.int (bn : Int)), some (.int (qn : Int)), some (.int ((i + 1 : Nat) : Int)), some (.int ((RF.left bn qn (i + 1) : Nat) : Int)), some (.int (((RF.left bn qn (i + 1)).gcd bn : Nat) : Int))] ∧ H2 = H', ?_, ?_⟩
        · rintro σ' H2 ⟨rfl, rfl⟩
          refine ⟨RF.left bn qn (i + 1), RF.left_lt hq hnc, i + 1, rfl, rfl, rfl, fun j hj => ?_⟩
          by_cases e : j = i
          · rw [e]; exact hnc
          · exact mn j (by omega)
        · refine ⟨_, rfl, _, _, rfl, rfl, ?_⟩
          refine ⟨_, rfl, _, rfl, _, _, rfl, rfl, ⟨by omega, by omega⟩, ?_⟩
          dsimp only
          rw [← Int.natCast_ediv, ← RF.left_succ hq]
          refine ⟨_, rfl, _, rfl, _, _, rfl, by omega, by omega, ?_⟩
          exact ⟨rfl, rfl⟩
      · have cop : Nat.Coprime (RF.left bn qn i) bn := by
          show (RF.left bn qn i).gcd bn = 1
          omega
        refine ⟨_, rfl, _, rfl, _, rfl, bn, RF.left bn qn i, rfl, hb, by omega, lp, by omega, cop, fun r hr => ⟨(show 2 ≤ sizeLine by decide), fun p hp => ?_⟩⟩
        exact k i r p _ (RF.len_of hb hq cop mn hr) (Same.upd hp) hp upd_same
    · obtain ⟨b, q, rfl, h⟩ := h
      rcases h with ⟨nb, r⟩ | ⟨ob, nf, r⟩
      · exact ⟨_, rfl, .inr ⟨b, rfl, nb, r⟩⟩
      · exact ⟨_, rfl, .inl ⟨b, rfl, ob.1, ob.2, _, rfl, .inr ⟨q, rfl, nf, r⟩⟩⟩
theorem got_power_rest (T : Txt K mg) : Got P w K mg base "power_rest" 1 ["base", "count", "bottom"] spPowerRest := by
  refine T.d_power_rest.got sc_power_rest (fun vs H Q E h => ?_) (fun f cdv A outer s H vs Q E hr h => ?_)
  · obtain ⟨b, n, q, rfl, _⟩ := h; rfl
  · obtain ⟨b, n, q, rfl, b2, b36, n0, q1, q2, k⟩ := h
    refine ⟨_, (pss_cons (ps_set (i := 3) sc_power_rest.nd rfl (Or.inl rfl) pe_int)
      (pss_cons (ps_set (i := 4) sc_power_rest.nd rfl (Or.inl rfl) (pv 0))
      (pss_cons (ps_while PassesOwn.never (pt_cmpR op_gt (pv 1) pe_int (nomark _)) (pss_cons (ps_if (pt_cmpR op_eq (pe_op op_mod (pv 1) pe_int) pe_int (nomark _)) (pss_one (ps_set (i := 3) sc_power_rest.nd rfl (Or.inl rfl) (pe_op op_mod (pe_op op_mul (pv 3) (pv 4)) (pv 2)))) pss_nil)
      (pss_cons (ps_set (i := 4) sc_power_rest.nd rfl (Or.inl rfl) (pe_op op_mod (pe_op op_mul (pv 4) (pv 4)) (pv 2)))
      (pss_one (ps_set (i := 1) sc_power_rest.nd rfl (Or.inl rfl) (pe_op op_fdiv (pv 1) pe_int))))))
      (pss_one (ps_ret (pv 3)))))), ?_⟩
    refine ⟨_, rfl, ?_⟩
    refine ⟨fun c σ H' => ∃ (r s : Int), σ = [some (.int b), some (.int (c : Int)), some (.int q), some (.int r), some (.int s)] ∧ H' = H ∧ 0 ≤ r ∧ r ≤ 2000 ∧ 0 ≤ s ∧ s ≤ 2000 ∧ r * s ^ c % q = b ^ n.toNat % q,
      ⟨n.toNat, 1, b, by rw [Int.toNat_of_nonneg n0]; rfl, rfl, by omega, by omega, by omega, by omega, by rw [Int.one_mul]⟩, ?_⟩
    rintro c σ H' ⟨r, s, rfl, rfl, r0, r1, s0, s1, e⟩
    have md : ∀ x : Int, 0 ≤ x % q ∧ x % q ≤ 2000 := fun x => by
      have h1 := Int.emod_nonneg x (show q ≠ 0 by omega)
      have h2 := Int.emod_lt_of_pos x (show 0 < q by omega)
      omega
    refine ⟨_, rfl, _, _, rfl, rfl, _, rfl, ite2D (fun hc => ?_) (fun hc => ?_)⟩
    · refine ⟨fun σ' H2 => ∃ (r' s' : Int), σ' = [some (.int b), some (.int ((c / 2 : Nat) : Int)), some (.int q), some (.int r'), some (.int s')] ∧ H2 = H' ∧ 0 ≤ r' ∧ r' ≤ 2000 ∧ 0 ≤ s' ∧ s' ≤ 2000 ∧ r' * s' ^ (c / 2) % q = b ^ n.toNat % q, ?_, ?_⟩
      · rintro σ' H2 ⟨r', s', e1, e2, h⟩
        exact ⟨c / 2, by omega, r', s', e1, e2, h⟩
      · refine ⟨_, rfl, _, _, rfl, rfl, (show (0 : Int) < 2 by decide), rfl, _, rfl, ite2D (fun ho => ?_) (fun ho => ?_)⟩
        · have ho := V.int.inj ho
          refine ⟨_, rfl, _, rfl, _, _, rfl, rfl, .inr ⟨by omega, by omega⟩, _, rfl, _, _, rfl, rfl, (show (0 : Int) < q by omega), ?_⟩
          refine ⟨_, rfl, _, rfl, _, _, rfl, rfl, .inr ⟨by omega, by omega⟩, _, rfl, _, _, rfl, rfl, (show (0 : Int) < q by omega), ?_⟩
          refine ⟨_, rfl, _, _, rfl, rfl, ⟨by omega, by omega⟩, ?_⟩
          refine ⟨r * s % q, s * s % q, rfl, rfl, (md _).1, (md _).2, (md _).1, (md _).2, ?_⟩
          rw [RF.sq_odd, ← e]
          congr 3
          omega
        · have ho : ¬ (c : Int) % 2 = 1 := fun z => ho (congrArg V.int z)
          refine ⟨_, rfl, _, rfl, _, _, rfl, rfl, .inr ⟨by omega, by omega⟩, _, rfl, _, _, rfl, rfl, (show (0 : Int) < q by omega), ?_⟩
          refine ⟨_, rfl, _, _, rfl, rfl, ⟨by omega, by omega⟩, ?_⟩
          refine ⟨r, s * s % q, rfl, rfl, r0, r1, (md _).1, (md _).2, ?_⟩
          rw [RF.sq_even, ← e]
          congr 3
          omega
    · have c0 : c = 0 := by omega
      subst c0
      rw [Int.pow_zero, Int.mul_one] at e
      exact ⟨_, rfl, k r r0 r1 e⟩
theorem gotE_figure_at (T : Txt K mg) : GotE P w K mg base "figure_at" 3 ["base", "top", "bottom", "place"] (spFigureAtE K mg) := by
  refine T.d_figure_at.gotE sc_figure_at (fun vs H Q E h => ?_) (fun f cdv A outer s H vs Q E hr h => ?_)
  · rcases h with h | h
    · obtain ⟨b, t, q, n, rfl, _⟩ := h; rfl
    · obtain ⟨b, t, q, n, rfl, _⟩ := h; rfl
  · refine ⟨_, (pss_cons (ps_expr (pe_callE (gotE_check_base T) (hr.mono (by decide)) rfl (pa_n (pv 0) pa_nil)))
      (pss_cons (ps_expr (pe_callE (gotE_check_fraction T) (hr.mono (by decide)) rfl (pa_n (pv 1) (pa_n (pv 2) pa_nil))))
      (pss_cons (ps_set (i := 4) sc_figure_at.nd rfl (Or.inl rfl) (pe_op op_mod (pe_op op_mul (pv 1) (pe_callG (got_power_rest T) (hr.mono (by decide)) rfl (pa_n (pv 0) (pa_n (pv 3) (pa_n (pv 2) pa_nil))))) (pv 2)))
      (pss_one (ps_ret (pe_op op_fdiv (pe_op op_mul (pv 4) (pv 0)) (pv 2))))))), ?_⟩
    rcases h with h | h
    · obtain ⟨b, t, q, n, rfl, b2, b36, t0, t12, q1, q2, n0, n1, k⟩ := h
      refine ⟨_, rfl, .inl ⟨b, rfl, b2, b36, ?_⟩⟩
      refine ⟨_, rfl, _, rfl, .inl ⟨t, q, rfl, t0, t12, q1, q2, ?_⟩⟩
      refine ⟨_, rfl, _, rfl, _, rfl, _, rfl, b, n, q, rfl, b2, b36, n0, q1, q2, fun z z0 z1 ez => ?_⟩
      refine ⟨_, _, rfl, rfl, .inr ⟨by omega, by omega⟩, _, rfl, _, _, rfl, rfl, (show (0 : Int) < q by omega), ?_⟩
      have e : t * z % q = RF.rst b q (t % q) n.toNat := by
        rw [RF.rst_closed, ← RF.emod_mul_r, ez, RF.emod_mul_r]
      dsimp only
      rw [e]
      refine ⟨_, rfl, _, rfl, _, _, rfl, rfl, .inr ⟨by omega, by omega⟩, _, rfl, _, _, rfl, rfl, ⟨by omega, by omega⟩, ?_⟩
      exact k _ _ rfl (Same.refl H)
    · obtain ⟨b, t, q, n, rfl, h⟩ := h
      rcases h with ⟨nb, r⟩ | ⟨ob, nf, r⟩
      · exact ⟨_, rfl, .inr ⟨b, rfl, nb, r⟩⟩
      · exact ⟨_, rfl, .inl ⟨b, rfl, ob.1, ob.2, _, rfl, _, rfl, .inr ⟨t, q, rfl, nf, r⟩⟩⟩
theorem gotE_folds (T : Txt K mg) : GotE P w K mg base "folds" 2 ["base", "ring"] (spFoldsW K mg) := by
  refine T.d_folds.gotE sc_folds (fun vs H Q E h => ?_) (fun f cdv A outer s H vs Q E hr h => ?_)
  · obtain ⟨b, l, g, rfl, _⟩ := h; rfl
  · obtain ⟨b, l, g, rfl, hS, o⟩ := h
    refine ⟨_, (pss_mid (ps_expr (pe_callE (gotE_check_base T) (hr.mono (by decide)) rfl (pa_n (pv 0) pa_nil)))
      (pss_mid (ps_expr (pe_callE (gotE_check_figures T) (hr.mono (by decide)) rfl (pa_n (pv 0) (pa_n (pv 1) pa_nil))))
      (pss_mid (ps_if (PW.pt (pw_or (pt_cmpR (op_eqL hr.units) (pv 1) (pe_lst pa_nil) (nomark _)) (pw_or1 (pt_cmpR op_eq (pe_op op_mod (pe_callB call_len_seq rfl T.b_len PySem.boot_len (pa_n (pv 1) pa_nil)) pe_int) pe_int (nomark _))))) (pss_one (ps_ret pe_bl)) pss_nil)
      (pss_mid (ps_set (i := 2) sc_folds.nd rfl (Or.inl rfl) (pe_op op_fdiv (pe_callB call_len_seq rfl T.b_len PySem.boot_len (pa_n (pv 1) pa_nil)) pe_int))
      (pss_mid (ps_for ownE rfl (pi_range1 rfl T.b_range (pa_n (pv 2) pa_nil)) (pg_name (i := 3) sc_folds.nd rfl (Or.inl rfl)) (pss_one (ps_if (pt_cmpR op_ne (pe_op op_add (pe_ix ix_list (pv 1) (pv 3) px_n) (pe_ix ix_list (pv 1) (pe_op op_add (pv 2) (pv 3)) px_b)) (pe_op op_sub (pv 0) pe_int) (nomark _)) (pss_one (ps_ret pe_bl)) pss_nil)))
      (pss_one (ps_ret pe_bl))))))), ?_⟩
    refine md (fun σ H' => σ = [some (.int b), some (.ref l), none, none] ∧ H' = H ∧ BaseOk b) ?c1 (mr (fun σ H' => σ = [some (.int b), some (.ref l), none, none] ∧ H' = H ∧ BaseOk b ∧ RingOk b g) ?c2
      (mr (fun σ H' => σ = [some (.int b), some (.ref l), none, none] ∧ Same H H' ∧ BaseOk b ∧ RingOk b g) ?a3
      (mr (fun σ H' => ∃ h : Nat, 2 * h ≤ g.length ∧ σ = [some (.int b), some (.ref l), some (.int (h : Int)), none] ∧ Same H H' ∧ BaseOk b ∧ RingOk b g) ?a4
      (mr (fun _ H' => Same H H' ∧ BaseOk b ∧ RingOk b g) ?a5 ?a6))))
    case c1 =>
      intro D n r
      by_cases ob : BaseOk b
      · exact ⟨_, rfl, .inl ⟨b, rfl, ob.1, ob.2, n _ _ ⟨rfl, rfl, ob⟩⟩⟩
      · exact ⟨_, rfl, .inr ⟨b, rfl, ob, o.nb ob⟩⟩
    case c2 =>
      rintro σ H' ⟨rfl, rfl, ob⟩ D n r
      by_cases ro : RingOk b g
      · exact ⟨_, rfl, _, rfl, .inl ⟨b, l, g, rfl, hS, ro.1, ro.2, n _ _ ⟨rfl, rfl, ob, ro⟩⟩⟩
      · exact ⟨_, rfl, _, rfl, .inr ⟨b, l, g, rfl, hS, ro, o.na ob ro⟩⟩
    case a3 =>
      rintro σ H' ⟨rfl, rfl, ob, ro⟩ D n r
      refine ⟨_, rfl, (show 0 ≤ sizeLine by decide), fun l0 h0 => ?_⟩
      have s0 := Same.upd (o := .lst []) h0
      refine ⟨l, l0, g, [], rfl, rfl, s0.seq hS, SqL.of upd_same, _, rfl, ite2D (fun e => iteT (r _ _ (o.ok ob ro _ _ s0))) (fun e => ?_)⟩
      exact ⟨_, rfl, l, _, rfl, .inl (s0.seq hS), _, _, rfl, rfl, (show (0 : Int) < 2 by decide), rfl, _, rfl, ite2D (fun e2 => r _ _ (o.ok ob ro _ _ s0)) (fun e2 => n _ _ ⟨rfl, s0, ob, ro⟩)⟩
    case a4 =>
      rintro σ H' ⟨rfl, s0, ob, ro⟩ D n r
      refine ⟨_, rfl, l, _, rfl, .inl (s0.seq hS), _, _, rfl, rfl, ⟨by decide, by decide⟩, n _ _ ⟨g.length / 2, by omega, ?_, s0, ob, ro⟩⟩
      rw [List.length_map, Int.natCast_ediv]; rfl
    case a5 =>
      rintro σ H' ⟨h, hh, rfl, s0, ob, ro⟩ D n r
      have h4 := ro.1
      refine ⟨_, rfl, _, rfl, by omega, by omega, for_range (lo := 0) (n := ((h : Int)).toNat) (fun i σ H2 => ∃ v, σ = [some (.int b), some (.ref l), some (.int (h : Int)), v] ∧ H2 = H') ⟨_, rfl, rfl⟩ ?_ (fun σ H2 ⟨v, _, e⟩ => n _ _ ⟨by rw [e]; exact s0, ob, ro⟩)⟩
      rintro i σ H2 hi ⟨v, rfl, rfl⟩
      have hi : i < h := by rw [Int.toNat_natCast] at hi; exact hi
      have hS2 := s0.seq hS
      refine ⟨_, rfl, _, rfl, l, _, _, _, rfl, rfl, hS2, atI_int (by omega) (by omega), ?_⟩
      refine ⟨_, rfl, _, rfl, _, rfl, _, _, rfl, rfl, l, _, _, _, rfl, rfl, hS2, atI_int (by omega) (by omega), _, _, rfl, rfl, ?_⟩
      exact ⟨_, rfl, _, _, rfl, rfl, rfl, _, rfl, ite2N (fun ne => r _ _ (o.ok ob ro _ _ s0)) (fun eq => ⟨_, rfl, rfl⟩)⟩
    case a6 =>
      rintro σ H' ⟨s0, ob, ro⟩
      exact o.ok ob ro _ _ s0
theorem got_text_of (T : Txt K mg) : Got P w K mg base "text_of" 1 ["figures"] (spTextW K) := by
  refine T.d_text_of.got sc_text_of (fun vs H Q E h => ?_) (fun f cdv A outer s H vs Q E hr h => ?_)
  · obtain ⟨l, ds, rfl, _⟩ := h; rfl
  · obtain ⟨l, ds, rfl, hS, h36, hl, k⟩ := h
    refine ⟨_, (pss_one (ps_ret (pe_bm PySem.F.plainAttrs_str PySem.F.slot_str_join PySem.F.type_str_join mt_join pe_str (pa_cons (pe_comp [] rfl (pi_list (pv 0)) ⟨rfl, by decide +kernel, by decide +kernel, rfl, rfl, rfl, True.intro, by decide +kernel⟩ (fun _ _ _ _ => (pe_ix ix_str (pe_globS T.s_SIGNS rfl) (pv 0) px_n))) pa_nil)))), ?_⟩
    refine ⟨rfl, _, rfl, l, rfl, ⟨_, hS⟩, fun D hD => ?_⟩
    refine comp_list (K := K) (a := l) (xs := ds.map V.int) (fun i => V.str ⟨#[RF.sgn (ds.getD i 0).toNat]⟩) (by rw [List.length_map]; exact Nat.le_of_lt (size2000 (by omega))) hD (fun H2 s2 => s2.seq hS) (fun i x H2 hx _ R hR => ?_) ?_
    · obtain ⟨n, rfl, hn⟩ := mem_int hx
      have hd := h36 n (List.mem_of_getElem? hn)
      rw [List.getD_eq_getElem?_getD, hn] at hR
      have hat := signs_at (d := n.toNat) (by omega)
      rw [Int.toNat_of_nonneg hd.1] at hat
      exact ⟨_, rfl, _, _, _, rfl, rfl, small_text (by rw [signs_len]; decide), hat, hR⟩
    have e : (List.range (ds.map V.int).length).map (fun i => V.str ⟨#[RF.sgn (ds.getD i 0).toNat]⟩) = (((List.range (ds.map V.int).length).map fun i => RF.sgn (ds.getD i 0).toNat).map fun c => (⟨#[c]⟩ : Str)).map V.str := by
      rw [List.map_map, List.map_map]; rfl
    rw [e]
    generalize hw : (List.range (ds.map V.int).length).map (fun i => RF.sgn (ds.getD i 0).toNat) = ws
    have wl : ws.length ≤ 4000 := by
      rw [← hw, List.length_map, List.length_range, List.length_map]
      exact hl
    refine ⟨_, D, ws.map fun c => (⟨#[c]⟩ : Str), rfl, rfl, SqL.of upd_same, joinOk_signs (by omega), ?_⟩
    have e2 : PySem.Txt.join (Str.ofString "") (ws.map fun c => (⟨#[c]⟩ : Str)) = txt ws := join_signs _
    exact k _ _ (by rw [e2, txt_len]; exact wl) (Same.upd hD)
theorem got_figures_of_whole (T : Txt K mg) : Got P w K mg base "figures_of_whole" 1 ["base", "whole"] spFigsW := by
  refine T.d_figures_of_whole.got sc_figures_of_whole (fun vs H Q E h => ?_) (fun f cdv A outer s H vs Q E hr h => ?_)
  · obtain ⟨b, n, rfl, _⟩ := h; rfl
  · obtain ⟨b, n, rfl, ob, n0, n1, k⟩ := h
    have b2 := ob.1
    have b36 := ob.2
    have bp : (0 : Int) < b := by omega
    have fg : ∀ r : Int, RF.Figs 36 [r % b] := fun r d hd => by
      rw [List.mem_singleton.mp hd]
      exact ⟨Int.emod_nonneg _ (by omega), Int.lt_of_lt_of_le (Int.emod_lt_of_pos _ bp) b36⟩
    refine ⟨_, (pss_mid (ps_set (i := 2) sc_figures_of_whole.nd rfl (Or.inl rfl) (pe_lst (pa_b (pe_op op_mod (pv 1) (pv 0)) pa_nil)))
      (pss_mid (ps_set (i := 3) sc_figures_of_whole.nd rfl (Or.inl rfl) (pe_op op_fdiv (pv 1) (pv 0)))
      (pss_mid (ps_while PassesOwn.never (pt_cmpR op_gt (pv 3) pe_int (nomark _)) (pss_mid (ps_expr (pe_bm PySem.F.plainAttrs_list PySem.F.slot_list_append PySem.F.type_list_append mt_append (pv 2) (pa_b (pe_op op_mod (pv 3) (pv 0)) pa_nil)))
      (pss_one (ps_set (i := 3) sc_figures_of_whole.nd rfl (Or.inl rfl) (pe_op op_fdiv (pv 3) (pv 0))))))
      (pss_mid (ps_expr (pe_bm0 PySem.F.plainAttrs_list PySem.F.slot_list_reverse PySem.F.type_list_reverse mt_reverse (pv 2)))
      (pss_one (ps_ret (pv 2))))))), ?_⟩
    refine md (fun σ H' => ∃ l : Addr, H l = none ∧ H' = upd H l (.lst ([n % b].map V.int)) ∧ σ = [some (.int b), some (.int n), some (.ref l), none]) ?a1
      (mr (fun σ H' => ∃ (l : Addr) (r : Int) (ds : List Int), H l = none ∧ Same H H' ∧ H' l = some (.lst (ds.map V.int)) ∧ RF.Figs 36 ds ∧ ds.length ≤ 41 ∧ 0 ≤ r ∧ r * 2 ^ ds.length ≤ 1000000000000 ∧ σ = [some (.int b), some (.int n), some (.ref l), some (.int r)]) ?a2
      (mr (fun σ H' => ∃ (l : Addr) (v : Option V) (ds : List Int), H l = none ∧ Same H H' ∧ H' l = some (.lst (ds.map V.int)) ∧ RF.Figs 36 ds ∧ ds.length ≤ 41 ∧ σ = [some (.int b), some (.int n), some (.ref l), v]) ?a3
      (mr (fun σ H' => ∃ (l : Addr) (v : Option V) (ds : List Int), H l = none ∧ Same H H' ∧ H' l = some (.lst (ds.map V.int)) ∧ RF.Figs 36 ds ∧ ds.length ≤ 41 ∧ σ = [some (.int b), some (.int n), some (.ref l), v]) ?a4 ?a5)))
    case a1 =>
      intro D n r
      exact ⟨_, rfl, _, rfl, _, _, rfl, rfl, bp, (show 1 ≤ sizeLine by decide), fun l hl => n _ _ ⟨l, hl, rfl, rfl⟩⟩
    case a2 =>
      rintro σ H' ⟨l, hl, rfl, rfl⟩ D nx r
      refine ⟨_, rfl, _, rfl, _, _, rfl, rfl, ⟨by omega, by omega⟩, nx _ _ ⟨l, n / b, [n % b], hl, Same.upd hl, upd_same, fg n, (show 1 ≤ 41 by decide), Int.ediv_nonneg n0 (by omega), ?_, rfl⟩⟩
      by_cases z : 0 < n
      · exact (halves (k := 0) b2 z (by omega)).2.2.2
      · rw [show n = 0 by omega, Int.zero_ediv]
        show (0 : Int) * 2 ^ 1 ≤ 1000000000000
        decide
    case a3 =>
      rintro σ H' ⟨l, r, ds, hl, s, hd, f, len, r0, r1, rfl⟩ D nx rt
      refine ⟨fun m σ H2 => ∃ (r : Int) (ds : List Int), m = r.toNat ∧ Same H H2 ∧ H2 l = some (.lst (ds.map V.int)) ∧ RF.Figs 36 ds ∧ ds.length ≤ 41 ∧ 0 ≤ r ∧ r * 2 ^ ds.length ≤ 1000000000000 ∧ σ = [some (.int b), some (.int n), some (.ref l), some (.int r)], ⟨_, r, ds, rfl, s, hd, f, len, r0, r1, rfl⟩, ?_⟩
      clear s hd f len r0 r1
      rintro m σ H2 ⟨r, ds, rfl, s, hd, f, len, r0, r1, rfl⟩
      refine ⟨_, rfl, _, _, rfl, rfl, _, rfl, ite2D (fun h0 => ?_) (fun h0 => nx _ _ ⟨l, _, ds, hl, s, hd, f, len, rfl⟩)⟩
      obtain ⟨q1, q2, q3, q4⟩ := halves b2 h0 r1
      refine ⟨fun σ' H3 => Same H H3 ∧ H3 l = some (.lst ((ds ++ [r % b]).map V.int)) ∧ σ' = [some (.int b), some (.int n), some (.ref l), some (.int (r / b))], ?_, ?_⟩
      · rintro σ' H3 ⟨s3, h3, rfl⟩
        have e : (ds ++ [r % b]).length = ds.length + 1 := by simp
        exact ⟨_, by omega, r / b, ds ++ [r % b], rfl, s3, h3, figs_append f (fg r), by omega, q2, by rw [e]; exact q4, rfl⟩
      · refine md (fun σ' H3 => Same H H3 ∧ H3 l = some (.lst ((ds ++ [r % b]).map V.int)) ∧ σ' = [some (.int b), some (.int n), some (.ref l), some (.int r)]) ?b1 ?b2
        case b1 =>
          intro D1 n1 r1
          refine ⟨_, rfl, .inl ⟨rfl, _, SqL.of hd⟩, _, rfl, _, rfl, _, _, rfl, rfl, bp, l, _, _, rfl, rfl, hd, by rw [List.length_map]; exact size2000 (by omega), n1 _ _ ⟨s.upd2 hl, ?_, rfl⟩⟩
          rw [upd_same, List.map_append]; rfl
        case b2 =>
          rintro σ' H3 ⟨s3, h3, rfl⟩
          exact ⟨_, rfl, _, rfl, _, _, rfl, rfl, ⟨by omega, by omega⟩, s3, h3, rfl⟩
    case a4 =>
      rintro σ H' ⟨l, v, ds, hl, s, hd, f, len, rfl⟩ D nx r
      refine ⟨_, rfl, .inl ⟨rfl, _, SqL.of hd⟩, l, _, rfl, rfl, hd, nx _ _ ⟨l, v, ds.reverse, hl, s.upd2 hl, ?_, fun d hd => f d (List.mem_reverse.mp hd), by rw [List.length_reverse]; exact len, rfl⟩⟩
      rw [upd_same, List.map_reverse]
    case a5 =>
      rintro σ H' ⟨l, v, ds, hl, s, hd, f, len, rfl⟩
      exact ⟨_, rfl, k l ds _ f (by omega) s hd⟩
theorem gotE_shown (T : Txt K mg) : GotE P w K mg base "shown" 3 ["base", "writing"] (spWrW K mg) := by
  refine T.d_shown.gotE sc_shown (fun vs H Q E h => ?_) (fun f cdv A outer s H vs Q E hr h => ?_)
  · obtain ⟨b, p, la, lg, x, a, g, rfl, _⟩ := h; rfl
  · obtain ⟨b, p, la, lg, x, a, g, rfl, hW, o⟩ := h
    refine ⟨_, (pss_mid (ps_expr (pe_callE (gotE_check_base T) (hr.mono (by decide)) rfl (pa_n (pv 0) pa_nil)))
      (pss_mid (ps_expr (pe_callE (gotE_check_writing T) (hr.mono (by decide)) rfl (pa_n (pv 0) (pa_n (pv 1) pa_nil))))
      (pss_mid (ps_set (i := 2) sc_shown.nd rfl (Or.inl rfl) (pe_callG (got_text_of T) (hr.mono (by decide)) rfl (pa_c (pe_callG (got_figures_of_whole T) (hr.mono (by decide)) rfl (pa_n (pv 0) (pa_s (pe_ix ix_tup (pv 1) pe_int px_k) pa_nil))) pa_nil)))
      (pss_mid (ps_if (PW.pt (pw_and (pt_cmpR (op_eqL hr.units) (pe_ix ix_tup (pv 1) pe_int px_k) (pe_lst pa_nil) (nomark _)) (pw_and1 (pt_cmpR (op_eqL hr.units) (pe_ix ix_tup (pv 1) pe_int px_k) (pe_lst pa_nil) (nomark _))))) (pss_one (ps_ret (pv 2))) pss_nil)
      (pss_mid (ps_set (i := 2) sc_shown.nd rfl (Or.inl rfl) (pe_op op_add_str (pe_op op_add_str (pv 2) pe_str) (pe_callG (got_text_of T) (hr.mono (by decide)) rfl (pa_s (pe_ix ix_tup (pv 1) pe_int px_k) pa_nil))))
      (pss_mid (ps_if (pt_cmpR (op_eqL hr.units) (pe_ix ix_tup (pv 1) pe_int px_k) (pe_lst pa_nil) (nomark _)) (pss_one (ps_ret (pv 2))) pss_nil)
      (pss_one (ps_ret (pe_op op_add_str (pe_op op_add_str (pe_op op_add_str (pv 2) pe_str) (pe_callG (got_text_of T) (hr.mono (by decide)) rfl (pa_s (pe_ix ix_tup (pv 1) pe_int px_k) pa_nil))) pe_str))))))))), ?_⟩
    refine md (fun σ H' => σ = [some (.int b), some (.ref p), none] ∧ H' = H ∧ BaseOk b) ?c1 (mr (fun σ H' => σ = [some (.int b), some (.ref p), none] ∧ H' = H ∧ BaseOk b ∧ GoodW b x a g) ?c2 (mr (fun σ H' => ∃ z : Str, z.length ≤ 4000 ∧ Same H H' ∧ BaseOk b ∧ GoodW b x a g ∧ σ = [some (.int b), some (.ref p), some (.str z)]) ?a3 (mr (fun σ H' => ∃ z : Str, z.length ≤ 4000 ∧ Same H H' ∧ BaseOk b ∧ GoodW b x a g ∧ σ = [some (.int b), some (.ref p), some (.str z)]) ?a4 (mr (fun σ H' => ∃ z : Str, z.length ≤ 8001 ∧ Same H H' ∧ BaseOk b ∧ GoodW b x a g ∧ σ = [some (.int b), some (.ref p), some (.str z)]) ?a5 (mr (fun σ H' => ∃ z : Str, z.length ≤ 8001 ∧ Same H H' ∧ BaseOk b ∧ GoodW b x a g ∧ σ = [some (.int b), some (.ref p), some (.str z)]) ?a6 ?a7)))))
    case c1 =>
      intro D n r
      by_cases ob : BaseOk b
      · exact ⟨_, rfl, .inl ⟨b, rfl, ob.1, ob.2, n _ _ ⟨rfl, rfl, ob⟩⟩⟩
      · exact ⟨_, rfl, .inr ⟨b, rfl, ob, o.nb ob⟩⟩
    case c2 =>
      rintro σ H' ⟨rfl, rfl, ob⟩ D n r
      by_cases gw : GoodW b x a g
      · exact ⟨_, rfl, _, rfl, .inl ⟨b, p, la, lg, x, a, g, rfl, hW, gw, n _ _ ⟨rfl, rfl, ob, gw⟩⟩⟩
      · exact ⟨_, rfl, _, rfl, .inr ⟨b, p, la, lg, x, a, g, rfl, hW, gw, o.na ob gw⟩⟩
    case a3 =>
      rintro σ H' ⟨rfl, rfl, ob, gw⟩ D n r
      exact ⟨_, rfl, _, rfl, p, _, _, _, rfl, rfl, hW.t, rfl, b, x, rfl, ob, gw.w0, gw.w1, fun l0 ds H0 f0 d0 s0 h0 => ⟨l0, ds, rfl, SqL.of h0, f0, d0, fun z H1 hz s1 => n _ _ ⟨z, hz, s0.trans s1, ob, gw, rfl⟩⟩⟩
    case a4 =>
      rintro σ H' ⟨z, hz, s, ob, gw, rfl⟩ D n r
      refine ⟨_, rfl, p, _, _, _, rfl, rfl, s.tup hW.t, rfl, (show 0 ≤ sizeLine by decide), fun l2 h2 => ?_⟩
      have t2 := s.trans (Same.upd (o := .lst []) h2)
      refine ⟨la, l2, a, [], rfl, rfl, t2.seq hW.a, SqL.of upd_same, _, rfl, ite2D (fun e1 => ?_) (fun e1 => iteF (n _ _ ⟨z, hz, t2, ob, gw, rfl⟩))⟩
      refine ⟨_, rfl, p, _, _, _, rfl, rfl, t2.tup hW.t, rfl, (show 0 ≤ sizeLine by decide), fun l3 h3 => ?_⟩
      exact ⟨lg, l3, g, [], rfl, rfl, (t2.trans (Same.upd h3)).seq hW.g, SqL.of upd_same, _, rfl, ite2D (fun e2 => ⟨_, rfl, r _ _ (o.ok ob gw _ _ (t2.trans (Same.upd h3)))⟩) (fun e2 => n _ _ ⟨z, hz, t2.trans (Same.upd h3), ob, gw, rfl⟩)⟩
    case a5 =>
      rintro σ H' ⟨z, hz, s, ob, gw, rfl⟩ D n r
      have pt : (Str.ofString ".").length ≤ 1 := by decide +kernel
      exact ⟨_, rfl, _, _, rfl, rfl, add_ok' hz pt (by decide), _, rfl, p, _, _, _, rfl, rfl, s.tup hW.t, rfl, la, a, rfl, s.seq hW.a, figs36 ob gw.fa, gw.la, fun y H1 hy s1 => ⟨_, _, rfl, rfl, add_ok' (add_le' hz pt) hy (by decide), n _ _ ⟨_, add_le' (add_le' hz pt) hy, s.trans s1, ob, gw, rfl⟩⟩⟩
    case a6 =>
      rintro σ H' ⟨z, hz, s, ob, gw, rfl⟩ D n r
      exact ⟨_, rfl, p, _, _, _, rfl, rfl, s.tup hW.t, rfl, (show 0 ≤ sizeLine by decide), fun l2 h2 => ⟨lg, l2, g, [], rfl, rfl, (s.trans (Same.upd h2)).seq hW.g, SqL.of upd_same, _, rfl, ite2D (fun e1 => ⟨_, rfl, r _ _ (o.ok ob gw _ _ (s.trans (Same.upd h2)))⟩) (fun e1 => n _ _ ⟨z, hz, s.trans (Same.upd h2), ob, gw, rfl⟩)⟩⟩
    case a7 =>
      rintro σ H' ⟨z, hz, s, ob, gw, rfl⟩
      have po : (Str.ofString "(").length ≤ 1 := by decide +kernel
      have pc : (Str.ofString ")").length ≤ 1 := by decide +kernel
      exact ⟨_, rfl, _, _, rfl, rfl, add_ok' hz po (by decide), _, rfl, p, _, _, _, rfl, rfl, s.tup hW.t, rfl, lg, g, rfl, s.seq hW.g, figs36 ob gw.fg, gw.lg, fun y H1 hy s1 => ⟨_, _, rfl, rfl, add_ok' (add_le' hz po) hy (by decide), _, _, rfl, rfl, add_ok' (add_le' (add_le' hz po) hy) pc (by decide), o.ok ob gw _ _ (s.trans s1)⟩⟩
theorem gotE_result_of (T : Txt K mg) : GotE P w K mg base "result_of" 2 ["base", "top", "bottom"] (spResultOf K mg) := by
  obtain ⟨C_TooLong, X_TooLong, R_TooLong⟩ := T.x_TooLong
  refine T.d_result_of.gotE sc_result_of (fun vs H Q E h => ?_) (fun f cdv A outer s H vs Q E hr h => ?_)
  · obtain ⟨b, t, q, rfl, _⟩ := h; rfl
  · obtain ⟨b, t, q, rfl, b2, b36, t0, q0, qs, o1, o2⟩ := h
    have g0 : 0 < Int.gcd t q := Int.gcd_pos_of_ne_zero_right _ (by omega)
    have gl : Int.gcd t q ≤ q.natAbs := Nat.le_of_dvd (by omega) (Int.gcd_dvd_natAbs_right _ _)
    have np : ∀ x y : Int, 0 < y → y.natAbs ≤ q.natAbs → CDivB x y := fun x y y0 h => ⟨y0, PyProof.noPylong_of_log2 ((Nat.log2_lt (by omega)).mpr (Nat.lt_of_le_of_lt h (Nat.lt_trans qs (Nat.pow_lt_pow_right (by decide) (by decide)))))⟩
    have npg : ∀ x : Int, CDivB x ((Int.gcd t q : Nat) : Int) := fun x => np x _ (by omega) (by rw [Int.natAbs_natCast]; exact gl)
    refine ⟨_, (pss_cons (ps_if (pt_cmpR op_gt (pe_op op_fdivB (pv 1) (pv 2)) (pe_globI T.i_GREATEST_WHOLE rfl) (nomark _)) (pss_one (ps_raise X_TooLong rfl (pa_k pe_str pa_nil))) pss_nil)
      (pss_cons (ps_set (i := 3) sc_result_of.nd rfl (Or.inl rfl) (pe_callG (got_common_measure T) (hr.mono (by decide)) rfl (pa_n (pv 1) (pa_n (pv 2) pa_nil))))
      (pss_cons (ps_if (pt_cmpR op_gt (pe_op op_fdivB (pv 2) (pv 3)) (pe_globI T.i_GREATEST_BOTTOM rfl) (nomark _)) (pss_one (ps_raise X_TooLong rfl (pa_k pe_str pa_nil))) pss_nil)
      (pss_one (ps_ret (pe_callG (got_divided_out T) (hr.mono (by decide)) rfl (pa_n (pv 0) (pa_b (pe_op op_fdivB (pv 1) (pv 3)) (pa_b (pe_op op_fdivB (pv 2) (pv 3)) pa_nil))))))))), ?_⟩
    refine ⟨_, rfl, _, rfl, _, _, rfl, rfl, np t q q0 (Nat.le_refl _), _, _, rfl, rfl, _, rfl, ite2D (fun h1 => ?_) (fun h1 => ?_)⟩
    · exact ⟨(show 1 ≤ sizeLine by decide), o1 (.inl h1) _ _ R_TooLong (Same.refl H)⟩
    refine ⟨_, rfl, _, rfl, _, _, rfl, t0, Int.le_of_lt q0, ?_⟩
    refine ⟨_, rfl, _, rfl, _, _, rfl, rfl, npg _, _, _, rfl, rfl, _, rfl, ite2D (fun h2 => ?_) (fun h2 => ?_)⟩
    · exact ⟨(show 1 ≤ sizeLine by decide), o1 (.inr h2) _ _ R_TooLong (Same.refl H)⟩
    have l0 := RF.low_pos (T := t) q0
    have l1 : ¬ 2000 < (RF.low t q).2 := h2
    refine ⟨_, rfl, _, rfl, _, rfl, _, _, rfl, rfl, npg _, _, rfl, _, rfl, _, _, rfl, rfl, npg _, b, (RF.low t q).1, (RF.low t q).2, rfl, b2, b36, low_nonneg t0, by omega, by omega, ?_⟩
    exact o2 (fun z => z.elim h1 h2)
theorem gotE_added (T : Txt K mg) : GotE P w K mg base "added" 4 ["base", "one", "other"] (spAddedE K mg) := by
  refine T.d_added.gotE sc_added (fun vs H Q E h => ?_) (fun f cdv A outer s H vs Q E hr h => ?_)
  · rcases h with h | h
    · obtain ⟨b, p1, la1, lg1, x1, a1, g1, p2, la2, lg2, x2, a2, g2, rfl, _⟩ := h; rfl
    · obtain ⟨b, p1, la1, lg1, x1, a1, g1, p2, la2, lg2, x2, a2, g2, rfl, _⟩ := h; rfl
  · refine ⟨_, (pss_cons (ps_set (i := 3) sc_added.nd rfl (Or.inl rfl) (pe_callE (gotE_worth T) (hr.mono (by decide)) rfl (pa_n (pv 0) (pa_n (pv 1) pa_nil))))
      (pss_cons (ps_set (i := 4) sc_added.nd rfl (Or.inl rfl) (pe_callE (gotE_worth T) (hr.mono (by decide)) rfl (pa_n (pv 0) (pa_n (pv 2) pa_nil))))
      (pss_cons (ps_set (i := 5) sc_added.nd rfl (Or.inl rfl) (pe_op op_add (pe_op op_mulB (pe_ix ix_tup (pv 3) pe_int px_k) (pe_ix ix_tup (pv 4) pe_int px_k)) (pe_op op_mulB (pe_ix ix_tup (pv 4) pe_int px_k) (pe_ix ix_tup (pv 3) pe_int px_k))))
      (pss_one (ps_ret (pe_callE (gotE_result_of T) (hr.mono (by decide)) rfl (pa_n (pv 0) (pa_n (pv 5) (pa_b (pe_op op_mulB (pe_ix ix_tup (pv 3) pe_int px_k) (pe_ix ix_tup (pv 4) pe_int px_k)) pa_nil))))))))), ?_⟩
    rcases h with h | h
    · obtain ⟨b, p1, la1, lg1, x1, a1, g1, p2, la2, lg2, x2, a2, g2, rfl, b2, b36, w1, k1, w2, k2, o⟩ := h
      have z1 := k1.sizes b2
      have z2 := k2.sizes b2
      refine ⟨_, rfl, _, rfl, .inl ⟨b, p1, la1, lg1, x1, a1, g1, rfl, b2, b36, w1, k1.gw, k1.dv, fun r1 H1 s1 n1 e1 => ?_⟩⟩
      refine ⟨_, rfl, _, rfl, .inl ⟨b, p2, la2, lg2, x2, a2, g2, rfl, b2, b36, s1.wr w2, k2.gw, k2.dv, fun r2 H2 s2 n2 e2 => ?_⟩⟩
      have e1' := s2 _ _ e1
      refine ⟨_, rfl, r1, _, _, _, rfl, rfl, SqT.of e1', rfl, _, rfl, r2, _, _, _, rfl, rfl, SqT.of e2, rfl, _, _, rfl, rfl, mulOk_of z1.ts z2.qs (by decide), ?_⟩
      refine ⟨_, rfl, r2, _, _, _, rfl, rfl, SqT.of e2, rfl, _, rfl, r1, _, _, _, rfl, rfl, SqT.of e1', rfl, _, _, rfl, rfl, mulOk_of z2.ts z1.qs (by decide), _, _, rfl, rfl, ?_⟩
      refine ⟨_, rfl, _, rfl, _, rfl, r1, _, _, _, rfl, rfl, SqT.of e1', rfl, _, rfl, r2, _, _, _, rfl, rfl, SqT.of e2, rfl, _, _, rfl, rfl, mulOk_of z1.qs z2.qs (by decide), b, _, _, rfl, b2, b36, ?_, Int.mul_pos z1.q0 z2.q0, ?_, o.up (s1.trans s2)⟩
      · have h1 := Int.mul_nonneg z1.t0 (Int.le_of_lt z2.q0)
        have h2 := Int.mul_nonneg z2.t0 (Int.le_of_lt z1.q0)
        exact Int.add_nonneg h1 h2
      · rw [Int.natAbs_mul]
        have := Nat.mul_lt_mul_of_lt_of_lt z1.qs z2.qs
        rw [← Nat.pow_add] at this
        exact Nat.lt_trans this (Nat.pow_lt_pow_right (by decide) (by decide))
    · obtain ⟨b, p1, la1, lg1, x1, a1, g1, p2, la2, lg2, x2, a2, g2, rfl, w1, w2, h⟩ := h
      rcases h with h | ⟨ob, k1, nb, r⟩
      · exact ⟨_, rfl, _, rfl, .inr ⟨b, p1, la1, lg1, x1, a1, g1, rfl, w1, h⟩⟩
      · refine ⟨_, rfl, _, rfl, .inl ⟨b, p1, la1, lg1, x1, a1, g1, rfl, ob.1, ob.2, w1, k1.gw, k1.dv, fun r1 H1 s1 n1 e1 => ?_⟩⟩
        exact ⟨_, rfl, _, rfl, .inr ⟨b, p2, la2, lg2, x2, a2, g2, rfl, s1.wr w2, .inr ⟨ob, nb, r.up s1⟩⟩⟩
theorem gotE_times (T : Txt K mg) : GotE P w K mg base "times" 4 ["base", "writing", "number"] (spTimesE K mg) := by
  refine T.d_times.gotE sc_times (fun vs H Q E h => ?_) (fun f cdv A outer s H vs Q E hr h => ?_)
  · rcases h with h | h
    · obtain ⟨b, p, la, lg, x, a, g, n, rfl, _⟩ := h; rfl
    · obtain ⟨b, p, la, lg, x, a, g, n, rfl, _⟩ := h; rfl
  · refine ⟨_, (pss_cons (ps_set (i := 3) sc_times.nd rfl (Or.inl rfl) (pe_callE (gotE_worth T) (hr.mono (by decide)) rfl (pa_n (pv 0) (pa_n (pv 1) pa_nil))))
      (pss_cons (ps_expr (pe_callE (gotE_check_number T) (hr.mono (by decide)) rfl (pa_n (pv 2) pa_nil)))
      (pss_one (ps_ret (pe_callE (gotE_result_of T) (hr.mono (by decide)) rfl (pa_n (pv 0) (pa_b (pe_op op_mulB (pe_ix ix_tup (pv 3) pe_int px_k) (pv 2)) (pa_s (pe_ix ix_tup (pv 3) pe_int px_k) pa_nil)))))))), ?_⟩
    rcases h with h | h
    · obtain ⟨b, p, la, lg, x, a, g, n, rfl, b2, b36, w1, k1, o1, o2⟩ := h
      have z1 := k1.sizes b2
      refine ⟨_, rfl, _, rfl, .inl ⟨b, p, la, lg, x, a, g, rfl, b2, b36, w1, k1.gw, k1.dv, fun r1 H1 s1 n1 e1 => ?_⟩⟩
      refine ⟨_, rfl, n, rfl, fun hn => ?_, fun hn => (o2 hn).up s1⟩
      have hn1 := hn.1
      have hn2 := hn.2
      refine ⟨_, rfl, _, rfl, r1, _, _, _, rfl, rfl, SqT.of e1, rfl, _, rfl, _, _, rfl, rfl, mulOk_of (n := 64) z1.ts (show n.natAbs < 2 ^ 64 by omega) (by decide), _, rfl, r1, _, _, _, rfl, rfl, SqT.of e1, rfl, b, _, _, rfl, b2, b36, Int.mul_nonneg z1.t0 hn1, z1.q0, Nat.lt_trans z1.qs (Nat.pow_lt_pow_right (by decide) (by decide)), (o1 hn).up s1⟩
    · obtain ⟨b, p, la, lg, x, a, g, n, rfl, w1, h⟩ := h
      exact ⟨_, rfl, _, rfl, .inr ⟨b, p, la, lg, x, a, g, rfl, w1, h⟩⟩
theorem got_law_cell_at (T : Txt K mg) : Got P w K mg base "_law_cell_at" 1 ["script", "k"] (spCell K) := by
  refine T.d_law_cell_at.got sc_law_cell_at (fun vs H Q E h => ?_) (fun f cdv A outer s H vs Q E hr h => ?_)
  · obtain ⟨a, ns, k, rfl, _⟩ := h; rfl
  · obtain ⟨a, ns, i, rfl, hS, h0, k⟩ := h
    refine ⟨_, (pss_cons (ps_if (pt_cmpR op_lt (pv 1) (pe_callB call_len_seq rfl T.b_len PySem.boot_len (pa_n (pv 0) pa_nil)) (nomark _)) (pss_one (ps_ret (pe_ix ix_list (pv 0) (pv 1) px_n))) pss_nil)
      (pss_one (ps_ret pe_int))), ?_⟩
    refine ⟨_, rfl, _, rfl, a, _, rfl, .inl hS, _, _, rfl, rfl, _, rfl, ite2D (fun hk => ?_) (fun hk => ?_)⟩
    · rw [List.length_map] at hk
      exact ⟨_, rfl, _, rfl, a, _, _, _, rfl, rfl, hS, atI_int h0 hk, k _ rfl⟩
    · rw [List.length_map] at hk
      exact k 0 (getD_out hk).symm
theorem got_law_draw (T : Txt K mg) : Got P w K mg base "_law_draw" 1 ["cell", "k", "bound"] spDraw := by
  refine T.d_law_draw.got sc_law_draw (fun vs H Q E h => ?_) (fun f cdv A outer s H vs Q E hr h => ?_)
  · obtain ⟨c, i, b, rfl, _⟩ := h; rfl
  · obtain ⟨c, i, b, rfl, hb, k⟩ := h
    refine ⟨_, (pss_cons (ps_set (i := 3) sc_law_draw.nd rfl (Or.inl rfl) (pe_op op_mod (pe_op op_mul (pe_op op_add (pe_op op_add (pe_op op_mod (pv 0) pe_int) (pe_op op_mul pe_int (pv 1))) pe_int) pe_int) pe_int))
      (pss_cons (ps_set (i := 3) sc_law_draw.nd rfl (Or.inl rfl) (pe_op op_mod (pe_op op_mul (pv 3) (pv 3)) pe_int))
      (pss_cons (ps_set (i := 3) sc_law_draw.nd rfl (Or.inl rfl) (pe_op op_mod (pe_op op_mul (pe_op op_add (pv 3) (pe_op op_mul pe_int (pe_op op_add (pv 1) pe_int))) pe_int) pe_int))
      (pss_one (ps_ret (pe_op op_mod (pe_op op_fdiv (pv 3) pe_int) (pv 2))))))), ?_⟩
    refine ⟨_, rfl, _, _, rfl, rfl, (show (0 : Int) < 2147483647 by decide), _, rfl, _, _, rfl, rfl, .inl ⟨by decide, by decide⟩, _, _, rfl, rfl, _, _, rfl, rfl, _, _, rfl, rfl, .inr ⟨by decide, by decide⟩, _, _, rfl, rfl, (show (0 : Int) < 2147483647 by decide), ?_⟩
    refine ⟨_, rfl, _, rfl, _, _, rfl, rfl, cmul_mod _ _, _, _, rfl, rfl, (show (0 : Int) < 2147483629 by decide), ?_⟩
    refine ⟨_, rfl, _, rfl, _, _, rfl, rfl, _, _, rfl, rfl, .inl ⟨by decide, by decide⟩, _, _, rfl, rfl, _, _, rfl, rfl, .inr ⟨by decide, by decide⟩, _, _, rfl, rfl, (show (0 : Int) < 2147483647 by decide), ?_⟩
    exact ⟨_, rfl, _, _, rfl, rfl, ⟨by decide, by decide⟩, _, rfl, _, _, rfl, rfl, hb, k⟩
theorem got_law_figures_by (T : Txt K mg) : Got P w K mg base "_law_figures_by" 2 ["cell", "base", "many"] spFiguresBy := by
  refine T.d_law_figures_by.got sc_law_figures_by (fun vs H Q E h => ?_) (fun f cdv A outer s H vs Q E hr h => ?_)
  · obtain ⟨c, b, n, rfl, _⟩ := h; rfl
  · obtain ⟨c, b, n, rfl, b2, b36, n0, n1, k⟩ := h
    refine ⟨_, (pss_one (ps_ret (pe_comp [("cell", 0), ("base", 1)] rfl (pi_range1 rfl T.b_range (pa_n (pv 2) pa_nil)) ⟨rfl, by decide +kernel, by decide +kernel, rfl, rfl, rfl, ⟨⟨rfl, Or.inr (Or.inl rfl), Or.inl rfl, Or.inl rfl, rfl⟩, ⟨⟨rfl, Or.inr (Or.inl rfl), Or.inl rfl, Or.inl rfl, rfl⟩, True.intro⟩⟩, by decide +kernel⟩ (fun _ _ _ _ => (pe_callG (got_law_draw T) (hr.mono (by decide)) rfl (pa_n (pv 1) (pa_n (pv 0) (pa_n (pv 2) pa_nil)))))))), ?_⟩
    refine ⟨_, rfl, n, rfl, by omega, by omega, fun D hD => ?_⟩
    refine comp_range (lo := 0) (n := n.toNat) (fun i => V.int (drawF c (0 + (i : Int)) b)) (Nat.le_of_lt (size2000 (by omega))) hD ?_ ?_
    · intro i H2 hi s2 R hR
      exact ⟨_, rfl, _, rfl, _, rfl, c, _, b, rfl, by omega, hR⟩
    · have e : (List.range n.toNat).map (fun (i : Nat) => V.int (drawF c (0 + (i : Int)) b)) = (drawL c b n.toNat).map V.int := by
        unfold drawL
        rw [List.map_map]; rfl
      rw [e]
      exact k (drawL c b n.toNat) D drawL_length (drawL_figs (by omega)) hD
theorem got_law_writing_by (T : Txt K mg) : Got P w K mg base "_law_writing_by" 3 ["script", "first", "base"] (spWritingBy K) := by
  refine T.d_law_writing_by.got sc_law_writing_by (fun vs H Q E h => ?_) (fun f cdv A outer s H vs Q E hr h => ?_)
  · obtain ⟨sc, ns, i, b, rfl, _⟩ := h; rfl
  · obtain ⟨sc, ns, i, b, rfl, hS, i0, b2, b36, k⟩ := h
    refine ⟨_, (pss_mid (ps_set (i := 3) sc_law_writing_by.nd rfl (Or.inl rfl) (pe_op op_mod (pe_callG (got_law_cell_at T) (hr.mono (by decide)) rfl (pa_n (pv 0) (pa_n (pv 1) pa_nil))) pe_int))
      (pss_mid (ps_if (pt_cmpR op_eq (pe_op op_mod (pe_op op_fdiv (pe_callG (got_law_cell_at T) (hr.mono (by decide)) rfl (pa_n (pv 0) (pa_n (pv 1) pa_nil))) pe_int) pe_int) pe_int (nomark _)) (pss_one (ps_set (i := 3) sc_law_writing_by.nd rfl (Or.inl rfl) (pe_op op_mod (pe_callG (got_law_cell_at T) (hr.mono (by decide)) rfl (pa_n (pv 0) (pa_n (pv 1) pa_nil))) (pe_op op_pow pe_int pe_int)))) pss_nil)
      (pss_mid (ps_if (pt_cmpR op_eq (pe_op op_mod (pe_op op_fdiv (pe_callG (got_law_cell_at T) (hr.mono (by decide)) rfl (pa_n (pv 0) (pa_n (pv 1) pa_nil))) pe_int) pe_int) pe_int (nomark _)) (pss_one (ps_set (i := 3) sc_law_writing_by.nd rfl (Or.inl rfl) (pe_op op_pow pe_int pe_int))) pss_nil)
      (pss_mid (ps_set (i := 4) sc_law_writing_by.nd rfl (Or.inl rfl) (pe_callG (got_law_cell_at T) (hr.mono (by decide)) rfl (pa_n (pv 0) (pa_b (pe_op op_add (pv 1) pe_int) pa_nil))))
      (pss_mid (ps_set (i := 5) sc_law_writing_by.nd rfl (Or.inl rfl) (pe_callG (got_law_figures_by T) (hr.mono (by decide)) rfl (pa_c (pe_callG (got_law_cell_at T) (hr.mono (by decide)) rfl (pa_n (pv 0) (pa_b (pe_op op_add (pv 1) pe_int) pa_nil))) (pa_n (pv 2) (pa_b (pe_op op_mod (pv 4) pe_int) pa_nil)))))
      (pss_mid (ps_set (i := 6) sc_law_writing_by.nd rfl (Or.inl rfl) (pe_callG (got_law_figures_by T) (hr.mono (by decide)) rfl (pa_c (pe_callG (got_law_cell_at T) (hr.mono (by decide)) rfl (pa_n (pv 0) (pa_b (pe_op op_add (pv 1) pe_int) pa_nil))) (pa_n (pv 2) (pa_b (pe_op op_mod (pe_op op_fdiv (pv 4) pe_int) pe_int) pa_nil)))))
      (pss_mid (ps_set (i := 7) sc_law_writing_by.nd rfl (Or.inl rfl) (pe_op op_mod (pe_op op_fdiv (pv 4) pe_int) pe_int))
      (pss_mid (ps_if (pt_cmpR op_eq (pe_op op_mod (pe_op op_fdiv (pv 4) pe_int) pe_int) pe_int (nomark _)) (pss_mid (ps_set (i := 6) sc_law_writing_by.nd rfl (Or.inl rfl) (pe_callG (got_law_figures_by T) (hr.mono (by decide)) rfl (pa_c (pe_callG (got_law_cell_at T) (hr.mono (by decide)) rfl (pa_n (pv 0) (pa_b (pe_op op_add (pv 1) pe_int) pa_nil))) (pa_n (pv 2) (pa_b (pe_op op_add pe_int (pe_op op_mod (pe_op op_fdiv (pv 4) pe_int) pe_int)) pa_nil)))))
      (pss_mid (ps_set (i := 5) sc_law_writing_by.nd rfl (Or.inl rfl) (pe_op op_cat (pe_op op_cat (pv 5) (pe_callG (got_law_figures_by T) (hr.mono (by decide)) rfl (pa_c (pe_callG (got_law_cell_at T) (hr.mono (by decide)) rfl (pa_n (pv 0) (pa_b (pe_op op_add (pv 1) pe_int) pa_nil))) (pa_n (pv 2) (pa_k pe_int pa_nil))))) (pe_slice sl_list (pv 6) (po_some (pe_op op_mod (pv 4) pe_int)) po_none)))
      (pss_one (ps_ret (pe_tup (pa_n (pv 3) (pa_n (pv 5) (pa_b (pe_op op_rep (pv 6) (pe_op op_add pe_int (pe_op op_mod (pv 4) pe_int))) pa_nil)))))))) pss_nil)
      (pss_mid (ps_if (pt_cmpR op_eq (pv 7) pe_int (nomark _)) (pss_one (ps_comp (i := 6) [("base", 2)] sc_law_writing_by.nd rfl (Or.inl rfl) rfl (pi_list (pv 6)) ⟨rfl, by decide +kernel, by decide +kernel, rfl, rfl, rfl, ⟨⟨rfl, Or.inr (Or.inl rfl), Or.inl rfl, Or.inl rfl, rfl⟩, True.intro⟩, by decide +kernel⟩ (fun _ _ _ _ => (pe_op op_sub (pv 1) pe_int)))) pss_nil)
      (pss_mid (ps_if (pt_cmpR op_eq (pv 7) pe_int (nomark _)) (pss_one (ps_comp (i := 6) [] sc_law_writing_by.nd rfl (Or.inl rfl) rfl (pi_list (pv 6)) ⟨rfl, by decide +kernel, by decide +kernel, rfl, rfl, rfl, True.intro, by decide +kernel⟩ (fun _ _ _ _ => pe_int))) pss_nil)
      (pss_mid (ps_if (pt_cmpR op_eq (pv 7) pe_int (nomark _)) (pss_one (ps_set (i := 6) sc_law_writing_by.nd rfl (Or.inl rfl) (pe_op op_cat (pv 6) (pv 6)))) pss_nil)
      (pss_mid (ps_if (pt_cmpR op_eq (pv 7) pe_int (nomark _)) (pss_one (ps_set (i := 5) sc_law_writing_by.nd rfl (Or.inl rfl) (pe_op op_cat (pv 5) (pe_slice sl_list (pv 6) (po_some pe_int) po_none)))) pss_nil)
      (pss_mid (ps_if (pt_cmpR op_eq (pv 7) pe_int (nomark _)) (pss_mid (ps_set (i := 5) sc_law_writing_by.nd rfl (Or.inl rfl) (pe_op op_cat (pv 5) (pe_comp [("base", 2)] rfl (pi_list (pv 6)) ⟨rfl, by decide +kernel, by decide +kernel, rfl, rfl, rfl, ⟨⟨rfl, Or.inr (Or.inl rfl), Or.inl rfl, Or.inl rfl, rfl⟩, True.intro⟩, by decide +kernel⟩ (fun _ _ _ _ => (pe_op op_sub (pv 1) pe_int)))))
      (pss_one (ps_set (i := 6) sc_law_writing_by.nd rfl (Or.inl rfl) (pe_lst (pa_b (pe_op op_sub (pv 2) pe_int) pa_nil))))) pss_nil)
      (pss_mid (ps_if (pt_cmpR op_eq (pv 7) pe_int (nomark _)) (pss_mid (ps_set (i := 5) sc_law_writing_by.nd rfl (Or.inl rfl) (pe_op op_cat (pv 5) (pe_comp [] rfl (pi_list (pv 6)) ⟨rfl, by decide +kernel, by decide +kernel, rfl, rfl, rfl, True.intro, by decide +kernel⟩ (fun _ _ _ _ => pe_int))))
      (pss_one (ps_set (i := 6) sc_law_writing_by.nd rfl (Or.inl rfl) (pe_lst pa_nil)))) pss_nil)
      (pss_mid (ps_if (pt_cmpR op_eq (pv 7) pe_int (nomark _)) (pss_one (ps_set (i := 6) sc_law_writing_by.nd rfl (Or.inl rfl) (pe_op op_rep (pe_slice sl_list (pv 6) po_none (po_some pe_int)) (pe_op op_add pe_int (pe_op op_mod (pe_op op_fdiv (pv 4) pe_int) pe_int))))) pss_nil)
      (pss_one (ps_ret (pe_tup (pa_n (pv 3) (pa_n (pv 5) (pa_n (pv 6) pa_nil))))))))))))))))))))), ?_⟩
    refine md (fun σ H' => ∃ x : Int, 0 ≤ x ∧ x ≤ 1000000000000 ∧ σ = [some (.ref sc), some (.int i), some (.int b), some (.int x), none, none, none, none] ∧ H' = H) ?a1 (mr (fun σ H' => ∃ x : Int, 0 ≤ x ∧ x ≤ 1000000000000 ∧ σ = [some (.ref sc), some (.int i), some (.int b), some (.int x), none, none, none, none] ∧ H' = H) ?a2 (mr (fun σ H' => ∃ x : Int, 0 ≤ x ∧ x ≤ 1000000000000 ∧ σ = [some (.ref sc), some (.int i), some (.int b), some (.int x), none, none, none, none] ∧ H' = H) ?a3 (mr (fun σ H' => ∃ x c : Int, 0 ≤ x ∧ x ≤ 1000000000000 ∧ σ = [some (.ref sc), some (.int i), some (.int b), some (.int x), some (.int c), none, none, none] ∧ H' = H) ?a4 (mr (WB5 H sc i b) ?a5 (mr (WB6 H sc i b) ?a6 (mr (WBx H sc i b 5 6) ?w0 (mr (WBx H sc i b 5 6) ?w1 (mr (WBx H sc i b 5 6) ?w2 (mr (WBx H sc i b 5 6) ?w3 (mr (WBx H sc i b 5 12) ?w4 (mr (WBx H sc i b 17 12) ?w5 (mr (WBx H sc i b 29 12) ?w6 (mr (WBx H sc i b 41 12) ?w7 (mr (WBx H sc i b 41 84) ?w8 ?z))))))))))))))
    case a1 =>
      intro D n r
      exact ⟨_, rfl, _, rfl, sc, ns, _, rfl, hS, i0, fun z0 _ => ⟨_, _, rfl, rfl, (show (0 : Int) < 40 by decide), n _ _ ⟨z0 % 40, em0 (by decide), em1 (by decide) (by decide), rfl, rfl⟩⟩⟩
    case a2 =>
      rintro σ H' ⟨x, x0, x1, rfl, rfl⟩ D n r
      refine ⟨_, rfl, _, rfl, sc, ns, _, rfl, hS, i0, fun z _ => ⟨_, _, rfl, rfl, ⟨by decide, by decide⟩, _, _, rfl, rfl, (show (0 : Int) < 4 by decide), rfl, _, rfl, ite2D (fun _ => ?_) (fun _ => n _ _ ⟨x, x0, x1, rfl, rfl⟩)⟩⟩
      refine ⟨_, rfl, _, rfl, sc, ns, _, rfl, hS, i0, fun z2 _ => ⟨_, _, rfl, rfl, ⟨by decide, by decide, by decide⟩, _, _, rfl, rfl, (show (0 : Int) < 10 ^ (12 : Int).toNat by decide), ?_⟩⟩
      exact n _ _ ⟨z2 % 10 ^ (12 : Int).toNat, em0 (by decide), em1 (by decide) (by decide), rfl, rfl⟩
    case a3 =>
      rintro σ H' ⟨x, x0, x1, rfl, rfl⟩ D n r
      refine ⟨_, rfl, _, rfl, sc, ns, _, rfl, hS, i0, fun z _ => ⟨_, _, rfl, rfl, ⟨by decide, by decide⟩, _, _, rfl, rfl, (show (0 : Int) < 16 by decide), rfl, _, rfl, ite2D (fun _ => ?_) (fun _ => n _ _ ⟨x, x0, x1, rfl, rfl⟩)⟩⟩
      exact ⟨_, _, rfl, rfl, ⟨by decide, by decide, by decide⟩, n _ _ ⟨10 ^ (12 : Int).toNat, by decide, by decide, rfl, rfl⟩⟩
    case a4 =>
      rintro σ H' ⟨x, x0, x1, rfl, rfl⟩ D n r
      exact ⟨_, rfl, _, rfl, _, _, rfl, rfl, sc, ns, _, rfl, hS, next0 i0 (by decide), fun c _ => n _ _ ⟨x, c, x0, x1, rfl, rfl⟩⟩
    case a5 =>
      rintro σ H' ⟨x, c, x0, x1, rfl, rfl⟩ D n r
      exact ⟨_, rfl, _, rfl, _, _, rfl, rfl, sc, ns, _, rfl, hS, next0 i0 (by decide), fun z1 _ => ⟨_, rfl, _, rfl, _, _, rfl, rfl, (show (0 : Int) < 6 by decide), z1, b, _, rfl, b2, b36, em0 (by decide), em1 (by decide) (by decide), fun a la ha fa na => n _ _ ⟨x, c, la, a, x0, x1, fa, eml ha (by decide) (by decide), na, rfl, rfl⟩⟩⟩
    case a6 =>
      rintro σ H' ⟨x, c, la, a, x0, x1, fa, ha, na, rfl, rfl⟩ D n r
      have s1 := Same.upd (o := .lst (a.map V.int)) na
      exact ⟨_, rfl, _, rfl, _, _, rfl, rfl, sc, ns, _, rfl, s1.seq hS, next0 i0 (by decide), fun z2 _ => ⟨_, rfl, _, rfl, _, _, rfl, rfl, ⟨by decide, by decide⟩, _, _, rfl, rfl, (show (0 : Int) < 7 by decide), z2, b, _, rfl, b2, b36, em0 (by decide), em1 (by decide) (by decide), fun g lg hg fg ng => n _ _ ⟨x, c, la, lg, a, g, x0, x1, fa, ha, fg, eml hg (by decide) (by decide),
        ⟨s1.trans (Same.upd ng), (Same.upd ng) _ _ upd_same, upd_same, na, s1.free ng, ne_of_none upd_same ng⟩, rfl⟩⟩⟩
    case w0 =>
      rintro σ H' ⟨x, c, la, lg, a, g, x0, x1, fa, ha, fg, hg, nl, rfl⟩ D n r
      exact ⟨_, rfl, _, _, rfl, rfl, ⟨by decide, by decide⟩, _, _, rfl, rfl, (show (0 : Int) < 8 by decide), n _ _ ⟨x, c, x0, x1, la, lg, a, g, _, rfl, nl, fa, fg, ha, hg⟩⟩
    case w1 =>
      intro σ H' m D n r
      refine m.elim fun x c la lg a g wv x0 x1 nl fa fg ha hg => ?_
      refine ⟨_, rfl, _, _, rfl, rfl, ⟨by decide, by decide⟩, _, _, rfl, rfl, (show (0 : Int) < 9 by decide), rfl, _, rfl, ite2D (fun _ => ?_) (fun _ => n _ _ ⟨x, c, x0, x1, la, lg, a, g, wv, rfl, nl, fa, fg, ha, hg⟩)⟩
      refine md (WBy H sc i b x c 5 69) ?b1 (mr (WBy H sc i b x c 124 69) ?b2 ?b3)
      case b1 =>
        intro D1 n1 r1
        have o30 : OffR (30 + c / 3 % 40) 69 := .of (by decide) (by decide) (by decide)
        exact ⟨_, rfl, _, rfl, _, _, rfl, rfl, sc, ns, _, rfl, nl.sm.seq hS, next0 i0 (by decide), fun z3 _ => ⟨_, rfl, _, rfl, _, _, rfl, rfl, ⟨by decide, by decide⟩, _, _, rfl, rfl, (show (0 : Int) < 40 by decide), _, _, rfl, rfl, z3, b, _, rfl, b2, b36, o30.lo, o30.top (by decide), fun r lr hr' fr nr => n1 _ _ ⟨la, lr, a, r, wv, rfl, nl.ring nr, fa, fr, ha, o30.len hr'⟩⟩⟩
      case b2 =>
        clear nl fa fg ha hg n
        intro σ H1 m1 D1 n1 r1
        refine m1.elim fun la lr a r wv nl fa fr ha hr' => ?_
        refine ⟨_, rfl, _, rfl, _, rfl, _, _, rfl, rfl, sc, ns, _, rfl, nl.sm.seq hS, next0 i0 (by decide), fun z4 _ => ⟨_, rfl, z4, b, _, rfl, b2, b36, by decide, by decide, fun e le he fe ne' => ?_⟩⟩
        have he50 : e.length ≤ 50 := Nat.le_of_eq he
        have n2 := nl.more (o := .lst (e.map V.int)) ne'
        refine ⟨la, le, _, _, rfl, rfl, n2.a, upd_same, sz2 ha he50 (by decide), fun l1 h1 => ?_⟩
        rw [← List.map_append]
        have n3 := n2.more (o := .lst ((a ++ e).map V.int)) h1
        obtain ⟨g', eg, mg', lg'⟩ := cut_ex r (some (c % 9)) none
        refine ⟨_, rfl, _, rfl, _, _, rfl, rfl, (show (0 : Int) < 9 by decide), _, rfl, lr, _, rfl, SqL.of n3.g, fun l2 h2 => ?_⟩
        rw [eg]
        have n4 := n3.more (o := .lst (g'.map V.int)) h2
        refine ⟨l1, l2, _, _, rfl, rfl, (Same.upd h2) _ _ upd_same, upd_same, sz2 (app_le ha he50) (Nat.le_trans lg' hr') (by decide), fun l3 h3 => ?_⟩
        rw [← List.map_append]
        exact n1 _ _ ⟨l3, lr, a ++ e ++ g', r, wv, rfl, n4.ahead h3, figs_append (figs_append fa fe) (fun d hd => fr d (mg' d hd)), fr, app_le (app_le ha he50) (Nat.le_trans lg' hr'), hr'⟩
      case b3 =>
        clear nl fa fg ha hg n
        rintro σ H1 ⟨la, lr, a, g, wv, rfl, nl, fa, fr, ha, hg⟩
        have o2 : OffR (1 + c % 2) 2 := .of (by decide) (by decide) (by decide)
        refine ⟨_, rfl, _, rfl, _, rfl, _, rfl, _, _, rfl, rfl, (show (0 : Int) < 2 by decide), _, _, rfl, rfl, lr, _, _, rfl, rfl, nl.g, o2.ge (by decide), o2.lt (by decide), szr o2.nat hg (by decide), fun l4 h4 => ⟨(show 3 ≤ sizeLine by decide), fun p hp => ?_⟩⟩
        rw [map_rep] at hp ⊢
        exact r _ _ (k x a (RF.rep (1 + c % 2).toNat g) p la l4 _ ⟨x0, x1, fa, figs_rep fr, Nat.le_trans ha (by decide), Nat.le_trans (rep_le o2.nat hg) (by decide)⟩ (Nat.le_trans ha (by decide)) (Nat.le_trans (rep_le o2.nat hg) (by decide)) ((nl.ring h4).wr hp))
    case w2 =>
      intro σ H' m D n r
      refine m.elim fun x c la lg a g wv x0 x1 nl fa fg ha hg => ?_
      refine ⟨_, rfl, rfl, _, rfl, ite2D (fun _ => ?_) (fun _ => n _ _ ⟨x, c, x0, x1, la, lg, a, g, wv, rfl, nl, fa, fg, ha, hg⟩)⟩
      refine ⟨_, rfl, lg, rfl, ⟨_, SqL.of nl.g⟩, fun D1 hD => ?_⟩
      refine comp_list (K := K) (a := lg) (xs := g.map V.int) (fun _ => V.int (b - 1)) (szm hg (by decide)) hD (fun H2 s2 => s2.seq (SqL.of nl.g)) (fun _ _ _ _ _ R hR => ⟨_, rfl, _, _, rfl, rfl, hR⟩) ?_
      rw [List.length_map, map_const]
      exact n _ _ ⟨x, c, x0, x1, la, D1, a, List.replicate g.length (b - 1), wv, rfl, nl.ring hD, fa, figs_up b2, ha, repl_le hg⟩
    case w3 =>
      intro σ H' m D n r
      refine m.elim fun x c la lg a g wv x0 x1 nl fa fg ha hg => ?_
      refine ⟨_, rfl, rfl, _, rfl, ite2D (fun _ => ?_) (fun _ => n _ _ ⟨x, c, x0, x1, la, lg, a, g, wv, rfl, nl, fa, fg, ha, hg⟩)⟩
      refine ⟨_, rfl, lg, rfl, ⟨_, SqL.of nl.g⟩, fun D1 hD => ?_⟩
      refine comp_list (K := K) (a := lg) (xs := g.map V.int) (fun _ => V.int (0)) (szm hg (by decide)) hD (fun H2 s2 => s2.seq (SqL.of nl.g)) (fun _ _ _ _ _ R hR => hR) ?_
      rw [List.length_map, map_const]
      exact n _ _ ⟨x, c, x0, x1, la, D1, a, List.replicate g.length (0), wv, rfl, nl.ring hD, fa, figs_no b2, ha, repl_le hg⟩
    case w4 =>
      intro σ H' m D n r
      refine m.elim fun x c la lg a g wv x0 x1 nl fa fg ha hg => ?_
      refine ⟨_, rfl, rfl, _, rfl, ite2D (fun _ => ?_) (fun _ => n _ _ ⟨x, c, x0, x1, la, lg, a, g, wv, rfl, nl, fa, fg, ha, Nat.le_trans hg (by decide)⟩)⟩
      refine ⟨_, rfl, _, rfl, lg, lg, _, _, rfl, rfl, nl.g, nl.g, sz2 hg hg (by decide), fun l hl => ?_⟩
      rw [← List.map_append]
      exact n _ _ ⟨x, c, x0, x1, la, l, a, g ++ g, wv, rfl, nl.ring hl, fa, figs_append fg fg, ha, app_le hg hg⟩
    case w5 =>
      intro σ H' m D n r
      refine m.elim fun x c la lg a g wv x0 x1 nl fa fg ha hg => ?_
      refine ⟨_, rfl, rfl, _, rfl, ite2D (fun _ => ?_) (fun _ => n _ _ ⟨x, c, x0, x1, la, lg, a, g, wv, rfl, nl, fa, fg, Nat.le_trans ha (by decide), hg⟩)⟩
      obtain ⟨g', eg, mg', lg'⟩ := cut_ex g (some 1) none
      refine ⟨_, rfl, _, rfl, _, rfl, lg, _, rfl, SqL.of nl.g, fun l1 h1 => ?_⟩
      rw [eg]
      have n1 := nl.more (o := .lst (g'.map V.int)) h1
      refine ⟨la, l1, _, _, rfl, rfl, n1.a, upd_same, sz2 ha (Nat.le_trans lg' hg) (by decide), fun l2 h2 => ?_⟩
      rw [← List.map_append]
      exact n _ _ ⟨x, c, x0, x1, l2, lg, a ++ g', g, wv, rfl, n1.ahead h2, figs_append fa (fun d hd => fg d (mg' d hd)), fg, app_le ha (Nat.le_trans lg' hg), hg⟩
    case w6 =>
      intro σ H' m D n r
      refine m.elim fun x c la lg a g wv x0 x1 nl fa fg ha hg => ?_
      refine ⟨_, rfl, rfl, _, rfl, ite2D (fun _ => ?_) (fun _ => n _ _ ⟨x, c, x0, x1, la, lg, a, g, wv, rfl, nl, fa, fg, Nat.le_trans ha (by decide), hg⟩)⟩
      refine md (WBy H sc i b x c 29 12) ?b1 ?b2
      case b1 =>
        intro D2 n2 r2
        refine ⟨_, rfl, _, rfl, lg, rfl, ⟨_, SqL.of nl.g⟩, fun D1 hD => ?_⟩
        refine comp_list (K := K) (a := lg) (xs := g.map V.int) (fun _ => V.int (b - 1)) (szm hg (by decide)) hD (fun H2 s2 => s2.seq (SqL.of nl.g)) (fun _ _ _ _ _ R hR => ⟨_, rfl, _, _, rfl, rfl, hR⟩) ?_
        rw [List.length_map, map_const]
        have n1 := nl.more (o := .lst ((List.replicate g.length (b - 1)).map V.int)) hD
        refine ⟨la, D1, _, _, rfl, rfl, n1.a, upd_same, sz2 ha (repl_le hg) (by decide), fun l2 h2 => ?_⟩
        rw [← List.map_append]
        exact n2 _ _ ⟨l2, lg, _, g, wv, rfl, n1.ahead (h := a ++ List.replicate g.length (b - 1)) h2, figs_append fa (figs_up b2), fg, app_le ha (repl_le hg), hg⟩
      case b2 =>
        clear nl fa fg ha hg
        rintro σ H1 ⟨la, lg, a, g, wv, rfl, nl, fa, fg, ha, hg⟩
        exact ⟨_, rfl, _, _, rfl, rfl, (show 1 ≤ sizeLine by decide), fun l3 h3 => n _ _ ⟨x, c, x0, x1, la, l3, a, [b - 1], wv, rfl, nl.ring (h := [b - 1]) h3, fa, figs_up (n := 1) b2, ha, (show 1 ≤ 12 by decide)⟩⟩
    case w7 =>
      intro σ H' m D n r
      refine m.elim fun x c la lg a g wv x0 x1 nl fa fg ha hg => ?_
      refine ⟨_, rfl, rfl, _, rfl, ite2D (fun _ => ?_) (fun _ => n _ _ ⟨x, c, x0, x1, la, lg, a, g, wv, rfl, nl, fa, fg, Nat.le_trans ha (by decide), hg⟩)⟩
      refine md (WBy H sc i b x c 41 12) ?b1 ?b2
      case b1 =>
        intro D2 n2 r2
        refine ⟨_, rfl, _, rfl, lg, rfl, ⟨_, SqL.of nl.g⟩, fun D1 hD => ?_⟩
        refine comp_list (K := K) (a := lg) (xs := g.map V.int) (fun _ => V.int (0)) (szm hg (by decide)) hD (fun H2 s2 => s2.seq (SqL.of nl.g)) (fun _ _ _ _ _ R hR => hR) ?_
        rw [List.length_map, map_const]
        have n1 := nl.more (o := .lst ((List.replicate g.length (0)).map V.int)) hD
        refine ⟨la, D1, _, _, rfl, rfl, n1.a, upd_same, sz2 ha (repl_le hg) (by decide), fun l2 h2 => ?_⟩
        rw [← List.map_append]
        exact n2 _ _ ⟨l2, lg, _, g, wv, rfl, n1.ahead (h := a ++ List.replicate g.length (0)) h2, figs_append fa (figs_no b2), fg, app_le ha (repl_le hg), hg⟩
      case b2 =>
        clear nl fa fg ha hg
        rintro σ H1 ⟨la, lg, a, g, wv, rfl, nl, fa, fg, ha, hg⟩
        exact ⟨(show 0 ≤ sizeLine by decide), fun l3 h3 => n _ _ ⟨x, c, x0, x1, la, l3, a, [], wv, rfl, nl.ring (h := []) h3, fa, figs_no (n := 0) b2, ha, (show 0 ≤ 12 by decide)⟩⟩
    case w8 =>
      intro σ H' m D n r
      refine m.elim fun x c la lg a g wv x0 x1 nl fa fg ha hg => ?_
      refine ⟨_, rfl, rfl, _, rfl, ite2D (fun _ => ?_) (fun _ => n _ _ ⟨x, c, x0, x1, la, lg, a, g, wv, rfl, nl, fa, fg, ha, Nat.le_trans hg (by decide)⟩)⟩
      obtain ⟨g', eg, mg', lg'⟩ := cut_ex g none (some 2)
      refine ⟨_, rfl, _, rfl, lg, _, rfl, SqL.of nl.g, fun l1 h1 => ?_⟩
      rw [eg]
      have n1 := nl.more (o := .lst (g'.map V.int)) h1
      have o7 : OffR (3 + c / 336 % 5) 7 := .of (by decide) (by decide) (by decide)
      refine ⟨_, rfl, _, _, rfl, rfl, ⟨by decide, by decide⟩, _, _, rfl, rfl, (show (0 : Int) < 5 by decide), _, _, rfl, rfl, l1, _, _, rfl, rfl, upd_same, o7.ge (by decide), o7.lt (by decide), szr o7.nat (Nat.le_trans lg' hg) (by decide), fun l2 h2 => ?_⟩
      rw [map_rep]
      exact n _ _ ⟨x, c, x0, x1, la, l2, a, RF.rep (3 + c / 336 % 5).toNat g', wv, rfl, n1.ring h2, fa, figs_rep (fun d hd => fg d (mg' d hd)), ha, rep_le o7.nat (Nat.le_trans lg' hg)⟩
    case z =>
      rintro σ H' ⟨x, c, x0, x1, la, lg, a, g, wv, rfl, nl, fa, fg, ha, hg⟩
      exact ⟨_, rfl, _, rfl, _, rfl, (show 3 ≤ sizeLine by decide), fun p hp => k x a g p la lg _ ⟨x0, x1, fa, fg, Nat.le_trans ha (by decide), Nat.le_trans hg (by decide)⟩ (Nat.le_trans ha (by decide)) (Nat.le_trans hg (by decide)) (nl.wr hp)⟩
theorem got_law_copy (T : Txt K mg) : Got P w K mg base "_law_copy" 1 ["writing"] (spCopy K) := by
  refine T.d_law_copy.got sc_law_copy (fun vs H Q E h => ?_) (fun f cdv A outer s H vs Q E hr h => ?_)
  · obtain ⟨p, la, lg, x, a, g, rfl, _⟩ := h; rfl
  · obtain ⟨p, la, lg, x, a, g, rfl, hW, k⟩ := h
    refine ⟨_, (pss_one (ps_ret (pe_tup (pa_s (pe_ix ix_tup (pv 0) pe_int px_k) (pa_c (pe_callTy call_list_of rfl T.b_list PyProof.Rows.boot_list (pa_s (pe_ix ix_tup (pv 0) pe_int px_k) pa_nil)) (pa_c (pe_callTy call_list_of rfl T.b_list PyProof.Rows.boot_list (pa_s (pe_ix ix_tup (pv 0) pe_int px_k) pa_nil)) pa_nil)))))), ?_⟩
    refine ⟨_, rfl, p, _, _, _, rfl, rfl, hW.t, rfl, _, rfl, p, _, _, _, rfl, rfl, hW.t, rfl, la, _, rfl, .inl hW.a, fun la' ha' => ?_⟩
    have s1 := Same.upd (o := .lst (a.map V.int)) ha'
    refine ⟨_, rfl, p, _, _, _, rfl, rfl, s1.tup hW.t, rfl, lg, _, rfl, .inl (s1.seq hW.g), fun lg' hg' => ⟨(show 3 ≤ sizeLine by decide), fun p' hp' => ?_⟩⟩
    exact k p' la' lg' _ (NewWr.mk2 (Same.refl H) ha' hg' hp')
theorem gotX_law_word_of (T : Txt K mg) : GotX P w K mg base "_law_word_of" 1 ["e"] (spWordOf K mg) := by
  obtain ⟨F, c0, c1, c2, c3, c4, c5, xs, _⟩ := T.x_all
  have N_NoBase := xs.n0
  have N_NoFraction := xs.n1
  have N_NoWriting := xs.n2
  have N_NoNumber := xs.n3
  have N_TooLong := xs.n4
  have N_NoNote := xs.n5
  refine T.d_law_word_of.gotX sc_law_word_of (fun vs H Q E h => ?_) (fun f cdv A outer s H vs Q E hr h => ?_)
  · obtain ⟨a, C, j, rfl, _⟩ := h; rfl
  · obtain ⟨a, C, j, rfl, hH, R, k⟩ := h
    have r := R.all F c0 c1 c2 c3 c4 c5 xs
    have xc := R.xc
    have lt := R.lt
    have kd : ∀ (l : Addr) (H' : Hp), Same H H' → H' a = some (.ext (ofCls a (.ref C))) := fun l H' s => s _ _ hH
    refine ⟨_, (pss_cons (ps_set (i := 1) sc_law_word_of.nd rfl (Or.inl rfl) (pe_lst (pa_c (pe_callB call_isiE rfl T.b_isinstance PyProof.Rows.boot_isinstance (pa_n (pv 0) (pa_n (pe_globC N_NoBase rfl) pa_nil))) (pa_c (pe_callB call_isiE rfl T.b_isinstance PyProof.Rows.boot_isinstance (pa_n (pv 0) (pa_n (pe_globC N_NoFraction rfl) pa_nil))) (pa_c (pe_callB call_isiE rfl T.b_isinstance PyProof.Rows.boot_isinstance (pa_n (pv 0) (pa_n (pe_globC N_NoWriting rfl) pa_nil))) pa_nil)))))
      (pss_cons (ps_set (i := 1) sc_law_word_of.nd rfl (Or.inl rfl) (pe_op op_cat (pv 1) (pe_lst (pa_c (pe_callB call_isiE rfl T.b_isinstance PyProof.Rows.boot_isinstance (pa_n (pv 0) (pa_n (pe_globC N_NoNumber rfl) pa_nil))) (pa_c (pe_callB call_isiE rfl T.b_isinstance PyProof.Rows.boot_isinstance (pa_n (pv 0) (pa_n (pe_globC N_TooLong rfl) pa_nil))) (pa_c (pe_callB call_isiE rfl T.b_isinstance PyProof.Rows.boot_isinstance (pa_n (pv 0) (pa_n (pe_globC N_NoNote rfl) pa_nil))) pa_nil))))))
      (pss_cons (ps_if (PW.pt (pw_or (pt_cmpR op_ne (pe_bm PySem.F.plainAttrs_list PySem.F.slot_list_count PySem.F.type_list_count mt_countB (pv 1) (pa_k pe_bl pa_nil)) pe_int (nomark _)) (pw_or1 (pt_not (pt_val (pe_callB call_isiE rfl T.b_isinstance PyProof.Rows.boot_isinstance (pa_n (pv 0) (pa_n (pe_bltn (v := .ty "ValueError") rfl T.b_ValueError PyProof.Rows.boot_ValueError rfl) pa_nil)))))))) (pss_one (ps_ret pe_str)) pss_nil)
      (pss_one (ps_ret (pe_ix ix_list (pe_lst (pa_k pe_str (pa_k pe_str (pa_k pe_str (pa_k pe_str (pa_k pe_str (pa_k pe_str pa_nil))))))) (pe_bm PySem.F.plainAttrs_list PySem.F.slot_list_index PySem.F.type_list_index mt_indexB (pv 1) (pa_k pe_bl pa_nil)) px_c)))))), ?_⟩
    refine ⟨_, rfl, a, C, _, _, _, rfl, hH, xc, .inl ⟨_, rfl, rfl⟩, r.k0, ?_⟩
    refine ⟨_, rfl, a, C, _, _, _, rfl, hH, xc, .inl ⟨_, rfl, rfl⟩, r.k1, ?_⟩
    refine ⟨_, rfl, a, C, _, _, _, rfl, hH, xc, .inl ⟨_, rfl, rfl⟩, r.k2, (show 3 ≤ sizeLine by decide), fun l1 h1 => ?_⟩
    have s1 := Same.upd (o := .lst [.bl (decide (j = 0)), .bl (decide (j = 1)), .bl (decide (j = 2))]) h1
    have hH1 := s1 _ _ hH
    refine ⟨_, rfl, _, rfl, a, C, _, _, _, rfl, hH1, xc, .inl ⟨_, rfl, rfl⟩, r.k3, ?_⟩
    refine ⟨_, rfl, a, C, _, _, _, rfl, hH1, xc, .inl ⟨_, rfl, rfl⟩, r.k4, ?_⟩
    refine ⟨_, rfl, a, C, _, _, _, rfl, hH1, xc, .inl ⟨_, rfl, rfl⟩, r.k5, (show 3 ≤ sizeLine by decide), fun l2 h2 => ?_⟩
    have s2 := Same.upd (o := .lst [.bl (decide (j = 3)), .bl (decide (j = 4)), .bl (decide (j = 5))]) h2
    refine ⟨l1, l2, _, _, rfl, rfl, s2 _ _ upd_same, upd_same, (show 6 ≤ sizeLine by decide), fun l3 h3 => ?_⟩
    have s3 := Same.upd (o := .lst (([decide (j = 0), decide (j = 1), decide (j = 2), decide (j = 3), decide (j = 4), decide (j = 5)]).map V.bl)) h3
    have hH3 := s3 _ _ (s2 _ _ hH1)
    have hl3 : upd _ l3 (.lst (([decide (j = 0), decide (j = 1), decide (j = 2), decide (j = 3), decide (j = 4), decide (j = 5)]).map V.bl)) l3 = some _ := upd_same (H := upd (upd H l1 (.lst [.bl (decide (j = 0)), .bl (decide (j = 1)), .bl (decide (j = 2))])) l2 (.lst [.bl (decide (j = 3)), .bl (decide (j = 4)), .bl (decide (j = 5))]))
    refine ⟨_, rfl, .inl ⟨rfl, _, SqL.of hl3⟩, l3, [decide (j = 0), decide (j = 1), decide (j = 2), decide (j = 3), decide (j = 4), decide (j = 5)], true, rfl, rfl, hl3, ?_⟩
    rw [show PySem.Spec.countIn (.bool true) (([decide (j = 0), decide (j = 1), decide (j = 2), decide (j = 3), decide (j = 4), decide (j = 5)]).map PyData.bool) = 1 from ?cnt]
    case cnt => exact word_count lt
    refine ⟨rfl, _, rfl, iteNDF rfl ?_⟩
    refine ⟨_, rfl, a, C, _, _, _, rfl, hH3, xc, .inr ⟨_, rfl, rfl⟩, r.ve, _, rfl, iteF ?_⟩
    refine ⟨(show 6 ≤ sizeLine by decide), fun l4 h4 => ?_⟩
    have s4 := Same.upd (o := .lst [.str "base", .str "fraction", .str "writing", .str "number", .str "long", .str "note"]) h4
    refine ⟨_, rfl, .inl ⟨rfl, _, SqL.of (s4 _ _ hl3)⟩, l3, [decide (j = 0), decide (j = 1), decide (j = 2), decide (j = 3), decide (j = 4), decide (j = 5)], true, j, rfl, rfl, s4 _ _ hl3, word_ix lt, word_no lt, ?_⟩
    refine ⟨l4, _, _, .str (wordOf j), rfl, rfl, SqL.of upd_same, word_at lt, ?_⟩
    exact k _ (((s1.trans s2).trans s3).trans s4)
theorem gotE_law_called (T : Txt K mg) : GotE P w K mg base "_law_called" 5 ["which", "base", "fraction", "writing"] (spCalled K mg) := by
  refine T.d_law_called.gotE sc_law_called (fun vs H Q E h => ?_) (fun f cdv A outer s H vs Q E hr h => ?_)
  · obtain ⟨j, b, pf, t, q, pw, la, lg, x, a, g, rfl, _⟩ := h; rfl
  · obtain ⟨j, b, pf, t, q, pw, la, lg, x, a, g, rfl, jl, hF, hW, hk, rs, kd⟩ := h
    have en : Ends11 K mg H E j b t q x a g := ⟨rs⟩
    clear rs
    refine ⟨_, (pss_mid (ps_set (i := 4) sc_law_called.nd rfl (Or.inl rfl) (pe_tup (pa_k pe_int (pa_l (pe_lst pa_nil) (pa_l (pe_lst (pa_k pe_int pa_nil)) pa_nil)))))
      (pss_mid (ps_if (pt_cmpR op_eq (pv 0) pe_int (nomark _)) (pss_one (ps_expr (pe_callE (gotE_written T) (hr.mono (by decide)) rfl (pa_n (pv 1) (pa_s (pe_ix ix_tup (pv 2) pe_int px_k) (pa_s (pe_ix ix_tup (pv 2) pe_int px_k) pa_nil)))))) pss_nil)
      (pss_mid (ps_if (pt_cmpR op_eq (pv 0) pe_int (nomark _)) (pss_one (ps_expr (pe_callE (gotE_figure_at T) (hr.mono (by decide)) rfl (pa_n (pv 1) (pa_s (pe_ix ix_tup (pv 2) pe_int px_k) (pa_s (pe_ix ix_tup (pv 2) pe_int px_k) (pa_k pe_int pa_nil))))))) pss_nil)
      (pss_mid (ps_if (pt_cmpR op_eq (pv 0) pe_int (nomark _)) (pss_one (ps_expr (pe_callE (gotE_worth T) (hr.mono (by decide)) rfl (pa_n (pv 1) (pa_n (pv 3) pa_nil))))) pss_nil)
      (pss_mid (ps_if (pt_cmpR op_eq (pv 0) pe_int (nomark _)) (pss_one (ps_expr (pe_callE (gotE_plain T) (hr.mono (by decide)) rfl (pa_n (pv 1) (pa_n (pv 3) pa_nil))))) pss_nil)
      (pss_mid (ps_if (pt_cmpR op_eq (pv 0) pe_int (nomark _)) (pss_one (ps_expr (pe_callE (gotE_is_plain T) (hr.mono (by decide)) rfl (pa_n (pv 1) (pa_n (pv 3) pa_nil))))) pss_nil)
      (pss_mid (ps_if (pt_cmpR op_eq (pv 0) pe_int (nomark _)) (pss_one (ps_expr (pe_callE (gotE_shown T) (hr.mono (by decide)) rfl (pa_n (pv 1) (pa_n (pv 3) pa_nil))))) pss_nil)
      (pss_mid (ps_if (pt_cmpR op_eq (pv 0) pe_int (nomark _)) (pss_one (ps_expr (pe_callE (gotE_added T) (hr.mono (by decide)) rfl (pa_n (pv 1) (pa_n (pv 3) (pa_n (pv 4) pa_nil)))))) pss_nil)
      (pss_mid (ps_if (pt_cmpR op_eq (pv 0) pe_int (nomark _)) (pss_one (ps_expr (pe_callE (gotE_added T) (hr.mono (by decide)) rfl (pa_n (pv 1) (pa_n (pv 4) (pa_n (pv 3) pa_nil)))))) pss_nil)
      (pss_mid (ps_if (pt_cmpR op_eq (pv 0) pe_int (nomark _)) (pss_one (ps_expr (pe_callE (gotE_times T) (hr.mono (by decide)) rfl (pa_n (pv 1) (pa_n (pv 3) (pa_u (pe_un un_neg pe_int) pa_nil)))))) pss_nil)
      (pss_mid (ps_if (pt_cmpR op_eq (pv 0) pe_int (nomark _)) (pss_one (ps_expr (pe_callE (gotE_lengths T) (hr.mono (by decide)) rfl (pa_n (pv 1) (pa_s (pe_ix ix_tup (pv 2) pe_int px_k) pa_nil))))) pss_nil)
      (pss_one (ps_if (pt_cmpR op_eq (pv 0) pe_int (nomark _)) (pss_one (ps_expr (pe_callE (gotE_folds T) (hr.mono (by decide)) rfl (pa_n (pv 1) (pa_s (pe_ix ix_tup (pv 3) pe_int px_k) pa_nil))))) pss_nil))))))))))))), ?_⟩
    refine md (CalN K H j b t q x a g pf pw 0) ?g0 (mr (CalN K H j b t q x a g pf pw 1) ?s0 (mr (CalN K H j b t q x a g pf pw 2) ?s1 (mr (CalN K H j b t q x a g pf pw 3) ?s2 (mr (CalN K H j b t q x a g pf pw 4) ?s3 (mr (CalN K H j b t q x a g pf pw 5) ?s4 (mr (CalN K H j b t q x a g pf pw 6) ?s5 (mr (CalN K H j b t q x a g pf pw 7) ?s6 (mr (CalN K H j b t q x a g pf pw 8) ?s7 (mr (CalN K H j b t q x a g pf pw 9) ?s8 (mr (CalN K H j b t q x a g pf pw 10) ?s9 ?s10))))))))))
    case g0 =>
      intro D n r
      exact ⟨(show 0 ≤ sizeLine by decide), fun l1 h1 => ⟨(show 1 ≤ sizeLine by decide), fun l2 h2 => ⟨(show 3 ≤ sizeLine by decide), fun p1 h3 => n _ _ ⟨p1, l1, l2, rfl, ((Same.upd h1).trans (Same.upd h2)).trans (Same.upd h3), (NewWr.mk2 (a := []) (g := [0]) (Same.refl H) h1 h2 h3).wr, fun z => absurd z (by omega)⟩⟩⟩⟩
    case s0 =>
      intro σ H' m D n r
      refine m.elim fun p1 l1 l2 s hO hp => ?_
      refine ⟨_, rfl, rfl, _, rfl, ite2D (fun e => ?_) (fun e => n _ _ (.no s hO hp e))⟩
      exact ⟨_, rfl, _, rfl, pf, _, _, _, rfl, rfl, s.tup hF, rfl, _, rfl, pf, _, _, _, rfl, rfl, s.tup hF, rfl, as_written (en.at (j_is e) (by decide) s (fun ac v H2 s2 => n _ _ (.yes s hO ac s2)))⟩
    case s1 =>
      intro σ H' m D n r
      refine m.elim fun p1 l1 l2 s hO hp => ?_
      refine ⟨_, rfl, rfl, _, rfl, ite2D (fun e => ?_) (fun e => n _ _ (.no s hO hp e))⟩
      exact ⟨_, rfl, _, rfl, pf, _, _, _, rfl, rfl, s.tup hF, rfl, _, rfl, pf, _, _, _, rfl, rfl, s.tup hF, rfl, as_figure_at (en.at (j_is e) (by decide) s (fun ac v H2 s2 => n _ _ (.yes s hO ac s2)))⟩
    case s2 =>
      intro σ H' m D n r
      refine m.elim fun p1 l1 l2 s hO hp => ?_
      refine ⟨_, rfl, rfl, _, rfl, ite2D (fun e => ?_) (fun e => n _ _ (.no s hO hp e))⟩
      have e' := j_is (k := 2) e
      exact ⟨_, rfl, _, rfl, as_worth (s.wr hW) (fun ob ok => hk ob ok (by omega)) (en.at (j_is e) (by decide) s (fun ac v H2 s2 => n _ _ (.yes s hO ac s2)))⟩
    case s3 =>
      intro σ H' m D n r
      refine m.elim fun p1 l1 l2 s hO hp => ?_
      refine ⟨_, rfl, rfl, _, rfl, ite2D (fun e => ?_) (fun e => n _ _ (.no s hO hp e))⟩
      exact ⟨_, rfl, _, rfl, b, pw, la, lg, x, a, g, rfl, s.wr hW, (en.at (j_is e) (by decide) s (fun ac v H2 s2 => n _ _ (.yes s hO ac s2)))⟩
    case s4 =>
      intro σ H' m D n r
      refine m.elim fun p1 l1 l2 s hO hp => ?_
      refine ⟨_, rfl, rfl, _, rfl, ite2D (fun e => ?_) (fun e => n _ _ (.no s hO hp e))⟩
      exact ⟨_, rfl, _, rfl, b, pw, la, lg, x, a, g, rfl, s.wr hW, (en.at (j_is e) (by decide) s (fun ac v H2 s2 => n _ _ (.yes s hO ac s2)))⟩
    case s5 =>
      intro σ H' m D n r
      refine m.elim fun p1 l1 l2 s hO hp => ?_
      refine ⟨_, rfl, rfl, _, rfl, ite2D (fun e => ?_) (fun e => n _ _ (.no s hO hp e))⟩
      exact ⟨_, rfl, _, rfl, b, pw, la, lg, x, a, g, rfl, s.wr hW, (en.at (j_is e) (by decide) s (fun ac v H2 s2 => n _ _ (.yes s hO ac s2)))⟩
    case s6 =>
      intro σ H' m D n r
      refine m.elim fun p1 l1 l2 s hO hp => ?_
      refine ⟨_, rfl, rfl, _, rfl, ite2D (fun e => ?_) (fun e => n _ _ (.no s hO hp e))⟩
      have e' := j_is (k := 6) e
      exact ⟨_, rfl, _, rfl, _, rfl, as_added (s.wr hW) hO (fun ob ok => hk ob ok (by omega)) (en.long (.inl (j_is e)) s) (en.at (j_is e) (by decide) s (fun ac v H2 s2 => n _ _ (.yes s hO ac s2)))⟩
    case s7 =>
      intro σ H' m D n r
      refine m.elim fun p1 l1 l2 s hO hp => ?_
      refine ⟨_, rfl, rfl, _, rfl, ite2D (fun e => ?_) (fun e => n _ _ (.no s hO hp e))⟩
      have e' := j_is (k := 7) e
      exact ⟨_, rfl, _, rfl, _, rfl, as_added2 (s.wr hW) hO (fun ob ok => hk ob ok (by omega)) (en.long (.inr (j_is e)) s) (en.at (j_is e) (by decide) s (fun ac v H2 s2 => n _ _ (.yes s hO ac s2)))⟩
    case s8 =>
      intro σ H' m D n r
      refine m.elim fun p1 l1 l2 s hO hp => ?_
      refine ⟨_, rfl, rfl, _, rfl, ite2D (fun e => ?_) (fun e => n _ _ (.no s hO hp e))⟩
      have e' := j_is (k := 8) e
      exact ⟨_, rfl, _, rfl, _, rfl, as_times (s.wr hW) (fun ob ok => hk ob ok (by omega)) (en.times (j_is e) s).2.2 (en.times (j_is e) s).1 (en.times (j_is e) s).2.1⟩
    case s9 =>
      intro σ H' m D n r
      refine m.elim fun p1 l1 l2 s hO hp => ?_
      refine ⟨_, rfl, rfl, _, rfl, ite2D (fun e => ?_) (fun e => n _ _ (.no s hO hp e))⟩
      exact ⟨_, rfl, _, rfl, pf, _, _, _, rfl, rfl, s.tup hF, rfl, as_lengths (en.at (j_is e) (by decide) s (fun ac v H2 s2 => n _ _ (.yes s hO ac s2)))⟩
    case s10 =>
      rintro σ H' ⟨p1, l1, l2, rfl, s, hO, hp⟩
      refine ⟨_, rfl, rfl, _, rfl, ite2D (fun e => ?_) (fun e => kd (hp (by have := j_ne (k := 10) e; omega)) _ s)⟩
      exact ⟨_, rfl, _, rfl, pw, _, _, _, rfl, rfl, (s.wr hW).t, rfl, b, lg, g, rfl, (s.wr hW).g, (en.at (j_is e) (by decide) s (fun ac v H2 s2 => kd ac _ (s.trans s2)))⟩
theorem got_law_tried (T : Txt K mg) : Got P w K mg base "_law_tried" 6 ["which", "base", "fraction", "writing"] (spTried K) := by
  obtain ⟨F, c0, c1, c2, c3, c4, c5, xs, X_FigureError⟩ := T.x_all
  refine T.d_law_tried.got0 sc_law_tried (fun vs H Q E h => ?_) (fun f cdv A outer s H vs Q E hr h => ?_)
  · obtain ⟨j, b, pf, t, q, pw, la, lg, x, a, g, rfl, _⟩ := h; rfl
  · obtain ⟨j, b, pf, t, q, pw, la, lg, x, a, g, rfl, jl, hF, hW, hk, k⟩ := h
    refine ⟨_, (pss0_cons (ps_try (i := 4) rfl rfl X_FigureError rfl sc_law_tried.nd rfl rfl (fun _ _ hp => (pss_one (ps_expr (pe_callP (gotE_law_called T) hp (hr.mono (by decide)) rfl (pa_n (pv 0) (pa_n (pv 1) (pa_n (pv 2) (pa_c (pe_callG (got_law_copy T) (hr.mono (by decide)) rfl (pa_n (pv 3) pa_nil)) pa_nil)))))))) (fun _ => (pss_one (ps_ret (pe_callX (gotX_law_word_of T) ((hr.x.mono (by decide)).mark) rfl (pa_n (pv 4) pa_nil))))))
      (pss_one (ps_ret pe_str))), ?_⟩
    refine ⟨fun cls _ H' => ∃ C i, cls = .ref C ∧ Ref K mg i C ∧ ∀ H2, Same H' H2 → Q (.str (wordOf i)) H2, ?_, ?_⟩
    · refine ⟨_, rfl, _, rfl, _, rfl, _, rfl, pw, la, lg, x, a, g, rfl, hW, fun p2 la2 lg2 H1 n1 => ?_⟩
      refine ⟨j, b, pf, t, q, p2, la2, lg2, x, a, g, rfl, jl, n1.sm.tup hF, n1.wr, hk, fun i ac C H' R s' => ⟨C, i, rfl, R, fun H2 s2 => k _ _ ac ((n1.sm.trans s').trans s2)⟩, fun ac H' s' => ?_⟩
      exact k _ _ ac (n1.sm.trans s')
    · rintro cls H' ⟨C, i, rfl, R, kk⟩
      refine ⟨C, rfl, R.ex, (R.all F c0 c1 c2 c3 c4 c5 xs).up, fun a σ' hσ ha => ?_⟩
      refine ⟨_, slot_set (n := 5) hσ (by decide), a, C, i, rfl, upd_same, R, fun H2 s2 => ?_⟩
      exact kk H2 ((Same.upd ha).trans s2)
theorem got_law_spoilt (T : Txt K mg) : Got P w K mg base "_law_spoilt" 2 ["script", "base", "writing", "way", "far"] (spSpoilt K) := by
  refine T.d_law_spoilt.got sc_law_spoilt (fun vs H Q E h => ?_) (fun f cdv A outer s H vs Q E hr h => ?_)
  · obtain ⟨sc, ns, b, p, la, lg, x, a, g, wy, fr, rfl, _⟩ := h; rfl
  · obtain ⟨sc, ns, b, p, la, lg, x, a, g, wy, fr, rfl, hS, ob, hW, gw, y0, y8, f0, k⟩ := h
    refine ⟨_, (pss_mid (ps_asg (pe_callG (got_law_copy T) (hr.mono (by decide)) rfl (pa_n (pv 2) pa_nil)) (pg_tup rfl (pgs_cons (pg_name (i := 5) sc_law_spoilt.nd rfl (Or.inl rfl)) (pgs_cons (pg_name (i := 6) sc_law_spoilt.nd rfl (Or.inl rfl)) (pgs_cons (pg_name (i := 7) sc_law_spoilt.nd rfl (Or.inl rfl)) pgs_nil)))))
      (pss_mid (ps_set (i := 8) sc_law_spoilt.nd rfl (Or.inl rfl) (pe_ix ix_list (pe_lst (pa_n (pv 6) (pa_n (pv 7) pa_nil))) (pe_op op_mod (pv 3) pe_int) px_b))
      (pss_mid (ps_set (i := 9) sc_law_spoilt.nd rfl (Or.inl rfl) (pe_op op_mod (pe_callG (got_law_cell_at T) (hr.mono (by decide)) rfl (pa_n (pv 0) (pa_k pe_int pa_nil))) (pe_op op_add (pe_callB call_len_seq rfl T.b_len PySem.boot_len (pa_n (pv 8) pa_nil)) pe_int)))
      (pss_mid (ps_if (pt_cmpR op_eq (pv 3) pe_int (nomark _)) (pss_one (ps_ret (pe_tup (pa_b (pe_op op_sub (pe_un un_neg pe_int) (pv 4)) (pa_n (pv 6) (pa_n (pv 7) pa_nil)))))) pss_nil)
      (pss_mid (ps_if (pt_cmpR op_eq (pv 3) pe_int (nomark _)) (pss_one (ps_ret (pe_tup (pa_b (pe_op op_add (pe_op op_add (pe_op op_pow pe_int pe_int) pe_int) (pv 4)) (pa_n (pv 6) (pa_n (pv 7) pa_nil)))))) pss_nil)
      (pss_mid (ps_if (pt_cmpR op_lt (pv 3) pe_int (nomark _)) (pss_one (ps_expr (pe_bm PySem.F.plainAttrs_list PySem.F.slot_list_insert PySem.F.type_list_insert mt_insert (pv 8) (pa_n (pv 9) (pa_b (pe_op op_sub (pe_un un_neg pe_int) (pv 4)) pa_nil))))) (pss_one (ps_if (pt_cmpR op_lt (pv 3) pe_int (nomark _)) (pss_one (ps_expr (pe_bm PySem.F.plainAttrs_list PySem.F.slot_list_insert PySem.F.type_list_insert mt_insert (pv 8) (pa_n (pv 9) (pa_b (pe_op op_add (pv 1) (pv 4)) pa_nil))))) (pss_one (ps_expr (pe_bm PySem.F.plainAttrs_list PySem.F.slot_list_extend PySem.F.type_list_extend mt_extend (pv 8) (pa_cons (pe_comp [] rfl (pi_range1 rfl T.b_range (pa_k pe_int pa_nil)) ⟨rfl, by decide +kernel, by decide +kernel, rfl, rfl, rfl, True.intro, by decide +kernel⟩ (fun _ _ _ _ => pe_int)) pa_nil)))))))
      (pss_one (ps_ret (pe_tup (pa_n (pv 5) (pa_n (pv 6) (pa_n (pv 7) pa_nil)))))))))))), ?_⟩
    refine md (fun σ H' => ∃ lac lgc : Addr, NewLs H H' lac lgc a g ∧ σ = [some (.ref sc), some (.int b), some (.ref p), some (.int wy), some (.int fr), some (.int x), some (.ref lac), some (.ref lgc), none, none]) ?a1 (mr (fun σ H' => ∃ (lac lgc sd : Addr) (sl : List Int), SpS H a g wy lac lgc sd sl H' ∧ σ = [some (.ref sc), some (.int b), some (.ref p), some (.int wy), some (.int fr), some (.int x), some (.ref lac), some (.ref lgc), some (.ref sd), none]) ?a2 (mr (SpN H sc b p wy fr x a g (0 ≤ wy)) ?a3 (mr (SpN H sc b p wy fr x a g (1 ≤ wy)) ?a4 (mr (SpN H sc b p wy fr x a g (1 < wy)) ?a5 (mr (fun σ H' => ∃ (lac lgc : Addr) (v w : Option V), SpO H b x wy lac lgc H' ∧ σ = [some (.ref sc), some (.int b), some (.ref p), some (.int wy), some (.int fr), some (.int x), some (.ref lac), some (.ref lgc), v, w]) ?a6 ?a7)))))
    case a1 =>
      intro D n r
      exact ⟨_, rfl, p, la, lg, x, a, g, rfl, hW, fun pc lac lgc H1 n1 => ⟨pc, _, rfl, SqT.of n1.t, rfl, _, _, rfl, _, _, rfl, _, _, rfl, rfl, n _ _ ⟨lac, lgc, n1.ls, rfl⟩⟩⟩
    case a2 =>
      rintro σ H' ⟨lac, lgc, nl, rfl⟩ D n r
      refine ⟨_, rfl, _, rfl, (show 2 ≤ sizeLine by decide), fun lL hL => ⟨_, rfl, _, _, rfl, rfl, (show (0 : Int) < 2 by decide), ?_⟩⟩
      rcases (show wy % 2 = 0 ∨ wy % 2 = 1 by omega) with e | e
      · exact ⟨lL, _, _, .ref lac, rfl, rfl, SqL.of upd_same, by rw [e]; rfl, n _ _ ⟨lac, lgc, lac, a, ⟨nl.more hL, .inl ⟨e, rfl, rfl⟩⟩, rfl⟩⟩
      · exact ⟨lL, _, _, .ref lgc, rfl, rfl, SqL.of upd_same, by rw [e]; rfl, n _ _ ⟨lac, lgc, lgc, g, ⟨nl.more hL, .inr ⟨e, rfl, rfl⟩⟩, rfl⟩⟩
    case a3 =>
      rintro σ H' ⟨lac, lgc, sd, sl, sp, rfl⟩ D n r
      refine ⟨_, rfl, sc, ns, _, rfl, sp.nl.sm.seq hS, by decide, fun z _ => ⟨_, rfl, sd, _, rfl, .inl (SqL.of sp.side), _, _, rfl, rfl, _, _, rfl, rfl, (show (0 : Int) < ((sl.map V.int).length : Int) + 1 by omega), ?_⟩⟩
      rw [List.length_map]
      have h1 := Int.emod_nonneg z (show ((sl.length : Int) + 1) ≠ 0 by omega)
      have h2 := Int.emod_lt_of_pos z (show 0 < ((sl.length : Int) + 1) by omega)
      refine n _ _ ⟨lac, lgc, sd, sl, (z % ((sl.length : Int) + 1)).toNat, sp, by omega, y0, ?_⟩
      rw [Int.toNat_of_nonneg h1]; rfl
    case a4 =>
      intro σ H' m D n r
      refine m.elim fun lac lgc sd sl i sp il y0 => ?_
      refine ⟨_, rfl, rfl, _, rfl, ite2D (fun e => ?_) (fun e => n _ _ ⟨lac, lgc, sd, sl, i, sp, il, by have : wy ≠ 0 := fun y => e (by rw [y]); omega, rfl⟩)⟩
      have e := V.int.inj e
      exact ⟨_, rfl, _, rfl, _, _, rfl, rfl, _, rfl, _, rfl, (show 3 ≤ sizeLine by decide), fun p' hp' => r _ _ (k (-1 - fr) a g p' lac lgc _ (fun h => by have := h.w0; omega) ⟨fun _ z => by omega, fun _ => ⟨gw.lg, gw.fg⟩⟩ (sp.nl.wr hp'))⟩
    case a5 =>
      intro σ H' m D n r
      refine m.elim fun lac lgc sd sl i sp il y1 => ?_
      refine ⟨_, rfl, rfl, _, rfl, ite2D (fun e => ?_) (fun e => n _ _ ⟨lac, lgc, sd, sl, i, sp, il, by have : wy ≠ 1 := fun y => e (by rw [y]); omega, rfl⟩)⟩
      have e := V.int.inj e
      exact ⟨_, _, rfl, rfl, ⟨by decide, by decide, by decide⟩, _, _, rfl, rfl, _, rfl, _, _, rfl, rfl, _, rfl, _, rfl, (show 3 ≤ sizeLine by decide), fun p' hp' => r _ _ (k (10 ^ (12 : Int).toNat + 1 + fr) a g p' lac lgc _ (fun h => by have := h.w1; rw [pow12] at this; omega) ⟨fun _ z => by omega, fun _ => ⟨gw.lg, gw.fg⟩⟩ (sp.nl.wr hp'))⟩
    case a6 =>
      intro σ H' m D n r
      refine m.elim fun lac lgc sd sl i sp il y1 => ?_
      have b2 := ob.1
      have ll := sp.len gw
      have lt : (sl.map V.int).length < sizeLine := by rw [List.length_map]; exact size2000 (by omega)
      refine ⟨_, rfl, _, _, rfl, rfl, _, rfl, ite2D (fun e4 => ?_) (fun e4 => ⟨_, rfl, _, _, rfl, rfl, _, rfl, ite2D (fun e6 => ?_) (fun e6 => ?_)⟩)⟩
      · exact ⟨_, rfl, .inl ⟨rfl, _, SqL.of sp.side⟩, _, rfl, _, rfl, _, rfl, _, _, rfl, rfl, sd, _, i, _, rfl, rfl, sp.side, by rw [List.length_map]; exact il, lt, n _ _ ⟨lac, lgc, _, _, sp.put gw y1 (ins_map sl i (-1 - fr)) (bad_ins (by omega)), rfl⟩⟩
      · exact ⟨_, rfl, .inl ⟨rfl, _, SqL.of sp.side⟩, _, rfl, _, rfl, _, rfl, _, _, rfl, rfl, sd, _, i, _, rfl, rfl, sp.side, by rw [List.length_map]; exact il, lt, n _ _ ⟨lac, lgc, _, _, sp.put gw y1 (ins_map sl i (b + fr)) (bad_ins (by omega)), rfl⟩⟩
      · refine ⟨_, rfl, .inl ⟨rfl, _, SqL.of sp.side⟩, 4001, rfl, by decide, by decide, fun lx hx => ?_⟩
        refine comp_range (lo := 0) (n := (4001 : Int).toNat) (fun _ => V.int 1) (by decide) hx (fun _ _ _ _ _ hR => hR) ?_
        have sp2 : SpS H a g wy lac lgc sd sl (upd H' lx (.lst ((List.range (4001 : Int).toNat).map fun _ => V.int 1))) := ⟨sp.nl.more hx, sp.sd⟩
        exact ⟨sd, lx, _, _, rfl, rfl, sp2.side, upd_same, by rw [List.length_map, List.length_map, List.length_range]; exact Nat.le_of_lt (size2000 (by show _ + 4001 ≤ _; omega)), n _ _ ⟨lac, lgc, _, _, sp2.put gw y1 (ext_map sl) bad_ext, rfl⟩⟩
    case a7 =>
      rintro σ H' ⟨lac, lgc, v, w, ⟨a', g', nl, ng, ri⟩, rfl⟩
      exact ⟨_, rfl, _, rfl, _, rfl, (show 3 ≤ sizeLine by decide), fun p' hp' => k x a' g' p' lac lgc _ ng ri (nl.wr hp')⟩
theorem ok_law (T : Txt K mg) {f : Addr} {fd : FuncData} (F : Fun K "law" "law" s_law f fd) : FnOk P w K mg base CX0 7 f fd ["script"] (spLaw K) := by
  refine F.ok sc_law (fun vs H Q E h => ?_) (fun cdv A outer s H vs Q E hr h => ?_)
  · obtain ⟨a, ns, rfl, _⟩ := h; rfl
  · obtain ⟨sc, ns, rfl, hS, hlen, k⟩ := h
    clear hlen
    refine ⟨_, (pss_mid (ps_set (i := 1) sc_law.nd rfl (Or.inl rfl) (pe_op op_add pe_int (pe_op op_mod (pe_callG (got_law_cell_at T) (hr.mono (by decide)) rfl (pa_n (pv 0) (pa_k pe_int pa_nil))) pe_int)))
      (pss_mid (ps_set (i := 2) sc_law.nd rfl (Or.inl rfl) (pe_op op_mod (pe_callG (got_law_cell_at T) (hr.mono (by decide)) rfl (pa_n (pv 0) (pa_k pe_int pa_nil))) (pe_op op_pow pe_int pe_int)))
      (pss_mid (ps_set (i := 3) sc_law.nd rfl (Or.inl rfl) (pe_tup (pa_b (pe_op op_mod (pe_callG (got_law_cell_at T) (hr.mono (by decide)) rfl (pa_n (pv 0) (pa_k pe_int pa_nil))) (pe_op op_add (pe_op op_pow pe_int pe_int) pe_int)) (pa_b (pe_op op_add pe_int (pe_op op_mod (pe_callG (got_law_cell_at T) (hr.mono (by decide)) rfl (pa_n (pv 0) (pa_k pe_int pa_nil))) pe_int)) pa_nil))))
      (pss_mid (ps_set (i := 4) sc_law.nd rfl (Or.inl rfl) (pe_callG (got_law_writing_by T) (hr.mono (by decide)) rfl (pa_n (pv 0) (pa_k pe_int (pa_n (pv 1) pa_nil)))))
      (pss_mid (ps_set (i := 5) sc_law.nd rfl (Or.inl rfl) (pe_op op_mod (pe_callG (got_law_cell_at T) (hr.mono (by decide)) rfl (pa_n (pv 0) (pa_k pe_int pa_nil))) pe_int))
      (pss_mid (ps_set (i := 6) sc_law.nd rfl (Or.inl rfl) (pe_lst (pa_k pe_str (pa_k pe_str (pa_k pe_str (pa_k pe_str pa_nil))))))
      (pss_mid (ps_if (pt_cmpR op_lt (pv 5) pe_int (nomark _)) (pss_mid (ps_set (i := 4) sc_law.nd rfl (Or.inl rfl) (pe_callG (got_law_spoilt T) (hr.mono (by decide)) rfl (pa_n (pv 0) (pa_n (pv 1) (pa_n (pv 4) (pa_n (pv 5) (pa_n (pv 2) pa_nil)))))))
      (pss_mid (ps_asg pe_str (pg_sub (pv 6) pe_int set_list (fun _ => rfl)))
      (pss_one (ps_asg (pe_ix ix_list (pe_lst (pa_k pe_str (pa_k pe_str pa_nil))) (pe_callTy call_int1 rfl T.b_int PyProof.Rows.boot_int (pa_cons (pe_and (pe_cmpR op_gt (pv 5) pe_int (nomark _)) (pe_one (pe_cmpR op_eq (pe_op op_mod (pv 5) pe_int) pe_int (nomark _)))) pa_nil)) px_c) (pg_sub (pv 6) pe_int set_list (fun _ => rfl)))))) pss_nil)
      (pss_mid (ps_set (i := 7) sc_law.nd rfl (Or.inl rfl) (pe_op op_mod (pe_callG (got_law_cell_at T) (hr.mono (by decide)) rfl (pa_n (pv 0) (pa_k pe_int pa_nil))) pe_int))
      (pss_mid (ps_if (pt_cmpR op_lt (pv 7) pe_int (nomark _)) (pss_mid (ps_set (i := 3) sc_law.nd rfl (Or.inl rfl) (pe_ix ix_list (pe_lst (pa_t (pe_tup (pa_b (pe_op op_sub (pe_un un_neg pe_int) (pv 2)) (pa_k pe_int pa_nil))) (pa_t (pe_tup (pa_b (pe_op op_add (pe_op op_add (pe_op op_pow pe_int pe_int) pe_int) (pv 2)) (pa_k pe_int pa_nil))) (pa_t (pe_tup (pa_k pe_int (pa_b (pe_op op_sub pe_int (pv 2)) pa_nil))) (pa_t (pe_tup (pa_k pe_int (pa_b (pe_op op_add pe_int (pv 2)) pa_nil))) pa_nil))))) (pv 7) px_n))
      (pss_mid (ps_asg pe_str (pg_sub (pv 6) pe_int set_list (fun _ => rfl)))
      (pss_one (ps_asg (pe_ix ix_list (pe_lst (pa_k pe_str (pa_k pe_str pa_nil))) (pe_op op_fdiv (pv 7) pe_int) px_b) (pg_sub (pv 6) pe_int set_list (fun _ => rfl)))))) pss_nil)
      (pss_mid (ps_if (pt_cmpR op_eq (pe_op op_mod (pe_callG (got_law_cell_at T) (hr.mono (by decide)) rfl (pa_n (pv 0) (pa_k pe_int pa_nil))) pe_int) pe_int (nomark _)) (pss_mid (ps_set (i := 1) sc_law.nd rfl (Or.inl rfl) (pe_ix ix_list (pe_lst (pa_k pe_int (pa_k pe_int (pa_b (pe_op op_sub pe_int (pv 2)) (pa_b (pe_op op_add pe_int (pv 2)) pa_nil))))) (pe_op op_mod (pe_op op_fdiv (pe_callG (got_law_cell_at T) (hr.mono (by decide)) rfl (pa_n (pv 0) (pa_k pe_int pa_nil))) pe_int) pe_int) px_b))
      (pss_one (ps_set (i := 6) sc_law.nd rfl (Or.inl rfl) (pe_lst (pa_k pe_str (pa_k pe_str (pa_k pe_str (pa_k pe_str pa_nil)))))))) pss_nil)
      (pss_mid (ps_if (PW.pt (pw_and (pt_cmpR op_eq (pe_op op_mod (pe_callG (got_law_cell_at T) (hr.mono (by decide)) rfl (pa_n (pv 0) (pa_k pe_int pa_nil))) pe_int) pe_int (nomark _)) (pw_and1 (pt_cmpR op_ne (pe_ix ix_list (pv 6) pe_int px_k) pe_str (nomark _))))) (pss_mid (ps_set (i := 8) sc_law.nd rfl (Or.inl rfl) (pe_tup (pa_b (pe_op op_pow pe_int pe_int) (pa_cons (pe_comp [] rfl (pi_range1 rfl T.b_range (pa_k pe_int pa_nil)) ⟨rfl, by decide +kernel, by decide +kernel, rfl, rfl, rfl, True.intro, by decide +kernel⟩ (fun _ _ _ _ => pe_int)) (pa_b (pe_op op_cat (pe_lst (pa_k pe_int pa_nil)) (pe_comp [] rfl (pi_range1 rfl T.b_range (pa_k pe_int pa_nil)) ⟨rfl, by decide +kernel, by decide +kernel, rfl, rfl, rfl, True.intro, by decide +kernel⟩ (fun _ _ _ _ => pe_int))) pa_nil)))))
      (pss_one (ps_for PassesOwn.never rfl (pi_list (pe_lst (pa_k pe_int (pa_k pe_int (pa_k pe_int pa_nil))))) (pg_name (i := 9) sc_law.nd rfl (Or.inl rfl)) (pss_one (ps_if (pt_cmpR op_ne (pe_callG (got_law_tried T) (hr.mono (by decide)) rfl (pa_n (pv 9) (pa_n (pv 1) (pa_t (pe_tup (pa_k pe_int (pa_k pe_int pa_nil))) (pa_n (pv 8) pa_nil))))) pe_str (nomark _)) (pss_one (ps_ret pe_bl)) pss_nil))))) pss_nil)
      (pss_mid (ps_for PassesOwn.never rfl (pi_range1 rfl T.b_range (pa_k pe_int pa_nil)) (pg_name (i := 9) sc_law.nd rfl (Or.inl rfl)) (pss_mid (ps_set (i := 10) sc_law.nd rfl (Or.inl rfl) (pe_ix ix_list (pe_lst (pa_s (pe_ix ix_list (pv 6) pe_int px_k) (pa_s (pe_ix ix_list (pv 6) pe_int px_k) (pa_s (pe_ix ix_list (pv 6) pe_int px_k) (pa_s (pe_ix ix_list (pv 6) pe_int px_k) (pa_s (pe_ix ix_list (pv 6) pe_int px_k) (pa_s (pe_ix ix_list (pv 6) pe_int px_k) (pa_s (pe_ix ix_list (pv 6) pe_int px_k) (pa_s (pe_ix ix_list (pv 6) pe_int px_k) (pa_s (pe_ix ix_list (pv 6) pe_int px_k) (pa_s (pe_ix ix_list (pv 6) pe_int px_k) (pa_s (pe_ix ix_list (pv 6) pe_int px_k) pa_nil)))))))))))) (pv 9) px_n))
      (pss_mid (ps_set (i := 11) sc_law.nd rfl (Or.inl rfl) (pe_callG (got_law_tried T) (hr.mono (by decide)) rfl (pa_n (pv 9) (pa_n (pv 1) (pa_n (pv 3) (pa_n (pv 4) pa_nil))))))
      (pss_mid (ps_if (PW.pt (pw_and (pt_cmpR op_eq (pv 9) pe_int (nomark _)) (pw_and1 (pt_cmpR op_eq (pv 10) pe_str (nomark _))))) (pss_one (ps_set (i := 10) sc_law.nd rfl (Or.inl rfl) pe_str)) pss_nil)
      (pss_one (ps_if (PW.pt (pw_and (pt_cmpR op_ne (pv 11) (pv 10) (nomark _)) (pw_and1 (pt_not (PW.pt (pw_and (pt_cmpR op_in_seq (pv 9) (pe_tup (pa_k pe_int (pa_k pe_int pa_nil))) (by rfl)) (pw_and (pt_cmpR op_eq (pv 10) pe_str (nomark _)) (pw_and1 (pt_cmpR op_eq (pv 11) pe_str (nomark _)))))))))) (pss_one (ps_ret pe_bl)) pss_nil))))))
      (pss_one (ps_ret pe_bl)))))))))))))), ?_⟩
    refine md (A1 H sc) ?a1 (mr (A2 H sc) ?a2 (mr (A3 H sc) ?a3 (mr (A4 H sc) ?a4 (mr (A5 H sc) ?a5 (mr (A6 H sc) ?a6 (mr (A7 H sc) ?a7 (mr (A8 H sc) ?a8 (mr (A9 H sc) ?a9 (mr (A10 H sc) ?a10 (mr (A10 H sc) ?a11 (mr (fun _ _ => True) ?a12 ?a13)))))))))))
    case a1 =>
      intro D n r
      exact ⟨_, rfl, sc, ns, _, rfl, hS, by decide, fun z0 _ => ⟨_, _, rfl, rfl, (show (0 : Int) < 35 by decide), _, _, rfl, rfl, n _ _ ⟨_, ⟨by omega, by omega⟩, rfl, rfl⟩⟩⟩
    case a2 =>
      intro σ H' m D n r
      refine m.elim fun b ob => ?_
      exact ⟨_, rfl, sc, ns, _, rfl, hS, by decide, fun z11 _ => ⟨_, _, rfl, rfl, ⟨by decide, by decide, by decide⟩, _, _, rfl, rfl, (show (0 : Int) < 10 ^ (20 : Int).toNat by decide), n _ _ ⟨b, _, ob, Int.emod_nonneg _ (by decide), rfl, rfl⟩⟩⟩
    case a3 =>
      intro σ H' m D n r
      refine m.elim fun b fr ob f0 => ?_
      refine ⟨_, rfl, sc, ns, _, rfl, hS, by decide, fun z12 _ => ⟨_, _, rfl, rfl, ⟨by decide, by decide, by decide⟩, _, _, rfl, rfl, _, _, rfl, rfl, (show (0 : Int) < 10 ^ (12 : Int).toNat + 1 by decide), ?_⟩⟩
      refine ⟨_, rfl, sc, ns, _, rfl, hS, by decide, fun z13 _ => ⟨_, _, rfl, rfl, (show (0 : Int) < 2000 by decide), _, _, rfl, rfl, (show 2 ≤ sizeLine by decide), fun pf hpf => n _ _ ⟨b, fr, pf, _, _, ob, f0, ⟨?_, ?_, by omega, by omega⟩, upd_same, Same.upd hpf, rfl⟩⟩⟩
      · rw [pow12]; omega
      · rw [pow12]; omega
    case a4 =>
      intro σ H' m D n r
      refine m.elim fun b fr pf t q ob f0 fo hf s => ?_
      exact ⟨_, rfl, _, rfl, sc, ns, 1, b, rfl, s.seq hS, by decide, ob.1, ob.2, fun x a g p la lg H1 gw l1 l2 n1 => n _ _ ⟨b, fr, pf, p, la, lg, t, q, x, a, g, ob, f0, fo, gw, by omega, n1.sm _ _ hf, ⟨_, n1⟩, s.trans n1.sm, rfl⟩⟩
    case a5 =>
      intro σ H' m D n r
      refine m.elim fun b fr pf p la lg t q x a g ob f0 fo gw l6 hf n1 s => ?_
      exact ⟨_, rfl, sc, ns, _, rfl, s.seq hS, by decide, fun z15 _ => ⟨_, _, rfl, rfl, (show (0 : Int) < 16 by decide), n _ _ ⟨b, fr, pf, p, la, lg, t, q, x, a, g, _, ob, f0, fo, gw, l6, hf, n1, s, Int.emod_nonneg _ (by decide), rfl⟩⟩⟩
    case a6 =>
      intro σ H' m D n r
      refine m.elim fun b fr pf p la lg t q x a g wy ob f0 fo gw l6 hf ⟨H0, n1⟩ s w0 => ?_
      exact ⟨(show 4 ≤ sizeLine by decide), fun ld hld => n _ _ ⟨b, fr, wy, ld, pf, p, la, lg, t, q, x, a, g, ob, f0, w0, fo, gw, l6, ⟨s.trans (Same.upd hld), Same.upd hld _ _ hf, WrN.fresh n1 hld, upd_same, ne_of_none hf hld, s.free hld⟩, rfl⟩⟩
    case a7 =>
      intro σ H' m D n r
      refine m.elim fun b fr wy ld pf p la lg t q x a g ob f0 w0 fo gw l6 ls => ?_
      refine ⟨_, rfl, _, _, rfl, rfl, _, rfl, ite2D (fun h8 => ?_) (fun h8 => n _ _ ⟨b, fr, wy, ld, pf, p, la, lg, t, q, x, a, g, "done", "done", ob, f0, fo, .inl ⟨gw, rfl⟩, .inl ⟨⟨gw.lg, gw.fg⟩, rfl⟩, fun _ => reck_short ob.1 ob.2 gw l6, ls, rfl⟩)⟩
      refine md (B7 H sc b fr wy ld pf t q "done") ?b1
        (mr (B7 H sc b fr wy ld pf t q (wordOf 2)) ?b2 ?b3)
      case b1 =>
        intro D1 n1 r1
        exact ⟨_, rfl, _, rfl, _, rfl, _, rfl, _, rfl, sc, ns, b, p, la, lg, x, a, g, wy, fr, rfl, ls.sm.seq hS, ob, ls.w.wr, gw, w0, h8, f0, fun x' a' g' p' la' lg' H3 ng rg n3 => n1 _ _ ⟨p', la', lg', x', a', g', ng, rg, ls.wr n3, rfl⟩⟩
      case b2 =>
        rintro σ H2 ⟨p, la, lg, x, a, g, ng, rg, ls, rfl⟩ D1 n1 r1
        exact ⟨_, rfl, ld, _, _, _, rfl, rfl, ls.d, rfl, n1 _ _ ⟨p, la, lg, x, a, g, ng, rg, ls.put, rfl⟩⟩
      case b3 =>
        rintro σ H2 ⟨p, la, lg, x, a, g, ng, rg, ls, rfl⟩
        refine ⟨(show 2 ≤ sizeLine by decide), fun lw hlw => ?_⟩
        have ls2 := ls.same (Same.upd (o := .lst [.str "done", .str "writing"]) hlw)
        refine ⟨_, rfl, _, _, rfl, rfl, _, rfl, ite2D (fun h1 => ?_) (fun h1 => .inr ⟨_, rfl, ?_⟩)⟩
        · refine ⟨_, rfl, _, _, rfl, rfl, (show (0 : Int) < 2 by decide), rfl, .inr ⟨_, rfl, ?_⟩⟩
          by_cases h2 : wy % 2 = 1
          · rw [decide_eq_true (congrArg V.int h2)]
            exact ⟨lw, _, _, .str "writing", rfl, rfl, SqL.of upd_same, rfl, _, rfl, ld, _, _, _, rfl, rfl, ls2.d, rfl, n _ _ ⟨b, fr, wy, ld, pf, p, la, lg, t, q, x, a, g, wordOf 2, "writing", ob, f0, fo, .inr ⟨ng, rfl⟩, .inr ⟨fun z => rg.mp z ⟨h1, h2⟩, rfl⟩, fun z => absurd z ng, ls2.put, rfl⟩⟩
          · rw [decide_eq_false (fun z => h2 (V.int.inj z))]
            exact ⟨lw, _, _, .str "done", rfl, rfl, SqL.of upd_same, rfl, _, rfl, ld, _, _, _, rfl, rfl, ls2.d, rfl, n _ _ ⟨b, fr, wy, ld, pf, p, la, lg, t, q, x, a, g, wordOf 2, "done", ob, f0, fo, .inr ⟨ng, rfl⟩, .inl ⟨rg.mpr (fun z => h2 z.2), rfl⟩, fun z => absurd z ng, ls2.put, rfl⟩⟩
        · exact ⟨lw, _, _, .str "done", rfl, rfl, SqL.of upd_same, rfl, _, rfl, ld, _, _, _, rfl, rfl, ls2.d, rfl, n _ _ ⟨b, fr, wy, ld, pf, p, la, lg, t, q, x, a, g, wordOf 2, "done", ob, f0, fo, .inr ⟨ng, rfl⟩, .inl ⟨rg.mpr (fun z => h1 z.1), rfl⟩, fun z => absurd z ng, ls2.put, rfl⟩⟩
    case a8 =>
      intro σ H' m D n r
      refine m.elim fun b fr wy ld pf p la lg t q x a g d1 d3 ob f0 fo F1 F3 rk ls => ?_
      exact ⟨_, rfl, sc, ns, _, rfl, ls.sm.seq hS, by decide, fun z16 _ => ⟨_, _, rfl, rfl, (show (0 : Int) < 8 by decide), n _ _ ⟨b, fr, wy, ld, pf, p, la, lg, t, q, x, a, g, d1, d3, _, ob, f0, fo, F1, F3, rk, ls, Int.emod_nonneg _ (by decide), rfl⟩⟩⟩
    case a9 =>
      intro σ H' m D n r
      refine m.elim fun b fr wy ld pf p la lg t q x a g d1 d3 kd ob f0 fo F1 F3 rk ls k0 => ?_
      refine ⟨_, rfl, _, _, rfl, rfl, _, rfl, ite2D (fun h4 => ?_) (fun h4 => n _ _ ⟨b, fr, wy, ld, pf, p, la, lg, t, q, x, a, g, "done", d1, "done", d3, _, ob, f0, .inl ⟨fo, rfl⟩, F1, .inl ⟨⟨fo.2.2.1, fo.2.2.2⟩, rfl⟩, F3, rk, ls, rfl⟩)⟩
      refine md (B9 H sc b fr wy ld p la lg x a g "done" d1 d3 kd) ?b1
        (mr (B9 H sc b fr wy ld p la lg x a g (wordOf 1) d1 d3 kd) ?b2 ?b3)
      case b1 =>
        intro D1 n1 r1
        refine ⟨_, rfl, _, rfl, _, _, rfl, rfl, (show 2 ≤ sizeLine by decide), fun p0 e0 => ?_⟩
        refine ⟨_, _, rfl, rfl, ⟨by decide, by decide, by decide⟩, _, _, rfl, rfl, _, rfl, _, _, rfl, rfl, (show 2 ≤ sizeLine by decide), fun p1 e1 => ?_⟩
        refine ⟨_, rfl, _, _, rfl, rfl, (show 2 ≤ sizeLine by decide), fun p2 e2 => ?_⟩
        refine ⟨_, rfl, _, _, rfl, rfl, (show 2 ≤ sizeLine by decide), fun p3 e3 => ⟨(show 4 ≤ sizeLine by decide), fun lf hlf => ?_⟩⟩
        have r1' := Same.upd (o := .tup [.int (10 ^ (12 : Int).toNat + 1 + fr), .int 7]) e1
        have r2 := Same.upd (o := .tup [.int 5, .int (0 - fr)]) e2
        have r3 := Same.upd (o := .tup [.int 5, .int (2001 + fr)]) e3
        have r4 := Same.upd (o := .lst [.ref p0, .ref p1, .ref p2, .ref p3]) hlf
        obtain ⟨pX, tX, qX, ati, hX, nf, bo⟩ := bad_fr f0 k0 h4 (r4 _ _ (r3 _ _ (r2 _ _ (r1' _ _ upd_same)))) (r4 _ _ (r3 _ _ (r2 _ _ upd_same))) (r4 _ _ (r3 _ _ upd_same)) (r4 _ _ upd_same)
        exact ⟨_, rfl, lf, _, _, .ref pX, rfl, rfl, SqL.of upd_same, ati, n1 _ _ ⟨pX, tX, qX, nf, bo, ls.fr ((Same.upd e0).trans (r1'.trans (r2.trans (r3.trans r4)))) hX, rfl⟩⟩
      case b2 =>
        clear fo ls
        rintro σ H2 ⟨pf, t, q, nf, bo, ls, rfl⟩ D1 n1 r1
        exact ⟨_, rfl, ld, _, _, _, rfl, rfl, ls.d, rfl, n1 _ _ ⟨pf, t, q, nf, bo, ls.put, rfl⟩⟩
      case b3 =>
        clear fo ls
        rintro σ H2 ⟨pf, t, q, nf, bo, ls, rfl⟩
        obtain ⟨dX, ati, fb⟩ := bot_word k0 h4 bo
        refine ⟨(show 2 ≤ sizeLine by decide), fun lw hlw => ?_⟩
        have ls2 := ls.same (Same.upd (o := .lst [.str "done", .str "fraction"]) hlw)
        exact ⟨_, rfl, _, _, rfl, rfl, ⟨by decide, by decide⟩, lw, _, _, .str dX, rfl, rfl, SqL.of upd_same, ati, _, rfl, ld, _, _, _, rfl, rfl, ls2.d, rfl, n _ _ ⟨b, fr, wy, ld, pf, p, la, lg, t, q, x, a, g, wordOf 1, d1, dX, d3, _, ob, f0, .inr ⟨nf, rfl⟩, F1, fb, F3, rk, ls2.put, rfl⟩⟩
    case a10 =>
      intro σ H' m D n r
      refine m.elim fun b fr wy ld pf p la lg t q x a g d0 d1 d2 d3 v7 ob f0 F0 F1 F2 F3 rk ls => ?_
      refine ⟨_, rfl, sc, ns, _, rfl, ls.sm.seq hS, by decide, fun z17 _ => ⟨_, _, rfl, rfl, (show (0 : Int) < 4 by decide), rfl, _, rfl, ite2D (fun _ => ?_) (fun _ => n _ _ ⟨b, fr, wy, ld, pf, p, la, lg, t, q, x, a, g, d0, d1, d2, d3, v7, _, _, _, _, .inr ⟨ob, F0, F1, F2, F3, rk⟩, ls, rfl⟩)⟩⟩
      refine md (fun σ H2 => ∃ b' : Int, ¬ BaseOk b' ∧ Same H' H2 ∧ σ = Sg sc b' fr pf p wy ld v7 none none none none) ?b1 ?b2
      case b1 =>
        intro D1 n1 r1
        refine ⟨_, rfl, _, _, rfl, rfl, _, rfl, _, _, rfl, rfl, (show 4 ≤ sizeLine by decide), fun l5 h5 => ?_⟩
        refine ⟨_, rfl, sc, ns, _, rfl, (ls.sm.trans (Same.upd h5)).seq hS, by decide, fun z _ => ⟨_, _, rfl, rfl, ⟨by decide, by decide⟩, _, _, rfl, rfl, (show (0 : Int) < 4 by decide), ?_⟩⟩
        obtain ⟨y, ey, hy⟩ := pickI (ns := [1, 37, 1 - fr, 37 + fr]) (xs := [.int 1, .int 37, .int (1 - fr), .int (37 + fr)]) (i := z / 4 % 4) (n := 4) (R := fun y => ¬ BaseOk y) rfl rfl (by omega) (by omega) (fun d hd => by
          rintro ⟨h1, h2⟩
          simp only [List.mem_cons, List.not_mem_nil, or_false] at hd
          omega)
        exact ⟨l5, _, _, .int y, rfl, rfl, SqL.of upd_same, ey, n1 _ _ ⟨y, hy, Same.upd h5, rfl⟩⟩
      case b2 =>
        rintro σ H2 ⟨b', nb, s2, rfl⟩
        exact ⟨(show 4 ≤ sizeLine by decide), fun l6 h6 => n _ _ ⟨b', fr, wy, l6, pf, p, la, lg, t, q, x, a, g, wordOf 0, wordOf 0, wordOf 0, wordOf 0, v7, _, _, _, _, .inl ⟨nb, rfl, rfl, rfl, rfl⟩, (ls.same s2).due h6, rfl⟩⟩
    case a11 =>
      intro σ H' m D n r
      refine m.elim fun b fr wy ld pf p la lg t q x a g d0 d1 d2 d3 v7 v8 v9 v10 v11 W ls => ?_
      refine ⟨_, rfl, sc, ns, _, rfl, ls.sm.seq hS, by decide, fun z18 _ => ⟨_, _, rfl, rfl, (show (0 : Int) < 16 by decide), rfl, _, rfl, ite2D (fun _ => ?_) (fun _ => iteF (n _ _ ⟨b, fr, wy, ld, pf, p, la, lg, t, q, x, a, g, d0, d1, d2, d3, v7, v8, v9, v10, v11, W, ls, rfl⟩))⟩⟩
      refine ⟨_, rfl, ld, _, _, _, rfl, rfl, SqL.of ls.d, rfl, rfl, _, rfl, ite2N (fun ne => ?_) (fun _ => n _ _ ⟨b, fr, wy, ld, pf, p, la, lg, t, q, x, a, g, d0, d1, d2, d3, v7, v8, v9, v10, v11, W, ls, rfl⟩)⟩
      have ob := W.ok ne
      refine md (fun σ H2 => ∃ (pl D1 D4 : Addr), WrAt K H2 pl D1 D4 1000000000000 (List.replicate 4000 0) (1 :: List.replicate 3999 0) ∧ Same H' H2 ∧ σ = Sg sc b fr pf p wy ld v7 (some (.ref pl)) v9 v10 v11) ?b1 ?b2
      case b1 =>
        intro D1 n1 r1
        refine ⟨_, _, rfl, rfl, ⟨by decide, by decide, by decide⟩, 4000, rfl, by decide, by decide, fun D1 g1 => ?_⟩
        refine comp_range (lo := 0) (n := (4000 : Int).toNat) (fun _ => V.int 0) (by decide) g1 (fun _ _ _ _ _ hR => hR) ?_
        rw [show (List.range (4000 : Int).toNat).map (fun _ => V.int 0) = (List.replicate 4000 (0 : Int)).map V.int from map_const 4000 0]
        refine ⟨(show 1 ≤ sizeLine by decide), fun D2 g2 => ⟨3999, rfl, by decide, by decide, fun D3 g3 => ?_⟩⟩
        refine comp_range (lo := 0) (n := (3999 : Int).toNat) (fun _ => V.int 0) (by decide) g3 (fun _ _ _ _ _ hR => hR) ?_
        rw [show (List.range (3999 : Int).toNat).map (fun _ => V.int 0) = (List.replicate 3999 (0 : Int)).map V.int from map_const 3999 0]
        refine ⟨D2, D3, _, _, rfl, rfl, Same.upd g3 _ _ upd_same, upd_same, by rw [List.length_map, List.length_replicate]; exact (show 1 + 3999 ≤ sizeLine by decide), fun D4 g4 => ⟨(show 3 ≤ sizeLine by decide), fun pl gl => ?_⟩⟩
        refine n1 _ _ ⟨pl, D1, D4, ⟨.of ?_, .of (Same.upd gl _ _ (Same.upd g4 _ _ (Same.upd g3 _ _ (Same.upd g2 _ _ upd_same)))), .of (Same.upd gl _ _ upd_same)⟩, ((((Same.upd g1).trans (Same.upd g2)).trans (Same.upd g3)).trans (Same.upd g4)).trans (Same.upd gl), rfl⟩
        rw [upd_same]
        exact congrArg (fun i => some (HO.tup [V.int i, .ref D1, .ref D4])) pow12
      case b2 =>
        rintro σ H2 ⟨pl, D1, D4, wl, s2, rfl⟩
        refine ⟨(show 3 ≤ sizeLine by decide), fun l7 h7 => ⟨l7, rfl, ⟨_, SqL.of upd_same⟩, for_list (K := K) (a := l7) (xs := [.int 4, .int 5, .int 10]) (fun i σ H3 => ∃ v9, σ = Sg sc b fr pf p wy ld v7 (some (.ref pl)) v9 v10 v11 ∧ Same (upd H2 l7 (.lst [.int 4, .int 5, .int 10])) H3) ⟨_, rfl, Same.refl _⟩ (fun i σ H3 _ ⟨_, _, s'⟩ => s'.seq (SqL.of upd_same)) ?_ (fun σ H3 ⟨v9, e, s'⟩ => ?_)⟩⟩
        · rintro i y σ H3 hi ⟨v9, rfl, s'⟩
          obtain ⟨j, rfl, jl, jn, ja⟩ : ∃ j : Nat, y = .int (j : Int) ∧ j < 11 ∧ (j ≠ 2 ∧ j ≠ 6 ∧ j ≠ 7 ∧ j ≠ 8) ∧ argOk j b 1 1 1000000000000 (List.replicate 4000 0) (1 :: List.replicate 3999 0) := by
            have gl := good_long ob
            match i, hi with
            | 0, hi => exact ⟨4, (Option.some.inj hi).symm, by decide, by decide, gl⟩
            | 1, hi => exact ⟨5, (Option.some.inj hi).symm, by decide, by decide, gl⟩
            | 2, hi => exact ⟨10, (Option.some.inj hi).symm, by decide, by decide, ⟨gl.lg, gl.fg⟩⟩
          refine ⟨_, rfl, _, rfl, (show 2 ≤ sizeLine by decide), fun pt ht => ⟨_, rfl, j, b, pt, 1, 1, pl, D1, D4, _, _, _, rfl, jl, SqT.of upd_same, (((Same.upd h7).trans s').trans (Same.upd ht)).wr wl, fun _ _ z => absurd z (by omega), fun z H2 ac s2 => ?_⟩⟩
          obtain rfl := told_done ⟨jn.2.1, jn.2.2.1, jn.2.2.2⟩ ob ja ac
          exact ⟨rfl, _, rfl, iteNDF rfl ⟨_, rfl, (s'.trans (Same.upd ht)).trans s2⟩⟩
        · subst e
          exact n _ _ ⟨b, fr, wy, ld, pf, p, la, lg, t, q, x, a, g, d0, d1, d2, d3, v7, _, _, _, _, W, ls.same (s2.trans ((Same.upd h7).trans s')), rfl⟩
    case a12 =>
      intro σ H' m D n r
      refine ⟨11, rfl, by decide, by decide, for_range (lo := 0) (n := (11 : Int).toNat) (fun _ => A10 H sc) m ?_ (fun σ H2 _ => n _ _ trivial)⟩
      intro i σ H2 hi m2
      refine A10.elim (Z := fun σ H2 => gName 9 (V.int (0 + (i : Int))) σ H2 fun σ2 H2 => tMid _ _ _ σ2 H2) m2 fun b fr wy ld pf p la lg t q x a g d0 d1 d2 d3 v7 v8 v9 v10 v11 W ls => ?_
      have hi : i < 11 := hi
      refine md (fun σ H3 => LwS H ld pf p la lg t q x a g d0 d1 d2 d3 H3 ∧ σ = Sg sc b fr pf p wy ld v7 v8 (some (.int (0 + (i : Int)))) (some (.str ((dws d0 d1 d2 d3).getD i ""))) v11) ?b1
        (mr (fun σ H3 => ∃ z, Acc i b t q x a g z ∧ LwS H ld pf p la lg t q x a g d0 d1 d2 d3 H3 ∧ σ = Sg sc b fr pf p wy ld v7 v8 (some (.int (0 + (i : Int)))) (some (.str ((dws d0 d1 d2 d3).getD i ""))) (some (.str z))) ?b2
        (mr (fun σ H3 => ∃ z, Acc i b t q x a g z ∧ LwS H ld pf p la lg t q x a g d0 d1 d2 d3 H3 ∧ σ = Sg sc b fr pf p wy ld v7 v8 (some (.int (0 + (i : Int)))) (some (.str (want d0 d1 d2 d3 i))) (some (.str z))) ?b3 ?b4))
      case b1 =>
        intro D1 n1 r1
        have dl := SqL.of (K := K) ls.d
        exact ⟨_, rfl, ld, _, _, _, rfl, rfl, dl, rfl, _, rfl, ld, _, _, _, rfl, rfl, dl, rfl, _, rfl, ld, _, _, _, rfl, rfl, dl, rfl, _, rfl, ld, _, _, _, rfl, rfl, dl, rfl, _, rfl, ld, _, _, _, rfl, rfl, dl, rfl, _, rfl, ld, _, _, _, rfl, rfl, dl, rfl, _, rfl, ld, _, _, _, rfl, rfl, dl, rfl, _, rfl, ld, _, _, _, rfl, rfl, dl, rfl, _, rfl, ld, _, _, _, rfl, rfl, dl, rfl, _, rfl, ld, _, _, _, rfl, rfl, dl, rfl, _, rfl, ld, _, _, _, rfl, rfl, dl, rfl,
          (show 11 ≤ sizeLine by decide), fun lw hlw => ⟨_, rfl, lw, _, _, .str ((dws d0 d1 d2 d3).getD i ""), rfl, rfl, SqL.of upd_same, dws_at hi, n1 _ _ ⟨ls.same (Same.upd hlw), rfl⟩⟩⟩
      case b2 =>
        clear ls
        rintro σ H3 ⟨ls, rfl⟩ D1 n1 r1
        exact ⟨_, rfl, _, rfl, _, rfl, _, rfl, i, b, pf, t, q, p, la, lg, x, a, g, by rw [Int.zero_add]; rfl, hi, SqT.of ls.f, ls.w.wr, fun o1 o2 _ => W.reck o1 o2, fun z H4 ac s2 => n1 _ _ ⟨z, ac, ls.same s2, rfl⟩⟩
      case b3 =>
        clear ls
        rintro σ H3 ⟨z, ac, ls, rfl⟩ D1 n1 r1
        refine ⟨_, rfl, rfl, _, rfl, ite2D (fun h8 => ?_) (fun h8 => iteF (n1 _ _ ⟨z, ac, ls, ?_⟩))⟩
        · have i8 : i = 8 := by have := V.int.inj h8; omega
          refine ⟨_, rfl, rfl, _, rfl, ite2D (fun hd => n1 _ _ ⟨z, ac, ls, ?_⟩) (fun hd => n1 _ _ ⟨z, ac, ls, ?_⟩)⟩
          · unfold want
            rw [if_pos ⟨i8, V.str.inj hd⟩]; rfl
          · unfold want
            rw [if_neg (fun y => hd (congrArg V.str y.2))]
        · unfold want
          rw [if_neg (fun y => h8 (by rw [y.1]; rfl))]
      case b4 =>
        clear ls
        rintro σ H3 ⟨z, ac, ls, rfl⟩
        refine ⟨_, rfl, _, rfl, rfl, _, rfl, ite2N (fun ne => ?_) (fun eq => iteF ⟨b, fr, wy, ld, pf, p, la, lg, t, q, x, a, g, d0, d1, d2, d3, v7, v8, _, _, _, W, ls, rfl⟩)⟩
        rcases told_wanted hi W ac with e | ⟨h67, hw, hz⟩
        · exact absurd (congrArg V.str e) ne
        · refine ⟨_, rfl, (show 2 ≤ sizeLine by decide), fun pt hpt => ⟨pt, _, rfl, .inr (SqT.of upd_same), rfl, rfl, ?_⟩⟩
          have e67 : inV (V.int (0 + (i : Int))) [V.int 6, V.int 7] = true := by
            rcases h67 with rfl | rfl <;> rfl
          dsimp only
          rw [e67]
          refine ⟨_, rfl, iteT ?_⟩
          refine ⟨_, rfl, rfl, _, rfl, iteDT (congrArg V.str hw) ?_⟩
          refine ⟨_, rfl, rfl, _, rfl, ?_⟩
          rw [decide_eq_true (congrArg V.str hz)]
          exact iteF ⟨b, fr, wy, ld, pf, p, la, lg, t, q, x, a, g, d0, d1, d2, d3, v7, v8, _, _, _, W, ls.same (Same.upd hpt), rfl⟩
    case a13 =>
      intro σ H' _
      exact k _
end
theorem ar1 {K : PySem.W.Frag} {x qual : Str} {st : Stmt} {f : Addr} {fd : FuncData} {ps : List Str} (hp : ps.length = 1) (F : Fun K x qual st f fd)
    (h : ∀ (kV doc pm : Value) (an : Option Addr) (cdv ct x0 : Value), bindArgs (PySem.W.fnOf x qual (defArgs st) (defBody st) (defScope st) .none kV doc pm an cdv ct) ⟨[x0], []⟩ = pure (ps.zip [x0])) : Binds K fd ps [] :=
  F.binds fun kV doc pm an cdv ct us hl => match us, hl.trans hp with
    | [x0], _ => h kV doc pm an cdv ct x0
theorem ar2 {K : PySem.W.Frag} {x qual : Str} {st : Stmt} {f : Addr} {fd : FuncData} {ps : List Str} (hp : ps.length = 2) (F : Fun K x qual st f fd)
    (h : ∀ (kV doc pm : Value) (an : Option Addr) (cdv ct x0 x1 : Value), bindArgs (PySem.W.fnOf x qual (defArgs st) (defBody st) (defScope st) .none kV doc pm an cdv ct) ⟨[x0, x1], []⟩ = pure (ps.zip [x0, x1])) : Binds K fd ps [] :=
  F.binds fun kV doc pm an cdv ct us hl => match us, hl.trans hp with
    | [x0, x1], _ => h kV doc pm an cdv ct x0 x1
theorem ar3 {K : PySem.W.Frag} {x qual : Str} {st : Stmt} {f : Addr} {fd : FuncData} {ps : List Str} (hp : ps.length = 3) (F : Fun K x qual st f fd)
    (h : ∀ (kV doc pm : Value) (an : Option Addr) (cdv ct x0 x1 x2 : Value), bindArgs (PySem.W.fnOf x qual (defArgs st) (defBody st) (defScope st) .none kV doc pm an cdv ct) ⟨[x0, x1, x2], []⟩ = pure (ps.zip [x0, x1, x2])) : Binds K fd ps [] :=
  F.binds fun kV doc pm an cdv ct us hl => match us, hl.trans hp with
    | [x0, x1, x2], _ => h kV doc pm an cdv ct x0 x1 x2
theorem ar4 {K : PySem.W.Frag} {x qual : Str} {st : Stmt} {f : Addr} {fd : FuncData} {ps : List Str} (hp : ps.length = 4) (F : Fun K x qual st f fd)
    (h : ∀ (kV doc pm : Value) (an : Option Addr) (cdv ct x0 x1 x2 x3 : Value), bindArgs (PySem.W.fnOf x qual (defArgs st) (defBody st) (defScope st) .none kV doc pm an cdv ct) ⟨[x0, x1, x2, x3], []⟩ = pure (ps.zip [x0, x1, x2, x3])) : Binds K fd ps [] :=
  F.binds fun kV doc pm an cdv ct us hl => match us, hl.trans hp with
    | [x0, x1, x2, x3], _ => h kV doc pm an cdv ct x0 x1 x2 x3
theorem ar5 {K : PySem.W.Frag} {x qual : Str} {st : Stmt} {f : Addr} {fd : FuncData} {ps : List Str} (hp : ps.length = 5) (F : Fun K x qual st f fd)
    (h : ∀ (kV doc pm : Value) (an : Option Addr) (cdv ct x0 x1 x2 x3 x4 : Value), bindArgs (PySem.W.fnOf x qual (defArgs st) (defBody st) (defScope st) .none kV doc pm an cdv ct) ⟨[x0, x1, x2, x3, x4], []⟩ = pure (ps.zip [x0, x1, x2, x3, x4])) : Binds K fd ps [] :=
  F.binds fun kV doc pm an cdv ct us hl => match us, hl.trans hp with
    | [x0, x1, x2, x3, x4], _ => h kV doc pm an cdv ct x0 x1 x2 x3 x4
theorem txt_mk {K : PySem.W.Frag} {h : Heap} {mg : Str → Option Value} (X : K.In h) (G : h.Ns mainGlobals mg)
    {f_check_base : Addr} {od_check_base an_check_base : Option Addr} {sl_check_base : Array (Option Value)} {oc_check_base kV_check_base dc_check_base pm_check_base cd_check_base ct_check_base : Value}
    (a_check_base : PySem.W.nsIn K mainGlobals "check_base" = some (some (.ref f_check_base))) (l_check_base : K.lookup f_check_base = some ⟨oc_check_base, od_check_base, .func (PySem.W.fnOf "check_base" "check_base" (defArgs s_check_base) (defBody s_check_base) (defScope s_check_base) .none kV_check_base dc_check_base pm_check_base an_check_base cd_check_base ct_check_base), sl_check_base⟩) (c_check_base : PySem.W.codeIn K cd_check_base "check_base" = true) (k_check_base : PySem.W.keepIn K (.ref f_check_base) = true)
    {f_check_fraction : Addr} {od_check_fraction an_check_fraction : Option Addr} {sl_check_fraction : Array (Option Value)} {oc_check_fraction kV_check_fraction dc_check_fraction pm_check_fraction cd_check_fraction ct_check_fraction : Value}
    (a_check_fraction : PySem.W.nsIn K mainGlobals "check_fraction" = some (some (.ref f_check_fraction))) (l_check_fraction : K.lookup f_check_fraction = some ⟨oc_check_fraction, od_check_fraction, .func (PySem.W.fnOf "check_fraction" "check_fraction" (defArgs s_check_fraction) (defBody s_check_fraction) (defScope s_check_fraction) .none kV_check_fraction dc_check_fraction pm_check_fraction an_check_fraction cd_check_fraction ct_check_fraction), sl_check_fraction⟩) (c_check_fraction : PySem.W.codeIn K cd_check_fraction "check_fraction" = true) (k_check_fraction : PySem.W.keepIn K (.ref f_check_fraction) = true)
    {f_check_bottom : Addr} {od_check_bottom an_check_bottom : Option Addr} {sl_check_bottom : Array (Option Value)} {oc_check_bottom kV_check_bottom dc_check_bottom pm_check_bottom cd_check_bottom ct_check_bottom : Value}
    (a_check_bottom : PySem.W.nsIn K mainGlobals "check_bottom" = some (some (.ref f_check_bottom))) (l_check_bottom : K.lookup f_check_bottom = some ⟨oc_check_bottom, od_check_bottom, .func (PySem.W.fnOf "check_bottom" "check_bottom" (defArgs s_check_bottom) (defBody s_check_bottom) (defScope s_check_bottom) .none kV_check_bottom dc_check_bottom pm_check_bottom an_check_bottom cd_check_bottom ct_check_bottom), sl_check_bottom⟩) (c_check_bottom : PySem.W.codeIn K cd_check_bottom "check_bottom" = true) (k_check_bottom : PySem.W.keepIn K (.ref f_check_bottom) = true)
    {f_check_figures : Addr} {od_check_figures an_check_figures : Option Addr} {sl_check_figures : Array (Option Value)} {oc_check_figures kV_check_figures dc_check_figures pm_check_figures cd_check_figures ct_check_figures : Value}
    (a_check_figures : PySem.W.nsIn K mainGlobals "check_figures" = some (some (.ref f_check_figures))) (l_check_figures : K.lookup f_check_figures = some ⟨oc_check_figures, od_check_figures, .func (PySem.W.fnOf "check_figures" "check_figures" (defArgs s_check_figures) (defBody s_check_figures) (defScope s_check_figures) .none kV_check_figures dc_check_figures pm_check_figures an_check_figures cd_check_figures ct_check_figures), sl_check_figures⟩) (c_check_figures : PySem.W.codeIn K cd_check_figures "check_figures" = true) (k_check_figures : PySem.W.keepIn K (.ref f_check_figures) = true)
    {f_check_writing : Addr} {od_check_writing an_check_writing : Option Addr} {sl_check_writing : Array (Option Value)} {oc_check_writing kV_check_writing dc_check_writing pm_check_writing cd_check_writing ct_check_writing : Value}
    (a_check_writing : PySem.W.nsIn K mainGlobals "check_writing" = some (some (.ref f_check_writing))) (l_check_writing : K.lookup f_check_writing = some ⟨oc_check_writing, od_check_writing, .func (PySem.W.fnOf "check_writing" "check_writing" (defArgs s_check_writing) (defBody s_check_writing) (defScope s_check_writing) .none kV_check_writing dc_check_writing pm_check_writing an_check_writing cd_check_writing ct_check_writing), sl_check_writing⟩) (c_check_writing : PySem.W.codeIn K cd_check_writing "check_writing" = true) (k_check_writing : PySem.W.keepIn K (.ref f_check_writing) = true)
    {f_check_number : Addr} {od_check_number an_check_number : Option Addr} {sl_check_number : Array (Option Value)} {oc_check_number kV_check_number dc_check_number pm_check_number cd_check_number ct_check_number : Value}
    (a_check_number : PySem.W.nsIn K mainGlobals "check_number" = some (some (.ref f_check_number))) (l_check_number : K.lookup f_check_number = some ⟨oc_check_number, od_check_number, .func (PySem.W.fnOf "check_number" "check_number" (defArgs s_check_number) (defBody s_check_number) (defScope s_check_number) .none kV_check_number dc_check_number pm_check_number an_check_number cd_check_number ct_check_number), sl_check_number⟩) (c_check_number : PySem.W.codeIn K cd_check_number "check_number" = true) (k_check_number : PySem.W.keepIn K (.ref f_check_number) = true)
    {f_written : Addr} {od_written an_written : Option Addr} {sl_written : Array (Option Value)} {oc_written kV_written dc_written pm_written cd_written ct_written : Value}
    (a_written : PySem.W.nsIn K mainGlobals "written" = some (some (.ref f_written))) (l_written : K.lookup f_written = some ⟨oc_written, od_written, .func (PySem.W.fnOf "written" "written" (defArgs s_written) (defBody s_written) (defScope s_written) .none kV_written dc_written pm_written an_written cd_written ct_written), sl_written⟩) (c_written : PySem.W.codeIn K cd_written "written" = true) (k_written : PySem.W.keepIn K (.ref f_written) = true)
    {f_divided_out : Addr} {od_divided_out an_divided_out : Option Addr} {sl_divided_out : Array (Option Value)} {oc_divided_out kV_divided_out dc_divided_out pm_divided_out cd_divided_out ct_divided_out : Value}
    (a_divided_out : PySem.W.nsIn K mainGlobals "divided_out" = some (some (.ref f_divided_out))) (l_divided_out : K.lookup f_divided_out = some ⟨oc_divided_out, od_divided_out, .func (PySem.W.fnOf "divided_out" "divided_out" (defArgs s_divided_out) (defBody s_divided_out) (defScope s_divided_out) .none kV_divided_out dc_divided_out pm_divided_out an_divided_out cd_divided_out ct_divided_out), sl_divided_out⟩) (c_divided_out : PySem.W.codeIn K cd_divided_out "divided_out" = true) (k_divided_out : PySem.W.keepIn K (.ref f_divided_out) = true)
    {f_worth : Addr} {od_worth an_worth : Option Addr} {sl_worth : Array (Option Value)} {oc_worth kV_worth dc_worth pm_worth cd_worth ct_worth : Value}
    (a_worth : PySem.W.nsIn K mainGlobals "worth" = some (some (.ref f_worth))) (l_worth : K.lookup f_worth = some ⟨oc_worth, od_worth, .func (PySem.W.fnOf "worth" "worth" (defArgs s_worth) (defBody s_worth) (defScope s_worth) .none kV_worth dc_worth pm_worth an_worth cd_worth ct_worth), sl_worth⟩) (c_worth : PySem.W.codeIn K cd_worth "worth" = true) (k_worth : PySem.W.keepIn K (.ref f_worth) = true)
    {f_plain : Addr} {od_plain an_plain : Option Addr} {sl_plain : Array (Option Value)} {oc_plain kV_plain dc_plain pm_plain cd_plain ct_plain : Value}
    (a_plain : PySem.W.nsIn K mainGlobals "plain" = some (some (.ref f_plain))) (l_plain : K.lookup f_plain = some ⟨oc_plain, od_plain, .func (PySem.W.fnOf "plain" "plain" (defArgs s_plain) (defBody s_plain) (defScope s_plain) .none kV_plain dc_plain pm_plain an_plain cd_plain ct_plain), sl_plain⟩) (c_plain : PySem.W.codeIn K cd_plain "plain" = true) (k_plain : PySem.W.keepIn K (.ref f_plain) = true)
    {f_is_plain : Addr} {od_is_plain an_is_plain : Option Addr} {sl_is_plain : Array (Option Value)} {oc_is_plain kV_is_plain dc_is_plain pm_is_plain cd_is_plain ct_is_plain : Value}
    (a_is_plain : PySem.W.nsIn K mainGlobals "is_plain" = some (some (.ref f_is_plain))) (l_is_plain : K.lookup f_is_plain = some ⟨oc_is_plain, od_is_plain, .func (PySem.W.fnOf "is_plain" "is_plain" (defArgs s_is_plain) (defBody s_is_plain) (defScope s_is_plain) .none kV_is_plain dc_is_plain pm_is_plain an_is_plain cd_is_plain ct_is_plain), sl_is_plain⟩) (c_is_plain : PySem.W.codeIn K cd_is_plain "is_plain" = true) (k_is_plain : PySem.W.keepIn K (.ref f_is_plain) = true)
    {f_number_of : Addr} {od_number_of an_number_of : Option Addr} {sl_number_of : Array (Option Value)} {oc_number_of kV_number_of dc_number_of pm_number_of cd_number_of ct_number_of : Value}
    (a_number_of : PySem.W.nsIn K mainGlobals "number_of" = some (some (.ref f_number_of))) (l_number_of : K.lookup f_number_of = some ⟨oc_number_of, od_number_of, .func (PySem.W.fnOf "number_of" "number_of" (defArgs s_number_of) (defBody s_number_of) (defScope s_number_of) .none kV_number_of dc_number_of pm_number_of an_number_of cd_number_of ct_number_of), sl_number_of⟩) (c_number_of : PySem.W.codeIn K cd_number_of "number_of" = true) (k_number_of : PySem.W.keepIn K (.ref f_number_of) = true)
    {f_power : Addr} {od_power an_power : Option Addr} {sl_power : Array (Option Value)} {oc_power kV_power dc_power pm_power cd_power ct_power : Value}
    (a_power : PySem.W.nsIn K mainGlobals "power" = some (some (.ref f_power))) (l_power : K.lookup f_power = some ⟨oc_power, od_power, .func (PySem.W.fnOf "power" "power" (defArgs s_power) (defBody s_power) (defScope s_power) .none kV_power dc_power pm_power an_power cd_power ct_power), sl_power⟩) (c_power : PySem.W.codeIn K cd_power "power" = true) (k_power : PySem.W.keepIn K (.ref f_power) = true)
    {f_common_measure : Addr} {od_common_measure an_common_measure : Option Addr} {sl_common_measure : Array (Option Value)} {oc_common_measure kV_common_measure dc_common_measure pm_common_measure cd_common_measure ct_common_measure : Value}
    (a_common_measure : PySem.W.nsIn K mainGlobals "common_measure" = some (some (.ref f_common_measure))) (l_common_measure : K.lookup f_common_measure = some ⟨oc_common_measure, od_common_measure, .func (PySem.W.fnOf "common_measure" "common_measure" (defArgs s_common_measure) (defBody s_common_measure) (defScope s_common_measure) .none kV_common_measure dc_common_measure pm_common_measure an_common_measure cd_common_measure ct_common_measure), sl_common_measure⟩) (c_common_measure : PySem.W.codeIn K cd_common_measure "common_measure" = true) (k_common_measure : PySem.W.keepIn K (.ref f_common_measure) = true)
    {f_shortest_ring : Addr} {od_shortest_ring an_shortest_ring : Option Addr} {sl_shortest_ring : Array (Option Value)} {oc_shortest_ring kV_shortest_ring dc_shortest_ring pm_shortest_ring cd_shortest_ring ct_shortest_ring : Value}
    (a_shortest_ring : PySem.W.nsIn K mainGlobals "shortest_ring" = some (some (.ref f_shortest_ring))) (l_shortest_ring : K.lookup f_shortest_ring = some ⟨oc_shortest_ring, od_shortest_ring, .func (PySem.W.fnOf "shortest_ring" "shortest_ring" (defArgs s_shortest_ring) (defBody s_shortest_ring) (defScope s_shortest_ring) .none kV_shortest_ring dc_shortest_ring pm_shortest_ring an_shortest_ring cd_shortest_ring ct_shortest_ring), sl_shortest_ring⟩) (c_shortest_ring : PySem.W.codeIn K cd_shortest_ring "shortest_ring" = true) (k_shortest_ring : PySem.W.keepIn K (.ref f_shortest_ring) = true)
    {f_without_last : Addr} {od_without_last an_without_last : Option Addr} {sl_without_last : Array (Option Value)} {oc_without_last kV_without_last dc_without_last pm_without_last cd_without_last ct_without_last : Value}
    (a_without_last : PySem.W.nsIn K mainGlobals "without_last" = some (some (.ref f_without_last))) (l_without_last : K.lookup f_without_last = some ⟨oc_without_last, od_without_last, .func (PySem.W.fnOf "without_last" "without_last" (defArgs s_without_last) (defBody s_without_last) (defScope s_without_last) .none kV_without_last dc_without_last pm_without_last an_without_last cd_without_last ct_without_last), sl_without_last⟩) (c_without_last : PySem.W.codeIn K cd_without_last "without_last" = true) (k_without_last : PySem.W.keepIn K (.ref f_without_last) = true)
    {f_rounded_up : Addr} {od_rounded_up an_rounded_up : Option Addr} {sl_rounded_up : Array (Option Value)} {oc_rounded_up kV_rounded_up dc_rounded_up pm_rounded_up cd_rounded_up ct_rounded_up : Value}
    (a_rounded_up : PySem.W.nsIn K mainGlobals "rounded_up" = some (some (.ref f_rounded_up))) (l_rounded_up : K.lookup f_rounded_up = some ⟨oc_rounded_up, od_rounded_up, .func (PySem.W.fnOf "rounded_up" "rounded_up" (defArgs s_rounded_up) (defBody s_rounded_up) (defScope s_rounded_up) .none kV_rounded_up dc_rounded_up pm_rounded_up an_rounded_up cd_rounded_up ct_rounded_up), sl_rounded_up⟩) (c_rounded_up : PySem.W.codeIn K cd_rounded_up "rounded_up" = true) (k_rounded_up : PySem.W.keepIn K (.ref f_rounded_up) = true)
    {f_drawn_into_ring : Addr} {od_drawn_into_ring an_drawn_into_ring : Option Addr} {sl_drawn_into_ring : Array (Option Value)} {oc_drawn_into_ring kV_drawn_into_ring dc_drawn_into_ring pm_drawn_into_ring cd_drawn_into_ring ct_drawn_into_ring : Value}
    (a_drawn_into_ring : PySem.W.nsIn K mainGlobals "drawn_into_ring" = some (some (.ref f_drawn_into_ring))) (l_drawn_into_ring : K.lookup f_drawn_into_ring = some ⟨oc_drawn_into_ring, od_drawn_into_ring, .func (PySem.W.fnOf "drawn_into_ring" "drawn_into_ring" (defArgs s_drawn_into_ring) (defBody s_drawn_into_ring) (defScope s_drawn_into_ring) .none kV_drawn_into_ring dc_drawn_into_ring pm_drawn_into_ring an_drawn_into_ring cd_drawn_into_ring ct_drawn_into_ring), sl_drawn_into_ring⟩) (c_drawn_into_ring : PySem.W.codeIn K cd_drawn_into_ring "drawn_into_ring" = true) (k_drawn_into_ring : PySem.W.keepIn K (.ref f_drawn_into_ring) = true)
    {f_lengths : Addr} {od_lengths an_lengths : Option Addr} {sl_lengths : Array (Option Value)} {oc_lengths kV_lengths dc_lengths pm_lengths cd_lengths ct_lengths : Value}
    (a_lengths : PySem.W.nsIn K mainGlobals "lengths" = some (some (.ref f_lengths))) (l_lengths : K.lookup f_lengths = some ⟨oc_lengths, od_lengths, .func (PySem.W.fnOf "lengths" "lengths" (defArgs s_lengths) (defBody s_lengths) (defScope s_lengths) .none kV_lengths dc_lengths pm_lengths an_lengths cd_lengths ct_lengths), sl_lengths⟩) (c_lengths : PySem.W.codeIn K cd_lengths "lengths" = true) (k_lengths : PySem.W.keepIn K (.ref f_lengths) = true)
    {f_ring_length : Addr} {od_ring_length an_ring_length : Option Addr} {sl_ring_length : Array (Option Value)} {oc_ring_length kV_ring_length dc_ring_length pm_ring_length cd_ring_length ct_ring_length : Value}
    (a_ring_length : PySem.W.nsIn K mainGlobals "ring_length" = some (some (.ref f_ring_length))) (l_ring_length : K.lookup f_ring_length = some ⟨oc_ring_length, od_ring_length, .func (PySem.W.fnOf "ring_length" "ring_length" (defArgs s_ring_length) (defBody s_ring_length) (defScope s_ring_length) .none kV_ring_length dc_ring_length pm_ring_length an_ring_length cd_ring_length ct_ring_length), sl_ring_length⟩) (c_ring_length : PySem.W.codeIn K cd_ring_length "ring_length" = true) (k_ring_length : PySem.W.keepIn K (.ref f_ring_length) = true)
    {f_figure_at : Addr} {od_figure_at an_figure_at : Option Addr} {sl_figure_at : Array (Option Value)} {oc_figure_at kV_figure_at dc_figure_at pm_figure_at cd_figure_at ct_figure_at : Value}
    (a_figure_at : PySem.W.nsIn K mainGlobals "figure_at" = some (some (.ref f_figure_at))) (l_figure_at : K.lookup f_figure_at = some ⟨oc_figure_at, od_figure_at, .func (PySem.W.fnOf "figure_at" "figure_at" (defArgs s_figure_at) (defBody s_figure_at) (defScope s_figure_at) .none kV_figure_at dc_figure_at pm_figure_at an_figure_at cd_figure_at ct_figure_at), sl_figure_at⟩) (c_figure_at : PySem.W.codeIn K cd_figure_at "figure_at" = true) (k_figure_at : PySem.W.keepIn K (.ref f_figure_at) = true)
    {f_power_rest : Addr} {od_power_rest an_power_rest : Option Addr} {sl_power_rest : Array (Option Value)} {oc_power_rest kV_power_rest dc_power_rest pm_power_rest cd_power_rest ct_power_rest : Value}
    (a_power_rest : PySem.W.nsIn K mainGlobals "power_rest" = some (some (.ref f_power_rest))) (l_power_rest : K.lookup f_power_rest = some ⟨oc_power_rest, od_power_rest, .func (PySem.W.fnOf "power_rest" "power_rest" (defArgs s_power_rest) (defBody s_power_rest) (defScope s_power_rest) .none kV_power_rest dc_power_rest pm_power_rest an_power_rest cd_power_rest ct_power_rest), sl_power_rest⟩) (c_power_rest : PySem.W.codeIn K cd_power_rest "power_rest" = true) (k_power_rest : PySem.W.keepIn K (.ref f_power_rest) = true)
    {f_folds : Addr} {od_folds an_folds : Option Addr} {sl_folds : Array (Option Value)} {oc_folds kV_folds dc_folds pm_folds cd_folds ct_folds : Value}
    (a_folds : PySem.W.nsIn K mainGlobals "folds" = some (some (.ref f_folds))) (l_folds : K.lookup f_folds = some ⟨oc_folds, od_folds, .func (PySem.W.fnOf "folds" "folds" (defArgs s_folds) (defBody s_folds) (defScope s_folds) .none kV_folds dc_folds pm_folds an_folds cd_folds ct_folds), sl_folds⟩) (c_folds : PySem.W.codeIn K cd_folds "folds" = true) (k_folds : PySem.W.keepIn K (.ref f_folds) = true)
    {f_shown : Addr} {od_shown an_shown : Option Addr} {sl_shown : Array (Option Value)} {oc_shown kV_shown dc_shown pm_shown cd_shown ct_shown : Value}
    (a_shown : PySem.W.nsIn K mainGlobals "shown" = some (some (.ref f_shown))) (l_shown : K.lookup f_shown = some ⟨oc_shown, od_shown, .func (PySem.W.fnOf "shown" "shown" (defArgs s_shown) (defBody s_shown) (defScope s_shown) .none kV_shown dc_shown pm_shown an_shown cd_shown ct_shown), sl_shown⟩) (c_shown : PySem.W.codeIn K cd_shown "shown" = true) (k_shown : PySem.W.keepIn K (.ref f_shown) = true)
    {f_text_of : Addr} {od_text_of an_text_of : Option Addr} {sl_text_of : Array (Option Value)} {oc_text_of kV_text_of dc_text_of pm_text_of cd_text_of ct_text_of : Value}
    (a_text_of : PySem.W.nsIn K mainGlobals "text_of" = some (some (.ref f_text_of))) (l_text_of : K.lookup f_text_of = some ⟨oc_text_of, od_text_of, .func (PySem.W.fnOf "text_of" "text_of" (defArgs s_text_of) (defBody s_text_of) (defScope s_text_of) .none kV_text_of dc_text_of pm_text_of an_text_of cd_text_of ct_text_of), sl_text_of⟩) (c_text_of : PySem.W.codeIn K cd_text_of "text_of" = true) (k_text_of : PySem.W.keepIn K (.ref f_text_of) = true)
    {f_figures_of_whole : Addr} {od_figures_of_whole an_figures_of_whole : Option Addr} {sl_figures_of_whole : Array (Option Value)} {oc_figures_of_whole kV_figures_of_whole dc_figures_of_whole pm_figures_of_whole cd_figures_of_whole ct_figures_of_whole : Value}
    (a_figures_of_whole : PySem.W.nsIn K mainGlobals "figures_of_whole" = some (some (.ref f_figures_of_whole))) (l_figures_of_whole : K.lookup f_figures_of_whole = some ⟨oc_figures_of_whole, od_figures_of_whole, .func (PySem.W.fnOf "figures_of_whole" "figures_of_whole" (defArgs s_figures_of_whole) (defBody s_figures_of_whole) (defScope s_figures_of_whole) .none kV_figures_of_whole dc_figures_of_whole pm_figures_of_whole an_figures_of_whole cd_figures_of_whole ct_figures_of_whole), sl_figures_of_whole⟩) (c_figures_of_whole : PySem.W.codeIn K cd_figures_of_whole "figures_of_whole" = true) (k_figures_of_whole : PySem.W.keepIn K (.ref f_figures_of_whole) = true)
    {f_added : Addr} {od_added an_added : Option Addr} {sl_added : Array (Option Value)} {oc_added kV_added dc_added pm_added cd_added ct_added : Value}
    (a_added : PySem.W.nsIn K mainGlobals "added" = some (some (.ref f_added))) (l_added : K.lookup f_added = some ⟨oc_added, od_added, .func (PySem.W.fnOf "added" "added" (defArgs s_added) (defBody s_added) (defScope s_added) .none kV_added dc_added pm_added an_added cd_added ct_added), sl_added⟩) (c_added : PySem.W.codeIn K cd_added "added" = true) (k_added : PySem.W.keepIn K (.ref f_added) = true)
    {f_times : Addr} {od_times an_times : Option Addr} {sl_times : Array (Option Value)} {oc_times kV_times dc_times pm_times cd_times ct_times : Value}
    (a_times : PySem.W.nsIn K mainGlobals "times" = some (some (.ref f_times))) (l_times : K.lookup f_times = some ⟨oc_times, od_times, .func (PySem.W.fnOf "times" "times" (defArgs s_times) (defBody s_times) (defScope s_times) .none kV_times dc_times pm_times an_times cd_times ct_times), sl_times⟩) (c_times : PySem.W.codeIn K cd_times "times" = true) (k_times : PySem.W.keepIn K (.ref f_times) = true)
    {f_result_of : Addr} {od_result_of an_result_of : Option Addr} {sl_result_of : Array (Option Value)} {oc_result_of kV_result_of dc_result_of pm_result_of cd_result_of ct_result_of : Value}
    (a_result_of : PySem.W.nsIn K mainGlobals "result_of" = some (some (.ref f_result_of))) (l_result_of : K.lookup f_result_of = some ⟨oc_result_of, od_result_of, .func (PySem.W.fnOf "result_of" "result_of" (defArgs s_result_of) (defBody s_result_of) (defScope s_result_of) .none kV_result_of dc_result_of pm_result_of an_result_of cd_result_of ct_result_of), sl_result_of⟩) (c_result_of : PySem.W.codeIn K cd_result_of "result_of" = true) (k_result_of : PySem.W.keepIn K (.ref f_result_of) = true)
    {f_law_cell_at : Addr} {od_law_cell_at an_law_cell_at : Option Addr} {sl_law_cell_at : Array (Option Value)} {oc_law_cell_at kV_law_cell_at dc_law_cell_at pm_law_cell_at cd_law_cell_at ct_law_cell_at : Value}
    (a_law_cell_at : PySem.W.nsIn K mainGlobals "_law_cell_at" = some (some (.ref f_law_cell_at))) (l_law_cell_at : K.lookup f_law_cell_at = some ⟨oc_law_cell_at, od_law_cell_at, .func (PySem.W.fnOf "_law_cell_at" "_law_cell_at" (defArgs s_law_cell_at) (defBody s_law_cell_at) (defScope s_law_cell_at) .none kV_law_cell_at dc_law_cell_at pm_law_cell_at an_law_cell_at cd_law_cell_at ct_law_cell_at), sl_law_cell_at⟩) (c_law_cell_at : PySem.W.codeIn K cd_law_cell_at "_law_cell_at" = true) (k_law_cell_at : PySem.W.keepIn K (.ref f_law_cell_at) = true)
    {f_law_draw : Addr} {od_law_draw an_law_draw : Option Addr} {sl_law_draw : Array (Option Value)} {oc_law_draw kV_law_draw dc_law_draw pm_law_draw cd_law_draw ct_law_draw : Value}
    (a_law_draw : PySem.W.nsIn K mainGlobals "_law_draw" = some (some (.ref f_law_draw))) (l_law_draw : K.lookup f_law_draw = some ⟨oc_law_draw, od_law_draw, .func (PySem.W.fnOf "_law_draw" "_law_draw" (defArgs s_law_draw) (defBody s_law_draw) (defScope s_law_draw) .none kV_law_draw dc_law_draw pm_law_draw an_law_draw cd_law_draw ct_law_draw), sl_law_draw⟩) (c_law_draw : PySem.W.codeIn K cd_law_draw "_law_draw" = true) (k_law_draw : PySem.W.keepIn K (.ref f_law_draw) = true)
    {f_law_figures_by : Addr} {od_law_figures_by an_law_figures_by : Option Addr} {sl_law_figures_by : Array (Option Value)} {oc_law_figures_by kV_law_figures_by dc_law_figures_by pm_law_figures_by cd_law_figures_by ct_law_figures_by : Value}
    (a_law_figures_by : PySem.W.nsIn K mainGlobals "_law_figures_by" = some (some (.ref f_law_figures_by))) (l_law_figures_by : K.lookup f_law_figures_by = some ⟨oc_law_figures_by, od_law_figures_by, .func (PySem.W.fnOf "_law_figures_by" "_law_figures_by" (defArgs s_law_figures_by) (defBody s_law_figures_by) (defScope s_law_figures_by) .none kV_law_figures_by dc_law_figures_by pm_law_figures_by an_law_figures_by cd_law_figures_by ct_law_figures_by), sl_law_figures_by⟩) (c_law_figures_by : PySem.W.codeIn K cd_law_figures_by "_law_figures_by" = true) (k_law_figures_by : PySem.W.keepIn K (.ref f_law_figures_by) = true)
    {f_law_writing_by : Addr} {od_law_writing_by an_law_writing_by : Option Addr} {sl_law_writing_by : Array (Option Value)} {oc_law_writing_by kV_law_writing_by dc_law_writing_by pm_law_writing_by cd_law_writing_by ct_law_writing_by : Value}
    (a_law_writing_by : PySem.W.nsIn K mainGlobals "_law_writing_by" = some (some (.ref f_law_writing_by))) (l_law_writing_by : K.lookup f_law_writing_by = some ⟨oc_law_writing_by, od_law_writing_by, .func (PySem.W.fnOf "_law_writing_by" "_law_writing_by" (defArgs s_law_writing_by) (defBody s_law_writing_by) (defScope s_law_writing_by) .none kV_law_writing_by dc_law_writing_by pm_law_writing_by an_law_writing_by cd_law_writing_by ct_law_writing_by), sl_law_writing_by⟩) (c_law_writing_by : PySem.W.codeIn K cd_law_writing_by "_law_writing_by" = true) (k_law_writing_by : PySem.W.keepIn K (.ref f_law_writing_by) = true)
    {f_law_copy : Addr} {od_law_copy an_law_copy : Option Addr} {sl_law_copy : Array (Option Value)} {oc_law_copy kV_law_copy dc_law_copy pm_law_copy cd_law_copy ct_law_copy : Value}
    (a_law_copy : PySem.W.nsIn K mainGlobals "_law_copy" = some (some (.ref f_law_copy))) (l_law_copy : K.lookup f_law_copy = some ⟨oc_law_copy, od_law_copy, .func (PySem.W.fnOf "_law_copy" "_law_copy" (defArgs s_law_copy) (defBody s_law_copy) (defScope s_law_copy) .none kV_law_copy dc_law_copy pm_law_copy an_law_copy cd_law_copy ct_law_copy), sl_law_copy⟩) (c_law_copy : PySem.W.codeIn K cd_law_copy "_law_copy" = true) (k_law_copy : PySem.W.keepIn K (.ref f_law_copy) = true)
    {f_law_word_of : Addr} {od_law_word_of an_law_word_of : Option Addr} {sl_law_word_of : Array (Option Value)} {oc_law_word_of kV_law_word_of dc_law_word_of pm_law_word_of cd_law_word_of ct_law_word_of : Value}
    (a_law_word_of : PySem.W.nsIn K mainGlobals "_law_word_of" = some (some (.ref f_law_word_of))) (l_law_word_of : K.lookup f_law_word_of = some ⟨oc_law_word_of, od_law_word_of, .func (PySem.W.fnOf "_law_word_of" "_law_word_of" (defArgs s_law_word_of) (defBody s_law_word_of) (defScope s_law_word_of) .none kV_law_word_of dc_law_word_of pm_law_word_of an_law_word_of cd_law_word_of ct_law_word_of), sl_law_word_of⟩) (c_law_word_of : PySem.W.codeIn K cd_law_word_of "_law_word_of" = true) (k_law_word_of : PySem.W.keepIn K (.ref f_law_word_of) = true)
    {f_law_called : Addr} {od_law_called an_law_called : Option Addr} {sl_law_called : Array (Option Value)} {oc_law_called kV_law_called dc_law_called pm_law_called cd_law_called ct_law_called : Value}
    (a_law_called : PySem.W.nsIn K mainGlobals "_law_called" = some (some (.ref f_law_called))) (l_law_called : K.lookup f_law_called = some ⟨oc_law_called, od_law_called, .func (PySem.W.fnOf "_law_called" "_law_called" (defArgs s_law_called) (defBody s_law_called) (defScope s_law_called) .none kV_law_called dc_law_called pm_law_called an_law_called cd_law_called ct_law_called), sl_law_called⟩) (c_law_called : PySem.W.codeIn K cd_law_called "_law_called" = true) (k_law_called : PySem.W.keepIn K (.ref f_law_called) = true)
    {f_law_tried : Addr} {od_law_tried an_law_tried : Option Addr} {sl_law_tried : Array (Option Value)} {oc_law_tried kV_law_tried dc_law_tried pm_law_tried cd_law_tried ct_law_tried : Value}
    (a_law_tried : PySem.W.nsIn K mainGlobals "_law_tried" = some (some (.ref f_law_tried))) (l_law_tried : K.lookup f_law_tried = some ⟨oc_law_tried, od_law_tried, .func (PySem.W.fnOf "_law_tried" "_law_tried" (defArgs s_law_tried) (defBody s_law_tried) (defScope s_law_tried) .none kV_law_tried dc_law_tried pm_law_tried an_law_tried cd_law_tried ct_law_tried), sl_law_tried⟩) (c_law_tried : PySem.W.codeIn K cd_law_tried "_law_tried" = true) (k_law_tried : PySem.W.keepIn K (.ref f_law_tried) = true)
    {f_law_spoilt : Addr} {od_law_spoilt an_law_spoilt : Option Addr} {sl_law_spoilt : Array (Option Value)} {oc_law_spoilt kV_law_spoilt dc_law_spoilt pm_law_spoilt cd_law_spoilt ct_law_spoilt : Value}
    (a_law_spoilt : PySem.W.nsIn K mainGlobals "_law_spoilt" = some (some (.ref f_law_spoilt))) (l_law_spoilt : K.lookup f_law_spoilt = some ⟨oc_law_spoilt, od_law_spoilt, .func (PySem.W.fnOf "_law_spoilt" "_law_spoilt" (defArgs s_law_spoilt) (defBody s_law_spoilt) (defScope s_law_spoilt) .none kV_law_spoilt dc_law_spoilt pm_law_spoilt an_law_spoilt cd_law_spoilt ct_law_spoilt), sl_law_spoilt⟩) (c_law_spoilt : PySem.W.codeIn K cd_law_spoilt "_law_spoilt" = true) (k_law_spoilt : PySem.W.keepIn K (.ref f_law_spoilt) = true)
    {f_law : Addr} {od_law an_law : Option Addr} {sl_law : Array (Option Value)} {oc_law kV_law dc_law pm_law cd_law ct_law : Value}
    (a_law : PySem.W.nsIn K mainGlobals "law" = some (some (.ref f_law))) (l_law : K.lookup f_law = some ⟨oc_law, od_law, .func (PySem.W.fnOf "law" "law" (defArgs s_law) (defBody s_law) (defScope s_law) .none kV_law dc_law pm_law an_law cd_law ct_law), sl_law⟩) (c_law : PySem.W.codeIn K cd_law "law" = true) (k_law : PySem.W.keepIn K (.ref f_law) = true)
    {t_GREATEST_BASE : Tok} (i_GREATEST_BASE : PySem.W.nsIn K mainGlobals "GREATEST_BASE" = some (some (.int 36 t_GREATEST_BASE)))
    {t_GREATEST_BOTTOM : Tok} (i_GREATEST_BOTTOM : PySem.W.nsIn K mainGlobals "GREATEST_BOTTOM" = some (some (.int 2000 t_GREATEST_BOTTOM)))
    {t_GREATEST_NUMBER : Tok} (i_GREATEST_NUMBER : PySem.W.nsIn K mainGlobals "GREATEST_NUMBER" = some (some (.int 1000000 t_GREATEST_NUMBER)))
    {t_GREATEST_TOP : Tok} (i_GREATEST_TOP : PySem.W.nsIn K mainGlobals "GREATEST_TOP" = some (some (.int 1000000000000 t_GREATEST_TOP)))
    {t_GREATEST_WHOLE : Tok} (i_GREATEST_WHOLE : PySem.W.nsIn K mainGlobals "GREATEST_WHOLE" = some (some (.int 1000000000000 t_GREATEST_WHOLE)))
    {t_LEAST_BASE : Tok} (i_LEAST_BASE : PySem.W.nsIn K mainGlobals "LEAST_BASE" = some (some (.int 2 t_LEAST_BASE)))
    {t_MOST_FIGURES : Tok} (i_MOST_FIGURES : PySem.W.nsIn K mainGlobals "MOST_FIGURES" = some (some (.int 4000 t_MOST_FIGURES)))
    {t_SIGNS : Tok} (s_SIGNS : PySem.W.nsIn K mainGlobals "SIGNS" = some (some (.str "0123456789abcdefghijklmnopqrstuvwxyz" t_SIGNS)))
    (b_ValueError : PySem.W.nsIn K mainGlobals "ValueError" = some none)
    (b_int : PySem.W.nsIn K mainGlobals "int" = some none)
    (b_isinstance : PySem.W.nsIn K mainGlobals "isinstance" = some none)
    (b_len : PySem.W.nsIn K mainGlobals "len" = some none)
    (b_list : PySem.W.nsIn K mainGlobals "list" = some none)
    (b_range : PySem.W.nsIn K mainGlobals "range" = some none)
    {c_FigureError : Addr} (m_FigureError : PySem.W.nsIn K mainGlobals "FigureError" = some (some (.ref c_FigureError)))
    {c_NoBase : Addr} (m_NoBase : PySem.W.nsIn K mainGlobals "NoBase" = some (some (.ref c_NoBase)))
    {c_NoFraction : Addr} (m_NoFraction : PySem.W.nsIn K mainGlobals "NoFraction" = some (some (.ref c_NoFraction)))
    {c_NoWriting : Addr} (m_NoWriting : PySem.W.nsIn K mainGlobals "NoWriting" = some (some (.ref c_NoWriting)))
    {c_NoNumber : Addr} (m_NoNumber : PySem.W.nsIn K mainGlobals "NoNumber" = some (some (.ref c_NoNumber)))
    {c_TooLong : Addr} (m_TooLong : PySem.W.nsIn K mainGlobals "TooLong" = some (some (.ref c_TooLong)))
    {c_NoNote : Addr} (m_NoNote : PySem.W.nsIn K mainGlobals "NoNote" = some (some (.ref c_NoNote)))
    (e_FigureError : PySem.W.excIn K c_FigureError veTail veNew = true)
    (e_NoBase : PySem.W.excIn K c_NoBase veTail veNew = true) (xc_NoBase : XcOk K c_NoBase)
    (r_NoBase : RefX K c_FigureError c_NoBase c_NoFraction c_NoWriting c_NoNumber c_TooLong c_NoNote c_NoBase 0)
    (e_NoFraction : PySem.W.excIn K c_NoFraction veTail veNew = true) (xc_NoFraction : XcOk K c_NoFraction)
    (r_NoFraction : RefX K c_FigureError c_NoBase c_NoFraction c_NoWriting c_NoNumber c_TooLong c_NoNote c_NoFraction 1)
    (e_NoNumber : PySem.W.excIn K c_NoNumber veTail veNew = true) (xc_NoNumber : XcOk K c_NoNumber)
    (r_NoNumber : RefX K c_FigureError c_NoBase c_NoFraction c_NoWriting c_NoNumber c_TooLong c_NoNote c_NoNumber 3)
    (e_NoWriting : PySem.W.excIn K c_NoWriting veTail veNew = true) (xc_NoWriting : XcOk K c_NoWriting)
    (r_NoWriting : RefX K c_FigureError c_NoBase c_NoFraction c_NoWriting c_NoNumber c_TooLong c_NoNote c_NoWriting 2)
    (e_TooLong : PySem.W.excIn K c_TooLong veTail veNew = true) (xc_TooLong : XcOk K c_TooLong)
    (r_TooLong : RefX K c_FigureError c_NoBase c_NoFraction c_NoWriting c_NoNumber c_TooLong c_NoNote c_TooLong 4) :
    Txt K mg :=
  ⟨⟨f_check_base, _, fun_mk (st := s_check_base) l_check_base c_check_base k_check_base, ar1 rfl (fun_mk (st := s_check_base) l_check_base c_check_base k_check_base) (fun _ _ _ _ _ _ _ => rfl), PySem.W.mg_of X G a_check_base⟩,
   ⟨f_check_fraction, _, fun_mk (st := s_check_fraction) l_check_fraction c_check_fraction k_check_fraction, ar2 rfl (fun_mk (st := s_check_fraction) l_check_fraction c_check_fraction k_check_fraction) (fun _ _ _ _ _ _ _ _ => rfl), PySem.W.mg_of X G a_check_fraction⟩,
   ⟨f_check_bottom, _, fun_mk (st := s_check_bottom) l_check_bottom c_check_bottom k_check_bottom, ar1 rfl (fun_mk (st := s_check_bottom) l_check_bottom c_check_bottom k_check_bottom) (fun _ _ _ _ _ _ _ => rfl), PySem.W.mg_of X G a_check_bottom⟩,
   ⟨f_check_figures, _, fun_mk (st := s_check_figures) l_check_figures c_check_figures k_check_figures, ar2 rfl (fun_mk (st := s_check_figures) l_check_figures c_check_figures k_check_figures) (fun _ _ _ _ _ _ _ _ => rfl), PySem.W.mg_of X G a_check_figures⟩,
   ⟨f_check_writing, _, fun_mk (st := s_check_writing) l_check_writing c_check_writing k_check_writing, ar2 rfl (fun_mk (st := s_check_writing) l_check_writing c_check_writing k_check_writing) (fun _ _ _ _ _ _ _ _ => rfl), PySem.W.mg_of X G a_check_writing⟩,
   ⟨f_check_number, _, fun_mk (st := s_check_number) l_check_number c_check_number k_check_number, ar1 rfl (fun_mk (st := s_check_number) l_check_number c_check_number k_check_number) (fun _ _ _ _ _ _ _ => rfl), PySem.W.mg_of X G a_check_number⟩,
   ⟨f_written, _, fun_mk (st := s_written) l_written c_written k_written, ar3 rfl (fun_mk (st := s_written) l_written c_written k_written) (fun _ _ _ _ _ _ _ _ _ => rfl), PySem.W.mg_of X G a_written⟩,
   ⟨f_divided_out, _, fun_mk (st := s_divided_out) l_divided_out c_divided_out k_divided_out, ar3 rfl (fun_mk (st := s_divided_out) l_divided_out c_divided_out k_divided_out) (fun _ _ _ _ _ _ _ _ _ => rfl), PySem.W.mg_of X G a_divided_out⟩,
   ⟨f_worth, _, fun_mk (st := s_worth) l_worth c_worth k_worth, ar2 rfl (fun_mk (st := s_worth) l_worth c_worth k_worth) (fun _ _ _ _ _ _ _ _ => rfl), PySem.W.mg_of X G a_worth⟩,
   ⟨f_plain, _, fun_mk (st := s_plain) l_plain c_plain k_plain, ar2 rfl (fun_mk (st := s_plain) l_plain c_plain k_plain) (fun _ _ _ _ _ _ _ _ => rfl), PySem.W.mg_of X G a_plain⟩,
   ⟨f_is_plain, _, fun_mk (st := s_is_plain) l_is_plain c_is_plain k_is_plain, ar2 rfl (fun_mk (st := s_is_plain) l_is_plain c_is_plain k_is_plain) (fun _ _ _ _ _ _ _ _ => rfl), PySem.W.mg_of X G a_is_plain⟩,
   ⟨f_number_of, _, fun_mk (st := s_number_of) l_number_of c_number_of k_number_of, ar2 rfl (fun_mk (st := s_number_of) l_number_of c_number_of k_number_of) (fun _ _ _ _ _ _ _ _ => rfl), PySem.W.mg_of X G a_number_of⟩,
   ⟨f_power, _, fun_mk (st := s_power) l_power c_power k_power, ar2 rfl (fun_mk (st := s_power) l_power c_power k_power) (fun _ _ _ _ _ _ _ _ => rfl), PySem.W.mg_of X G a_power⟩,
   ⟨f_common_measure, _, fun_mk (st := s_common_measure) l_common_measure c_common_measure k_common_measure, ar2 rfl (fun_mk (st := s_common_measure) l_common_measure c_common_measure k_common_measure) (fun _ _ _ _ _ _ _ _ => rfl), PySem.W.mg_of X G a_common_measure⟩,
   ⟨f_shortest_ring, _, fun_mk (st := s_shortest_ring) l_shortest_ring c_shortest_ring k_shortest_ring, ar1 rfl (fun_mk (st := s_shortest_ring) l_shortest_ring c_shortest_ring k_shortest_ring) (fun _ _ _ _ _ _ _ => rfl), PySem.W.mg_of X G a_shortest_ring⟩,
   ⟨f_without_last, _, fun_mk (st := s_without_last) l_without_last c_without_last k_without_last, ar2 rfl (fun_mk (st := s_without_last) l_without_last c_without_last k_without_last) (fun _ _ _ _ _ _ _ _ => rfl), PySem.W.mg_of X G a_without_last⟩,
   ⟨f_rounded_up, _, fun_mk (st := s_rounded_up) l_rounded_up c_rounded_up k_rounded_up, ar3 rfl (fun_mk (st := s_rounded_up) l_rounded_up c_rounded_up k_rounded_up) (fun _ _ _ _ _ _ _ _ _ => rfl), PySem.W.mg_of X G a_rounded_up⟩,
   ⟨f_drawn_into_ring, _, fun_mk (st := s_drawn_into_ring) l_drawn_into_ring c_drawn_into_ring k_drawn_into_ring, ar3 rfl (fun_mk (st := s_drawn_into_ring) l_drawn_into_ring c_drawn_into_ring k_drawn_into_ring) (fun _ _ _ _ _ _ _ _ _ => rfl), PySem.W.mg_of X G a_drawn_into_ring⟩,
   ⟨f_lengths, _, fun_mk (st := s_lengths) l_lengths c_lengths k_lengths, ar2 rfl (fun_mk (st := s_lengths) l_lengths c_lengths k_lengths) (fun _ _ _ _ _ _ _ _ => rfl), PySem.W.mg_of X G a_lengths⟩,
   ⟨f_ring_length, _, fun_mk (st := s_ring_length) l_ring_length c_ring_length k_ring_length, ar2 rfl (fun_mk (st := s_ring_length) l_ring_length c_ring_length k_ring_length) (fun _ _ _ _ _ _ _ _ => rfl), PySem.W.mg_of X G a_ring_length⟩,
   ⟨f_figure_at, _, fun_mk (st := s_figure_at) l_figure_at c_figure_at k_figure_at, ar4 rfl (fun_mk (st := s_figure_at) l_figure_at c_figure_at k_figure_at) (fun _ _ _ _ _ _ _ _ _ _ => rfl), PySem.W.mg_of X G a_figure_at⟩,
   ⟨f_power_rest, _, fun_mk (st := s_power_rest) l_power_rest c_power_rest k_power_rest, ar3 rfl (fun_mk (st := s_power_rest) l_power_rest c_power_rest k_power_rest) (fun _ _ _ _ _ _ _ _ _ => rfl), PySem.W.mg_of X G a_power_rest⟩,
   ⟨f_folds, _, fun_mk (st := s_folds) l_folds c_folds k_folds, ar2 rfl (fun_mk (st := s_folds) l_folds c_folds k_folds) (fun _ _ _ _ _ _ _ _ => rfl), PySem.W.mg_of X G a_folds⟩,
   ⟨f_shown, _, fun_mk (st := s_shown) l_shown c_shown k_shown, ar2 rfl (fun_mk (st := s_shown) l_shown c_shown k_shown) (fun _ _ _ _ _ _ _ _ => rfl), PySem.W.mg_of X G a_shown⟩,
   ⟨f_text_of, _, fun_mk (st := s_text_of) l_text_of c_text_of k_text_of, ar1 rfl (fun_mk (st := s_text_of) l_text_of c_text_of k_text_of) (fun _ _ _ _ _ _ _ => rfl), PySem.W.mg_of X G a_text_of⟩,
   ⟨f_figures_of_whole, _, fun_mk (st := s_figures_of_whole) l_figures_of_whole c_figures_of_whole k_figures_of_whole, ar2 rfl (fun_mk (st := s_figures_of_whole) l_figures_of_whole c_figures_of_whole k_figures_of_whole) (fun _ _ _ _ _ _ _ _ => rfl), PySem.W.mg_of X G a_figures_of_whole⟩,
   ⟨f_added, _, fun_mk (st := s_added) l_added c_added k_added, ar3 rfl (fun_mk (st := s_added) l_added c_added k_added) (fun _ _ _ _ _ _ _ _ _ => rfl), PySem.W.mg_of X G a_added⟩,
   ⟨f_times, _, fun_mk (st := s_times) l_times c_times k_times, ar3 rfl (fun_mk (st := s_times) l_times c_times k_times) (fun _ _ _ _ _ _ _ _ _ => rfl), PySem.W.mg_of X G a_times⟩,
   ⟨f_result_of, _, fun_mk (st := s_result_of) l_result_of c_result_of k_result_of, ar3 rfl (fun_mk (st := s_result_of) l_result_of c_result_of k_result_of) (fun _ _ _ _ _ _ _ _ _ => rfl), PySem.W.mg_of X G a_result_of⟩,
   ⟨f_law_cell_at, _, fun_mk (st := s_law_cell_at) l_law_cell_at c_law_cell_at k_law_cell_at, ar2 rfl (fun_mk (st := s_law_cell_at) l_law_cell_at c_law_cell_at k_law_cell_at) (fun _ _ _ _ _ _ _ _ => rfl), PySem.W.mg_of X G a_law_cell_at⟩,
   ⟨f_law_draw, _, fun_mk (st := s_law_draw) l_law_draw c_law_draw k_law_draw, ar3 rfl (fun_mk (st := s_law_draw) l_law_draw c_law_draw k_law_draw) (fun _ _ _ _ _ _ _ _ _ => rfl), PySem.W.mg_of X G a_law_draw⟩,
   ⟨f_law_figures_by, _, fun_mk (st := s_law_figures_by) l_law_figures_by c_law_figures_by k_law_figures_by, ar3 rfl (fun_mk (st := s_law_figures_by) l_law_figures_by c_law_figures_by k_law_figures_by) (fun _ _ _ _ _ _ _ _ _ => rfl), PySem.W.mg_of X G a_law_figures_by⟩,
   ⟨f_law_writing_by, _, fun_mk (st := s_law_writing_by) l_law_writing_by c_law_writing_by k_law_writing_by, ar3 rfl (fun_mk (st := s_law_writing_by) l_law_writing_by c_law_writing_by k_law_writing_by) (fun _ _ _ _ _ _ _ _ _ => rfl), PySem.W.mg_of X G a_law_writing_by⟩,
   ⟨f_law_copy, _, fun_mk (st := s_law_copy) l_law_copy c_law_copy k_law_copy, ar1 rfl (fun_mk (st := s_law_copy) l_law_copy c_law_copy k_law_copy) (fun _ _ _ _ _ _ _ => rfl), PySem.W.mg_of X G a_law_copy⟩,
   ⟨f_law_word_of, _, fun_mk (st := s_law_word_of) l_law_word_of c_law_word_of k_law_word_of, ar1 rfl (fun_mk (st := s_law_word_of) l_law_word_of c_law_word_of k_law_word_of) (fun _ _ _ _ _ _ _ => rfl), PySem.W.mg_of X G a_law_word_of⟩,
   ⟨f_law_called, _, fun_mk (st := s_law_called) l_law_called c_law_called k_law_called, ar4 rfl (fun_mk (st := s_law_called) l_law_called c_law_called k_law_called) (fun _ _ _ _ _ _ _ _ _ _ => rfl), PySem.W.mg_of X G a_law_called⟩,
   ⟨f_law_tried, _, fun_mk (st := s_law_tried) l_law_tried c_law_tried k_law_tried, ar4 rfl (fun_mk (st := s_law_tried) l_law_tried c_law_tried k_law_tried) (fun _ _ _ _ _ _ _ _ _ _ => rfl), PySem.W.mg_of X G a_law_tried⟩,
   ⟨f_law_spoilt, _, fun_mk (st := s_law_spoilt) l_law_spoilt c_law_spoilt k_law_spoilt, ar5 rfl (fun_mk (st := s_law_spoilt) l_law_spoilt c_law_spoilt k_law_spoilt) (fun _ _ _ _ _ _ _ _ _ _ _ => rfl), PySem.W.mg_of X G a_law_spoilt⟩,
   ⟨f_law, _, fun_mk (st := s_law) l_law c_law k_law, ar1 rfl (fun_mk (st := s_law) l_law c_law k_law) (fun _ _ _ _ _ _ _ => rfl), PySem.W.mg_of X G a_law⟩,
   ⟨t_GREATEST_BASE, PySem.W.mg_of X G i_GREATEST_BASE⟩,
   ⟨t_GREATEST_BOTTOM, PySem.W.mg_of X G i_GREATEST_BOTTOM⟩,
   ⟨t_GREATEST_NUMBER, PySem.W.mg_of X G i_GREATEST_NUMBER⟩,
   ⟨t_GREATEST_TOP, PySem.W.mg_of X G i_GREATEST_TOP⟩,
   ⟨t_GREATEST_WHOLE, PySem.W.mg_of X G i_GREATEST_WHOLE⟩,
   ⟨t_LEAST_BASE, PySem.W.mg_of X G i_LEAST_BASE⟩,
   ⟨t_MOST_FIGURES, PySem.W.mg_of X G i_MOST_FIGURES⟩,
   ⟨t_SIGNS, PySem.W.mg_of X G s_SIGNS⟩,
   PySem.W.mg_none_of X G b_ValueError,
   PySem.W.mg_none_of X G b_int,
   PySem.W.mg_none_of X G b_isinstance,
   PySem.W.mg_none_of X G b_len,
   PySem.W.mg_none_of X G b_list,
   PySem.W.mg_none_of X G b_range,
   ⟨_, _, _, _, _, _, _, (⟨PySem.W.mg_of X G m_FigureError, PySem.W.mg_of X G m_NoBase, PySem.W.mg_of X G m_NoFraction, PySem.W.mg_of X G m_NoWriting, PySem.W.mg_of X G m_NoNumber, PySem.W.mg_of X G m_TooLong, PySem.W.mg_of X G m_NoNote⟩ : Exs mg c_FigureError c_NoBase c_NoFraction c_NoWriting c_NoNumber c_TooLong c_NoNote), ⟨PySem.W.mg_of X G m_FigureError, e_FigureError⟩⟩,
   ⟨c_NoBase, ⟨PySem.W.mg_of X G m_NoBase, e_NoBase⟩, ref_mk (⟨PySem.W.mg_of X G m_FigureError, PySem.W.mg_of X G m_NoBase, PySem.W.mg_of X G m_NoFraction, PySem.W.mg_of X G m_NoWriting, PySem.W.mg_of X G m_NoNumber, PySem.W.mg_of X G m_TooLong, PySem.W.mg_of X G m_NoNote⟩ : Exs mg c_FigureError c_NoBase c_NoFraction c_NoWriting c_NoNumber c_TooLong c_NoNote) (by decide) e_NoBase xc_NoBase r_NoBase⟩,
   ⟨c_NoFraction, ⟨PySem.W.mg_of X G m_NoFraction, e_NoFraction⟩, ref_mk (⟨PySem.W.mg_of X G m_FigureError, PySem.W.mg_of X G m_NoBase, PySem.W.mg_of X G m_NoFraction, PySem.W.mg_of X G m_NoWriting, PySem.W.mg_of X G m_NoNumber, PySem.W.mg_of X G m_TooLong, PySem.W.mg_of X G m_NoNote⟩ : Exs mg c_FigureError c_NoBase c_NoFraction c_NoWriting c_NoNumber c_TooLong c_NoNote) (by decide) e_NoFraction xc_NoFraction r_NoFraction⟩,
   ⟨c_NoNumber, ⟨PySem.W.mg_of X G m_NoNumber, e_NoNumber⟩, ref_mk (⟨PySem.W.mg_of X G m_FigureError, PySem.W.mg_of X G m_NoBase, PySem.W.mg_of X G m_NoFraction, PySem.W.mg_of X G m_NoWriting, PySem.W.mg_of X G m_NoNumber, PySem.W.mg_of X G m_TooLong, PySem.W.mg_of X G m_NoNote⟩ : Exs mg c_FigureError c_NoBase c_NoFraction c_NoWriting c_NoNumber c_TooLong c_NoNote) (by decide) e_NoNumber xc_NoNumber r_NoNumber⟩,
   ⟨c_NoWriting, ⟨PySem.W.mg_of X G m_NoWriting, e_NoWriting⟩, ref_mk (⟨PySem.W.mg_of X G m_FigureError, PySem.W.mg_of X G m_NoBase, PySem.W.mg_of X G m_NoFraction, PySem.W.mg_of X G m_NoWriting, PySem.W.mg_of X G m_NoNumber, PySem.W.mg_of X G m_TooLong, PySem.W.mg_of X G m_NoNote⟩ : Exs mg c_FigureError c_NoBase c_NoFraction c_NoWriting c_NoNumber c_TooLong c_NoNote) (by decide) e_NoWriting xc_NoWriting r_NoWriting⟩,
   ⟨c_TooLong, ⟨PySem.W.mg_of X G m_TooLong, e_TooLong⟩, ref_mk (⟨PySem.W.mg_of X G m_FigureError, PySem.W.mg_of X G m_NoBase, PySem.W.mg_of X G m_NoFraction, PySem.W.mg_of X G m_NoWriting, PySem.W.mg_of X G m_NoNumber, PySem.W.mg_of X G m_TooLong, PySem.W.mg_of X G m_NoNote⟩ : Exs mg c_FigureError c_NoBase c_NoFraction c_NoWriting c_NoNumber c_TooLong c_NoNote) (by decide) e_TooLong xc_TooLong r_TooLong⟩⟩
theorem all_mk {l : PySem.W.OpenLaw} {w : World} {K : PySem.W.Frag} {h : Heap} {mg : Str → Option Value} {fa : Addr} (X : K.In h) (G : h.Ns mainGlobals mg) (hfa : mg "law" = some (.ref fa)) (T : Txt K mg) :
    ∃ fd : FuncData, (∀ (s : Shared) (v : Value), BindsTo s fd ⟨[v], []⟩ [("script", v)]) ∧ ∀ base : Heap, K.In base → base.Ns mainGlobals mg → FnOk l.prog w K mg base CX0 7 fa fd ["script"] (spLaw K) := by
  have D := T.d_law
  obtain ⟨f, fd, F, b, m⟩ := D.ex
  have e := hfa.symm.trans m
  cases e
  refine ⟨fd, fun s v => ?_, fun base _ _ => ok_law T F⟩
  obtain ⟨oc, od, kV, doc, pm, an, cdv, ct, osl, rfl, lk, hcd⟩ := F.ex
  exact .of_eq rfl
theorem walk {l : PySem.W.OpenLaw} {q : Program} {loose : List Str} {XP : (Str → Option Value) → Heap → Prop} {YP : World → Heap → Prop} {d : DefRec} {K : Params → PySem.W.Frag} (hn : l.most = some 63) (hdf : d.params.defaults = [])
    (hY : ∀ (w : World) (h : Heap), YP w h → (K w.params).In h)
    (F : ∀ (w : World) (mg : Str → Option Value) (fa : Addr) (h : Heap), (K w.params).In h → h.Ns mainGlobals mg → mg d.name = some (.ref fa) →
      ∃ fd : FuncData, (∀ (s : Shared) (u : Value), BindsTo s fd ⟨[u], []⟩ [("script", u)]) ∧ ∀ base : Heap, (K w.params).In base → base.Ns mainGlobals mg → FnOk l.prog w (K w.params) mg base CX0 7 fa fd ["script"] (spLaw (K w.params))) :
    PySem.W.WalkO q loose XP YP l.row.toRowW d [] (fun f vs => PySem.call f vs) :=
  L2.walk_of (n := 63) (k := 7) (x := "script") (CX := fun _ => CX0) (sp := fun w => spLaw (K w.params)) hn (by decide) hdf ⟨rfl, by decide, by decide⟩ hY F (fun _ _ a ns hl _ hS => ⟨a, ns, rfl, hS, hl, fun _ => rfl⟩) fun _ _ _ _ _ z => z
end My
open PySem PySem.W PyProof.Rows
set_option maxRecDepth 100000 in
set_option maxHeartbeats 0 in
theorem PySem.Challenge.cw_ringfigures_k16_refused_holds : PySem.Challenge.rw_ringfigures_k16_refused.Holds := by
  w_on; o_law; k_head; (case hw => w_witness2)
  k_fill
  refine My.walk (l := PySem.Challenge.rw_ringfigures_k16_refused) rfl rfl (fun w h Y => PySem.W.kIn_of Y) ?F
  case F =>
    intro w mg fa h KX G hmg
    refine My.all_mk KX G hmg ?T
    refine' My.txt_mk KX G ?a_check_base ?l_check_base ?c_check_base ?k_check_base ?a_check_fraction ?l_check_fraction ?c_check_fraction ?k_check_fraction ?a_check_bottom ?l_check_bottom ?c_check_bottom ?k_check_bottom ?a_check_figures ?l_check_figures ?c_check_figures ?k_check_figures ?a_check_writing ?l_check_writing ?c_check_writing ?k_check_writing ?a_check_number ?l_check_number ?c_check_number ?k_check_number ?a_written ?l_written ?c_written ?k_written ?a_divided_out ?l_divided_out ?c_divided_out ?k_divided_out ?a_worth ?l_worth ?c_worth ?k_worth ?a_plain ?l_plain ?c_plain ?k_plain ?a_is_plain ?l_is_plain ?c_is_plain ?k_is_plain ?a_number_of ?l_number_of ?c_number_of ?k_number_of ?a_power ?l_power ?c_power ?k_power ?a_common_measure ?l_common_measure ?c_common_measure ?k_common_measure ?a_shortest_ring ?l_shortest_ring ?c_shortest_ring ?k_shortest_ring ?a_without_last ?l_without_last ?c_without_last ?k_without_last ?a_rounded_up ?l_rounded_up ?c_rounded_up ?k_rounded_up ?a_drawn_into_ring ?l_drawn_into_ring ?c_drawn_into_ring ?k_drawn_into_ring ?a_lengths ?l_lengths ?c_lengths ?k_lengths ?a_ring_length ?l_ring_length ?c_ring_length ?k_ring_length ?a_figure_at ?l_figure_at ?c_figure_at ?k_figure_at ?a_power_rest ?l_power_rest ?c_power_rest ?k_power_rest ?a_folds ?l_folds ?c_folds ?k_folds ?a_shown ?l_shown ?c_shown ?k_shown ?a_text_of ?l_text_of ?c_text_of ?k_text_of ?a_figures_of_whole ?l_figures_of_whole ?c_figures_of_whole ?k_figures_of_whole ?a_added ?l_added ?c_added ?k_added ?a_times ?l_times ?c_times ?k_times ?a_result_of ?l_result_of ?c_result_of ?k_result_of ?a_law_cell_at ?l_law_cell_at ?c_law_cell_at ?k_law_cell_at ?a_law_draw ?l_law_draw ?c_law_draw ?k_law_draw ?a_law_figures_by ?l_law_figures_by ?c_law_figures_by ?k_law_figures_by ?a_law_writing_by ?l_law_writing_by ?c_law_writing_by ?k_law_writing_by ?a_law_copy ?l_law_copy ?c_law_copy ?k_law_copy ?a_law_word_of ?l_law_word_of ?c_law_word_of ?k_law_word_of ?a_law_called ?l_law_called ?c_law_called ?k_law_called ?a_law_tried ?l_law_tried ?c_law_tried ?k_law_tried ?a_law_spoilt ?l_law_spoilt ?c_law_spoilt ?k_law_spoilt ?a_law ?l_law ?c_law ?k_law ?i_GREATEST_BASE ?i_GREATEST_BOTTOM ?i_GREATEST_NUMBER ?i_GREATEST_TOP ?i_GREATEST_WHOLE ?i_LEAST_BASE ?i_MOST_FIGURES ?s_SIGNS ?b_ValueError ?b_int ?b_isinstance ?b_len ?b_list ?b_range ?m_FigureError ?m_NoBase ?m_NoFraction ?m_NoWriting ?m_NoNumber ?m_TooLong ?m_NoNote ?e_FigureError ?e_NoBase ?xc_NoBase ?r_NoBase ?e_NoFraction ?xc_NoFraction ?r_NoFraction ?e_NoNumber ?xc_NoNumber ?r_NoNumber ?e_NoWriting ?xc_NoWriting ?r_NoWriting ?e_TooLong ?xc_TooLong ?r_TooLong
    (case a_check_base => k_is)
    (case l_check_base => k_is)
    (case c_check_base => k_is)
    (case k_check_base => k_is)
    (case a_check_fraction => k_is)
    (case l_check_fraction => k_is)
    (case c_check_fraction => k_is)
    (case k_check_fraction => k_is)
    (case a_check_bottom => k_is)
    (case l_check_bottom => k_is)
    (case c_check_bottom => k_is)
    (case k_check_bottom => k_is)
    (case a_check_figures => k_is)
    (case l_check_figures => k_is)
    (case c_check_figures => k_is)
    (case k_check_figures => k_is)
    (case a_check_writing => k_is)
    (case l_check_writing => k_is)
    (case c_check_writing => k_is)
    (case k_check_writing => k_is)
    (case a_check_number => k_is)
    (case l_check_number => k_is)
    (case c_check_number => k_is)
    (case k_check_number => k_is)
    (case a_written => k_is)
    (case l_written => k_is)
    (case c_written => k_is)
    (case k_written => k_is)
    (case a_divided_out => k_is)
    (case l_divided_out => k_is)
    (case c_divided_out => k_is)
    (case k_divided_out => k_is)
    (case a_worth => k_is)
    (case l_worth => k_is)
    (case c_worth => k_is)
    (case k_worth => k_is)
    (case a_plain => k_is)
    (case l_plain => k_is)
    (case c_plain => k_is)
    (case k_plain => k_is)
    (case a_is_plain => k_is)
    (case l_is_plain => k_is)
    (case c_is_plain => k_is)
    (case k_is_plain => k_is)
    (case a_number_of => k_is)
    (case l_number_of => k_is)
    (case c_number_of => k_is)
    (case k_number_of => k_is)
    (case a_power => k_is)
    (case l_power => k_is)
    (case c_power => k_is)
    (case k_power => k_is)
    (case a_common_measure => k_is)
    (case l_common_measure => k_is)
    (case c_common_measure => k_is)
    (case k_common_measure => k_is)
    (case a_shortest_ring => k_is)
    (case l_shortest_ring => k_is)
    (case c_shortest_ring => k_is)
    (case k_shortest_ring => k_is)
    (case a_without_last => k_is)
    (case l_without_last => k_is)
    (case c_without_last => k_is)
    (case k_without_last => k_is)
    (case a_rounded_up => k_is)
    (case l_rounded_up => k_is)
    (case c_rounded_up => k_is)
    (case k_rounded_up => k_is)
    (case a_drawn_into_ring => k_is)
    (case l_drawn_into_ring => k_is)
    (case c_drawn_into_ring => k_is)
    (case k_drawn_into_ring => k_is)
    (case a_lengths => k_is)
    (case l_lengths => k_is)
    (case c_lengths => k_is)
    (case k_lengths => k_is)
    (case a_ring_length => k_is)
    (case l_ring_length => k_is)
    (case c_ring_length => k_is)
    (case k_ring_length => k_is)
    (case a_figure_at => k_is)
    (case l_figure_at => k_is)
    (case c_figure_at => k_is)
    (case k_figure_at => k_is)
    (case a_power_rest => k_is)
    (case l_power_rest => k_is)
    (case c_power_rest => k_is)
    (case k_power_rest => k_is)
    (case a_folds => k_is)
    (case l_folds => k_is)
    (case c_folds => k_is)
    (case k_folds => k_is)
    (case a_shown => k_is)
    (case l_shown => k_is)
    (case c_shown => k_is)
    (case k_shown => k_is)
    (case a_text_of => k_is)
    (case l_text_of => k_is)
    (case c_text_of => k_is)
    (case k_text_of => k_is)
    (case a_figures_of_whole => k_is)
    (case l_figures_of_whole => k_is)
    (case c_figures_of_whole => k_is)
    (case k_figures_of_whole => k_is)
    (case a_added => k_is)
    (case l_added => k_is)
    (case c_added => k_is)
    (case k_added => k_is)
    (case a_times => k_is)
    (case l_times => k_is)
    (case c_times => k_is)
    (case k_times => k_is)
    (case a_result_of => k_is)
    (case l_result_of => k_is)
    (case c_result_of => k_is)
    (case k_result_of => k_is)
    (case a_law_cell_at => k_is)
    (case l_law_cell_at => k_is)
    (case c_law_cell_at => k_is)
    (case k_law_cell_at => k_is)
    (case a_law_draw => k_is)
    (case l_law_draw => k_is)
    (case c_law_draw => k_is)
    (case k_law_draw => k_is)
    (case a_law_figures_by => k_is)
    (case l_law_figures_by => k_is)
    (case c_law_figures_by => k_is)
    (case k_law_figures_by => k_is)
    (case a_law_writing_by => k_is)
    (case l_law_writing_by => k_is)
    (case c_law_writing_by => k_is)
    (case k_law_writing_by => k_is)
    (case a_law_copy => k_is)
    (case l_law_copy => k_is)
    (case c_law_copy => k_is)
    (case k_law_copy => k_is)
    (case a_law_word_of => k_is)
    (case l_law_word_of => k_is)
    (case c_law_word_of => k_is)
    (case k_law_word_of => k_is)
    (case a_law_called => k_is)
    (case l_law_called => k_is)
    (case c_law_called => k_is)
    (case k_law_called => k_is)
    (case a_law_tried => k_is)
    (case l_law_tried => k_is)
    (case c_law_tried => k_is)
    (case k_law_tried => k_is)
    (case a_law_spoilt => k_is)
    (case l_law_spoilt => k_is)
    (case c_law_spoilt => k_is)
    (case k_law_spoilt => k_is)
    (case a_law => k_is)
    (case l_law => k_is)
    (case c_law => k_is)
    (case k_law => k_is)
    (case i_GREATEST_BASE => k_is)
    (case i_GREATEST_BOTTOM => k_is)
    (case i_GREATEST_NUMBER => k_is)
    (case i_GREATEST_TOP => k_is)
    (case i_GREATEST_WHOLE => k_is)
    (case i_LEAST_BASE => k_is)
    (case i_MOST_FIGURES => k_is)
    (case s_SIGNS => k_is)
    (case b_ValueError => k_is)
    (case b_int => k_is)
    (case b_isinstance => k_is)
    (case b_len => k_is)
    (case b_list => k_is)
    (case b_range => k_is)
    (case m_FigureError => k_is)
    (case m_NoBase => k_is)
    (case m_NoFraction => k_is)
    (case m_NoWriting => k_is)
    (case m_NoNumber => k_is)
    (case m_TooLong => k_is)
    (case m_NoNote => k_is)
    (case e_FigureError => k_exc)
    (case e_NoBase => k_exc)
    (case xc_NoBase => exact ⟨by k_is, by k_is, by k_is, by k_is, by k_is, by k_is, by k_is, ⟨_, by k_is⟩⟩)
    (case r_NoBase => exact ⟨by k_is, by kit_is, by kit_is, by kit_is, by kit_is, by kit_is, by kit_is, by kit_is⟩)
    (case e_NoFraction => k_exc)
    (case xc_NoFraction => exact ⟨by k_is, by k_is, by k_is, by k_is, by k_is, by k_is, by k_is, ⟨_, by k_is⟩⟩)
    (case r_NoFraction => exact ⟨by k_is, by kit_is, by kit_is, by kit_is, by kit_is, by kit_is, by kit_is, by kit_is⟩)
    (case e_NoNumber => k_exc)
    (case xc_NoNumber => exact ⟨by k_is, by k_is, by k_is, by k_is, by k_is, by k_is, by k_is, ⟨_, by k_is⟩⟩)
    (case r_NoNumber => exact ⟨by k_is, by kit_is, by kit_is, by kit_is, by kit_is, by kit_is, by kit_is, by kit_is⟩)
    (case e_NoWriting => k_exc)
    (case xc_NoWriting => exact ⟨by k_is, by k_is, by k_is, by k_is, by k_is, by k_is, by k_is, ⟨_, by k_is⟩⟩)
    (case r_NoWriting => exact ⟨by k_is, by kit_is, by kit_is, by kit_is, by kit_is, by kit_is, by kit_is, by kit_is⟩)
    (case e_TooLong => k_exc)
    (case xc_TooLong => exact ⟨by k_is, by k_is, by k_is, by k_is, by k_is, by k_is, by k_is, ⟨_, by k_is⟩⟩)
    (case r_TooLong => exact ⟨by k_is, by kit_is, by kit_is, by kit_is, by kit_is, by kit_is, by kit_is, by kit_is⟩)
#print axioms PySem.Challenge.cw_ringfigures_k16_refused_holds
