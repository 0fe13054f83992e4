import PyProof.Rows.All
import Wide.All
import OpenK.AllK
import Wide.FinOn
import Lean
import PyProof.EqAt
import PyProof.EqKinds
import PyProof.TupleCall
import PySem.Challenge.RW_ringfigures_k13_whole_reckoning
set_option Elab.async false
set_option linter.all false
set_option maxRecDepth 100000
/-! THE HAND LAYER, for ints, bools, texts, own classes, LISTS and tuples (index, slices, in, append, pop ..), calls, loops. Paste it whole ahead of your own text; what your proof does not reach may be deleted. -/
namespace L2
open PySem PySem.Spec PyProof.Rows

/-- a key: an int or a str -/
abbrev Key := Sum Int Str
def keyIs : Key → Value → Bool
  | .inl k, v => Value.isInt k v
  | .inr x, v => Value.isStrOf x v
def keyH (w : World) : Key → Int
  | .inl k => hashInt k
  | .inr x => hashStr w x
theorem keyIs_shape : ∀ {k : Key} {v : Value}, keyIs k v = true → (∃ i t, k = Sum.inl i ∧ v = Value.int i t) ∨ (∃ x t, k = Sum.inr x ∧ v = Value.str x t)
  | .inl i, v, h => by
    obtain ⟨t, e⟩ := Value.isInt_shape (k := i) (v := v) h
    exact .inl ⟨i, t, rfl, e⟩
  | .inr x, v, h => by
    obtain ⟨t, e⟩ := Value.isStrOf_shape (x := x) (v := v) h
    exact .inr ⟨x, t, rfl, e⟩
theorem keyIs_int (i : Int) (t : Tok) : keyIs (.inl i) (.int i t) = true := by simp [keyIs, Value.isInt]
theorem keyIs_str (x : Str) (t : Tok) : keyIs (.inr x) (.str x t) = true := by simp [keyIs, Value.isStrOf]
theorem key_ll (a b : Int) : decide ((Sum.inl a : Key) = Sum.inl b) = (a == b) := by
  by_cases e : a = b
  · subst e; simp
  · have h : ¬ (Sum.inl a : Key) = Sum.inl b := fun q => e (Sum.inl.inj q)
    rw [decide_eq_false h]
    exact (beq_eq_false_iff_ne.mpr e).symm
theorem key_rr (a b : Str) : decide ((Sum.inr a : Key) = Sum.inr b) = decide (a = b) := by
  by_cases e : a = b
  · subst e; simp
  · have h : ¬ (Sum.inr a : Key) = Sum.inr b := fun q => e (Sum.inr.inj q)
    rw [decide_eq_false h, decide_eq_false e]
theorem key_lr (a : Int) (b : Str) : decide ((Sum.inl a : Key) = Sum.inr b) = false := decide_eq_false (fun q => nomatch q)
theorem key_rl (a : Str) (b : Int) : decide ((Sum.inr a : Key) = Sum.inl b) = false := decide_eq_false (fun q => nomatch q)

def mixKind (prog : Program) (w : World) : PySem.KeyKind prog w Key where
  is := keyIs
  hash := keyH w
  inj := fun v a b ha hb => by
    rcases keyIs_shape ha with ⟨i, t, rfl, rfl⟩ | ⟨x, t, rfl, rfl⟩
    · rcases keyIs_shape hb with ⟨j, u, rfl, e⟩ | ⟨y, u, rfl, e⟩
      · injection e with e1 _; rw [e1]
      · exact nomatch e
    · rcases keyIs_shape hb with ⟨j, u, rfl, e⟩ | ⟨y, u, rfl, e⟩
      · exact nomatch e
      · injection e with e1 _; rw [e1]
  byValue := fun k v h => by
    rcases keyIs_shape h with ⟨i, t, rfl, rfl⟩ | ⟨x, t, rfl, rfl⟩ <;> rfl
  pyHash := fun hv h => by
    rcases keyIs_shape hv with ⟨i, t, rfl, rfl⟩ | ⟨x, t, rfl, rfl⟩
    · exact wpAny_pyHash_int h
    · exact wpAny_pyHash_str h
  eqBool := fun hu hv h => by
    rcases keyIs_shape hu with ⟨i, t, rfl, rfl⟩ | ⟨x, t, rfl, rfl⟩
    · rcases keyIs_shape hv with ⟨j, u, rfl, rfl⟩ | ⟨y, u, rfl, rfl⟩
      · rw [key_ll] at h; exact wpAny_eqBool_int h
      · rw [key_lr] at h; exact SeqAt.EqAt.int_str i t y u _ _ _ _ h
    · rcases keyIs_shape hv with ⟨j, u, rfl, rfl⟩ | ⟨y, u, rfl, rfl⟩
      · rw [key_rl] at h; exact SeqAt.EqAt.str_int x t j u _ _ _ _ h
      · rw [key_rr] at h; exact wpAny_eqBool_str h
  «strs» := fun k x t v h => by
    rcases keyIs_shape h with ⟨i, u, rfl, e⟩ | ⟨y, u, rfl, e⟩
    · exact nomatch e
    · injection e with e1 _
      subst e1
      cases v <;> rfl

theorem mixKind_int (prog : Program) (w : World) (i : Int) (t : Tok) : (mixKind prog w).is (.inl i) (.int i t) = true := keyIs_int i t
theorem mixKind_str (prog : Program) (w : World) (x : Str) (t : Tok) : (mixKind prog w).is (.inr x) (.str x t) = true := keyIs_str x t
end L2

namespace L2
open PySem PySem.Spec PyProof.Rows

/-- a value, without the heap -/
inductive V where
  | non | bl (b : Bool) | int (i : Int) | str (x : Str) | byt (b : Array UInt8) | flt (b : UInt64) | ref (a : Addr) | ty (n : String)
  deriving DecidableEq

def RelV : V → Value → Prop
  | .non, u => u = Value.none
  | .bl b, u => u = Value.bool b
  | .int i, u => ∃ t, u = Value.int i t
  | .str x, u => ∃ t, u = Value.str x t
  | .byt b, u => ∃ t, u = Value.bytes b t
  | .flt b, u => ∃ t, u = Value.float b t
  | .ref a, u => u = Value.ref a
  | .ty n, u => u = Value.type n

abbrev Vals : List V → List Value → Prop := Paired RelV
theorem Vals.length {xs : List V} {us : List Value} (r : Vals xs us) : xs.length = us.length := Paired.length r
theorem Vals.get : ∀ {xs : List V} {us : List Value} {i : Nat} {x : V}, Vals xs us → xs[i]? = some x → ∃ u, us[i]? = some u ∧ RelV x u
  | _, _, _, _, .nil, e => by simp at e
  | _, _, 0, _, .cons r _, e => by simp at e; subst e; exact ⟨_, rfl, r⟩
  | _, _, i + 1, x, .cons _ t, e => by
    obtain ⟨u, h1, h2⟩ := Vals.get (i := i) (x := x) t (by simpa using e)
    exact ⟨u, by simpa using h1, h2⟩
theorem Vals.set {x : V} {u : Value} (r : RelV x u) : ∀ {xs : List V} {us : List Value} (i : Nat), Vals xs us → Vals (xs.set i x) (us.set i u)
  | _, _, _, .nil => .nil
  | _, _, 0, .cons _ t => .cons r t
  | _, _, i + 1, .cons q t => .cons q (Vals.set r i t)
theorem Vals.append : ∀ {xs ys : List V} {us ws : List Value}, Vals xs us → Vals ys ws → Vals (xs ++ ys) (us ++ ws)
  | _, _, _, _, .nil, s => s
  | _, _, _, _, .cons r t, s => .cons r (Vals.append t s)
theorem Vals.take : ∀ {xs : List V} {us : List Value} (n : Nat), Vals xs us → Vals (xs.take n) (us.take n)
  | _, _, 0, _ => .nil
  | _, _, _ + 1, .nil => .nil
  | _, _, n + 1, .cons r t => .cons r (Vals.take n t)
theorem Vals.drop : ∀ {xs : List V} {us : List Value} (n : Nat), Vals xs us → Vals (xs.drop n) (us.drop n)
  | _, _, 0, r => r
  | _, _, _ + 1, .nil => .nil
  | _, _, n + 1, .cons _ t => Vals.drop n t
def RelO : Option V → Option Value → Prop
  | some v, some u => RelV v u
  | none, none => True
  | _, _ => False
def KV {κ : Type} : List (κ × V) → List (κ × Value) → Prop := Paired fun (p : κ × V) (q : κ × Value) => p.1 = q.1 ∧ RelV p.2 q.2

/-- a key of a dict (00_mix): an int or a text -/
def kV : Key → V
  | .inl i => .int i
  | .inr x => .str x

/-- what stands at a tracked address -/
inductive HO where
  /-- a list -/
  | lst (xs : List V)
  /-- a tuple (never changes) -/
  | tup (xs : List V)
  /-- a dict whose keys are ints and texts; one whose keys are tuples of ints and texts (the empty one is both) -/
  | dK (kvs : List (Key × V)) | dT (kvs : List (List Key × V))
  /-- a set of ints: its members, its size -/
  | set (S : Int → Bool) (n : Nat)
  /-- an instance of the class at C, its dict at dx, its attributes -/
  | ins (C dx : Addr) (fs : List (Str × V))
  /-- the dict of the instance at x -/
  | own (x : Addr)
  /-- the dict of an exception -/
  | xd (fs : List (Str × V))
  /-- a bound method, f of x -/
  | met (f x : Addr)
  /-- a range object lo, lo + 1, .. below hi -/
  | rng (lo hi : Int)
  /-- a thing that is known to the object (the script; a dict while a loop walks it): read, never written while it is so -/
  | frz (o : Obj) (u : HO)
  /-- a code object's table -/
  | tbl (ps : Array Value)
  /-- any other thing, by what is true of its one object (a def of one's own: SetO a S n := HO.ext fun h => ..) -/
  | ext (φ : Heap → Prop)

abbrev Hp := Addr → Option HO
def upd (H : Hp) (a : Addr) (o : HO) : Hp := fun b => if b = a then some o else H b
theorem upd_same {H : Hp} {a : Addr} {o : HO} : upd H a o a = some o := by unfold upd; rw [if_pos rfl]
theorem upd_ne {H : Hp} {a b : Addr} {o : HO} (h : b ≠ a) : upd H a o b = H b := by unfold upd; rw [if_neg h]
theorem upd_upd {H : Hp} {a : Addr} {o u : HO} : upd (upd H a o) a u = upd H a u := by
  funext b; unfold upd; split <;> rfl
/-- two objects of different content stand apart -/
theorem ne_of {H : Hp} {a b : Addr} {o u : HO} (h : H a = some o) (h' : H b = some u) (d : o ≠ u) : a ≠ b := by
  intro e; subst e; rw [h] at h'; exact d (Option.some.inj h')
theorem ne_of_none {H : Hp} {a b : Addr} {o : HO} (h : H a = some o) (h' : H b = none) : a ≠ b := by
  intro e; subst e; rw [h] at h'; cases h'

section
variable (P : Program) (w : World)
def ObjOk (H : Hp) (h : Heap) (a : Addr) : HO → Prop
  | .lst xs => xs.length ≤ sizeLine ∧ ∃ (its : List Value) (n : Nat), Vals xs its ∧ h.get? a = some { cls := .type "list", data := .seq its.toArray n }
  | .tup xs => xs.length ≤ sizeLine ∧ ∃ its : List Value, Vals xs its ∧ IsTup h a its.toArray
  | .dK kvs => kvs.length ≤ sizeLine ∧ (a == sysModules) = false ∧ ∃ vs, KV kvs vs ∧ h.DictOf (mixKind P w) a vs
  | .dT kvs => kvs.length ≤ sizeLine ∧ (a == sysModules) = false ∧ ∃ xs : List (List Key × Addr × Value),
      Paired (fun (p : List Key × V) (q : List Key × Addr × Value) => p.1 = q.1 ∧ H q.2.1 = some (.tup (p.1.map kV)) ∧ RelV p.2 q.2.2) kvs xs ∧
      ∃ o es ep, h.get? a = some o ∧ o.ExactDict ∧ o.data = .dict es ep ∧ es.toList = xs.map (entryOfKey (tupleKind (mixKind P w))) ∧ (xs.map (·.1)).Nodup
  | .set S n => h.SetOf (intKind P w) a S n
  | .ins C dx fs => H dx = some (.own a) ∧ fs.length ≤ 1000 ∧ dx ≠ a ∧ h.get? a = some (PySem.W.instObj C dx) ∧
      ∃ mA, h.Ns1 dx mA ∧ (∀ f, RelO (fs.lookup f) (mA f)) ∧ PySem.Within mA (fs.map (·.1))
  | .own _ => ∃ o, h.get? a = some o
  | .xd fs => ∃ mA, h.Ns1 a mA ∧ ∀ f, RelO (fs.lookup f) (mA f)
  | .rng lo hi => ∃ t u v, h.get? a = some { cls := .type "range", data := .fields #[.int lo t, .int hi u, .int 1 v] }
  | .frz o u => h.get? a = some o ∧ ObjOk H h a u
  | .tbl ps => h.get? a = some { cls := .none, data := .fields ps }
  | .met f x => h.get? a = some (PySem.W.methodObj (.ref f) (.ref x))
  | .ext φ => φ h ∧ (∃ o, h.get? a = some o) ∧ ∀ h1 h2 : Heap, φ h1 → (∀ o, h1.get? a = some o → h2.get? a = some o) → φ h2
/-- the abstract heap is held -/
def HOk (H : Hp) (h : Heap) : Prop := ∀ a o, H a = some o → ObjOk P w H h a o
end

section
variable {P : Program} {w : World} {H H' : Hp} {h h' : Heap} {a : Addr} {o : HO}
theorem ObjOk.lt (x : ObjOk P w H h a o) : a < h.objs.size := by
  cases o with
  | lst xs => obtain ⟨_, _, _, _, e⟩ := x; exact Heap.lt_size e
  | tup xs => obtain ⟨_, _, _, p⟩ := x; exact p.lt
  | dK kvs => obtain ⟨_, _, _, _, o, _, _, e, _⟩ := x; exact Heap.lt_size e
  | dT kvs => obtain ⟨_, _, _, _, o, _, _, e, _⟩ := x; exact Heap.lt_size e
  | set S n => obtain ⟨o, _, _, _, e, _⟩ := x; exact Heap.lt_size e
  | ins C dx fs => obtain ⟨_, _, _, e, _⟩ := x; exact Heap.lt_size e
  | own y => obtain ⟨_, e⟩ := x; exact Heap.lt_size e
  | xd fs => obtain ⟨_, ⟨_, _, _, e, _⟩, _⟩ := x; exact Heap.lt_size e
  | rng lo hi => obtain ⟨_, _, _, e⟩ := x; exact Heap.lt_size e
  | frz ob u => obtain ⟨e, _⟩ := x; exact Heap.lt_size e
  | tbl ps => exact Heap.lt_size (show h.get? a = some _ from x)
  | met f y => exact Heap.lt_size (show h.get? a = some _ from x)
  | ext φ => obtain ⟨_, ⟨_, e⟩, _⟩ := x; exact Heap.lt_size e
theorem Paired.mapP {α β : Type} {F G : α → β → Prop} : ∀ {l₁ : List α} {l₂ : List β}, Paired F l₁ l₂ → (∀ a b, F a b → G a b) → Paired G l₁ l₂
  | _, _, .nil, _ => .nil
  | _, _, .cons r t, f => .cons (f _ _ r) (Paired.mapP t f)
/-- what an object's description leans on: its own object, its own dict, the tuples -/
theorem ObjOk.stay (x : ObjOk P w H h a o) (k : ∀ b u, (b = a ∨ H b = some (.own a)) → h.get? b = some u → h'.get? b = some u)
    (ho : ∀ b, H b = some (.own a) → H' b = some (.own a)) (ht : ∀ b xs, H b = some (.tup xs) → H' b = some (.tup xs)) : ObjOk P w H' h' a o := by
  induction o with
  | lst xs => obtain ⟨z, its, n, r, e⟩ := x; exact ⟨z, its, n, r, k _ _ (.inl rfl) e⟩
  | tup xs => obtain ⟨z, its, r, ob, e, c⟩ := x; exact ⟨z, its, r, ob, k _ _ (.inl rfl) e, c⟩
  | dK kvs => obtain ⟨z, y, vs, r, ob, es, ep, e, c⟩ := x; exact ⟨z, y, vs, r, ob, es, ep, k _ _ (.inl rfl) e, c⟩
  | dT kvs =>
    obtain ⟨z, y, xs, r, ob, es, ep, e, c⟩ := x
    exact ⟨z, y, xs, Paired.mapP r fun p q z => ⟨z.1, ht _ _ z.2.1, z.2.2⟩, ob, es, ep, k _ _ (.inl rfl) e, c⟩
  | set S n => obtain ⟨ob, es, ep, t, e, c⟩ := x; exact ⟨ob, es, ep, t, k _ _ (.inl rfl) e, c⟩
  | ins C dx fs =>
    obtain ⟨d, z, ne, e, mA, ⟨od, es, ep, e2, c⟩, r⟩ := x
    exact ⟨ho _ d, z, ne, k _ _ (.inl rfl) e, mA, ⟨od, es, ep, k _ _ (.inr d) e2, c⟩, r⟩
  | own y => obtain ⟨ob, e⟩ := x; exact ⟨ob, k _ _ (.inl rfl) e⟩
  | xd fs => obtain ⟨mA, ⟨od, es, ep, e, c⟩, r⟩ := x; exact ⟨mA, ⟨od, es, ep, k _ _ (.inl rfl) e, c⟩, r⟩
  | rng lo hi => obtain ⟨t, u, v, e⟩ := x; exact ⟨t, u, v, k _ _ (.inl rfl) e⟩
  | frz ob u ih => obtain ⟨e, q⟩ := x; exact ⟨k _ _ (.inl rfl) e, ih q⟩
  | tbl ps =>
    have e : h.get? a = some { cls := .none, data := .fields ps } := x
    show h'.get? a = some { cls := .none, data := .fields ps }
    exact k a _ (.inl rfl) e
  | met f y =>
    have e : h.get? a = some (PySem.W.methodObj (.ref f) (.ref y)) := x
    show h'.get? a = some (PySem.W.methodObj (.ref f) (.ref y))
    exact k a _ (.inl rfl) e
  | ext φ => obtain ⟨p, ⟨o, e⟩, st⟩ := x; exact ⟨st _ _ p fun o q => k _ _ (.inl rfl) q, ⟨o, k _ _ (.inl rfl) e⟩, st⟩
theorem HOk.lt (x : HOk P w H h) (e : H a = some o) : a < h.objs.size := (x a o e).lt
theorem HOk.fresh (x : HOk P w H h) (e : h.objs.size ≤ a) : H a = none := by
  cases q : H a with
  | none => rfl
  | some u => exact absurd (Nat.lt_of_lt_of_le (x.lt q) e) (Nat.lt_irrefl _)
/-- every object of the heap is kept -/
theorem HOk.kept (x : HOk P w H h) (k : ∀ b u, h.get? b = some u → h'.get? b = some u) : HOk P w H h' := fun a o e =>
  (x a o e).stay (fun b u _ q => k b u q) (fun _ q => q) fun _ _ q => q
/-- a new object is laid and tracked -/
theorem HOk.laid (x : HOk P w H h) (k : ∀ b u, h.get? b = some u → h'.get? b = some u) (hp : h.objs.size ≤ a) (new : ObjOk P w (upd H a o) h' a o) : HOk P w (upd H a o) h' := fun b u e => by
  have hn := x.fresh hp
  by_cases hb : b = a
  · subst hb; rw [upd_same] at e; cases e; exact new
  · rw [upd_ne hb] at e
    exact (x b u e).stay (fun c v _ q => k c v q) (fun c q => by rw [upd_ne (ne_of_none q hn)]; exact q) fun c xs q => by rw [upd_ne (ne_of_none q hn)]; exact q
end

/-- what may be read as u: it is u, or a known u -/
def Rd (H : Hp) (a : Addr) (u : HO) : Prop := H a = some u ∨ ∃ o, H a = some (.frz o u)
theorem Rd.of {H : Hp} {a : Addr} {u : HO} (h : H a = some u) : Rd H a u := .inl h
theorem Rd.ok {P : Program} {w : World} {H : Hp} {h : Heap} {a : Addr} {u : HO} (r : Rd H a u) (x : HOk P w H h) : ObjOk P w H h a u := by
  rcases r with r | ⟨o, r⟩
  · exact x a u r
  · obtain ⟨_, q⟩ := x a _ r
    exact q
/-- what may be written -/
def Mut : Option HO → Prop
  | some (.lst _) => True
  | some (.dK _) => True
  | some (.dT _) => True
  | some (.set _ _) => True
  | some (.ins _ _ _) => True
  | some (.ext _) => True
  | _ => False
section
variable {P : Program} {w : World} {H : Hp} {h h' : Heap} {x e : Addr} {o' : HO}
/-- the object at e is changed: x itself, or the dict of the instance x -/
theorem HOk.write (ok : HOk P w H h) (mu : Mut (H x)) (he : e = x ∨ H e = some (.own x)) (k : ∀ b u, b ≠ e → h.get? b = some u → h'.get? b = some u) (heo : ∃ u, h'.get? e = some u)
    (new : ObjOk P w (upd H x o') h' x o') : HOk P w (upd H x o') h' := fun b u q => by
  have nown : ∀ c y, H c = some (.own y) → c ≠ x := fun c y r z => by subst z; rw [r] at mu; exact mu
  have ntup : ∀ c xs, H c = some (.tup xs) → c ≠ x := fun c xs r z => by subst z; rw [r] at mu; exact mu
  by_cases hb : b = x
  · subst hb; rw [upd_same] at q; cases q; exact new
  · rw [upd_ne hb] at q
    by_cases hbe : b = e
    · have q' : H b = some (.own x) := by
        rcases he with z | z
        · exact absurd (hbe.trans z) hb
        · rw [hbe]; exact z
      rw [q] at q'; cases q'
      obtain ⟨v, hv⟩ := heo
      exact ⟨v, by rw [hbe]; exact hv⟩
    · refine (ok b u q).stay (fun c v hc r => k c v ?_ r) (fun c r => by rw [upd_ne (nown c b r)]; exact r) fun c xs r => by rw [upd_ne (ntup c xs r)]; exact r
      rcases hc with rfl | hc
      · exact hbe
      · rintro rfl
        rcases he with z | z
        · exact nown c b hc z
        · rw [hc] at z; cases z; exact hb rfl
end

/-! ### kept unless tracked; of the frames at fs (the callers') the slots may change (an exception that passes writes there); of the records at ex (iterators) nothing is said -/
structure Un (fs ex : List Addr) (H H' : Hp) (h h' : Heap) : Prop where
  keep : ∀ b o, h.get? b = some o → H b = none → b ∉ fs → b ∉ ex → h'.get? b = some o
  slot : ∀ b o, h.get? b = some o → H b = none → b ∈ fs → b ∉ ex → ∃ sl, h'.get? b = some { o with slots := sl }
  free : ∀ b o, h.get? b = some o → H b = none → b ∉ ex → H' b = none
  there : ∀ b o, h.get? b = some o → b ∉ ex → ∃ o', h'.get? b = some o'
  tups : ∀ b xs, H b = some (.tup xs) → H' b = some (.tup xs)
  frzs : ∀ b o u, H b = some (.frz o u) → H' b = some (.frz o u)
  tbls : ∀ b ps, H b = some (.tbl ps) → ∃ more, H' b = some (.tbl (ps ++ more))
section
variable {fs fs' ex ex' : List Addr} {H H1 H2 : Hp} {h h1 h2 h' : Heap} {a x e : Addr} {o : HO}
theorem Un.any (u : Un fs ex H H1 h h1) {b : Addr} {ob : Obj} (q : h.get? b = some ob) (n : H b = none) (hx : b ∉ ex) : ∃ sl, h1.get? b = some { ob with slots := sl } := by
  by_cases hb : b ∈ fs
  · exact u.slot b ob q n hb hx
  · exact ⟨ob.slots, u.keep b ob q n hb hx⟩
theorem Un.trans (a : Un fs ex H H1 h h1) (b : Un fs ex H1 H2 h1 h2) : Un fs ex H H2 h h2 where
  keep := fun c ob q n hc hx => b.keep c ob (a.keep c ob q n hc hx) (a.free c ob q n hx) hc hx
  slot := fun c ob q n hc hx => by
    obtain ⟨sl, e1⟩ := a.slot c ob q n hc hx
    obtain ⟨sl', e2⟩ := b.slot c _ e1 (a.free c ob q n hx) hc hx
    exact ⟨sl', e2⟩
  free := fun c ob q n hx => by
    obtain ⟨o', e1⟩ := a.there c ob q hx
    exact b.free c o' e1 (a.free c ob q n hx) hx
  there := fun c ob q hx => by
    obtain ⟨o', e1⟩ := a.there c ob q hx
    exact b.there c o' e1 hx
  tups := fun c xs q => b.tups c xs (a.tups c xs q)
  frzs := fun c ob xs q => b.frzs c ob xs (a.frzs c ob xs q)
  tbls := fun c ps q => by
    obtain ⟨m1, e1⟩ := a.tbls c ps q
    obtain ⟨m2, e2⟩ := b.tbls c _ e1
    exact ⟨m1 ++ m2, by rw [e2, Array.append_assoc]⟩
theorem Un.kept (k : ∀ b u, h.get? b = some u → h'.get? b = some u) : Un fs ex H H h h' :=
  ⟨fun b ob q _ _ _ => k b ob q, fun b ob q _ _ _ => ⟨ob.slots, k b ob q⟩, fun _ _ _ n _ => n, fun b ob q _ => ⟨ob, k b ob q⟩, fun _ _ q => q, fun _ _ _ q => q, fun _ ps q => ⟨#[], by rw [q]; simp⟩⟩
theorem Un.refl : Un fs ex H H h h := Un.kept fun _ _ q => q
theorem Un.laid (k : ∀ b u, h.get? b = some u → h'.get? b = some u) (hp : h.objs.size ≤ a) (hn : H a = none) : Un fs ex H (upd H a o) h h' where
  keep := fun b u q _ _ _ => k b u q
  slot := fun b u q _ _ _ => ⟨u.slots, k b u q⟩
  free := fun b u q n _ => by rw [upd_ne (Nat.ne_of_lt (Nat.lt_of_lt_of_le (Heap.lt_size q) hp))]; exact n
  there := fun b u q _ => ⟨u, k b u q⟩
  tups := fun b xs q => by rw [upd_ne (ne_of_none q hn)]; exact q
  frzs := fun b u xs q => by rw [upd_ne (ne_of_none q hn)]; exact q
  tbls := fun b ps q => ⟨#[], by rw [upd_ne (ne_of_none q hn), q]; simp⟩
theorem Un.write (mu : Mut (H x)) (he : e = x ∨ H e = some (.own x)) (k : ∀ b u, b ≠ e → h.get? b = some u → h'.get? b = some u) (heo : ∃ u, h'.get? e = some u) : Un fs ex H (upd H x o) h h' := by
  have hx : ∀ b, H b = none → b ≠ x := fun b n z => by subst z; rw [n] at mu; exact mu
  have hb : ∀ b, H b = none → b ≠ e := fun b n z => by
    subst z
    rcases he with r | r
    · exact hx b n r
    · rw [n] at r; cases r
  have hm : ∀ b u, H b = some u → ¬ Mut (some u) → b ≠ x := fun b u q nm z => by subst z; rw [q] at mu; exact nm mu
  refine ⟨fun b u q n _ _ => k b u (hb b n) q, fun b u q n _ _ => ⟨u.slots, k b u (hb b n) q⟩, fun b u q n _ => by rw [upd_ne (hx b n)]; exact n, fun b u q _ => ?_,
    fun b xs q => by rw [upd_ne (hm b _ q fun z => z)]; exact q, fun b u xs q => by rw [upd_ne (hm b _ q fun z => z)]; exact q, fun b ps q => ⟨#[], by rw [upd_ne (hm b _ q fun z => z), q]; simp⟩⟩
  by_cases hbe : b = e
  · subst hbe; exact heo
  · exact ⟨u, k b u hbe q⟩
theorem Un.mono (u : Un fs ex H H1 h h1) (hs : ∀ b ∈ fs, b ∈ fs') (hx : ∀ b ∈ ex, b ∈ ex') : Un fs' ex' H H1 h h1 :=
  ⟨fun b ob q n hb he => u.keep b ob q n (fun z => hb (hs b z)) fun z => he (hx b z), fun _ _ q n _ he => u.any q n fun z => he (hx _ z), fun b ob q n he => u.free b ob q n fun z => he (hx b z), fun b ob q he => u.there b ob q fun z => he (hx b z), u.tups, u.frzs, u.tbls⟩
end

/-! ### the heap without what is tracked -/
def trk (h : Heap) (H : Hp) : List Addr := (List.range h.objs.size).filter fun a => (H a).isSome
def hidT (h : Heap) (H : Hp) : Heap := PySem.W.hideAll h (trk h H)
theorem hidT_size (h : Heap) (H : Hp) : (hidT h H).objs.size = h.objs.size := PySem.W.hideAll_size _ _
theorem hidT_get {h : Heap} {H : Hp} {b : Addr} {o : Obj} (e : h.get? b = some o) (n : H b = none) : (hidT h H).get? b = some o :=
  PySem.W.hideAll_get _ e fun hm => by
    have q : (H b).isSome = true := (List.mem_filter.mp hm).2
    rw [n] at q; simp at q
theorem of_hidT {h : Heap} {H : Hp} {b : Addr} {o : Obj} (e : (hidT h H).get? b = some o) : h.get? b = some o ∧ H b = none := by
  have e' : h.get? b = some o := PySem.W.of_hideAll (trk h H) e
  refine ⟨e', ?_⟩
  cases q : H b with
  | none => rfl
  | some x =>
    have hm : b ∈ trk h H := List.mem_filter.mpr ⟨List.mem_range.mpr (Heap.lt_size e'), by simp [q]⟩
    have z : (hidT h H).get? b = none := PySem.W.hideAll_none (trk h H) hm
    rw [z] at e; cases e

/-! ### OpenK's ledger, filled with every new object but one -/
def allNews (g h : Heap) (L : Addr) : List (Addr × Obj) := (List.range h.objs.size).filterMap fun a => if a = L ∨ (g.get? a).isSome = true then none else (h.get? a).map fun o => (a, o)
def rest (g h : Heap) (L d : Addr) : List (Addr × Obj) := (allNews g h L).filter fun p => decide (p.1 ≠ d)
end L2

namespace L2
open PySem PySem.Spec PyProof.Rows

/-- the module's facts, over the base: the heap at the law's entry without what is tracked there -/
structure Mod (K : PySem.W.Frag) (mg : Str → Option Value) (base : Heap) : Prop where
  kin : K.In base
  glob : base.Ns mainGlobals mg
  blt : ∃ mb, base.Ns builtinsNs mb ∧ ∀ x : Str, x ≠ "__name__" → mb x = bootBuiltins x
  nolimit : base.NoLimit

/-- the context: a def's body (or a comprehension's block) running. base: fixed through the whole law; s₀, H₀: the entry; outer: the frames whose slots others may change (a def's callers); stack: all frames that run;
   ex: iterators that were made ahead of the entry and are walked here (a comprehension's); fn: the names whose cells were made at the entry (a def: all; a comprehension's block: its own); calm: not within an except suite; pn: pins that every state bears; xe: what is wanted of an exception that leaves the code -/
structure Cx where
  prog : Program
  w : World
  K : PySem.W.Frag
  mg : Str → Option Value
  base : Heap
  A : Around
  N : List Str
  s₀ : Shared
  H₀ : Hp
  env : Env
  outer : List Env
  stack : List Env
  ex : List Addr
  fn : Str → Bool
  calm : Bool
  pn : List (Addr × Obj)
  xe : Value → Shared → Prop
/-- the callers' frames -/
def frs (l : List Env) : List Addr := l.filterMap (·.frame)
abbrev Cx.fs (X : Cx) : List Addr := frs X.outer

def Vis (sc : Scope) (x : Str) : Prop := sc.names.lookup x = some .local ∨ sc.names.lookup x = some .cell ∨ sc.names.lookup x = some .free
def Loc (sc : Scope) (x : Str) : Prop := sc.names.lookup x = some .local ∨ sc.names.lookup x = some .cell
def Look (env : Env) (h : Heap) (m : Str → Option Value) (x : Str) (u : Value) : Prop :=
  (env.kindOf x = some .local ∧ m x = some u) ∨ ((env.kindOf x = some .cell ∨ env.kindOf x = some .free) ∧ ∃ c, env.cells.lookup x = some c ∧ h.IsCell c (some u))

structure Cx.Ok (X : Cx) : Prop where
  mod : Mod X.K X.mg X.base
  kind : X.env.scope.kind = .function
  glob : X.env.globals = mainGlobals
  blt : X.env.builtins = builtinsNs
  above : X.s₀.heap.objs.size ≤ X.env.locals
  inj : ∀ x y c, X.env.cells.lookup x = some c → X.env.cells.lookup y = some c → x = y
  has : ∀ x, (X.env.kindOf x = some .cell ∨ X.env.kindOf x = some .free) → ∃ c, X.env.cells.lookup x = some c
  cab : ∀ x c, X.fn x = true → X.env.cells.lookup x = some c → X.s₀.heap.objs.size ≤ c
  hd : X.calm = true → X.A.handled = none
  frames : X.A.frames = some X.stack
  stk : X.stack = X.outer ∨ (X.stack = X.env :: X.outer ∧ X.env.frame = some X.env.locals)
  exf : ∀ b ∈ X.ex, b ≠ X.env.locals ∧ ∀ x c, X.env.cells.lookup x = some c → c ≠ b
  bs : ∀ b o, X.base.get? b = some o → X.s₀.heap.get? b = some o ∧ X.H₀ b = none
  bsz : X.base.objs.size ≤ X.s₀.heap.objs.size
  noex : ∀ b o, X.base.get? b = some o → b ∉ X.ex
  exfs : ∀ b ∈ X.ex, b ∉ X.fs
  funs : X.s₀.heap.FunFrames X.base X.outer
  frf : ∀ b ∈ X.fs, X.H₀ b = none

structure Inv (X : Cx) (pins : List (Addr × Obj)) (σ : List (Option V)) (H : Hp) (s : Shared) : Prop where
  ok : X.Ok
  os : s.os = X.s₀.os
  bare : AllBare s.gens
  base : Un X.fs X.ex X.H₀ H X.s₀.heap s.heap
  loc : ∃ m, s.heap.Ns X.env.locals m ∧ ∀ (i : Nat) (x : Str) (v : V), X.N[i]? = some x → σ[i]? = some (some v) → Vis X.env.scope x → ∃ u, RelV v u ∧ Look X.env s.heap m x u
  cell : ∀ x c, X.env.cells.lookup x = some c → ∃ v, s.heap.IsCell c v
  free : H X.env.locals = none
  freeC : ∀ x c, X.env.cells.lookup x = some c → H c = none
  pin : ∀ p ∈ X.pn ++ pins, s.heap.get? p.1 = some p.2 ∧ H p.1 = none ∧ p.1 ≠ X.env.locals ∧ p.1 ∉ X.fs ∧ ∀ v, p.2.data ≠ .cell v
  hok : HOk X.prog X.w H s.heap
  len : σ.length = X.N.length

section
variable {X : Cx} {pins : List (Addr × Obj)} {σ : List (Option V)} {H H' : Hp} {s : Shared} {h' : Heap}

theorem Cx.Ok.nofr (ok : X.Ok) {b : Addr} {o : Obj} (e : X.base.get? b = some o) : b ∉ X.fs := fun hb => by
  have := (ok.funs.mem hb).1
  rw [e] at this; cases this
theorem Inv.bs (I : Inv X pins σ H s) : ∀ b o, X.base.get? b = some o → s.heap.get? b = some o ∧ H b = none := fun b o e =>
  ⟨I.base.keep b o (I.ok.bs b o e).1 (I.ok.bs b o e).2 (I.ok.nofr e) (I.ok.noex b o e), I.base.free b o (I.ok.bs b o e).1 (I.ok.bs b o e).2 (I.ok.noex b o e)⟩
theorem Inv.bk (I : Inv X pins σ H s) : ∀ b o, X.base.get? b = some o → s.heap.get? b = some o := fun b o e => (I.bs b o e).1
theorem Inv.mod (I : Inv X pins σ H s) : Mod X.K X.mg X.base := I.ok.mod
theorem Inv.kIn (I : Inv X pins σ H s) : X.K.In s.heap := I.ok.mod.kin.keeps I.bk
theorem Inv.nolimit (I : Inv X pins σ H s) : s.heap.NoLimit := I.ok.mod.nolimit.keeps I.bk
/-- the frame over the base: for OpenK's rules (K.In X.base is I.mod.kin) -/
theorem Inv.fr (I : Inv X pins σ H s) : ∃ m, Fr X.base X.env.locals s.heap m :=
  let ⟨m, hn, _⟩ := I.loc
  ⟨m, hn, I.bk, Nat.le_trans I.ok.bsz I.ok.above⟩
theorem Inv.lt (I : Inv X pins σ H s) : X.env.locals < s.heap.objs.size := let ⟨_, hn, _⟩ := I.loc; hn.lt
theorem Inv.sz (I : Inv X pins σ H s) : X.s₀.heap.objs.size ≤ s.heap.objs.size := Nat.le_trans I.ok.above (Nat.le_of_lt I.lt)
theorem Inv.nofs (I : Inv X pins σ H s) {a : Addr} (h : s.heap.objs.size ≤ a) : a ∉ X.fs := fun hb => by
  obtain ⟨_, o, ho, _⟩ := I.ok.funs.mem hb
  exact absurd (Nat.lt_of_lt_of_le (Heap.lt_size ho) (Nat.le_trans I.sz h)) (Nat.lt_irrefl _)
theorem Inv.cne (I : Inv X pins σ H s) : ∀ x c, X.env.cells.lookup x = some c → c ≠ X.env.locals := fun x c e z => by
  obtain ⟨v, o, ho, hd⟩ := I.cell x c e
  obtain ⟨m, ⟨o', es, ep, ho', hd', _⟩, _⟩ := I.loc
  rw [z, ho'] at ho; cases ho; rw [hd'] at hd; cases hd
theorem Inv.funs (I : Inv X pins σ H s) : s.heap.FunFrames X.base X.outer := by
  have all : ∀ (l : List Env), (∀ b ∈ frs l, b ∈ X.fs) → X.s₀.heap.FunFrames X.base l → s.heap.FunFrames X.base l := by
    intro l
    induction l with
    | nil => intro _ _; trivial
    | cons env r ih =>
      intro hs hl
      obtain ⟨hk, ⟨L, o, hf, hn, ho, hd⟩, hr⟩ := hl
      have hL : L ∈ X.fs := hs L (by unfold frs; rw [List.filterMap_cons, hf]; exact List.mem_cons_self)
      obtain ⟨sl, e⟩ := I.base.slot L o ho (I.ok.frf L hL) hL fun z => I.ok.exfs L z hL
      exact ⟨hk, ⟨L, _, hf, hn, e, hd⟩, ih (fun b hb => hs b (by unfold frs; rw [List.filterMap_cons, hf]; exact List.mem_cons_of_mem _ hb)) hr⟩
  exact all X.outer (fun _ hb => hb) I.ok.funs

/-- the frames that run, for a call -/
theorem Inv.stack (I : Inv X pins σ H s) : s.heap.FunFrames X.base X.stack := by
  rcases I.ok.stk with e | ⟨e, hf⟩
  · rw [e]; exact I.funs
  · rw [e]
    obtain ⟨m, hn, _⟩ := I.loc
    refine .cons (by rw [I.ok.kind]; decide) hf hn ?_ I.funs
    exact Heap.get?_none_of_le (Nat.le_trans I.ok.bsz I.ok.above)
theorem Inv.stkSub (I : Inv X pins σ H s) : ∀ b ∈ frs X.stack, b ∈ X.env.locals :: X.fs := fun b hb => by
  rcases I.ok.stk with e | ⟨e, hf⟩
  · rw [e] at hb; exact List.mem_cons_of_mem _ hb
  · rw [e] at hb
    unfold frs at hb
    rw [List.filterMap_cons, hf] at hb
    exact hb
theorem Inv.stkFree (I : Inv X pins σ H s) : ∀ b ∈ frs X.stack, H b = none := fun b hb => by
  rcases List.mem_cons.mp (I.stkSub b hb) with e | hb
  · rw [e]; exact I.free
  · obtain ⟨_, o, ho, _⟩ := I.ok.funs.mem hb
    exact I.base.free b o ho (I.ok.frf b hb) fun z => I.ok.exfs b z hb

/-- THE STEP: the untracked objects but the frame and the records at ch are kept (the callers' frames up to slots), the frame's map is kept, the new abstract heap is held -/
theorem Inv.step {g' : Array GenState} {t' : Nat} {d' : Drawn} {ch : List Addr} (I : Inv X pins σ H s)
    (hch : ∀ b ∈ ch, (b ∈ X.ex ∨ X.s₀.heap.objs.size ≤ b) ∧ b ≠ X.env.locals ∧ (∀ x c, X.env.cells.lookup x = some c → c ≠ b) ∧ ∀ p ∈ X.pn ++ pins, p.1 ≠ b)
    (keep : ∀ b o, b ≠ X.env.locals → b ∉ X.fs → b ∉ ch → s.heap.get? b = some o → H b = none → h'.get? b = some o)
    (slot : ∀ b o, b ≠ X.env.locals → b ∈ X.fs → b ∉ ch → s.heap.get? b = some o → H b = none → ∃ sl, h'.get? b = some { o with slots := sl }) (free : ∀ b o, b ∉ ch → s.heap.get? b = some o → H b = none → H' b = none)
    (there : ∀ b o, b ∉ ch → s.heap.get? b = some o → ∃ o', h'.get? b = some o')
    (tups : ∀ b xs, H b = some (.tup xs) → H' b = some (.tup xs)) (frzs : ∀ b o u, H b = some (.frz o u) → H' b = some (.frz o u)) (tbls : ∀ b ps, H b = some (.tbl ps) → ∃ more, H' b = some (.tbl (ps ++ more)))
    (ns : ∀ m, s.heap.Ns X.env.locals m → h'.Ns X.env.locals m) (hok : HOk X.prog X.w H' h') (hg : AllBare g') :
    Inv X pins σ H' { s with heap := h', gens := g', drawn := d', toks := t' } := by
  have neL : ∀ b o, X.s₀.heap.get? b = some o → b ≠ X.env.locals := fun b o e => Nat.ne_of_lt (Nat.lt_of_lt_of_le (Heap.lt_size e) I.ok.above)
  have neC : ∀ b o, X.s₀.heap.get? b = some o → b ∉ X.ex → b ∉ ch := fun b o e hx hb => by
    rcases (hch b hb).1 with z | z
    · exact hx z
    · exact absurd (Nat.lt_of_lt_of_le (Heap.lt_size e) z) (Nat.lt_irrefl _)
  have cellK : ∀ x c, X.env.cells.lookup x = some c → ∀ v, s.heap.IsCell c v → h'.IsCell c v := fun x c e v ⟨o, ho, hd⟩ => by
    have nch : c ∉ ch := fun z => (hch c z).2.2.1 x c e rfl
    by_cases hc : c ∈ X.fs
    · obtain ⟨sl, q⟩ := slot c o (I.cne x c e) hc nch ho (I.freeC x c e)
      exact ⟨_, q, hd⟩
    · exact ⟨o, keep c o (I.cne x c e) hc nch ho (I.freeC x c e), hd⟩
  refine ⟨I.ok, I.os, hg, ⟨fun b o e n hb hx => ?_, fun b o e n hb hx => ?_, fun b o e n hx => ?_, fun b o e hx => ?_, fun b xs e => tups b xs (I.base.tups b xs e), fun b o xs e => frzs b o xs (I.base.frzs b o xs e), fun b ps e => ?_⟩, ?_, fun x c e => ?_, ?_, fun x c e => ?_, fun p hp => ?_, hok, I.len⟩
  · exact keep b o (neL b o e) hb (neC b o e hx) (I.base.keep b o e n hb hx) (I.base.free b o e n hx)
  · obtain ⟨sl, e1⟩ := I.base.slot b o e n hb hx
    obtain ⟨sl', e2⟩ := slot b _ (neL b o e) hb (neC b o e hx) e1 (I.base.free b o e n hx)
    exact ⟨sl', e2⟩
  · obtain ⟨o', e1⟩ := I.base.there b o e hx
    exact free b o' (neC b o e hx) e1 (I.base.free b o e n hx)
  · obtain ⟨o', e1⟩ := I.base.there b o e hx
    exact there b o' (neC b o e hx) e1
  · obtain ⟨m1, e1⟩ := I.base.tbls b ps e
    obtain ⟨m2, e2⟩ := tbls b _ e1
    exact ⟨m1 ++ m2, by rw [e2, Array.append_assoc]⟩
  · obtain ⟨m, hn, hl⟩ := I.loc
    refine ⟨m, ns m hn, fun i x v e1 e2 e3 => ?_⟩
    obtain ⟨u, r, l⟩ := hl i x v e1 e2 e3
    refine ⟨u, r, ?_⟩
    rcases l with l | ⟨k, c, e, z⟩
    · exact .inl l
    · exact .inr ⟨k, c, e, cellK x c e _ z⟩
  · obtain ⟨v, z⟩ := I.cell x c e
    exact ⟨v, cellK x c e v z⟩
  · obtain ⟨m, ⟨o, _, _, ho, _⟩, _⟩ := I.loc
    exact free _ o (fun z => (hch _ z).2.1 rfl) ho I.free
  · obtain ⟨v, o, ho, hd⟩ := I.cell x c e
    exact free c o (fun z => (hch c z).2.2.1 x c e rfl) ho (I.freeC x c e)
  · obtain ⟨e, n, ne, nf, d⟩ := I.pin p hp
    have nch : p.1 ∉ ch := fun z => (hch p.1 z).2.2.2 p hp rfl
    exact ⟨keep p.1 p.2 ne nf nch e n, free p.1 p.2 nch e n, ne, nf, d⟩
/-- .. where the frame's own object is kept too -/
theorem Inv.un {t' : Nat} (I : Inv X pins σ H s) (u : Un X.fs [] H H' s.heap h') (hok : HOk X.prog X.w H' h') : Inv X pins σ H' { s with heap := h', toks := t' } := by
  obtain ⟨m, ⟨o, es, ep, ho, r⟩, _⟩ := id I.loc
  obtain ⟨sl, hL⟩ := u.any ho I.free (by simp)
  exact I.step (g' := s.gens) (d' := s.drawn) (ch := []) (fun _ z => nomatch z) (fun b o _ hb _ e n => u.keep b o e n hb (by simp)) (fun b o _ hb _ e n => u.slot b o e n hb (by simp)) (fun b o _ e n => u.free b o e n (by simp)) (fun b o _ e => u.there b o e (by simp)) u.tups u.frzs u.tbls (fun m' hm => by
    obtain ⟨o', es', ep', ho', r'⟩ := hm
    rw [ho] at ho'; cases ho'
    exact ⟨_, es', ep', hL, r'⟩) hok I.bare
/-- behind a call (or a comprehension's block): the slots of this frame may have changed too, the records at ch may have turned -/
theorem Inv.call {g' : Array GenState} {t' : Nat} {d' : Drawn} {ch : List Addr} (I : Inv X pins σ H s) (u : Un (frs X.stack) ch H H' s.heap h') (hok : HOk X.prog X.w H' h') (hg : AllBare g')
    (hch : ∀ b ∈ ch, (b ∈ X.ex ∨ X.s₀.heap.objs.size ≤ b) ∧ b ≠ X.env.locals ∧ (∀ x c, X.env.cells.lookup x = some c → c ≠ b) ∧ ∀ p ∈ X.pn ++ pins, p.1 ≠ b) :
    Inv X pins σ H' { s with heap := h', gens := g', drawn := d', toks := t' } := by
  obtain ⟨m, ⟨o, es, ep, ho, r⟩, _⟩ := id I.loc
  obtain ⟨sl, hL⟩ := u.any ho I.free fun z => (hch _ z).2.1 rfl
  exact I.step (ch := ch) hch (fun b o hL hb hc e n => u.keep b o e n (fun z => (List.mem_cons.mp (I.stkSub b z)).elim hL hb) hc) (fun b o _ _ hc e n => u.any e n hc) (fun b o hc e n => u.free b o e n hc) (fun b o hc e => u.there b o e hc) u.tups u.frzs u.tbls (fun m' hm => by
    obtain ⟨o', es', ep', ho', r'⟩ := hm
    rw [ho] at ho'; cases ho'
    exact ⟨_, es', ep', hL, r'⟩) hok hg
/-- an untracked record of ours (an iterator) has turned -/
theorem Inv.turned {t' : Nat} {it : Addr} (I : Inv X pins σ H s) (k : ∀ b o, b ≠ it → s.heap.get? b = some o → h'.get? b = some o) (hn : H it = none) (hL : it ≠ X.env.locals)
    (h1 : it ∈ X.ex ∨ X.s₀.heap.objs.size ≤ it) (h2 : ∀ x c, X.env.cells.lookup x = some c → c ≠ it) (h3 : ∀ p ∈ X.pn ++ pins, p.1 ≠ it) : Inv X pins σ H { s with heap := h', toks := t' } := by
  have nit : ∀ b u, H b = some u → b ≠ it := fun b u e z => by rw [z, hn] at e; cases e
  refine I.step (g' := s.gens) (d' := s.drawn) (ch := [it]) (fun b hb => ?_) (fun b o _ _ hc e _ => k b o (fun z => hc (by simp [z])) e) (fun b o _ _ hc e _ => ⟨o.slots, k b o (fun z => hc (by simp [z])) e⟩) (fun _ _ _ _ n => n)
    (fun b o hc e => ⟨o, k b o (fun z => hc (by simp [z])) e⟩) (fun _ _ e => e) (fun _ _ _ e => e) (fun b ps e => ⟨#[], by rw [e]; simp⟩) (fun m hm => ?_) (fun b u e => ?_) I.bare
  · have e : b = it := by simpa using hb
    subst e
    exact ⟨h1, hL, h2, h3⟩
  · obtain ⟨o, es, ep, ho, r⟩ := hm
    exact ⟨o, es, ep, k _ o (Ne.symm hL) ho, r⟩
  · refine (I.hok b u e).stay (fun c v hc q => k c v ?_ q) (fun _ q => q) fun _ _ q => q
    rcases hc with z | z
    · rw [z]; exact nit b u e
    · exact nit c _ z
theorem Inv.tok (I : Inv X pins σ H s) (t : Nat) : Inv X pins σ H { s with toks := t } := I.un (h' := s.heap) (t' := t) Un.refl I.hok
/-- all objects kept -/
theorem Inv.kept {t' : Nat} (I : Inv X pins σ H s) (k : ∀ b u, s.heap.get? b = some u → h'.get? b = some u) : Inv X pins σ H { s with heap := h', toks := t' } := I.un (Un.kept k) (I.hok.kept k)
/-- a new object laid and tracked -/
theorem Inv.laid {a : Addr} {o : HO} {t' : Nat} (I : Inv X pins σ H s) (k : ∀ b u, s.heap.get? b = some u → h'.get? b = some u) (hp : s.heap.objs.size ≤ a) (new : ObjOk X.prog X.w (upd H a o) h' a o) :
    Inv X pins σ (upd H a o) { s with heap := h', toks := t' } := I.un (Un.laid k hp (I.hok.fresh hp)) (I.hok.laid k hp new)
/-- an object written -/
theorem Inv.write {x e : Addr} {o : HO} {t' : Nat} (I : Inv X pins σ H s) (mu : Mut (H x)) (he : e = x ∨ H e = some (.own x)) (k : ∀ b u, b ≠ e → s.heap.get? b = some u → h'.get? b = some u) (heo : ∃ u, h'.get? e = some u)
    (new : ObjOk X.prog X.w (upd H x o) h' x o) : Inv X pins σ (upd H x o) { s with heap := h', toks := t' } := I.un (Un.write mu he k heo) (I.hok.write mu he k heo new)
theorem Inv.pins_of {pins' : List (Addr × Obj)} (I : Inv X pins σ H s) (h : ∀ p ∈ pins', s.heap.get? p.1 = some p.2 ∧ H p.1 = none ∧ p.1 ≠ X.env.locals ∧ p.1 ∉ X.fs ∧ ∀ v, p.2.data ≠ .cell v) : Inv X pins' σ H s :=
  ⟨I.ok, I.os, I.bare, I.base, I.loc, I.cell, I.free, I.freeC, fun p hp => (List.mem_append.mp hp).elim (fun z => I.pin p (List.mem_append_left _ z)) (h p), I.hok, I.len⟩

theorem nodup_ix {N : List Str} (hN : N.Nodup) {i j : Nat} {x : Str} (a : N[i]? = some x) (b : N[j]? = some x) : i = j := by
  obtain ⟨h1, e1⟩ := List.getElem?_eq_some_iff.mp a
  obtain ⟨h2, e2⟩ := List.getElem?_eq_some_iff.mp b
  exact (List.getElem_inj hN).mp (e1.trans e2.symm)

/-- a name is stored; what changed -/
theorem store_ok2 {M : Model} {A : Around} {E : Value → Shared → Prop} {i : Nat} {x : Str} {v : V} {u : Value} {Q : Unit → Shared → Prop} (I : Inv X pins σ H s) (hN : X.N.Nodup) (hi : X.N[i]? = some x) (hx : Loc X.env.scope x) (r : RelV v u)
    (h : ∀ s', Inv X pins (σ.set i (some v)) H s' → (∃ a, Heap.SameBut a s.heap s'.heap ∧ (a = X.env.locals ∨ X.env.cells.lookup x = some a)) → Q () s') (hf : X.fn x = true ∨ X.env.scope.names.lookup x = some .local := by first | exact .inl rfl | exact .inr rfl | assumption) : wpAny M A (storeName X.env x u) Q E s := by
  obtain ⟨m, hn, hl⟩ := id I.loc
  have hcls : (X.env.scope.kind == .class || (X.env.scope.kind == .module && X.env.locals != X.env.globals)) = false := by rw [I.ok.kind]; rfl
  have hiσ : i < σ.length := by rw [I.len]; exact (List.getElem?_eq_some_iff.mp hi).1
  have cne := I.cne
  have tracked : ∀ {a : Addr} {h' : Heap}, (∃ o, s.heap.get? a = some o ∧ H a = none) → Heap.SameBut a s.heap h' → HOk X.prog X.w H h' := fun {a h'} ha hs b ob e => by
    obtain ⟨_, _, hfree⟩ := ha
    refine (I.hok b ob e).stay (fun c w' hc q => (hs.2 c ?_).trans q) (fun _ q => q) fun _ _ q => q
    rintro rfl
    rcases hc with rfl | hc
    · rw [hfree] at e; cases e
    · rw [hfree] at hc; cases hc
  rcases hx with hk | hk
  · refine wpAny_storeName_local hk hn (fun h' hn' hs => ?_) hcls
    obtain ⟨oL, _, _, hoL, _⟩ := id hn
    refine h _ ⟨I.ok, I.os, I.bare, ⟨fun b o e n hb hx => ?_, fun b o e n hb hx => ?_, I.base.free, fun b o e hx => ?_, I.base.tups, I.base.frzs, I.base.tbls⟩, ⟨_, hn', fun j y v' e1 e2 e3 => ?_⟩, fun y c e => ?_, I.free, I.freeC, fun p hp => ?_, tracked ⟨oL, hoL, I.free⟩ hs, by simpa using I.len⟩ ⟨_, hs, .inl rfl⟩
    · exact (hs.2 b (Nat.ne_of_lt (Nat.lt_of_lt_of_le (Heap.lt_size e) I.ok.above))).trans (I.base.keep b o e n hb hx)
    · obtain ⟨sl, e1⟩ := I.base.slot b o e n hb hx
      exact ⟨sl, (hs.2 b (Nat.ne_of_lt (Nat.lt_of_lt_of_le (Heap.lt_size e) I.ok.above))).trans e1⟩
    · obtain ⟨o', e1⟩ := I.base.there b o e hx
      exact ⟨o', (hs.2 b (Nat.ne_of_lt (Nat.lt_of_lt_of_le (Heap.lt_size e) I.ok.above))).trans e1⟩
    · by_cases hj : j = i
      · subst hj
        rw [hi] at e1; cases e1
        rw [List.getElem?_set_self hiσ] at e2
        cases e2
        exact ⟨u, r, .inl ⟨hk, by simp⟩⟩
      · rw [List.getElem?_set_ne (Ne.symm hj)] at e2
        obtain ⟨u', r', q⟩ := hl j y v' e1 e2 e3
        refine ⟨u', r', ?_⟩
        rcases q with ⟨k, e⟩ | ⟨k, c, e, z⟩
        · refine .inl ⟨k, ?_⟩
          have : y ≠ x := fun e => hj (nodup_ix hN e1 (e ▸ hi))
          simp [this, e]
        · exact .inr ⟨k, c, e, z.sameBut hs (cne y c e)⟩
    · obtain ⟨w', z⟩ := I.cell y c e
      exact ⟨w', z.sameBut hs (cne y c e)⟩
    · obtain ⟨e, n, ne, nf, d⟩ := I.pin p hp
      exact ⟨(hs.2 p.1 ne).trans e, n, ne, nf, d⟩
  · have hfn : X.fn x = true := by
      rcases hf with z | z
      · exact z
      · rw [z] at hk; cases hk
    obtain ⟨c, hc⟩ := I.ok.has x (.inl hk)
    obtain ⟨w', z⟩ := I.cell x c hc
    refine wpAny_storeName_cell I.ok.kind hk hc z (fun h' hc' hs => ?_)
    obtain ⟨oc, hoc, hocd⟩ := id z
    refine h { s with heap := h' } ⟨I.ok, I.os, I.bare, ⟨fun b o e n hb hx => ?_, fun b o e n hb hx => ?_, I.base.free, fun b o e hx => ?_, I.base.tups, I.base.frzs, I.base.tbls⟩, ⟨m, hn.sameBut hs (Ne.symm (cne x c hc)), fun j y v' e1 e2 e3 => ?_⟩, fun y c' e => ?_, I.free, I.freeC, fun p hp => ?_, tracked ⟨oc, hoc, I.freeC x c hc⟩ hs, by simpa using I.len⟩ ⟨c, hs, .inr hc⟩
    · exact (hs.2 b (Nat.ne_of_lt (Nat.lt_of_lt_of_le (Heap.lt_size e) (I.ok.cab x c hfn hc)))).trans (I.base.keep b o e n hb hx)
    · obtain ⟨sl, e1⟩ := I.base.slot b o e n hb hx
      exact ⟨sl, (hs.2 b (Nat.ne_of_lt (Nat.lt_of_lt_of_le (Heap.lt_size e) (I.ok.cab x c hfn hc)))).trans e1⟩
    · obtain ⟨o', e1⟩ := I.base.there b o e hx
      exact ⟨o', (hs.2 b (Nat.ne_of_lt (Nat.lt_of_lt_of_le (Heap.lt_size e) (I.ok.cab x c hfn hc)))).trans e1⟩
    · by_cases hj : j = i
      · subst hj
        rw [hi] at e1; cases e1
        rw [List.getElem?_set_self hiσ] at e2
        cases e2
        exact ⟨u, r, .inr ⟨.inl hk, c, hc, hc'⟩⟩
      · rw [List.getElem?_set_ne (Ne.symm hj)] at e2
        obtain ⟨u', r', q⟩ := hl j y v' e1 e2 e3
        refine ⟨u', r', ?_⟩
        rcases q with q | ⟨k, c', e, z'⟩
        · exact .inl q
        · refine .inr ⟨k, c', e, z'.sameBut hs ?_⟩
          rintro rfl
          exact hj (nodup_ix hN e1 (I.ok.inj _ _ _ e hc ▸ hi))
    · by_cases hcc : c' = c
      · subst hcc; exact ⟨_, hc'⟩
      · obtain ⟨w2, z2⟩ := I.cell y c' e
        exact ⟨w2, z2.sameBut hs hcc⟩
    · obtain ⟨e, n, ne, nf, d⟩ := I.pin p hp
      refine ⟨(hs.2 p.1 ?_).trans e, n, ne, nf, d⟩
      intro q
      rw [q, hoc] at e
      have q' : oc = p.2 := Option.some.inj e
      exact d w' (by rw [← q']; exact hocd)
theorem store_ok {M : Model} {A : Around} {E : Value → Shared → Prop} {i : Nat} {x : Str} {v : V} {u : Value} {Q : Unit → Shared → Prop} (I : Inv X pins σ H s) (hN : X.N.Nodup) (hi : X.N[i]? = some x) (hx : Loc X.env.scope x) (r : RelV v u)
    (h : ∀ s', Inv X pins (σ.set i (some v)) H s' → Q () s') (hf : X.fn x = true ∨ X.env.scope.names.lookup x = some .local := by first | exact .inl rfl | exact .inr rfl | assumption) : wpAny M A (storeName X.env x u) Q E s :=
  store_ok2 I hN hi hx r (fun s' I' _ => h s' I') hf
/-- behind a call or a block, the state as it is -/
theorem Inv.call' {s' : Shared} {ch : List Addr} (I : Inv X pins σ H s) (ho : s'.os = s.os) (u : Un (frs X.stack) ch H H' s.heap s'.heap) (hok : HOk X.prog X.w H' s'.heap) (hg : AllBare s'.gens)
    (hch : ∀ b ∈ ch, (b ∈ X.ex ∨ X.s₀.heap.objs.size ≤ b) ∧ b ≠ X.env.locals ∧ (∀ x c, X.env.cells.lookup x = some c → c ≠ b) ∧ ∀ p ∈ X.pn ++ pins, p.1 ≠ b) : Inv X pins σ H' s' := by
  obtain ⟨h', g', d', t', o'⟩ := s'
  have e : o' = s.os := ho
  subst e
  exact I.call (g' := g') (t' := t') (d' := d') u hok hg hch
end

/-! ### the judgements -/
/-- an exception: its class, its own dict's address (where it has one), the abstract heap behind it -/
abbrev XK := Value → Option Addr → Hp → Prop
abbrev St := List (Option V)
abbrev VK := V → Hp → Prop
/-- an expression's reading; a test's; an argument list's -/
abbrev TE := St → Hp → VK → Prop
abbrev TT := St → Hp → (Bool → Hp → Prop) → Prop
abbrev TA := St → Hp → (List V → Hp → Prop) → Prop
/-- what is wanted behind a statement -/
structure Ends where
  nx : St → Hp → Prop
  rt : VK
  bk : St → Hp → Prop := fun _ _ => False
  ct : St → Hp → Prop := fun _ _ => False
abbrev TS := Ends → St → Hp → Prop

def EP (X : Cx) (pins : List (Addr × Obj)) (σ : St) (Q : VK) (u : Value) (s' : Shared) : Prop := ∃ v H', Inv X pins σ H' s' ∧ RelV v u ∧ Q v H'
def TP (X : Cx) (pins : List (Addr × Obj)) (σ : St) (Q : Bool → Hp → Prop) (b : Bool) (s' : Shared) : Prop := ∃ H', Inv X pins σ H' s' ∧ Q b H'
def AP (X : Cx) (pins : List (Addr × Obj)) (σ : St) (Q : List V → Hp → Prop) (us : List Value) (s' : Shared) : Prop := ∃ vs H', Inv X pins σ H' s' ∧ Vals vs us ∧ Q vs H'
def SP (X : Cx) (pins : List (Addr × Obj)) (D : Ends) (f : Flow) (s' : Shared) : Prop :=
  match f with
  | .next => ∃ σ' H', Inv X pins σ' H' s' ∧ D.nx σ' H'
  | .brk => ∃ σ' H', Inv X pins σ' H' s' ∧ D.bk σ' H'
  | .cont => ∃ σ' H', Inv X pins σ' H' s' ∧ D.ct σ' H'
  | .ret u => ∃ v σ' H', Inv X pins σ' H' s' ∧ RelV v u ∧ D.rt v H'

def PE (X : Cx) (e : Expr) (t : TE) : Prop :=
  ∀ (pins : List (Addr × Obj)) (s : Shared) (σ : St) (H : Hp) (Q : VK), Inv X pins σ H s → t σ H Q → wpAny (model X.prog X.w) X.A (eval e X.env) (EP X pins σ Q) X.xe s
def PT (X : Cx) (e : Expr) (t : TT) : Prop :=
  ∀ (pins : List (Addr × Obj)) (s : Shared) (σ : St) (H : Hp) (Q : Bool → Hp → Prop), Inv X pins σ H s → t σ H Q → wpAny (model X.prog X.w) X.A (isTrue e X.env (eval e X.env)) (TP X pins σ Q) X.xe s
/-- a test whatever its 'whole' is (and, or) -/
def PW (X : Cx) (e : Expr) (t : TT) : Prop :=
  ∀ (whole : Sem Value) (pins : List (Addr × Obj)) (s : Shared) (σ : St) (H : Hp) (Q : Bool → Hp → Prop), Inv X pins σ H s → t σ H Q → wpAny (model X.prog X.w) X.A (isTrue e X.env whole) (TP X pins σ Q) X.xe s
theorem PW.pt {X : Cx} {e : Expr} {t : TT} (h : PW X e t) : PT X e t := h _
/-- an argument list (no star), from the left -/
def PA (X : Cx) (es : List Expr) (t : TA) : Prop :=
  ∀ (pos : Pos) (pins : List (Addr × Obj)) (s : Shared) (σ : St) (H : Hp) (Q : List V → Hp → Prop), Inv X pins σ H s → t σ H Q → wpAny (model X.prog X.w) X.A (spliced (backTo pos (starEach es X.env))) (AP X pins σ Q) X.xe s
def PS (X : Cx) (st : Stmt) (t : TS) : Prop :=
  ∀ (pins : List (Addr × Obj)) (s : Shared) (σ : St) (H : Hp) (D : Ends), Inv X pins σ H s → t D σ H → wpAny (model X.prog X.w) X.A (exec st X.env) (SP X pins D) X.xe s
def PSs (X : Cx) (st : List Stmt) (t : TS) : Prop :=
  ∀ (pins : List (Addr × Obj)) (s : Shared) (σ : St) (H : Hp) (D : Ends), Inv X pins σ H s → t D σ H → wpAny (model X.prog X.w) X.A (execs st X.env) (SP X pins D) X.xe s
/-- weaken the end -/
theorem thn {α : Type} {t : Sem α} {Q Q' : α → Shared → Prop} {M : Model} {A : Around} {E : Value → Shared → Prop} {s : Shared} (h : wpAny M A t Q E s) (hQ : ∀ a s, Q a s → Q' a s) : wpAny M A t Q' E s := wpAny_mono h hQ fun _ _ x => x
end L2

namespace L2
open PySem PySem.Spec PyProof.Rows
section
variable {X : Cx}

/-! ### names and constants -/
def tVar (i : Nat) : TE := fun σ H Q => ∃ v, σ[i]? = some (some v) ∧ Q v H
def tC (v : V) : TE := fun _ H Q => Q v H
theorem pe_var {i : Nat} {x : Str} {pos : Pos} (hN : X.N[i]? = some x) (hv : Vis X.env.scope x) (hd : (x == ("__debug__" : Str)) = false := by decide) (hcd : (x == ("__classdict__" : Str)) = false := by decide) : PE X (.Name x pos) (tVar i) := by
  intro pins s σ H Q I h
  obtain ⟨v, e, h⟩ := h
  obtain ⟨m, hn, hl⟩ := I.loc
  obtain ⟨u, r, l⟩ := hl i x v hN e hv
  have fin : EP X pins σ Q u s := ⟨v, H, I, r, h⟩
  rcases l with ⟨hk, hm⟩ | ⟨hk, c, hc, hcell⟩
  · exact wpAny_Name (wpAny_loadName_local I.ok.kind hk hn hm fin) hd
  · rcases hk with hk | hk
    · exact wpAny_Name (wpAny_loadName_cell I.ok.kind hk hc hcell fin) hd
    · exact wpAny_Name (wpAny_loadName_free I.ok.kind hk hc hcell fin hcd) hd
theorem pe_int {i j pos} : PE X (.Constant (.int i) j pos) (tC (.int i)) := fun _ _ _ H _ I h => wpAny_Constant_int ⟨.int i, H, I.tok _, ⟨_, rfl⟩, h⟩
theorem pe_bl {b j pos} : PE X (.Constant (.bool b) j pos) (tC (.bl b)) := fun _ _ _ H _ I h => Constant_bool ⟨.bl b, H, I, rfl, h⟩
theorem pe_str {x j pos} : PE X (.Constant (.str x) j pos) (tC (.str x)) := fun _ _ _ H _ I h => Calls.Constant_str ⟨.str x, H, I.tok _, ⟨_, rfl⟩, h⟩

/-- a global name of the def -/
def Gl (X : Cx) (x : Str) : Prop := X.env.kindOf x = some .globalImplicit
theorem ld_glob {E : Value → Shared → Prop} {pins : List (Addr × Obj)} {s : Shared} {σ : St} {H : Hp} {x : Str} {u : Value} {pos : Pos} {Q : Value → Shared → Prop} (I : Inv X pins σ H s) (hg : Gl X x) (hm : X.mg x = some u) (h : Q u s)
    (hd : (x == ("__debug__" : Str)) = false := by decide) : wpAny (model X.prog X.w) X.A (eval (.Name x pos) X.env) Q E s :=
  Calls.Name_function_global I.ok.kind hg (Calls.loadGlobal_global (by rw [I.ok.glob]; exact I.mod.glob.keeps I.bk) hm h) hd
theorem ld_blt {E : Value → Shared → Prop} {pins : List (Addr × Obj)} {s : Shared} {σ : St} {H : Hp} {x : Str} {u : Value} {pos : Pos} {Q : Value → Shared → Prop} (I : Inv X pins σ H s) (hg : Gl X x) (hm : X.mg x = none) (hv : bootBuiltins x = some u) (h : Q u s)
    (hn : x ≠ "__name__" := by decide) (hd : (x == ("__debug__" : Str)) = false := by decide) : wpAny (model X.prog X.w) X.A (eval (.Name x pos) X.env) Q E s := by
  obtain ⟨mb, h1, h2⟩ := I.mod.blt
  exact Calls.Name_function_global I.ok.kind hg (Calls.loadGlobal_builtin (by rw [I.ok.glob]; exact I.mod.glob.keeps I.bk) hm (by rw [I.ok.blt]; exact h1.keeps I.bk) ((h2 x hn).trans hv) h) hd
/-- a module's constant, a class, a function, as a value -/
theorem pe_glob {x : Str} {v : V} {u : Value} {pos : Pos} (hg : Gl X x) (hm : X.mg x = some u) (r : RelV v u) (hd : (x == ("__debug__" : Str)) = false := by decide) : PE X (.Name x pos) (tC v) :=
  fun _ _ _ H _ I h => ld_glob I hg hm ⟨v, H, I, r, h⟩ hd
theorem pe_bltn {x : Str} {v : V} {u : Value} {pos : Pos} (hg : Gl X x) (hm : X.mg x = none) (hv : bootBuiltins x = some u) (r : RelV v u) (hn : x ≠ "__name__" := by decide) (hd : (x == ("__debug__" : Str)) = false := by decide) : PE X (.Name x pos) (tC v) :=
  fun _ _ _ H _ I h => ld_blt I hg hm hv ⟨v, H, I, r, h⟩ hn hd

/-! ### arithmetic -/
/-- two ints -/
def t2I (ta tb : TE) (k : Int → Int → Hp → Prop) : St → Hp → Prop := fun σ H => ta σ H fun x H1 => tb σ H1 fun y H2 => ∃ i j, x = .int i ∧ y = .int j ∧ k i j H2
def tAdd (ta tb : TE) : TE := fun σ H Q => t2I ta tb (fun i j H2 => Q (.int (i + j)) H2) σ H
def tSub (ta tb : TE) : TE := fun σ H Q => t2I ta tb (fun i j H2 => Q (.int (i - j)) H2) σ H
/-- the left factor below 2^64 -/
def tMul (ta tb : TE) : TE := fun σ H Q => t2I ta tb (fun i j H2 => (-(2 ^ 64) < i ∧ i < 2 ^ 64) ∧ Q (.int (i * j)) H2) σ H
variable {a b : Expr} {ta tb : TE} {pos : Pos}
/-! ### comparisons -/
def PC (X : Cx) (op : CmpOp) (a b : Expr) (t : TE) : Prop :=
  ∀ (pins : List (Addr × Obj)) (s : Shared) (σ : St) (H : Hp) (Q : VK), Inv X pins σ H s → t σ H Q →
    wpAny (model X.prog X.w) X.A (eval a X.env) (fun v s₁ => wpAny (model X.prog X.w) X.A (eval b X.env) (fun u s₂ => wpAny (model X.prog X.w) X.A (compareOp op v u) (EP X pins σ Q) X.xe s₂) X.xe s₁) X.xe s
theorem nobehind (b : Expr) {op : CmpOp} (h : op ≠ .In) (h2 : op ≠ .NotIn) : behindInMarks op b = false := by
  have e1 : (op == CmpOp.In) = false := by cases op <;> first | rfl | exact absurd rfl h
  have e2 : (op == CmpOp.NotIn) = false := by cases op <;> first | rfl | exact absurd rfl h2
  cases b <;> simp [behindInMarks, e1, e2]
def tCmp (p : Int → Int → Bool) (ta tb : TE) : TE := fun σ H Q => t2I ta tb (fun i j H2 => Q (.bl (p i j)) H2) σ H
abbrev tLt : TE → TE → TE := tCmp fun i j => decide (i < j)
abbrev tLe : TE → TE → TE := tCmp fun i j => decide (i ≤ j)
abbrev tGt : TE → TE → TE := tCmp fun i j => decide (j < i)
abbrev tGe : TE → TE → TE := tCmp fun i j => decide (j ≤ i)
abbrev tEqI : TE → TE → TE := tCmp fun i j => decide (i = j)
abbrev tNeI : TE → TE → TE := tCmp fun i j => !decide (i = j)
/-- is None -/
def tIsN (ta : TE) : TE := fun σ H Q => ta σ H fun x H1 => Q (.bl (decide (x = .non))) H1
def tNotN (ta : TE) : TE := fun σ H Q => ta σ H fun x H1 => Q (.bl (!decide (x = .non))) H1
/-- a comparison as a value, as a test -/
def tB (t : TE) : TT := fun σ H Q => t σ H fun x H1 => ∃ c, x = .bl c ∧ Q c H1
theorem pt_cmp {op : CmpOp} {t : TE} (h : PC X op a b t) (h1 : behindInMarks op b = false := by first | exact nobehind _ (by decide) (by decide) | rfl) : PT X (.Compare a [op] [b] pos) (tB t) := by
  intro pins s σ H Q I hw
  refine wpAny_isTrue_Compare1 (thn (h pins s σ H _ I hw) fun v s1 h1 => thn h1 fun u s2 h2 => thn h2 fun c s3 ⟨x, H1, I1, r1, q1⟩ => ?_) h1
  obtain ⟨d, rfl, q⟩ := q1
  cases r1
  exact wpAny_truthy_bool ⟨H1, I1, q⟩
/-- an expression whose value is a bool, as a test -/
theorem pt_val {e : Expr} {t : TE} (h : PE X e t) (he : ∀ whole, isTrue e X.env whole = (do let v ← whole; standAt e.pos; holding [v] (truthy v)) := by intro _; rfl) : PT X e (tB t) := by
  intro pins s σ H Q I hw
  refine isTrue_plain (thn (h pins s σ H _ I hw) fun v s1 ⟨x, H1, I1, r1, q1⟩ => ?_) (he _)
  obtain ⟨d, rfl, q⟩ := q1
  cases r1
  exact wpAny_truthy_bool ⟨H1, I1, q⟩

/-! ### and, or, not -/
variable {tA tB' : TT} {rest : List Expr}
def tAnd (t u : TT) : TT := fun σ H Q => t σ H fun c H1 => if c = true then u σ H1 Q else Q false H1
def tOr (t u : TT) : TT := fun σ H Q => t σ H fun c H1 => if c = true then Q true H1 else u σ H1 Q
def tNot (t : TT) : TT := fun σ H Q => t σ H fun c H1 => Q (!c) H1
theorem pw_and1 (ha : PT X a tA) : PW X (.BoolOp .And [a] pos) tA := by
  intro wh pins s σ H Q I h
  refine isTrue_and (thn (ha pins s σ H Q I h) fun c s1 e => ?_)
  cases c with
  | true => exact isTrue_and_nil e
  | false => exact e
theorem pw_or1 (ha : PT X a tA) : PW X (.BoolOp .Or [a] pos) tA := by
  intro wh pins s σ H Q I h
  refine isTrue_or (thn (ha pins s σ H Q I h) fun c s1 e => ?_)
  cases c with
  | false => exact isTrue_or_nil e
  | true => exact e
theorem pw_and (ha : PT X a tA) (hb : PW X (.BoolOp .And (b :: rest) pos) tB') : PW X (.BoolOp .And (a :: b :: rest) pos) (tAnd tA tB') := by
  intro wh pins s σ H Q I h
  refine isTrue_and (thn (ha pins s σ H _ I h) fun c s1 ⟨H1, I1, q1⟩ => ?_)
  cases c with
  | true => exact hb wh pins s1 σ H1 Q I1 q1
  | false => exact ⟨H1, I1, q1⟩
theorem pw_or (ha : PT X a tA) (hb : PW X (.BoolOp .Or (b :: rest) pos) tB') : PW X (.BoolOp .Or (a :: b :: rest) pos) (tOr tA tB') := by
  intro wh pins s σ H Q I h
  refine isTrue_or (thn (ha pins s σ H _ I h) fun c s1 ⟨H1, I1, q1⟩ => ?_)
  cases c with
  | true => exact ⟨H1, I1, q1⟩
  | false => exact hb wh pins s1 σ H1 Q I1 q1
theorem pt_not (ha : PT X a tA) : PT X (.UnaryOp .Not a pos) (tNot tA) := by
  intro pins s σ H Q I h
  exact isTrue_not (ha pins s σ H (fun c H1 => Q (!c) H1) I h)
/-- .. as values (bools) -/
def tAndV (ta tb : TE) : TE := fun σ H Q => ta σ H fun x H1 => ∃ c, x = .bl c ∧ if c = true then tb σ H1 Q else Q (.bl false) H1
def tOrV (ta tb : TE) : TE := fun σ H Q => ta σ H fun x H1 => ∃ c, x = .bl c ∧ if c = true then Q (.bl true) H1 else tb σ H1 Q
def tNotV (ta : TE) : TE := fun σ H Q => ta σ H fun x H1 => ∃ c, x = .bl c ∧ Q (.bl (!c)) H1
theorem pe_one {op} {t : TE} (h : PE X a t) : PE X (.BoolOp op [a] pos) t := fun pins s σ H Q I hw => BoolOp_one (h pins s σ H Q I hw)
theorem pe_and (ha : PE X a ta) (hb : PE X (.BoolOp .And (b :: rest) pos) tb) : PE X (.BoolOp .And (a :: b :: rest) pos) (tAndV ta tb) := by
  intro pins s σ H Q I h
  refine BoolOp_and (thn (ha pins s σ H _ I h) fun v s1 ⟨x, H1, I1, r1, q1⟩ => ?_)
  obtain ⟨c, rfl, q1⟩ := q1
  cases r1
  refine wpAny_truthy_bool ?_
  cases c with
  | true => exact hb pins s1 σ H1 Q I1 q1
  | false => exact ⟨.bl false, H1, I1, rfl, q1⟩
theorem pe_not (ha : PE X a ta) : PE X (.UnaryOp .Not a pos) (tNotV ta) := by
  intro pins s σ H Q I h
  refine UnaryOp_ (thn (ha pins s σ H _ I h) fun v s1 ⟨x, H1, I1, r1, q1⟩ => ?_)
  obtain ⟨c, rfl, q1⟩ := q1
  cases r1
  exact not_of (wpAny_truthy_bool ⟨.bl (!c), H1, I1, rfl, q1⟩)
/-- a if t else b -/
def tIf (t : TT) (ta tb : TE) : TE := fun σ H Q => t σ H fun c H1 => if c = true then ta σ H1 Q else tb σ H1 Q
end
end L2

namespace L2
open PySem PySem.Spec PyProof.Rows

/-! ### a list, a tuple that is read: tracked, frozen, or an object of the module -/
def SqL (K : PySem.W.Frag) (H : Hp) (a : Addr) (xs : List V) : Prop :=
  Rd H a (.lst xs) ∨
    ∃ (o : Obj) (its : Array Value) (n : Nat), K.lookup a = some o ∧ o.cls = .type "list" ∧ o.dict = none ∧ o.data = .seq its n ∧ its.size ≤ sizeLine ∧ Vals xs its.toList
def SqT (K : PySem.W.Frag) (H : Hp) (a : Addr) (xs : List V) : Prop :=
  Rd H a (.tup xs) ∨
    ∃ (o : Obj) (its : Array Value) (n : Nat), K.lookup a = some o ∧ o.cls = .type "tuple" ∧ o.data = .seq its n ∧ its.size ≤ sizeLine ∧ Vals xs its.toList
def absV : Value → Option V
  | .none => some .non
  | .bool b => some (.bl b)
  | .int i _ => some (.int i)
  | .str x _ => some (.str x)
  | .bytes b _ => some (.byt b)
  | .float b _ => some (.flt b)
  | .ref a => some (.ref a)
  | .type n => some (.ty n)
  | _ => none
theorem RelV.abs {x : V} {u : Value} (r : RelV x u) : absV u = some x := by
  cases x with
  | non => cases r; rfl
  | bl _ => cases r; rfl
  | int _ => obtain ⟨t, rfl⟩ := r; rfl
  | str _ => obtain ⟨t, rfl⟩ := r; rfl
  | byt _ => obtain ⟨t, rfl⟩ := r; rfl
  | flt _ => obtain ⟨t, rfl⟩ := r; rfl
  | ref _ => cases r; rfl
  | ty _ => cases r; rfl
theorem RelV.inj {x y : V} {u : Value} (r : RelV x u) (q : RelV y u) : x = y := Option.some.inj (r.abs.symm.trans q.abs)
theorem Vals.inj : ∀ {xs ys : List V} {us : List Value}, Vals xs us → Vals ys us → xs = ys
  | _, _, _, .nil, .nil => rfl
  | _, _, _, .cons r t, .cons r' t' => by rw [r.inj r', Vals.inj t t']
section
variable {X : Cx} {pins : List (Addr × Obj)} {σ : St} {H : Hp} {s : Shared} {a : Addr} {xs ys : List V}
theorem SqL.of {K : PySem.W.Frag} (h : H a = some (.lst xs)) : SqL K H a xs := .inl (.inl h)
theorem SqT.of {K : PySem.W.Frag} (h : H a = some (.tup xs)) : SqT K H a xs := .inl (.inl h)
theorem Inv.list (I : Inv X pins σ H s) (h : SqL X.K H a xs) : ∃ its : List Value, Vals xs its ∧ PlainL s.heap a its.toArray ∧ xs.length ≤ sizeLine := by
  rcases h with h | ⟨o, its, n, hk, hc, hd, hs, hz, r⟩
  · obtain ⟨z, its, n, r, e⟩ := h.ok I.hok
    exact ⟨its, r, ⟨_, n, e, rfl, rfl, rfl⟩, z⟩
  · refine ⟨its.toList, r, ⟨o, n, I.kIn a o hk, hc, hd, by simpa using hs⟩, ?_⟩
    have e := r.length
    simp only [Array.length_toList] at e
    omega
theorem Inv.tuple (I : Inv X pins σ H s) (h : SqT X.K H a xs) : ∃ its : List Value, Vals xs its ∧ IsTup s.heap a its.toArray ∧ xs.length ≤ sizeLine := by
  rcases h with h | ⟨o, its, n, hk, hc, hs, hz, r⟩
  · obtain ⟨z, its, r, p⟩ := h.ok I.hok
    exact ⟨its, r, p, z⟩
  · refine ⟨its.toList, r, ⟨o, I.kIn a o hk, hc, n, by simpa using hs⟩, ?_⟩
    have e := r.length
    simp only [Array.length_toList] at e
    omega
theorem Inv.list_inj (I : Inv X pins σ H s) (h : SqL X.K H a xs) (h' : SqL X.K H a ys) : xs = ys := by
  obtain ⟨its, r, ⟨o, n, e, _, _, d⟩, _⟩ := I.list h
  obtain ⟨its', r', ⟨o', n', e', _, _, d'⟩, _⟩ := I.list h'
  rw [e] at e'; cases e'
  rw [d] at d'
  injection d' with d1 _
  have : its = its' := by simpa using congrArg Array.toList d1
  subst this
  exact r.inj r'
theorem Inv.tuple_inj (I : Inv X pins σ H s) (h : SqT X.K H a xs) (h' : SqT X.K H a ys) : xs = ys := by
  obtain ⟨its, r, ⟨o, e, _, n, d⟩, _⟩ := I.tuple h
  obtain ⟨its', r', ⟨o', e', _, n', d'⟩, _⟩ := I.tuple h'
  rw [e] at e'; cases e'
  rw [d] at d'
  injection d' with d1 _
  have : its = its' := by simpa using congrArg Array.toList d1
  subst this
  exact r.inj r'
end

/-! ### another wish about exceptions -/
abbrev Cx.wish (X : Cx) (E : Value → Shared → Prop) : Cx := { X with xe := E }
/-- no exception leaves -/
abbrev Cx.nox (X : Cx) : Cx := X.wish fun _ _ => False
theorem Cx.Ok.wish {X : Cx} (ok : X.Ok) (E : Value → Shared → Prop) : (X.wish E).Ok :=
  ⟨ok.mod, ok.kind, ok.glob, ok.blt, ok.above, ok.inj, ok.has, ok.cab, ok.hd, ok.frames, ok.stk, ok.exf, ok.bs, ok.bsz, ok.noex, ok.exfs, ok.funs, ok.frf⟩
theorem Cx.Ok.unwish {X : Cx} {E : Value → Shared → Prop} (ok : (X.wish E).Ok) : X.Ok :=
  ⟨ok.mod, ok.kind, ok.glob, ok.blt, ok.above, ok.inj, ok.has, ok.cab, ok.hd, ok.frames, ok.stk, ok.exf, ok.bs, ok.bsz, ok.noex, ok.exfs, ok.funs, ok.frf⟩
section
variable {X : Cx} {pins : List (Addr × Obj)} {σ : St} {H : Hp} {s : Shared} {E : Value → Shared → Prop}
theorem Inv.wish (I : Inv X pins σ H s) (E : Value → Shared → Prop) : Inv (X.wish E) pins σ H s := ⟨I.ok.wish E, I.os, I.bare, I.base, I.loc, I.cell, I.free, I.freeC, I.pin, I.hok, I.len⟩
theorem Inv.unwish (I : Inv (X.wish E) pins σ H s) : Inv X pins σ H s := ⟨I.ok.unwish, I.os, I.bare, I.base, I.loc, I.cell, I.free, I.freeC, I.pin, I.hok, I.len⟩
theorem SP.unwish {D : Ends} {f : Flow} {s' : Shared} (h : SP (X.wish E) pins D f s') : SP X pins D f s' := by
  cases f with
  | next => obtain ⟨σ', H', I, q⟩ := h; exact ⟨σ', H', I.unwish, q⟩
  | brk => obtain ⟨σ', H', I, q⟩ := h; exact ⟨σ', H', I.unwish, q⟩
  | cont => obtain ⟨σ', H', I, q⟩ := h; exact ⟨σ', H', I.unwish, q⟩
  | ret u => obtain ⟨v, σ', H', I, r, q⟩ := h; exact ⟨v, σ', H', I.unwish, r, q⟩
theorem PE.nox {e : Expr} {t : TE} (h : PE X.nox e t) : PE X e t := fun pins s σ H Q I hw =>
  wpAny_mono (h pins s σ H Q (I.wish _) hw) (fun _ _ ⟨v, H', I', r, q⟩ => ⟨v, H', I'.unwish, r, q⟩) fun _ _ z => False.elim z
theorem PT.nox {e : Expr} {t : TT} (h : PT X.nox e t) : PT X e t := fun pins s σ H Q I hw =>
  wpAny_mono (h pins s σ H Q (I.wish _) hw) (fun _ _ ⟨H', I', q⟩ => ⟨H', I'.unwish, q⟩) fun _ _ z => False.elim z
theorem PSs.nox {st : List Stmt} {t : TS} (h : PSs X.nox st t) : PSs X st t := fun pins s σ H D I hw =>
  wpAny_mono (h pins s σ H D (I.wish _) hw) (fun _ _ q => q.unwish) fun _ _ z => False.elim z
end

/-! ### blocks and small statements -/
section
variable {X : Cx} {st : Stmt} {rest : List Stmt} {t u : TS} {e : Expr} {te : TE} {pos : Pos}
def tNext : TS := fun D σ H => D.nx σ H
def tSeq (t u : TS) : TS := fun D σ H => t { D with nx := u D } σ H
theorem pss_nil : PSs X [] tNext := fun _ _ σ H _ I h => wpAny_execs_nil ⟨σ, H, I, h⟩
theorem pss_cons (h1 : PS X st t) (h2 : PSs X rest u) : PSs X (st :: rest) (tSeq t u) := by
  intro pins s σ H D I h
  refine wpAny_execs_cons (thn (h1 pins s σ H { D with nx := u D } I h) fun f s1 q => ?_)
  cases f with
  | next =>
    obtain ⟨σ', H', I', q⟩ := q
    exact h2 pins s1 σ' H' D I' q
  | ret v => exact q
  | brk => exact q
  | cont => exact q
theorem pss_one (h1 : PS X st t) : PSs X [st] t := by
  intro pins s σ H D I h
  refine wpAny_execs_cons (thn (h1 pins s σ H D I h) fun f s1 q => ?_)
  cases f with
  | next => exact wpAny_execs_nil q
  | ret v => exact q
  | brk => exact q
  | cont => exact q
def tBreak : TS := fun D σ H => D.bk σ H
def tCont : TS := fun D σ H => D.ct σ H
/-- in a def's body nothing is shown -/
theorem Inv.quiet {pins : List (Addr × Obj)} {σ : St} {H : Hp} {s : Shared} (I : Inv X pins σ H s) : interactive X.env = false := by simp [interactive, I.ok.kind]
/-- an expression whose value is dropped -/
def tDrop (te : TE) : TS := fun D σ H => te σ H fun _ H1 => D.nx σ H1
theorem ps_expr (he : PE X e te) (hs : swapsWith e none pos.line X.env = pure false := by rfl) : PS X (.Expr e pos) (tDrop te) := by
  intro pins s σ H D I h
  exact wpAny_Expr_any (thn (he pins s σ H _ I h) fun v s1 ⟨x, H1, I1, r1, q1⟩ => ⟨σ, H1, I1, q1⟩) I.quiet hs
def tRet (te : TE) : TS := fun D σ H => te σ H D.rt
theorem ps_ret (he : PE X e te) : PS X (.Return (some e) pos) (tRet te) := by
  intro pins s σ H D I h
  exact wpAny_Return_some (thn (he pins s σ H _ I h) fun v s1 ⟨x, H1, I1, r1, q1⟩ => ⟨x, σ, H1, I1, r1, q1⟩)
def tRetN : TS := fun D _ H => D.rt .non H
def tIfS (c : TT) (t u : TS) : TS := fun D σ H => c σ H fun b H1 => if b = true then t D σ H1 else u D σ H1
theorem ps_if {c : Expr} {a b : List Stmt} {tc : TT} (hc : PT X c tc) (ha : PSs X a t) (hb : PSs X b u) : PS X (.If c a b pos) (tIfS tc t u) := by
  intro pins s σ H D I h
  refine wpAny_If (thn (hc pins s σ H _ I h) fun d s1 ⟨H1, I1, q1⟩ => ?_)
  cases d with
  | true => exact ha pins s1 σ H1 D I1 q1
  | false => exact hb pins s1 σ H1 D I1 q1
/-- code that the proof never comes to -/
def tNever : TS := fun _ _ _ => False
theorem pss_never {sts : List Stmt} : PSs X sts tNever := fun _ _ _ _ _ _ h => h.elim
end

/-! ### targets -/
abbrev TG := V → St → Hp → (St → Hp → Prop) → Prop
abbrev TGs := List V → St → Hp → (St → Hp → Prop) → Prop
def PG (X : Cx) (target : Expr) (t : TG) : Prop :=
  ∀ (pins : List (Addr × Obj)) (s : Shared) (σ : St) (H : Hp) (v : V) (u : Value) (Q : St → Hp → Prop), Inv X pins σ H s → RelV v u → t v σ H Q →
    wpAny (model X.prog X.w) X.A (assign target X.env u) (fun _ s' => ∃ σ' H', Inv X pins σ' H' s' ∧ Q σ' H') X.xe s
/-- several targets, one after another -/
def PGs (X : Cx) (ts : List Expr) (t : TGs) : Prop :=
  ∀ (pins : List (Addr × Obj)) (s : Shared) (σ : St) (H : Hp) (vs : List V) (us : List Value) (Q : St → Hp → Prop), Inv X pins σ H s → Vals vs us → t vs σ H Q →
    wpAny (model X.prog X.w) X.A (assignInOrder ((assignEach ts X.env).map (·.2)) us) (fun _ s' => ∃ σ' H', Inv X pins σ' H' s' ∧ Q σ' H') X.xe s
/-- o[i] = v, by values -/
abbrev TSet := V → V → V → Hp → (Hp → Prop) → Prop
def PSet (X : Cx) (t : TSet) : Prop :=
  ∀ (pins : List (Addr × Obj)) (s : Shared) (σ : St) (H : Hp) (o i v : V) (ov iv u : Value) (Q : Hp → Prop), Inv X pins σ H s → RelV o ov → RelV i iv → RelV v u → t o i v H Q →
    wpAny (model X.prog X.w) X.A (setItem ov iv u) (fun _ s' => ∃ H', Inv X pins σ H' s' ∧ Q H') X.xe s
/-- a op= b, by values -/
abbrev TIp := V → V → Hp → VK → Prop
def PIp (X : Cx) (op : Operator) (t : TIp) : Prop :=
  ∀ (pins : List (Addr × Obj)) (s : Shared) (σ : St) (H : Hp) (x y : V) (v u : Value) (Q : VK), Inv X pins σ H s → RelV x v → RelV y u → t x y H Q →
    wpAny (model X.prog X.w) X.A (inplaceOp op v u) (EP X pins σ Q) X.xe s
section
variable {X : Cx} {pos : Pos}
def gName (i : Nat) : TG := fun v σ H Q => Q (σ.set i (some v)) H
theorem pg_name {i : Nat} {x : Str} (hN : X.N.Nodup) (hi : X.N[i]? = some x) (hx : Loc X.env.scope x) (hf : X.fn x = true ∨ X.env.scope.names.lookup x = some .local := by first | exact .inl rfl | exact .inr rfl | assumption) : PG X (.Name x pos) (gName i) := by
  intro pins s σ H v u Q I r h
  exact wpAny_assign_Name (store_ok I hN hi hx r (fun s' I' => ⟨_, H, I', h⟩) hf)
def gNil : TGs := fun vs σ H Q => vs = [] ∧ Q σ H
def gCons (t : TG) (u : TGs) : TGs := fun vs σ H Q => ∃ v r, vs = v :: r ∧ t v σ H fun σ' H' => u r σ' H' Q
theorem pgs_nil : PGs X [] gNil := by
  intro pins s σ H vs us Q I r h
  obtain ⟨e, h⟩ := h
  subst e
  cases r
  exact assignInOrder_nil ⟨σ, H, I, h⟩
theorem pgs_cons {e : Expr} {es : List Expr} {t : TG} {u : TGs} (h1 : PG X e t) (h2 : PGs X es u)
    (hs : (assignEach (e :: es) X.env).map (·.2) = assign e X.env :: (assignEach es X.env).map (·.2) := by rfl) : PGs X (e :: es) (gCons t u) := by
  intro pins s σ H vs us Q I r h
  obtain ⟨v, vr, e1, h⟩ := h
  subst e1
  cases r with
  | cons r rr =>
    rw [hs]
    refine assignInOrder_cons (thn (h1 pins s σ H _ _ _ I r h) fun _ s1 ⟨σ1, H1, I1, q1⟩ => ?_)
    exact h2 pins s1 σ1 H1 _ _ Q I1 rr q1
/-- (a, b, ..) = a tuple of that length -/
def gTup (K : PySem.W.Frag) (n : Nat) (t : TGs) : TG := fun v σ H Q => ∃ a xs, v = .ref a ∧ SqT K H a xs ∧ xs.length = n ∧ t xs σ H Q
/-- o[i] = .. -/
def gSub (to ti : TE) (t : TSet) : TG := fun v σ H Q => to σ H fun o H1 => ti σ H1 fun i H2 => t o i v H2 fun H3 => Q σ H3
/-- target = value -/
def tAsg (te : TE) (g : TG) : TS := fun D σ H => te σ H fun x H1 => g x σ H1 D.nx
theorem ps_asg {tg e : Expr} {te : TE} {g : TG} (he : PE X e te) (hg : PG X tg g) (hs : swapsWithSole [tg] e pos.line X.env = pure false := by rfl) (hw : swappedStores [tg] e X.env = pure none := by rfl)
    (h1 : (assignEach [tg] X.env).map (·.2) = [assign tg X.env] := by rfl) : PS X (.Assign [tg] e pos) (tAsg te g) := by
  intro pins s σ H D I h
  refine wpAny_Assign_stores (thn (he pins s σ H _ I h) fun v s1 ⟨x, H1, I1, r1, q1⟩ => ?_) hs hw
  rw [h1]
  exact thn (hg pins s1 σ H1 x v _ I1 r1 q1) fun _ s2 q => q
/-- name = value -/
theorem ps_set {i : Nat} {x : Str} {e : Expr} {te : TE} {pos' : Pos} (hN : X.N.Nodup) (hi : X.N[i]? = some x) (hx : Loc X.env.scope x) (he : PE X e te) (hs : swapsWith e (some (.Name x pos')) pos.line X.env = pure false := by rfl) (hf : X.fn x = true ∨ X.env.scope.names.lookup x = some .local := by first | exact .inl rfl | exact .inr rfl | assumption) :
    PS X (.Assign [.Name x pos'] e pos) (tAsg te (gName i)) := by
  intro pins s σ H D I h
  refine wpAny_Assign_Name (thn (he pins s σ H _ I h) fun v s1 ⟨y, H1, I1, r1, q1⟩ => ?_) hs
  exact store_ok I1 hN hi hx r1 (fun s2 I2 => ⟨_, H1, I2, q1⟩) hf
/-- a, b = x, y with plain local names: stored from the right; the pair itself is not tracked (the opening rows as in PyProof/Rows/TupAssign.lean:23) -/
def tPar (i j : Nat) (ta : TA) : TS := fun D σ H => ta σ H fun vs H1 => ∃ v w, vs = [v, w] ∧ D.nx ((σ.set i (some v)).set j (some w)) H1
/-- name op= e -/
def tAug (i : Nat) (te : TE) (ti : TIp) : TS := fun D σ H => ∃ x, σ[i]? = some (some x) ∧ te σ H fun y H1 => ti x y H1 fun z H2 => D.nx (σ.set i (some z)) H2
/-- o[i] op= e -/
def tAugS (to ti te : TE) (tget : V → V → Hp → VK → Prop) (tip : TIp) (tset : TSet) : TS := fun D σ H => to σ H fun o H1 => ti σ H1 fun i H2 => tget o i H2 fun x H3 => te σ H3 fun y H4 => tip x y H4 fun z H5 => tset o i z H5 fun H6 => D.nx σ H6
/-- o[i], by values -/
def PGet (X : Cx) (t : V → V → Hp → VK → Prop) : Prop :=
  ∀ (pins : List (Addr × Obj)) (s : Shared) (σ : St) (H : Hp) (o i : V) (ov iv : Value) (Q : VK), Inv X pins σ H s → RelV o ov → RelV i iv → t o i H Q →
    wpAny (model X.prog X.w) X.A (getItem ov iv) (EP X pins σ Q) X.xe s
/-- ints -/
def ipI (f : Int → Int → Int) : TIp := fun x y H Q => ∃ i j, x = .int i ∧ y = .int j ∧ Q (.int (f i j)) H
end

/-! ### while -/
section
variable {X : Cx} {pos : Pos}
/-- the invariant W with its measure -/
def tWhile (c : TT) (tb : TS) : TS := fun D σ H => ∃ W : Nat → St → Hp → Prop, (∃ m, W m σ H) ∧ ∀ m σ H, W m σ H →
  c σ H fun b H1 => if b = true then ∃ N : St → Hp → Prop, (∀ σ' H', N σ' H' → ∃ m', m' < m ∧ W m' σ' H') ∧ tb { D with nx := N, ct := N, bk := D.nx } σ H1 else D.nx σ H1
theorem ps_while {c : Expr} {body : List Stmt} {tc : TT} {tb : TS} (hp : PassesOwn (model X.prog X.w) X.A X.env X.xe) (hc : PT X c tc) (hb : PSs X body tb) : PS X (.While c body [] pos) (tWhile tc tb) := by
  intro pins s σ H D I h
  obtain ⟨W, ⟨m0, w0⟩, turn⟩ := h
  refine wpAny_While (codeAny_whileLoop (fun n s' => ∃ σ' H', Inv X pins σ' H' s' ∧ W n σ' H') ?_ m0 ⟨σ, H, I, w0⟩)
  rintro n s1 ⟨σ1, H1, I1, w1⟩
  refine wpAny_passesOwn hp (thn (hc pins s1 σ1 H1 _ I1 (turn n σ1 H1 w1)) fun b s2 ⟨H2, I2, q2⟩ => ?_)
  cases b with
  | true =>
    obtain ⟨N, hN, q2⟩ := q2
    rw [if_pos rfl]
    refine wpAny_passesOwn hp (thn (hb pins s2 σ1 H2 _ I2 q2) fun f s3 q3 => ?_)
    cases f with
    | next =>
      obtain ⟨σ3, H3, I3, n3⟩ := q3
      obtain ⟨m', hm, w3⟩ := hN σ3 H3 n3
      exact ⟨m', hm, σ3, H3, I3, w3⟩
    | cont =>
      obtain ⟨σ3, H3, I3, n3⟩ := q3
      obtain ⟨m', hm, w3⟩ := hN σ3 H3 n3
      exact ⟨m', hm, σ3, H3, I3, w3⟩
    | brk => exact q3
    | ret v => exact q3
  | false =>
    rw [if_neg Bool.false_ne_true]
    exact wpAny_execs_nil ⟨σ1, H2, I2, q2⟩
end

/-! ### what a loop or a comprehension walks -/
/-- at turn i: it yields x (the heap may grow), or it stops -/
structure It where
  go : Nat → Hp → Prop
  yld : Nat → Hp → V → Hp → Prop
  stop : Nat → Hp → Prop
/-- the iterator's own objects may turn: they are not the frame's, not pinned, younger than the entry (or a comprehension's own) -/
def FpOk (X : Cx) (pins : List (Addr × Obj)) (H : Hp) (b : Addr) : Prop :=
  H b = none ∧ b ≠ X.env.locals ∧ b ∉ X.fs ∧ (b ∈ X.ex ∨ X.s₀.heap.objs.size ≤ b) ∧ (∀ x c, X.env.cells.lookup x = some c → c ≠ b) ∧ ∀ p ∈ X.pn ++ pins, p.1 ≠ b
theorem Inv.fpOk {X : Cx} {pins : List (Addr × Obj)} {σ : St} {H H' : Hp} {s : Shared} {b : Addr} (I : Inv X pins σ H s) (hb : s.heap.objs.size ≤ b) (hn : H' b = none) : FpOk X pins H' b := by
  refine ⟨hn, Nat.ne_of_gt (Nat.lt_of_lt_of_le I.lt hb), I.nofs hb, .inr (Nat.le_trans I.sz hb), fun x c e z => ?_, fun p hp z => ?_⟩
  · obtain ⟨v, q⟩ := I.cell x c e
    exact absurd (Nat.lt_of_lt_of_le q.lt (by rw [z]; exact hb)) (Nat.lt_irrefl _)
  · exact absurd (Nat.lt_of_lt_of_le (Heap.lt_size (I.pin p hp).1) (by rw [z]; exact hb)) (Nat.lt_irrefl _)
structure Turn (P : Program) (w : World) (K : PySem.W.Frag) (tg : Expr) (J : It) (fp : List Addr) (it : Addr) (tn : Nat → Heap → Prop) : Prop where
  mem : it ∈ fp
  obj : ∀ i h, tn i h → ∀ b ∈ fp, ∃ o, h.get? b = some o ∧ ∀ v, o.data ≠ .cell v
  keep : ∀ i h h', tn i h → (∀ b ∈ fp, ∀ o, h.get? b = some o → h'.get? b = some o) → tn i h'
  item : ∀ (X : Cx), X.prog = P → X.w = w → X.K = K → X.calm = true → ∀ (i : Nat) (pins : List (Addr × Obj)) (s : Shared) (σ : St) (H : Hp) (E : Value → Shared → Prop), Inv X pins σ H s → (∀ b ∈ fp, FpOk X pins H b) → tn i s.heap → J.go i H →
    wpAny (model P w) X.A (pyNext (.ref it)) (fun r s1 => ∃ u, r = some u ∧
      wpAny (model P w) X.A (letOwnedTupleGo tg (.ref it) u) (fun _ s2 => ∃ x H', Inv X pins σ H' s2 ∧ RelV x u ∧ J.yld i H x H' ∧ tn (i + 1) s2.heap ∧ ∀ b ∈ fp, H' b = none) E s1) E s
  done : ∀ (X : Cx), X.prog = P → X.w = w → X.K = K → X.calm = true → ∀ (i : Nat) (pins : List (Addr × Obj)) (s : Shared) (σ : St) (H : Hp) (E : Value → Shared → Prop), Inv X pins σ H s → (∀ b ∈ fp, FpOk X pins H b) → tn i s.heap → J.stop i H →
    wpAny (model P w) X.A (pyNext (.ref it)) (fun r s1 => r = none ∧ Inv X pins σ H s1) E s
  self : ∀ (A : Around) (i : Nat) (s : Shared) (Q : Value → Shared → Prop) (E : Value → Shared → Prop), tn i s.heap → Q (.ref it) s → wpAny (model P w) A (pyIter (.ref it)) Q E s
abbrev TI := St → Hp → (It → Hp → Prop) → Prop
/-- an iterator has come -/
def PIE (X : Cx) (pins : List (Addr × Obj)) (σ : St) (tg : Expr) (R : It → Hp → Prop) (itv : Value) (s2 : Shared) : Prop :=
  ∃ (it : Addr) (fp : List Addr) (tn : Nat → Heap → Prop) (J : It) (H' : Hp), itv = .ref it ∧ Inv X pins σ H' s2 ∧ Turn X.prog X.w X.K tg J fp it tn ∧ tn 0 s2.heap ∧ (∀ b ∈ fp, FpOk X pins H' b) ∧ R J H'
def PI (X : Cx) (tg iter : Expr) (wi : TI) : Prop :=
  ∀ (pins : List (Addr × Obj)) (s : Shared) (σ : St) (H : Hp) (R : It → Hp → Prop), Inv X pins σ H s → wi σ H R →
    wpAny (model X.prog X.w) X.A (eval iter X.env) (fun v s1 => wpAny (model X.prog X.w) X.A (pyIter v) (PIE X pins σ tg R) X.xe s1) X.xe s

/-- the step ahead of the store is nothing for an iterator that keeps no tuple -/
theorem go_of {M : Model} {A : Around} {E : Value → Shared → Prop} {s : Shared} {tg : Expr} {it : Addr} {u : Value} {o : Obj} {n : String} {vs : Array Value} {Q : Unit → Shared → Prop} (ho : s.heap.get? it = some o) (hc : o.cls = .type n) (hd : o.data = .fields vs)
    (hn : ["enumerate", "zip", "dict_itemiterator", "dict_reverseitemiterator", "odict_iterator", "itertools.zip_longest", "itertools.pairwise"].contains n = false) (hQ : Q () s) : wpAny M A (letOwnedTupleGo tg (.ref it) u) Q E s := by
  unfold letOwnedTupleGo
  cases tg <;> first
    | exact wpAny_pure hQ
    | (cases u <;> first
        | exact wpAny_pure hQ
        | (refine wpAny_bind (wpAny_load ho ?_)
           rw [hc, hd]
           show wpAny M A (if (["enumerate", "zip", "dict_itemiterator", "dict_reverseitemiterator", "odict_iterator", "itertools.zip_longest", "itertools.pairwise"].contains n && vs[0]? == some (rawInt _)) = true then _ else _) Q E s
           rw [if_neg (by intro h; rw [hn, Bool.false_and] at h; cases h)]
           exact wpAny_pure hQ))

/-- the list at a, as it stands at each turn (a loop may append to it) -/
def Itl (K : PySem.W.Frag) (a : Addr) : It :=
  ⟨fun i H => ∃ xs x, SqL K H a xs ∧ xs[i]? = some x, fun i H x H' => H' = H ∧ ∀ xs, SqL K H a xs → xs[i]? = some x, fun i H => ∃ xs, SqL K H a xs ∧ xs.length ≤ i⟩
def Itt (K : PySem.W.Frag) (a : Addr) : It :=
  ⟨fun i H => ∃ xs x, SqT K H a xs ∧ xs[i]? = some x, fun i H x H' => H' = H ∧ ∀ xs, SqT K H a xs → xs[i]? = some x, fun i H => ∃ xs, SqT K H a xs ∧ xs.length ≤ i⟩
/-- lo, lo + 1, .. (n of them) -/
def Itr (lo : Int) (n : Nat) : It := ⟨fun i _ => i < n, fun i H x H' => H' = H ∧ x = .int (lo + i), fun i _ => n ≤ i⟩
theorem turn_list {P : Program} {w : World} {K : PySem.W.Frag} {tg : Expr} (a it : Addr) : Turn P w K tg (Itl K a) [it] it (fun i h => h.IsListIter it a i) where
  mem := by simp
  obj := fun i h st b hb => by
    have e : b = it := by simpa using hb
    subst e
    obtain ⟨o, e, c, d⟩ := st
    exact ⟨o, e, fun v z => by rw [d] at z; cases z⟩
  keep := fun i h h' st k => st.at fun o e => k it (by simp) o e
  item := by
    intro X hP hw hK hc i pins s σ H E I hf st hg
    subst hP hw hK
    obtain ⟨xs, x, hq, hx⟩ := hg
    obtain ⟨its, rv, p, hz⟩ := I.list hq
    obtain ⟨u, hu, ru⟩ := rv.get hx
    obtain ⟨f0, f1, f2, f3, f4, f5⟩ := hf it (by simp)
    refine wpAny_pyNext_list_item st p.isList (x := u) (by simpa using hu) fun h' st' sb => ?_
    have I1 : Inv X pins σ H { s with heap := h' } := I.turned (t' := s.toks) (fun b o hb e => (sb.2 b hb).trans e) f0 f1 f3 f4 f5
    obtain ⟨o, e, c, d⟩ := id st'
    exact ⟨u, rfl, go_of (s := { s with heap := h' }) e c d (by decide) ⟨x, H, I1, ru, ⟨rfl, fun ys hy => by rw [I.list_inj hy hq]; exact hx⟩, st', fun b hb => (hf b hb).1⟩⟩
  done := by
    intro X hP hw hK hc i pins s σ H E I hf st hg
    subst hP hw hK
    obtain ⟨xs, hq, hx⟩ := hg
    obtain ⟨its, rv, p, hz⟩ := I.list hq
    obtain ⟨f0, f1, f2, f3, f4, f5⟩ := hf it (by simp)
    have hl := rv.length
    exact wpAny_pyNext_list_end (I.ok.hd hc) st p.isList (by simp; omega) fun h' eb => ⟨rfl, I.turned (t' := s.toks) (fun b o hb e => eb b o hb e) f0 f1 f3 f4 f5⟩
  self := fun _ _ _ _ _ st h => wpAny_pyIter_listiter st h
theorem turn_tuple {P : Program} {w : World} {K : PySem.W.Frag} {tg : Expr} (a it : Addr) : Turn P w K tg (Itt K a) [it] it (fun i h => h.IsTupleIter it a i) where
  mem := by simp
  obj := fun i h st b hb => by
    have e : b = it := by simpa using hb
    subst e
    obtain ⟨o, e, c, d⟩ := st
    exact ⟨o, e, fun v z => by rw [d] at z; cases z⟩
  keep := fun i h h' st k => st.at fun o e => k it (by simp) o e
  item := by
    intro X hP hw hK hc i pins s σ H E I hf st hg
    subst hP hw hK
    obtain ⟨xs, x, hq, hx⟩ := hg
    obtain ⟨its, rv, p, hz⟩ := I.tuple hq
    obtain ⟨u, hu, ru⟩ := rv.get hx
    obtain ⟨f0, f1, f2, f3, f4, f5⟩ := hf it (by simp)
    refine wpAny_pyNext_tuple_item st (show s.heap.IsTuple a its.toArray from p) (x := u) (by simpa using hu) fun h' st' sb => ?_
    have I1 : Inv X pins σ H { s with heap := h' } := I.turned (t' := s.toks) (fun b o hb e => (sb.2 b hb).trans e) f0 f1 f3 f4 f5
    obtain ⟨o, e, c, d⟩ := id st'
    exact ⟨u, rfl, go_of (s := { s with heap := h' }) e c d (by decide) ⟨x, H, I1, ru, ⟨rfl, fun ys hy => by rw [I.tuple_inj hy hq]; exact hx⟩, st', fun b hb => (hf b hb).1⟩⟩
  done := by
    intro X hP hw hK hc i pins s σ H E I hf st hg
    subst hP hw hK
    obtain ⟨xs, hq, hx⟩ := hg
    obtain ⟨its, rv, p, hz⟩ := I.tuple hq
    obtain ⟨f0, f1, f2, f3, f4, f5⟩ := hf it (by simp)
    have hl := rv.length
    exact wpAny_pyNext_tuple_end (I.ok.hd hc) st (show s.heap.IsTuple a its.toArray from p) (by simp; omega) fun h' eb => ⟨rfl, I.turned (t' := s.toks) (fun b o hb e => eb b o hb e) f0 f1 f3 f4 f5⟩
  self := fun _ _ _ _ _ st h => wpAny_pyIter_tupleiter st h
theorem turn_range {P : Program} {w : World} {K : PySem.W.Frag} {tg : Expr} (it : Addr) (lo : Int) (n : Nat) : Turn P w K tg (Itr lo n) [it] it (fun i h => IsRangeIter h it (lo + (i : Nat) * 1) ((n : Int) - (i : Nat)) 1) where
  mem := by simp
  obj := fun i h st b hb => by
    have e : b = it := by simpa using hb
    subst e
    exact ⟨_, st, fun v z => by
      have z' : Data.fields _ = Data.cell v := z
      cases z'⟩
  keep := fun i h h' st k => k it (by simp) _ st
  item := by
    intro X hP hw hK hc i pins s σ H E I hf st hg
    subst hP hw hK
    obtain ⟨f0, f1, f2, f3, f4, f5⟩ := hf it (by simp)
    have W := Walks.range (prog := X.prog) (w := X.w) (I.ok.hd hc) it lo 1 n
    refine W.item i s _ _ hg st fun v h' tk hv st' kk => ?_
    obtain ⟨t, rfl⟩ := hv
    have I1 : Inv X pins σ H { s with heap := h', toks := tk } := I.turned (fun b o hb e => kk b o (by simpa using hb) e) f0 f1 f3 f4 f5
    refine ⟨_, rfl, go_of (s := { s with heap := h', toks := tk }) (n := "range_iterator") st' rfl rfl (by decide) ⟨.int (lo + i), H, I1, ⟨t, ?_⟩, ⟨rfl, rfl⟩, st', fun b hb => (hf b hb).1⟩⟩
    rw [Int.mul_one]
  done := by
    intro X hP hw hK hc i pins s σ H E I hf st hg
    subst hP hw hK
    obtain ⟨f0, f1, f2, f3, f4, f5⟩ := hf it (by simp)
    exact wpAny_pyNext_range_end (I.ok.hd hc) st (by have : n ≤ i := hg; omega) fun h' eb => ⟨rfl, I.turned (t' := s.toks) (fun b o hb e => eb b o hb e) f0 f1 f3 f4 f5⟩
  self := fun _ _ _ _ _ st h => wpAny_pyIter_rangeiter st h
end L2

namespace L2
open PySem PySem.Spec PyProof.Rows
section
variable {X : Cx} {tg : Expr}
def iList (K : PySem.W.Frag) (tl : TE) : TI := fun σ H R => tl σ H fun x H1 => ∃ a, x = .ref a ∧ (∃ xs, SqL K H1 a xs) ∧ R (Itl K a) H1
def iTup (K : PySem.W.Frag) (tl : TE) : TI := fun σ H R => tl σ H fun x H1 => ∃ a, x = .ref a ∧ (∃ xs, SqT K H1 a xs) ∧ R (Itt K a) H1
theorem pi_list {l : Expr} {tl : TE} (hl : PE X l tl) : PI X tg l (iList X.K tl) := by
  intro pins s σ H R I h
  refine thn (hl pins s σ H _ I h) fun v s1 ⟨x, H1, I1, r1, q1⟩ => ?_
  obtain ⟨a, e, ⟨xs, hq⟩, q⟩ := q1
  subst e
  cases r1
  obtain ⟨its, rv, p, hz⟩ := I1.list hq
  refine wpAny_pyIter_list p.isList ?_
  refine ⟨s1.heap.objs.size, [s1.heap.objs.size], _, _, H1, rfl, I1.kept (t' := s1.toks) fun b o e => Heap.get?_push_of_some _ e, turn_list a _, ⟨_, Heap.get?_push_size _ rfl, rfl, rfl⟩, fun b hb => ?_, q⟩
  have e : b = s1.heap.objs.size := by simpa using hb
  subst e
  exact I1.fpOk (Nat.le_refl _) (I1.hok.fresh (Nat.le_refl _))
theorem pi_tup {l : Expr} {tl : TE} (hl : PE X l tl) : PI X tg l (iTup X.K tl) := by
  intro pins s σ H R I h
  refine thn (hl pins s σ H _ I h) fun v s1 ⟨x, H1, I1, r1, q1⟩ => ?_
  obtain ⟨a, e, ⟨xs, hq⟩, q⟩ := q1
  subst e
  cases r1
  obtain ⟨its, rv, p, hz⟩ := I1.tuple hq
  refine wpAny_pyIter_tuple (show s1.heap.IsTuple a its.toArray from p) ?_
  refine ⟨s1.heap.objs.size, [s1.heap.objs.size], _, _, H1, rfl, I1.kept (t' := s1.toks) fun b o e => Heap.get?_push_of_some _ e, turn_tuple a _, ⟨_, Heap.get?_push_size _ rfl, rfl, rfl⟩, fun b hb => ?_, q⟩
  have e : b = s1.heap.objs.size := by simpa using hb
  subst e
  exact I1.fpOk (Nat.le_refl _) (I1.hok.fresh (Nat.le_refl _))
/-- a range object just made, walked -/
theorem range_it {pins : List (Addr × Obj)} {σ : St} {H : Hp} {s : Shared} {R : It → Hp → Prop} {E : Value → Shared → Prop} {lo hi : Int} {t u v : Tok} {tk : Nat} (I : Inv X pins σ H s) (h1 : -(2 ^ 62) ≤ lo) (h2 : lo < 2 ^ 62) (h3 : -(2 ^ 62) ≤ hi) (h4 : hi < 2 ^ 62)
    (q : R (Itr lo (hi - lo).toNat) H) : wpAny (model X.prog X.w) X.A (pyIter (.ref s.heap.objs.size)) (PIE X pins σ tg R) E { s with heap := s.heap.push { cls := .type "range", data := .fields #[.int lo t, .int hi u, .int 1 v] }, toks := tk } := by
  refine wpAny_pyIter_range (IsRange.new ..) (small_one h1 h2 h3 h4) ?_
  have I1 : Inv X pins σ H { s with heap := s.heap.push { cls := .type "range", data := .fields #[.int lo t, .int hi u, .int 1 v] }, toks := tk } := I.kept fun b o e => Heap.get?_push_of_some _ e
  refine ⟨(s.heap.push { cls := .type "range", data := .fields #[.int lo t, .int hi u, .int 1 v] }).objs.size, [(s.heap.push { cls := .type "range", data := .fields #[.int lo t, .int hi u, .int 1 v] }).objs.size], _, _, H, rfl,
    I1.kept (t' := tk) fun b o e => Heap.get?_push_of_some _ e, turn_range _ lo (hi - lo).toNat, ?_, fun b hb => ?_, q⟩
  · have e1 : lo + ((0 : Nat) : Int) * 1 = lo := by simp
    have e2 : (((hi - lo).toNat : Nat) : Int) - ((0 : Nat) : Int) = Builtin.Range.rangeSize lo hi 1 := by rw [rangeSize_one]; split <;> omega
    show IsRangeIter _ _ (lo + ((0 : Nat) : Int) * 1) ((((hi - lo).toNat : Nat) : Int) - ((0 : Nat) : Int)) 1
    rw [e1, e2]
    exact Heap.get?_push_size _ rfl
  · have e : b = (s.heap.push { cls := .type "range", data := .fields #[.int lo t, .int hi u, .int 1 v] }).objs.size := by simpa using hb
    subst e
    exact I1.fpOk (Nat.le_refl _) (I1.hok.fresh (Nat.le_refl _))
def iRng1 (ta : TA) : TI := fun σ H R => ta σ H fun vs H1 => ∃ j : Int, vs = [.int j] ∧ -(2 ^ 62) ≤ j ∧ j < 2 ^ 62 ∧ R (Itr 0 j.toNat) H1
def iRng2 (ta : TA) : TI := fun σ H R => ta σ H fun vs H1 => ∃ i j : Int, vs = [.int i, .int j] ∧ (-(2 ^ 62) ≤ i ∧ i < 2 ^ 62 ∧ -(2 ^ 62) ≤ j ∧ j < 2 ^ 62) ∧ R (Itr i (j - i).toNat) H1
theorem pi_range1 {a : Expr} {ta : TA} {p pos : Pos} (hg : Gl X "range") (hm : X.mg "range" = none) (ha : PA X [a] ta) (hs : starEach [a] X.env = [(false, eval a X.env)] := by rfl) : PI X tg (.Call (.Name "range" p) [a] [] pos) (iRng1 ta) := by
  intro pins s σ H R I h
  refine Call_ (ld_blt I hg hm boot_range (PyProof.Rows.callWith_type1 (thn (ha pos pins s σ H _ I h) fun us s1 ⟨vs, H1, I1, r1, q1⟩ => ?_) hs rfl))
  obtain ⟨j, e, q1, q2, q⟩ := q1
  subst e
  cases r1 with
  | cons r rr =>
    cases rr
    obtain ⟨t, rfl⟩ := r
    exact call_range_1 (range_it I1 (by omega) (by omega) q1 q2 (by simpa using q))
/-! ### for -/
/-- W: the invariant by the turn and a measure; N: what the body is to reach -/
def tFor (wi : TI) (g : TG) (tb : TS) : TS := fun D σ H => wi σ H fun J H1 => ∃ W : Nat → Nat → St → Hp → Prop, (∃ m, W 0 m σ H1) ∧ ∀ i m σ H, W i m σ H →
  (J.stop i H ∧ D.nx σ H) ∨ (J.go i H ∧ ∃ N : St → Hp → Prop, (∀ σ' H', N σ' H' → ∃ m', m' < m ∧ W (i + 1) m' σ' H') ∧ ∀ x H', J.yld i H x H' → g x σ H' fun σ2 H2 => tb { D with nx := N, ct := N, bk := D.nx } σ2 H2)
/-- the records at fp as they stand -/
def pinsAt (fp : List Addr) (h : Heap) : List (Addr × Obj) := fp.filterMap fun b => (h.get? b).map fun o => (b, o)
theorem mem_pinsAt {fp : List Addr} {h : Heap} {b : Addr} {o : Obj} (hb : b ∈ fp) (e : h.get? b = some o) : (b, o) ∈ pinsAt fp h := List.mem_filterMap.mpr ⟨b, hb, by rw [e]; rfl⟩
theorem of_pinsAt {fp : List Addr} {h : Heap} {p : Addr × Obj} (hp : p ∈ pinsAt fp h) : p.1 ∈ fp ∧ h.get? p.1 = some p.2 := by
  obtain ⟨b, hb, e⟩ := List.mem_filterMap.mp hp
  cases q : h.get? b with
  | none => rw [q] at e; cases e
  | some o =>
    rw [q] at e
    have e' : (b, o) = p := Option.some.inj e
    subst e'
    exact ⟨hb, q⟩
theorem Inv.pinned {pins : List (Addr × Obj)} {σ : St} {H : Hp} {s : Shared} {fp : List Addr} (I : Inv X pins σ H s) (hf : ∀ b ∈ fp, FpOk X pins H b) (ho : ∀ b ∈ fp, ∃ o, s.heap.get? b = some o ∧ ∀ v, o.data ≠ .cell v) : Inv X (pins ++ pinsAt fp s.heap) σ H s :=
  I.pins_of fun p hp => (List.mem_append.mp hp).elim (fun z => I.pin p (List.mem_append_right _ z)) fun z => by
    obtain ⟨hb, e⟩ := of_pinsAt z
    obtain ⟨f0, f1, f2, _⟩ := hf p.1 hb
    obtain ⟨o, e', d⟩ := ho p.1 hb
    rw [e] at e'; cases e'
    exact ⟨e, f0, f1, f2, d⟩
theorem Inv.unpinned {pins pl : List (Addr × Obj)} {σ : St} {H : Hp} {s : Shared} (I : Inv X (pins ++ pl) σ H s) : Inv X pins σ H s := I.pins_of fun p hp => I.pin p (List.mem_append_right _ (List.mem_append_left _ hp))
theorem ps_for {iter : Expr} {body : List Stmt} {wi : TI} {g : TG} {tb : TS} {pos : Pos} (hp : PassesOwn (model X.prog X.w) X.A X.env X.xe) (hc : X.calm = true) (hi : PI X tg iter wi) (hg : PG X tg g) (hb : PSs X body tb)
    (hs : ∀ x, foldedSetIterable iter X.env x = pure x := by intro _; rfl) : PS X (.For tg iter body [] pos) (tFor wi g tb) := by
  intro pins s σ H D I h
  refine wpAny_For (thn (hi pins s σ H _ I h) fun v s1 h1 => thn h1 fun itv s2 h2 => ?_) hs
  obtain ⟨it, fp, tn, J, H2, e, I2, T, st2, f2, W, ⟨m0, w0⟩, turn⟩ := h2
  subst e
  -- what stays true of the iterator's objects through the loop
  have stat : ∀ {H' : Hp}, (∀ b ∈ fp, H' b = none) → ∀ b ∈ fp, FpOk X pins H' b := fun hn b hb => ⟨hn b hb, (f2 b hb).2⟩
  refine codeAny_forLoop_any (fun n s' => ∃ i σ' H', Inv X pins σ' H' s' ∧ tn i s'.heap ∧ (∀ b ∈ fp, H' b = none) ∧ W i n σ' H') ?_ m0 ⟨0, σ, H2, I2, st2, fun b hb => (f2 b hb).1, w0⟩
  rintro n s3 ⟨i, σ3, H3, I3, st3, fr3, w3⟩
  rcases turn i n σ3 H3 w3 with ⟨stop, qn⟩ | ⟨go, N, hN, step⟩
  · refine wpAny_passesOwn hp (thn (T.done X rfl rfl rfl hc i pins s3 σ3 H3 X.xe I3 (stat fr3) st3 stop) fun r s4 ⟨hr, I4⟩ => ?_)
    subst hr
    exact wpAny_execs_nil ⟨σ3, H3, I4, qn⟩
  · refine wpAny_passesOwn hp (thn (T.item X rfl rfl rfl hc i pins s3 σ3 H3 X.xe I3 (stat fr3) st3 go) fun r s4 ⟨u, hr, h4⟩ => ?_)
    subst hr
    refine wpAny_passesOwn hp (thn h4 fun _ s5 ⟨x, H5, I5, r5, y5, st5, fr5⟩ => ?_)
    have I5' := I5.pinned (stat fr5) (T.obj _ _ st5)
    refine wpAny_passesOwn hp (thn (hg _ s5 σ3 H5 x u _ I5' r5 (step x H5 y5)) fun _ s6 ⟨σ6, H6, I6, q6⟩ => ?_)
    refine wpAny_passesOwn hp (thn (hb _ s6 σ6 H6 _ I6 q6) fun f s7 q7 => ?_)
    have again : ∀ {σ7 : St} {H7 : Hp}, Inv X (pins ++ pinsAt fp s5.heap) σ7 H7 s7 → N σ7 H7 → ∃ m, m < n ∧ ∃ i σ' H', Inv X pins σ' H' s7 ∧ tn i s7.heap ∧ (∀ b ∈ fp, H' b = none) ∧ W i m σ' H' := fun {σ7 H7} I7 n7 => by
      obtain ⟨m', hm, w7⟩ := hN σ7 H7 n7
      refine ⟨m', hm, i + 1, σ7, H7, I7.unpinned, T.keep _ _ _ st5 fun b hb o e => (I7.pin (b, o) (List.mem_append_right _ (List.mem_append_right _ (mem_pinsAt hb e)))).1, fun b hb => ?_, w7⟩
      obtain ⟨o, e, d⟩ := T.obj _ _ st5 b hb
      exact (I7.pin (b, o) (List.mem_append_right _ (List.mem_append_right _ (mem_pinsAt hb e)))).2.1
    cases f with
    | next => obtain ⟨σ7, H7, I7, n7⟩ := q7; exact again I7 n7
    | cont => obtain ⟨σ7, H7, I7, n7⟩ := q7; exact again I7 n7
    | brk => obtain ⟨σ7, H7, I7, q7⟩ := q7; exact ⟨σ7, H7, I7.unpinned, q7⟩
    | ret v => obtain ⟨x7, σ7, H7, I7, r7, q7⟩ := q7; exact ⟨x7, σ7, H7, I7.unpinned, r7, q7⟩
end

/-! ### the forms one uses -/
/-- over a list that the body leaves as it is -/
theorem for_list {K : PySem.W.Frag} {a : Addr} {xs : List V} {g : TG} {tb : TS} {D : Ends} {σ : St} {H : Hp} (Pv : Nat → St → Hp → Prop) (h0 : Pv 0 σ H) (hl : ∀ i σ H, i ≤ xs.length → Pv i σ H → SqL K H a xs)
    (hs : ∀ i x σ H, xs[i]? = some x → Pv i σ H → g x σ H fun σ2 H2 => tb { D with nx := Pv (i + 1), ct := Pv (i + 1), bk := D.nx } σ2 H2) (hd : ∀ σ H, Pv xs.length σ H → D.nx σ H) :
    ∃ W : Nat → Nat → St → Hp → Prop, (∃ m, W 0 m σ H) ∧ ∀ i m σ H, W i m σ H →
      ((Itl K a).stop i H ∧ D.nx σ H) ∨ ((Itl K a).go i H ∧ ∃ N : St → Hp → Prop, (∀ σ' H', N σ' H' → ∃ m', m' < m ∧ W (i + 1) m' σ' H') ∧ ∀ x H', (Itl K a).yld i H x H' → g x σ H' fun σ2 H2 => tb { D with nx := N, ct := N, bk := D.nx } σ2 H2) := by
  refine ⟨fun i m σ H => m = xs.length - i ∧ i ≤ xs.length ∧ Pv i σ H, ⟨xs.length, by simp, Nat.zero_le _, h0⟩, ?_⟩
  rintro i m σ H ⟨rfl, hi, p⟩
  have q := hl i σ H hi p
  by_cases hlt : i < xs.length
  · refine .inr ⟨⟨xs, xs[i], q, by simp [hlt]⟩, Pv (i + 1), fun σ' H' p' => ⟨xs.length - (i + 1), by omega, rfl, hlt, p'⟩, fun x H' y => ?_⟩
    obtain ⟨e, y⟩ := y
    subst e
    exact hs i x σ _ (y xs q) p
  · have e : i = xs.length := by omega
    subst e
    exact .inl ⟨⟨xs, q, Nat.le_refl _⟩, hd σ H p⟩
theorem for_tup {K : PySem.W.Frag} {a : Addr} {xs : List V} {g : TG} {tb : TS} {D : Ends} {σ : St} {H : Hp} (Pv : Nat → St → Hp → Prop) (h0 : Pv 0 σ H) (hl : ∀ i σ H, i ≤ xs.length → Pv i σ H → SqT K H a xs)
    (hs : ∀ i x σ H, xs[i]? = some x → Pv i σ H → g x σ H fun σ2 H2 => tb { D with nx := Pv (i + 1), ct := Pv (i + 1), bk := D.nx } σ2 H2) (hd : ∀ σ H, Pv xs.length σ H → D.nx σ H) :
    ∃ W : Nat → Nat → St → Hp → Prop, (∃ m, W 0 m σ H) ∧ ∀ i m σ H, W i m σ H →
      ((Itt K a).stop i H ∧ D.nx σ H) ∨ ((Itt K a).go i H ∧ ∃ N : St → Hp → Prop, (∀ σ' H', N σ' H' → ∃ m', m' < m ∧ W (i + 1) m' σ' H') ∧ ∀ x H', (Itt K a).yld i H x H' → g x σ H' fun σ2 H2 => tb { D with nx := N, ct := N, bk := D.nx } σ2 H2) := by
  refine ⟨fun i m σ H => m = xs.length - i ∧ i ≤ xs.length ∧ Pv i σ H, ⟨xs.length, by simp, Nat.zero_le _, h0⟩, ?_⟩
  rintro i m σ H ⟨rfl, hi, p⟩
  have q := hl i σ H hi p
  by_cases hlt : i < xs.length
  · refine .inr ⟨⟨xs, xs[i], q, by simp [hlt]⟩, Pv (i + 1), fun σ' H' p' => ⟨xs.length - (i + 1), by omega, rfl, hlt, p'⟩, fun x H' y => ?_⟩
    obtain ⟨e, y⟩ := y
    subst e
    exact hs i x σ _ (y xs q) p
  · have e : i = xs.length := by omega
    subst e
    exact .inl ⟨⟨xs, q, Nat.le_refl _⟩, hd σ H p⟩
theorem for_range {lo : Int} {n : Nat} {g : TG} {tb : TS} {D : Ends} {σ : St} {H : Hp} (Pv : Nat → St → Hp → Prop) (h0 : Pv 0 σ H)
    (hs : ∀ i σ H, i < n → Pv i σ H → g (.int (lo + i)) σ H fun σ2 H2 => tb { D with nx := Pv (i + 1), ct := Pv (i + 1), bk := D.nx } σ2 H2) (hd : ∀ σ H, Pv n σ H → D.nx σ H) :
    ∃ W : Nat → Nat → St → Hp → Prop, (∃ m, W 0 m σ H) ∧ ∀ i m σ H, W i m σ H →
      ((Itr lo n).stop i H ∧ D.nx σ H) ∨ ((Itr lo n).go i H ∧ ∃ N : St → Hp → Prop, (∀ σ' H', N σ' H' → ∃ m', m' < m ∧ W (i + 1) m' σ' H') ∧ ∀ x H', (Itr lo n).yld i H x H' → g x σ H' fun σ2 H2 => tb { D with nx := N, ct := N, bk := D.nx } σ2 H2) := by
  refine ⟨fun i m σ H => m = n - i ∧ i ≤ n ∧ Pv i σ H, ⟨n, by simp, Nat.zero_le _, h0⟩, ?_⟩
  rintro i m σ H ⟨rfl, hi, p⟩
  by_cases hlt : i < n
  · refine .inr ⟨hlt, Pv (i + 1), fun σ' H' p' => ⟨n - (i + 1), by omega, rfl, hlt, p'⟩, fun x H' y => ?_⟩
    obtain ⟨e, y⟩ := y
    subst e y
    exact hs i σ _ hlt p
  · have e : i = n := by omega
    subst e
    exact .inl ⟨Nat.le_refl _, hd σ H p⟩
end L2

namespace L2
open PySem PySem.Spec PyProof.Rows

abbrev R2 := V → V → Hp → VK → Prop
/-- a two-place operation on values: f is binaryOp op, inplaceOp op or compareOp op -/
def OpR (X : Cx) (f : Value → Value → Sem Value) (r : R2) : Prop :=
  ∀ (pins : List (Addr × Obj)) (s : Shared) (σ : St) (H : Hp) (x y : V) (v u : Value) (Q : VK), Inv X pins σ H s → RelV x v → RelV y u → r x y H Q →
    wpAny (model X.prog X.w) X.A (f v u) (EP X pins σ Q) X.xe s
/-- a one-place operation -/
def UnR (X : Cx) (f : Value → Sem Value) (r : V → Hp → VK → Prop) : Prop :=
  ∀ (pins : List (Addr × Obj)) (s : Shared) (σ : St) (H : Hp) (x : V) (v : Value) (Q : VK), Inv X pins σ H s → RelV x v → r x H Q →
    wpAny (model X.prog X.w) X.A (f v) (EP X pins σ Q) X.xe s
/-- a call of a value that is known (a builtin, a type) with values -/
def CallR (X : Cx) (f : Value) (r : List V → Hp → VK → Prop) : Prop :=
  ∀ (pins : List (Addr × Obj)) (s : Shared) (σ : St) (H : Hp) (xs : List V) (us : List Value) (Q : VK), Inv X pins σ H s → Vals xs us → r xs H Q →
    wpAny (model X.prog X.w) X.A (call f us) (EP X pins σ Q) X.xe s
/-- a value's truth -/
def TruR (X : Cx) (r : V → Hp → (Bool → Hp → Prop) → Prop) : Prop :=
  ∀ (pins : List (Addr × Obj)) (s : Shared) (σ : St) (H : Hp) (x : V) (v : Value) (Q : Bool → Hp → Prop), Inv X pins σ H s → RelV x v → r x H Q →
    wpAny (model X.prog X.w) X.A (truthy v) (TP X pins σ Q) X.xe s

def tOp (r : R2) (ta tb : TE) : TE := fun σ H Q => ta σ H fun x H1 => tb σ H1 fun y H2 => r x y H2 Q
def tUn (r : V → Hp → VK → Prop) (ta : TE) : TE := fun σ H Q => ta σ H fun x H1 => r x H1 Q
/-- ints in, under C, and a value out -/
def rI (C : Int → Int → Prop) (g : Int → Int → V) : R2 := fun x y H Q => ∃ i j, x = .int i ∧ y = .int j ∧ C i j ∧ Q (g i j) H
def rI0 (g : Int → Int → V) : R2 := fun x y H Q => ∃ i j, x = .int i ∧ y = .int j ∧ Q (g i j) H
def rU (g : Int → V) : V → Hp → VK → Prop := fun x H Q => ∃ i, x = .int i ∧ Q (g i) H

section
variable {X : Cx} {a b c : Expr} {ta tb tc : TE} {pos : Pos}

theorem binT (ha : PE X a ta) (hb : PE X b tb) {pins : List (Addr × Obj)} {s : Shared} {σ : St} {H : Hp} {R : V → V → Hp → Prop} (I : Inv X pins σ H s)
    (h : ta σ H fun x H1 => tb σ H1 fun y H2 => R x y H2) {Q : Value → Shared → Prop} {f : Value → Value → Sem Value}
    (hf : ∀ v u s2 x y H2, Inv X pins σ H2 s2 → RelV x v → RelV y u → R x y H2 → wpAny (model X.prog X.w) X.A (f v u) Q X.xe s2) :
    wpAny (model X.prog X.w) X.A (eval a X.env) (fun v s₁ => wpAny (model X.prog X.w) X.A (eval b X.env) (fun u s₂ => wpAny (model X.prog X.w) X.A (f v u) Q X.xe s₂) X.xe s₁) X.xe s := by
  refine thn (ha pins s σ H _ I h) fun v s1 ⟨x, H1, I1, r1, q1⟩ => ?_
  refine thn (hb pins s1 σ H1 _ I1 q1) fun u s2 ⟨y, H2, I2, r2, q2⟩ => ?_
  exact hf v u s2 x y H2 I2 r1 r2 q2

theorem pe_op {op : Operator} {r : R2} (ho : OpR X (binaryOp op) r) (ha : PE X a ta) (hb : PE X b tb) : PE X (.BinOp a op b pos) (tOp r ta tb) := by
  intro pins s σ H Q I h
  exact wpAny_BinOp (binT ha hb I h fun v u s2 x y H2 I2 rx ry q => ho pins s2 σ H2 x y v u Q I2 rx ry q)
/-! ### ints -/
theorem opI {f : Value → Value → Sem Value} {C : Int → Int → Prop} {g : Int → Int → Int}
    (rule : ∀ (i j : Int) (t u : Tok) (s : Shared) (Q : Value → Shared → Prop) (E : Value → Shared → Prop), C i j → Q (.int (g i j) s.toks) { s with toks := s.toks + 1 } → wpAny (model X.prog X.w) X.A (f (.int i t) (.int j u)) Q E s) :
    OpR X f (rI C fun i j => .int (g i j)) := by
  intro pins s σ H x y v u Q I rx ry h
  obtain ⟨i, j, rfl, rfl, hc, q⟩ := h
  obtain ⟨t, rfl⟩ := rx
  obtain ⟨t', rfl⟩ := ry
  exact rule i j t t' s _ _ hc ⟨.int (g i j), H, I.tok _, ⟨_, rfl⟩, q⟩
theorem opI0 {f : Value → Value → Sem Value} {g : Int → Int → Int}
    (rule : ∀ (i j : Int) (t u : Tok) (s : Shared) (Q : Value → Shared → Prop) (E : Value → Shared → Prop), Q (.int (g i j) s.toks) { s with toks := s.toks + 1 } → wpAny (model X.prog X.w) X.A (f (.int i t) (.int j u)) Q E s) :
    OpR X f (rI0 fun i j => .int (g i j)) := by
  intro pins s σ H x y v u Q I rx ry h
  obtain ⟨i, j, rfl, rfl, q⟩ := h
  obtain ⟨t, rfl⟩ := rx
  obtain ⟨t', rfl⟩ := ry
  exact rule i j t t' s _ _ ⟨.int (g i j), H, I.tok _, ⟨_, rfl⟩, q⟩
theorem opB0 {f : Value → Value → Sem Value} {g : Int → Int → Bool}
    (rule : ∀ (i j : Int) (t u : Tok) (s : Shared) (Q : Value → Shared → Prop) (E : Value → Shared → Prop), Q (.bool (g i j)) s → wpAny (model X.prog X.w) X.A (f (.int i t) (.int j u)) Q E s) :
    OpR X f (rI0 fun i j => .bl (g i j)) := by
  intro pins s σ H x y v u Q I rx ry h
  obtain ⟨i, j, rfl, rfl, q⟩ := h
  obtain ⟨t, rfl⟩ := rx
  obtain ⟨t', rfl⟩ := ry
  exact rule i j t t' s _ _ ⟨.bl (g i j), H, I, rfl, q⟩

def CDiv (i j : Int) : Prop := 0 < j ∧ j < 1073741824
def CDivN (i j : Int) : Prop := j ≠ 0 ∧ j.natAbs < 1073741824
def CPow (i j : Int) : Prop := 0 ≤ j ∧ j ≤ 1000000 ∧ i.natAbs < 2 ^ 64
def CMul (i j : Int) : Prop := (-(2 ^ 64) < i ∧ i < 2 ^ 64) ∨ (-(2 ^ 64) < j ∧ j < 2 ^ 64)
theorem CMul.ok {i j : Int} (h : CMul i j) : IntMulOk i j := by
  rcases h with ⟨h1, h2⟩ | ⟨h1, h2⟩
  · exact .of_left (intBits_le_64 h1 h2)
  · exact .of_right (intBits_le_64 h1 h2)
theorem op_add : OpR X (binaryOp .Add) (rI0 fun i j => .int (i + j)) := opI0 fun _ _ _ _ _ _ _ q => add_int q
theorem op_sub : OpR X (binaryOp .Sub) (rI0 fun i j => .int (i - j)) := opI0 fun _ _ _ _ _ _ _ q => sub_int q
theorem op_mul : OpR X (binaryOp .Mult) (rI CMul fun i j => .int (i * j)) := opI fun _ _ _ _ _ _ _ hc q => mul_int q hc.ok
/-- // by a positive divisor -/
theorem op_fdiv : OpR X (binaryOp .FloorDiv) (rI CDiv fun i j => .int (i / j)) := opI fun i j _ _ _ _ _ hc q => by
  have h1 : (0 : Int) < j := hc.1
  have h2 : j < 1073741824 := hc.2
  exact floordiv_int (by omega) (by rw [Int.fdiv_eq_ediv_of_nonneg i (by omega)]; exact q) (.inl (PyProof.noPylong_small (by omega)))
/-- % by a positive divisor of any size -/
theorem op_mod : OpR X (binaryOp .Mod) (rI (fun _ j => 0 < j) fun i j => .int (i % j)) := opI fun i j _ _ _ _ _ hc q => by
  have h1 : (0 : Int) < j := hc
  exact mod_int' (by omega) (by rw [Int.fmod_eq_emod_of_nonneg i (by omega)]; exact q)
theorem op_pow : OpR X (binaryOp .Pow) (rI CPow fun i j => .int (i ^ j.toNat)) := opI fun _ _ _ _ _ _ _ hc q => pow_int_small hc.1 hc.2.1 hc.2.2 q
/-! ### bools among ints: n += (a < b) -/
end

/-! ### comparisons -/
/-- the scalars that == tells apart as data does -/
def scal : V → V → Bool
  | .non, .non => true | .non, .int _ => true | .int _, .non => true | .non, .bl _ => true | .bl _, .non => true | .non, .str _ => true | .str _, .non => true
  | .int _, .int _ => true | .bl _, .bl _ => true | .str _, .str _ => true | .byt _, .byt _ => true
  | .int _, .str _ => true | .str _, .int _ => true | .bl _, .str _ => true | .str _, .bl _ => true
  | _, _ => false
def rEq : R2 := fun x y H Q => scal x y = true ∧ Q (.bl (decide (x = y))) H
def rNe : R2 := fun x y H Q => scal x y = true ∧ Q (.bl (!decide (x = y))) H

theorem dec_int {i j : Int} : decide (V.int i = V.int j) = (i == j) := by
  rw [Bool.eq_iff_iff]
  simp
theorem dec_bl {i j : Bool} : decide (V.bl i = V.bl j) = (i == j) := by
  rw [Bool.eq_iff_iff]
  simp
theorem dec_str {i j : Str} : decide (V.str i = V.str j) = (i == j) := by
  rw [Bool.eq_iff_iff]
  simp
theorem dec_byt {i j : Array UInt8} : decide (V.byt i = V.byt j) = (i.toList == j.toList) := by
  rw [Bool.eq_iff_iff]
  cases i
  cases j
  simp

section
variable {X : Cx} {a b c : Expr} {ta tb tc : TE} {pos : Pos}
theorem fin_bl {pins : List (Addr × Obj)} {σ : St} {H : Hp} {s : Shared} {Q : VK} {k k' : Bool} (I : Inv X pins σ H s) (q : Q (.bl k) H) (e : k = k') : EP X pins σ Q (.bool k') s := by
  subst e
  exact ⟨.bl k, H, I, rfl, q⟩
theorem op_eq : OpR X (compareOp .Eq) rEq := by
  intro pins s σ H x y v u Q I rx ry h
  obtain ⟨hs, q⟩ := h
  cases x with
  | non =>
    cases rx
    cases y with
    | non => cases ry; exact PySem.EqNone.eq_none_none (fin_bl I q (by simp))
    | bl j => cases ry; exact PySem.EqNone.eq_none_bool (fin_bl I q (by simp))
    | int j => obtain ⟨t', rfl⟩ := ry; exact PySem.EqNone.eq_none_int (fin_bl I q (by simp))
    | str j => obtain ⟨t', rfl⟩ := ry; exact PySem.EqNone.eq_none_str (fin_bl I q (by simp))
    | _ => exact absurd (show false = true from hs) Bool.false_ne_true
  | bl i =>
    cases rx
    cases y with
    | non => cases ry; exact PySem.EqNone.eq_bool_none (fin_bl I q (by simp))
    | bl j => cases ry; exact eq_bool (fin_bl I q dec_bl)
    | str j => obtain ⟨t', rfl⟩ := ry; exact PySem.EqMixed.eq_bool_str (fin_bl I q (by simp))
    | _ => exact absurd (show false = true from hs) Bool.false_ne_true
  | int i =>
    obtain ⟨t, rfl⟩ := rx
    cases y with
    | non => cases ry; exact PySem.EqNone.eq_int_none (fin_bl I q (by simp))
    | int j => obtain ⟨t', rfl⟩ := ry; exact eq_int (fin_bl I q dec_int)
    | str j => obtain ⟨t', rfl⟩ := ry; exact PySem.EqMixed.eq_int_str (fin_bl I q (by simp))
    | _ => exact absurd (show false = true from hs) Bool.false_ne_true
  | str i =>
    obtain ⟨t, rfl⟩ := rx
    cases y with
    | non => cases ry; exact PySem.EqNone.eq_str_none (fin_bl I q (by simp))
    | bl j => cases ry; exact PySem.EqMixed.eq_str_bool (fin_bl I q (by simp))
    | int j => obtain ⟨t', rfl⟩ := ry; exact PySem.EqMixed.eq_str_int (fin_bl I q (by simp))
    | str j => obtain ⟨t', rfl⟩ := ry; exact eq_str (fin_bl I q dec_str)
    | _ => exact absurd (show false = true from hs) Bool.false_ne_true
  | byt i =>
    obtain ⟨t, rfl⟩ := rx
    cases y with
    | byt j => obtain ⟨t', rfl⟩ := ry; exact PySem.W.eq_bytes (fin_bl I q dec_byt)
    | _ => exact absurd (show false = true from hs) Bool.false_ne_true
  | _ => cases y <;> exact absurd (show false = true from hs) Bool.false_ne_true
theorem op_ne : OpR X (compareOp .NotEq) rNe := by
  intro pins s σ H x y v u Q I rx ry h
  obtain ⟨hs, q⟩ := h
  cases x with
  | non =>
    cases rx
    cases y with
    | non => cases ry; exact PySem.EqNone.ne_none_none (fin_bl I q (by simp))
    | bl j => cases ry; exact PySem.EqNone.ne_none_bool (fin_bl I q (by simp))
    | int j => obtain ⟨t', rfl⟩ := ry; exact PySem.EqNone.ne_none_int (fin_bl I q (by simp))
    | str j => obtain ⟨t', rfl⟩ := ry; exact PySem.EqNone.ne_none_str (fin_bl I q (by simp))
    | _ => exact absurd (show false = true from hs) Bool.false_ne_true
  | bl i =>
    cases rx
    cases y with
    | non => cases ry; exact PySem.EqNone.ne_bool_none (fin_bl I q (by simp))
    | bl j => cases ry; exact ne_bool (fin_bl I q (congrArg not dec_bl))
    | str j => obtain ⟨t', rfl⟩ := ry; exact PySem.EqMixed.ne_bool_str (fin_bl I q (by simp))
    | _ => exact absurd (show false = true from hs) Bool.false_ne_true
  | int i =>
    obtain ⟨t, rfl⟩ := rx
    cases y with
    | non => cases ry; exact PySem.EqNone.ne_int_none (fin_bl I q (by simp))
    | int j => obtain ⟨t', rfl⟩ := ry; exact ne_int (fin_bl I q (congrArg not dec_int))
    | str j => obtain ⟨t', rfl⟩ := ry; exact PySem.EqMixed.ne_int_str (fin_bl I q (by simp))
    | _ => exact absurd (show false = true from hs) Bool.false_ne_true
  | str i =>
    obtain ⟨t, rfl⟩ := rx
    cases y with
    | non => cases ry; exact PySem.EqNone.ne_str_none (fin_bl I q (by simp))
    | bl j => cases ry; exact PySem.EqMixed.ne_str_bool (fin_bl I q (by simp))
    | int j => obtain ⟨t', rfl⟩ := ry; exact PySem.EqMixed.ne_str_int (fin_bl I q (by simp))
    | str j => obtain ⟨t', rfl⟩ := ry; exact ne_str (fin_bl I q (congrArg not dec_str))
    | _ => exact absurd (show false = true from hs) Bool.false_ne_true
  | byt i =>
    obtain ⟨t, rfl⟩ := rx
    cases y with
    | byt j => obtain ⟨t', rfl⟩ := ry; exact PySem.W.ne_bytes (fin_bl I q (congrArg not dec_byt))
    | _ => exact absurd (show false = true from hs) Bool.false_ne_true
  | _ => cases y <;> exact absurd (show false = true from hs) Bool.false_ne_true

theorem op_lt : OpR X (compareOp .Lt) (rI0 fun i j => .bl (decide (i < j))) := opB0 fun _ _ _ _ _ _ _ q => lt_int q
theorem op_gt : OpR X (compareOp .Gt) (rI0 fun i j => .bl (decide (j < i))) := opB0 fun _ _ _ _ _ _ _ q => gt_int q
theorem op_ge : OpR X (compareOp .GtE) (rI0 fun i j => .bl (decide (j ≤ i))) := opB0 fun _ _ _ _ _ _ _ q => ge_int q
/-- is, is not of two objects that are tracked lists or instances -/
def isObj : HO → Bool
  | .lst _ => true
  | .ins _ _ _ => true
  | _ => false
/-- two rules for one operation: by cases -/
theorem OpR.or {f : Value → Value → Sem Value} {r r' : R2} (h : OpR X f r) (h' : OpR X f r') : OpR X f (fun x y H Q => r x y H Q ∨ r' x y H Q) := by
  intro pins s σ H x y v u Q I rx ry q
  rcases q with q | q
  · exact h pins s σ H x y v u Q I rx ry q
  · exact h' pins s σ H x y v u Q I rx ry q

theorem nomark (b : Expr) {op : CmpOp} (h : op ≠ .In := by decide) (h2 : op ≠ .NotIn := by decide) : behindInMarks op b = false := by
  have e1 : (op == CmpOp.In) = false := by cases op <;> first | rfl | exact absurd rfl h
  have e2 : (op == CmpOp.NotIn) = false := by cases op <;> first | rfl | exact absurd rfl h2
  cases b <;> simp [behindInMarks, e1, e2]
/-- a comparison as a value; hm: nomark b, or (for in, not in) by with_unfolding_all rfl -/
theorem pe_cmpR {op : CmpOp} {r : R2} (ho : OpR X (compareOp op) r) (ha : PE X a ta) (hb : PE X b tb) (hm : behindInMarks op b = false) : PE X (.Compare a [op] [b] pos) (tOp r ta tb) := by
  intro pins s σ H Q I h
  exact wpAny_Compare1 (binT ha hb I h fun v u s2 x y H2 I2 rx ry q => ho pins s2 σ H2 x y v u Q I2 rx ry q) hm
/-- a reading of a value as a test -/
def tTest (t : TE) : TT := fun σ H Q => t σ H fun x H' => ∃ k, x = .bl k ∧ Q k H'
theorem pt_cmpR {op : CmpOp} {r : R2} (ho : OpR X (compareOp op) r) (ha : PE X a ta) (hb : PE X b tb) (hm : behindInMarks op b = false) : PT X (.Compare a [op] [b] pos) (tTest (tOp r ta tb)) := by
  intro pins s σ H Q I h
  refine wpAny_isTrue_Compare1 (thn (ha pins s σ H _ I h) fun v s1 ⟨x, H1, I1, r1, q1⟩ => thn (hb pins s1 σ H1 _ I1 q1) fun u s2 ⟨y, H2, I2, r2, q2⟩ =>
    thn (ho pins s2 σ H2 x y v u _ I2 r1 r2 q2) fun c s3 ⟨z, H3, I3, r3, k, e, q3⟩ => ?_) hm
  subst e
  cases r3
  exact wpAny_truthy_bool ⟨H3, I3, q3⟩
/-- a op1 b op2 c -/
def tChain (r r' : R2) (ta tb tc : TE) : TE := fun σ H Q => ta σ H fun x H1 => tb σ H1 fun y H2 => r x y H2 fun z H3 => ∃ k, z = .bl k ∧
  (if k = true then tc σ H3 fun w' H4 => r' y w' H4 Q else Q (.bl false) H3)
/-! ### truth -/
/-- a value's truth by the abstract heap -/
def TruV (K : PySem.W.Frag) (x : V) (H : Hp) (k : Bool) : Prop :=
  match x with
  | .non => k = false
  | .bl b => k = b
  | .int i => k = (i != 0)
  | .str y => y.length ≤ sizeLine ∧ k = ((y.length : Int) != 0)
  | .byt y => y.size ≤ sizeLine ∧ k = ((y.size : Int) != 0)
  | .ref p => (∃ xs, SqL K H p xs ∧ k = !xs.isEmpty) ∨ (∃ xs, SqT K H p xs ∧ k = !xs.isEmpty) ∨ ∃ kvs, H p = some (.dK kvs) ∧ k = !kvs.isEmpty
  | _ => False
theorem line63 : (sizeLine : Nat) < 2 ^ 63 := by rw [sizeLine_eq]; decide
/-! ### strs and bytes -/
def PlainIxT (b : Expr) : Prop := ∀ o i, subscripted b false o i = operate [o, i] (getItem o i)
/-! ### scalar builtins, by CallR -/
theorem vals1 {x : V} {us : List Value} (r : Vals [x] us) : ∃ u, us = [u] ∧ RelV x u := by
  cases r with
  | cons r1 r2 => cases r2; exact ⟨_, rfl, r1⟩
theorem vals2 {x y : V} {us : List Value} (r : Vals [x, y] us) : ∃ u w', us = [u, w'] ∧ RelV x u ∧ RelV y w' := by
  cases r with
  | cons r1 r2 =>
    cases r2 with
    | cons r3 r4 => cases r4; exact ⟨_, _, rfl, r1, r3⟩
/-- len of a str, a bytes, a list, a tuple -/
def LenV (K : PySem.W.Frag) (x : V) (H : Hp) (n : Nat) : Prop :=
  match x with
  | .str y => y.length ≤ sizeLine ∧ n = y.length
  | .byt y => y.size ≤ sizeLine ∧ n = y.size
  | .ref p => (∃ xs, SqL K H p xs ∧ n = xs.length) ∨ ∃ xs, SqT K H p xs ∧ n = xs.length
  | _ => False
end
end L2

namespace L2
open PySem PySem.Spec PyProof.Rows

/-! ### an instance, its attributes a map -/
structure ObjM (h : Heap) (x dx C : Addr) (mA : Str → Option Value) : Prop where
  obj : h.get? x = some (PySem.W.instObj C dx)
  ns : h.Ns1 dx mA
  ne : dx ≠ x

theorem lookIn_ns {h : Heap} {dx : Addr} {mA : Str → Option Value} (n : h.Ns1 dx mA) : ∃ od, h.get? dx = some od ∧ ∀ name, PySem.W.lookIn name od = some (mA name) := by
  obtain ⟨o, es, ep, ho, hd, hk, _, hm⟩ := n
  refine ⟨o, ho, fun name => ?_⟩
  have e := hm name
  unfold nsFind findBy at e
  rw [← Array.find?_toList] at e
  unfold PySem.W.lookIn
  rw [hd]
  dsimp only
  split
  · rename_i y q
    rw [q] at e
    exact congrArg some e
  · rename_i q
    rw [q] at e
    have a : es.toList.any (·.refKey) = false := by
      rw [List.any_eq_false]
      intro y hy
      obtain ⟨z, t, hkey⟩ := hk y (Array.mem_toList_iff.mp hy)
      simp [DictEntry.refKey, hkey]
    have a' : ¬ es.toList.any (·.refKey) = true := by rw [a]; exact Bool.false_ne_true
    rw [if_neg a']
    exact congrArg some e

theorem ObjM.look {h : Heap} {x dx C : Addr} {mA : Str → Option Value} (I : ObjM h x dx C mA) : ∃ od, PySem.W.InstAt h x (PySem.W.instObj C dx) C (some od) ∧ ∀ name, PySem.W.lookIn name od = some (mA name) :=
  let ⟨od, ho, hl⟩ := lookIn_ns I.ns
  ⟨od, ⟨I.obj, rfl, rfl, ho⟩, hl⟩

section
variable {prog : Program} {w : World} {A : Around} {E : Value → Shared → Prop} {s : Shared} {K : PySem.W.Frag} {x dx C f : Addr} {mA : Str → Option Value} {name : Str} {v : Value}

end

/-! ### the attributes as a list of pairs -/
def putF (f : Str) (v : V) : List (Str × V) → List (Str × V)
  | [] => [(f, v)]
  | (g, x) :: r => if g = f then (g, v) :: r else (g, x) :: putF f v r
theorem RelO.some_of {v : V} {o : Option Value} (r : RelO (some v) o) : ∃ u, o = some u ∧ RelV v u := by
  cases o with
  | none => exact (show False from r).elim
  | some u => exact ⟨u, rfl, r⟩
section
variable {P : Program} {w : World} {H H' : Hp} {h h' : Heap} {a C dx : Addr} {fs fs' : List (Str × V)}
theorem ins_get (hok : HOk P w H h) (e : H a = some (.ins C dx fs)) : ∃ mA, ObjM h a dx C mA ∧ (∀ f, RelO (fs.lookup f) (mA f)) ∧ PySem.Within mA (fs.map (·.1)) ∧ fs.length ≤ 1000 ∧ H dx = some (.own a) := by
  obtain ⟨d, z, ne, ob, mA, n, r, q⟩ := (show ObjOk P w H h a (.ins C dx fs) from hok a _ e)
  exact ⟨mA, ⟨ob, n, ne⟩, r, q, z, d⟩
end

/-! ### what of the text a class must have -/
structure Cls (K : PySem.W.Frag) (C : Addr) : Prop where
  pg : PySem.W.plainGet K C Str.empty = true
  hd : PySem.W.hasDictIn K C = true
  po : PySem.W.plainOver K C = true
  sa : PySem.W.findIn K (.ref C) "__setattr__" = some (some (.builtin "object.__setattr__"))
theorem Cls.get {K : PySem.W.Frag} {C : Addr} (c : Cls K C) (f : Str) : PySem.W.plainGet K C f = true := c.pg
/-- no class of it has the name -/
def NoAttr (K : PySem.W.Frag) (C : Addr) (f : Str) : Prop := PySem.W.findIn K (.ref C) f = some none
/-- a constant of the class -/
structure Con (K : PySem.W.Frag) (C : Addr) (f : Str) (v : V) (u : Value) : Prop where
  at_ : PySem.W.findIn K (.ref C) f = some (some u)
  rel : RelV v u
  get : PySem.W.specialIn K u "__get__" = some none
  cp : PySem.W.copiedNames.contains f = false
/-- a method: a plain def of the class or of one above it -/
structure Meth (K : PySem.W.Frag) (C : Addr) (m : Str) (f : Addr) : Prop where
  at_ : PySem.W.findIn K (.ref C) m = some (some (.ref f))
  fn : PySem.W.isFn K (.ref f) = true
  kp : PySem.W.keepIn K (.ref f) = true

section
variable {X : Cx} {pins : List (Addr × Obj)} {σ : St} {H : Hp} {s : Shared} {a C dx : Addr} {fs : List (Str × V)} {f : Str} {v : V} {A : Around} {E : Value → Shared → Prop}

/-- a new instance, tracked, without attributes -/
theorem Inv.made (I : Inv X pins σ H s) : Inv X pins σ (upd (upd H s.heap.objs.size (.own (s.heap.objs.size + 1))) (s.heap.objs.size + 1) (.ins C s.heap.objs.size []))
    { s with heap := (s.heap.push PySem.W.emptyDict).push (PySem.W.instObj C s.heap.objs.size) } := by
  have e1 : (s.heap.push PySem.W.emptyDict).get? s.heap.objs.size = some PySem.W.emptyDict := Heap.get?_push_size s.heap rfl
  have e2 : ((s.heap.push PySem.W.emptyDict).push (PySem.W.instObj C s.heap.objs.size)).get? (s.heap.objs.size + 1) = some (PySem.W.instObj C s.heap.objs.size) := by
    have := Heap.get?_push_size (s.heap.push PySem.W.emptyDict) (o := PySem.W.instObj C s.heap.objs.size) rfl
    rwa [Heap.size_push] at this
  have e3 : (s.heap.push PySem.W.emptyDict).Ns s.heap.objs.size (fun _ => none) := ⟨PySem.W.emptyDict, #[], _, e1, rfl, (fun e he => absurd he (by simp)), fun _ => rfl⟩
  have I1 := I.laid (a := s.heap.objs.size) (o := .own (s.heap.objs.size + 1)) (h' := s.heap.push PySem.W.emptyDict) (t' := s.toks) (fun b u q => Heap.get?_push_of_some _ q) (Nat.le_refl _) ⟨_, e1⟩
  refine I1.laid (a := s.heap.objs.size + 1) (o := .ins C s.heap.objs.size []) (t' := s.toks) (fun b u q => Heap.get?_push_of_some _ q) (Nat.le_of_eq (Heap.size_push _ _)) ?_
  have ne : s.heap.objs.size ≠ s.heap.objs.size + 1 := Nat.ne_of_lt (Nat.lt_succ_self _)
  refine ⟨by rw [upd_ne ne, upd_same], Nat.zero_le _, ne, e2, fun _ => none, (Heap.Ns1.of_empty e3).at fun o q => Heap.get?_push_of_some _ q, fun _ => True.intro, fun y hy => absurd rfl hy⟩

end

/-! ### readings and rules -/
/-- e.f, an attribute of the instance -/
def tFld (K : PySem.W.Frag) (ta : TE) (f : Str) : TE := fun σ H Q => ta σ H fun x H1 => ∃ a C dx fs v, x = .ref a ∧ H1 a = some (.ins C dx fs) ∧ Cls K C ∧ NoAttr K C f ∧ fs.lookup f = some v ∧ Q v H1
/-- e.f, a constant of the class -/
def tCon (K : PySem.W.Frag) (ta : TE) (f : Str) : TE := fun σ H Q => ta σ H fun x H1 => ∃ a C dx fs v u, x = .ref a ∧ H1 a = some (.ins C dx fs) ∧ Cls K C ∧ Con K C f v u ∧ fs.lookup f = none ∧ Q v H1
/-- e.f = value -/
def sFld (K : PySem.W.Frag) (ta tv : TE) (f : Str) : TS := fun D σ H => tv σ H fun y H1 => ta σ H1 fun x H2 => ∃ a C dx fs, x = .ref a ∧ H2 a = some (.ins C dx fs) ∧ Cls K C ∧ NoAttr K C f ∧ fs.length < 1000 ∧
  D.nx σ (upd H2 a (.ins C dx (putF f y fs)))
/-- an augmented operator on two values -/
def InOp (X : Cx) (op : Operator) (rd : V → V → Hp → VK → Prop) : Prop :=
  ∀ (pins : List (Addr × Obj)) (s : Shared) (σ : St) (H : Hp) (x y : V) (u v : Value) (Q : VK), Inv X pins σ H s → RelV x u → RelV y v → rd x y H Q → wpAny (model X.prog X.w) X.A (inplaceOp op u v) (EP X pins σ Q) X.xe s
/-- e.f op= value -/
def sFldAug (K : PySem.W.Frag) (ta tv : TE) (rd : V → V → Hp → VK → Prop) (f : Str) : TS := fun D σ H => ta σ H fun x H1 => ∃ a C dx fs v, x = .ref a ∧ H1 a = some (.ins C dx fs) ∧ Cls K C ∧ NoAttr K C f ∧ fs.lookup f = some v ∧
  tv σ H1 fun y H2 => rd v y H2 fun z H3 => ∃ dx' fs', H3 a = some (.ins C dx' fs') ∧ fs'.length < 1000 ∧ D.nx σ (upd H3 a (.ins C dx' (putF f z fs')))

section
variable {X : Cx} {o e value : Expr} {f : Str} {pos pos' tpos : Pos} {ta tv : TE}
def rAdd : V → V → Hp → VK → Prop := fun x y H Q => ∃ i j, x = .int i ∧ y = .int j ∧ Q (.int (i + j)) H
def rSub : V → V → Hp → VK → Prop := fun x y H Q => ∃ i j, x = .int i ∧ y = .int j ∧ Q (.int (i - j)) H
end

/-! ### isinstance -/
section
variable {X : Cx} {pins : List (Addr × Obj)} {σ : St} {H : Hp} {s : Shared} {A : Around} {E : Value → Shared → Prop} {Q : Value → Shared → Prop} {c : Value} {b : Bool}
/-- the type of a value, as the fragment's deciders take it; for an instance its class -/
inductive TyOf (K : PySem.W.Frag) (H : Hp) : V → Value → Prop where
  | non : TyOf K H .non (.type "NoneType")
  | bl (x : Bool) : TyOf K H (.bl x) (.type "bool")
  | int (i : Int) : TyOf K H (.int i) (.type "int")
  | str (x : Str) : TyOf K H (.str x) (.type "str")
  | flt (x : UInt64) : TyOf K H (.flt x) (.type "float")
  | lst {a : Addr} {xs : List V} (e : H a = some (.lst xs)) : TyOf K H (.ref a) (.type "list")
  | frz {a : Addr} {o : Obj} {xs : List V} (e : H a = some (.frz o (.lst xs))) : TyOf K H (.ref a) (.type "list")
  | tup {a : Addr} {xs : List V} (e : H a = some (.tup xs)) : TyOf K H (.ref a) (.type "tuple")
  | dK {a : Addr} {kvs : List (Key × V)} (e : H a = some (.dK kvs)) : TyOf K H (.ref a) (.type "dict")
  | dT {a : Addr} {kvs : List (List Key × V)} (e : H a = some (.dT kvs)) : TyOf K H (.ref a) (.type "dict")
  | ins {a C dx : Addr} {fs : List (Str × V)} (e : H a = some (.ins C dx fs)) (cl : Cls K C) (ha : PySem.W.findIn K (.ref C) "__class__" = some (some (.builtin "object.__class__")))
      (hn : PySem.W.specialIn K (.builtin "object.__class__") "__get__" = some (some (.builtin "getset_descriptor.__get__"))) (htk : PySem.W.takesIn K (.builtin "object.__class__") = some true)
      (hm : PySem.W.mroIn K C (.type "object") = some true) : TyOf K H (.ref a) (.ref C)
/-- isinstance(x, c) for one class c, a built-in or an own one: kitOne's answer -/
theorem isinst_ok {x : V} {u t : Value} (I : Inv X pins σ H s) (rx : RelV x u) (ty : TyOf X.K H x t) (e : PySem.W.kitOne X.K t c = some b) (h : ∀ tk, Q (.bool b) { s with toks := tk }) :
    wpAny (model X.prog X.w) A (call (.builtin "isinstance") [u, c]) Q E s := by
  cases ty with
  | non => cases (show u = Value.none from rx); exact PySem.W.kia_one PySem.W.kitx_none I.kIn True.intro e (fun z => nomatch z) h
  | bl y => cases (show u = Value.bool y from rx); exact PySem.W.kia_one PySem.W.kitx_bool I.kIn True.intro e (fun z => nomatch z) h
  | int i => obtain ⟨t, q⟩ := (show ∃ t, u = Value.int i t from rx); cases q; exact PySem.W.kia_one PySem.W.kitx_int I.kIn True.intro e (fun z => nomatch z) h
  | str y => obtain ⟨t, q⟩ := (show ∃ t, u = Value.str y t from rx); cases q; exact PySem.W.kia_one PySem.W.kitx_str I.kIn True.intro e (fun z => nomatch z) h
  | flt y => obtain ⟨t, q⟩ := (show ∃ t, u = Value.float y t from rx); cases q; exact PySem.W.kia_one PySem.W.kitx_float I.kIn True.intro e (fun z => nomatch z) h
  | @lst a xs ea =>
    cases (show u = Value.ref a from rx)
    obtain ⟨_, _, n, _, h1⟩ := (show ObjOk X.prog X.w H s.heap a (.lst xs) from I.hok a _ ea)
    exact PySem.W.kia_one PySem.W.kitx_list I.kIn ⟨_, h1, rfl⟩ e (fun z => nomatch z) h
  | @frz a ob xs ea =>
    cases (show u = Value.ref a from rx)
    obtain ⟨_, _, _, n, _, h1⟩ := (show ObjOk X.prog X.w H s.heap a (.frz ob (.lst xs)) from I.hok a _ ea)
    exact PySem.W.kia_one PySem.W.kitx_list I.kIn ⟨_, h1, rfl⟩ e (fun z => nomatch z) h
  | @tup a xs ea =>
    cases (show u = Value.ref a from rx)
    obtain ⟨_, _, _, p⟩ := (show ObjOk X.prog X.w H s.heap a (.tup xs) from I.hok a _ ea)
    obtain ⟨o, h1, h2, _⟩ := p
    exact PySem.W.kia_one PySem.W.kitx_tuple I.kIn ⟨o, h1, h2⟩ e (fun z => nomatch z) h
  | @dK a kvs ea =>
    cases (show u = Value.ref a from rx)
    obtain ⟨_, _, vs, _, p⟩ := (show ObjOk X.prog X.w H s.heap a (.dK kvs) from I.hok a _ ea)
    obtain ⟨o, es, ep, h1, h2, _⟩ := p
    exact PySem.W.kia_one PySem.W.kitx_dict I.kIn ⟨o, h1, h2.1⟩ e (fun z => nomatch z) h
  | @dT a kvs ea =>
    cases (show u = Value.ref a from rx)
    obtain ⟨_, _, xs, _, o, es, ep, h1, h2, _⟩ := (show ObjOk X.prog X.w H s.heap a (.dT kvs) from I.hok a _ ea)
    exact PySem.W.kia_one PySem.W.kitx_dict I.kIn ⟨o, h1, h2.1⟩ e (fun z => nomatch z) h
  | @ins a C dx fs ea cl ha hn htk hm =>
    cases (show u = Value.ref a from rx)
    obtain ⟨mA, O, _⟩ := ins_get I.hok ea
    obtain ⟨od, J, _⟩ := O.look
    exact PySem.W.kia_one (PySem.W.kitx_own (cl.get _) cl.hd ha hn htk hm) I.kIn J e (fun z => nomatch z) h
end
end L2

namespace L2
open PySem PySem.Spec PyProof.Rows

/-! ### room -/
structure Room (k : Nat) (A : Around) : Prop where
  hd : A.handled = none
  dp : A.depth + 3 * k + 5 < recursionLimit
  un : A.units + 16 * k + 200 < cLine
theorem Room.mono {j k : Nat} {A : Around} (r : Room k A) (h : j ≤ k) : Room j A := ⟨r.hd, by have := r.dp; omega, by have := r.un; omega⟩
theorem Room.deeper {k : Nat} {A : Around} (r : Room (k + 1) A) (env : Env) : Room k (A.deeper env) :=
  ⟨r.hd, by have := r.dp; show A.depth + 1 + 3 * k + 5 < _; omega, by have := r.un; show A.units + 3 + 16 * k + 200 < _; omega⟩
theorem make_depth {A : Around} {C : Addr} {us : List Value} {kw : List (Str × Value)} : (A.under (.builtin "type.__call__" ⟨.ref C :: us, kw⟩)).depth = A.depth + 1 := by
  first | rfl | simp [Around.under, Code.weight, Code.isCreation, Code.isGuard, Code.isCaller, Code.frames, Code.isFrame, guardIds]
theorem make_units {A : Around} {C : Addr} {us : List Value} {kw : List (Str × Value)} : (A.under (.builtin "type.__call__" ⟨.ref C :: us, kw⟩)).units = A.units + 1 := by
  first | rfl | simp [Around.under, Code.cUnits, Code.frames, Code.isFrame]
theorem Room.make {k : Nat} {A : Around} (r : Room (k + 1) A) (C : Addr) (us : List Value) (kw : List (Str × Value)) : Room k (A.under (.builtin "type.__call__" ⟨.ref C :: us, kw⟩)) :=
  ⟨r.hd, by have := r.dp; rw [make_depth]; omega, by have := r.un; rw [make_units]; omega⟩
theorem Room.depth {k : Nat} {A : Around} (r : Room k A) : A.depth < recursionLimit := by have := r.dp; omega
theorem Room.units {k : Nat} {A : Around} (r : Room k A) : A.units + 64 < cLine := by have := r.un; omega
/-! ### argument lists and displays -/
def tNil : TA := fun _ H Q => Q [] H
def tCons (ta : TE) (tr : TA) : TA := fun σ H Q => ta σ H fun x H1 => tr σ H1 fun xs H2 => Q (x :: xs) H2
section
variable {X : Cx} {e : Expr} {es : List Expr} {te : TE} {t : TA} {pos : Pos}
theorem pa_nil : PA X [] tNil := fun _ _ _ _ H Q I h => Calls.spliced_nil ⟨[], H, I, .nil, h⟩
theorem pa_cons (ha : PE X e te) (hr : PA X es t) (hs : starEach (e :: es) X.env = (false, eval e X.env) :: starEach es X.env := by rfl) : PA X (e :: es) (tCons te t) := by
  intro pos pins s σ H Q I h
  rw [hs]
  show wpAny _ _ (spliced ((false, eval e X.env) :: backTo pos (starEach es X.env))) _ _ s
  refine Calls.spliced_cons (thn (ha pins s σ H _ I h) fun u s1 ⟨x, H1, I1, r1, q1⟩ => ?_)
  exact thn (hr pos pins s1 σ H1 _ I1 q1) fun us s2 ⟨xs, H2, I2, r2, q2⟩ => ⟨x :: xs, H2, I2, .cons r1 r2, q2⟩

/-- a tuple, a list of written items -/
def tTup (t : TA) : TE := fun σ H Q => t σ H fun xs H1 => xs.length ≤ sizeLine ∧ ∀ p, H1 p = none → Q (.ref p) (upd H1 p (.tup xs))
def tLst (t : TA) : TE := fun σ H Q => t σ H fun xs H1 => xs.length ≤ sizeLine ∧ ∀ p, H1 p = none → Q (.ref p) (upd H1 p (.lst xs))
theorem pe_tup {x1} (h : PA X es t) : PE X (.Tuple es x1 pos) (tTup t) := by
  intro pins s σ H Q I hq
  refine wpAny_Tuple_spliced (thn (h pos pins s σ H _ I hq) fun us s1 ⟨xs, H1, I1, r, z, q⟩ => ⟨by rw [← r.length]; exact z, ?_⟩)
  have hf : H1 s1.heap.objs.size = none := I1.hok.fresh (Nat.le_refl _)
  refine ⟨.ref s1.heap.objs.size, upd H1 s1.heap.objs.size (.tup xs), I1.laid (t' := s1.toks) (fun b u e => Heap.get?_push_of_some _ e) (Nat.le_refl _) ?_, rfl, q _ hf⟩
  exact ⟨z, us, r, ⟨_, Heap.get?_push_size _ rfl, rfl, _, rfl⟩⟩
theorem pe_lst (h : PA X es t) : PE X (.List es pos) (tLst t) := by
  intro pins s σ H Q I hq
  refine wpAny_List_spliced (thn (h pos pins s σ H _ I hq) fun us s1 ⟨xs, H1, I1, r, z, q⟩ => ⟨by rw [← r.length]; exact z, ?_⟩)
  have hf : H1 s1.heap.objs.size = none := I1.hok.fresh (Nat.le_refl _)
  refine ⟨.ref s1.heap.objs.size, upd H1 s1.heap.objs.size (.lst xs), I1.laid (t' := s1.toks) (fun b u e => Heap.get?_push_of_some _ e) (Nat.le_refl _) ?_, rfl, q _ hf⟩
  exact ⟨z, us, 0, r, Heap.get?_push_size _ rfl⟩
end

/-! ### what a def promises -/
/-- a def's promise: the bound arguments in the parameters' order, the heap, the wanted end, the wanted exception -/
abbrev Sp := List V → Hp → VK → XK → Prop
/-- how an exception lies behind a call (file 08 gives it): the callers' frames, abstract heap and state ahead of the call, the wish, the exception, the state -/
abbrev CXT := List Env → Hp → Shared → XK → Value → Shared → Prop

/-- the state at a call -/
structure Env0 (P : Program) (w : World) (K : PySem.W.Frag) (mg : Str → Option Value) (base : Heap) (A : Around) (outer : List Env) (s : Shared) (H : Hp) : Prop where
  frames : A.frames = some outer
  mod : Mod K mg base
  bs : ∀ b o, base.get? b = some o → s.heap.get? b = some o ∧ H b = none
  bsz : base.objs.size ≤ s.heap.objs.size
  funs : s.heap.FunFrames base outer
  frf : ∀ b ∈ frs outer, H b = none
  hok : HOk P w H s.heap
  bare : AllBare s.gens
/-- a call's end -/
def CE (outer : List Env) (P : Program) (w : World) (H : Hp) (s : Shared) (Q : VK) (u : Value) (s' : Shared) : Prop :=
  ∃ v H', s'.os = s.os ∧ AllBare s'.gens ∧ Un (frs outer) [] H H' s.heap s'.heap ∧ HOk P w H' s'.heap ∧ RelV v u ∧ Q v H'
def CR (CX : CXT) (outer : List Env) (P : Program) (w : World) (H : Hp) (s : Shared) (Q : VK) (E : XK) (r : Result) (s' : Shared) : Prop :=
  match r with
  | .ok (.ret u) => CE outer P w H s Q u s'
  | .ok _ => False
  | .error e => CX outer H s E e s'
structure FnOk (P : Program) (w : World) (K : PySem.W.Frag) (mg : Str → Option Value) (base : Heap) (CX : CXT) (k : Nat) (f : Addr) (fd : FuncData) (ps : List Str) (sp : Sp) : Prop where
  len : ∀ vs H Q E, sp vs H Q E → vs.length = ps.length
  run : ∀ (A : Around) (outer : List Env) (s : Shared) (H : Hp) (args : Args) (us : List Value) (vs : List V) (Q : VK) (E : XK), Room k A → Env0 P w K mg base A outer s H → BindsTo s fd args (ps.zip us) → Vals vs us → sp vs H Q E →
    codeAny (model P w) A (.call (.ref f) args) (CR CX outer P w H s Q E) s
theorem FnOk.mono {P : Program} {w : World} {K : PySem.W.Frag} {mg : Str → Option Value} {base : Heap} {CX : CXT} {j k : Nat} {f : Addr} {fd : FuncData} {ps : List Str} {sp : Sp} (F : FnOk P w K mg base CX j f fd ps sp) (h : j ≤ k) :
    FnOk P w K mg base CX k f fd ps sp := ⟨F.len, fun A outer s H args us vs Q E hr => F.run A outer s H args us vs Q E (hr.mono h)⟩
/-- a weaker promise -/
theorem FnOk.imp {P : Program} {w : World} {K : PySem.W.Frag} {mg : Str → Option Value} {base : Heap} {CX : CXT} {k : Nat} {f : Addr} {fd : FuncData} {ps : List Str} {sp sp' : Sp} (F : FnOk P w K mg base CX k f fd ps sp)
    (h : ∀ vs H Q E, sp' vs H Q E → sp vs H Q E) : FnOk P w K mg base CX k f fd ps sp' :=
  ⟨fun vs H Q E q => F.len vs H Q E (h _ _ _ _ q), fun A outer s H args us vs Q E hr he hb hv hs => F.run A outer s H args us vs Q E hr he hb hv (h _ _ _ _ hs)⟩

theorem Env0.make {P : Program} {w : World} {K : PySem.W.Frag} {mg : Str → Option Value} {base : Heap} {A : Around} {outer : List Env} {s : Shared} {H : Hp} (e : Env0 P w K mg base A outer s H) (C : Addr) (us : List Value) (kw : List (Str × Value)) :
    Env0 P w K mg base (A.under (.builtin "type.__call__" ⟨.ref C :: us, kw⟩)) outer s H := ⟨by first | exact e.frames | (simpa [Around.under, Code.envs, Code.isFrame, pushEnvs] using e.frames), e.mod, e.bs, e.bsz, e.funs, e.frf, e.hok, e.bare⟩
section
variable {X : Cx} {pins : List (Addr × Obj)} {σ : St} {H : Hp} {s s' : Shared}
/-- from a body: what a callee wants -/
theorem Inv.env0 (I : Inv X pins σ H s) : Env0 X.prog X.w X.K X.mg X.base X.A X.stack s H :=
  ⟨I.ok.frames, I.ok.mod, I.bs, Nat.le_trans I.ok.bsz I.sz, I.stack, I.stkFree, I.hok, I.bare⟩
/-- behind a call -/
theorem Inv.after {Q : VK} {u : Value} (I : Inv X pins σ H s) (h : CE X.stack X.prog X.w H s Q u s') : EP X pins σ Q u s' := by
  obtain ⟨v, H', os, bare, un, hok, r, q⟩ := h
  obtain ⟨hh, g, d, t, os'⟩ := s'
  obtain rfl : os' = s.os := os
  exact ⟨v, H', I.call (h' := hh) (g' := g) (d' := d) (t' := t) (ch := []) un hok bare (fun b z => absurd z (by simp)), r, q⟩
end

/-! ### calls -/
/-- f(..): the written arguments, then the defaults dvs; E: what is wanted of an exception -/
def tCall (sp : Sp) (dvs : List V) (E : XK) (t : TA) : TE := fun σ H Q => t σ H fun vs H1 => sp (vs ++ dvs) H1 Q E
/-- o.m(..) of an instance of the class at C -/
def tMeth (C : Addr) (m : Str) (sp : Sp) (dvs : List V) (E : XK) (ta : TE) (t : TA) : TE := fun σ H Q => ta σ H fun x H1 => ∃ a dx fs, x = .ref a ∧ H1 a = some (.ins C dx fs) ∧ fs.lookup m = none ∧
  t σ H1 fun vs H2 => sp (x :: (vs ++ dvs)) H2 Q E
/-- C(..): a new instance and its dict, then __init__ -/
def tMake (C : Addr) (sp : Sp) (dvs : List V) (E : XK) (t : TA) : TE := fun σ H Q => t σ H fun vs H1 => ∀ x dx, H1 x = none → H1 dx = none → dx ≠ x →
  sp (.ref x :: (vs ++ dvs)) (upd (upd H1 dx (.own x)) x (.ins C dx [])) (fun v H2 => v = .non ∧ Q (.ref x) H2) E

/-- how the parameters are bound: us the positional arguments, kw the keywords' values by name, ds the defaults that fill up -/
def Binds (K : PySem.W.Frag) (fd : FuncData) (ps : List Str) (ds : List Value) : Prop :=
  ∀ (s : Shared) (us : List Value), K.In s.heap → (us ++ ds).length = ps.length → BindsTo s fd ⟨us, []⟩ (ps.zip (us ++ ds))
/-- every parameter is given -/
theorem Binds.all {K : PySem.W.Frag} {fd : FuncData} {ps : List Str} (h : ∀ us : List Value, us.length = ps.length → bindArgs fd ⟨us, []⟩ = pure (ps.zip us)) : Binds K fd ps [] := fun s us _ hl => by
  rw [List.append_nil] at hl ⊢
  exact .of_eq (h us hl)

/-- an exception of a callee reaches what this body wants of exceptions -/
def Passes (CX : CXT) (X : Cx) (E : XK) : Prop := ∀ (pins : List (Addr × Obj)) (σ : St) (H : Hp) (s : Shared) (e : Value) (s' : Shared), Inv X pins σ H s → CX X.stack H s E e s' → X.xe e s'

section
variable {X : Cx} {CX : CXT} {k : Nat} {f C : Addr} {fd : FuncData} {ps : List Str} {sp : Sp} {dvs : List V} {ds : List Value} {E : XK} {x m : Str} {p pos apos : Pos} {e o : Expr} {es : List Expr} {ta : TE} {t : TA}

/-- the callee runs -/
theorem run_fn {pins : List (Addr × Obj)} {σ : St} {H : Hp} {s : Shared} {Q : VK} {us : List Value} {vs : List V} (F : FnOk X.prog X.w X.K X.mg X.base CX k f fd ps sp) (hr : Room k X.A) (hb : Binds X.K fd ps ds) (hd : Vals dvs ds) (hx : Passes CX X E)
    (I : Inv X pins σ H s) (r : Vals vs us) (h : sp (vs ++ dvs) H Q E) : wpAny (model X.prog X.w) X.A (call (.ref f) us) (EP X pins σ Q) X.xe s := by
  have r2 : Vals (vs ++ dvs) (us ++ ds) := r.append hd
  have hl : (us ++ ds).length = ps.length := by rw [← r2.length]; exact F.len _ _ _ _ h
  refine wpAny_call (codeAny_mono (F.run X.A X.stack s H ⟨us, []⟩ (us ++ ds) (vs ++ dvs) Q E hr I.env0 (hb s us I.kIn hl) r2 h) fun r s' hq => ?_)
  cases r with
  | error e => exact hx pins σ H s e s' I hq
  | ok fl =>
    cases fl with
    | ret u => exact I.after hq
    | next => exact False.elim hq
    | brk => exact False.elim hq
    | cont => exact False.elim hq

theorem pe_call (F : FnOk X.prog X.w X.K X.mg X.base CX k f fd ps sp) (hr : Room k X.A) (hg : Gl X x) (hm : X.mg x = some (.ref f)) (hk : PySem.W.keepIn X.K (.ref f) = true) (hb : Binds X.K fd ps ds) (hd : Vals dvs ds) (hx : Passes CX X E)
    (ha : PA X (e :: es) t) (hdb : (x == ("__debug__" : Str)) = false := by decide) (he : starEach (e :: es) X.env = (false, eval e X.env) :: starEach es X.env := by rfl) (hpl : (backTo pos (starEach es X.env)).any (·.1) = false := by rfl) :
    PE X (.Call (.Name x p) (e :: es) [] pos) (tCall sp dvs E t) := by
  intro pins s σ H Q I h
  refine wpAny_Call_Name_kw (ld_glob I hg hm ?_ hdb)
  refine PySem.W.callWith_K (h₀ := X.base) I.ok.mod.kin hk (thn (ha pos pins s σ H _ I h) fun us s1 ⟨vs, H1, I1, r, q⟩ => ⟨I1.kIn, ?_⟩) he hpl
  exact run_fn F hr hb hd hx I1 r q
/-- what a class must have to be made -/
structure Mk (K : PySem.W.Frag) (C f : Addr) : Prop where
  makes : PySem.W.makesIn K C = true
  init : PySem.W.findIn K (.ref C) "__init__" = some (some (.ref f))
  fn : PySem.W.isFn K (.ref f) = true
  kp : PySem.W.keepIn K (.ref C) = true

end

/-! ### keywords -/
/-- the values of the keywords, from the left -/
def PK (X : Cx) (kws : List Keyword) (t : TA) : Prop :=
  ∀ (pos : Pos) (pins : List (Addr × Obj)) (s : Shared) (σ : St) (H : Hp) (Q : List V → Hp → Prop), Inv X pins σ H s → t σ H Q → wpAny (model X.prog X.w) X.A (evalAll ((backToKw pos (keywordEach kws X.env)).map (·.2))) (AP X pins σ Q) X.xe s
section
variable {X : Cx} {CX : CXT} {k : Nat} {f C : Addr} {fd : FuncData} {ps ks : List Str} {sp : Sp} {E : XK} {x m : Str} {p pos apos kpos : Pos} {e o : Expr} {es : List Expr} {kws : List Keyword} {te ta : TE} {t tk : TA} {nm : Option Str}
/-- how a call with keywords binds: g puts the positional values us and the keywords' values ws (names ks) in the parameters' order, defaults among them -/
structure KBinds (K : PySem.W.Frag) (fd : FuncData) (ps ks : List Str) (g : List Value → List Value → List Value) (gV : List V → List V → List V) : Prop where
  to : ∀ (s : Shared) (us ws : List Value), K.In s.heap → (g us ws).length = ps.length → BindsTo s fd ⟨us, ks.zip ws⟩ (ps.zip (g us ws))
  rel : ∀ {vs : List V} {us : List Value} {zs : List V} {ws : List Value}, Vals vs us → Vals zs ws → Vals (gV vs zs) (g us ws)
def tCallK (sp : Sp) (gV : List V → List V → List V) (E : XK) (t tk : TA) : TE := fun σ H Q => t σ H fun vs H1 => tk σ H1 fun zs H2 => sp (gV vs zs) H2 Q E
variable {g : List Value → List Value → List Value} {gV : List V → List V → List V}
end

/-! ### a def's body keeps its promise -/
/-- names: the parameters first -/
structure FnScope (N P : List Str) (sc : Scope) : Prop where
  kind : sc.kind = .function
  co : sc.isCoroutine = false
  gen : sc.isGenerator = false
  nd : N.Nodup
  pre : N.take P.length = P
  par : ∀ x ∈ P, sc.names.lookup x = some .local ∨ sc.names.lookup x = some .cell
  nofree : ∀ y ∈ sc.names, y.2 ≠ .free

theorem bindL_out {kindOf : Str → Option NameKind} {x : Str} : ∀ {binds : List (Str × Value)} {m : Str → Option Value}, (∀ v, (x, v) ∉ binds) → bindL kindOf binds m x = m x
  | [], _, _ => rfl
  | (n, v) :: r, m, h => by
    unfold bindL
    rw [bindL_out fun w hw => h w (List.mem_cons_of_mem _ hw)]
    split
    · have : x ≠ n := by rintro rfl; exact h v List.mem_cons_self
      simp [this]
    · rfl
theorem bindC_out {kindOf : Str → Option NameKind} {x : Str} : ∀ {binds : List (Str × Value)} {m : Str → Option Value}, (∀ v, (x, v) ∉ binds) → bindC kindOf binds m x = m x
  | [], _, _ => rfl
  | (n, v) :: r, m, h => by
    unfold bindC
    rw [bindC_out fun w hw => h w (List.mem_cons_of_mem _ hw)]
    split
    · rfl
    · have : x ≠ n := by rintro rfl; exact h v List.mem_cons_self
      simp [this]
theorem bindL_get {kindOf : Str → Option NameKind} {x : Str} {v : Value} : ∀ {P : List Str} {vs : List Value} {i : Nat} {m : Str → Option Value}, P.Nodup → P[i]? = some x → vs[i]? = some v → kindOf x = some .local →
    bindL kindOf (P.zip vs) m x = some v
  | [], _, _, _, _, h, _, _ => by simp at h
  | _ :: _, [], _, _, _, _, h, _ => by simp at h
  | p :: P, w :: vs, 0, m, nd, h1, h2, hk => by
    simp at h1 h2; subst h1; subst h2
    show bindL kindOf ((p, w) :: P.zip vs) m p = _
    unfold bindL
    rw [bindL_out fun v hv => (List.nodup_cons.mp nd).1 (List.of_mem_zip hv).1, if_pos hk]
    simp
  | p :: P, w :: vs, i + 1, m, nd, h1, h2, hk => by
    show bindL kindOf ((p, w) :: P.zip vs) m x = _
    unfold bindL
    exact bindL_get (i := i) (List.nodup_cons.mp nd).2 (by simpa using h1) (by simpa using h2) hk
theorem bindC_get {kindOf : Str → Option NameKind} {x : Str} {v : Value} : ∀ {P : List Str} {vs : List Value} {i : Nat} {m : Str → Option Value}, P.Nodup → P[i]? = some x → vs[i]? = some v → kindOf x ≠ some .local →
    bindC kindOf (P.zip vs) m x = some v
  | [], _, _, _, _, h, _, _ => by simp at h
  | _ :: _, [], _, _, _, _, h, _ => by simp at h
  | p :: P, w :: vs, 0, m, nd, h1, h2, hk => by
    simp at h1 h2; subst h1; subst h2
    show bindC kindOf ((p, w) :: P.zip vs) m p = _
    unfold bindC
    rw [bindC_out fun v hv => (List.nodup_cons.mp nd).1 (List.of_mem_zip hv).1, if_neg hk]
    simp
  | p :: P, w :: vs, i + 1, m, nd, h1, h2, hk => by
    show bindC kindOf ((p, w) :: P.zip vs) m x = _
    unfold bindC
    exact bindC_get (i := i) (List.nodup_cons.mp nd).2 (by simpa using h1) (by simpa using h2) hk

/-- the names' values at the entry -/
def start (N : List Str) (vs : List V) : St := vs.map some ++ List.replicate (N.length - vs.length) none

/-- the context of a def's body, at its entry; an exception leaves the frame, then lies as CX says -/
def cxOf (CX : CXT) (P : Program) (w : World) (K : PySem.W.Frag) (mg : Str → Option Value) (base : Heap) (N : List Str) (qual : Str) (scope : Scope) (f : Addr) (cd : Value) (A : Around) (outer : List Env) (s : Shared) (H : Hp) (E : XK) : Cx where
  prog := P
  w := w
  K := K
  mg := mg
  base := base
  A := A.deeper (envOfC qual scope s.heap.objs.size f cd)
  N := N
  s₀ := s
  H₀ := H
  env := envOfC qual scope s.heap.objs.size f cd
  outer := outer
  stack := envOfC qual scope s.heap.objs.size f cd :: outer
  ex := []
  calm := true
  fn := fun _ => true
  pn := []
  xe := fun e s' => wpAny (model P w) (A.deeper (envOfC qual scope s.heap.objs.size f cd)) (leaving (envOfC qual scope s.heap.objs.size f cd) e) (fun _ s'' => CX outer H s E e s'') (fun e' s'' => CX outer H s E e' s'') s'

theorem cell_has {sc : Scope} {n : Nat} {x : Str} (h : sc.names.lookup x = some .cell) : ∃ c, (cellsFrom n sc.names []).lookup x = some c := by
  have q := PySem.W.cellsFrom_some sc.names n [] (.inl h)
  exact Option.isSome_iff_exists.mp q

theorem inv_start {CX : CXT} {P : Program} {w : World} {K : PySem.W.Frag} {mg : Str → Option Value} {base : Heap} {N ps : List Str} {qual : Str} {scope : Scope} {f : Addr} {cd : Value} {A : Around} {outer : List Env} {s s1 : Shared} {H : Hp} {E : XK} {us : List Value} {vs : List V}
    (S : FnScope N ps scope) (hd : A.handled = none) (e0 : Env0 P w K mg base A outer s H) (hl : vs.length = ps.length) (r : Vals vs us)
    (x : InCallC s s.heap.objs.size (bindL (envOfC qual scope s.heap.objs.size f cd).kindOf (ps.zip us) fun _ => none) (cellsFrom (s.heap.objs.size + 1) scope.names []) (bindC (envOfC qual scope s.heap.objs.size f cd).kindOf (ps.zip us) fun _ => none) s1) :
    Inv (cxOf CX P w K mg base N qual scope f cd A outer s H E) [] (start N vs) H s1 := by
  have hpl : ps.length ≤ N.length := by have := congrArg List.length S.pre; rw [List.length_take] at this; omega
  obtain ⟨h1, tk, rfl, hk⟩ := x.done
  have noA : ∀ b : Addr, b ∉ (cxOf CX P w K mg base N qual scope f cd A outer s H E).ex := fun b z => absurd (show b ∈ ([] : List Addr) from z) (by simp)
  refine ⟨⟨e0.mod, S.kind, rfl, rfl, Nat.le_refl _, fun y z c h1 h2 => ?_, fun y hy => ?_, fun y c _ h => ?_, fun _ => hd, Around.frames_deeper e0.frames, .inr ⟨rfl, rfl⟩, fun b z => absurd z (noA b), e0.bs, e0.bsz, fun b _ _ => noA b, fun b z => absurd z (noA b), e0.funs, e0.frf⟩,
    rfl, e0.bare, Un.kept hk, ⟨_, x.toInCall.ns, fun i y v h1 h2 h3 => ?_⟩, fun y c h => ⟨_, x.cell y c h⟩, e0.hok.fresh (Nat.le_refl _), fun y c h => ?_, fun p hp => absurd (show p ∈ ([] : List (Addr × Obj)) from hp) (by simp), e0.hok.kept hk, ?_⟩
  · exact name_of_addr x.apart (PySem.mem_of_lookup h1) (PySem.mem_of_lookup h2)
  · have hy : scope.names.lookup y = some .cell ∨ scope.names.lookup y = some .free := hy
    rcases hy with hy | hy
    · exact cell_has hy
    · exact absurd rfl (S.nofree _ (PySem.mem_of_lookup hy))
  · exact Nat.le_of_lt (x.above y c (PySem.mem_of_lookup h))
  · have hi : i < vs.length := by
      unfold start at h2
      by_cases hi : i < vs.length
      · exact hi
      · rw [List.getElem?_append_right (by simpa using hi)] at h2
        rw [List.getElem?_replicate] at h2
        split at h2 <;> cases h2
    have ha : vs[i]? = some v := by
      unfold start at h2
      rw [List.getElem?_append_left (by simpa using hi), List.getElem?_map] at h2
      cases e : vs[i]? with
      | none => rw [e] at h2; cases h2
      | some a => rw [e] at h2; cases h2; rfl
    obtain ⟨u, hu, rv⟩ := r.get ha
    have hp : ps[i]? = some y := by
      rw [← S.pre, List.getElem?_take_of_lt (by omega)]; exact h1
    have ndP : ps.Nodup := by rw [← S.pre]; exact S.nd.sublist (List.take_sublist _ _)
    refine ⟨u, rv, ?_⟩
    rcases S.par y (List.mem_of_getElem? hp) with k | k
    · exact .inl ⟨k, bindL_get ndP hp hu k⟩
    · obtain ⟨c, e⟩ := cell_has (n := s.heap.objs.size + 1) k
      refine .inr ⟨.inl k, c, e, ?_⟩
      have q := x.cell y c e
      rw [bindC_get ndP hp hu (by show scope.names.lookup y ≠ _; rw [k]; decide)] at q
      exact q
  · exact e0.hok.fresh (Nat.le_of_lt (x.above y c (PySem.mem_of_lookup h)))
  · unfold start
    show _ = N.length
    rw [List.length_append, List.length_map, List.length_replicate]
    omega

/-- THE RULE: a def (or a method) of the text, by its body. The body's reading t is chosen for each entry; it is run at the parameters' values -/
theorem fn_of {CX : CXT} {P : Program} {w : World} {K : PySem.W.Frag} {mg : Str → Option Value} {base : Heap} {k : Nat} {f : Addr} {name qual : Str} {params : Arguments} {body : List Stmt} {scope : Scope} {dV kV doc pm cdv ct oc : Value} {an od : Option Addr}
    {osl : Array (Option Value)} {N ps : List Str} {sp : Sp} (lk : K.lookup f = some ⟨oc, od, .func (PySem.W.fnOf name qual params body scope dV kV doc pm an cdv ct), osl⟩) (hcd : PySem.W.codeIn K cdv qual = true) (S : FnScope N ps scope)
    (len : ∀ vs H Q E, sp vs H Q E → vs.length = ps.length)
    (hbody : ∀ (A : Around) (outer : List Env) (s : Shared) (H : Hp) (vs : List V) (Q : VK) (E : XK), Room k (A.deeper (envOfC qual scope s.heap.objs.size f cdv)) → sp vs H Q E →
      ∃ t, PSs (cxOf CX P w K mg base N qual scope f cdv A outer s H E) body t ∧ t { nx := fun _ H' => Q .non H', rt := Q } (start N vs) H) :
    FnOk P w K mg base CX (k + 1) f (PySem.W.fnOf name qual params body scope dV kV doc pm an cdv ct) ps sp := by
  refine ⟨len, fun A outer s H args us vs Q E hr e0 hb r hsp => ?_⟩
  have hl := len _ _ _ _ hsp
  have KX : K.In s.heap := e0.mod.kin.keeps fun b o e => (e0.bs b o e).1
  have lim : s.heap.NoLimit := e0.mod.nolimit.keeps fun b o e => (e0.bs b o e).1
  have hkind : ∀ y ∈ ps.zip us, scope.names.lookup y.1 = some .local ∨ (scope.names.lookup y.1 = some .cell ∧ ((cellsFrom (s.heap.objs.size + 1) scope.names []).lookup y.1).isSome = true) := fun ⟨n, v⟩ hy => by
    rcases S.par n (List.of_mem_zip hy).1 with q | q
    · exact .inl q
    · exact .inr ⟨q, PySem.W.cellsFrom_some _ _ _ (.inl q)⟩
  refine codeAny_call_function hr.depth (KX _ _ lk) rfl S.co S.gen rfl (PySem.W.codeRec_of KX hcd) (hb _ _ _ _ ?_)
  refine wpAny_newFunctionEnv_cells S.kind hkind fun env he s1 x => ?_
  subst he
  refine ⟨lim.keeps x.toInCall.keep, codeAny_func ?_⟩
  obtain ⟨t, ht, hq⟩ := hbody A outer s H vs Q E (hr.deeper _) hsp
  have I : Inv (cxOf CX P w K mg base N qual scope f cdv A outer s H E) [] (start N vs) H s1 := inv_start S hr.hd e0 hl r x
  refine wpAny_mono (ht [] s1 (start N vs) H _ I hq) (fun fl s' hs => ?_) fun e s' hs => hs
  have fin : ∀ {σ' : St} {H' : Hp} {v : V} {u : Value}, Inv (cxOf CX P w K mg base N qual scope f cdv A outer s H E) [] σ' H' s' → RelV v u → Q v H' → CE outer P w H s Q u s' :=
    fun {σ' H' v u} J rv q => ⟨v, H', J.os, J.bare, J.base, J.hok, rv, q⟩
  cases fl with
  | ret u =>
    obtain ⟨v, σ', H', J, rv, q⟩ := hs
    exact fin J rv q
  | next =>
    obtain ⟨σ', H', J, q⟩ := hs
    exact fin (v := V.non) (u := Value.none) J rfl q
  | brk =>
    obtain ⟨_, _, _, q⟩ := hs
    exact False.elim q
  | cont =>
    obtain ⟨_, _, _, q⟩ := hs
    exact False.elim q
end L2

namespace L2
open PySem PySem.Spec PyProof.Rows
section
variable {X : Cx} {x : Str} {p pos : Pos} {e : Expr} {es : List Expr} {t : TA} {id T : String} {r : List V → Hp → VK → Prop}

def tCB (r : List V → Hp → VK → Prop) (t : TA) : TE := fun σ H Q => t σ H fun vs H1 => r vs H1 Q
/-- f(e, ..), f a built-in function -/
theorem pe_callB (hc : CallR X (.builtin id) r) (hg : Gl X x) (hm : X.mg x = none) (hv : bootBuiltins x = some (.builtin id)) (ha : PA X (e :: es) t) (hn : x ≠ "__name__" := by decide) (hdb : (x == ("__debug__" : Str)) = false := by decide)
    (he : starEach (e :: es) X.env = (false, eval e X.env) :: starEach es X.env := by rfl) (hpl : (backTo pos (starEach es X.env)).any (·.1) = false := by rfl) : PE X (.Call (.Name x p) (e :: es) [] pos) (tCB r t) := by
  intro pins s σ H Q I h
  refine wpAny_Call_Name_kw (ld_blt I hg hm hv ?_ hn hdb)
  exact PyProof.Rows.callWith_builtin1 (thn (ha pos pins s σ H _ I h) fun us s1 ⟨vs, H1, I1, r1, q1⟩ => hc pins s1 σ H1 vs us Q I1 r1 q1) he hpl
end
end L2

namespace HT
open PySem PyProof.Rows

/-- t < u of tuples of ints -/
def lexLt : List Int → List Int → Bool
  | [], [] => false
  | [], _ :: _ => true
  | _ :: _, [] => false
  | x :: xs, y :: ys => if x = y then lexLt xs ys else decide (x < y)
section
open PySem.SeqAt
open PySem.AutoSeq1 (wpAny_loadPart')
open PySem.MeetsSeq PySem.MeetsSeq2 PySem.MeetsSeq3

end

section
variable {prog : Program} {w : World} {A : Around} {E : Value → Shared → Prop} {s : Shared}

/-! ### t[a:b], not the whole -/
/-- a slice's bound as a place among n (d where it is left out) -/
def sIx (n d : Nat) : Option Int → Nat
  | none => d
  | some v => if v < 0 then (v + (n : Int)).toNat else min v.toNat n
theorem sIx_none (n d : Nat) : sIx n d none = d := rfl
theorem sIx_nat (n d k : Nat) : sIx n d (some (k : Int)) = min k n := by
  show (if (k : Int) < 0 then ((k : Int) + (n : Int)).toNat else min (k : Int).toNat n) = min k n
  rw [if_neg (by omega), Int.toNat_natCast]
end
end HT

namespace L2
open PySem PySem.Spec PyProof.Rows

/-! ### the parts of a slice -/
abbrev TO := St → Hp → (Option Int → Hp → Prop) → Prop
/-- a slice's part (left out, or an int) -/
def PO (X : Cx) (e : Option Expr) (t : TO) : Prop :=
  ∀ (pins : List (Addr × Obj)) (s : Shared) (σ : St) (H : Hp) (Q : Option Int → Hp → Prop), Inv X pins σ H s → t σ H Q →
    wpAny (model X.prog X.w) X.A (evalPart e X.env) (fun u s' => ∃ o H', Inv X pins σ H' s' ∧ IsPart u o ∧ Q o H') X.xe s
def tNoPart : TO := fun _ H Q => Q none H
def tPart (t : TE) : TO := fun σ H Q => t σ H fun x H1 => ∃ i, x = .int i ∧ Q (some i) H1

section
variable {X : Cx} {e : Expr} {te : TE} {lo hi : Option Expr} {tl th : TO} {pos p2 : Pos}

theorem po_none : PO X none tNoPart := by
  intro pins s σ H Q I h
  rw [evalPart_none]
  exact wpAny_pure ⟨none, H, I, .none, h⟩
theorem po_some (h : PE X e te) : PO X (some e) (tPart te) := by
  intro pins s σ H Q I hw
  rw [evalPart_some]
  refine thn (h pins s σ H _ I hw) fun u s1 ⟨x, H1, I1, r1, q1⟩ => ?_
  obtain ⟨i, rfl, q⟩ := q1
  obtain ⟨t, rfl⟩ := r1
  exact ⟨some i, H1, I1, .int i t, q⟩

/-- what a slice of a value is, by values: the slice object stands at sl -/
def SlR (X : Cx) (r : V → Option Int → Option Int → Hp → VK → Prop) : Prop :=
  ∀ (pins : List (Addr × Obj)) (s : Shared) (σ : St) (H : Hp) (x : V) (v vl vu : Value) (lo hi : Option Int) (sl : Addr) (Q : VK), Inv X pins σ H s → RelV x v → s.heap.IsSliceOf sl vl vu .none → IsPart vl lo → IsPart vu hi → r x lo hi H Q →
    ∃ T id, typeLookup (.type T) "__getitem__" = pure (some (.builtin id)) ∧ s.TypeIs v T ∧ wpAny (model X.prog X.w) X.A (getItem v (.ref sl)) (EP X pins σ Q) X.xe s
theorem SlR.or {r r' : V → Option Int → Option Int → Hp → VK → Prop} (h : SlR X r) (h' : SlR X r') : SlR X (fun x lo hi H Q => r x lo hi H Q ∨ r' x lo hi H Q) := by
  intro pins s σ H x v vl vu lo hi sl Q I rx hs pl pu q
  rcases q with q | q
  · exact h pins s σ H x v vl vu lo hi sl Q I rx hs pl pu q
  · exact h' pins s σ H x v vl vu lo hi sl Q I rx hs pl pu q
def tSl (r : V → Option Int → Option Int → Hp → VK → Prop) (te : TE) (tl th : TO) : TE := fun σ H Q => te σ H fun x H1 => tl σ H1 fun l H2 => th σ H2 fun u H3 => r x l u H3 Q
/-- a[lo:hi], any a -/
theorem pe_slice {r : V → Option Int → Option Int → Hp → VK → Prop} (hr : SlR X r) (he : PE X e te) (hl : PO X lo tl) (hu : PO X hi th) : PE X (.Subscript e (.Slice lo hi none p2) pos) (tSl r te tl th) := by
  intro pins s σ H Q I h
  refine Subscript_ (thn (he pins s σ H _ I h) fun v s1 ⟨x, H1, I1, r1, q1⟩ => ?_)
  refine wpAny_Slice (thn (hl pins s1 σ H1 _ I1 q1) fun vl s2 ⟨l, H2, I2, pl, q2⟩ => thn (hu pins s2 σ H2 _ I2 q2) fun vu s3 ⟨u, H3, I3, pu, q3⟩ => ?_)
  rw [evalPart_none]
  refine wpAny_pure ?_
  have I4 : Inv X pins σ H3 { s3 with heap := s3.heap.push { cls := .type "slice", data := .fields #[vl, vu, .none] } } := I3.kept (t' := s3.toks) fun b ob q => Heap.get?_push_of_some _ q
  obtain ⟨T, id, hT, ht, hg⟩ := hr pins { s3 with heap := s3.heap.push { cls := .type "slice", data := .fields #[vl, vu, .none] } } σ H3 x v vl vu l u s3.heap.objs.size Q I4 r1 (Heap.IsSliceOf.new ..) pl pu q3
  show wpAny (model X.prog X.w) X.A (subscriptTail e (.Slice lo hi none p2) v (.ref s3.heap.objs.size)) (EP X pins σ Q) X.xe { s3 with heap := s3.heap.push { cls := .type "slice", data := .fields #[vl, vu, .none] } }
  exact tail_any (ops := [.ref s3.heap.objs.size, v]) ht hT hg (by with_unfolding_all rfl)

/-- the items of xs[lo:hi] -/
def cutV (xs : List V) (lo hi : Option Int) : List V := (xs.drop (HT.sIx xs.length 0 lo)).take (HT.sIx xs.length xs.length hi - HT.sIx xs.length 0 lo)
theorem cutV_length (xs : List V) (lo hi : Option Int) : (cutV xs lo hi).length ≤ xs.length := by
  unfold cutV
  rw [List.length_take, List.length_drop]
  omega
/-- t[lo:hi], not the whole of it (the whole would be t itself) -/
def rSlT (K : PySem.W.Frag) : V → Option Int → Option Int → Hp → VK → Prop := fun x lo hi H Q => ∃ a xs, x = .ref a ∧ SqT K H a xs ∧
  ¬ (HT.sIx xs.length 0 lo = 0 ∧ HT.sIx xs.length xs.length hi = xs.length) ∧ ∀ p, H p = none → Q (.ref p) (upd H p (.tup (cutV xs lo hi)))
/-! ### t < u, t + u -/
def rLtT (K : PySem.W.Frag) : R2 := fun x y H Q => ∃ a b ns ms, x = .ref a ∧ y = .ref b ∧ SqT K H a (ns.map V.int) ∧ SqT K H b (ms.map V.int) ∧ Q (.bl (HT.lexLt ns ms)) H
/-- t + u, t not empty: u empty gives t itself -/
def rCatT (K : PySem.W.Frag) : R2 := fun x y H Q => ∃ a b xs ys, x = .ref a ∧ y = .ref b ∧ SqT K H a xs ∧ SqT K H b ys ∧ xs ≠ [] ∧ xs.length + ys.length ≤ sizeLine ∧
  (ys = [] → Q (.ref a) H) ∧ (ys ≠ [] → ∀ p, H p = none → Q (.ref p) (upd H p (.tup (xs ++ ys))))
end
end L2

namespace L2
open PySem PySem.Spec PyProof.Rows

/-! ### places -/
/-- the place that an index of any sign means -/
def ixN (n : Nat) (i : Int) : Option Nat := if 0 ≤ i then (if i < n then some i.toNat else none) else if -(n : Int) ≤ i then some (i + n).toNat else none
def atI {α : Type} (xs : List α) (i : Int) : Option α := (ixN xs.length i).bind fun j => xs[j]?
theorem ixN_seq {n : Nat} {i : Int} {j : Nat} (h : ixN n i = some j) : seqIndex? i n = some j ∧ j < n ∧ -(n : Int) ≤ i ∧ i < n := by
  unfold ixN at h
  by_cases h0 : 0 ≤ i
  · rw [if_pos h0] at h
    by_cases h1 : i < n
    · rw [if_pos h1] at h
      have e : i.toNat = j := Option.some.inj h
      exact ⟨by rw [seqIndex_of h0 h1, e], by omega, by omega, h1⟩
    · rw [if_neg h1] at h; cases h
  · rw [if_neg h0] at h
    by_cases h1 : -(n : Int) ≤ i
    · rw [if_pos h1] at h
      have e : (i + n).toNat = j := Option.some.inj h
      exact ⟨by rw [seqIndex_neg (by omega) h1, e], by omega, h1, by omega⟩
    · rw [if_neg h1] at h; cases h
theorem atI_get {α : Type} {xs : List α} {i : Int} {v : α} (h : atI xs i = some v) : ∃ j, seqIndex? i xs.length = some j ∧ xs[j]? = some v ∧ j < xs.length ∧ -(xs.length : Int) ≤ i ∧ i < xs.length := by
  unfold atI at h
  cases e : ixN xs.length i with
  | none => rw [e] at h; cases h
  | some j =>
    rw [e] at h
    obtain ⟨h1, h2, h3, h4⟩ := ixN_seq e
    exact ⟨j, h1, h, h2, h3, h4⟩
theorem atI_nat {α : Type} {xs : List α} {j : Nat} {v : α} (h : xs[j]? = some v) : atI xs (j : Int) = some v := by
  have hj : j < xs.length := (List.getElem?_eq_some_iff.mp h).1
  have e : ixN xs.length (j : Int) = some j := by
    unfold ixN
    rw [if_pos (by omega), if_pos (by omega)]; simp
  unfold atI; rw [e]; exact h
/-! ### what may be subscripted -/
/-- what stands as an index of a plain subscript -/
def PlainIx (b : Expr) : Prop := ∀ o i, subscripted b false o i = operate [o, i] (getItem o i)
/-- a subscript by values -/
def IxR (X : Cx) (r : R2) : Prop :=
  ∀ (value slice : Expr) (pins : List (Addr × Obj)) (s : Shared) (σ : St) (H : Hp) (x y : V) (v u : Value) (Q : VK), Inv X pins σ H s → RelV x v → RelV y u → r x y H Q →
    subscripted slice false v u = operate [v, u] (getItem v u) → wpAny (model X.prog X.w) X.A (subscriptTail value slice v u) (EP X pins σ Q) X.xe s
/-- a call of a builtin's method by values: the receiver, the arguments -/
def MtR (X : Cx) (id : String) (r : V → List V → Hp → VK → Prop) : Prop :=
  ∀ (pins : List (Addr × Obj)) (s : Shared) (σ : St) (H : Hp) (x : V) (xs : List V) (v : Value) (us : List Value) (Q : VK), Inv X pins σ H s → RelV x v → Vals xs us → r x xs H Q →
    wpAny (model X.prog X.w) X.A (call (.builtin id) (v :: us)) (EP X pins σ Q) X.xe s
section
variable {X : Cx} {a b : Expr} {ta tb : TE} {pos : Pos}
theorem IxR.or {r r' : R2} (h : IxR X r) (h' : IxR X r') : IxR X (fun x y H Q => r x y H Q ∨ r' x y H Q) := by
  intro value slice pins s σ H x y v u Q I rx ry q hs
  rcases q with q | q
  · exact h value slice pins s σ H x y v u Q I rx ry q hs
  · exact h' value slice pins s σ H x y v u Q I rx ry q hs
theorem MtR.or {id : String} {r r' : V → List V → Hp → VK → Prop} (h : MtR X id r) (h' : MtR X id r') : MtR X id (fun x xs H Q => r x xs H Q ∨ r' x xs H Q) := by
  intro pins s σ H x xs v us Q I rx rs q
  rcases q with q | q
  · exact h pins s σ H x xs v us Q I rx rs q
  · exact h' pins s σ H x xs v us Q I rx rs q
/-- a[b] -/
theorem pe_ix {r : R2} (hr : IxR X r) (ha : PE X a ta) (hb : PE X b tb) (hs : PlainIx b) : PE X (.Subscript a b pos) (tOp r ta tb) := by
  intro pins s σ H Q I h
  exact Subscript_ (binT ha hb I h fun v u s2 x y H2 I2 rx ry q => hr a b pins s2 σ H2 x y v u Q I2 rx ry q (hs _ _))

def rIxL (K : PySem.W.Frag) : R2 := fun x y H Q => ∃ p xs i v, x = .ref p ∧ y = .int i ∧ SqL K H p xs ∧ atI xs i = some v ∧ Q v H
def rIxT (K : PySem.W.Frag) : R2 := fun x y H Q => ∃ p xs i v, x = .ref p ∧ y = .int i ∧ SqT K H p xs ∧ atI xs i = some v ∧ Q v H
def rIxS : R2 := fun x y H Q => ∃ z i c, x = .str z ∧ y = .int i ∧ z.length ≤ sizeLine ∧ atI z.cps.toList i = some c ∧ Q (.str ⟨#[c]⟩) H
theorem ix_list : IxR X (rIxL X.K) := by
  intro value slice pins s σ H x y v u Q I rx ry h hs
  obtain ⟨p, xs, i, z, rfl, rfl, hq, he, q⟩ := h
  cases rx
  obtain ⟨t, rfl⟩ := ry
  obtain ⟨its, r, pl, hz⟩ := I.list hq
  obtain ⟨j, h1, h2, h3, h4, h5⟩ := atI_get he
  obtain ⟨w, ew, rw'⟩ := r.get h2
  have hl := r.length
  have hn := line63
  have fin : EP X pins σ Q w s := ⟨z, H, I, rw', q⟩
  by_cases h0 : 0 ≤ i
  · have hj : i.toNat = j := by
      rw [seqIndex_of h0 h5] at h1
      exact Option.some.inj h1
    exact item_listR pl.isList h0 (by omega) (by rw [hj]; simpa using ew) fin hs
  · have hj : (i + (its.toArray.size : Int)).toNat = j := by
      rw [seqIndex_neg (by omega) h4] at h1
      rw [List.size_toArray, ← hl]
      exact Option.some.inj h1
    exact subscriptTail_builtinR (x := w) pl.isList.typeIs slot_list_getitem.lookup
      (wpAny_getItem_list_neg (Q := fun r s' => r = w ∧ EP X pins σ Q r s') pl.isList (by omega) (by rw [List.size_toArray] <;> omega) (by omega) (by rw [hj]; simpa using ew) ⟨rfl, fin⟩) hs
theorem ix_tup : IxR X (rIxT X.K) := by
  intro value slice pins s σ H x y v u Q I rx ry h hs
  obtain ⟨p, xs, i, z, rfl, rfl, hq, he, q⟩ := h
  cases rx
  obtain ⟨t, rfl⟩ := ry
  obtain ⟨its, r, pl, hz⟩ := I.tuple hq
  obtain ⟨j, h1, h2, h3, h4, h5⟩ := atI_get he
  obtain ⟨w, ew, rw'⟩ := r.get h2
  have hl := r.length
  have hn := line63
  have fin : EP X pins σ Q w s := ⟨z, H, I, rw', q⟩
  exact subscriptTail_builtinR (x := w) pl.typeIs slot_tuple_getitem.lookup
    (getItem_tuple (j := j) (Q := fun r s' => r = w ∧ EP X pins σ Q r s') pl (by omega) (by omega) (by rw [List.size_toArray, ← hl]; exact h1) (by simpa using ew) ⟨rfl, fin⟩) hs
/-- list, tuple or str -/
def rIx (K : PySem.W.Frag) : R2 := fun x y H Q => rIxL K x y H Q ∨ rIxT K x y H Q ∨ rIxS x y H Q
/-! ### xs[i] = v, any sign -/
theorem Inv.lst {pins : List (Addr × Obj)} {σ : St} {H : Hp} {s : Shared} {p : Addr} {xs : List V} (I : Inv X pins σ H s) (h : H p = some (.lst xs)) :
    ∃ (its : List Value) (n : Nat), Vals xs its ∧ s.heap.get? p = some { cls := .type "list", data := .seq its.toArray n } ∧ xs.length ≤ sizeLine := by
  obtain ⟨z, its, n, r, e⟩ := I.hok p _ h
  exact ⟨its, n, r, e, z⟩
def rSetL : V → V → V → Hp → (Hp → Prop) → Prop := fun o i v H Q => ∃ p xs k j, o = .ref p ∧ i = .int k ∧ H p = some (.lst xs) ∧ ixN xs.length k = some j ∧ Q (upd H p (.lst (xs.set j v)))
/-! ### slices -/
theorem slice_bounds (lo hi : Option Int) (n : Nat) : (sliceBounds lo hi none n).1 = ((HT.sIx n 0 lo : Nat) : Int) ∧ (sliceBounds lo hi none n).2.1 = ((HT.sIx n n hi : Nat) : Int) ∧ (sliceBounds lo hi none n).2.2 = 1 := by
  refine ⟨?_, ?_, rfl⟩
  · cases lo with
    | none => simp [sliceBounds, HT.sIx]
    | some i =>
      simp only [sliceBounds, HT.sIx, Option.getD_none, show (1 : Int) > 0 by decide, if_true]
      by_cases h : i < 0
      · simp only [h, if_true] <;> omega
      · simp only [h, if_false] <;> omega
  · cases hi with
    | none => simp [sliceBounds, HT.sIx]
    | some i =>
      simp only [sliceBounds, HT.sIx, Option.getD_none, show (1 : Int) > 0 by decide, if_true]
      by_cases h : i < 0
      · simp only [h, if_true] <;> omega
      · simp only [h, if_false] <;> omega
theorem slicePick_cut (its : List Value) (lo hi : Option Int) : slicePick its.toArray lo hi none = ((its.drop (HT.sIx its.length 0 lo)).take (HT.sIx its.length its.length hi - HT.sIx its.length 0 lo)).toArray := by
  obtain ⟨h1, h2, h3⟩ := slice_bounds lo hi its.toArray.size
  unfold slicePick
  rw [h1, h2, h3]
  simp only [sliceRange_one, pick_run, List.size_toArray] <;> rfl
/-- xs[lo:hi] of a list: a new list -/
def rSlL (K : PySem.W.Frag) : V → Option Int → Option Int → Hp → VK → Prop := fun x lo hi H Q => ∃ a xs, x = .ref a ∧ SqL K H a xs ∧ ∀ p, H p = none → Q (.ref p) (upd H p (.lst (cutV xs lo hi)))
theorem sl_list : SlR X (rSlL X.K) := by
  intro pins s σ H x v vl vu lo hi sl Q I rx hs pl pu h
  obtain ⟨a, xs, rfl, hx, q⟩ := h
  cases rx
  obtain ⟨its, r, ht, hz⟩ := I.list hx
  have hlen := r.length
  refine ⟨"list", _, slot_list_getitem.lookup, ht.isList.typeIs, ?_⟩
  refine wpAny_getItem_list_slice ht.isList hs pl pu .none (by simp) ?_ (by rw [List.size_toArray] <;> omega)
  rw [slicePick_cut, ← hlen]
  refine ⟨.ref s.heap.objs.size, _, I.laid (t' := s.toks) (o := .lst (cutV xs lo hi)) (fun b ob q => Heap.get?_push_of_some _ q) (Nat.le_refl _) ?_, rfl, q _ (I.hok.fresh (Nat.le_refl _))⟩
  exact ⟨Nat.le_trans (cutV_length xs lo hi) hz, _, 0, (r.drop (HT.sIx xs.length 0 lo)).take (HT.sIx xs.length xs.length hi - HT.sIx xs.length 0 lo), Heap.get?_push_size _ rfl⟩

/-! ### in, not in: flat items -/
def flatV : V → Bool
  | .non => true
  | .bl _ => true
  | .int _ => true
  | .str _ => true
  | _ => false
/-- == of flat values -/
def eqV : V → V → Bool
  | .non, .non => true
  | .bl a, .bl b => a == b
  | .bl a, .int b => (if a then 1 else 0) == b
  | .int a, .bl b => a == (if b then 1 else 0)
  | .int a, .int b => a == b
  | .str a, .str b => a == b
  | _, _ => false
/-- the items' answers, read off the values (a value's own answer does not lean on its token) -/
def eqU (x : V) (u : Value) : Bool := match u with
  | .none => eqV .non x
  | .bool b => eqV (.bl b) x
  | .int i _ => eqV (.int i) x
  | .str z _ => eqV (.str z) x
  | _ => false
def inV (x : V) (xs : List V) : Bool := xs.any fun y => eqV y x
/-- x in a list or tuple of flat items -/
def rIn (K : PySem.W.Frag) (neg : Bool) : R2 := fun x y H Q => ∃ p xs, y = .ref p ∧ (SqL K H p xs ∨ SqT K H p xs) ∧ flatV x = true ∧ xs.all flatV = true ∧ Q (.bl (if neg then !inV x xs else inV x xs)) H
/-! ### len, list(x), tuple(x) of any list or tuple that is read -/
theorem call_len_seq : CallR X (.builtin "len") (fun xs H Q => ∃ p ys, xs = [.ref p] ∧ (SqL X.K H p ys ∨ SqT X.K H p ys) ∧ Q (.int ys.length) H) := by
  intro pins s σ H xs us Q I r h
  obtain ⟨p, ys, rfl, hq, q⟩ := h
  obtain ⟨u, rfl, rx⟩ := vals1 r
  cases rx
  have hn := line63
  rcases hq with hq | hq
  · obtain ⟨its, r', pl, hz⟩ := I.list hq
    have hlen := r'.length
    exact Calls.call_len_list pl.isList (by simp only [List.size_toArray] <;> omega) ⟨.int ys.length, H, I.tok _, ⟨s.toks + 1, by rw [List.size_toArray, hlen]⟩, q⟩
  · obtain ⟨its, r', pl, hz⟩ := I.tuple hq
    have hlen := r'.length
    exact len_tuple pl (by simp only [List.size_toArray] <;> omega) ⟨.int ys.length, H, I.tok _, ⟨s.toks + 1, by rw [List.size_toArray, hlen]⟩, q⟩
theorem CallR.or {f : Value} {r r' : List V → Hp → VK → Prop} (h : CallR X f r) (h' : CallR X f r') : CallR X f (fun xs H Q => r xs H Q ∨ r' xs H Q) := by
  intro pins s σ H xs us Q I rs q
  rcases q with q | q
  · exact h pins s σ H xs us Q I rs q
  · exact h' pins s σ H xs us Q I rs q
/-! ### the call of a builtin's method: o.m(..) -/
/-- the value is of that builtin type -/
def tyV (K : PySem.W.Frag) (T : String) (x : V) (H : Hp) : Prop := match x with
  | .str _ => T = "str"
  | .int _ => T = "int"
  | .ref p => (T = "list" ∧ ∃ xs, SqL K H p xs) ∨ (T = "tuple" ∧ ∃ o, K.lookup p = some o ∧ o.cls = .type "tuple" ∧ o.dict = none) ∨
      (T = "dict" ∧ ((∃ kvs, H p = some (.dK kvs)) ∨ ∃ kvs, H p = some (.dT kvs))) ∨ (T = "set" ∧ ∃ S n, H p = some (.set S n))
  | _ => False
theorem tyV_is {pins : List (Addr × Obj)} {σ : St} {H : Hp} {s : Shared} {T : String} {x : V} {v : Value} (I : Inv X pins σ H s) (r : RelV x v) (ty : tyV X.K T x H) :
    s.TypeIs v T ∧ ∀ a, v = .ref a → ∃ ob, s.heap.get? a = some ob ∧ ob.dict = none := by
  cases x with
  | str z =>
    obtain ⟨t, rfl⟩ := r
    cases (show T = "str" from ty)
    exact ⟨typeIs_str s z t, fun _ e => nomatch e⟩
  | int i =>
    obtain ⟨t, rfl⟩ := r
    cases (show T = "int" from ty)
    exact ⟨typeIs_int s i t, fun _ e => nomatch e⟩
  | ref p =>
    cases r
    rcases ty with ⟨rfl, xs, hq⟩ | ⟨rfl, o, hk, hc, hd⟩ | ⟨rfl, hk⟩ | ⟨rfl, S, n, hk⟩
    · obtain ⟨its, _, pl, _⟩ := I.list hq
      refine ⟨pl.isList.typeIs, fun a e => ?_⟩
      cases e
      obtain ⟨o, n, e, c, hd, _⟩ := pl
      exact ⟨o, e, hd⟩
    · refine ⟨⟨o, I.kIn p o hk, hc⟩, fun a e => ?_⟩
      cases e
      exact ⟨o, I.kIn _ o hk, hd⟩
    · have z : ∃ o, s.heap.get? p = some o ∧ o.ExactDict := by
        rcases hk with ⟨kvs, hk⟩ | ⟨kvs, hk⟩
        · obtain ⟨_, _, _, _, o, _, _, e, ex, _⟩ := I.hok p _ hk
          exact ⟨o, e, ex⟩
        · obtain ⟨_, _, _, _, o, _, _, e, ex, _⟩ := I.hok p _ hk
          exact ⟨o, e, ex⟩
      obtain ⟨o, e, ex⟩ := z
      refine ⟨⟨o, e, ex.1⟩, fun a e2 => ?_⟩
      cases e2
      exact ⟨o, e, ex.2.1⟩
    · obtain ⟨o, _, _, _, e, ex, _⟩ := I.hok p _ hk
      refine ⟨⟨o, e, ex.1⟩, fun a e2 => ?_⟩
      cases e2
      exact ⟨o, e, ex.2.1⟩
  | _ => exact False.elim ty
def tBM0 (K : PySem.W.Frag) (T : String) (r : V → List V → Hp → VK → Prop) (to : TE) : TE := fun σ H Q => to σ H fun x H1 => tyV K T x H1 ∧ r x [] H1 Q
def tBM (K : PySem.W.Frag) (T : String) (r : V → List V → Hp → VK → Prop) (to : TE) (t : TA) : TE := fun σ H Q => to σ H fun x H1 => tyV K T x H1 ∧ t σ H1 fun xs H2 => r x xs H2 Q
variable {o e : Expr} {es : List Expr} {to : TE} {t : TA} {name : Str} {apos cpos : Pos} {T id : String} {r : V → List V → Hp → VK → Prop}
theorem pe_bm (pa : PlainAttrs T) (slot : Slot T name id) (hty : typeOf (.builtin id) = pure (.type "method_descriptor")) (hm : MtR X id r) (ho : PE X o to) (ha : PA X (e :: es) t)
    (hbase : attributeBase o name X.env (eval o X.env) = eval o X.env := by rfl)
    (hfew : ((backTo cpos (starEach (e :: es) X.env)).all (fun x => !x.1) && (backToKw cpos (keywordEach [] X.env)).all (fun x => x.1.isSome)
      && decide ((e :: es).length + ([] : List Keyword).length + (if ([] : List Keyword).isEmpty then 0 else 1) < 30)) = true := by rfl)
    (hline : (apos.endLine == cpos.line) = true := by rfl) (hs : starEach (e :: es) X.env = (false, eval e X.env) :: starEach es X.env := by rfl) (hplain : (backTo cpos (starEach es X.env)).any (·.1) = false := by rfl) :
    PE X (.Call (.Attribute o name apos) (e :: es) [] cpos) (tBM X.K T r to t) := by
  intro pins s σ H Q I h
  refine wpAny_Call_method_late hbase hfew hline rfl (thn (ho pins s σ H _ I h) fun v s1 ⟨x, H1, I1, r1, ty, q1⟩ => ?_)
  obtain ⟨h1, h2⟩ := tyV_is I1 r1 ty
  refine ⟨T, id, pa, slot, hty, h1, h2, ?_⟩
  have hA := ha cpos pins s1 σ H1 _ I1 q1
  rw [hs] at hA ⊢
  refine Calls.callWith_builtin (by show (false || (backTo cpos (starEach es X.env)).any (·.1)) = false; rw [hplain] <;> rfl) (Calls.evalArgs_plain ?_)
  exact thn hA fun us s2 ⟨vs, H2, I2, r2, q2⟩ => hm pins s2 σ H2 x vs v us Q I2 r1 r2 q2
/- xs.append(e), list.index on a module's tuple .. are MtR facts of 06m -/
end
end L2

namespace L2
open PySem PySem.Spec PyProof.Rows

def MtM (X : Cx) (id : String) (r : V → List V → Hp → VK → Prop) : Prop :=
  ∀ (pins : List (Addr × Obj)) (s : Shared) (σ : St) (H : Hp) (x : V) (xs : List V) (v : Value) (us : List Value) (Q : VK), Inv X pins σ H s → RelV x v → Vals xs us → r x xs H Q →
    wpAny (model X.prog X.w) X.A (call (.builtin id) (v :: us)) (EP X pins σ Q) X.xe s

/-! ### lists of values -/
theorem Vals.one : ∀ {x : V} {us : List Value}, Vals [x] us → ∃ u, us = [u] ∧ RelV x u
  | _, _, .cons r .nil => ⟨_, rfl, r⟩
theorem Vals.two : ∀ {x y : V} {us : List Value}, Vals [x, y] us → ∃ u v, us = [u, v] ∧ RelV x u ∧ RelV y v
  | _, _, _, .cons r (.cons q .nil) => ⟨_, _, rfl, r, q⟩
theorem Vals.zero : ∀ {us : List Value}, Vals [] us → us = []
  | _, .nil => rfl
theorem Vals.dropLast {xs : List V} {us : List Value} (h : Vals xs us) : Vals xs.dropLast us.dropLast := by
  induction h with
  | nil => exact .nil
  | cons r t ih =>
    cases t with
    | nil => exact .nil
    | cons q t' => exact .cons r ih
theorem Vals.eraseIdx : ∀ {xs : List V} {us : List Value} (i : Nat), Vals xs us → Vals (xs.eraseIdx i) (us.eraseIdx i)
  | _, _, _, .nil => .nil
  | _, _, 0, .cons _ t => t
  | _, _, i + 1, .cons r t => .cons r (Vals.eraseIdx i t)
theorem Vals.reverse {xs : List V} {us : List Value} (h : Vals xs us) : Vals xs.reverse us.reverse := by
  induction h with
  | nil => exact .nil
  | cons r t ih => rw [List.reverse_cons, List.reverse_cons]; exact Vals.append ih (.cons r .nil)
theorem Vals.rep {xs : List V} {us : List Value} (h : Vals xs us) : ∀ k : Nat, Vals (List.replicate k xs).flatten (List.replicate k us).flatten
  | 0 => .nil
  | k + 1 => by
    rw [List.replicate_succ, List.replicate_succ, List.flatten_cons, List.flatten_cons]
    exact Vals.append h (Vals.rep h k)
section
variable {X : Cx} {pins : List (Addr × Obj)} {σ : St} {H : Hp} {s : Shared} {l b : Addr} {xs ys zs : List V}

/-! ### the two steps: a tracked list is rewritten, a new list is laid -/
theorem Inv.lset {its its' : List Value} {n : Nat} {f : Array Value → Array Value} {t' : Nat} (I : Inv X pins σ H s) (hH : H l = some (.lst xs))
    (e : s.heap.get? l = some { cls := .type "list", data := .seq its.toArray n }) (hf : f its.toArray = its'.toArray) (hv : Vals ys its') (hz : ys.length ≤ sizeLine) :
    Inv X pins σ (upd H l (.lst ys)) { s with heap := s.heap.update l (Obj.mapSeq f), toks := t' } := by
  have q := PySem.IsL.update e f
  rw [hf] at q
  refine I.write (x := l) (e := l) (by rw [hH]; exact trivial) (.inl rfl) (fun b' u hb hu => (Heap.get?_update_other s.heap (Obj.mapSeq f) (Ne.symm hb)).trans hu) ⟨_, q⟩ ?_
  exact ⟨hz, its', _, hv, q⟩
theorem Inv.fresh (I : Inv X pins σ H s) : H s.heap.objs.size = none := I.hok.fresh (Nat.le_refl _)
theorem Inv.lstM (I : Inv X pins σ H s) (hH : H l = some (.lst xs)) : xs.length ≤ sizeLine ∧ ∃ (its : List Value) (n : Nat), Vals xs its ∧ xs.length = its.length ∧ s.heap.get? l = some { cls := .type "list", data := .seq its.toArray n } := by
  obtain ⟨z, its, n, r, e⟩ := I.hok l _ hH
  exact ⟨z, its, n, r, r.length, e⟩

end

section
variable {X : Cx}

/-! ### methods -/
def rAppend : V → List V → Hp → VK → Prop := fun x vs H Q => ∃ l xs y, x = .ref l ∧ vs = [y] ∧ H l = some (.lst xs) ∧ xs.length < sizeLine ∧ Q .non (upd H l (.lst (xs ++ [y])))
theorem mt_append : MtM X "list.append" rAppend := by
  intro pins s σ H x vs v us Q I rx rv h
  obtain ⟨l, xs, y, rfl, rfl, hH, hz, q⟩ := h
  cases rx
  obtain ⟨u, rfl, ru⟩ := rv.one
  obtain ⟨z, its, n, r, hl, e⟩ := I.lstM hH
  refine call_meets F.slot_list_append ⟨_, e, rfl⟩ F.entry_list_append (F.args_list_append_2 _ _) (PySem.list_append l its.toArray n u (by rw [List.size_toArray]; omega)) ⟨e, ?_⟩
  refine ⟨.non, _, I.lset (its' := its ++ [u]) hH e (by simp) (r.append (.cons ru .nil)) ?_, rfl, q⟩
  rw [List.length_append, List.length_singleton]
  omega

def rExtend : V → List V → Hp → VK → Prop := fun x vs H Q => ∃ l b xs zs, x = .ref l ∧ vs = [.ref b] ∧ H l = some (.lst xs) ∧ H b = some (.lst zs) ∧ xs.length + zs.length ≤ sizeLine ∧ Q .non (upd H l (.lst (xs ++ zs)))
def rPop : V → List V → Hp → VK → Prop := fun x vs H Q => ∃ l xs y, x = .ref l ∧ vs = [] ∧ H l = some (.lst xs) ∧ xs[xs.length - 1]? = some y ∧ Q y (upd H l (.lst xs.dropLast))
def rPopAt : V → List V → Hp → VK → Prop := fun x vs H Q => ∃ l xs i k y, x = .ref l ∧ vs = [.int i] ∧ H l = some (.lst xs) ∧ -(2 ^ 63) ≤ i ∧ i < 2 ^ 63 ∧ seqIndex? i xs.length = some k ∧ xs[k]? = some y ∧ Q y (upd H l (.lst (xs.eraseIdx k)))
def rReverse : V → List V → Hp → VK → Prop := fun x vs H Q => ∃ l xs, x = .ref l ∧ vs = [] ∧ H l = some (.lst xs) ∧ Q .non (upd H l (.lst xs.reverse))
def rClear : V → List V → Hp → VK → Prop := fun x vs H Q => ∃ l xs, x = .ref l ∧ vs = [] ∧ H l = some (.lst xs) ∧ Q .non (upd H l (.lst []))
/-! ### list + list, list += list, list * int -/
def rCat : R2 := fun x y H Q => ∃ l b xs zs, x = .ref l ∧ y = .ref b ∧ H l = some (.lst xs) ∧ H b = some (.lst zs) ∧ xs.length + zs.length ≤ sizeLine ∧ ∀ p, H p = none → Q (.ref p) (upd H p (.lst (xs ++ zs)))
/-- a list times an int (a negative one is nothing) -/
def rRep : R2 := fun x y H Q => ∃ l k xs, x = .ref l ∧ y = .int k ∧ H l = some (.lst xs) ∧ -(2 ^ 63) ≤ k ∧ k < 2 ^ 63 ∧ xs.length * k.toNat ≤ sizeLine ∧
  ∀ p, H p = none → Q (.ref p) (upd H p (.lst (List.replicate k.toNat xs).flatten))
/-! ### del xs[i] -/
end

/-! ### xs[a:b] = ys -/
section
variable {prog : Program} {w : World} {A : Around} {E : Value → Shared → Prop} {s : Shared}
end

section
variable {X : Cx}
end
end L2

namespace L2
open PySem PySem.Spec PyProof.Rows

/-! ### lists of pairs as tables -/
section
variable {κ : Type} [DecidableEq κ]
def valV (kvs : List (κ × V)) (k : κ) : Option V := (kvs.find? fun kv => decide (kv.1 = k)).map (·.2)
/-- in its place, or at the end -/
def putK (kvs : List (κ × V)) (k : κ) (v : V) : List (κ × V) :=
  if (kvs.any fun kv => decide (kv.1 = k)) = true then kvs.map (fun kv => if kv.1 = k then (kv.1, v) else kv) else kvs ++ [(k, v)]
def dropK (kvs : List (κ × V)) (k : κ) : List (κ × V) := kvs.filter fun kv => decide (kv.1 ≠ k)

theorem valV_pos {p : κ × V} {r : List (κ × V)} {k : κ} (e : p.1 = k) : valV (p :: r) k = some p.2 := by simp [valV, List.find?_cons, e]
theorem valV_neg {p : κ × V} {r : List (κ × V)} {k : κ} (e : ¬ p.1 = k) : valV (p :: r) k = valV r k := by simp [valV, List.find?_cons, e]
theorem valV_any (k : κ) : ∀ kvs : List (κ × V), (kvs.any fun kv => decide (kv.1 = k)) = (valV kvs k).isSome
  | [] => rfl
  | p :: r => by
    rw [List.any_cons]
    by_cases e : p.1 = k
    · simp only [valV_pos e, decide_eq_true e, Bool.true_or, Option.isSome_some]
    · rw [valV_neg e, decide_eq_false e, Bool.false_or]; exact valV_any k r
theorem length_putK (kvs : List (κ × V)) (k : κ) (v : V) : (putK kvs k v).length ≤ kvs.length + 1 := by
  unfold putK
  split
  · rw [List.length_map]; omega
  · rw [List.length_append, List.length_cons, List.length_nil]; omega
theorem putK_new {kvs : List (κ × V)} {k : κ} (v : V) (h : valV kvs k = none) : putK kvs k v = kvs ++ [(k, v)] := by
  unfold putK
  rw [valV_any, h]
  exact if_neg (by decide)

theorem RelO.isSome_eq {o : Option V} {u : Option Value} (r : RelO o u) : o.isSome = u.isSome := by
  cases o with
  | none => cases u with
    | none => rfl
    | some _ => exact (show False from r).elim
  | some _ => cases u with
    | none => exact (show False from r).elim
    | some _ => rfl
theorem RelO.getD {o : Option V} {u : Option Value} {d : V} {d' : Value} (r : RelO o u) (rd : RelV d d') : RelV (o.getD d) (u.getD d') := by
  cases o with
  | none => cases u with
    | none => exact rd
    | some _ => exact (show False from r).elim
  | some _ => cases u with
    | none => exact (show False from r).elim
    | some _ => exact r

/-- raw tables of the same keys -/
theorem KV.val {kvs : List (κ × V)} {vs : List (κ × Value)} (r : KV kvs vs) (k : κ) : RelO (valV kvs k) (valueAt vs k) := by
  unfold KV at r
  induction r with
  | nil => exact True.intro
  | @cons p q ps qs h t ih =>
    obtain ⟨h1, h2⟩ := h
    by_cases e : p.1 = k
    · have e' : q.1 = k := h1.symm.trans e
      have b : valueAt (q :: qs) k = some q.2 := by simp [valueAt, List.find?_cons, e']
      rw [valV_pos e, b]; exact h2
    · have e' : ¬ q.1 = k := fun z => e (h1.trans z)
      have b : valueAt (q :: qs) k = valueAt qs k := by simp [valueAt, List.find?_cons, e']
      rw [valV_neg e, b]; exact ih
theorem KV.any {kvs : List (κ × V)} {vs : List (κ × Value)} (r : KV kvs vs) (k : κ) : (kvs.any fun kv => decide (kv.1 = k)) = vs.any fun kv => decide (kv.1 = k) := by
  unfold KV at r
  induction r with
  | nil => rfl
  | cons h t ih => rw [List.any_cons, List.any_cons, ih, h.1]
theorem KV.repl {kvs : List (κ × V)} {vs : List (κ × Value)} (r : KV kvs vs) (k : κ) {y : V} {u : Value} (ry : RelV y u) :
    KV (kvs.map fun kv => if kv.1 = k then (kv.1, y) else kv) (vs.map fun kv => if kv.1 = k then (kv.1, u) else kv) := by
  unfold KV at r ⊢
  induction r with
  | nil => exact .nil
  | @cons p q ps qs h t ih =>
    rw [List.map_cons, List.map_cons]
    refine .cons ?_ ih
    obtain ⟨h1, h2⟩ := h
    by_cases e : p.1 = k
    · rw [if_pos e, if_pos (h1.symm.trans e)]; exact ⟨h1, ry⟩
    · rw [if_neg e, if_neg (fun z => e (h1.trans z))]; exact ⟨h1, h2⟩
theorem KV.put {kvs : List (κ × V)} {vs : List (κ × Value)} (r : KV kvs vs) (k : κ) {y : V} {u : Value} (ry : RelV y u) : KV (putK kvs k y) (stored vs k u) := by
  unfold putK stored
  rw [r.any k]
  by_cases e : (vs.any fun kv => decide (kv.1 = k)) = true
  · rw [if_pos e, if_pos e]; exact r.repl k ry
  · rw [if_neg e, if_neg e]; exact Paired.snoc r ⟨rfl, ry⟩
theorem KV.drop {kvs : List (κ × V)} {vs : List (κ × Value)} (r : KV kvs vs) (k : κ) : KV (dropK kvs k) (without vs k) := by
  unfold KV at r ⊢
  unfold dropK without
  induction r with
  | nil => exact .nil
  | @cons p q ps qs h t ih =>
    obtain ⟨h1, h2⟩ := h
    rw [List.filter_cons, List.filter_cons]
    by_cases e : p.1 = k
    · have a : ¬ decide (p.1 ≠ k) = true := by simp [e]
      have b : ¬ decide (q.1 ≠ k) = true := by simp [h1.symm.trans e]
      rw [if_neg a, if_neg b]; exact ih
    · have e' : ¬ q.1 = k := fun z => e (h1.trans z)
      have a : decide (p.1 ≠ k) = true := by simp [e]
      have b : decide (q.1 ≠ k) = true := by simp [e']
      rw [if_pos a, if_pos b]; exact .cons ⟨h1, h2⟩ ih
theorem KV.keys {kvs : List (κ × V)} {vs : List (κ × Value)} (r : KV kvs vs) : kvs.map (·.1) = vs.map (·.1) := by
  unfold KV at r
  induction r with
  | nil => rfl
  | cons h t ih => rw [List.map_cons, List.map_cons, ih, h.1]
theorem KV.length {kvs : List (κ × V)} {vs : List (κ × Value)} (r : KV kvs vs) : kvs.length = vs.length := Paired.length r
end


/-! ### a tracked dict, its keys ints and texts or tuples of these -/
theorem kV_is {P : Program} {w : World} {k : Key} {u : Value} (r : RelV (kV k) u) : (mixKind P w).is k u = true := by
  cases k with
  | inl i => obtain ⟨t, e⟩ := (show ∃ t, u = Value.int i t from r); subst e; exact mixKind_int P w i t
  | inr x => obtain ⟨t, e⟩ := (show ∃ t, u = Value.str x t from r); subst e; exact mixKind_str P w x t
theorem items_are {P : Program} {w : World} : ∀ {ks : List Key} {us : List Value}, Vals (ks.map kV) us → ItemsAre (mixKind P w) ks us
  | [], _, r => by rw [List.map_nil] at r; cases r; exact .nil
  | k :: ks, _, r => by
    rw [List.map_cons] at r
    cases r with
    | cons h t => exact .cons (kV_is h) (items_are t)

/-- raw entries of a dict with tuple keys -/
abbrev KT (H : Hp) : List (List Key × V) → List (List Key × Addr × Value) → Prop := Paired fun p q => p.1 = q.1 ∧ H q.2.1 = some (.tup (p.1.map kV)) ∧ RelV p.2 q.2.2
theorem KT.val {H : Hp} {kvs : List (List Key × V)} {xs : List (List Key × Addr × Value)} (r : KT H kvs xs) (k : List Key) : RelO (valV kvs k) ((atKey xs k).map (·.2)) := by
  induction r with
  | nil => exact True.intro
  | @cons p q ps qs h t ih =>
    obtain ⟨h1, _, h2⟩ := h
    by_cases e : p.1 = k
    · have e' : q.1 = k := h1.symm.trans e
      have b : atKey (q :: qs) k = some q.2 := by simp [atKey, List.find?_cons, e']
      rw [valV_pos e, b]; exact h2
    · have e' : ¬ q.1 = k := fun z => e (h1.trans z)
      have b : atKey (q :: qs) k = atKey qs k := by simp [atKey, List.find?_cons, e']
      rw [valV_neg e, b]; exact ih
theorem KT.repl {H : Hp} {kvs : List (List Key × V)} {xs : List (List Key × Addr × Value)} (r : KT H kvs xs) (k : List Key) {y : V} {u : Value} (ry : RelV y u) :
    KT H (kvs.map fun kv => if kv.1 = k then (kv.1, y) else kv) (xs.map (putAt k u)) := by
  induction r with
  | nil => exact .nil
  | @cons p q ps qs h t ih =>
    rw [List.map_cons, List.map_cons]
    refine .cons ?_ ih
    obtain ⟨h1, h2, h3⟩ := h
    unfold putAt
    by_cases e : p.1 = k
    · rw [if_pos e, if_pos (h1.symm.trans e)]; exact ⟨h1, h2, ry⟩
    · rw [if_neg e, if_neg (fun z => e (h1.trans z))]; exact ⟨h1, h2, h3⟩
theorem KT.put {H : Hp} {kvs : List (List Key × V)} {xs : List (List Key × Addr × Value)} (r : KT H kvs xs) (k : List Key) {b : Addr} {y : V} {u : Value} (hb : H b = some (.tup (k.map kV))) (ry : RelV y u) :
    KT H (putK kvs k y) (storedH xs k b u) := by
  have e : (kvs.any fun kv => decide (kv.1 = k)) = (atKey xs k).isSome := by
    rw [valV_any, (r.val k).isSome_eq, Option.isSome_map]
  unfold putK storedH
  rw [e]
  by_cases q : (atKey xs k).isSome = true
  · rw [if_pos q, if_pos q]; exact r.repl k ry
  · rw [if_neg q, if_neg q]; exact Paired.snoc r ⟨rfl, hb, ry⟩
theorem KT.keeps {H H' : Hp} {kvs : List (List Key × V)} {xs : List (List Key × Addr × Value)} (r : KT H kvs xs) (ht : ∀ b ys, H b = some (.tup ys) → H' b = some (.tup ys)) : KT H' kvs xs :=
  Paired.mapP r fun _ _ z => ⟨z.1, ht _ _ z.2.1, z.2.2⟩

section
variable {P : Program} {w : World} {H : Hp} {h : Heap} {a : Addr}
theorem rd_of {u : HO} (ok : HOk P w H h) (e : Rd H a u) : ObjOk P w H h a u := e.ok ok
theorem dk_rd {kvs : List (Key × V)} (ok : HOk P w H h) (e : Rd H a (.dK kvs)) : kvs.length ≤ sizeLine ∧ (a == sysModules) = false ∧ ∃ vs, KV kvs vs ∧ h.DictOf (mixKind P w) a vs :=
  show ObjOk P w H h a (.dK kvs) from rd_of ok e
theorem dk_of {kvs : List (Key × V)} (ok : HOk P w H h) (e : H a = some (.dK kvs)) : kvs.length ≤ sizeLine ∧ (a == sysModules) = false ∧ ∃ vs, KV kvs vs ∧ h.DictOf (mixKind P w) a vs := dk_rd ok (.inl e)
/-- a tracked tuple of ints and texts is a key -/
theorem key_of {ks : List Key} (ok : HOk P w H h) (e : H a = some (.tup (ks.map kV))) : (tupleKind (mixKind P w)).is h ks a := by
  obtain ⟨_, its, r, o, h1, h2, n, h3⟩ := (show ObjOk P w H h a (.tup (ks.map kV)) from ok a _ e)
  exact ⟨o, its.toArray, n, h1, h2, h3, by simpa using items_are r⟩
theorem dt_rd {kvs : List (List Key × V)} (ok : HOk P w H h) (e : Rd H a (.dT kvs)) : kvs.length ≤ sizeLine ∧ (a == sysModules) = false ∧
    ∃ xs, KT H kvs xs ∧ h.DictOfH (tupleKind (mixKind P w)) a xs := by
  obtain ⟨z, y, xs, r, o, es, ep, h1, h2, h3, h4, h5⟩ := (show ObjOk P w H h a (.dT kvs) from rd_of ok e)
  refine ⟨z, y, xs, r, o, es, ep, h1, h2, h3, h4, fun x hx => ?_, h5⟩
  have all : ∀ {l : List (List Key × V)} {m : List (List Key × Addr × Value)}, KT H l m → ∀ x ∈ m, (tupleKind (mixKind P w)).is h x.1 x.2.1 := by
    intro l m q
    induction q with
    | nil => intro x hx; exact nomatch hx
    | @cons p q ps qs hq t ih =>
      intro x hx
      rcases List.mem_cons.mp hx with e | hx
      · subst e
        exact key_of ok (by rw [← hq.1]; exact hq.2.1)
      · exact ih x hx
  exact all r x hx
theorem dt_of {kvs : List (List Key × V)} (ok : HOk P w H h) (e : H a = some (.dT kvs)) : kvs.length ≤ sizeLine ∧ (a == sysModules) = false ∧
    ∃ xs, KT H kvs xs ∧ h.DictOfH (tupleKind (mixKind P w)) a xs := dt_rd ok (.inl e)
end

/-- what the dict at a holds at the key y -/
def DGet (H : Hp) (a : Addr) (y : V) (r : Option V) : Prop :=
  (∃ kvs k, Rd H a (.dK kvs) ∧ y = kV k ∧ r = valV kvs k) ∨ ∃ kvs k b, Rd H a (.dT kvs) ∧ y = .ref b ∧ H b = some (.tup (k.map kV)) ∧ r = valV kvs k
/-- the heap behind a[y] = v -/
def DPut (H : Hp) (a : Addr) (y v : V) (H' : Hp) : Prop :=
  (∃ kvs k, H a = some (.dK kvs) ∧ y = kV k ∧ kvs.length < sizeLine ∧ H' = upd H a (.dK (putK kvs k v))) ∨
  ∃ kvs k b, H a = some (.dT kvs) ∧ y = .ref b ∧ H b = some (.tup (k.map kV)) ∧ kvs.length < sizeLine ∧ H' = upd H a (.dT (putK kvs k v))
theorem DGet.k {H : Hp} {a : Addr} {kvs : List (Key × V)} {k : Key} (e : H a = some (.dK kvs)) : DGet H a (kV k) (valV kvs k) := .inl ⟨kvs, k, .inl e, rfl, rfl⟩
theorem DGet.t {H : Hp} {a b : Addr} {kvs : List (List Key × V)} {k : List Key} (e : H a = some (.dT kvs)) (eb : H b = some (.tup (k.map kV))) : DGet H a (.ref b) (valV kvs k) := .inr ⟨kvs, k, b, .inl e, rfl, eb, rfl⟩
theorem DPut.k {H : Hp} {a : Addr} {kvs : List (Key × V)} {k : Key} {v : V} (e : H a = some (.dK kvs)) (hl : kvs.length < sizeLine) : DPut H a (kV k) v (upd H a (.dK (putK kvs k v))) := .inl ⟨kvs, k, e, rfl, hl, rfl⟩
theorem DPut.t {H : Hp} {a b : Addr} {kvs : List (List Key × V)} {k : List Key} {v : V} (e : H a = some (.dT kvs)) (eb : H b = some (.tup (k.map kV))) (hl : kvs.length < sizeLine) :
    DPut H a (.ref b) v (upd H a (.dT (putK kvs k v))) := .inr ⟨kvs, k, b, e, rfl, eb, hl, rfl⟩


section
variable {X : Cx} {pins : List (Addr × Obj)} {σ : St} {H : Hp} {s : Shared} {a : Addr} {y v : V} {u r : Value} {o : Option V} {A : Around} {E : Value → Shared → Prop}

theorem Inv.big (I : Inv X pins σ H s) : sysModules < s.heap.objs.size := by
  have h : mainGlobals < s.heap.objs.size := (I.mod.glob.keeps I.bk).lt
  exact Nat.lt_trans (by decide) h

/-- d[y], there -/
theorem d_getItem {Q : Value → Shared → Prop} (hu : A.units + 1 < cLine) (I : Inv X pins σ H s) (g : DGet H a y (some v)) (ry : RelV y u) (h : ∀ w' s', Inv X pins σ H s' → RelV v w' → Q w' s') :
    wpAny (model X.prog X.w) A (getItem (.ref a) u) Q E s := by
  rcases g with ⟨kvs, k, e, ey, l⟩ | ⟨kvs, k, b, e, ey, eb, l⟩
  · subst ey
    obtain ⟨z, hd, vs, rel, dd⟩ := dk_rd I.hok e
    obtain ⟨w', hw, rw'⟩ := RelO.some_of (v := v) (o := valueAt vs k) (by rw [l]; exact rel.val k)
    exact wpAny_getItem_of (kV_is ry) dd.mapOf hw (h w' _ (I.tok _) rw')
  · subst ey
    cases (show u = Value.ref b from ry)
    obtain ⟨z, hd, xs, rel, dd⟩ := dt_rd I.hok e
    obtain ⟨w', hw, rw'⟩ := RelO.some_of (v := v) (o := (atKey xs k).map (·.2)) (by rw [l]; exact rel.val k)
    obtain ⟨p, hp, hp2⟩ := Option.map_eq_some_iff.mp hw
    refine wpAny_getItem_heap (tupleKind_room_in1 hu) (key_of I.hok eb) dd hp ?_
    rw [hp2]
    exact h w' _ (I.tok _) rw'
theorem d_notIn {Q : Value → Shared → Prop} (hu : A.units + 1 < cLine) (I : Inv X pins σ H s) (g : DGet H a y o) (ry : RelV y u) (h : ∀ s', Inv X pins σ H s' → Q (.bool (!o.isSome)) s') :
    wpAny (model X.prog X.w) A (compareOp .NotIn u (.ref a)) Q E s := by
  rcases g with ⟨kvs, k, e, ey, l⟩ | ⟨kvs, k, b, e, ey, eb, l⟩
  · subst ey
    obtain ⟨z, hd, vs, rel, dd⟩ := dk_rd I.hok e
    refine wpAny_notIn_of (kV_is ry) hd dd.mapOf ?_
    rw [← (rel.val k).isSome_eq, ← l]
    exact h _ (I.tok _)
  · subst ey
    cases (show u = Value.ref b from ry)
    obtain ⟨z, hd, xs, rel, dd⟩ := dt_rd I.hok e
    refine wpAny_notIn_heap (tupleKind_room_in1 hu) (key_of I.hok eb) hd dd ?_
    have q := (rel.val k).isSome_eq
    rw [Option.isSome_map] at q
    rw [← q, ← l]
    exact h _ (I.tok _)
/-- a dict's object is replaced -/
theorem d_write {h' : Heap} {t' : Nat} {ob : HO} (I : Inv X pins σ H s) (mu : Mut (H a)) (hs : Heap.SameBut a s.heap h') (he : ∃ q, h'.get? a = some q) (new : ObjOk X.prog X.w (upd H a ob) h' a ob) :
    Inv X pins σ (upd H a ob) { s with heap := h', toks := t' } :=
  I.write (x := a) (e := a) mu (.inl rfl) (fun b q hb z => (hs.2 b hb).trans z) he new
theorem dk_new {P : Program} {w : World} {H' : Hp} {h' : Heap} {kvs : List (Key × V)} {vs : List (Key × Value)} (z : kvs.length ≤ sizeLine) (hd : (a == sysModules) = false) (rel : KV kvs vs) (dd : h'.DictOf (mixKind P w) a vs) :
    ObjOk P w H' h' a (.dK kvs) := ⟨z, hd, vs, rel, dd⟩
/-- d[y] = v -/
theorem d_setItem {H' : Hp} {Q : Unit → Shared → Prop} (hu : A.units + 1 < cLine) (I : Inv X pins σ H s) (g : DPut H a y v H') (ry : RelV y u) (rv : RelV v r) (h : ∀ s', Inv X pins σ H' s' → Q () s') :
    wpAny (model X.prog X.w) A (setItem (.ref a) u r) Q E s := by
  rcases g with ⟨kvs, k, e, ey, l, eH⟩ | ⟨kvs, k, b, e, ey, eb, l, eH⟩
  · subst ey eH
    obtain ⟨z, hd, vs, rel, dd⟩ := dk_of I.hok e
    have hz : vs.length ≤ sizeLine := by rw [← rel.length]; exact z
    have hl : (putK kvs k v).length ≤ sizeLine := by have := length_putK kvs k v; omega
    refine wpAny_setItem_pairs (hsz := hz) (kV_is ry) dd fun h' dd' hs => h _ ?_
    have he : ∃ q, h'.get? a = some q := let ⟨q, _, _, hq, _⟩ := dd'; ⟨q, hq⟩
    exact d_write I (by rw [e]; exact True.intro) hs he (dk_new hl hd (rel.put k rv) dd')
  · subst ey eH
    cases (show u = Value.ref b from ry)
    obtain ⟨z, hd, xs, rel, dd⟩ := dt_of I.hok e
    have hz : xs.length ≤ sizeLine := by rw [← Paired.length rel]; exact z
    have hl : (putK kvs k v).length ≤ sizeLine := by have := length_putK kvs k v; omega
    refine wpAny_setItem_heap (hsz := hz) (tupleKind_room_in1 hu) (key_of I.hok eb) dd fun h' dd' hs => h _ ?_
    obtain ⟨q, es, ep, hq, h2, h3, h4, _, h5⟩ := dd'
    refine d_write I (by rw [e]; exact True.intro) hs ⟨q, hq⟩ ⟨hl, hd, _, (rel.put k eb rv).keeps fun c ys ec => ?_, q, es, ep, hq, h2, h3, h4, h5⟩
    rw [upd_ne (ne_of ec e (fun z => nomatch z))]
    exact ec
end

section
variable {X : Cx} {pins : List (Addr × Obj)} {σ : St} {H : Hp} {s : Shared} {a : Addr} {kvs : List (Key × V)} {k : Key} {u : Value} {A : Around} {E : Value → Shared → Prop}
end


/-! ### readings and rules -/
/-- the element of a subscription, not a slice -/
def NoSl (i : Expr) : Prop := ∀ ov iv, subscripted i false ov iv = operate [ov, iv] (getItem ov iv)
theorem subD_of {prog : Program} {w : World} {A : Around} {E : Value → Shared → Prop} {s : Shared} {env : Env} {value slice : Expr} {pos : Pos} {T id : String} {Q : Value → Shared → Prop}
    (hl : typeLookup (.type T) "__getitem__" = pure (some (.builtin id))) (hs : NoSl slice)
    (h : wpAny (model prog w) A (eval value env) (fun o s₁ => wpAny (model prog w) A (eval slice env) (fun i s₂ => s₂.TypeIs o T ∧ wpAny (model prog w) A (getItem o i) Q E s₂) E s₁) E s) :
    wpAny (model prog w) A (eval (.Subscript value slice pos) env) Q E s := by
  refine Subscript_ (wpAny_mono h (fun o s₁ h₁ => wpAny_mono h₁ (fun i s₂ h₂ => ?_) fun _ _ x => x) fun _ _ x => x)
  obtain ⟨hT, h₂⟩ := h₂
  unfold subscriptTail
  refine wpAny_bind ?_
  rw [getitemInPython_of_ne hT.not_modules]
  refine wpAny_bind (wpAny_specialOf hT hl ?_)
  have fin : wpAny (model prog w) A (subscripted slice false o i) (fun r s₃ => wpAny (model prog w) A (letTemporaryGo value o r >>= fun _ => pure r) Q E s₃) E s₂ := by
    rw [hs o i]
    exact wpAny_operating (wpAny_mono h₂ (fun r s₃ h₃ => wpAny_bind (wpAny_letTemporaryGo (wpAny_pure h₃))) fun _ _ x => x)
  first
    | exact wpAny_pure (wpAny_bind fin)
    | exact wpAny_bind (wpAny_pure (wpAny_bind fin))
    | exact wpAny_bind fin

theorem dict_typeIs {X : Cx} {pins : List (Addr × Obj)} {σ : St} {H : Hp} {s : Shared} {a : Addr} {y : V} {o : Option V} (I : Inv X pins σ H s) (g : DGet H a y o) : s.TypeIs (.ref a) "dict" := by
  rcases g with ⟨kvs, k, e, _, _⟩ | ⟨kvs, k, b, e, _, _, _⟩
  · obtain ⟨_, _, vs, _, dd⟩ := dk_rd I.hok e
    exact dd.typeIs
  · obtain ⟨_, _, xs, _, dd⟩ := dt_rd I.hok e
    exact dd.typeIs
/-- d[y] -/
def tDGet (td ty : TE) : TE := fun σ H Q => td σ H fun x H1 => ty σ H1 fun y H2 => ∃ a v, x = .ref a ∧ DGet H2 a y (some v) ∧ Q v H2
/-- y in d, y not in d -/
def tDIn (ty td : TE) : TE := fun σ H Q => ty σ H fun y H1 => td σ H1 fun x H2 => ∃ a o, x = .ref a ∧ DGet H2 a y o ∧ Q (.bl o.isSome) H2
def tDNotIn (ty td : TE) : TE := fun σ H Q => ty σ H fun y H1 => td σ H1 fun x H2 => ∃ a o, x = .ref a ∧ DGet H2 a y o ∧ Q (.bl (!o.isSome)) H2
/-- d[y] = v -/
def sDPut (td ty tv : TE) : TS := fun D σ H => tv σ H fun v H1 => td σ H1 fun x H2 => ty σ H2 fun y H3 => ∃ a H4, x = .ref a ∧ DPut H3 a y v H4 ∧ D.nx σ H4
/-- d[y] op= v -/
def sDAug (td ty tv : TE) (rd : V → V → Hp → VK → Prop) : TS := fun D σ H => td σ H fun x H1 => ty σ H1 fun y H2 => ∃ a v, x = .ref a ∧ DGet H2 a y (some v) ∧
  tv σ H2 fun y2 H3 => rd v y2 H3 fun z H4 => ∃ H5, DPut H4 a y z H5 ∧ D.nx σ H5
/-- del d[y] -/
def sDDel (td ty : TE) : TS := fun D σ H => td σ H fun x H1 => ty σ H1 fun y H2 => ∃ a kvs k, x = .ref a ∧ H2 a = some (.dK kvs) ∧ y = kV k ∧ (valV kvs k).isSome = true ∧ D.nx σ (upd H2 a (.dK (dropK kvs k)))

section
variable {X : Cx} {o i e value : Expr} {pos pos' tpos : Pos} {td ty tv : TE}
theorem pe_dget (hu : X.A.units + 1 < cLine) (ho : PE X o td) (hi : PE X i ty) (hs : NoSl i) : PE X (.Subscript o i pos) (tDGet td ty) := by
  intro pins s σ H Q I h
  refine subD_of PySem.F.slot_dict_getitem.lookup hs (thn (ho pins s σ H _ I h) fun u s1 ⟨x, H1, I1, rx, q1⟩ => thn (hi pins s1 σ H1 _ I1 q1) fun iv s2 ⟨y, H2, I2, ry, a, v, ex, g, q2⟩ => ?_)
  subst ex
  obtain rfl : u = Value.ref a := rx
  exact ⟨dict_typeIs I2 g, d_getItem hu I2 g ry fun w' s3 I3 rw' => ⟨v, H2, I3, rw', q2⟩⟩
theorem pc_dnotin (hu : X.A.units + 1 < cLine) (hi : PE X i ty) (ho : PE X o td) : PC X .NotIn i o (tDNotIn ty td) := by
  intro pins s σ H Q I h
  refine thn (hi pins s σ H _ I h) fun iv s1 ⟨y, H1, I1, ry, q1⟩ => thn (ho pins s1 σ H1 _ I1 q1) fun u s2 ⟨x, H2, I2, rx, a, ov, ex, g, q2⟩ => ?_
  subst ex
  obtain rfl : u = Value.ref a := rx
  exact d_notIn hu I2 g ry fun s3 I3 => ⟨.bl (!ov.isSome), H2, I3, rfl, q2⟩
theorem ps_dput (hu : X.A.units + 1 < cLine) (ho : PE X o td) (hi : PE X i ty) (hv : PE X value tv) (hs : swapsWith value (some (.Subscript o i pos')) pos.line X.env = pure false) :
    PS X (.Assign [.Subscript o i pos'] value pos) (sDPut td ty tv) := by
  intro pins s σ H D I h
  refine wpAny_Assign_Subscript (thn (hv pins s σ H _ I h) fun r s1 ⟨v, H1, I1, rv, q1⟩ => thn (ho pins s1 σ H1 _ I1 q1) fun u s2 ⟨x, H2, I2, rx, q2⟩ => thn (hi pins s2 σ H2 _ I2 q2) fun iv s3 ⟨y, H3, I3, ry, a, H4, ex, g, q3⟩ => ?_) hs
  subst ex
  obtain rfl : u = Value.ref a := rx
  exact d_setItem hu I3 g ry rv fun s4 I4 => ⟨σ, H4, I4, q3⟩
end


/-! ### displays -/
theorem dk_empty {P : Program} {w : World} {H : Hp} (h : Heap) (hb : sysModules < h.objs.size) : ObjOk P w H (h.push { cls := .type "dict", data := .dict #[] }) h.objs.size (.dK []) :=
  ⟨Nat.zero_le _, beq_eq_false_iff_ne.mpr (Ne.symm (Nat.ne_of_lt hb)), [], .nil, Heap.DictOf.new h⟩
/-- {}, to be a dict of the kind that is wanted -/
def tDNewK : TE := fun _ H Q => ∀ p, H p = none → Q (.ref p) (upd H p (.dK []))
def tDNewT : TE := fun _ H Q => ∀ p, H p = none → Q (.ref p) (upd H p (.dT []))
section
variable {X : Cx} {pos : Pos}
theorem pe_dnewK : PE X (.Dict [] [] pos) tDNewK := fun pins s σ H Q I h =>
  wpAny_Dict_empty ⟨.ref s.heap.objs.size, _, I.laid (a := s.heap.objs.size) (o := .dK []) (t' := s.toks) (fun _ _ q => Heap.get?_push_of_some _ q) (Nat.le_refl _) (dk_empty s.heap I.big), rfl, h _ (I.hok.fresh (Nat.le_refl _))⟩
end

/-- the pairs of a display, from the left -/
def tPairs : List (TE × TE) → St → Hp → (List (V × V) → Hp → Prop) → Prop
  | [], _, H, Q => Q [] H
  | (tk, tv) :: r, σ, H, Q => tk σ H fun x H1 => tv σ H1 fun y H2 => tPairs r σ H2 fun ps H3 => Q ((x, y) :: ps) H3
abbrev VV : List (V × V) → List (Value × Value) → Prop := Paired fun p q => RelV p.1 q.1 ∧ RelV p.2 q.2
def PPs (X : Cx) (pos : Pos) (keys : List (Option Expr)) (values : List Expr) (trs : List (TE × TE)) : Prop :=
  ∀ (pins : List (Addr × Obj)) (s : Shared) (σ : St) (H : Hp) (Q : List (V × V) → Hp → Prop), Inv X pins σ H s → tPairs trs σ H Q →
    wpAny (model X.prog X.w) X.A (evalPairs (pairTrees keys values X.env pos)) (fun vs s' => ∃ ps H', Inv X pins σ H' s' ∧ VV ps vs ∧ Q ps H') X.xe s
def mergeK (kvs more : List (Key × V)) : List (Key × V) := more.foldl (fun acc kv => putK acc kv.1 kv.2) kvs
/-- {k: v, ..} with keys ints and texts; the new dict stands empty while the pairs are made -/
def tDisp (trs : List (TE × TE)) : TE := fun σ H Q => ∀ p, H p = none → tPairs trs σ (upd H p (.dK [])) fun ps H2 => H2 p = some (.dK []) ∧ ∃ kvs : List (Key × V), ps = kvs.map (fun kv => (kV kv.1, kv.2)) ∧ kvs.length ≤ 15 ∧ Q (.ref p) (upd H2 p (.dK (mergeK [] kvs)))
/-! ### methods -/
/-- a method call o.m(e) of a built-in, with one argument: what must be seen of the text -/
structure M1 (X : Cx) (o : Expr) (m : Str) (apos : Pos) (e : Expr) (cpos : Pos) : Prop where
  base : attributeBase o m X.env (eval o X.env) = eval o X.env
  few : ((backTo cpos (starEach [e] X.env)).all (fun x => !x.1) && (backToKw cpos (keywordEach [] X.env)).all (fun x => x.1.isSome)
    && decide (([e] : List Expr).length + ([] : List Keyword).length + (if ([] : List Keyword).isEmpty then 0 else 1) < 30)) = true
  line : (apos.endLine == cpos.line) = true
  trees : backTo cpos (starEach [e] X.env) = [(false, eval e X.env)]
structure M2 (X : Cx) (o : Expr) (m : Str) (apos : Pos) (e f : Expr) (cpos : Pos) : Prop where
  base : attributeBase o m X.env (eval o X.env) = eval o X.env
  few : ((backTo cpos (starEach [e, f] X.env)).all (fun x => !x.1) && (backToKw cpos (keywordEach [] X.env)).all (fun x => x.1.isSome)
    && decide (([e, f] : List Expr).length + ([] : List Keyword).length + (if ([] : List Keyword).isEmpty then 0 else 1) < 30)) = true
  line : (apos.endLine == cpos.line) = true
  trees : backTo cpos (starEach [e, f] X.env) = [(false, eval e X.env), (false, eval f X.env)]

/-- a is a dict, whatever its keys -/
def IsD (H : Hp) (a : Addr) : Prop := (∃ kvs, Rd H a (.dK kvs)) ∨ ∃ kvs, Rd H a (.dT kvs)
section
variable {X : Cx} {pins : List (Addr × Obj)} {σ : St} {H : Hp} {s : Shared} {a : Addr} {y d : V} {u r : Value} {o : Option V} {A : Around} {E : Value → Shared → Prop}
end

def tDGet1 (td ty : TE) : TE := fun σ H Q => td σ H fun x H1 => ∃ a, x = .ref a ∧ IsD H1 a ∧ ty σ H1 fun y H2 => ∃ o, DGet H2 a y o ∧ Q (o.getD .non) H2
def tDGet2 (td ty tx : TE) : TE := fun σ H Q => td σ H fun x H1 => ∃ a, x = .ref a ∧ IsD H1 a ∧ ty σ H1 fun y H2 => tx σ H2 fun z H3 => ∃ o, DGet H3 a y o ∧ Q (o.getD z) H3
/-- d.pop(k): there; d.pop(k, x): there or not -/
def tDPop1 (td ty : TE) : TE := fun σ H Q => td σ H fun x H1 => ∃ a, x = .ref a ∧ IsD H1 a ∧ ty σ H1 fun y H2 => ∃ kvs k v, H2 a = some (.dK kvs) ∧ y = kV k ∧ valV kvs k = some v ∧ Q v (upd H2 a (.dK (dropK kvs k)))
def tDPop2 (td ty tx : TE) : TE := fun σ H Q => td σ H fun x H1 => ∃ a, x = .ref a ∧ IsD H1 a ∧ ty σ H1 fun y H2 => tx σ H2 fun z H3 => ∃ kvs k, H3 a = some (.dK kvs) ∧ y = kV k ∧
  (∀ v, valV kvs k = some v → Q v (upd H3 a (.dK (dropK kvs k)))) ∧ (valV kvs k = none → Q z H3)
section
variable {X : Cx} {o e f : Expr} {apos cpos : Pos} {td ty tx : TE}
end

/-! ### dict(d): a copy -/
section
variable {X : Cx} {pins : List (Addr × Obj)} {σ : St} {H : Hp} {s : Shared} {a : Addr} {kvs : List (Key × V)} {A : Around} {E : Value → Shared → Prop}
end


section
variable {X : Cx} {pins : List (Addr × Obj)} {σ : St} {H : Hp} {s : Shared} {a : Addr} {y : V} {u : Value} {A : Around} {E : Value → Shared → Prop}
end
end L2

namespace Att
open PySem PySem.W PySem.Calls PyProof.Rows

/-! ### the script -/
theorem ints_of_wellAll {P : Params} {h : Heap} : ∀ (ns : List Int) (vs : List Value), WellAll P h vs (ns.map WData.int) → IntsAre vs ns := by
  intro ns
  induction ns with
  | nil =>
    intro vs w
    rw [List.map_nil] at w
    cases w
    exact .nil
  | cons n ns ih =>
    intro vs w
    rw [List.map_cons] at w
    cases w with
    | cons a b =>
      cases a
      exact .cons _ _ (ih _ b)

theorem script_of {l : OpenLaw} {n : Nat} (hn : l.most = some n) {P : Params} {h : Heap} {args : List WData} {vals : List Value}
    (hpre : l.row.toRowW.claim.pre args = true) (hwl : WellAll P h vals args) :
    ∃ a vs ns, vals = [Value.ref a] ∧ args = [WData.list (ns.map WData.int)] ∧ h.get? a = some { cls := .type "list", data := .seq vs.toArray } ∧ IntsAre vs ns ∧ ns.length ≤ n := by
  have hsh : WShape.hasAll [] args [.list .int] = true := (pre_splitW hpre).1
  have hc : l.pre.holds [] { args := args } = true := (pre_splitW hpre).2
  obtain ⟨d, r, rfl, h1, h2⟩ := hasAllW_cons hsh
  obtain rfl := hasAllW_nil h2
  obtain ⟨xs, rfl, h3⟩ := hasW_list h1
  obtain ⟨ns, rfl⟩ := items_int h3
  have hlen : ns.length ≤ n := by
    unfold OpenLaw.pre at hc
    have h4 : (WTm.not (.lt (.lit (.int (n : Int))) (.len (.arg 0)))).holds [] { args := [.list (ns.map .int)] } = true := by
      have h4 := (holds_andW hc).1
      rw [hn] at h4
      exact h4
    have h5 := condW_of h4 (w_not (w_lt w_lit (w_len_list (w_arg rfl))))
    rw [List.length_map] at h5
    refine Nat.le_of_not_lt fun q => ?_
    have q' : (n : Int) < ((ns.length : Nat) : Int) := by omega
    first
      | (rw [decide_eq_true q'] at h5; exact absurd h5 (by decide))
      | (simp at h5; omega)
  cases hwl with
  | cons w1 w2 =>
    cases w2
    cases w1 with
    | list ho hall => exact ⟨_, _, ns, rfl, rfl, ho, ints_of_wellAll ns _ hall, hlen⟩

theorem post_true (l : OpenLaw) (args : List WData) : l.row.toRowW.claim.post args (.bool true) args = true :=
  postW_of (r := l.row.toRowW) (X := (true == true))
    (show WShape.has [] (.bool true) .bool = true by first | rfl | decide | simp [WShape.has, WShape.arms, WShape.armsAll])
    (show (WTm.eq .res (.lit (.bool true))).value [] { args := args, res := some (.bool true), after := args } = some (.bool (true == true)) from w_eq_bool (w_res rfl) w_lit) rfl

/-! ### the attachment: holds_open's last premise (the goal 'hc' behind k_head) from a wpAny of the law's body -/
/-- the same from a codeAny of the CALL (for a layer whose function contracts speak of calls) -/
theorem attach_call {l : OpenLaw} {n : Nat} {q : Program} {loose : List Str} {XP : (Str → Option Value) → Heap → Prop} {YP : World → Heap → Prop} {d : DefRec}
    (hn : l.most = some n) (hdf : d.params.defaults = [])
    (call : ∀ (w : World) (s₀ s₁ : Shared) (mg mb : Str → Option Value) (fa : Addr) (o : Obj) (pm cd doc : Value) (a : Addr) (vs : List Value) (ns : List Int),
      Ground q loose [] XP w s₀ mg mb s₁.heap → YP w s₁.heap →
      s₁.heap.get? fa = some o → o.data = .func (docDef d.name d.params d.body d.scope pm cd doc) → s₁.heap.CodeRec cd d.name → mg d.name = some (.ref fa) →
      s₁.heap.get? a = some { cls := .type "list", data := .seq vs.toArray } → IntsAre vs ns → ns.length ≤ n → s₁.gens = #[] →
      codeAny (model l.prog w) callerA (.call (.ref fa) ⟨[.ref a], []⟩) (fun r s' => r = .ok (.ret (.bool true)) ∧ OldK s₁.heap s'.heap ∧ s'.os = s₁.os ∧ AllBare s'.gens) s₁) :
    WalkO q loose XP YP l.row.toRowW d [] (fun f vs => PySem.call f vs) := by
  intro w s₀ s₁ mg mb G Y fa o pm cd doc dV kV ho hd hcd hD hmg hg args vals as hpre hlay hrd hwl hlo
  obtain rfl : dV = .none := Dflts.none hD hdf
  obtain rfl : kV = .none := Dflts.noKw hD
  obtain ⟨a, vs, ns, rfl, rfl, hobj, hints, hlen⟩ := script_of hn hpre hwl
  refine enter_call (codeAny_mono (call w s₀ s₁ mg mb fa o pm cd doc a vs ns G Y ho (fd_plain hd) hcd hmg hobj hints hlen hg) fun r s' hq => ?_)
  obtain ⟨rfl, h2, h3, h4⟩ := hq
  exact ⟨.inl ⟨.bool true, .bool true, [], rfl, fun _ => rfl, .bool true, post_true l _, fun _ => ⟨List.Pairwise.nil, fun _ hm => (nomatch hm)⟩⟩, h2, h3, h4⟩

/-! ### rules over ANY heap (no ledger) from facts about the written part K: the library's own take a ledger (News) for what they write -/
section
variable {prog : Program} {w : World} {A : Around} {E : Value → Shared → Prop} {s : Shared} {K : Frag}

/-! the whole heap as the ledger: makes every rule that writes through a ledger a rule over any heap -/
def noObjs (h : Heap) : Heap := { h with objs := #[] }
def ledger (h : Heap) (L d : Addr) : List (Addr × Obj) := (List.range h.objs.size).filterMap fun a => if a = L ∨ a = d then none else (h.get? a).map fun o => (a, o)
end
end Att

namespace L2
open PySem PySem.Spec PyProof.Rows

theorem vals_ints : ∀ {vs : List Value} {ns : List Int}, IntsAre vs ns → Vals (ns.map V.int) vs
  | _, _, .nil => .nil
  | _, _, .cons n t h => .cons ⟨t, rfl⟩ (vals_ints h)

/-- nothing is tracked but the script, known to the object (or it is an object of the module) -/
def Only (H : Hp) : Prop := ∀ b, H b = none ∨ ∃ o xs, H b = some (.frz o (.lst xs))

/-- THE HEAD: the law's promise, at the heap behind the top. F, the promise of the law's def, may use that base is part of the heap (so K.In base, base.Ns mainGlobals mg stand in Mod) -/
theorem law_call {P : Program} {w : World} {K : PySem.W.Frag} {mg mb : Str → Option Value} {CX : CXT} {k : Nat} {fa a : Addr} {fd : FuncData} {x : Str} {sp : Sp} {s₁ : Shared} {vs : List Value} {ns : List Int}
    (KX : K.In s₁.heap) (hns : s₁.heap.Ns mainGlobals mg) (hb : s₁.heap.Ns builtinsNs mb) (hbb : ∀ x : Str, x ≠ "__name__" → mb x = bootBuiltins x) (hlim : s₁.heap.NoLimit) (hg : s₁.gens = #[])
    (ha : s₁.heap.get? a = some { cls := .type "list", data := .seq vs.toArray }) (hi : IntsAre vs ns) (hl : ns.length ≤ sizeLine) (hr : Room k callerA)
    (F : ∀ base : Heap, K.In base → base.Ns mainGlobals mg → FnOk P w K mg base CX k fa fd [x] sp) (hbind : ∀ (s : Shared) (u : Value), BindsTo s fd ⟨[u], []⟩ [(x, u)])
    (hsp : ∀ H : Hp, Only H → SqL K H a (ns.map V.int) → sp [.ref a] H (fun v _ => v = .bl true) fun _ _ _ => False)
    (hCX : ∀ H e s', CX [] H s₁ (fun _ _ _ => False) e s' → False) :
    codeAny (model P w) callerA (.call (.ref fa) ⟨[.ref a], []⟩) (fun r s' => r = .ok (.ret (.bool true)) ∧ OldK s₁.heap s'.heap ∧ s'.os = s₁.os ∧ AllBare s'.gens) s₁ := by
  have rv := vals_ints hi
  have lenV := hi.length
  -- from an abstract heap in which nothing but the script may be tracked
  have core : ∀ H : Hp, Only H → SqL K H a (ns.map V.int) → HOk P w H s₁.heap → (∀ b, H b ≠ none → b = a) → (H a ≠ none → K.lookup a = none) →
      codeAny (model P w) callerA (.call (.ref fa) ⟨[.ref a], []⟩) (fun r s' => r = .ok (.ret (.bool true)) ∧ OldK s₁.heap s'.heap ∧ s'.os = s₁.os ∧ AllBare s'.gens) s₁ := by
    intro H hO hS hok hA hK
    have base_of : ∀ {b : Addr} {o : Obj}, s₁.heap.get? b = some o → H b = none → (hidT s₁.heap H).get? b = some o := fun e n => hidT_get e n
    have noA : ∀ {b : Addr} {o : Obj} {es : Array DictEntry} {ep : Nat}, s₁.heap.get? b = some o → o.data = .dict es ep → H b = none := fun {b o es ep} e d => by
      cases q : H b with
      | none => rfl
      | some u =>
        have e' : b = a := hA b (by rw [q]; simp)
        subst e'
        rw [ha] at e; cases e
        have d' : Data.seq vs.toArray _ = Data.dict es ep := d
        cases d'
    have nsK : ∀ {b : Addr} {m : Str → Option Value}, s₁.heap.Ns b m → (hidT s₁.heap H).Ns b m := fun {b m} ⟨o, es, ep, e, d, r⟩ => ⟨o, es, ep, base_of e (noA e d), d, r⟩
    have hKb : K.In (hidT s₁.heap H) := fun b o e => base_of (KX b o e) (by
      cases q : H b with
      | none => rfl
      | some u =>
        have e' : b = a := hA b (by rw [q]; simp)
        subst e'
        rw [hK (by rw [q]; simp)] at e; cases e)
    have hM : Mod K mg (hidT s₁.heap H) := ⟨hKb, nsK hns, ⟨mb, nsK hb, hbb⟩, let ⟨mc, h1, h2⟩ := hlim; ⟨mc, nsK h1, h2⟩⟩
    have e0 : Env0 P w K mg (hidT s₁.heap H) callerA [] s₁ H := ⟨rfl, hM, fun b o e => of_hidT e, Nat.le_of_eq (hidT_size _ _), trivial, fun b hb => absurd (show b ∈ ([] : List Addr) from hb) (by simp), hok, .of_eq hg⟩
    refine codeAny_mono ((F _ hKb (nsK hns)).run callerA [] s₁ H ⟨[.ref a], []⟩ [.ref a] [.ref a] _ _ hr e0 (hbind s₁ (.ref a)) (.cons rfl .nil) (hsp H hO hS)) fun r s' h => ?_
    cases r with
    | error e => exact (hCX H e s' h).elim
    | ok fl =>
      cases fl with
      | next => exact False.elim h
      | brk => exact False.elim h
      | cont => exact False.elim h
      | ret u =>
        obtain ⟨v, H', os, bare, un, hok', r', q⟩ := h
        have q' : v = .bl true := q
        subst q'
        obtain rfl : u = Value.bool true := r'
        refine ⟨rfl, OldK.of_keep fun b o e => ?_, os, bare⟩
        cases q : H b with
        | none => exact un.keep b o e q (by intro z; exact absurd (show b ∈ ([] : List Addr) from z) (by simp)) (by simp)
        | some u =>
          rcases hO b with z | ⟨ob, xs, z⟩
          · rw [q] at z; cases z
          · have z2 := un.frzs b ob _ z
            obtain ⟨e1, _⟩ := hok b _ z
            obtain ⟨e2, _⟩ := hok' b _ z2
            rw [e] at e1; cases e1
            exact e2
  cases hk : K.lookup a with
  | some o =>
    -- the script is one of the module's own objects
    have e := KX a o hk
    rw [ha] at e
    cases e
    refine core (fun _ => none) (fun _ => .inl rfl) (.inr ⟨_, vs.toArray, _, hk, rfl, rfl, rfl, by rw [List.size_toArray, lenV]; exact hl, by simpa using rv⟩) (fun b u z => by have z' : (none : Option HO) = some u := z; cases z') (fun b z => absurd rfl z) fun z => absurd rfl z
  | none =>
    refine core (fun b => if b = a then some (.frz { cls := .type "list", data := .seq vs.toArray } (.lst (ns.map V.int))) else none) (fun b => ?_) (.inl (.inr ⟨{ cls := .type "list", data := .seq vs.toArray }, if_pos rfl⟩)) (fun b u z => ?_) (fun b z => ?_) fun _ => hk
    · by_cases hb : b = a
      · exact .inr ⟨_, _, if_pos hb⟩
      · exact .inl (if_neg hb)
    · by_cases hb : b = a
      · have z' := (if_pos hb).symm.trans z
        cases z'
        subst hb
        exact ⟨ha, by rw [List.length_map]; exact hl, vs, _, rv, ha⟩
      · have z' := (if_neg hb).symm.trans z
        cases z'
    · by_cases hb : b = a
      · exact hb
      · exact absurd (if_neg hb) z
end L2

namespace L2
open PySem PySem.Spec PyProof.Rows

abbrev KOf {K : PySem.W.Frag} {h : Heap} (_ : K.In h) : PySem.W.Frag := K

/-- the goal that k_head leaves (case hc), from the law's promise. F gives the function object fd (K's own) once, then the promise over every base -/
theorem walk_of {l : PySem.W.OpenLaw} {n k : Nat} {q : Program} {loose : List Str} {XP : (Str → Option Value) → Heap → Prop} {YP : World → Heap → Prop} {d : DefRec} {K : Params → PySem.W.Frag} {CX : World → CXT} {sp : World → Sp} {x : Str}
    (hn : l.most = some n) (hn2 : n ≤ sizeLine) (hdf : d.params.defaults = []) (hr : Room k callerA)
    (hY : ∀ (w : World) (h : Heap), YP w h → (K w.params).In h)
    (F : ∀ (w : World) (mg : Str → Option Value) (fa : Addr) (h : Heap), (K w.params).In h → h.Ns mainGlobals mg → mg d.name = some (.ref fa) →
      ∃ fd : FuncData, (∀ (s : Shared) (u : Value), BindsTo s fd ⟨[u], []⟩ [(x, u)]) ∧
        ∀ base : Heap, (K w.params).In base → base.Ns mainGlobals mg → FnOk l.prog w (K w.params) mg base (CX w) k fa fd [x] (sp w))
    (hsp : ∀ (w : World) (H : Hp) (a : Addr) (ns : List Int), ns.length ≤ n → Only H → SqL (K w.params) H a (ns.map V.int) → sp w [.ref a] H (fun v _ => v = .bl true) fun _ _ _ => False)
    (hCX : ∀ (w : World) (H : Hp) (s : Shared) (e : Value) (s' : Shared), CX w [] H s (fun _ _ _ => False) e s' → False) :
    PySem.W.WalkO q loose XP YP l.row.toRowW d [] (fun f vs => PySem.call f vs) := by
  refine Att.attach_call hn hdf fun w s₀ s₁ mg mb fa o pm cd doc a vs ns G Y ho hd hcd hmg hobj hints hlen hg => ?_
  have KX := hY w _ Y
  obtain ⟨fd, hb, hF⟩ := F w mg fa _ KX G.T.g hmg
  exact law_call KX G.T.g G.T.b G.T.builtins G.T.nolimit hg hobj hints (Nat.le_trans hlen hn2) hr hF hb (fun H hO hS => hsp w H a ns hlen hO hS) fun H e s' => hCX w H s₁ e s'
end L2



/-! SHORT WORDS over the layer: a def of the text, its body, what a loop and a test want. -/
namespace L2
open PySem PySem.Spec PyProof.Rows

/-! ### the text by places -/
/-- the j-th statement of a class's body -/
def inClass (s : Stmt) (j : Nat) : Stmt := match s with
  | .ClassDef _ _ _ body _ _ _ _ _ _ _ => body.getD j (.Pass ⟨0, 0, 0, 0⟩)
  | _ => .Pass ⟨0, 0, 0, 0⟩
def defArgs (s : Stmt) : Arguments := match s with
  | .FunctionDef _ a _ _ _ _ _ _ _ _ => a
  | _ => { posonlyargs := [], args := [], vararg := none, kwonlyargs := [], kw_defaults := [], kwarg := none, defaults := [] }
def defBody (s : Stmt) : List Stmt := match s with
  | .FunctionDef _ _ b _ _ _ _ _ _ _ => b
  | _ => []
def defScope (s : Stmt) : Scope := match s with
  | .FunctionDef _ _ _ _ _ _ sc _ _ _ => sc
  | _ => { kind := .function, names := [], isGenerator := false, isCoroutine := false }

/-! ### no exception leaves a def -/
abbrev CX0 : CXT := fun _ _ _ _ _ _ => False
abbrev E0 : XK := fun _ _ _ => False
theorem pass0 {X : Cx} : Passes CX0 X E0 := fun _ _ _ _ _ _ _ h => h.elim

/-! ### a def (or method) of the text as it stands behind the top -/
structure Fun (K : PySem.W.Frag) (x qual : Str) (st : Stmt) (f : Addr) (fd : FuncData) : Prop where
  ex : ∃ (oc : Value) (od : Option Addr) (kV doc pm : Value) (an : Option Addr) (cdv ct : Value) (osl : Array (Option Value)),
    fd = PySem.W.fnOf x qual (defArgs st) (defBody st) (defScope st) .none kV doc pm an cdv ct ∧ K.lookup f = some ⟨oc, od, .func fd, osl⟩ ∧ PySem.W.codeIn K cdv qual = true
  kp : PySem.W.keepIn K (.ref f) = true
section
variable {P : Program} {w : World} {K : PySem.W.Frag} {mg : Str → Option Value} {base : Heap}
/-- THE RULE for a def: its body as a term of rules, and the reading of that term -/
theorem Fun.ok {x qual : Str} {st : Stmt} {f : Addr} {fd : FuncData} {N ps : List Str} {k : Nat} {sp : Sp} (F : Fun K x qual st f fd) (S : FnScope N ps (defScope st)) (len : ∀ vs H Q E, sp vs H Q E → vs.length = ps.length)
    (hbody : ∀ (cdv : Value) (A : Around) (outer : List Env) (s : Shared) (H : Hp) (vs : List V) (Q : VK) (E : XK), Room k (A.deeper (envOfC qual (defScope st) s.heap.objs.size f cdv)) → sp vs H Q E →
      ∃ t, PSs (cxOf CX0 P w K mg base N qual (defScope st) f cdv A outer s H E).nox (defBody st) t ∧ t { nx := fun _ H' => Q .non H', rt := Q } (start N vs) H) : FnOk P w K mg base CX0 (k + 1) f fd ps sp := by
  obtain ⟨oc, od, kV, doc, pm, an, cdv, ct, osl, rfl, lk, hcd⟩ := F.ex
  refine fn_of lk hcd S len fun A outer s H vs Q E hr hsp => ?_
  obtain ⟨t, h, q⟩ := hbody cdv A outer s H vs Q E hr hsp
  exact ⟨t, h.nox, q⟩
/-- how its arguments bind (no defaults): h is «fun _ _ _ _ _ _ us hl => match us, hl with | [_, _], _ => rfl», one _ a parameter -/
theorem Fun.binds {x qual : Str} {st : Stmt} {f : Addr} {fd : FuncData} {ps : List Str} (F : Fun K x qual st f fd)
    (h : ∀ (kV doc pm : Value) (an : Option Addr) (cdv ct : Value) (us : List Value), us.length = ps.length → bindArgs (PySem.W.fnOf x qual (defArgs st) (defBody st) (defScope st) .none kV doc pm an cdv ct) ⟨us, []⟩ = pure (ps.zip us)) : Binds K fd ps [] := by
  obtain ⟨oc, od, kV, doc, pm, an, cdv, ct, osl, rfl, lk, hcd⟩ := F.ex
  exact .all (h kV doc pm an cdv ct)
theorem fun_mk {x qual : Str} {st : Stmt} {f : Addr} {oc : Value} {od an : Option Addr} {osl : Array (Option Value)} {kV doc pm cdv ct : Value} (l : K.lookup f = some ⟨oc, od, .func (PySem.W.fnOf x qual (defArgs st) (defBody st) (defScope st) .none kV doc pm an cdv ct), osl⟩)
    (c : PySem.W.codeIn K cdv qual = true) (k : PySem.W.keepIn K (.ref f) = true) : Fun K x qual st f (PySem.W.fnOf x qual (defArgs st) (defBody st) (defScope st) .none kV doc pm an cdv ct) := ⟨⟨oc, od, kV, doc, pm, an, cdv, ct, osl, rfl, l, c⟩, k⟩
end
theorem hu_of {A : Around} {k : Nat} (hr : Room k A) : A.units + 1 < cLine := Nat.lt_of_le_of_lt (Nat.add_le_add_left (by decide : 1 ≤ 64) _) hr.units
/-! ### expressions in short: the name that stands in the i-th slot -/
section
variable {X : Cx}
theorem pv (i : Nat) {x : Str} {pos : Pos} (hN : X.N[i]? = some x := by rfl) (hv : Vis X.env.scope x := by first | exact Or.inl rfl | exact Or.inr (Or.inl rfl) | exact Or.inr (Or.inr rfl)) (hd : (x == ("__debug__" : Str)) = false := by decide)
    (hcd : (x == ("__classdict__" : Str)) = false := by decide) : PE X (.Name x pos) (tVar i) := pe_var hN hv hd hcd
end

/-! ### tests -/
theorem iteF {A B : Prop} (h : B) : if false = true then A else B := by
  rw [if_neg Bool.false_ne_true]
  exact h
theorem iteT {A B : Prop} (h : A) : if true = true then A else B := by
  rw [if_pos rfl]
  exact h
theorem iteNS {c A B : Prop} [Decidable c] (hc : c) (h : B) : if (!decide c) = true then A else B := by
  rw [decide_eq_true hc]
  exact iteF h

/-! ### heaps -/
/-- all that was tracked is as it was -/
def Same (H H' : Hp) : Prop := ∀ b o, H b = some o → H' b = some o
theorem Same.refl (H : Hp) : Same H H := fun _ _ h => h
theorem Same.trans {H H1 H2 : Hp} (a : Same H H1) (b : Same H1 H2) : Same H H2 := fun c o h => b c o (a c o h)
theorem Same.free {H H' : Hp} (e : Same H H') {l : Addr} (h : H' l = Option.none) : H l = Option.none := by
  cases q : H l with
  | none => rfl
  | some o =>
    rw [e l o q] at h
    cases h
theorem Same.seq {K : PySem.W.Frag} {H H' : Hp} {a : Addr} {xs : List V} (e : Same H H') (h : SqL K H a xs) : SqL K H' a xs := by
  rcases h with (h | ⟨o, h⟩) | h
  · exact .inl (.inl (e _ _ h))
  · exact .inl (.inr ⟨o, e _ _ h⟩)
  · exact .inr h

section
variable {X : Cx}
end
/-! ### a dict's pairs: keys that differ -/
section
variable {κ : Type} [DecidableEq κ]
end
end L2


section
namespace RF
/-! ### long division, the rests -/
def rst (b q r : Int) : Nat → Int
  | 0 => r
  | n + 1 => rst b q r n * b % q
def fig (b q r : Int) (i : Nat) : Int := rst b q r i * b / q
theorem rst_bd {b q r : Int} (hq : 0 < q) (h0 : 0 ≤ r) (h1 : r < q) : ∀ i, 0 ≤ rst b q r i ∧ rst b q r i < q
  | 0 => ⟨h0, h1⟩
  | i + 1 => ⟨Int.emod_nonneg _ (by omega), Int.emod_lt_of_pos _ hq⟩
theorem rst_step {b q r : Int} (i : Nat) : rst b q r i * b = fig b q r i * q + rst b q r (i + 1) := by
  unfold fig
  show _ = _ + rst b q r i * b % q
  have := Int.mul_ediv_add_emod (rst b q r i * b) q
  rw [Int.mul_comm] at this
  omega
theorem fig_bd {b q r : Int} (hb : 0 < b) (hq : 0 < q) (h0 : 0 ≤ r) (h1 : r < q) (i : Nat) : 0 ≤ fig b q r i ∧ fig b q r i < b := by
  have ⟨a, c⟩ := rst_bd (b := b) hq h0 h1 i
  unfold fig
  constructor
  · exact Int.ediv_nonneg (Int.mul_nonneg a (by omega)) (by omega)
  · apply Int.ediv_lt_of_lt_mul hq
    rw [Int.mul_comm]
    exact Int.mul_lt_mul_of_pos_left c hb
/-- from equal rests on all is equal -/
theorem rst_shift {b q r : Int} {i j : Nat} (e : rst b q r i = rst b q r j) : ∀ t, rst b q r (i + t) = rst b q r (j + t)
  | 0 => e
  | t + 1 => by
    show rst b q r (i + t) * b % q = rst b q r (j + t) * b % q
    rw [rst_shift e t]
theorem php : ∀ (m n : Nat) (f : Nat → Nat), (∀ i, i < n → f i < m) → (∀ i j, i < j → j < n → f i ≠ f j) → n ≤ m
  | 0, n, f, h, _ => by
    cases n with
    | zero => exact Nat.le_refl _
    | succ n => exact absurd (h 0 (by omega)) (by omega)
  | m + 1, 0, _, _, _ => Nat.zero_le _
  | m + 1, n + 1, f, h, d => by
    have hn := h n (by omega)
    by_cases e : f n = m
    · have := php m n f (fun i hi => by
        have h1 := h i (by omega)
        have h2 := d i n hi (by omega)
        omega) (fun i j a c => d i j a (by omega))
      omega
    · have := php m n (fun i => if f i = m then f n else f i) (fun i hi => by
        have h1 := h i (by omega)
        split <;> omega) (fun i j a c => by
          have h1 := d i j a (by omega)
          have h2 := d i n (by omega) (by omega)
          have h3 := d j n (by omega) (by omega)
          split <;> split <;> omega)
      omega
/-- all rests below n are fresh and no nought -/
structure Fresh (b q r : Int) (n : Nat) : Prop where
  nz : ∀ i, i < n → rst b q r i ≠ 0
  ne : ∀ i j, i < j → j < n → rst b q r i ≠ rst b q r j
theorem Fresh.zero {b q r : Int} : Fresh b q r 0 := ⟨fun _ h => absurd h (by omega), fun _ _ _ h => absurd h (by omega)⟩
theorem Fresh.succ {b q r : Int} {n : Nat} (F : Fresh b q r n) (h0 : rst b q r n ≠ 0) (h : ∀ i, i < n → rst b q r i ≠ rst b q r n) : Fresh b q r (n + 1) :=
  ⟨fun i hi => by
    by_cases e : i = n
    · rw [e]; exact h0
    · exact F.nz i (by omega),
   fun i j a c => by
    by_cases e : j = n
    · rw [e] at a ⊢; exact h i a
    · exact F.ne i j a (by omega)⟩
theorem Fresh.lt {b q r : Int} {n : Nat} (hq : 0 < q) (h0 : 0 ≤ r) (h1 : r < q) (F : Fresh b q r n) : n < q.toNat := by
  have := php (q.toNat - 1) n (fun i => (rst b q r i).toNat - 1) (fun i hi => by
      have a := rst_bd (b := b) hq h0 h1 i
      have c := F.nz i hi
      omega) (fun i j a c => by
      have x := rst_bd (b := b) hq h0 h1 i
      have y := rst_bd (b := b) hq h0 h1 j
      have z := F.ne i j a c
      have u := F.nz i (by omega)
      have v := F.nz j (by omega)
      omega)
  omega
def figs (b q r : Int) (k n : Nat) : List Int := (List.range n).map fun i => fig b q r (k + i)
theorem figs_length {b q r : Int} {k n : Nat} : (figs b q r k n).length = n := by simp [figs]
theorem figs_succ {b q r : Int} {k n : Nat} : figs b q r k (n + 1) = figs b q r k n ++ [fig b q r (k + n)] := by
  simp [figs, List.range_succ]
theorem figs_take {b q r : Int} {k n : Nat} (h : k ≤ n) : (figs b q r 0 n).take k = figs b q r 0 k := by
  apply List.ext_getElem
  · simp [figs]; omega
  · intro i h1 h2
    simp [figs]
theorem figs_drop {b q r : Int} {k n : Nat} : (figs b q r 0 n).drop k = figs b q r k (n - k) := by
  apply List.ext_getElem
  · simp [figs]
  · intro i h1 h2
    simp [figs]
/-- what long division tells -/
def DivIs (b t q w : Int) (a g : List Int) : Prop :=
  w = t / q ∧ ∃ n, Fresh b q (t % q) n ∧
    ((rst b q (t % q) n = 0 ∧ a = figs b q (t % q) 0 n ∧ g = []) ∨
     ∃ k, k < n ∧ rst b q (t % q) n ≠ 0 ∧ rst b q (t % q) k = rst b q (t % q) n ∧ a = figs b q (t % q) 0 k ∧ g = figs b q (t % q) k (n - k))
theorem Fresh.uniq {b q r : Int} {n m : Nat} (F : Fresh b q r n) (G : Fresh b q r m) (hn : rst b q r n = 0 ∨ ∃ k, k < n ∧ rst b q r k = rst b q r n)
    (hm : rst b q r m = 0 ∨ ∃ k, k < m ∧ rst b q r k = rst b q r m) : n = m := by
  rcases Nat.lt_trichotomy n m with l | l | l
  · rcases hn with h | ⟨k, h1, h2⟩
    · exact absurd h (G.nz n l)
    · exact absurd h2 (G.ne k n h1 l)
  · exact l
  · rcases hm with h | ⟨k, h1, h2⟩
    · exact absurd h (F.nz m l)
    · exact absurd h2 (F.ne k m h1 l)
theorem DivIs.uniq {b t q w w' : Int} {a a' g g' : List Int} (x : DivIs b t q w a g) (y : DivIs b t q w' a' g') : w = w' ∧ a = a' ∧ g = g' := by
  obtain ⟨hw, n, F, h⟩ := x
  obtain ⟨hw', m, G, h'⟩ := y
  refine ⟨hw.trans hw'.symm, ?_⟩
  have e : n = m := F.uniq G (h.imp (·.1) fun ⟨k, a, _, c, _⟩ => ⟨k, a, c⟩) (h'.imp (·.1) fun ⟨k, a, _, c, _⟩ => ⟨k, a, c⟩)
  subst e
  rcases h with ⟨h0, ha, hg⟩ | ⟨k, h1, h2, h3, ha, hg⟩
  · rcases h' with ⟨h0', ha', hg'⟩ | ⟨k', h1', h2', h3', ha', hg'⟩
    · exact ⟨ha.trans ha'.symm, hg.trans hg'.symm⟩
    · exact absurd h0 h2'
  · rcases h' with ⟨h0', ha', hg'⟩ | ⟨k', h1', h2', h3', ha', hg'⟩
    · exact absurd h0' h2
    · have : k = k' := by
        rcases Nat.lt_trichotomy k k' with l | l | l
        · exact absurd (h3.trans h3'.symm) (F.ne k k' l h1')
        · exact l
        · exact absurd (h3'.trans h3.symm) (F.ne k' k l h1)
      subst this
      exact ⟨ha.trans ha'.symm, hg.trans hg'.symm⟩
/-- taken c times above and below -/
theorem rst_scale {b q r c : Int} (hc : 0 < c) : ∀ i, rst b (c * q) (c * r) i = c * rst b q r i
  | 0 => rfl
  | i + 1 => by
    show rst b (c * q) (c * r) i * b % (c * q) = c * (rst b q r i * b % q)
    rw [rst_scale hc i, Int.mul_assoc, Int.mul_emod_mul_of_pos _ _ hc]
theorem fig_scale {b q r c : Int} (hc : 0 < c) (i : Nat) : fig b (c * q) (c * r) i = fig b q r i := by
  unfold fig
  rw [rst_scale hc i, Int.mul_assoc, Int.mul_ediv_mul_of_pos _ _ hc]
theorem figs_scale {b q r c : Int} (hc : 0 < c) (k n : Nat) : figs b (c * q) (c * r) k n = figs b q r k n := by
  unfold figs
  apply List.map_congr_left
  intro i _
  exact fig_scale hc _
theorem DivIs.scale {b t q w c : Int} {a g : List Int} (hc : 0 < c) (x : DivIs b t q w a g) : DivIs b (c * t) (c * q) w a g := by
  obtain ⟨hw, n, F, h⟩ := x
  refine ⟨by rw [Int.mul_ediv_mul_of_pos _ _ hc]; exact hw, n, ?_, ?_⟩
  · rw [Int.mul_emod_mul_of_pos _ _ hc]
    refine ⟨fun i hi z => ?_, fun i j a d z => ?_⟩
    · rw [rst_scale hc] at z
      rcases Int.mul_eq_zero.mp z with z | z
      · omega
      · exact F.nz i hi z
    · rw [rst_scale hc, rst_scale hc] at z
      exact F.ne i j a d (Int.eq_of_mul_eq_mul_left (by omega) z)
  · rw [Int.mul_emod_mul_of_pos _ _ hc]
    simp only [rst_scale hc, figs_scale hc]
    rcases h with ⟨h0, ha, hg⟩ | ⟨k, h1, h2, h3, ha, hg⟩
    · exact .inl ⟨by rw [h0]; omega, ha, hg⟩
    · exact .inr ⟨k, h1, fun z => by rcases Int.mul_eq_zero.mp z with z | z; · omega
                                     · exact h2 z, by rw [h3], ha, hg⟩
end RF

end
section
namespace RF
/-! ### numbers of figures -/
def num (b : Int) (l : List Int) : Int := l.foldl (fun n d => n * b + d) 0
theorem num_foldl (b : Int) : ∀ (l : List Int) (n : Int), l.foldl (fun n d => n * b + d) n = n * b ^ l.length + num b l
  | [], n => by simp [num]
  | d :: l, n => by
    have h1 := num_foldl b l (n * b + d)
    have h2 := num_foldl b l (0 * b + d)
    simp only [num, List.foldl_cons, List.length_cons, Int.pow_succ] at *
    rw [h1, h2]
    grind
theorem num_nil (b : Int) : num b [] = 0 := rfl
theorem num_cons (b d : Int) (l : List Int) : num b (d :: l) = d * b ^ l.length + num b l := by
  show l.foldl (fun n d => n * b + d) (0 * b + d) = _
  rw [num_foldl]; simp
theorem num_append (b : Int) (l m : List Int) : num b (l ++ m) = num b l * b ^ m.length + num b m := by
  unfold num
  rw [List.foldl_append, num_foldl]; rfl
theorem num_snoc (b d : Int) (l : List Int) : num b (l ++ [d]) = num b l * b + d := by
  rw [num_append, num_cons]
  simp only [num_nil, List.length_cons, List.length_nil]
  grind
abbrev Figs (b : Int) (l : List Int) : Prop := ∀ d, d ∈ l → 0 ≤ d ∧ d < b
theorem pow_pos {b : Int} (hb : 0 < b) : ∀ n : Nat, 0 < b ^ n
  | 0 => by simp
  | n + 1 => by rw [Int.pow_succ]; exact Int.mul_pos (pow_pos hb n) hb
theorem num_bd {b : Int} (hb : 0 < b) : ∀ {l : List Int}, Figs b l → 0 ≤ num b l ∧ num b l < b ^ l.length
  | [], _ => by simp [num]
  | d :: l, h => by
    have ⟨h1, h2⟩ := num_bd hb (l := l) fun x hx => h x (List.mem_cons_of_mem _ hx)
    have ⟨h3, h4⟩ := h d List.mem_cons_self
    have hp := pow_pos hb l.length
    rw [num_cons, List.length_cons, Int.pow_succ]
    constructor
    · have := Int.mul_nonneg h3 (Int.le_of_lt hp); omega
    · have h5 : (d + 1) * b ^ l.length ≤ b * b ^ l.length := Int.mul_le_mul_of_nonneg_right (by omega) (Int.le_of_lt hp)
      grind
/-! ### rotations -/
def rot1 : List Int → List Int
  | [] => []
  | x :: l => l ++ [x]
def rot : Nat → List Int → List Int
  | 0, l => l
  | n + 1, l => rot1 (rot n l)
theorem rot1_length (l : List Int) : (rot1 l).length = l.length := by cases l <;> simp [rot1]
theorem rot_length : ∀ (n : Nat) (l : List Int), (rot n l).length = l.length
  | 0, _ => rfl
  | n + 1, l => by show (rot1 (rot n l)).length = _; rw [rot1_length, rot_length n l]
theorem rot_add : ∀ (n m : Nat) (l : List Int), rot (n + m) l = rot m (rot n l)
  | _, 0, _ => rfl
  | n, m + 1, l => by
    show rot1 (rot (n + m) l) = rot1 (rot m (rot n l))
    rw [rot_add n m l]
theorem rot_eq : ∀ (n : Nat) (l : List Int), n ≤ l.length → rot n l = l.drop n ++ l.take n
  | 0, l, _ => by simp [rot]
  | n + 1, l, h => by
    show rot1 (rot n l) = _
    rw [rot_eq n l (by omega)]
    have hn : n < l.length := by omega
    rw [List.drop_eq_getElem_cons hn]
    show (l.drop (n + 1) ++ l.take n) ++ [l[n]] = _
    rw [List.take_succ_eq_append_getElem hn, List.append_assoc]
theorem rot_len (l : List Int) : rot l.length l = l := by
  rw [rot_eq _ _ (Nat.le_refl _)]; simp
theorem rot1_inj {l m : List Int} (h : rot1 l = rot1 m) : l = m := by
  cases l with
  | nil => cases m with
    | nil => rfl
    | cons a m => simp [rot1] at h
  | cons a l => cases m with
    | nil => simp [rot1] at h
    | cons c m =>
      have h : l ++ [a] = m ++ [c] := h
      have := List.append_inj' h rfl
      simp at this
      rw [this.1, this.2]
theorem rot_inj : ∀ (n : Nat) {l m : List Int}, rot n l = rot n m → l = m
  | 0, _, _, h => h
  | n + 1, _, _, h => rot_inj n (rot1_inj h)
/-- no shorter ring told twice or oftener -/
def Prim (g : List Int) : Prop := ∀ d, 0 < d → d < g.length → rot d g ≠ g
theorem Prim.rot {g : List Int} (p : Prim g) (n : Nat) : Prim (rot n g) := fun d h1 h2 e => by
  rw [rot_length] at h2
  rw [← rot_add, Nat.add_comm, rot_add] at e
  exact p d h1 h2 (rot_inj n e)
theorem Prim.ne {g : List Int} (p : Prim g) {i j : Nat} (h1 : i < j) (h2 : j < g.length) : RF.rot i g ≠ RF.rot j g := fun e => by
  have : RF.rot (j - i) g = g := by
    apply rot_inj i
    rw [← rot_add, show j - i + i = j by omega]
    exact e.symm
  exact p (j - i) (by omega) (by omega) this
/-- the words of the document, for figures ahead and a ring -/
def Plain (b : Int) (a g : List Int) : Prop :=
  (g = [] ∧ a.getLast? ≠ some 0) ∨
  (g ≠ [] ∧ (¬ ∀ d, d ∈ g → d = 0) ∧ (¬ ∀ d, d ∈ g → d = b - 1) ∧ Prim g ∧ a.getLast? ≠ g.getLast?)
/-- top and bottom of a writing's worth -/
def rM (b : Int) (g : List Int) : Int := if g = [] then 1 else b ^ g.length - 1
def wB (b : Int) (a g : List Int) : Int := b ^ a.length * rM b g
def wT (b w : Int) (a g : List Int) : Int := w * wB b a g + (num b a * rM b g + num b g)
theorem rM_nil (b : Int) : rM b [] = 1 := rfl
theorem rM_ne (b : Int) {g : List Int} (h : g ≠ []) : rM b g = b ^ g.length - 1 := by simp [rM, h]
theorem rM_pos {b : Int} (hb : 2 ≤ b) (g : List Int) : 0 < rM b g := by
  cases g with
  | nil => simp [rM]
  | cons x l =>
    rw [rM_ne b (by simp), List.length_cons, Int.pow_succ]
    have h1 := pow_pos (b := b) (by omega) l.length
    have h2 : b ^ l.length * 2 ≤ b ^ l.length * b := Int.mul_le_mul_of_nonneg_left hb (Int.le_of_lt h1)
    omega
theorem wB_pos {b : Int} (hb : 2 ≤ b) (a g : List Int) : 0 < wB b a g := Int.mul_pos (pow_pos (by omega) _) (rM_pos hb g)
end RF

end
section
namespace RF
/-! ### a plain writing is what long division tells of its worth -/
end RF

end
section
namespace RF
/-! ### what long division tells is plain and is worth the fraction -/
theorem DivIs.unscale {b t q w c : Int} {a g : List Int} (hc : 0 < c) (x : DivIs b (c * t) (c * q) w a g) : DivIs b t q w a g := by
  obtain ⟨hw, n, F, h⟩ := x
  rw [Int.mul_emod_mul_of_pos _ _ hc] at F h
  simp only [rst_scale hc, figs_scale hc] at h
  refine ⟨by rw [Int.mul_ediv_mul_of_pos _ _ hc] at hw; exact hw, n, ⟨fun i hi z => F.nz i hi ?_, fun i j a d z => F.ne i j a d ?_⟩, ?_⟩
  · rw [rst_scale hc, z]; omega
  · rw [rst_scale hc, rst_scale hc, z]
  · rcases h with ⟨h0, ha, hg⟩ | ⟨k, h1, h2, h3, ha, hg⟩
    · refine .inl ⟨?_, ha, hg⟩
      rcases Int.mul_eq_zero.mp h0 with z | z
      · omega
      · exact z
    · exact .inr ⟨k, h1, fun z => h2 (by rw [z]; omega), Int.eq_of_mul_eq_mul_left (by omega) h3, ha, hg⟩
/-- two fractions of one worth have one writing -/
theorem DivIs.cross {b t q T B w : Int} {a g : List Int} (hq : 0 < q) (hB : 0 < B) (e : T * q = t * B) (x : DivIs b T B w a g) : DivIs b t q w a g := by
  have y := x.scale hq
  rw [Int.mul_comm q T, e, Int.mul_comm t B, Int.mul_comm q B] at y
  exact y.unscale hB
theorem rst_pow {b q r : Int} (i : Nat) : ∀ n, rst b q r i * b ^ n = num b (figs b q r i n) * q + rst b q r (i + n)
  | 0 => by simp [figs, num]
  | n + 1 => by
    have h := rst_pow (b := b) (q := q) (r := r) i n
    have s := rst_step (b := b) (q := q) (r := r) (i + n)
    rw [figs_succ, num_snoc, Int.pow_succ, ← Int.mul_assoc, h]
    show _ = _ + rst b q r (i + n + 1)
    grind
theorem figs_mem {b q r : Int} (hb : 0 < b) (hq : 0 < q) (h0 : 0 ≤ r) (h1 : r < q) (k n : Nat) : Figs b (figs b q r k n) := fun d hd => by
  obtain ⟨i, _, rfl⟩ := List.mem_map.mp hd
  exact fig_bd hb hq h0 h1 _
theorem figs_cons {b q r : Int} {k n : Nat} : figs b q r k (n + 1) = fig b q r k :: figs b q r (k + 1) n := by
  unfold figs
  rw [List.range_succ_eq_map, List.map_cons, List.map_map]
  congr 1
  apply List.map_congr_left
  intro i _
  show fig b q r (k + (i + 1)) = fig b q r (k + 1 + i)
  rw [show k + (i + 1) = k + 1 + i by omega]
theorem rot_figs_eq {b q r : Int} {k m : Nat} (e : rst b q r k = rst b q r (k + m)) (hm : 0 < m) : ∀ d, rot d (figs b q r k m) = figs b q r (k + d) m
  | 0 => rfl
  | d + 1 => by
    show rot1 (rot d (figs b q r k m)) = _
    rw [rot_figs_eq e hm d]
    obtain ⟨m', rfl⟩ : ∃ m', m = m' + 1 := ⟨m - 1, by omega⟩
    rw [figs_cons]
    show figs b q r (k + d + 1) m' ++ [fig b q r (k + d)] = figs b q r (k + d + 1) (m' + 1)
    rw [figs_succ]
    congr 2
    unfold fig
    rw [rst_shift e d]
    congr 3
    omega
theorem num_zeros {b : Int} : ∀ {l : List Int}, (∀ d, d ∈ l → d = 0) → num b l = 0
  | [], _ => rfl
  | d :: l, h => by rw [num_cons, h d List.mem_cons_self, num_zeros fun x hx => h x (List.mem_cons_of_mem _ hx)]; simp
theorem num_tops {b : Int} : ∀ {l : List Int}, (∀ d, d ∈ l → d = b - 1) → num b l = b ^ l.length - 1
  | [], _ => by simp [num]
  | d :: l, h => by
    rw [num_cons, h d List.mem_cons_self, num_tops fun x hx => h x (List.mem_cons_of_mem _ hx), List.length_cons, Int.pow_succ]
    grind
theorem figs_last {b q r : Int} {k n : Nat} (h : 0 < n) : (figs b q r k n).getLast? = some (fig b q r (k + n - 1)) := by
  obtain ⟨m, rfl⟩ : ∃ m, n = m + 1 := ⟨n - 1, by omega⟩
  rw [figs_succ]
  simp
structure Told (b t q w : Int) (a g : List Int) : Prop where
  fa : Figs b a
  fg : Figs b g
  pl : Plain b a g
  wo : wT b w a g * q = t * wB b a g
  w0 : 0 ≤ w
  w1 : w ≤ t
  ln : a.length + g.length < q.toNat
theorem DivIs.told {b t q w : Int} {a g : List Int} (hb : 2 ≤ b) (hq : 0 < q) (ht : 0 ≤ t) (x : DivIs b t q w a g) : Told b t q w a g := by
  obtain ⟨hw, n, F, h⟩ := x
  have h0 : 0 ≤ t % q := Int.emod_nonneg _ (by omega)
  have h1 : t % q < q := Int.emod_lt_of_pos _ hq
  have hbp : (0 : Int) < b := by omega
  have hn := F.lt hq h0 h1
  have bd := rst_bd (b := b) hq h0 h1
  have et : t = w * q + t % q := by
    have := Int.mul_ediv_add_emod t q
    rw [Int.mul_comm, ← hw] at this
    omega
  have w0 : 0 ≤ w := by rw [hw]; exact Int.ediv_nonneg ht (by omega)
  have w1 : w ≤ t := by
    have : w * 1 ≤ w * q := Int.mul_le_mul_of_nonneg_left (by omega) w0
    omega
  rcases h with ⟨h0', rfl, rfl⟩ | ⟨k, hk, hz, he, rfl, rfl⟩
  · refine ⟨figs_mem hbp hq h0 h1 _ _, fun d hd => by simp at hd, .inl ⟨rfl, fun z => ?_⟩, ?_, w0, w1, by rw [figs_length]; simpa using hn⟩
    · cases n with
      | zero => simp [figs] at z
      | succ n =>
        rw [figs_last (by omega)] at z
        have z := Option.some.inj z
        have s := rst_step (b := b) (q := q) (r := t % q) n
        rw [show 0 + (n + 1) - 1 = n by omega] at z
        rw [z, h0'] at s
        have s' : rst b q (t % q) n * b = 0 := by omega
        rcases Int.mul_eq_zero.mp s' with z | z
        · exact F.nz n (by omega) z
        · omega
    · have p := rst_pow (b := b) (q := q) (r := t % q) 0 n
      rw [Nat.zero_add, h0'] at p
      have e0 : rst b q (t % q) 0 = t % q := rfl
      rw [e0] at p
      unfold wT wB
      rw [rM_nil, figs_length, num_nil]
      generalize t % q = r at *
      grind
  · have e0 : rst b q (t % q) 0 = t % q := rfl
    have p := rst_pow (b := b) (q := q) (r := t % q) 0 k
    have p2 := rst_pow (b := b) (q := q) (r := t % q) k (n - k)
    rw [Nat.zero_add, e0] at p
    rw [show k + (n - k) = n by omega, ← he] at p2
    have gl : (figs b q (t % q) k (n - k)).length = n - k := figs_length
    have gne : figs b q (t % q) k (n - k) ≠ [] := fun z => by rw [z] at gl; simp at gl; omega
    have bkp := pow_pos hbp (n - k)
    have p3 : rst b q (t % q) k * (b ^ (n - k) - 1) = num b (figs b q (t % q) k (n - k)) * q := by grind
    have hMpos : 0 < b ^ (n - k) - 1 := by
      have := rM_pos hb (figs b q (t % q) k (n - k))
      rw [rM_ne b gne, gl] at this
      exact this
    refine ⟨figs_mem hbp hq h0 h1 _ _, figs_mem hbp hq h0 h1 _ _, .inr ⟨gne, fun z => ?_, fun z => ?_, fun d d0 d1 z => ?_, fun z => ?_⟩, ?_, w0, w1, by rw [figs_length, figs_length]; omega⟩
    · rw [num_zeros z] at p3
      have p3 : rst b q (t % q) k * (b ^ (n - k) - 1) = 0 := by omega
      rcases Int.mul_eq_zero.mp p3 with y | y
      · exact F.nz k hk y
      · omega
    · rw [num_tops z, gl] at p3
      rw [Int.mul_comm] at p3
      have := Int.eq_of_mul_eq_mul_left (by omega) p3
      have := bd k
      omega
    · rw [gl] at d1
      have ek : rst b q (t % q) k = rst b q (t % q) (k + (n - k)) := by rw [show k + (n - k) = n by omega]; exact he
      rw [rot_figs_eq ek (by omega) d] at z
      have p4 := rst_pow (b := b) (q := q) (r := t % q) (k + d) (n - k)
      have e4 := rst_shift ek d
      rw [z, show k + d + (n - k) = k + (n - k) + d by omega, ← e4] at p4
      have p5 : rst b q (t % q) (k + d) * (b ^ (n - k) - 1) = rst b q (t % q) k * (b ^ (n - k) - 1) := by grind
      rw [Int.mul_comm, Int.mul_comm _ (b ^ (n - k) - 1)] at p5
      exact F.ne k (k + d) (by omega) (by omega) (Int.eq_of_mul_eq_mul_left (by omega) p5).symm
    · rw [figs_last (k := k) (n := n - k) (by omega)] at z
      cases k with
      | zero => simp [figs] at z
      | succ k =>
        rw [figs_last (k := 0) (n := k + 1) (by omega)] at z
        have z := Option.some.inj z
        rw [show 0 + (k + 1) - 1 = k by omega, show k + 1 + (n - (k + 1)) - 1 = n - 1 by omega] at z
        have s1 := rst_step (b := b) (q := q) (r := t % q) k
        have s2 := rst_step (b := b) (q := q) (r := t % q) (n - 1)
        rw [show n - 1 + 1 = n by omega, ← he, ← z, ← s1, Int.mul_comm, Int.mul_comm _ b] at s2
        exact F.ne k (n - 1) (by omega) (by omega) (Int.eq_of_mul_eq_mul_left (by omega) s2).symm
    · unfold wT wB
      rw [rM_ne b gne, gl, figs_length]
      generalize t % q = r at *
      generalize num b (figs b q r k (n - k)) = x at *
      generalize num b (figs b q r 0 k) = y at *
      generalize rst b q r k = rk at *
      have e1 : t = w * q + r := et
      subst e1
      have : b ^ k * r = y * q + rk := by rw [Int.mul_comm]; exact p
      grind
/-! ### lowest terms -/
def low (t q : Int) : Int × Int := (t / (Int.gcd t q : Nat), q / (Int.gcd t q : Nat))
theorem low_cross {T B t q : Int} (hB : 0 < B) (hq : 0 < q) (e : T * q = t * B) : low T B = low t q := by
  have g1 : Int.gcd (T * q) (B * q) = Int.gcd T B * q.natAbs := Int.gcd_mul_right T q B
  have g2 : Int.gcd (t * B) (q * B) = Int.gcd t q * B.natAbs := Int.gcd_mul_right t B q
  rw [e, Int.mul_comm B q, g2] at g1
  have p1 : 0 < Int.gcd T B := Int.gcd_pos_of_ne_zero_right _ (by omega)
  have p2 : 0 < Int.gcd t q := Int.gcd_pos_of_ne_zero_right _ (by omega)
  have g3 : (Int.gcd t q : Int) * B = (Int.gcd T B : Int) * q := by
    have := congrArg (fun n : Nat => (n : Int)) g1
    simp only [Int.natCast_mul] at this
    rw [Int.natAbs_of_nonneg (by omega), Int.natAbs_of_nonneg (by omega)] at this
    exact this
  obtain ⟨T1, hT⟩ := Int.gcd_dvd_left T B
  obtain ⟨B1, hB1⟩ := Int.gcd_dvd_right T B
  obtain ⟨t1, ht⟩ := Int.gcd_dvd_left t q
  obtain ⟨q1, hq1⟩ := Int.gcd_dvd_right t q
  unfold low
  generalize (Int.gcd T B) = G at *
  generalize (Int.gcd t q) = g at *
  subst hT hB1 ht hq1
  have G0 : (G : Int) ≠ 0 := by omega
  have g0 : (g : Int) ≠ 0 := by omega
  rw [Int.mul_ediv_cancel_left _ G0, Int.mul_ediv_cancel_left _ G0, Int.mul_ediv_cancel_left _ g0, Int.mul_ediv_cancel_left _ g0]
  have e1 : B1 = q1 := by
    have : ((g : Int) * G) * B1 = ((g : Int) * G) * q1 := by grind
    exact Int.eq_of_mul_eq_mul_left (Int.mul_ne_zero g0 G0) this
  subst e1
  have hB1 : B1 ≠ 0 := by
    intro z
    rw [z] at hB
    simp at hB
  have : ((g : Int) * G * B1) * T1 = ((g : Int) * G * B1) * t1 := by grind
  rw [Int.eq_of_mul_eq_mul_left (Int.mul_ne_zero (Int.mul_ne_zero g0 G0) hB1) this]
theorem low_pos {T B : Int} (hB : 0 < B) : 0 < (low T B).2 := by
  obtain ⟨B1, hB1⟩ := Int.gcd_dvd_right T B
  have p1 : 0 < Int.gcd T B := Int.gcd_pos_of_ne_zero_right _ (by omega)
  show 0 < B / (Int.gcd T B : Nat)
  exact Int.ediv_pos_of_pos_of_dvd hB (by omega) (Int.gcd_dvd_right T B)
/-- cross product with its lowest terms -/
theorem low_mul {T B : Int} (hB : 0 < B) : T * (low T B).2 = (low T B).1 * B := by
  show T * (B / (Int.gcd T B : Nat)) = T / (Int.gcd T B : Nat) * B
  obtain ⟨T1, hT⟩ := Int.gcd_dvd_left T B
  obtain ⟨B1, hB1⟩ := Int.gcd_dvd_right T B
  have p1 : 0 < Int.gcd T B := Int.gcd_pos_of_ne_zero_right _ (by omega)
  generalize (Int.gcd T B) = G at *
  subst hT hB1
  have G0 : (G : Int) ≠ 0 := by omega
  rw [Int.mul_ediv_cancel_left _ G0, Int.mul_ediv_cancel_left _ G0]
  grind
end RF

end
section
namespace RF
/-! ### repeated rings -/
def rep (c : Nat) (h : List Int) : List Int := (List.replicate c h).flatten
theorem rep_succ (c : Nat) (h : List Int) : rep (c + 1) h = h ++ rep c h := by simp [rep, List.replicate_succ]
theorem rep_succ' (h : List Int) : ∀ c, rep (c + 1) h = rep c h ++ h
  | 0 => by simp [rep]
  | c + 1 => by
    have e := rep_succ' h c
    rw [rep_succ (c + 1)]
    conv => lhs; rw [e]
    rw [← List.append_assoc, ← rep_succ]
theorem rep_add (h : List Int) (d : Nat) : ∀ c, rep (c + d) h = rep c h ++ rep d h
  | 0 => by simp [rep]
  | c + 1 => by rw [show c + 1 + d = (c + d) + 1 by omega, rep_succ, rep_add h d c, rep_succ, List.append_assoc]
theorem rep_rep (h : List Int) (d : Nat) : ∀ c, rep c (rep d h) = rep (c * d) h
  | 0 => by simp [rep]
  | c + 1 => by rw [rep_succ, rep_rep h d c, Nat.add_mul, Nat.one_mul, Nat.add_comm, rep_add]
theorem rot_append : ∀ (l m : List Int), rot l.length (l ++ m) = m ++ l := fun l m => by
  rw [rot_eq _ _ (by simp)]; simp
/-- ring of d figures told again and again -/
def Per (d : Nat) (g : List Int) : Prop := g.length % d = 0 ∧ rep (g.length / d) (g.take d) = g
theorem Per.rot {d : Nat} {g : List Int} (p : Per d g) (h0 : 0 < d) (h1 : d ≤ g.length) : rot d g = g := by
  obtain ⟨_, p⟩ := p
  obtain ⟨c, hc⟩ : ∃ c, g.length / d = c + 1 := ⟨g.length / d - 1, by have := Nat.div_pos h1 h0; omega⟩
  rw [hc] at p
  have hl : (g.take d).length = d := by rw [List.length_take]; omega
  have e := rot_append (g.take d) (rep c (g.take d))
  rw [← rep_succ, ← rep_succ', hl, p] at e
  exact e
theorem comm_rep {h : List Int} (hh : h ≠ []) : ∀ (c : Nat) (g : List Int), h ++ g = g ++ h → g.length = c * h.length → g = rep c h
  | 0, g, _, l => by
    have : g.length = 0 := by omega
    rw [List.length_eq_zero_iff.mp this]; rfl
  | c + 1, g, e, l => by
    have hl : h.length ≤ g.length := by rw [l, Nat.add_mul]; omega
    have e1 : h = g.take h.length := by
      have := congrArg (List.take h.length) e
      rw [List.take_left' rfl, List.take_append_of_le_length hl] at this
      exact this
    have e2 : g = h ++ g.drop h.length := by
      have := List.take_append_drop h.length g
      rw [← e1] at this
      exact this.symm
    have e3 : h ++ g.drop h.length = g.drop h.length ++ h := by
      rw [e2, List.append_assoc] at e
      have := List.append_cancel_left e
      rw [← e2] at this
      rw [← e2]
      exact this
    rw [e2, rep_succ, comm_rep hh c (g.drop h.length) e3 (by rw [List.length_drop, l, Nat.add_mul]; omega)]
theorem per_of_rot {d : Nat} {g : List Int} (h0 : 0 < d) (h1 : d < g.length) (hd : g.length % d = 0) (e : rot d g = g) : Per d g := by
  refine ⟨hd, ?_⟩
  have hl : (g.take d).length = d := by rw [List.length_take]; omega
  have hne : g.take d ≠ [] := fun z => by rw [z] at hl; simp at hl; omega
  rw [rot_eq d g (by omega)] at e
  have e1 : g.take d ++ g.drop d = g := List.take_append_drop d g
  have hc : g.length = g.length / d * d := by
    have := Nat.div_add_mod g.length d
    rw [hd, Nat.add_zero, Nat.mul_comm] at this
    exact this.symm
  obtain ⟨c, hcc⟩ : ∃ c, g.length / d = c + 1 := ⟨g.length / d - 1, by have := Nat.div_pos (Nat.le_of_lt h1) h0; omega⟩
  have := comm_rep hne c (g.drop d) (e1.trans e.symm) (by rw [List.length_drop, hl, hc, hcc, Nat.add_mul]; omega)
  rw [hcc, rep_succ, ← this]
  exact e1
theorem rot_period {g : List Int} : ∀ (n d : Nat), d ≤ n → 0 < d → d < g.length → rot d g = g → ∃ e, 0 < e ∧ e < g.length ∧ g.length % e = 0 ∧ rot e g = g
  | 0, d, h, h0, _, _ => absurd h (by omega)
  | n + 1, d, h, h0, h1, e => by
    by_cases hd : g.length % d = 0
    · exact ⟨d, h0, h1, hd, e⟩
    · have hr := Nat.mod_lt g.length h0
      have ec : ∀ c, rot (c * d) g = g := fun c => by
        induction c with
        | zero => simp [rot]
        | succ c ih => rw [Nat.add_mul, Nat.one_mul, rot_add, ih, e]
      refine rot_period n (g.length % d) (by omega) (by omega) (by omega) ?_
      have hs : g.length / d * d + g.length % d = g.length := by rw [Nat.mul_comm]; exact Nat.div_add_mod _ _
      have := rot_add (g.length / d * d) (g.length % d) g
      rw [hs, ec, rot_len] at this
      exact this.symm
theorem prim_of {g : List Int} (h : ∀ e, 0 < e → e < g.length → ¬ Per e g) : Prim g := fun d h0 h1 e => by
  obtain ⟨x, x0, x1, x2, x3⟩ := rot_period d d (Nat.le_refl _) h0 h1 e
  exact h x x0 x1 (per_of_rot x0 x1 x2 x3)
theorem Prim.no {g : List Int} (p : Prim g) {e : Nat} (h0 : 0 < e) (h1 : e < g.length) : ¬ Per e g := fun z => p e h0 h1 (z.rot h0 (Nat.le_of_lt h1))
/-- the shortest ring -/
def ShortIs (g h : List Int) : Prop :=
  (∃ d, 0 < d ∧ d < g.length ∧ Per d g ∧ h = g.take d ∧ ∀ e, 0 < e → e < d → ¬ Per e g) ∨ (h = g ∧ ∀ e, 0 < e → e < g.length → ¬ Per e g)
theorem per_short {d e : Nat} {g : List Int} (h0 : 0 < e) (h1 : e < d) (h2 : d < g.length) (p : Per d g) (q : Per e (g.take d)) : Per e g := by
  have hl : (g.take d).length = d := by rw [List.length_take]; omega
  obtain ⟨p1, p2⟩ := p
  obtain ⟨q1, q2⟩ := q
  rw [hl] at q1 q2
  rw [List.take_take, Nat.min_eq_left (Nat.le_of_lt h1)] at q2
  obtain ⟨x, hx⟩ := Nat.dvd_of_mod_eq_zero p1
  obtain ⟨y, hy⟩ := Nat.dvd_of_mod_eq_zero q1
  have hd : 0 < d := by omega
  have e1 : g.length / d = x := by rw [hx]; exact Nat.mul_div_cancel_left x hd
  have e2 : d / e = y := by
    have : e * y / e = y := Nat.mul_div_cancel_left y h0
    rw [← hy] at this; exact this
  have e3 : g.length / e = x * y := by
    have : g.length = e * (x * y) := by rw [hx]; conv => lhs; rw [hy]
                                        rw [Nat.mul_assoc, Nat.mul_comm y x]
    rw [this]; exact Nat.mul_div_cancel_left _ h0
  refine ⟨?_, ?_⟩
  · rw [hx, hy, Nat.mul_assoc]; exact Nat.mul_mod_right _ _
  · rw [e3, ← rep_rep, ← e2, q2, ← e1, p2]
structure Short (g h : List Int) : Prop where
  pr : Prim h
  rp : ∃ c, 0 < c ∧ g = rep c h
  ln : h.length ≤ g.length
  ne : g ≠ [] → h ≠ []
theorem ShortIs.facts {g h : List Int} (x : ShortIs g h) : Short g h := by
  rcases x with ⟨d, h0, h1, p, rfl, mn⟩ | ⟨rfl, mn⟩
  · have hl : (g.take d).length = d := by rw [List.length_take]; omega
    refine ⟨prim_of fun e e0 e1 q => ?_, ⟨g.length / d, Nat.div_pos (Nat.le_of_lt h1) h0, p.2.symm⟩, by omega, fun _ z => by rw [z] at hl; simp at hl; omega⟩
    rw [hl] at e1
    exact mn e e0 e1 (per_short e0 e1 h1 p q)
  · exact ⟨prim_of mn, ⟨1, by omega, by simp [rep]⟩, Nat.le_refl _, fun z => z⟩
/-- a ring is its own shortest one just where it is no shorter one told again -/
theorem ShortIs.self {g h : List Int} (x : ShortIs g h) : h = g ↔ Prim g := by
  constructor
  · intro e
    have := x.facts.pr
    rw [e] at this; exact this
  · intro p
    rcases x with ⟨d, h0, h1, q, rfl, mn⟩ | ⟨rfl, mn⟩
    · exact absurd q (p.no h0 h1)
    · rfl
/-! ### one worth -/
def SameW (b w : Int) (a g : List Int) (w' : Int) (a' g' : List Int) : Prop := wT b w a g * wB b a' g' = wT b w' a' g' * wB b a g
theorem SameW.refl (b w : Int) (a g : List Int) : SameW b w a g w a g := rfl
theorem SameW.symm {b w w' : Int} {a g a' g' : List Int} (h : SameW b w a g w' a' g') : SameW b w' a' g' w a g := Eq.symm h
theorem SameW.trans {b w w1 w2 : Int} {a g a1 g1 a2 g2 : List Int} (hb : 2 ≤ b) (x : SameW b w a g w1 a1 g1) (y : SameW b w1 a1 g1 w2 a2 g2) : SameW b w a g w2 a2 g2 := by
  unfold SameW at *
  have p := wB_pos hb a1 g1
  generalize wT b w a g = A at *
  generalize wB b a g = B at *
  generalize wT b w1 a1 g1 = A1 at *
  generalize wB b a1 g1 = B1 at *
  generalize wT b w2 a2 g2 = A2 at *
  generalize wB b a2 g2 = B2 at *
  have : B1 * (A * B2) = B1 * (A2 * B) := by grind
  exact Int.eq_of_mul_eq_mul_left (by omega) this
/-- what plain is to tell -/
structure PlainOut (b w : Int) (a g : List Int) (w' : Int) (a' g' : List Int) : Prop where
  dv : DivIs b (wT b w a g) (wB b a g) w' a' g'
  fa : Figs b a'
  fg : Figs b g'
  pl : Plain b a' g'
  sm : SameW b w a g w' a' g'
  w0 : w ≤ w'
  w1 : w' ≤ w + 1
  la : a'.length ≤ a.length
  lg : g'.length ≤ g.length
/-- figures without the last ones that are f -/
def DropIs (f : Int) (a a' : List Int) : Prop := a'.getLast? ≠ some f ∧ ∃ j, a = a' ++ List.replicate j f
theorem DropIs.figs {b f : Int} {a a' : List Int} (ha : Figs b a) (x : DropIs f a a') : Figs b a' := fun d hd => by
  obtain ⟨_, j, e⟩ := x
  exact ha d (by rw [e]; exact List.mem_append_left _ hd)
theorem DropIs.len {f : Int} {a a' : List Int} (x : DropIs f a a') : a'.length ≤ a.length := by
  obtain ⟨_, j, e⟩ := x
  rw [e, List.length_append]; omega
/-- so many figures are drawn into the ring -/
def DrawIs (a h : List Int) (u : Nat) : Prop := u ≤ a.length ∧ ∀ i, i < u → a[a.length - 1 - i]? = h[h.length - 1 - i % h.length]?
end RF

end
section
namespace RF
theorem gcd_step (x y : Int) : Int.gcd y (x % y) = Int.gcd x y := by
  have e : x % y = x + (-(x / y)) * y := by
    have := Int.mul_ediv_add_emod x y
    grind
  rw [e, Int.gcd_add_mul_right_right, Int.gcd_comm]
/-- whole numbers leave the lowest terms' bottom -/
theorem low_add {W N B : Int} (hB : 0 < B) : low (W * B + N) B = (W * (B / (Int.gcd N B : Nat)) + N / (Int.gcd N B : Nat), B / (Int.gcd N B : Nat)) := by
  unfold low
  rw [Int.gcd_mul_right_add_left]
  have p1 : 0 < Int.gcd N B := Int.gcd_pos_of_ne_zero_right _ (by omega)
  obtain ⟨N1, hN⟩ := Int.gcd_dvd_left N B
  obtain ⟨B1, hB1⟩ := Int.gcd_dvd_right N B
  generalize (Int.gcd N B) = G at *
  subst hN hB1
  have G0 : (G : Int) ≠ 0 := by omega
  have e : W * (G * B1) + G * N1 = G * (W * B1 + N1) := by grind
  rw [e, Int.mul_ediv_cancel_left _ G0, Int.mul_ediv_cancel_left _ G0, Int.mul_ediv_cancel_left _ G0]
theorem num_take_succ {b : Int} {ns : List Int} {i : Nat} {n : Int} (h : ns[i]? = some n) : num b (ns.take (i + 1)) = num b (ns.take i) * b + n := by
  have hi : i < ns.length := (List.getElem?_eq_some_iff.mp h).1
  have e : ns[i] = n := (List.getElem?_eq_some_iff.mp h).2
  rw [List.take_succ_eq_append_getElem hi, num_snoc, e]
theorem pow_lt {b : Int} (h0 : 0 ≤ b) (h1 : b ≤ 36) : ∀ n : Nat, (b ^ n).natAbs ≤ 2 ^ (6 * n)
  | 0 => by simp
  | n + 1 => by
    have ih := pow_lt h0 h1 n
    rw [Int.pow_succ, Int.natAbs_mul, show 6 * (n + 1) = 6 * n + 6 by omega, Nat.pow_add]
    exact Nat.mul_le_mul ih (by omega)
theorem wN_bd {b : Int} {a g : List Int} (hb : 2 ≤ b) (ha : Figs b a) (hg : Figs b g) : 0 ≤ num b a * rM b g + num b g ∧ num b a * rM b g + num b g ≤ wB b a g := by
  have hbp : (0 : Int) < b := by omega
  have hM := rM_pos hb g
  have ⟨a1, a2⟩ := num_bd hbp ha
  have ⟨g1, g2⟩ := num_bd hbp hg
  have hg3 : num b g ≤ rM b g := by
    by_cases e : g = []
    · subst e; simp [num, rM]
    · rw [rM_ne b e]; omega
  constructor
  · have := Int.mul_nonneg a1 (Int.le_of_lt hM); omega
  · have q3 : (num b a + 1) * rM b g ≤ b ^ a.length * rM b g := Int.mul_le_mul_of_nonneg_right (by omega) (Int.le_of_lt hM)
    unfold wB
    grind
theorem rM_le {b : Int} (hb : 2 ≤ b) (g : List Int) : rM b g ≤ b ^ g.length := by
  by_cases e : g = []
  · subst e; simp [rM]
  · rw [rM_ne b e]; omega
theorem wB_le {b : Int} (hb : 2 ≤ b) (h36 : b ≤ 36) (a g : List Int) : (wB b a g).natAbs ≤ 2 ^ (6 * (a.length + g.length)) := by
  have h1 := rM_le hb g
  have h2 := rM_pos hb g
  have h3 := pow_pos (b := b) (by omega) a.length
  have h4 : (rM b g).natAbs ≤ (b ^ g.length).natAbs := by omega
  unfold wB
  rw [Int.natAbs_mul, Nat.mul_add, Nat.pow_add]
  exact Nat.mul_le_mul (pow_lt (by omega) h36 _) (Nat.le_trans h4 (pow_lt (by omega) h36 _))
theorem DivIs.low {b t q w : Int} {a g : List Int} (hb : 2 ≤ b) (hq : 0 < q) (ht : 0 ≤ t) (x : DivIs b t q w a g) : low (wT b w a g) (wB b a g) = RF.low t q :=
  low_cross (wB_pos hb a g) hq (x.told hb hq ht).wo
/-- the fraction in lowest terms has the same writing -/
theorem DivIs.of_low {b t q w : Int} {a g : List Int} (hq : 0 < q) (x : DivIs b t q w a g) : DivIs b (RF.low t q).1 (RF.low t q).2 w a g :=
  x.cross (low_pos hq) hq (low_mul hq)
end RF

end
section
namespace RF
/-! ### there is a plain writing -/
/-! ### where long division stops -/
def Stop (b q r : Int) (N : Nat) : Prop := rst b q r N = 0 ∨ ∃ k, k < N ∧ rst b q r k = rst b q r N
theorem DivIs.stop {b t q w : Int} {a g : List Int} (x : DivIs b t q w a g) : Stop b q (t % q) (a.length + g.length) := by
  obtain ⟨_, n, F, h⟩ := x
  rcases h with ⟨h0, rfl, rfl⟩ | ⟨k, h1, h2, h3, rfl, rfl⟩
  · rw [figs_length]; exact .inl h0
  · rw [figs_length, figs_length, show k + (n - k) = n by omega]
    exact .inr ⟨k, h1, h3⟩
end RF

end
section
namespace RF
/-! ### lengths of a bottom -/
theorem rst_closed {b t q : Int} : ∀ i, rst b q (t % q) i = t * b ^ i % q
  | 0 => by
    show t % q = t * b ^ 0 % q
    rw [Int.pow_zero, Int.mul_one]
  | i + 1 => by
    show rst b q (t % q) i * b % q = _
    rw [rst_closed i, Int.pow_succ, ← Int.mul_assoc, Int.mul_emod (t * b ^ i % q), Int.emod_emod_of_dvd _ (Int.dvd_refl q), ← Int.mul_emod]
theorem dvd_cancel {t q x : Int} (h : Int.gcd t q = 1) (d : q ∣ t * x) : q ∣ x := by
  have h1 : q.natAbs ∣ t.natAbs * x.natAbs := by rw [← Int.natAbs_mul]; exact Int.natAbs_dvd_natAbs.mpr d
  have h2 : Nat.Coprime q.natAbs t.natAbs := by
    rw [Nat.coprime_iff_gcd_eq_one, Nat.gcd_comm]; exact h
  exact Int.natAbs_dvd_natAbs.mp (h2.dvd_of_dvd_mul_left h1)
theorem rst_zero_iff {b t q : Int} (h : Int.gcd t q = 1) (i : Nat) : rst b q (t % q) i = 0 ↔ q ∣ b ^ i := by
  rw [rst_closed, ← Int.dvd_iff_emod_eq_zero]
  exact ⟨fun d => dvd_cancel h d, fun d => Int.dvd_trans d (Int.dvd_mul_left _ _)⟩
theorem rst_eq_iff {b t q : Int} (h : Int.gcd t q = 1) (i m : Nat) : rst b q (t % q) (i + m) = rst b q (t % q) i ↔ q ∣ b ^ i * (b ^ m - 1) := by
  rw [rst_closed, rst_closed, Int.emod_eq_emod_iff_emod_sub_eq_zero, ← Int.dvd_iff_emod_eq_zero]
  have e : t * b ^ (i + m) - t * b ^ i = t * (b ^ i * (b ^ m - 1)) := by rw [Int.pow_add]; grind
  rw [e]
  exact ⟨fun d => dvd_cancel h d, fun d => Int.dvd_trans d (Int.dvd_mul_left _ _)⟩
def Len (b q : Int) (k r : Nat) : Prop :=
  (r = 0 ∧ q ∣ b ^ k ∧ ∀ i, i < k → ¬ q ∣ b ^ i) ∨
  (0 < r ∧ (∀ i, ¬ q ∣ b ^ i) ∧ q ∣ b ^ k * (b ^ r - 1) ∧ ∀ i m, 0 < m → q ∣ b ^ i * (b ^ m - 1) → k ≤ i ∧ r ≤ m)
theorem Len.uniq {b q : Int} {k r k' r' : Nat} (x : Len b q k r) (y : Len b q k' r') : k = k' ∧ r = r' := by
  rcases x with ⟨rfl, h1, h2⟩ | ⟨h0, h1, h2, h3⟩
  · rcases y with ⟨rfl, g1, g2⟩ | ⟨g0, g1, g2, g3⟩
    · refine ⟨?_, rfl⟩
      rcases Nat.lt_trichotomy k k' with l | l | l
      · exact absurd h1 (g2 k l)
      · exact l
      · exact absurd g1 (h2 k' l)
    · exact absurd h1 (g1 k)
  · rcases y with ⟨rfl, g1, g2⟩ | ⟨g0, g1, g2, g3⟩
    · exact absurd g1 (h1 k')
    · have a := h3 k' r' g0 g2
      have c := g3 k r h0 h2
      omega
theorem rst_round {b q r0 : Int} {k m : Nat} (e : rst b q r0 k = rst b q r0 (k + m)) : ∀ c s, rst b q r0 (k + c * m + s) = rst b q r0 (k + s)
  | 0, s => by rw [Nat.zero_mul, Nat.add_zero]
  | c + 1, s => by
    have h := rst_shift e (c * m + s)
    rw [show k + (c + 1) * m + s = k + m + (c * m + s) by rw [Nat.add_mul]; omega, ← h, ← Nat.add_assoc]
    exact rst_round e c s
theorem rst_round' {b q r0 : Int} {k m : Nat} (e : rst b q r0 k = rst b q r0 (k + m)) {i : Nat} (hi : k ≤ i) : rst b q r0 i = rst b q r0 (k + (i - k) % m) := by
  have h := rst_round e ((i - k) / m) ((i - k) % m)
  have h2 : (i - k) / m * m + (i - k) % m = i - k := by rw [Nat.mul_comm]; exact Nat.div_add_mod _ _
  rw [show k + (i - k) / m * m + (i - k) % m = i by omega] at h
  exact h
theorem Fresh.inj {b q r : Int} {n i j : Nat} (F : Fresh b q r n) (hi : i < n) (hj : j < n) (e : rst b q r i = rst b q r j) : i = j := by
  rcases Nat.lt_trichotomy i j with l | l | l
  · exact absurd e (F.ne i j l hj)
  · exact l
  · exact absurd e.symm (F.ne j i l hi)
/-- the writing of a fraction in lowest terms has the lengths of its bottom -/
theorem DivIs.len {b t q w : Int} {a g : List Int} (h : Int.gcd t q = 1) (x : DivIs b t q w a g) : Len b q a.length g.length := by
  obtain ⟨_, n, F, c⟩ := x
  rcases c with ⟨h0, rfl, rfl⟩ | ⟨k, hk, hz, he, rfl, rfl⟩
  · rw [figs_length]
    exact .inl ⟨rfl, (rst_zero_iff h n).mp h0, fun i hi d => F.nz i hi ((rst_zero_iff h i).mpr d)⟩
  · rw [figs_length, figs_length]
    have e : rst b q (t % q) k = rst b q (t % q) (k + (n - k)) := by rw [show k + (n - k) = n by omega]; exact he
    have hm : 0 < n - k := by omega
    refine .inr ⟨hm, fun i d => ?_, ?_, fun i m hm' d => ?_⟩
    · have z := (rst_zero_iff (b := b) h i).mpr d
      by_cases l : i < n
      · exact F.nz i l z
      · rw [rst_round' e (by omega : k ≤ i)] at z
        exact F.nz _ (by have := Nat.mod_lt (i - k) hm; omega) z
    · exact (rst_eq_iff h k (n - k)).mp e.symm
    · have z := (rst_eq_iff (b := b) h i m).mpr d
      have zc : ∀ c, rst b q (t % q) (i + c * m) = rst b q (t % q) i := fun c => by
        have := rst_round z.symm c 0
        rw [Nat.add_zero, Nat.add_zero] at this
        exact this
      have ki : k ≤ i := by
        refine Nat.le_of_not_lt fun l => ?_
        have z2 := zc k
        have hkm : k ≤ i + k * m := by
          have : k * 1 ≤ k * m := Nat.mul_le_mul_left k hm'
          omega
        rw [rst_round' e hkm] at z2
        have hs := Nat.mod_lt (i + k * m - k) hm
        have := F.inj (by omega) (by omega) z2
        omega
      refine ⟨ki, ?_⟩
      rw [rst_round' e ki, rst_round' e (by omega : k ≤ i + m)] at z
      have s1 := Nat.mod_lt (i - k) hm
      have s2 := Nat.mod_lt (i + m - k) hm
      have ez := F.inj (by omega) (by omega) z
      refine Nat.le_of_not_lt fun l => ?_
      have q1 := Nat.div_add_mod (i - k) (n - k)
      have q2 := Nat.div_add_mod (i + m - k) (n - k)
      have e5 : (i + m - k) % (n - k) = (i - k) % (n - k) := by omega
      have e6 : (n - k) * ((i + m - k) / (n - k)) = (n - k) * ((i - k) / (n - k)) + m := by omega
      have e7 : m = (n - k) * ((i + m - k) / (n - k) - (i - k) / (n - k)) := by rw [Nat.mul_sub]; omega
      generalize (i + m - k) / (n - k) - (i - k) / (n - k) = y at e7
      cases y with
      | zero => rw [Nat.mul_zero] at e7; omega
      | succ y =>
        have : (n - k) * 1 ≤ (n - k) * (y + 1) := Nat.mul_le_mul_left _ (by omega)
        omega
/-! ### what a bottom has in common with the base -/
def left (b q i : Nat) : Nat := q / q.gcd (b ^ i)
end RF

end
section
namespace RF
/-! ### the order of the base -/
/-! ### prime numbers -/
def Pr (p : Nat) : Prop := 2 ≤ p ∧ ∀ d, d ∣ p → d = 1 ∨ d = p
def fac (n : Nat) : Nat := ((List.range n).map (· + 1)).prod
/-! ### rings of primes -/
/-- what the document says of bottoms that are prime -/
structure PrimeRing (b p : Nat) (a g : List Int) : Prop where
  ah : a = []
  ne : g ≠ []
  dv : (p - 1) % g.length = 0
  fo : ∀ h, g.length = 2 * h → ∀ k, k < h → g.getD k 0 + g.getD (k + h) 0 = (b : Int) - 1
end RF

end
section
namespace RF
/-! ### the figure at a place; a figure further -/
theorem rst_from {b q r : Int} : ∀ i, rst b q (r * b % q) i = rst b q r (i + 1)
  | 0 => rfl
  | i + 1 => by
    show rst b q (r * b % q) i * b % q = rst b q r (i + 1) * b % q
    rw [rst_from i]
theorem fig_from {b q r : Int} (i : Nat) : fig b q (r * b % q) i = fig b q r (i + 1) := by
  unfold fig; rw [rst_from]
theorem figs_from {b q r : Int} (k n : Nat) : figs b q (r * b % q) k n = figs b q r (k + 1) n := by
  unfold figs
  apply List.map_congr_left
  intro i _
  rw [fig_from, Nat.add_right_comm]
/-- the fraction taken base times, without its whole part -/
theorem DivIs.next {b t q w : Int} {a g : List Int} (hq : 0 < q) (t0 : 0 ≤ t) (tq : t < q) (x : DivIs b t q w a g) :
    (∃ f a', a = f :: a' ∧ t * b / q = f ∧ DivIs b (t * b % q) q 0 a' g) ∨ (∃ f g', a = [] ∧ g = f :: g' ∧ t * b / q = f ∧ DivIs b (t * b % q) q 0 [] (g' ++ [f])) ∨
      (a = [] ∧ g = [] ∧ t * b / q = 0 ∧ DivIs b (t * b % q) q 0 [] []) := by
  obtain ⟨_, n, F, c⟩ := x
  have et : t % q = t := Int.emod_eq_of_lt t0 tq
  rw [et] at F c
  have e1 : (t * b % q) % q = t * b % q := Int.emod_emod_of_dvd _ (Int.dvd_refl _)
  have w0 : (0 : Int) = t * b % q / q := (Int.ediv_eq_zero_of_lt (Int.emod_nonneg _ (by omega)) (Int.emod_lt_of_pos _ hq)).symm
  have ef : t * b / q = fig b q t 0 := rfl
  have fr : ∀ m, m + 1 ≤ n → Fresh b q (t * b % q) m := fun m hm =>
    ⟨fun i hi => by rw [rst_from]; exact F.nz (i + 1) (by omega), fun i j hij hj => by rw [rst_from, rst_from]; exact F.ne (i + 1) (j + 1) (by omega) (by omega)⟩
  rcases c with ⟨h0, rfl, rfl⟩ | ⟨k, hk, hz, he, rfl, rfl⟩
  · cases n with
    | zero =>
      have ht : t = 0 := h0
      subst ht
      refine .inr (.inr ⟨rfl, rfl, by rw [Int.zero_mul, Int.zero_ediv], w0, 0, Fresh.zero, .inl ⟨?_, rfl, rfl⟩⟩)
      rw [e1]
      show (0 : Int) * b % q = 0
      rw [Int.zero_mul, Int.zero_emod]
    | succ m =>
      refine .inl ⟨_, _, figs_cons, ef, w0, m, ?_, .inl ⟨?_, ?_, rfl⟩⟩
      · rw [e1]; exact fr m (Nat.le_refl _)
      · rw [e1, rst_from]; exact h0
      · rw [e1, figs_from]
  · cases k with
    | zero =>
      obtain ⟨m, rfl⟩ : ∃ m, n = m + 1 := ⟨n - 1, by omega⟩
      have he : t = rst b q t (m + 1) := he
      have sh : ∀ i, rst b q t (m + 1 + i) = rst b q t i := fun i => by
        have := rst_shift (b := b) (q := q) (r := t) (i := 0) (j := m + 1) he i
        rw [Nat.zero_add] at this
        exact this.symm
      refine .inr (.inl ⟨fig b q t 0, figs b q t 1 m, rfl, by rw [Nat.sub_zero, figs_cons], ef, w0, m + 1, ?_, .inr ⟨0, by omega, ?_, ?_, rfl, ?_⟩⟩)
      · rw [e1]
        refine ⟨fun i hi => ?_, fun i j hij hj => ?_⟩
        · rw [rst_from]
          by_cases e : i + 1 = m + 1
          · rw [e]; exact hz
          · exact F.nz (i + 1) (by omega)
        · rw [rst_from, rst_from]
          by_cases e : j + 1 = m + 1
          · rw [e, ← he]
            exact (F.ne 0 (i + 1) (by omega) (by omega)).symm
          · exact F.ne (i + 1) (j + 1) (by omega) (by omega)
      · rw [e1, rst_from, sh 1]
        by_cases e : m = 0
        · subst e; exact hz
        · exact F.nz 1 (by omega)
      · rw [e1, rst_from, rst_from, sh 1]
      · rw [e1, figs_from, Nat.sub_zero, figs_succ]
        congr 2
        unfold fig
        rw [show 0 + 1 + m = m + 1 by omega, ← he]; rfl
    | succ k =>
      obtain ⟨m, rfl⟩ : ∃ m, n = m + 1 := ⟨n - 1, by omega⟩
      refine .inl ⟨_, _, figs_cons, ef, w0, m, ?_, .inr ⟨k, by omega, ?_, ?_, ?_, ?_⟩⟩
      · rw [e1]; exact fr m (Nat.le_refl _)
      · rw [e1, rst_from]; exact hz
      · rw [e1, rst_from, rst_from]; exact he
      · rw [e1, figs_from]
      · rw [e1, figs_from, show m + 1 - (k + 1) = m - k by omega]
end RF

end
section
namespace RF
end RF

end
section
namespace RF
/-! ### powers by squaring -/
end RF

end
section
namespace RF
/-! ### sums and multiples over one bottom -/
theorem low_sum {n1 n2 D : Int} (hD : 0 < D) : low ((low n1 D).1 * (low n2 D).2 + (low n2 D).1 * (low n1 D).2) ((low n1 D).2 * (low n2 D).2) = low (n1 + n2) D := by
  have h1 := low_mul (T := n1) hD
  have h2 := low_mul (T := n2) hD
  have p1 := low_pos (T := n1) hD
  have p2 := low_pos (T := n2) hD
  refine low_cross (Int.mul_pos p1 p2) hD ?_
  generalize (low n1 D).1 = t1 at *
  generalize (low n1 D).2 = q1 at *
  generalize (low n2 D).1 = t2 at *
  generalize (low n2 D).2 = q2 at *
  grind
theorem low_times {n D k : Int} (hD : 0 < D) : low ((low n D).1 * k) (low n D).2 = low (n * k) D := by
  have h1 := low_mul (T := n) hD
  have p1 := low_pos (T := n) hD
  refine low_cross p1 hD ?_
  generalize (low n D).1 = t1 at *
  generalize (low n D).2 = q1 at *
  grind
theorem low_div {T B : Int} (hB : 0 < B) : (low T B).1 / (low T B).2 = T / B := by
  obtain ⟨T1, hT⟩ := Int.gcd_dvd_left T B
  obtain ⟨B1, hB1⟩ := Int.gcd_dvd_right T B
  have p1 : 0 < Int.gcd T B := Int.gcd_pos_of_ne_zero_right _ (by omega)
  show T / (Int.gcd T B : Nat) / (B / (Int.gcd T B : Nat)) = T / B
  generalize (Int.gcd T B) = G at *
  subst hT hB1
  have G0 : (G : Int) ≠ 0 := by omega
  rw [Int.mul_ediv_cancel_left _ G0, Int.mul_ediv_cancel_left _ G0, Int.mul_ediv_mul_of_pos _ _ (by omega)]
theorem low_zero {D : Int} (hD : 0 < D) : low 0 D = (0, 1) := by
  have : low 0 D = low 0 1 := low_cross hD (by decide) (by simp)
  rw [this]; rfl
theorem low_self {D : Int} (hD : 0 < D) : low D D = (1, 1) := by
  have : low D D = low 1 1 := low_cross hD (by decide) (by simp)
  rw [this]; rfl
/-- a whole number has nothing behind the point -/
theorem div_whole {b t w : Int} {a g : List Int} (x : DivIs b t 1 w a g) : w = t ∧ a = [] ∧ g = [] := by
  have y : DivIs b t 1 t [] [] := ⟨by simp, 0, Fresh.zero, .inl ⟨by show t % 1 = 0; simp [Int.emod_one], rfl, rfl⟩⟩
  exact x.uniq y
theorem dvd_mul_ediv {q D : Int} (h : q ∣ D) (t : Int) (hq : 0 < q) : t * D = t * (D / q) * q := by
  rw [Int.mul_assoc, Int.ediv_mul_cancel h]
/-- a fraction over a bottom that its own goes into -/
theorem low_over {t q D : Int} (hq : 0 < q) (hD : 0 < D) (h : q ∣ D) : low t q = low (t * (D / q)) D := low_cross hq hD (dvd_mul_ediv h t hq)
end RF

end
set_option Elab.async false
set_option maxRecDepth 100000
namespace L2
open PySem PySem.Spec PyProof.Rows
/-! MY OWN WORDS over the layer -/
/-- a def of the text with its promise, by its name -/
structure Got (P : Program) (w : World) (K : PySem.W.Frag) (mg : Str → Option Value) (base : Heap) (name : Str) (k : Nat) (ps : List Str) (sp : Sp) : Prop where
  ex : ∃ (f : Addr) (fd : FuncData), FnOk P w K mg base CX0 k f fd ps sp ∧ Binds K fd ps [] ∧ PySem.W.keepIn K (.ref f) = true ∧ mg name = some (.ref f)
/-- a def of the text as it stands -/
structure IsDef (K : PySem.W.Frag) (mg : Str → Option Value) (name : Str) (st : Stmt) (ps : List Str) : Prop where
  ex : ∃ (f : Addr) (fd : FuncData), Fun K name name st f fd ∧ Binds K fd ps [] ∧ mg name = some (.ref f)
/-- an int of the module's top -/
def IsInt (mg : Str → Option Value) (name : Str) (i : Int) : Prop := ∃ t, mg name = some (.int i t)
theorem IsDef.got {P : Program} {w : World} {K : PySem.W.Frag} {mg : Str → Option Value} {base : Heap} {name : Str} {st : Stmt} {ps N : List Str} {k : Nat} {sp : Sp} (D : IsDef K mg name st ps) (S : FnScope N ps (defScope st)) (len : ∀ vs H Q E, sp vs H Q E → vs.length = ps.length)
    (hbody : ∀ (f : Addr) (cdv : Value) (A : Around) (outer : List Env) (s : Shared) (H : Hp) (vs : List V) (Q : VK) (E : XK), Room k (A.deeper (envOfC name (defScope st) s.heap.objs.size f cdv)) → sp vs H Q E →
      ∃ t, PSs (cxOf CX0 P w K mg base N name (defScope st) f cdv A outer s H E).nox (defBody st) t ∧ t { nx := fun _ H' => Q .non H', rt := Q } (start N vs) H) : Got P w K mg base name (k + 1) ps sp := by
  obtain ⟨f, fd, F, b, m⟩ := D.ex
  exact ⟨f, fd, F.ok S len (fun cdv A outer s H vs Q E hr h => hbody f cdv A outer s H vs Q E hr h), b, F.kp, m⟩
theorem Got.mono {P : Program} {w : World} {K : PySem.W.Frag} {mg : Str → Option Value} {base : Heap} {name : Str} {ps : List Str} {j k : Nat} {sp : Sp} (G : Got P w K mg base name j ps sp) (h : j ≤ k) : Got P w K mg base name k ps sp := by
  obtain ⟨f, fd, F, b, kp, m⟩ := G.ex
  exact ⟨f, fd, F.mono h, b, kp, m⟩
section
variable {X : Cx} {x : Str} {p pos : Pos} {e : Expr} {es : List Expr} {t : TA} {k : Nat} {ps : List Str} {sp : Sp}
theorem pe_callG (G : Got X.prog X.w X.K X.mg X.base x k ps sp) (hr : Room k X.A) (hg : Gl X x) (ha : PA X (e :: es) t) (hdb : (x == ("__debug__" : Str)) = false := by decide)
    (he : starEach (e :: es) X.env = (false, eval e X.env) :: starEach es X.env := by rfl) (hpl : (backTo pos (starEach es X.env)).any (·.1) = false := by rfl) : PE X (.Call (.Name x p) (e :: es) [] pos) (tCall sp [] E0 t) := by
  obtain ⟨f, fd, F, b, kp, m⟩ := G.ex
  exact pe_call F hr hg m kp b .nil pass0 ha hdb he hpl
theorem pe_globI {i : Int} (h : IsInt X.mg x i) (hg : Gl X x) (hd : (x == ("__debug__" : Str)) = false := by decide) : PE X (.Name x pos) (tC (.int i)) := by
  obtain ⟨t, h⟩ := h
  exact pe_glob hg h ⟨t, rfl⟩ hd
/-! ### isinstance -/
theorem call_isi : CallR X (.builtin "isinstance") (fun xs H Q => ∃ x T t b, xs = [x, .ty T] ∧ TyOf X.K H x t ∧ PySem.W.kitOne X.K t (.type T) = some b ∧ Q (.bl b) H) := by
  intro pins s σ H xs us Q I r h
  obtain ⟨x, T, t, b, rfl, ty, e, q⟩ := h
  obtain ⟨u, w', rfl, r1, r2⟩ := vals2 r
  cases (show w' = Value.type T from r2)
  exact isinst_ok I r1 ty e fun tk => ⟨.bl b, H, I.tok tk, rfl, q⟩
theorem kit_self {K : PySem.W.Frag} (t : Value) (h : (t == t) = true) : PySem.W.kitOne K t t = some true := by unfold PySem.W.kitOne; rw [if_pos h]
/-! ### == of data: ints, lists of ints, tuples of these -/
inductive RdL (K : PySem.W.Frag) (H : Hp) : V → PyData → Prop
  | int (i : Int) : RdL K H (.int i) (.int i)
  | bl (b : Bool) : RdL K H (.bl b) (.bool b)
  | lst {a : Addr} {ns : List Int} : SqL K H a (ns.map V.int) → RdL K H (.ref a) (.list (ns.map PyData.int))
inductive RdT (K : PySem.W.Frag) (H : Hp) : V → PyData → Prop
  | of {v : V} {d : PyData} : RdL K H v d → RdT K H v d
  | tup {a : Addr} {xs : List V} {ds : List PyData} : SqT K H a xs → Paired (RdL K H) xs ds → RdT K H (.ref a) (.tuple ds)
theorem readsAll_ints {h : Heap} : ∀ {ns : List Int} {us : List Value}, Vals (ns.map V.int) us → ReadsAll h us (ns.map PyData.int) []
  | [], _, .nil => .nil
  | n :: ns, _, .cons r t => by
    obtain ⟨k, rfl⟩ := (show ∃ k, _ = Value.int n k from r)
    have := ReadsAll.cons (Reads.int (h := h) n k) (readsAll_ints (h := h) t)
    simpa using this
theorem RdL.reads {pins : List (Addr × Obj)} {s : Shared} {σ : St} {H : Hp} {v : V} {u : Value} {d : PyData} (I : Inv X pins σ H s) (r : RelV v u) (h : RdL X.K H v d) : ∃ as, Reads s.heap u d as := by
  cases h with
  | int i => obtain ⟨t, rfl⟩ := (show ∃ t, u = Value.int i t from r); exact ⟨_, Reads.int i t⟩
  | bl b => cases (show u = Value.bool b from r); exact ⟨_, Reads.bool b⟩
  | @lst a ns hs =>
    cases (show u = Value.ref a from r)
    obtain ⟨its, rv, pl, _⟩ := I.list hs
    obtain ⟨o, ho, hc, n, hd⟩ := pl.isList
    exact ⟨_, Reads.list ho hc hd (by simpa using readsAll_ints rv)⟩
theorem RdL.readsAll {pins : List (Addr × Obj)} {s : Shared} {σ : St} {H : Hp} (I : Inv X pins σ H s) : ∀ {xs : List V} {us : List Value} {ds : List PyData}, Vals xs us → Paired (RdL X.K H) xs ds → ∃ as, ReadsAll s.heap us ds as
  | _, _, _, .nil, .nil => ⟨_, ReadsAll.nil⟩
  | _, _, _, .cons r t, .cons q y => by
    obtain ⟨as, h1⟩ := RdL.reads I r q
    obtain ⟨bs, h2⟩ := RdL.readsAll I t y
    exact ⟨_, ReadsAll.cons h1 h2⟩
theorem RdT.reads {pins : List (Addr × Obj)} {s : Shared} {σ : St} {H : Hp} {v : V} {u : Value} {d : PyData} (I : Inv X pins σ H s) (r : RelV v u) (h : RdT X.K H v d) : ∃ as, Reads s.heap u d as := by
  cases h with
  | of h => exact h.reads I r
  | @tup a xs ds hs hp =>
    cases (show u = Value.ref a from r)
    obtain ⟨its, rv, ht, _⟩ := I.tuple hs
    obtain ⟨o, ho, hc, n, hd⟩ := ht
    obtain ⟨as, q⟩ := RdL.readsAll I rv hp
    exact ⟨_, Reads.tuple ho hc hd (by simpa using q)⟩
theorem canLay_ints : ∀ ns : List Int, PyData.canLayAll0 (ns.map PyData.int) = true
  | [] => rfl
  | _ :: r => by simp [PyData.canLayAll0, PyData.canLay0, canLay_ints r]
theorem depth_ints : ∀ ns : List Int, PyData.depthAll (ns.map PyData.int) = 0
  | [] => rfl
  | _ :: r => by simp [PyData.depthAll, PyData.depth, depth_ints r]
theorem RdL.lay {K : PySem.W.Frag} {H : Hp} {v : V} {d : PyData} (h : RdL K H v d) : d.canLay0 = true ∧ d.depth ≤ 1 := by
  cases h with
  | int i => simp [PyData.canLay0, PyData.depth]
  | bl i => simp [PyData.canLay0, PyData.depth]
  | @lst a ns hs => simp [PyData.canLay0, PyData.depth, canLay_ints, depth_ints]
theorem RdL.layAll {K : PySem.W.Frag} {H : Hp} : ∀ {xs : List V} {ds : List PyData}, Paired (RdL K H) xs ds → PyData.canLayAll0 ds = true ∧ PyData.depthAll ds ≤ 1
  | _, _, .nil => by simp [PyData.canLayAll0, PyData.depthAll]
  | _, _, .cons r t => by
    have h1 := r.lay
    have h2 := RdL.layAll t
    simp only [PyData.canLayAll0, PyData.depthAll, h1.1, h2.1, Bool.and_self, true_and]
    have := h1.2
    have := h2.2
    omega
theorem RdT.shaped {K : PySem.W.Frag} {H : Hp} {v : V} {d : PyData} (h : RdT K H v d) : SeqAt.shaped d = true := by
  have : d.canLay0 = true ∧ d.depth ≤ 3 := by
    cases h with
    | of h => exact ⟨h.lay.1, by have := h.lay.2; omega⟩
    | @tup a xs ds hs hp =>
      have := RdL.layAll hp
      simp only [PyData.canLay0, PyData.depth, this.1, true_and]
      have := this.2
      omega
  unfold SeqAt.shaped
  rw [this.1, Bool.true_and]
  exact decide_eq_true (by have := this.2; omega)
theorem op_eqD (hu : X.A.units + 64 < cLine) : OpR X (compareOp .Eq) (fun x y H Q => ∃ d e, RdT X.K H x d ∧ RdT X.K H y e ∧ Q (.bl (PyData.eqv d e)) H) := by
  intro pins s σ H x y v u Q I rx ry h
  obtain ⟨d, e, h1, h2, q⟩ := h
  obtain ⟨as, ra⟩ := h1.reads I rx
  obtain ⟨bs, rb⟩ := h2.reads I ry
  exact eq_dataH ra rb h1.shaped h2.shaped hu ⟨.bl _, H, I, rfl, q⟩
theorem op_neD (hu : X.A.units + 64 < cLine) : OpR X (compareOp .NotEq) (fun x y H Q => ∃ d e, RdT X.K H x d ∧ RdT X.K H y e ∧ Q (.bl (!PyData.eqv d e)) H) := by
  intro pins s σ H x y v u Q I rx ry h
  obtain ⟨d, e, h1, h2, q⟩ := h
  obtain ⟨as, ra⟩ := h1.reads I rx
  obtain ⟨bs, rb⟩ := h2.reads I ry
  exact ne_dataH ra rb h1.shaped h2.shaped hu ⟨.bl _, H, I, rfl, q⟩
end
theorem eqv_ints : ∀ ns ms : List Int, PyData.eqvAll (ns.map PyData.int) (ms.map PyData.int) = decide (ns = ms)
  | [], [] => by simp [PyData.eqvAll]
  | [], _ :: _ => by simp [PyData.eqvAll]
  | _ :: _, [] => by simp [PyData.eqvAll]
  | a :: r, b :: t => by
    simp only [List.map_cons, PyData.eqvAll, PyData.eqv, eqv_ints r t]
    by_cases h : a = b <;> by_cases h' : r = t <;> simp [h, h']
/-- == of lists of ints -/
def rEqL (K : PySem.W.Frag) : R2 := fun x y H Q => ∃ (a b : Addr) (ns ms : List Int), x = .ref a ∧ y = .ref b ∧ SqL K H a (ns.map V.int) ∧ SqL K H b (ms.map V.int) ∧ Q (.bl (decide (ns = ms))) H
def rNeL (K : PySem.W.Frag) : R2 := fun x y H Q => ∃ (a b : Addr) (ns ms : List Int), x = .ref a ∧ y = .ref b ∧ SqL K H a (ns.map V.int) ∧ SqL K H b (ms.map V.int) ∧ Q (.bl (!decide (ns = ms))) H
/-- a writing stands at p -/
structure WrAt (K : PySem.W.Frag) (H : Hp) (p la lg : Addr) (w : Int) (a g : List Int) : Prop where
  t : SqT K H p [.int w, .ref la, .ref lg]
  a : SqL K H la (a.map V.int)
  g : SqL K H lg (g.map V.int)
def rEqW (K : PySem.W.Frag) : R2 := fun x y H Q => ∃ (p la lg : Addr) (w : Int) (a g : List Int) (p' la' lg' : Addr) (w' : Int) (a' g' : List Int), x = .ref p ∧ y = .ref p' ∧ WrAt K H p la lg w a g ∧ WrAt K H p' la' lg' w' a' g' ∧ Q (.bl (decide (w = w' ∧ a = a' ∧ g = g'))) H
def rNeW (K : PySem.W.Frag) : R2 := fun x y H Q => ∃ (p la lg : Addr) (w : Int) (a g : List Int) (p' la' lg' : Addr) (w' : Int) (a' g' : List Int), x = .ref p ∧ y = .ref p' ∧ WrAt K H p la lg w a g ∧ WrAt K H p' la' lg' w' a' g' ∧ Q (.bl (!decide (w = w' ∧ a = a' ∧ g = g'))) H
/-- == of tuples of two ints -/
def rEqP (K : PySem.W.Frag) : R2 := fun x y H Q => ∃ (p : Addr) (i j : Int) (p' : Addr) (i' j' : Int), x = .ref p ∧ y = .ref p' ∧ SqT K H p [.int i, .int j] ∧ SqT K H p' [.int i', .int j'] ∧ Q (.bl (decide (i = i' ∧ j = j'))) H
def rNeP (K : PySem.W.Frag) : R2 := fun x y H Q => ∃ (p : Addr) (i j : Int) (p' : Addr) (i' j' : Int), x = .ref p ∧ y = .ref p' ∧ SqT K H p [.int i, .int j] ∧ SqT K H p' [.int i', .int j'] ∧ Q (.bl (!decide (i = i' ∧ j = j'))) H
theorem WrAt.rd {K : PySem.W.Frag} {H : Hp} {p la lg : Addr} {w : Int} {a g : List Int} (h : WrAt K H p la lg w a g) : RdT K H (.ref p) (.tuple [.int w, .list (a.map PyData.int), .list (g.map PyData.int)]) :=
  .tup h.t (.cons (.int w) (.cons (.lst h.a) (.cons (.lst h.g) .nil)))
theorem eqv_wr (w w' : Int) (a a' g g' : List Int) : PyData.eqv (.tuple [.int w, .list (a.map PyData.int), .list (g.map PyData.int)]) (.tuple [.int w', .list (a'.map PyData.int), .list (g'.map PyData.int)]) = decide (w = w' ∧ a = a' ∧ g = g') := by
  simp only [PyData.eqv, PyData.eqvAll, eqv_ints]
  by_cases h1 : w = w' <;> by_cases h2 : a = a' <;> by_cases h3 : g = g' <;> simp [h1, h2, h3]
section
variable {X : Cx}
theorem op_neL (hu : X.A.units + 64 < cLine) : OpR X (compareOp .NotEq) (rNeL X.K) := fun pins s σ H x y v u Q I rx ry h => by
  obtain ⟨a, b, ns, ms, rfl, rfl, h1, h2, q⟩ := h
  exact op_neD hu pins s σ H _ _ v u Q I rx ry ⟨_, _, .of (.lst h1), .of (.lst h2), by simp only [PyData.eqv, eqv_ints]; exact q⟩
theorem op_eqW (hu : X.A.units + 64 < cLine) : OpR X (compareOp .Eq) (rEqW X.K) := fun pins s σ H x y v u Q I rx ry h => by
  obtain ⟨p, la, lg, w, a, g, p', la', lg', w', a', g', rfl, rfl, h1, h2, q⟩ := h
  exact op_eqD hu pins s σ H _ _ v u Q I rx ry ⟨_, _, h1.rd, h2.rd, by rw [eqv_wr]; exact q⟩
theorem op_neW (hu : X.A.units + 64 < cLine) : OpR X (compareOp .NotEq) (rNeW X.K) := fun pins s σ H x y v u Q I rx ry h => by
  obtain ⟨p, la, lg, w, a, g, p', la', lg', w', a', g', rfl, rfl, h1, h2, q⟩ := h
  exact op_neD hu pins s σ H _ _ v u Q I rx ry ⟨_, _, h1.rd, h2.rd, by rw [eqv_wr]; exact q⟩
end
/-! ### tests, again -/
theorem iteDF {c A B : Prop} [Decidable c] (hc : ¬ c) (h : B) : if decide c = true then A else B := by
  rw [decide_eq_false hc]; exact iteF h
theorem iteDT {c A B : Prop} [Decidable c] (hc : c) (h : A) : if decide c = true then A else B := by
  rw [decide_eq_true hc]; exact iteT h
theorem iteNDF {c A B : Prop} [Decidable c] (hc : c) (h : B) : if (!decide c) = true then A else B := iteNS hc h
theorem iteNDT {c A B : Prop} [Decidable c] (hc : ¬ c) (h : A) : if (!decide c) = true then A else B := by
  rw [decide_eq_false hc]; exact iteT h
theorem ite2D {c A B : Prop} [Decidable c] (h1 : c → A) (h2 : ¬ c → B) : if decide c = true then A else B := by
  by_cases h : c
  · exact iteDT h (h1 h)
  · exact iteDF h (h2 h)
theorem ite2N {c A B : Prop} [Decidable c] (h1 : ¬ c → A) (h2 : c → B) : if (!decide c) = true then A else B := by
  by_cases h : c
  · exact iteNDF h (h2 h)
  · exact iteNDT h (h1 h)
/-! ### what is kept -/
theorem Same.tup {K : PySem.W.Frag} {H H' : Hp} {a : Addr} {xs : List V} (e : Same H H') (h : SqT K H a xs) : SqT K H' a xs := by
  rcases h with (h | ⟨o, h⟩) | h
  · exact .inl (.inl (e _ _ h))
  · exact .inl (.inr ⟨o, e _ _ h⟩)
  · exact .inr h
theorem Same.upd {H : Hp} {a : Addr} {o : HO} (h : H a = none) : Same H (upd H a o) := fun b u e => by rw [upd_ne (ne_of_none e h)]; exact e
theorem Same.upd2 {H H' : Hp} {a : Addr} {o : HO} (s : Same H H') (h : H a = none) : Same H (L2.upd H' a o) := fun b u e => by rw [upd_ne (ne_of_none e h)]; exact s b u e
theorem Same.wr {K : PySem.W.Frag} {H H' : Hp} {p la lg : Addr} {w : Int} {a g : List Int} (e : Same H H') (h : WrAt K H p la lg w a g) : WrAt K H' p la lg w a g := ⟨e.tup h.t, e.seq h.a, e.seq h.g⟩
theorem map_int_cut {xs : List Int} {lo hi : Option Int} : cutV (xs.map V.int) lo hi = (((xs.drop (HT.sIx xs.length 0 lo)).take (HT.sIx xs.length xs.length hi - HT.sIx xs.length 0 lo))).map V.int := by
  unfold cutV
  rw [List.length_map, List.map_take, List.map_drop]
end L2
namespace L2
open PySem PySem.Spec PyProof.Rows
theorem kit_int_bool {K : PySem.W.Frag} : PySem.W.kitOne K (.type "int") (.type "bool") = some false := by
  have h0 : ((Value.type "int") == (Value.type "bool")) = false := by decide +kernel
  have h1 : PySem.W.kitMeta "bool" = true := by decide +kernel
  have h2 : PySem.W.subIn K (.type "int") (.type "bool") = some false := by
    show (fastBuiltinMro "int").map (·.contains (Value.type "bool")) = some false
    decide +kernel
  unfold PySem.W.kitOne PySem.W.kitCls
  rw [h0, if_neg (by decide)]
  show (if PySem.W.kitMeta "bool" = true then PySem.W.subIn K (.type "int") (.type "bool") else none) = some false
  rw [if_pos h1, h2]
section
variable {X : Cx}
/-! ### products and quotients of long ints -/
theorem op_mulB : OpR X (binaryOp .Mult) (rI IntMulOk fun i j => .int (i * j)) := opI fun _ _ _ _ _ _ _ hc q => mul_int q hc
def CDivB (i j : Int) : Prop := 0 < j ∧ Builtin.divisionGoesByPylong i j = false
theorem op_fdivB : OpR X (binaryOp .FloorDiv) (rI CDivB fun i j => .int (i / j)) := opI fun i j _ _ _ _ _ hc q => by
  have h1 : (0 : Int) < j := hc.1
  exact floordiv_int (by omega) (by rw [Int.fdiv_eq_ediv_of_nonneg i (by omega)]; exact q) (.inl hc.2)
end
theorem intBits_le {x : Int} {m : Nat} (h : x.natAbs < 2 ^ m) : Builtin.Int.intBits x ≤ m := by
  unfold Builtin.Int.intBits
  by_cases e : (x == 0) = true
  · rw [if_pos e]; exact Nat.zero_le _
  · rw [if_neg e]
    have h0 : x.natAbs ≠ 0 := by
      intro z
      apply e
      have : x = 0 := by omega
      rw [this]; rfl
    have := (Nat.log2_lt h0).mpr h
    omega
theorem mulOk_of {x y : Int} {m n : Nat} (hx : x.natAbs < 2 ^ m) (hy : y.natAbs < 2 ^ n) (h : m + n ≤ 134217728) : IntMulOk x y := by
  have h1 := intBits_le hx
  have h2 := intBits_le hy
  have hc : Builtin.Int.intTooBig (Builtin.Int.intBits x + Builtin.Int.intBits y) = false := by
    unfold Builtin.Int.intTooBig bitsLine
    exact decide_eq_false (by omega)
  unfold IntMulOk
  rw [hc]
  simp
theorem noPylong_ratio {x y : Int} (hy : 0 < y) (h : x.natAbs < y.natAbs * 2 ^ 4000) : Builtin.divisionGoesByPylong x y = false := by
  have y0 : y.natAbs ≠ 0 := by omega
  have hyl : y.natAbs < 2 ^ (y.natAbs.log2 + 1) := Nat.lt_log2_self
  have key : (if x == 0 then 0 else x.natAbs.log2 / 30 + 1) ≤ (if y == 0 then 0 else y.natAbs.log2 / 30 + 1) + 150 := by
    rw [if_neg (show ¬ (y == 0) = true by simp; omega)]
    by_cases e : (x == 0) = true
    · rw [if_pos e]; exact Nat.zero_le _
    · rw [if_neg e]
      have x0 : x.natAbs ≠ 0 := by
        intro z
        apply e
        have : x = 0 := by omega
        rw [this]; rfl
      have h1 : x.natAbs < 2 ^ (y.natAbs.log2 + 1 + 4000) := by
        rw [Nat.pow_add]
        exact Nat.lt_of_lt_of_le h (Nat.mul_le_mul_right _ (Nat.le_of_lt hyl))
      have := (Nat.log2_lt x0).mpr h1
      omega
  show (_ && decide ((if x == 0 then 0 else x.natAbs.log2 / 30 + 1) > (if y == 0 then 0 else y.natAbs.log2 / 30 + 1) + 150)) = false
  rw [decide_eq_false (Nat.not_lt.mpr key), Bool.and_false]
end L2

set_option Elab.async false
set_option maxRecDepth 100000
set_option maxHeartbeats 2000000
namespace L2
open PySem PySem.Spec PyProof.Rows
/-! ### a comprehension of one clause without tests: [elt for x in iter] -/
/-- the cells that a block takes from its def -/
def clStep (env : Env) (cs : List (Str × Addr)) (p : Str × NameKind) : List (Str × Addr) := if p.2 == .free then (p.1, (env.cells.lookup p.1).getD 0) :: cs else cs
def clOf (sc : Scope) (env : Env) : List (Str × Addr) := sc.names.foldl (clStep env) []
def frees (sc : Scope) (env : Env) : Bool := sc.names.all fun p => !(p.2 == .free) || (env.cells.lookup p.1).isSome
theorem closure_is {sc : Scope} {env : Env} (h : frees sc env = true) : closureFor sc env = pure (clOf sc env) := by
  have key : ∀ (l : List (Str × NameKind)) (cs : List (Str × Addr)), (l.all fun p => !(p.2 == .free) || (env.cells.lookup p.1).isSome) = true →
      (forIn l cs fun (x : Str × NameKind) (r : List (Str × Addr)) => (match x with
        | (name, kind) => if (kind == NameKind.free) = true then (do let a ← cellOf env name; pure (ForInStep.yield ((name, a) :: r))) else pure (ForInStep.yield r) : Sem (ForInStep (List (Str × Addr))))) = (pure (l.foldl (clStep env) cs) : Sem (List (Str × Addr))) := by
    intro l
    induction l with
    | nil => intro cs _; rfl
    | cons p l ih =>
      intro cs hl
      rw [List.all_cons, Bool.and_eq_true] at hl
      rw [List.forIn_cons, List.foldl_cons]
      obtain ⟨name, kind⟩ := p
      by_cases hk : (kind == NameKind.free) = true
      · have h1 : (env.cells.lookup name).isSome = true := by
          have := hl.1
          rw [hk] at this
          exact this
        obtain ⟨c, hc⟩ := Option.isSome_iff_exists.mp h1
        have e1 : clStep env cs (name, kind) = (name, c) :: cs := by unfold clStep; rw [if_pos hk, hc]; rfl
        have e2 : cellOf env name = pure c := by unfold cellOf; rw [hc]
        dsimp only
        rw [if_pos hk, e2, e1, pure_bind, pure_bind]
        exact ih _ hl.2
      · have e1 : clStep env cs (name, kind) = cs := by unfold clStep; rw [if_neg hk]
        dsimp only
        rw [if_neg hk, e1, pure_bind]
        exact ih _ hl.2
  have := key sc.names [] h
  show (forIn sc.names ([] : List (Str × Addr)) _ >>= fun s => pure s) = _
  rw [bind_pure]
  exact this
theorem clOf_mem {sc : Scope} {env : Env} (h : frees sc env = true) : ∀ p ∈ clOf sc env, env.cells.lookup p.1 = some p.2 := by
  have key : ∀ (l : List (Str × NameKind)) (cs : List (Str × Addr)), (l.all fun p => !(p.2 == .free) || (env.cells.lookup p.1).isSome) = true → (∀ p ∈ cs, env.cells.lookup p.1 = some p.2) → ∀ p ∈ l.foldl (clStep env) cs, env.cells.lookup p.1 = some p.2 := by
    intro l
    induction l with
    | nil => intro cs _ hc p hp; exact hc p hp
    | cons q l ih =>
      intro cs hl hc p hp
      rw [List.all_cons, Bool.and_eq_true] at hl
      rw [List.foldl_cons] at hp
      refine ih _ hl.2 (fun r hr => ?_) p hp
      unfold clStep at hr
      by_cases hk : (q.2 == NameKind.free) = true
      · rw [if_pos hk] at hr
        rcases List.mem_cons.mp hr with rfl | hr
        · have h1 : (env.cells.lookup q.1).isSome = true := by
            have := hl.1
            rw [hk] at this
            exact this
          obtain ⟨c, hcc⟩ := Option.isSome_iff_exists.mp h1
          show env.cells.lookup q.1 = some ((env.cells.lookup q.1).getD 0)
          rw [hcc]; rfl
        · exact hc r hr
      · rw [if_neg hk] at hr
        exact hc r hr
  exact key sc.names [] h (fun p hp => by simp at hp)
theorem lookup_mem {β : Type} : ∀ {l : List (Str × β)} {y : Str} {c : β}, l.lookup y = some c → (y, c) ∈ l
  | [], _, _, h => by simp at h
  | (z, d) :: l, y, c, h => by
    rw [List.lookup_cons] at h
    by_cases e : (y == z) = true
    · rw [e] at h
      have e1 : y = z := eq_of_beq e
      have h : d = c := by simpa using h
      rw [e1, h]; exact List.mem_cons_self
    · have e : (y == z) = false := by simpa using e
      rw [e] at h
      exact List.mem_cons_of_mem _ (lookup_mem h)
theorem clOf_lookup {sc : Scope} {env : Env} (h : frees sc env = true) {y : Str} {c : Addr} (e : (clOf sc env).lookup y = some c) : env.cells.lookup y = some c := clOf_mem h (y, c) (lookup_mem e)
/-- the block's context -/
def cxB (X : Cx) (sc : Scope) (C : Addr) (N' : List Str) (s0 : Shared) (H0 : Hp) (fp : List Addr) : Cx :=
  { X with N := N', s₀ := s0, H₀ := H0, env := compEnvC sc (clOf sc X.env) C X.env, outer := X.stack, stack := X.stack, ex := fp, fn := fun _ => false, pn := [], xe := fun _ _ => False }
/-- what a captured name (with its slot) must have -/
def capsOk (X : Cx) (sc : Scope) : List (Str × Nat) → Prop
  | [] => True
  | p :: r => (X.N[p.2]? = some p.1 ∧ Vis X.env.scope p.1 ∧ (X.env.kindOf p.1 = some .cell ∨ X.env.kindOf p.1 = some .free) ∧ ((relabel sc X.env).names.lookup p.1 = some .cell ∨ (relabel sc X.env).names.lookup p.1 = some .free) ∧ ((clOf sc X.env).lookup p.1).isSome = true) ∧ capsOk X sc r
structure CompOk (X : Cx) (sc : Scope) (x : Str) (caps : List (Str × Nat)) : Prop where
  kind : sc.kind = .function
  nocell : ∀ y ∈ sc.names, y.2 ≠ .cell
  names : ∀ y ∈ sc.names, y.2 = .local → sc.names.lookup y.1 = some .local
  loc : sc.names.lookup x = some .local
  free : frees sc X.env = true
  rel : ((relabel sc X.env).names.all fun p => !(p.2 == .cell || p.2 == .free) || ((clOf sc X.env).lookup p.1).isSome) = true
  cap : capsOk X sc caps
  nd : (x :: caps.map (·.1)).Nodup
theorem capsOk_get {X : Cx} {sc : Scope} : ∀ {caps : List (Str × Nat)} {j : Nat} {p : Str × Nat}, capsOk X sc caps → caps[j]? = some p →
    X.N[p.2]? = some p.1 ∧ Vis X.env.scope p.1 ∧ (X.env.kindOf p.1 = some .cell ∨ X.env.kindOf p.1 = some .free) ∧ ((relabel sc X.env).names.lookup p.1 = some .cell ∨ (relabel sc X.env).names.lookup p.1 = some .free) ∧ ((clOf sc X.env).lookup p.1).isSome = true
  | [], _, _, _, e => by simp at e
  | q :: r, 0, p, h, e => by
    have : q = p := by simpa using e
    subst this
    exact h.1
  | q :: r, j + 1, p, h, e => capsOk_get h.2 (by simpa using e)
/-- the block's slots: the turn's name, then what it takes from the def -/
def capsV (caps : List (Str × Nat)) (σ : St) : St := caps.map fun p => (σ[p.2]?).join
section
variable {X : Cx} {pins : List (Addr × Obj)} {σ : St} {H2 : Hp} {s2 : Shared} {sc : Scope} {x : Str} {caps : List (Str × Nat)} {fp : List Addr} {C : Addr}
theorem cxB_ok (I : Inv X pins σ H2 s2) (O : CompOk X sc x caps) (f2 : ∀ b ∈ fp, FpOk X pins H2 b) (hfp : ∀ b ∈ fp, b < s2.heap.objs.size) (hC : s2.heap.objs.size ≤ C) :
    (cxB X sc C (x :: caps.map (·.1)) s2 H2 fp).Ok where
  mod := I.ok.mod
  kind := O.kind
  glob := I.ok.glob
  blt := I.ok.blt
  above := hC
  inj := fun y z c h1 h2 => I.ok.inj y z c (clOf_lookup O.free h1) (clOf_lookup O.free h2)
  has := fun y hy => by
    have hy : (relabel sc X.env).names.lookup y = some .cell ∨ (relabel sc X.env).names.lookup y = some .free := hy
    have hall := List.all_eq_true.mp O.rel
    rcases hy with hy | hy
    · have := hall _ (lookup_mem hy)
      exact Option.isSome_iff_exists.mp this
    · have := hall _ (lookup_mem hy)
      exact Option.isSome_iff_exists.mp this
  cab := fun y c h _ => by cases h
  hd := I.ok.hd
  frames := I.ok.frames
  stk := .inl rfl
  exf := fun b hb => ⟨Nat.ne_of_lt (Nat.lt_of_lt_of_le (hfp b hb) hC), fun y c h => (f2 b hb).2.2.2.2.1 y c (clOf_lookup O.free h)⟩
  bs := I.bs
  bsz := Nat.le_trans I.ok.bsz I.sz
  noex := fun b o e hb => by
    rcases (f2 b hb).2.2.2.1 with h | h
    · exact I.ok.noex b o e h
    · exact absurd h (Nat.not_le.mpr (Heap.lt_size (I.ok.bs b o e).1))
  exfs := fun b hb hf => by
    rcases List.mem_cons.mp (I.stkSub b hf) with h | h
    · exact (f2 b hb).2.1 h
    · exact (f2 b hb).2.2.1 h
  funs := I.stack
  frf := I.stkFree
/-- the block's start: the list laid at D, the block's names at C -/
theorem cxB_start {s4 : Shared} {D : Addr} {m : Str → Option Value} (I : Inv X pins σ H2 s2) (O : CompOk X sc x caps) (f2 : ∀ b ∈ fp, FpOk X pins H2 b) (hfp : ∀ b ∈ fp, b < s2.heap.objs.size) (hC : s2.heap.objs.size ≤ C)
    (hD : s2.heap.objs.size ≤ D) (hCD : C ≠ D) (hos : s4.os = s2.os) (hg : s4.gens = s2.gens) (k : ∀ b o, s2.heap.get? b = some o → s4.heap.get? b = some o) (hns : s4.heap.Ns C m)
    (hl : s4.heap.get? D = some { cls := .type "list", data := .seq #[] }) :
    Inv (cxB X sc C (x :: caps.map (·.1)) s2 H2 fp) [] (none :: capsV caps σ) (upd H2 D (.lst [])) s4 where
  ok := cxB_ok I O f2 hfp hC
  os := hos
  bare := by rw [hg]; exact I.bare
  base := Un.laid k hD (I.hok.fresh hD)
  loc := by
    refine ⟨m, hns, fun i y v h1 h2 _ => ?_⟩
    cases i with
    | zero => simp at h2
    | succ j =>
      have h2 : (capsV caps σ)[j]? = some (some v) := by simpa using h2
      unfold capsV at h2
      rw [List.getElem?_map] at h2
      cases e : caps[j]? with
      | none => rw [e] at h2; cases h2
      | some p =>
        rw [e] at h2
        have h3 : (σ[p.2]?).join = some v := Option.some.inj h2
        have h4 : σ[p.2]? = some (some v) := by
          cases q : σ[p.2]? with
          | none => rw [q] at h3; cases h3
          | some z => rw [q] at h3; rw [show z = some v from h3]
        have ey : y = p.1 := by
          have h1 : (caps.map (·.1))[j]? = some y := by simpa [cxB] using h1
          rw [List.getElem?_map, e] at h1
          exact (Option.some.inj h1).symm
        subst ey
        obtain ⟨c1, c2, c3, c4, c5⟩ := capsOk_get O.cap e
        obtain ⟨m0, _, hloc⟩ := I.loc
        obtain ⟨u, ru, lk⟩ := hloc p.2 p.1 v c1 h4 c2
        refine ⟨u, ru, .inr ⟨c4, ?_⟩⟩
        obtain ⟨c, hc⟩ := Option.isSome_iff_exists.mp c5
        refine ⟨c, hc, ?_⟩
        rcases lk with ⟨z, _⟩ | ⟨_, c', hc', hcell⟩
        · rcases c3 with c3 | c3 <;> (rw [z] at c3; cases c3)
        · have := clOf_lookup O.free hc
          rw [hc'] at this
          cases this
          obtain ⟨o, ho, hd⟩ := hcell
          exact ⟨o, k _ _ ho, hd⟩
  cell := fun y c h => by
    obtain ⟨v, o, ho, hd⟩ := I.cell y c (clOf_lookup O.free h)
    exact ⟨v, o, k _ _ ho, hd⟩
  free := by
    show upd H2 D (.lst []) C = none
    rw [upd_ne hCD]; exact I.hok.fresh hC
  freeC := fun y c h => by
    have h1 := clOf_lookup O.free h
    obtain ⟨v, o, ho, _⟩ := I.cell y c h1
    have : c ≠ D := Nat.ne_of_lt (Nat.lt_of_lt_of_le (Heap.lt_size ho) hD)
    rw [upd_ne this]
    exact I.freeC y c h1
  pin := fun p hp => by simp [cxB] at hp
  hok := I.hok.laid k hD ⟨Nat.zero_le _, [], 0, .nil, hl⟩
  len := by simp [cxB, capsV]
/-- the reading of a comprehension: W by the turn, a measure, the heap and the list so far -/
def tComp (caps : List (Str × Nat)) (wi : TI) (te : TE) : TE := fun σ H Q => wi σ H fun J H1 => ∀ D, H1 D = none → ∃ W : Nat → Nat → Hp → List V → Prop, (∃ m, W 0 m (upd H1 D (.lst [])) []) ∧
  ∀ i m H2 ys, W i m H2 ys → H2 D = some (.lst ys) ∧ ((J.stop i H2 ∧ Q (.ref D) H2) ∨ (J.go i H2 ∧ ys.length < sizeLine ∧ ∀ x H3, J.yld i H2 x H3 →
    te (some x :: capsV caps σ) H3 fun y H4 => H4 D = some (.lst ys) ∧ ∃ m', m' < m ∧ W (i + 1) m' (upd H4 D (.lst (ys ++ [y]))) (ys ++ [y])))
/-- one turn, with the step ahead of the store -/
theorem compLoop_turn {prog : Program} {w : World} {A : Around} {R : Result → Shared → Prop} {s : Shared} {elt target iter : Expr} {scope : Scope} {pos : Pos} {it acc : Value} {env : Env} (I : Nat → Shared → Prop)
    (turn : ∀ n s, I n s → ∀ E : Value → Shared → Prop, wpAny (model prog w) A (pyNext it) (fun r s₁ => match r with
      | none => R (.ok .next) s₁
      | some v => wpAny (model prog w) A (letOwnedTupleGo target it v) (fun _ s₁' => wpAny (model prog w) A (assign target env v) (fun _ s₂ => wpAny (model prog w) A (eval elt env) (fun x s₃ =>
          wpAny (model prog w) A (call (.builtin "list.append") [acc, x]) (fun _ s₄ => ∃ m, m < n ∧ I m s₄) E s₃) E s₂) E s₁') E s₁) E s)
    (n : Nat) (h : I n s) : codeAny (model prog w) A (.compLoop (.ListComp elt [⟨target, iter, [], 0⟩] scope pos) 0 it acc env) R s := by
  refine codeAny_loop rfl I (fun n s hI => ?_) n h
  show wpAny _ _ ((compTurn (.ListComp elt [⟨target, iter, [], 0⟩] scope pos) 0 it acc env).onRaise (fun x => do noteFrame x env; theTreesLotGoes x)) _ _ s
  refine wpAny_noted ?_
  rw [compTurn_list1]
  refine wpAny_bind (wpAny_standAt (wpAny_bind (wpAny_mono (turn n s hI _) (fun r s₁ h₁ => ?_) fun _ _ h' => h')))
  cases r with
  | none => exact wpAny_pure h₁
  | some v =>
    exact wpAny_bind (wpAny_mono h₁ (fun _ s₁' h₁' => wpAny_bind (wpAny_mono h₁' (fun _ s₂ h₂ => wpAny_bind (wpAny_bind (wpAny_mono h₂ (fun x s₃ h₃ => wpAny_bind (wpAny_mono h₃
      (fun _ s₄ h₄ => wpAny_pure (wpAny_pure ⟨rfl, h₄⟩)) fun _ _ h' => h')) fun _ _ h' => h'))) fun _ _ h' => h')) fun _ _ h' => h')
/-- the block runs -/
theorem comp_run {elt iter : Expr} {px pos : Pos} {te : TE} {J : It} {it : Addr} {tn : Nat → Heap → Prop} {Q : VK} {E : Value → Shared → Prop} {RR : Value → Addr → Result → Shared → Prop} (hc : X.calm = true)
    (I : Inv X pins σ H2 s2) (T : Turn X.prog X.w X.K (.Name x px) J fp it tn) (st : tn 0 s2.heap) (f2 : ∀ b ∈ fp, FpOk X pins H2 b) (O : CompOk X sc x caps)
    (he : ∀ C s0 H0 fp, PE (cxB X sc C (x :: caps.map (·.1)) s0 H0 fp) elt te)
    (h : ∀ D, H2 D = none → ∃ W : Nat → Nat → Hp → List V → Prop, (∃ m, W 0 m (upd H2 D (.lst [])) []) ∧
      ∀ i m H2 ys, W i m H2 ys → H2 D = some (.lst ys) ∧ ((J.stop i H2 ∧ Q (.ref D) H2) ∨ (J.go i H2 ∧ ys.length < sizeLine ∧ ∀ x H3, J.yld i H2 x H3 →
        te (some x :: capsV caps σ) H3 fun y H4 => H4 D = some (.lst ys) ∧ ∃ m', m' < m ∧ W (i + 1) m' (upd H4 D (.lst (ys ++ [y]))) (ys ++ [y]))))
    (hRR : ∀ D C s' H' m, s2.heap.objs.size ≤ C → H' C = none → Inv X pins σ H' s' → Q (.ref D) H' → s'.heap.Ns C m → RR (.ref D) C (.ok .next) s') :
    wpAny (model X.prog X.w) X.A (newList []) (fun acc s₃ => wpAny (model X.prog X.w) X.A (newFunctionEnv sc X.env.globals (clOf sc X.env) [] X.env.qual none .none (some X.env)) (fun cenv s₄ =>
      codeAny (model X.prog X.w) X.A (.compStart (.ListComp elt [⟨.Name x px, iter, [], 0⟩] sc pos) 0 (.ref it) acc { cenv with scope := relabel sc X.env }) (RR acc cenv.locals) s₄) E s₃) E s2 := by
  have hfp : ∀ b ∈ fp, b < s2.heap.objs.size := fun b hb => by
    obtain ⟨o, ho, _⟩ := T.obj 0 _ st b hb
    exact Heap.lt_size ho
  refine wpAny_newObj_type (wpAny_newFunctionEnv O.nocell (by intro y hy; simp at hy) (fun h₁ hns₁ hsb₁ => ?_) O.kind)
  dsimp only at hns₁ hsb₁ ⊢
  generalize hH2 : s2.heap.push { cls := .type "list", dict := none, data := .seq ([] : List Value).toArray } = G2 at hns₁ hsb₁ ⊢
  have hC : G2.objs.size = s2.heap.objs.size + 1 := by rw [← hH2, Heap.size_push]
  have hDC : s2.heap.objs.size ≠ G2.objs.size := by rw [hC]; exact Nat.ne_of_lt (Nat.lt_succ_self _)
  have hCle : s2.heap.objs.size ≤ G2.objs.size := by rw [hC]; exact Nat.le_succ _
  have old : ∀ b o, s2.heap.get? b = some o → h₁.get? b = some o := fun b o e =>
    hsb₁.extBut b o (by rw [hC]; exact Nat.ne_of_lt (Nat.lt_succ_of_lt (Heap.lt_size e))) (Heap.get?_push_of_some _ (hH2 ▸ Heap.get?_push_of_some _ e))
  have hacc : h₁.get? s2.heap.objs.size = some { cls := .type "list", data := .seq #[] } := hsb₁.extBut _ _ hDC (Heap.get?_push_of_some _ (hH2 ▸ Heap.get?_push_size _ rfl))
  have hst₁ : tn 0 h₁ := T.keep 0 _ _ st fun b _ o e => old b o e
  have I4 : Inv (cxB X sc G2.objs.size (x :: caps.map (·.1)) s2 H2 fp) [] (none :: capsV caps σ) (upd H2 s2.heap.objs.size (.lst [])) { s2 with heap := h₁, toks := s2.toks + ([] : List (Str × Value)).length } :=
    cxB_start I O f2 hfp hCle (Nat.le_refl _) hDC.symm rfl rfl old hns₁ hacc
  obtain ⟨W, ⟨m0, w0⟩, turn⟩ := h s2.heap.objs.size (I.hok.fresh (Nat.le_refl _))
  have stat : ∀ {H' : Hp}, (∀ b ∈ fp, H' b = none) → ∀ b ∈ fp, FpOk (cxB X sc G2.objs.size (x :: caps.map (·.1)) s2 H2 fp) [] H' b := fun hn b hb =>
    ⟨hn b hb, ((cxB_ok I O f2 hfp hCle).exf b hb).1, (cxB_ok I O f2 hfp hCle).exfs b hb, .inl hb, ((cxB_ok I O f2 hfp hCle).exf b hb).2, fun p hp => by simp [cxB] at hp⟩
  have fr0 : ∀ b ∈ fp, upd H2 s2.heap.objs.size (.lst []) b = none := fun b hb => by
    rw [upd_ne (Nat.ne_of_lt (hfp b hb))]; exact (f2 b hb).1
  have loop : ∀ s₃ : Shared, s₃ = { s2 with heap := h₁, toks := s2.toks + ([] : List (Str × Value)).length } →
      codeAny (model X.prog X.w) X.A (.compLoop (.ListComp elt [⟨.Name x px, iter, [], 0⟩] sc pos) 0 (.ref it) (.ref s2.heap.objs.size) (compEnvC sc (clOf sc X.env) G2.objs.size X.env))
        (RR (.ref s2.heap.objs.size) G2.objs.size) s₃ := by
    rintro s₃ rfl
    refine compLoop_turn (fun n s' => ∃ i v0 H' ys, Inv (cxB X sc G2.objs.size (x :: caps.map (·.1)) s2 H2 fp) [] (v0 :: capsV caps σ) H' s' ∧ tn i s'.heap ∧ (∀ b ∈ fp, H' b = none) ∧ W i n H' ys) ?_ m0 ⟨0, _, _, _, I4, hst₁, fr0, w0⟩
    rintro n s3 ⟨i, v0, H3, ys, I3, st3, fr3, w3⟩ E'
    obtain ⟨hDl, hw⟩ := turn i n H3 ys w3
    rcases hw with ⟨stop, qn⟩ | ⟨go, hlen, step⟩
    · refine thn (T.done (cxB X sc G2.objs.size (x :: caps.map (·.1)) s2 H2 fp) rfl rfl rfl hc i [] s3 _ H3 E' I3 (stat fr3) st3 stop) fun r s4 ⟨hr, I4'⟩ => ?_
      subst hr
      obtain ⟨m, hn, _⟩ := I4'.loc
      refine hRR _ _ s4 H3 m hCle I4'.free (I.call' (ch := fp) I4'.os I4'.base I4'.hok I4'.bare fun b hb => ⟨(f2 b hb).2.2.2.1, (f2 b hb).2.1, (f2 b hb).2.2.2.2.1, (f2 b hb).2.2.2.2.2⟩) qn hn
    · refine thn (T.item (cxB X sc G2.objs.size (x :: caps.map (·.1)) s2 H2 fp) rfl rfl rfl hc i [] s3 _ H3 E' I3 (stat fr3) st3 go) fun r s4 ⟨u, hr, h4⟩ => ?_
      subst hr
      refine thn h4 fun _ s5 ⟨y, H5, I5, r5, y5, st5, fr5⟩ => ?_
      have I5' := I5.pinned (stat fr5) (T.obj _ _ st5)
      have hgn : PG (cxB X sc G2.objs.size (x :: caps.map (·.1)) s2 H2 fp) (.Name x px) (gName 0) := pg_name O.nd rfl (.inl (lookup_relabel_local O.loc)) (.inr (lookup_relabel_local O.loc))
      refine wpAny_mono (hgn _ s5 _ H5 y u (fun σ' H' => σ' = some y :: capsV caps σ ∧ H' = H5) I5' r5 ⟨rfl, rfl⟩) (fun _ s6 ⟨σ6, H6, I6, e6, e6'⟩ => ?_) (fun _ _ z => z.elim)
      subst e6 e6'
      refine wpAny_mono (he _ _ _ _ _ s6 _ H6 _ I6 (step y H6 y5)) (fun vz s7 ⟨z, H7, I7, r7, q7, m', hm', w7⟩ => ?_) (fun _ _ z => z.elim)
      refine wpAny_mono (mt_append (X := cxB X sc G2.objs.size (x :: caps.map (·.1)) s2 H2 fp) _ s7 _ H7 (.ref s2.heap.objs.size) [z] _ [vz] (fun _ H' => H' = upd H7 s2.heap.objs.size (.lst (ys ++ [z]))) I7 rfl (.cons r7 .nil)
        ⟨_, ys, z, rfl, rfl, q7, hlen, rfl⟩) (fun _ s8 ⟨_, H8, I8, _, e8⟩ => ?_) (fun _ _ z => z.elim)
      subst e8
      refine ⟨m', hm', i + 1, _, _, _, I8.unpinned, T.keep _ _ _ st5 fun b hb o e => (I8.pin (b, o) (List.mem_append_right _ (List.mem_append_right _ (mem_pinsAt hb e)))).1, fun b hb => ?_, w7⟩
      obtain ⟨o, e, d⟩ := T.obj _ _ st5 b hb
      exact (I8.pin (b, o) (List.mem_append_right _ (List.mem_append_right _ (mem_pinsAt hb e)))).2.1
  exact codeAny_compStart_list (loop _ rfl) (T.self _ 0 _ _ _ hst₁ (loop _ rfl))
/-- forgetting the block's names -/
theorem Inv.letGo {H' : Hp} {s' : Shared} {h' : Heap} (I : Inv X pins σ H' s') (hC : X.s₀.heap.objs.size ≤ C) (hn : H' C = none) (hL : C ≠ X.env.locals) (hcl : ∀ y c, X.env.cells.lookup y = some c → c ≠ C) (hpin : ∀ p ∈ X.pn ++ pins, p.1 ≠ C) (hs : Heap.SameBut C s'.heap h') :
    Inv X pins σ H' { s' with heap := h' } :=
  I.turned (t' := s'.toks) (fun b o hb e => hs.extBut b o hb e) hn hL (.inr hC) hcl hpin
/-- [elt for x in iter] as a value -/
theorem pe_comp {elt iter : Expr} {px pos : Pos} {wi : TI} {te : TE} (caps : List (Str × Nat)) (hc : X.calm = true) (hi : PI X (.Name x px) iter wi) (O : CompOk X sc x caps) (he : ∀ C s0 H0 fp, PE (cxB X sc C (x :: caps.map (·.1)) s0 H0 fp) elt te)
    (hs : ∀ x, foldedSetIterable iter X.env x = pure x := by intro _; rfl) : PE X (.ListComp elt [⟨.Name x px, iter, [], 0⟩] sc pos) (tComp caps wi te) := by
  intro pins s σ H Q I h
  rw [eval_ListComp]
  refine wpAny_comprehension_free (use := none) rfl hs (closure_is O.free) O.kind O.names (thn (hi pins s σ H _ I h) fun v s1 h1 => thn h1 fun itv s2 h2 => ?_)
  obtain ⟨it, fp, tn, J, H2, e, I2, T, st2, f2, hR⟩ := h2
  subst e
  refine comp_run (RR := fun acc C => compPost (model X.prog X.w) X.A X.xe none (EP X pins σ Q) acc C) hc I2 T st2 f2 O he hR ?_
  intro D C s' H' m hC hn I' q hns
  have hlt : ∀ b, b < s2.heap.objs.size → b ≠ C := fun b hb => Nat.ne_of_lt (Nat.lt_of_lt_of_le hb hC)
  refine ⟨m, hns, fun h' hs' => ⟨.ref D, H', I'.letGo (Nat.le_trans I2.sz hC) hn (hlt _ I2.lt).symm (fun y c hy => ?_) (fun p hp => ?_) hs', rfl, q⟩⟩
  · obtain ⟨_, o, ho, _⟩ := I2.cell y c hy
    exact hlt _ (Heap.lt_size ho)
  · exact hlt _ (Heap.lt_size (I2.pin p hp).1)
end
/-! ### the forms one uses: the element leaves the heap as it is -/
/-- over a range -/
theorem comp_range {lo : Int} {n : Nat} {D : Addr} {te : TE} {cs : St} {H1 : Hp} {Q : Hp → Prop} (f : Nat → V) (hz : n ≤ sizeLine) (hD : H1 D = none)
    (step : ∀ i H, i < n → Same H1 H → ∀ R : VK, R (f i) H → te (some (.int (lo + i)) :: cs) H R) (q : Q (upd H1 D (.lst ((List.range n).map f)))) :
    ∃ W : Nat → Nat → Hp → List V → Prop, (∃ m, W 0 m (upd H1 D (.lst [])) []) ∧
      ∀ i m H2 ys, W i m H2 ys → H2 D = some (.lst ys) ∧ (((Itr lo n).stop i H2 ∧ Q H2) ∨ ((Itr lo n).go i H2 ∧ ys.length < sizeLine ∧ ∀ x H3, (Itr lo n).yld i H2 x H3 →
        te (some x :: cs) H3 fun y H4 => H4 D = some (.lst ys) ∧ ∃ m', m' < m ∧ W (i + 1) m' (upd H4 D (.lst (ys ++ [y]))) (ys ++ [y]))) := by
  refine ⟨fun i m H2 ys => m + i = n ∧ ys = (List.range i).map f ∧ H2 = upd H1 D (.lst ys), ⟨n, by omega, rfl, rfl⟩, ?_⟩
  rintro i m H2 ys ⟨hm, rfl, rfl⟩
  refine ⟨upd_same, ?_⟩
  by_cases hi : i = n
  · subst hi
    exact .inl ⟨Nat.le_refl _, q⟩
  · have hlt : i < n := by omega
    refine .inr ⟨hlt, by rw [List.length_map, List.length_range]; omega, ?_⟩
    rintro x H3 ⟨rfl, rfl⟩
    refine step i _ hlt (Same.upd hD) _ ⟨upd_same, m - 1, by omega, by omega, ?_, ?_⟩
    · rw [List.range_succ, List.map_append]; rfl
    · rw [upd_upd]
/-! ### a statement, then the rest, with a word between -/
def tMid (t u : TS) : TS := fun D σ H => ∃ P : St → Hp → Prop, t { D with nx := P } σ H ∧ ∀ σ' H', P σ' H' → u D σ' H'
section
variable {X : Cx} {st : Stmt} {rest : List Stmt} {t u : TS}
theorem pss_mid (h1 : PS X st t) (h2 : PSs X rest u) : PSs X (st :: rest) (tMid t u) := by
  intro pins s σ H D I ⟨P, h, hP⟩
  refine wpAny_execs_cons (thn (h1 pins s σ H { D with nx := P } I h) fun f s1 q => ?_)
  cases f with
  | next =>
    obtain ⟨σ', H', I', q⟩ := q
    exact h2 pins s1 σ' H' D I' (hP σ' H' q)
  | ret v => exact q
  | brk => exact q
  | cont => exact q
end
end L2

set_option Elab.async false
set_option maxRecDepth 100000
namespace L2
open PySem PySem.Spec PyProof.Rows
/-! ### max, min of a list of ints -/
section
variable {X : Cx}
end
end L2
namespace L2
open PySem PySem.Spec PyProof.Rows
section
variable {X : Cx} {K : PySem.W.Frag}
theorem ix_listK (h : X.K = K) : IxR X (rIxL K) := h ▸ ix_list
end
end L2

set_option Elab.async false
set_option maxRecDepth 100000
namespace L2
open PySem PySem.Spec PyProof.Rows
/-! ### arguments, item by item, by the make of the item: no search for a star -/
section
variable {X : Cx} {e : Expr} {es : List Expr} {te : TE} {t : TA}
theorem pa_k {c j p} (ha : PE X (.Constant c j p) te) (hr : PA X es t) : PA X (.Constant c j p :: es) (tCons te t) := pa_cons ha hr rfl
theorem pa_n {c p} (ha : PE X (.Name c p) te) (hr : PA X es t) : PA X (.Name c p :: es) (tCons te t) := pa_cons ha hr rfl
theorem pa_b {l o r p} (ha : PE X (.BinOp l o r p) te) (hr : PA X es t) : PA X (.BinOp l o r p :: es) (tCons te t) := pa_cons ha hr rfl
theorem pa_c {f l o p} (ha : PE X (.Call f l o p) te) (hr : PA X es t) : PA X (.Call f l o p :: es) (tCons te t) := pa_cons ha hr rfl
theorem pa_s {v s p} (ha : PE X (.Subscript v s p) te) (hr : PA X es t) : PA X (.Subscript v s p :: es) (tCons te t) := pa_cons ha hr rfl
theorem pa_t {v s p} (ha : PE X (.Tuple v s p) te) (hr : PA X es t) : PA X (.Tuple v s p :: es) (tCons te t) := pa_cons ha hr rfl
theorem pa_l {v p} (ha : PE X (.List v p) te) (hr : PA X es t) : PA X (.List v p :: es) (tCons te t) := pa_cons ha hr rfl
end
/-! ### a subscript that is no slice, by its make -/
theorem px_k {i : Int} {j p} : PlainIx (.Constant (.int i) j p) := fun _ _ => rfl
theorem px_n {i p} : PlainIx (.Name i p) := fun _ _ => rfl
section
variable {X : Cx}
/-! ### list(range(n)) -/
end
end L2

set_option Elab.async false
set_option maxRecDepth 100000
namespace My
open PySem L2
/-! the promises of the defs -/
def spCheckBase : Sp := fun vs H Q _ => ∃ b : Int, vs = [.int b] ∧ 2 ≤ b ∧ b ≤ 36 ∧ Q .non H
def spCheckFraction : Sp := fun vs H Q _ => ∃ t q : Int, vs = [.int t, .int q] ∧ 0 ≤ t ∧ t ≤ 1000000000000 ∧ 1 ≤ q ∧ q ≤ 2000 ∧ Q .non H
def spCell (K : PySem.W.Frag) : Sp := fun vs H Q _ => ∃ (a : Addr) (ns : List Int) (k : Int), vs = [.ref a, .int k] ∧ SqL K H a (ns.map V.int) ∧ 0 ≤ k ∧ ∀ z : Int, z = ns.getD k.toNat 0 → Q (.int z) H
def spWhole : Sp := fun vs H Q _ => ∃ i : Int, vs = [.int i] ∧ Q (.bl true) H
def spFractionBy (K : PySem.W.Frag) : Sp := fun vs H Q _ => ∃ (a : Addr) (ns : List Int) (k : Int), vs = [.ref a, .int k] ∧ SqL K H a (ns.map V.int) ∧ 0 ≤ k ∧
  ∀ (t q : Int) (p : Addr), 0 ≤ t → t ≤ 1000000000000 → 1 ≤ q → q ≤ 2000 → H p = none → Q (.ref p) (upd H p (.tup [.int t, .int q]))
/-- a new writing at p, its lists new and apart -/
structure NewWr (H H' : Hp) (p la lg : Addr) (w : Int) (a g : List Int) : Prop where
  sm : Same H H'
  t : H' p = some (.tup [.int w, .ref la, .ref lg])
  a : H' la = some (.lst (a.map V.int))
  g : H' lg = some (.lst (g.map V.int))
  np : H p = none
  na : H la = none
  ng : H lg = none
  ne : la ≠ lg
theorem NewWr.wr {K : PySem.W.Frag} {H H' : Hp} {p la lg : Addr} {w : Int} {a g : List Int} (h : NewWr H H' p la lg w a g) : WrAt K H' p la lg w a g := ⟨.of h.t, .of h.a, .of h.g⟩
/-- written, and the law's own long division -/
def spDivided : Sp := fun vs H Q _ => ∃ b t q : Int, vs = [.int b, .int t, .int q] ∧ 2 ≤ b ∧ b ≤ 36 ∧ 0 ≤ t ∧ t ≤ 1000000000000 ∧ 1 ≤ q ∧ q ≤ 2000 ∧
  ∀ (w : Int) (a g : List Int) (p la lg : Addr) (H' : Hp), RF.DivIs b t q w a g → NewWr H H' p la lg w a g → Q (.ref p) H'
def spIsWriting (K : PySem.W.Frag) : Sp := fun vs H Q _ => ∃ (p la lg : Addr) (w : Int) (a g : List Int) (p' la' lg' : Addr) (w' : Int) (a' g' : List Int), vs = [.ref p, .ref p'] ∧ H p = some (.tup [.int w, .ref la, .ref lg]) ∧ H la = some (.lst (a.map V.int)) ∧ H lg = some (.lst (g.map V.int)) ∧
  WrAt K H p' la' lg' w' a' g' ∧ ∀ H', Same H H' → Q (.bl (decide (w = w' ∧ a = a' ∧ g = g'))) H'
/-- law's: a list of at most 63 ints is handed in, True comes out -/
def spLaw (K : PySem.W.Frag) : Sp := fun vs H Q _ => ∃ (a : Addr) (ns : List Int), vs = [.ref a] ∧ SqL K H a (ns.map V.int) ∧ ns.length ≤ 63 ∧ ∀ H', Q (.bl true) H'
/-! small facts -/
theorem atI_int {ns : List Int} {k : Int} (h0 : 0 ≤ k) (h1 : k < ns.length) : atI (ns.map V.int) k = some (.int (ns.getD k.toNat 0)) := by
  obtain ⟨j, rfl⟩ : ∃ j : Nat, k = (j : Int) := ⟨k.toNat, by omega⟩
  rw [Int.toNat_natCast]
  apply atI_nat
  have hl : j < ns.length := by omega
  simp [List.getD_eq_getElem?_getD, List.getElem?_eq_getElem hl]
theorem getD_out {ns : List Int} {k : Int} (h1 : ¬ k < ns.length) : ns.getD k.toNat 0 = 0 := by
  have hl : ns.length ≤ k.toNat := by omega
  simp [List.getD_eq_getElem?_getD, List.getElem?_eq_none hl]
/-! the dict of rests -/
open RF in
def seen (b q r : Int) (n : Nat) : List (Key × V) := (List.range n).map fun i => (Sum.inl (rst b q r i), V.int (i : Int))
open RF in
theorem seen_none {b q r : Int} {n : Nat} {x : Int} (h : ∀ i, i < n → rst b q r i ≠ x) : valV (seen b q r n) (Sum.inl x : Key) = none := by
  unfold valV
  rw [Option.map_eq_none_iff, List.find?_eq_none]
  intro p hp
  obtain ⟨i, hi, rfl⟩ := List.mem_map.mp hp
  have := h i (List.mem_range.mp hi)
  simp
  exact this
open RF in
theorem seen_some {b q r : Int} {n k : Nat} {x : Int} (hk : k < n) (e : rst b q r k = x) (h : ∀ i j, i < j → j < n → rst b q r i ≠ rst b q r j) : valV (seen b q r n) (Sum.inl x : Key) = some (V.int (k : Int)) := by
  unfold valV
  have : (seen b q r n).find? (fun kv => decide (kv.1 = (Sum.inl x : Key))) = some (Sum.inl (rst b q r k), V.int (k : Int)) := by
    rw [List.find?_eq_some_iff_getElem]
    refine ⟨by simp [e], k, by simpa [seen] using hk, by simp [seen], fun j hj => ?_⟩
    have := h j k hj hk
    rw [e] at this
    simp [seen]
    exact this
  rw [this]; rfl
open RF in
theorem seen_put {b q r : Int} {n : Nat} (F : ∀ i, i < n → rst b q r i ≠ rst b q r n) : putK (seen b q r n) (Sum.inl (rst b q r n) : Key) (V.int (n : Int)) = seen b q r (n + 1) := by
  rw [putK_new _ (seen_none F)]
  simp [seen, List.range_succ]
theorem seen_length {b q r : Int} {n : Nat} : (seen b q r n).length = n := by simp [seen]
open RF in
/-- a rest that was met stands in the dict -/
theorem seen_or {b q r : Int} {n : Nat} (x : Int) : (∀ i, i < n → rst b q r i ≠ x) ∨ ∃ k, k < n ∧ rst b q r k = x := by
  by_cases h : ∃ k, k < n ∧ rst b q r k = x
  · exact .inr h
  · exact .inl fun i hi e => h ⟨i, hi, e⟩
theorem cut_take {ns : List Int} {k : Nat} (h : k ≤ ns.length) : cutV (ns.map V.int) none (some (k : Int)) = (ns.take k).map V.int := by
  rw [map_int_cut, HT.sIx_none, HT.sIx_nat, List.drop_zero, Nat.sub_zero, Nat.min_eq_left h]
theorem cut_drop {ns : List Int} {k : Nat} (h : k ≤ ns.length) : cutV (ns.map V.int) (some (k : Int)) none = (ns.drop k).map V.int := by
  rw [map_int_cut, HT.sIx_none, HT.sIx_nat, Nat.min_eq_left h]
  congr 1
  apply List.take_of_length_le
  rw [List.length_drop]; omega
theorem size2000 {n : Nat} (h : n ≤ 100000) : n < sizeLine := Nat.lt_of_le_of_lt h (by decide)
end My
namespace My
open PySem L2
theorem NewWr.mk1 {H H1 : Hp} {p la lg : Addr} {w : Int} {a g : List Int} (sm : Same H H1) (ha : H1 la = some (.lst (a.map V.int))) (na : H la = none) (hg : H1 lg = none) (hp : upd H1 lg (.lst (g.map V.int)) p = none) :
    NewWr H (upd (upd H1 lg (.lst (g.map V.int))) p (.tup [.int w, .ref la, .ref lg])) p la lg w a g := by
  have npg : p ≠ lg := fun e => by rw [e, upd_same] at hp; cases hp
  have hp1 : H1 p = none := by rw [upd_ne npg] at hp; exact hp
  have nla : la ≠ lg := ne_of_none ha hg
  have npl : la ≠ p := ne_of_none ha hp1
  refine ⟨(sm.trans (Same.upd hg)).trans (Same.upd hp), upd_same, ?_, ?_, sm.free hp1, na, sm.free hg, nla⟩
  · rw [upd_ne npl, upd_ne nla]; exact ha
  · rw [upd_ne npg.symm]; exact upd_same
theorem NewWr.mk2 {H H1 : Hp} {p la lg : Addr} {w : Int} {a g : List Int} (sm : Same H H1) (ha : H1 la = none) (hg : upd H1 la (.lst (a.map V.int)) lg = none) (hp : upd (upd H1 la (.lst (a.map V.int))) lg (.lst (g.map V.int)) p = none) :
    NewWr H (upd (upd (upd H1 la (.lst (a.map V.int))) lg (.lst (g.map V.int))) p (.tup [.int w, .ref la, .ref lg])) p la lg w a g :=
  NewWr.mk1 (sm.trans (Same.upd ha)) upd_same (sm.free ha) hg hp
end My
namespace My
open PySem L2
/-- a writing that is none of the refused ones -/
structure GoodW (b w : Int) (a g : List Int) : Prop where
  w0 : 0 ≤ w
  w1 : w ≤ 1000000000000
  fa : RF.Figs b a
  fg : RF.Figs b g
  la : a.length ≤ 4000
  lg : g.length ≤ 4000
def spCheckFigures (K : PySem.W.Frag) : Sp := fun vs H Q _ => ∃ (b : Int) (l : Addr) (ns : List Int), vs = [.int b, .ref l] ∧ SqL K H l (ns.map V.int) ∧ ns.length ≤ 4000 ∧ RF.Figs b ns ∧ Q .non H
def spCheckWriting (K : PySem.W.Frag) : Sp := fun vs H Q _ => ∃ (b : Int) (p la lg : Addr) (x : Int) (a g : List Int), vs = [.int b, .ref p] ∧ WrAt K H p la lg x a g ∧ GoodW b x a g ∧ Q .non H
def spNumberOf (K : PySem.W.Frag) : Sp := fun vs H Q _ => ∃ (b : Int) (l : Addr) (ns : List Int), vs = [.int b, .ref l] ∧ SqL K H l (ns.map V.int) ∧ 2 ≤ b ∧ b ≤ 36 ∧ Q (.int (RF.num b ns)) H
def spPower : Sp := fun vs H Q _ => ∃ (b n : Int), vs = [.int b, .int n] ∧ 2 ≤ b ∧ b ≤ 36 ∧ 0 ≤ n ∧ n ≤ 100000 ∧ Q (.int (b ^ n.toNat)) H
def spCommon : Sp := fun vs H Q _ => ∃ (x y : Int), vs = [.int x, .int y] ∧ 0 ≤ x ∧ 0 ≤ y ∧ Q (.int (Int.gcd x y : Nat)) H
/-- the divisions of a worth are short ones -/
def DivOk (N B : Int) : Prop := Builtin.divisionGoesByPylong B (Int.gcd N B : Nat) = false ∧ Builtin.divisionGoesByPylong N (Int.gcd N B : Nat) = false
def spWorth (K : PySem.W.Frag) : Sp := fun vs H Q _ => ∃ (b : Int) (p la lg : Addr) (x : Int) (a g : List Int), vs = [.int b, .ref p] ∧ 2 ≤ b ∧ b ≤ 36 ∧ WrAt K H p la lg x a g ∧ GoodW b x a g ∧
  DivOk (RF.num b a * RF.rM b g + RF.num b g) (RF.wB b a g) ∧
  ∀ (p' : Addr) (H' : Hp), Same H H' → H p' = none → H' p' = some (.tup [.int (RF.low (RF.wT b x a g) (RF.wB b a g)).1, .int (RF.low (RF.wT b x a g) (RF.wB b a g)).2]) → Q (.ref p') H'
def spLowest : Sp := fun vs H Q _ => ∃ (x y : Int), vs = [.int x, .int y] ∧ 0 ≤ x ∧ 0 < y ∧ DivOk x y ∧ ∀ p, H p = none → Q (.ref p) (upd H p (.tup [.int (RF.low x y).1, .int (RF.low x y).2]))
def spCopy (K : PySem.W.Frag) : Sp := fun vs H Q _ => ∃ (p la lg : Addr) (x : Int) (a g : List Int), vs = [.ref p] ∧ WrAt K H p la lg x a g ∧ ∀ (p' la' lg' : Addr) (H' : Hp), NewWr H H' p' la' lg' x a g → Q (.ref p') H'
theorem mem_int {ns : List Int} {i : Nat} {y : V} (h : (ns.map V.int)[i]? = some y) : ∃ n, y = V.int n ∧ ns[i]? = some n := by
  rw [List.getElem?_map] at h
  cases e : ns[i]? with
  | none => rw [e] at h; cases h
  | some n => rw [e] at h; exact ⟨n, (Option.some.inj h).symm, rfl⟩
theorem mulOk_worth {b : Int} {a g : List Int} {x : Int} {n : Nat} (b2 : 2 ≤ b) (b36 : b ≤ 36) (la : a.length ≤ 4000) (lg : g.length ≤ 4000) (hx : x.natAbs ≤ 2 ^ n) (hn : n ≤ 100000) (y : Int) (hy : y.natAbs ≤ 2 ^ (6 * (a.length + g.length))) : IntMulOk x y :=
  mulOk_of (m := n + 1) (n := 6 * (a.length + g.length) + 1) (Nat.lt_of_le_of_lt hx (Nat.pow_lt_pow_right (by decide) (by omega))) (Nat.lt_of_le_of_lt hy (Nat.pow_lt_pow_right (by decide) (by omega))) (by omega)
/-- of a fraction with a bottom up to 2000 -/
theorem divOk_low {N B : Int} (hB : 0 < B) (hN : 0 ≤ N) (hle : N ≤ B) (h : (RF.low N B).2 ≤ 2000) : DivOk N B := by
  have g0 : 0 < Int.gcd N B := Int.gcd_pos_of_ne_zero_right _ (by omega)
  have e : B = (Int.gcd N B : Nat) * (RF.low N B).2 := by
    show B = (Int.gcd N B : Nat) * (B / (Int.gcd N B : Nat))
    exact (Int.mul_ediv_cancel' (Int.gcd_dvd_right N B)).symm
  have h0 := RF.low_pos (T := N) hB
  have h1 : B.natAbs < ((Int.gcd N B : Nat) : Int).natAbs * 2 ^ 4000 := by
    rw [Int.natAbs_natCast]
    have e2 : B.natAbs = Int.gcd N B * (RF.low N B).2.natAbs := by
      conv => lhs; rw [e]
      rw [Int.natAbs_mul, Int.natAbs_natCast]
    rw [e2]
    apply Nat.mul_lt_mul_of_pos_left _ g0
    exact Nat.lt_of_le_of_lt (show (RF.low N B).2.natAbs ≤ 2 ^ 11 by omega) (Nat.pow_lt_pow_right (by decide) (by decide))
  exact ⟨noPylong_ratio (by omega) h1, noPylong_ratio (by omega) (Nat.lt_of_le_of_lt (show N.natAbs ≤ B.natAbs by omega) h1)⟩
end My
namespace My
open PySem L2
theorem NewWr.up {H H1 H2 : Hp} {p la lg : Addr} {w : Int} {a g : List Int} (s : Same H H1) (n : NewWr H1 H2 p la lg w a g) : NewWr H H2 p la lg w a g :=
  ⟨s.trans n.sm, n.t, n.a, n.g, s.free n.np, s.free n.na, s.free n.ng, n.ne⟩
def spShortest (K : PySem.W.Frag) : Sp := fun vs H Q _ => ∃ (l : Addr) (ns : List Int), vs = [.ref l] ∧ SqL K H l (ns.map V.int) ∧ ns.length ≤ 4000 ∧
  ∀ (l' : Addr) (h : List Int) (H' : Hp), RF.ShortIs ns h → Same H H' → H l' = none → H' l' = some (.lst (h.map V.int)) → Q (.ref l') H'
def spWithoutLast (K : PySem.W.Frag) : Sp := fun vs H Q _ => ∃ (l : Addr) (ns : List Int) (f : Int), vs = [.ref l, .int f] ∧ SqL K H l (ns.map V.int) ∧
  ∀ (l' : Addr) (a' : List Int), RF.DropIs f ns a' → H l' = none → Q (.ref l') (upd H l' (.lst (a'.map V.int)))
def spRoundedUp (K : PySem.W.Frag) : Sp := fun vs H Q _ => ∃ (b x : Int) (l : Addr) (a : List Int), vs = [.int b, .int x, .ref l] ∧ SqL K H l (a.map V.int) ∧ a.length ≤ 4000 ∧
  ∀ (x' : Int) (a' : List Int) (p la lg : Addr) (H' : Hp), ((RF.DropIs (b - 1) a [] ∧ x' = x + 1 ∧ a' = []) ∨ ∃ q y, RF.DropIs (b - 1) a (q ++ [y]) ∧ x' = x ∧ a' = q ++ [y + 1]) → NewWr H H' p la lg x' a' [] → Q (.ref p) H'
def spDrawn (K : PySem.W.Frag) : Sp := fun vs H Q _ => ∃ (x : Int) (la lh : Addr) (a h : List Int), vs = [.int x, .ref la, .ref lh] ∧ SqL K H la (a.map V.int) ∧ SqL K H lh (h.map V.int) ∧ h ≠ [] ∧ a.length ≤ 4000 ∧ h.length ≤ 4000 ∧
  ∀ (u : Nat) (p l1 l2 : Addr) (H' : Hp), RF.DrawIs a h u → (u < a.length → a[a.length - 1 - u]? ≠ h[h.length - 1 - u % h.length]?) → NewWr H H' p l1 l2 x (a.take (a.length - u)) (RF.rot (h.length - u % h.length) h) → Q (.ref p) H'
def spPlain (K : PySem.W.Frag) : Sp := fun vs H Q _ => ∃ (b : Int) (p la lg : Addr) (x : Int) (a g : List Int), vs = [.int b, .ref p] ∧ 2 ≤ b ∧ b ≤ 36 ∧ WrAt K H p la lg x a g ∧ GoodW b x a g ∧
  ∀ (x' : Int) (a' g' : List Int) (p' la' lg' : Addr) (H' : Hp), RF.PlainOut b x a g x' a' g' → NewWr H H' p' la' lg' x' a' g' → Q (.ref p') H'
def spIsPlain (K : PySem.W.Frag) : Sp := fun vs H Q _ => ∃ (b : Int) (p la lg : Addr) (x : Int) (a g : List Int), vs = [.int b, .ref p] ∧ 2 ≤ b ∧ b ≤ 36 ∧ WrAt K H p la lg x a g ∧ GoodW b x a g ∧
  ∀ (t : Bool) (H' : Hp), (t = true ↔ RF.Plain b a g) → Same H H' → Q (.bl t) H'
end My
namespace My
open PySem L2
theorem low_le {t q : Int} (hq : 0 < q) : (RF.low t q).2 ≤ q := by
  show q / (Int.gcd t q : Nat) ≤ q
  exact Int.ediv_le_self _ (Int.le_of_lt hq)
theorem divOk_told {b t q x : Int} {a g : List Int} (b2 : 2 ≤ b) (hq : 0 < q) (q2 : q ≤ 2000) (ht : 0 ≤ t) (d : RF.DivIs b t q x a g) : DivOk (RF.num b a * RF.rM b g + RF.num b g) (RF.wB b a g) := by
  have T := d.told b2 hq ht
  have hB := RF.wB_pos b2 a g
  have hN := RF.wN_bd b2 T.fa T.fg
  refine divOk_low hB hN.1 hN.2 ?_
  have e := RF.low_add (W := x) (N := RF.num b a * RF.rM b g + RF.num b g) hB
  have e2 := d.low b2 hq ht
  rw [show RF.wT b x a g = x * RF.wB b a g + (RF.num b a * RF.rM b g + RF.num b g) from rfl, e] at e2
  have e3 : (RF.low (RF.num b a * RF.rM b g + RF.num b g) (RF.wB b a g)).2 = (RF.low t q).2 := by
    have e4 := congrArg Prod.snd e2
    exact e4
  rw [e3]
  exact Int.le_trans (low_le hq) q2
end My

set_option Elab.async false
set_option maxRecDepth 100000
namespace My
open PySem L2
/-! the law's drawn writings -/
def drawF (c k b : Int) : Int :=
  (((c % 2147483647 + 977 * k + 1) * 48271 % 2147483647) * ((c % 2147483647 + 977 * k + 1) * 48271 % 2147483647) % 2147483629 + 40692 * (k + 3)) * 69621 % 2147483647 / 8 % b
def spDraw : Sp := fun vs H Q _ => ∃ (c k b : Int), vs = [.int c, .int k, .int b] ∧ 0 < b ∧ Q (.int (drawF c k b)) H
def drawL (c b : Int) (n : Nat) : List Int := (List.range n).map fun (i : Nat) => drawF c (0 + (i : Int)) b
def spFiguresBy : Sp := fun vs H Q _ => ∃ (c b n : Int), vs = [.int c, .int b, .int n] ∧ 2 ≤ b ∧ b ≤ 36 ∧ 0 ≤ n ∧ n ≤ 1000 ∧
  ∀ (ns : List Int) (l : Addr), ns.length = n.toNat → RF.Figs b ns → H l = none → Q (.ref l) (upd H l (.lst (ns.map V.int)))
/-- two new lists -/
structure NewLs (H H' : Hp) (la lg : Addr) (a g : List Int) : Prop where
  sm : Same H H'
  a : H' la = some (.lst (a.map V.int))
  g : H' lg = some (.lst (g.map V.int))
  na : H la = none
  ng : H lg = none
  ne : la ≠ lg
theorem NewLs.ring {H H' : Hp} {la lg l : Addr} {a g h : List Int} (n : NewLs H H' la lg a g) (hl : H' l = none) : NewLs H (upd H' l (.lst (h.map V.int))) la l a h :=
  ⟨n.sm.trans (Same.upd hl), (Same.upd hl) _ _ n.a, upd_same, n.na, n.sm.free hl, ne_of_none n.a hl⟩
theorem NewLs.ahead {H H' : Hp} {la lg l : Addr} {a g h : List Int} (n : NewLs H H' la lg a g) (hl : H' l = none) : NewLs H (upd H' l (.lst (h.map V.int))) l lg h g :=
  ⟨n.sm.trans (Same.upd hl), upd_same, (Same.upd hl) _ _ n.g, n.sm.free hl, n.ng, (ne_of_none n.g hl).symm⟩
theorem NewLs.more {H H' : Hp} {la lg l : Addr} {a g : List Int} {o : HO} (n : NewLs H H' la lg a g) (hl : H' l = none) : NewLs H (upd H' l o) la lg a g :=
  ⟨n.sm.trans (Same.upd hl), (Same.upd hl) _ _ n.a, (Same.upd hl) _ _ n.g, n.na, n.ng, n.ne⟩
theorem NewLs.wr {H H' : Hp} {la lg p : Addr} {a g : List Int} {x : Int} (n : NewLs H H' la lg a g) (hp : H' p = none) : NewWr H (upd H' p (.tup [.int x, .ref la, .ref lg])) p la lg x a g :=
  ⟨n.sm.trans (Same.upd hp), upd_same, (Same.upd hp) _ _ n.a, (Same.upd hp) _ _ n.g, n.sm.free hp, n.na, n.ng, n.ne⟩
def spWritingBy (K : PySem.W.Frag) : Sp := fun vs H Q _ => ∃ (sc : Addr) (ns : List Int) (i b : Int), vs = [.ref sc, .int i, .int b] ∧ SqL K H sc (ns.map V.int) ∧ 0 ≤ i ∧ 2 ≤ b ∧ b ≤ 36 ∧
  ∀ (x : Int) (a g : List Int) (p la lg : Addr) (H' : Hp), GoodW b x a g → a.length ≤ 130 → g.length ≤ 140 → NewWr H H' p la lg x a g → Q (.ref p) H'
def spLawWorth (K : PySem.W.Frag) : Sp := fun vs H Q _ => ∃ (b : Int) (p la lg : Addr) (x : Int) (a g : List Int), vs = [.int b, .ref p] ∧ 2 ≤ b ∧ b ≤ 36 ∧ WrAt K H p la lg x a g ∧ GoodW b x a g ∧ a.length + g.length ≤ 1400 ∧
  ∀ (p' : Addr) (H' : Hp), Same H H' → H p' = none → H' p' = some (.tup [.int (RF.low (RF.wT b x a g) (RF.wB b a g)).1, .int (RF.low (RF.wT b x a g) (RF.wB b a g)).2]) → Q (.ref p') H'
end My
namespace My
open PySem L2
theorem figs_drop {b : Int} {a : List Int} {n : Nat} (ha : RF.Figs b a) : RF.Figs b (a.drop n) := fun d hd => ha d (List.mem_of_mem_drop hd)
theorem figs_take {b : Int} {a : List Int} {n : Nat} (ha : RF.Figs b a) : RF.Figs b (a.take n) := fun d hd => ha d (List.mem_of_mem_take hd)
/-- two lists as ahead and ring, with bounds of their lengths -/
def WBy (H : Hp) (sc : Addr) (i b x c : Int) (A G : Nat) (σ : St) (H' : Hp) : Prop := ∃ (la lg : Addr) (a g : List Int) (wv : Int), σ = [some (.ref sc), some (.int i), some (.int b), some (.int x), some (.int c), some (.ref la), some (.ref lg), some (.int wv)] ∧
  NewLs H H' la lg a g ∧ RF.Figs b a ∧ RF.Figs b g ∧ a.length ≤ A ∧ g.length ≤ G
end My
namespace My
open PySem L2
end My
namespace My
open PySem L2
/-- the law's own long division, of any fraction whose writing is short -/
def spDividedB : Sp := fun vs H Q _ => ∃ b t q : Int, vs = [.int b, .int t, .int q] ∧ 2 ≤ b ∧ b ≤ 36 ∧ 0 ≤ t ∧ 0 < q ∧ t.natAbs < q.natAbs * 2 ^ 4000 ∧ (∃ w0 a0 g0, RF.DivIs b t q w0 a0 g0 ∧ a0.length + g0.length ≤ 8000) ∧
  ∀ (w : Int) (a g : List Int) (p la lg : Addr) (H' : Hp), RF.DivIs b t q w a g → NewWr H H' p la lg w a g → Q (.ref p) H'
end My
namespace My
open PySem L2
theorem low_nonneg {T B : Int} (hT : 0 ≤ T) : 0 ≤ (RF.low T B).1 := Int.ediv_nonneg hT (by omega)
theorem wT_nonneg {b x : Int} {a g : List Int} (b2 : 2 ≤ b) (gw : GoodW b x a g) : 0 ≤ RF.wT b x a g := by
  unfold RF.wT
  have h1 := Int.mul_nonneg gw.w0 (Int.le_of_lt (RF.wB_pos b2 a g))
  have h2 := (RF.wN_bd b2 gw.fa gw.fg).1
  omega
end My

set_option Elab.async false
set_option maxRecDepth 100000
namespace My
open PySem L2
def spKeeps (K : PySem.W.Frag) : Sp := fun vs H Q _ => ∃ (b : Int) (p la lg : Addr) (x : Int) (a g : List Int), vs = [.int b, .ref p] ∧ 2 ≤ b ∧ b ≤ 36 ∧ WrAt K H p la lg x a g ∧ RF.Figs b g ∧ g.length ≤ 4000 ∧ RF.Plain b a g ∧ ∀ H', Same H H' → Q (.bl true) H'
def spOther (K : PySem.W.Frag) : Sp := fun vs H Q _ => ∃ (sc : Addr) (ns : List Int) (b : Int) (p la lg : Addr) (x : Int) (a g : List Int) (pf laf lgf : Addr) (xf : Int) (af gf : List Int), vs = [.ref sc, .int b, .ref p, .ref pf] ∧ SqL K H sc (ns.map V.int) ∧ 2 ≤ b ∧ b ≤ 36 ∧
  WrAt K H p la lg x a g ∧ GoodW b x a g ∧ x ≤ 999999999999 ∧ a.length ≤ 130 ∧ g.length ≤ 140 ∧ H pf = some (.tup [.int xf, .ref laf, .ref lgf]) ∧ H laf = some (.lst (af.map V.int)) ∧ H lgf = some (.lst (gf.map V.int)) ∧
  GoodW b xf af gf ∧ af.length ≤ 130 ∧ gf.length ≤ 140 ∧
  ∀ (xo : Int) (ao go : List Int) (po lao lgo : Addr) (H' : Hp), GoodW b xo ao go → ao.length + go.length ≤ 1400 → WrAt K H' po lao lgo xo ao go → Same H H' → Q (.ref po) H'
theorem map_ints (n : Nat) (h : Nat → Int) : ((List.range n).map fun i => V.int (h i)) = ((List.range n).map h).map V.int := by rw [List.map_map]; rfl
end My
namespace My
open PySem L2
end My

set_option Elab.async false
set_option maxRecDepth 100000
namespace My
open PySem L2
/-! promises of the second stage -/
def spLengths : Sp := fun vs H Q _ => ∃ b q : Int, vs = [.int b, .int q] ∧ 2 ≤ b ∧ b ≤ 36 ∧ 1 ≤ q ∧ q ≤ 2000 ∧
  ∀ (k r : Nat) (p : Addr) (H' : Hp), RF.Len b q k r → Same H H' → H p = none → H' p = some (.tup [.int (k : Int), .int (r : Int)]) → Q (.ref p) H'
def spFigureAt : Sp := fun vs H Q _ => ∃ b t q n : Int, vs = [.int b, .int t, .int q, .int n] ∧ 2 ≤ b ∧ b ≤ 36 ∧ 0 ≤ t ∧ t ≤ 1000000000000 ∧ 1 ≤ q ∧ q ≤ 2000 ∧ 0 ≤ n ∧ n < 10 ^ 40 ∧
  ∀ (z : Int) (H' : Hp), z = RF.fig b q (t % q) n.toNat → Same H H' → Q (.int z) H'
/-- a ring folds -/
def Folds (b : Int) (g : List Int) : Prop := ∃ h, 0 < h ∧ g.length = 2 * h ∧ ∀ k, k < h → g.getD k 0 + g.getD (k + h) 0 = b - 1
def spFolds (K : PySem.W.Frag) : Sp := fun vs H Q _ => ∃ (b : Int) (l : Addr) (g : List Int), vs = [.int b, .ref l] ∧ SqL K H l (g.map V.int) ∧ 2 ≤ b ∧ b ≤ 36 ∧ RF.Figs b g ∧ g.length ≤ 4000 ∧
  ∀ (t : Bool) (H' : Hp), (t = true ↔ Folds b g) → Same H H' → Q (.bl t) H'
/-- the law's own look at a ring -/
def spLawFolds (K : PySem.W.Frag) : Sp := fun vs H Q _ => ∃ (b : Int) (l : Addr) (g : List Int), vs = [.int b, .ref l] ∧ SqL K H l (g.map V.int) ∧ g.length ≤ 4000 ∧
  ∀ (t : Bool) (H' : Hp), (t = true ↔ Folds b g) → Same H H' → Q (.bl t) H'
def spIsPrime : Sp := fun vs H Q _ => ∃ n : Nat, vs = [.int (n : Int)] ∧ 2 ≤ n ∧ n ≤ 2000 ∧ ∀ t : Bool, (t = true ↔ RF.Pr n) → Q (.bl t) H
end My

set_option Elab.async false
set_option maxRecDepth 100000
namespace My
open PySem L2
def spCheckBottom : Sp := fun vs H Q _ => ∃ q : Int, vs = [.int q] ∧ 1 ≤ q ∧ q ≤ 2000 ∧ Q .non H
/-- long division of any top -/
def spDividedOut : Sp := fun vs H Q _ => ∃ b t q : Int, vs = [.int b, .int t, .int q] ∧ 2 ≤ b ∧ b ≤ 36 ∧ 0 ≤ t ∧ 1 ≤ q ∧ q ≤ 2000 ∧
  ∀ (w : Int) (a g : List Int) (p la lg : Addr) (H' : Hp), RF.DivIs b t q w a g → NewWr H H' p la lg w a g → Q (.ref p) H'
/-- the ring's length of what is left of a bottom -/
def RLen (b L r : Nat) : Prop := (L = 1 ∧ r = 0) ∨ (1 < L ∧ 0 < r ∧ L ∣ b ^ r - 1 ∧ ∀ m, 0 < m → m < r → ¬ L ∣ b ^ m - 1)
def spRingLength : Sp := fun vs H Q _ => ∃ b L : Nat, vs = [.int (b : Int), .int (L : Int)] ∧ 2 ≤ b ∧ b ≤ 36 ∧ 0 < L ∧ L ≤ 2000 ∧ Nat.Coprime L b ∧
  ∀ r : Nat, RLen b L r → Q (.int (r : Int)) H
def spPowerRest : Sp := fun vs H Q _ => ∃ b n q : Int, vs = [.int b, .int n, .int q] ∧ 2 ≤ b ∧ b ≤ 36 ∧ 0 ≤ n ∧ 1 ≤ q ∧ q ≤ 2000 ∧
  ∀ z : Int, 0 ≤ z → z ≤ 2000 → z % q = b ^ n.toNat % q → Q (.int z) H
end My

set_option Elab.async false
set_option maxRecDepth 100000
namespace L2
open PySem PySem.Spec PyProof.Rows
/-! ### texts: sign by sign -/
def Its (z : Str) : It := ⟨fun i _ => i < z.length, fun i H x H' => H' = H ∧ ∃ c, z.cps.toList[i]? = some c ∧ x = .str ⟨#[c]⟩, fun i _ => z.length ≤ i⟩
def iStr (tl : TE) : TI := fun σ H R => tl σ H fun x H1 => ∃ z, x = .str z ∧ R (Its z) H1
section
variable {X : Cx} {tg : Expr}
end
/-! ### methods of texts -/
section
variable {X : Cx}
def rFind : V → List V → Hp → VK → Prop := fun x vs H Q => ∃ z y, x = .str z ∧ vs = [.str y] ∧ Q (.int (PySem.Txt.find z y)) H
def rCountS : V → List V → Hp → VK → Prop := fun x vs H Q => ∃ z y, x = .str z ∧ vs = [.str y] ∧ Q (.int (PySem.Txt.count z y)) H
def rEnds : V → List V → Hp → VK → Prop := fun x vs H Q => ∃ z y, x = .str z ∧ vs = [.str y] ∧ Q (.bl (PySem.Txt.endswith z y)) H
def rPartition : V → List V → Hp → VK → Prop := fun x vs H Q => ∃ z y, x = .str z ∧ vs = [.str y] ∧ (y.length == 0) = false ∧ z.length ≤ sizeLine ∧
  ∀ p, H p = none → Q (.ref p) (upd H p (.tup [.str (PySem.Txt.partition z y).1, .str (PySem.Txt.partition z y).2.1, .str (PySem.Txt.partition z y).2.2]))
def rJoin (K : PySem.W.Frag) : V → List V → Hp → VK → Prop := fun x vs H Q => ∃ z a ts, x = .str z ∧ vs = [.ref a] ∧ SqL K H a (ts.map V.str) ∧ JoinOk z ts = true ∧ Q (.str (PySem.Txt.join z ts)) H
def rSlS : V → Option Int → Option Int → Hp → VK → Prop := fun x lo hi H Q => ∃ z, x = .str z ∧ z.length ≤ sizeLine ∧ Q (.str (PySem.Txt.slice z lo hi)) H
end
/-- a text of the module's top -/
def IsStr (mg : Str → Option Value) (name : Str) (z : Str) : Prop := ∃ t, mg name = some (.str z t)
section
variable {X : Cx} {x : Str} {pos : Pos}
end
/-! ### what the methods tell, by lists of signs -/
end L2

set_option Elab.async false
set_option maxRecDepth 100000
namespace L2
open PySem PySem.Spec PyProof.Rows
/-! ### a, b, c = a list -/
section
variable {prog : Program} {w : World} {A : Around} {E : Value → Shared → Prop}
theorem isList_but {h h' : Heap} {it t : Addr} {items : Array Value} (x : h.IsList t items) (hs : Heap.ExtBut it h h') (hne : t ≠ it) : h'.IsList t items := by
  obtain ⟨o, ho, r⟩ := x
  exact ⟨o, hs t o hne ho, r⟩
theorem draw_list {it t : Addr} {items : Array Value} (hne : t ≠ it) : ∀ (n i : Nat) (s : Shared) (Q : List Value → Shared → Prop), s.heap.IsListIter it t i → s.heap.IsList t items → i + n ≤ items.size →
    (∀ h', h'.IsListIter it t (i + n) → Heap.SameBut it s.heap h' → Q ((items.toList.drop i).take n) { s with heap := h' }) → wpAny (model prog w) A (draw (.ref it) n) Q E s
  | 0, i, s, Q, hit, _, _, hQ => by
    show wpAny _ _ (pure []) Q E s
    exact wpAny_pure (by simpa using hQ s.heap hit (Heap.SameBut.refl ..))
  | n + 1, i, s, Q, hit, ht, hle, hQ => by
    have hlt : i < items.size := by omega
    show wpAny _ _ (pyNext (.ref it) >>= _) Q E s
    refine wpAny_bind (wpAny_pyNext_list_item hit ht (x := items[i]) (by simp [hlt]) fun h₁ hit₁ hs₁ => ?_)
    refine wpAny_bind (wpAny_holding (draw_list hne n (i + 1) _ _ hit₁ (isList_but ht hs₁.extBut hne) (by omega) fun h₂ hit₂ hs₂ => wpAny_pure ?_))
    have hd : items.toList.drop i = items[i] :: items.toList.drop (i + 1) := by simp [List.drop_eq_getElem_cons, hlt]
    have := hQ h₂ (by rw [show i + (n + 1) = i + 1 + n by omega]; exact hit₂) (hs₁.trans hs₂)
    rw [hd, List.take_succ_cons] at this
    exact this
theorem unpackItems_list {s : Shared} {t : Addr} {items : Array Value} {Q : List Value → Shared → Prop} (hh : A.handled = none) (ht : s.heap.IsList t items)
    (hQ : ∀ h', Heap.ExtBut s.heap.objs.size s.heap h' → Q items.toList { s with heap := h' }) : wpAny (model prog w) A (unpackItems (.ref t) items.size none) Q E s := by
  have hlt : t ≠ s.heap.objs.size := by obtain ⟨o, ho, _⟩ := ht; exact Nat.ne_of_lt (Heap.lt_size ho)
  have push : ∀ ob, (s.heap.push ob).IsList t items := fun ob => by
    obtain ⟨o, ho, r⟩ := ht
    exact ⟨o, Heap.get?_push_of_some _ ho, r⟩
  unfold unpackItems
  refine wpAny_bind ?_
  unfold notIterableAtAll
  refine wpAny_bind (wpAny_specialOf ht.typeIs slot_list_iter.lookup ?_)
  refine wpAny_pure ?_
  simp only [Bool.false_eq_true, if_false]
  refine wpAny_bind (wpAny_holding (wpAny_pyIter_list ht ?_))
  refine wpAny_bind (wpAny_holding (draw_list hlt items.size 0 _ _ ⟨_, Heap.get?_push_size _ rfl, rfl, rfl⟩ (push _) (by omega) fun h₁ hit₁ hs₁ => ?_))
  have hall : List.take items.size (List.drop 0 items.toList) = items.toList := by
    rw [List.drop_zero]; exact List.take_of_length_le (by simp)
  rw [hall]
  rw [if_neg (by simp)]
  have ht₁ : h₁.IsList t items := isList_but (push _) hs₁.extBut hlt
  refine wpAny_bind (wpAny_holding (wpAny_pyNext_list_end hh hit₁ ht₁ (by simp) fun h₂ he₂ => ?_))
  simp only [Option.isSome_none, Bool.false_eq_true, if_false]
  refine wpAny_pure (hQ h₂ fun b o hb e => he₂ b o hb (hs₁.extBut b o hb (Heap.get?_push_of_some _ e)))
end
section
variable {X : Cx} {pos : Pos}
def gLst (K : PySem.W.Frag) (n : Nat) (t : TGs) : TG := fun v σ H Q => ∃ a xs, v = .ref a ∧ SqL K H a xs ∧ xs.length = n ∧ t xs σ H Q
theorem pg_lst {es : List Expr} {k : Nat} {t : TGs} {n : Nat} (hc : X.calm = true) (h : PGs X es t)
    (hn : (assignEach es X.env).length = n := by rfl) (hst : (assignEach es X.env).findIdx? (·.1) = none := by rfl) : PG X (.Tuple es k pos) (gLst X.K n t) := by
  intro pins s σ H v u Q I r hw
  obtain ⟨a, xs, e1, hq, hl, hw⟩ := hw
  subst e1
  cases r
  obtain ⟨its, rv, ht, hz⟩ := I.list hq
  rw [assign_Tuple]
  refine wpAny_bind (wpAny_standAt ?_)
  unfold unpack
  have e : (assignEach es X.env).length = its.toArray.size := by simp [hn, ← hl, rv.length]
  rw [e, hst]
  refine wpAny_bind (wpAny_holding (unpackItems_list (I.ok.hd hc) ht.isList fun h' hx => ?_))
  have I1 : Inv X pins σ H { s with heap := h' } := I.kept (t' := s.toks) fun b o e => hx b o (Nat.ne_of_lt (Heap.lt_size e)) e
  exact h pins _ σ H xs _ Q I1 (by simpa using rv) hw
end
/-! ### insert -/
section
variable {X : Cx}
def rInsert : V → List V → Hp → VK → Prop := fun x vs H Q => ∃ (l : Addr) (xs : List V) (i : Nat) (y : V), x = .ref l ∧ vs = [.int (i : Int), y] ∧ H l = some (.lst xs) ∧ i ≤ xs.length ∧ xs.length < sizeLine ∧ Q .non (upd H l (.lst (xs.take i ++ y :: xs.drop i)))
end
/-! ### == and != of lists of writings -/
inductive RdW (K : PySem.W.Frag) (H : Hp) : V → PyData → Prop
  | wr {p la lg : Addr} {w : Int} {a g : List Int} : WrAt K H p la lg w a g → RdW K H (.ref p) (.tuple [.int w, .list (a.map PyData.int), .list (g.map PyData.int)])
theorem RdW.rdT {K : PySem.W.Frag} {H : Hp} {v : V} {d : PyData} (h : RdW K H v d) : RdT K H v d := by
  cases h with
  | wr h => exact h.rd
section
variable {X : Cx}
theorem RdW.readsAll {pins : List (Addr × Obj)} {s : Shared} {σ : St} {H : Hp} (I : Inv X pins σ H s) : ∀ {xs : List V} {us : List Value} {ds : List PyData}, Vals xs us → Paired (RdW X.K H) xs ds → ∃ as, ReadsAll s.heap us ds as
  | _, _, _, .nil, .nil => ⟨_, ReadsAll.nil⟩
  | _, _, _, .cons r t, .cons q y => by
    obtain ⟨as, h1⟩ := RdT.reads I r q.rdT
    obtain ⟨bs, h2⟩ := RdW.readsAll I t y
    exact ⟨_, ReadsAll.cons h1 h2⟩
theorem RdW.layAll {K : PySem.W.Frag} {H : Hp} : ∀ {xs : List V} {ds : List PyData}, Paired (RdW K H) xs ds → PyData.canLayAll0 ds = true ∧ PyData.depthAll ds ≤ 2
  | _, _, .nil => by simp [PyData.canLayAll0, PyData.depthAll]
  | _, _, .cons r t => by
    have h2 := RdW.layAll t
    cases r with
    | wr h =>
      simp only [PyData.canLayAll0, PyData.depthAll, PyData.canLay0, PyData.depth, canLay_ints, depth_ints, h2.1, Bool.and_self, Bool.true_and, true_and]
      have := h2.2
      omega
def rNeLW (K : PySem.W.Frag) : R2 := fun x y H Q => ∃ (a b : Addr) (xs ys : List V) (ds es : List PyData), x = .ref a ∧ y = .ref b ∧ SqL K H a xs ∧ SqL K H b ys ∧ Paired (RdW K H) xs ds ∧ Paired (RdW K H) ys es ∧ Q (.bl (!PyData.eqv (.list ds) (.list es))) H
end
end L2
namespace L2
open PySem
/-- over a range, the elements may lay objects -/
theorem comp_rangeG {lo : Int} {n : Nat} {D : Addr} {te : TE} {cs : St} {H1 : Hp} {Q : Hp → Prop} (Pv : Nat → Hp → List V → Prop) (hz : n ≤ sizeLine) (h0 : Pv 0 (upd H1 D (.lst [])) [])
    (hl : ∀ i H ys, Pv i H ys → H D = some (.lst ys) ∧ ys.length = i)
    (step : ∀ i H ys (R : VK), i < n → Pv i H ys → (∀ y H4, H4 D = some (.lst ys) → Pv (i + 1) (upd H4 D (.lst (ys ++ [y]))) (ys ++ [y]) → R y H4) → te (some (.int (lo + i)) :: cs) H R) (q : ∀ H ys, Pv n H ys → Q H) :
    ∃ W : Nat → Nat → Hp → List V → Prop, (∃ m, W 0 m (upd H1 D (.lst [])) []) ∧
      ∀ i m H2 ys, W i m H2 ys → H2 D = some (.lst ys) ∧ (((Itr lo n).stop i H2 ∧ Q H2) ∨ ((Itr lo n).go i H2 ∧ ys.length < sizeLine ∧ ∀ x H3, (Itr lo n).yld i H2 x H3 →
        te (some x :: cs) H3 fun y H4 => H4 D = some (.lst ys) ∧ ∃ m', m' < m ∧ W (i + 1) m' (upd H4 D (.lst (ys ++ [y]))) (ys ++ [y]))) := by
  refine ⟨fun i m H2 ys => m + i = n ∧ Pv i H2 ys, ⟨n, by omega, h0⟩, ?_⟩
  rintro i m H2 ys ⟨hm, p⟩
  obtain ⟨h1, h2⟩ := hl i H2 ys p
  refine ⟨h1, ?_⟩
  by_cases hi : i = n
  · subst hi
    exact .inl ⟨Nat.le_refl _, q _ _ p⟩
  · have hlt : i < n := by omega
    refine .inr ⟨hlt, by omega, ?_⟩
    rintro x H3 ⟨rfl, rfl⟩
    exact step i _ ys _ hlt p fun y H4 e p4 => ⟨e, m - 1, by omega, by omega, p4⟩
end L2

set_option Elab.async false
set_option maxRecDepth 100000
namespace L2
open PySem PySem.Spec PyProof.Rows
/-! ### exceptions of own classes: raised, passed on, caught -/
/-- a raised exception and its newest entry; fl: the frame that stands in it -/
structure Trc (h B : Heap) (a : Addr) (cls fl : Value) (oe ot : Obj) (vs ts : Array Value) (T : Addr) : Prop where
  oa : h.get? a = some oe
  cl : oe.cls = cls
  nd : oe.dict = none
  da : oe.data = .fields vs
  en : vs[1]? = some (.ref T)
  nw : B.get? T = none
  ne : T ≠ a
  oT : h.get? T = some ot
  dT : ot.data = .fields ts
  fl3 : ts[3]? = some fl
structure Fly (B : Heap) (l : List Env) (a : Addr) (cls fl : Value) (h : Heap) : Prop where
  st : B.StaysIn h
  nw : B.get? a = none
  fr : h.FunFrames B l
  tr : ∃ oe oT vs ts T, Trc h B a cls fl oe oT vs ts T
/-- how a raised exception stands in a frame: flying, noted by this frame, or just made -/
def Stage (B : Heap) (l : List Env) (_L a : Addr) (cls : Value) (h : Heap) : Prop :=
  (∃ fl, Fly B l a cls fl h) ∨ ∃ h1 args, B.StaysIn h1 ∧ h1.FunFrames B l ∧ Heap.MadeExcOf h1 h a cls args
section
variable {M : Model} {A : Around} {E : Value → Shared → Prop} {s : Shared} {B : Heap} {env : Env} {outer : List Env} {L a : Addr} {cls fl : Value}
theorem Stage.stays {l : List Env} {h : Heap} (x : Stage B l L a cls h) : B.StaysIn h := by
  rcases x with ⟨_, x⟩ | ⟨h1, _, k, _, m⟩
  · exact x.st
  · exact fun b o e => m.keeps b o (k b o e)
theorem Stage.frames {l : List Env} {h : Heap} (x : Stage B l L a cls h) : h.FunFrames B l := by
  rcases x with ⟨_, x⟩ | ⟨h1, _, _, f, m⟩
  · exact x.fr
  · exact f.of_keeps fun b o e _ => ⟨o, m.keeps b o e, rfl⟩
/-- a fresh one is new to the base -/
theorem made_new {h1 : Heap} (k : B.StaysIn h1) {b : Addr} (hb : h1.get? b = none) : B.get? b = none := by
  cases q : B.get? b with
  | none => rfl
  | some o => rw [k b o q] at hb; cases hb
/-- the mark of the newest entry is put -/
theorem Fly.mark {Q : Unit → Shared → Prop} {l : List Env} {fr : Option Addr} (x : Fly B l a cls fl s.heap) (hQ : ∀ h', Fly B l a cls (fr.elim Value.none fun f => rawInt f) h' → s.heap.UpToSlots h' → Q () { s with heap := h' }) :
    wpAny M A (setFlight (.ref a) fr) Q E s := by
  obtain ⟨st, new, ff, oe, oT, vs, ts, T, y⟩ := x
  have sz : 3 < ts.size := (Array.getElem?_eq_some_iff.mp y.fl3).1
  have oth : ∀ b, b ≠ T → (s.heap.update T (Obj.mapFields (·.setIfInBounds 3 (fr.elim Value.none fun f => rawInt f)))).get? b = s.heap.get? b := fun b hb => Heap.get?_update_other _ _ (Ne.symm hb)
  have nr : ∀ b o, s.heap.get? b = some o → (∀ vs, o.data ≠ .fields vs) → b ≠ T := fun b o hb hn q => by
    have z := y.oT
    rw [← q, hb] at z
    cases z
    exact hn ts y.dT
  unfold setFlight
  refine wpAny_bind (wpAny_field y.oa y.da y.en ?_)
  rw [if_pos (show (Value.ref T != Value.none) = true from by simp)]
  have dT := Obj.data_mapFields y.dT (·.setIfInBounds 3 (fr.elim Value.none fun f => rawInt f))
  refine wpAny_setField y.oT y.dT sz (hQ _ ⟨?_, new, ?_, oe, _, vs, _, T, ⟨(oth a (Ne.symm y.ne)).trans y.oa, y.cl, y.nd, y.da, y.en, y.nw, y.ne, Heap.get?_update_self _ y.oT (Obj.isFreed_of_fields dT), dT, ?_⟩⟩ ?_)
  · intro b o e
    exact (oth b fun q => by rw [q, y.nw] at e; cases e).trans (st b o e)
  · exact ff.of_keeps fun b o e hn => ⟨o, (oth b (nr b o e hn)).trans e, rfl⟩
  · simp [sz]
  · intro b o e hn
    exact ⟨o.slots, (oth b (nr b o e hn)).trans e⟩
theorem dict_map (o : Obj) (f : Array Value → Array Value) : (Obj.mapFields f o).dict = o.dict := by
  obtain ⟨c, d, dt, sl⟩ := o
  cases dt <;> rfl
/-- a new entry for this frame -/
theorem new_entry {Q : Unit → Shared → Prop} {oe : Obj} {vs : Array Value} {hv : Value} {nx : Bool} (hfr : A.frames = some (env :: outer)) (ff : s.heap.FunFrames B (env :: outer)) (hf : env.frame = some L) (st : B.StaysIn s.heap) (new : B.get? a = none)
    (oa : s.heap.get? a = some oe) (cl : oe.cls = cls) (nd : oe.dict = none) (da : oe.data = .fields vs) (sz : 1 < vs.size) (hQ : ∀ h', Fly B (env :: outer) a cls (rawInt L) h' → s.heap.UpToSlots h' → Q () { s with heap := h' }) :
    wpAny M A (do let fo ← frameOf env; let pl ← entryPlaceOf L nx; let nb ← EntryCells.newEntry hv fo .none (rawInt L) .none pl; setField (.ref a) 1 nb) Q E s := by
  have anf : a ∉ (env :: outer).filterMap (·.frame) := fun hm => by
    obtain ⟨_, o, ho, hn⟩ := ff.mem hm
    rw [oa] at ho
    cases ho
    exact hn vs da
  refine wpAny_bind (wpAny_frameOf_fun hfr ff hf fun g1 r1 => ?_)
  refine wpAny_bind (wpAny_entryPlaceOf fun pl hpl => ?_)
  unfold EntryCells.newEntry newFields
  refine wpAny_bind (wpAny_newObj_type ?_ (hpl.sizeOk5 _ _ _ _ _))
  generalize hob : ({ cls := .type "traceback", dict := none, data := .fields ([hv, .ref L, .none, rawInt L, .none] ++ (if pl.isEmpty then List.replicate 6 Value.none else pl)).toArray } : Obj) = tb
  have a1 : g1.get? a = some oe := (r1.2.1 a anf).trans oa
  have b1 : B.StaysIn g1 := fun b o e => (r1.2.1 b fun hm => by rw [(ff.mem hm).1] at e; cases e).trans (st b o e)
  have a2 := Heap.get?_push_of_some tb a1
  refine wpAny_setField a2 da sz ?_
  have Ta : g1.objs.size ≠ a := Nat.ne_of_gt (Heap.lt_size a1)
  have da3 := Obj.data_mapFields da (·.setIfInBounds 1 (Value.ref g1.objs.size))
  have a3 := Heap.get?_update_self (Obj.mapFields (·.setIfInBounds 1 (Value.ref g1.objs.size))) a2 (Obj.isFreed_of_fields da3)
  have T3 : ((g1.push tb).update a (Obj.mapFields (·.setIfInBounds 1 (Value.ref g1.objs.size)))).get? g1.objs.size = some tb := (Heap.get?_update_other _ _ (Ne.symm Ta)).trans (Heap.get?_push_size g1 (by rw [← hob]; rfl))
  have kp : ∀ b o, b ≠ a → g1.get? b = some o → ((g1.push tb).update a (Obj.mapFields (·.setIfInBounds 1 (Value.ref g1.objs.size)))).get? b = some o := fun b o hb e =>
    (Heap.get?_update_other _ _ (Ne.symm hb)).trans (Heap.get?_push_of_some _ e)
  have nr : ∀ b o, s.heap.get? b = some o → (∀ vs, o.data ≠ .fields vs) → b ≠ a := fun b o hb hn q => by
    rw [q, oa] at hb
    cases hb
    exact hn vs da
  refine hQ _ ⟨fun b o e => kp b o (fun q => by rw [q, new] at e; cases e) (b1 b o e), new, ff.of_keeps fun b o e hn => ?_, _, tb, _, _, g1.objs.size, ⟨a3, (Obj.cls_mapFields _ _).trans cl, (dict_map _ _).trans nd, da3, by simp [sz], b1.fresh, Ta, T3, by rw [← hob], ?_⟩⟩ fun b o e hn => ?_
  · obtain ⟨sl, q⟩ := r1.2.2 b o e
    exact ⟨_, kp b _ (nr b o e hn) q, rfl⟩
  · rcases hpl with rfl | ⟨_, _, _, _, _, _, _, rfl⟩ <;> simp
  · obtain ⟨sl, q⟩ := r1.2.2 b o e
    exact ⟨sl, kp b _ (nr b o e hn) q⟩
/-- noted by the frame -/
theorem Stage.note {Q : Unit → Shared → Prop} (x : Stage B (env :: outer) L a cls s.heap) (hfr : A.frames = some (env :: outer)) (hf : env.frame = some L)
    (hQ : ∀ h', Fly B (env :: outer) a cls (rawInt L) h' → s.heap.UpToSlots h' → Q () { s with heap := h' }) : wpAny M A (noteFrame (.ref a) env) Q E s := by
  rcases x with ⟨fl, x⟩ | ⟨h1, args, k, f, m⟩
  · by_cases hfl : (fl == rawInt L) = true
    · have x' := x
      obtain ⟨_, _, _, oe, oT, vs, ts, T, y⟩ := x'
      unfold noteFrame
      simp only [hf]
      refine wpAny_bind (wpAny_field y.oa y.da y.en ?_)
      rw [if_pos (show (Value.ref T != Value.none) = true from by simp)]
      refine wpAny_bind (wpAny_field y.oT y.dT y.fl3 ?_)
      rw [if_pos hfl]
      exact wpAny_pure (hQ _ (eq_of_beq hfl ▸ x) (.refl _))
    obtain ⟨st, new, ff, oe, oT, vs, ts, T, y⟩ := x
    unfold noteFrame
    simp only [hf]
    refine wpAny_bind (wpAny_field y.oa y.da y.en ?_)
    rw [if_pos (show (Value.ref T != Value.none) = true from by simp)]
    refine wpAny_bind (wpAny_field y.oT y.dT y.fl3 ?_)
    rw [if_neg hfl]
    refine wpAny_bind (wpAny_setField y.oT y.dT (Array.getElem?_eq_some_iff.mp y.fl3).1 ?_)
    have oth : ∀ b, b ≠ T → (s.heap.update T (Obj.mapFields (·.setIfInBounds 3 Value.none))).get? b = s.heap.get? b := fun b hb => Heap.get?_update_other _ _ (Ne.symm hb)
    have nr : ∀ b o, s.heap.get? b = some o → (∀ vs, o.data ≠ .fields vs) → b ≠ T := fun b o hb hn q => by
      have z := y.oT
      rw [← q, hb] at z
      cases z
      exact hn ts y.dT
    refine new_entry hfr (ff.of_keeps fun b o e hn => ⟨o, (oth b (nr b o e hn)).trans e, rfl⟩) hf (fun b o e => (oth b fun q => by rw [q, y.nw] at e; cases e).trans (st b o e)) new ((oth a (Ne.symm y.ne)).trans y.oa) y.cl y.nd y.da (Array.getElem?_eq_some_iff.mp y.en).1 fun h' z u => hQ h' z fun b o e hn => ?_
    exact u b o ((oth b (nr b o e hn)).trans e) hn
  · obtain ⟨t, he, _, _⟩ := m.there
    unfold noteFrame
    simp only [hf]
    refine wpAny_bind (wpAny_field (x := Value.none) he rfl rfl ?_)
    rw [if_neg (by decide)]
    exact new_entry hfr (f.of_keeps fun b o e _ => ⟨o, m.keeps b o e, rfl⟩) hf (fun b o e => m.keeps b o (k b o e)) (made_new k m.new) he rfl rfl rfl (show 1 < 6 by decide) hQ
/-- out of the frame -/
theorem Stage.leave {Q : Unit → Shared → Prop} (x : Stage B (env :: outer) L a cls s.heap) (hfr : A.frames = some (env :: outer)) (hf : env.frame = some L)
    (hQ : ∀ h', Fly B outer a cls .none h' → s.heap.UpToSlots h' → Q () { s with heap := h' }) : wpAny M A (leaving env (.ref a)) Q E s := by
  unfold leaving
  refine wpAny_bind (x.note hfr hf fun h1 y u => ?_)
  refine Fly.mark (s := { s with heap := h1 }) (fr := none) y fun h2 z u2 => ?_
  exact hQ h2 ⟨z.st, z.nw, z.fr.2.2, z.tr⟩ (u.trans u2)
end
/-- what lies behind an exception: H' the abstract heap, held in B; h₀, H₀ those ahead of the call -/
structure Bx (P : Program) (w : World) (outer : List Env) (H₀ : Hp) (h₀ : Heap) (H' : Hp) (B : Heap) : Prop where
  old : ∀ b o, h₀.get? b = some o → H₀ b = none → b ∉ frs outer → B.get? b = some o
  thr : ∀ b o, h₀.get? b = some o → b ∉ frs outer → ∃ o', B.get? b = some o'
  hok : HOk P w H' B
  free : ∀ b o, h₀.get? b = some o → H₀ b = none → H' b = none
  tups : ∀ b xs, H₀ b = some (.tup xs) → H' b = some (.tup xs)
  frzs : ∀ b o u, H₀ b = some (.frz o u) → H' b = some (.frz o u)
  tbls : ∀ b ps, H₀ b = some (.tbl ps) → ∃ more, H' b = some (.tbl (ps ++ more))
/-- the callers' frames: their slots alone may have changed -/
def Slots (outer : List Env) (h₀ h : Heap) : Prop := ∀ b o, h₀.get? b = some o → b ∈ frs outer → ∃ sl, h.get? b = some { o with slots := sl }
theorem Slots.up {outer : List Env} {h₀ h h' B : Heap} (x : Slots outer h₀ h) (f : h.FunFrames B outer) (u : h.UpToSlots h') : Slots outer h₀ h' := fun b o e hb => by
  obtain ⟨sl, e1⟩ := x b o e hb
  obtain ⟨_, o1, e2, hn⟩ := f.mem hb
  rw [e1] at e2
  cases e2
  obtain ⟨sl', e3⟩ := u b _ e1 hn
  exact ⟨sl', e3⟩
theorem Bx.un {P : Program} {w : World} {outer : List Env} {H₀ H' : Hp} {h₀ B h : Heap} (x : Bx P w outer H₀ h₀ H' B) (sl : Slots outer h₀ h) (st : B.StaysIn h) : Un (frs outer) [] H₀ H' h₀ h where
  keep := fun b o e n hb _ => st b o (x.old b o e n hb)
  slot := fun b o e _ hb _ => sl b o e hb
  free := fun b o e n _ => x.free b o e n
  there := fun b o e _ => by
    by_cases hb : b ∈ frs outer
    · obtain ⟨s1, e1⟩ := sl b o e hb
      exact ⟨_, e1⟩
    · obtain ⟨o', e1⟩ := x.thr b o e hb
      exact ⟨o', st b o' e1⟩
  tups := x.tups
  frzs := x.frzs
  tbls := x.tbls
/-- how an exception lies behind a call -/
def CX1 (P : Program) (w : World) : CXT := fun outer H₀ s₀ E v s' => ∃ (a : Addr) (cls : Value) (H' : Hp) (B : Heap),
  v = .ref a ∧ s'.os = s₀.os ∧ AllBare s'.gens ∧ Bx P w outer H₀ s₀.heap H' B ∧ Slots outer s₀.heap s'.heap ∧ Fly B outer a cls .none s'.heap ∧ E cls none H'
/-- an exception within a def's frame -/
def RX (P : Program) (w : World) (A : Around) (env : Env) (outer : List Env) (L : Addr) (H₀ : Hp) (s₀ : Shared) (E : XK) : Value → Shared → Prop := fun v s => ∃ (a : Addr) (cls : Value) (H' : Hp) (B : Heap),
  v = .ref a ∧ A.frames = some (env :: outer) ∧ s.os = s₀.os ∧ AllBare s.gens ∧ Bx P w outer H₀ s₀.heap H' B ∧ Slots outer s₀.heap s.heap ∧ Stage B (env :: outer) L a cls s.heap ∧ E cls none H'
theorem RX.leaves {P : Program} {w : World} {M : Model} {A : Around} {env : Env} {outer : List Env} {L : Addr} {H₀ : Hp} {s₀ s : Shared} {E : XK} {v : Value} {E' : Value → Shared → Prop} (hf : env.frame = some L)
    (x : RX P w A env outer L H₀ s₀ E v s) : wpAny M A (leaving env v) (fun _ s'' => CX1 P w outer H₀ s₀ E v s'') E' s := by
  obtain ⟨a, cls, H', B, rfl, hfr, os, ba, bx, sl, st, e⟩ := x
  refine st.leave hfr hf fun h' fl u => ⟨a, cls, H', B, rfl, os, ba, bx, ?_, fl, e⟩
  have f : s.heap.FunFrames B outer := st.frames.2.2
  exact sl.up f u
theorem RX.own {P : Program} {w : World} {M : Model} {A : Around} {env : Env} {outer : List Env} {L : Addr} {H₀ : Hp} {s₀ : Shared} {E : XK} (hf : env.frame = some L) :
    PassesOwn M A env (RX P w A env outer L H₀ s₀ E) := by
  rintro v s ⟨a, cls, H', B, rfl, hfr, os, ba, bx, sl, st, e⟩
  have f : s.heap.FunFrames B outer := st.frames.2.2
  refine st.note hfr hf fun h' hd u => ?_
  have sl' := sl.up f u
  have f' : h'.FunFrames B outer := hd.fr.2.2
  have hd0 := hd
  obtain ⟨_, _, _, oe, oT, vs, ts, T, y⟩ := hd0
  refine wpAny_bind (wpAny_field y.oa y.da y.en ?_)
  rw [if_neg (by simp), hf]
  refine Fly.mark (s := { s with heap := h' }) (fr := some L) hd fun h'' hd' u' => ?_
  exact ⟨a, cls, H', B, rfl, hfr, os, ba, bx, sl'.up f' u', .inl ⟨_, hd'⟩, e⟩
end L2

set_option Elab.async false
set_option maxRecDepth 100000
namespace L2
open PySem PySem.Spec PyProof.Rows
section
variable {X : Cx} {pins : List (Addr × Obj)} {σ : St} {H : Hp} {s : Shared}
theorem PSs.unR {R : Value → Shared → Prop} {st : List Stmt} {t : TS} (hR : X.Ok → ∀ e s', R e s' → X.xe e s') (h : PSs (X.wish R) st t) : PSs X st t := fun pins s σ H D I hw =>
  wpAny_mono (h pins s σ H D (I.wish _) hw) (fun _ _ q => q.unwish) fun e s' z => hR I.ok e s' z
/-- what the state holds, as B sees it: all but the frames -/
theorem bx_of (I : Inv X pins σ H s) (hst : X.stack = X.env :: X.outer) (hex : X.ex = []) : Bx X.prog X.w X.outer X.H₀ X.s₀.heap H (PySem.W.hideAll s.heap (frs X.stack)) := by
  have nfr : ∀ b o, X.s₀.heap.get? b = some o → b ∉ frs X.outer → b ∉ frs X.stack := fun b o e hb hm => by
    rcases List.mem_cons.mp (I.stkSub b hm) with q | q
    · exact absurd (Heap.lt_size e) (by rw [q]; exact Nat.not_lt.mpr I.ok.above)
    · exact hb q
  have nex : ∀ b : Addr, b ∉ X.ex := fun b z => by rw [hex] at z; cases z
  refine ⟨fun b o e n hb => ?_, fun b o e hb => ?_, fun b u e => ?_, fun b o e n => I.base.free b o e n (nex b), I.base.tups, I.base.frzs, I.base.tbls⟩
  · exact PySem.W.hideAll_get _ (I.base.keep b o e n hb (nex b)) (nfr b o e hb)
  · obtain ⟨o', e'⟩ := I.base.there b o e (nex b)
    exact ⟨o', PySem.W.hideAll_get _ e' (nfr b o e hb)⟩
  · refine (I.hok b u e).stay (fun c v hc q => PySem.W.hideAll_get _ q fun hm => ?_) (fun _ q => q) fun _ _ q => q
    have z := I.stkFree c hm
    rcases hc with rfl | hc
    · rw [z] at e; cases e
    · rw [z] at hc; cases hc
theorem slots_of (I : Inv X pins σ H s) (hex : X.ex = []) : Slots X.outer X.s₀.heap s.heap := fun b o e hb =>
  I.base.slot b o e (I.ok.frf b hb) hb (by rw [hex]; intro z; cases z)
theorem frames_of (I : Inv X pins σ H s) : s.heap.FunFrames (PySem.W.hideAll s.heap (frs X.stack)) X.stack :=
  PySem.W.funFrames_hide I.stack fun env he b hb => List.mem_filterMap.mpr ⟨env, he, hb⟩
/-- raised here -/
theorem raised_of {E : XK} {h' : Heap} {a : Addr} {cls : Value} {args : List Value} {tk : Nat} (I : Inv X pins σ H s) (hst : X.stack = X.env :: X.outer) (hex : X.ex = []) (m : Heap.MadeExcOf s.heap h' a cls args) (he : E cls none H) :
    RX X.prog X.w X.A X.env X.outer X.env.locals X.H₀ X.s₀ E (.ref a) { s with heap := h', toks := tk } := by
  refine ⟨a, cls, H, _, rfl, hst ▸ I.ok.frames, I.os, I.bare, bx_of I hst hex, fun b o e hb => ?_, .inr ⟨s.heap, args, fun b o e => PySem.W.of_hideAll _ e, ?_, m⟩, he⟩
  · obtain ⟨sl, q⟩ := slots_of I hex b o e hb
    exact ⟨sl, m.keeps _ _ q⟩
  · have := frames_of I
    rw [hst] at this ⊢
    exact this
/-- from a callee -/
theorem passed_of {E : XK} {v : Value} {s' : Shared} (I : Inv X pins σ H s) (hst : X.stack = X.env :: X.outer) (hex : X.ex = []) (x : CX1 X.prog X.w X.stack H s E v s') :
    RX X.prog X.w X.A X.env X.outer X.env.locals X.H₀ X.s₀ E v s' := by
  obtain ⟨a, cls, H', B, rfl, os, ba, bx, sl, fl, e⟩ := x
  have nfr : ∀ b o, X.s₀.heap.get? b = some o → b ∉ frs X.outer → b ∉ frs X.stack := fun b o e hb hm => by
    rcases List.mem_cons.mp (I.stkSub b hm) with q | q
    · exact absurd (Heap.lt_size e) (by rw [q]; exact Nat.not_lt.mpr I.ok.above)
    · exact hb q
  have nex : ∀ b : Addr, b ∉ X.ex := fun b z => by rw [hex] at z; cases z
  have sub : ∀ b, b ∈ frs X.outer → b ∈ frs X.stack := fun b hb => by
    rw [hst]
    unfold frs at hb ⊢
    rw [List.filterMap_cons]
    split
    · exact hb
    · exact List.mem_cons_of_mem _ hb
  refine ⟨a, cls, H', B, rfl, hst ▸ I.ok.frames, os.trans I.os, ba, ⟨fun b o e n hb => ?_, fun b o e hb => ?_, bx.hok, fun b o e n => ?_, fun b xs q => bx.tups _ _ (I.base.tups _ _ q), fun b o u q => bx.frzs _ _ _ (I.base.frzs _ _ _ q), fun b ps q => ?_⟩, fun b o e hb => ?_, .inl ⟨_, by rw [← hst]; exact fl⟩, e⟩
  · exact bx.old b o (I.base.keep b o e n hb (nex b)) (I.base.free b o e n (nex b)) (nfr b o e hb)
  · obtain ⟨o', e'⟩ := I.base.there b o e (nex b)
    exact bx.thr b o' e' (nfr b o e hb)
  · obtain ⟨o', e'⟩ := I.base.there b o e (nex b)
    exact bx.free b o' e' (I.base.free b o e n (nex b))
  · obtain ⟨m1, q1⟩ := I.base.tbls _ _ q
    obtain ⟨m2, q2⟩ := bx.tbls _ _ q1
    exact ⟨m1 ++ m2, by rw [q2, Array.append_assoc]⟩
  · obtain ⟨sl1, q⟩ := slots_of I hex b o e hb
    obtain ⟨sl2, q2⟩ := sl b _ q (sub b hb)
    exact ⟨sl2, q2⟩
end
/-- a def of the text that may raise -/
structure GotE (P : Program) (w : World) (K : PySem.W.Frag) (mg : Str → Option Value) (base : Heap) (name : Str) (k : Nat) (ps : List Str) (sp : Sp) : Prop where
  ex : ∃ (f : Addr) (fd : FuncData), FnOk P w K mg base (CX1 P w) k f fd ps sp ∧ Binds K fd ps [] ∧ PySem.W.keepIn K (.ref f) = true ∧ mg name = some (.ref f)
theorem GotE.mono {P : Program} {w : World} {K : PySem.W.Frag} {mg : Str → Option Value} {base : Heap} {name : Str} {ps : List Str} {j k : Nat} {sp : Sp} (G : GotE P w K mg base name j ps sp) (h : j ≤ k) : GotE P w K mg base name k ps sp := by
  obtain ⟨f, fd, F, b, kp, m⟩ := G.ex
  exact ⟨f, fd, F.mono h, b, kp, m⟩
/-- the context of a def's body that may raise -/
abbrev cxE (P : Program) (w : World) (K : PySem.W.Frag) (mg : Str → Option Value) (base : Heap) (N : List Str) (qual : Str) (scope : Scope) (f : Addr) (cd : Value) (A : Around) (outer : List Env) (s : Shared) (H : Hp) (E : XK) : Cx :=
  (cxOf (CX1 P w) P w K mg base N qual scope f cd A outer s H E).wish (RX P w (A.deeper (envOfC qual scope s.heap.objs.size f cd)) (envOfC qual scope s.heap.objs.size f cd) outer s.heap.objs.size H s E)
theorem IsDef.gotE {P : Program} {w : World} {K : PySem.W.Frag} {mg : Str → Option Value} {base : Heap} {name : Str} {st : Stmt} {ps N : List Str} {k : Nat} {sp : Sp} (D : IsDef K mg name st ps) (S : FnScope N ps (defScope st)) (len : ∀ vs H Q E, sp vs H Q E → vs.length = ps.length)
    (hbody : ∀ (f : Addr) (cdv : Value) (A : Around) (outer : List Env) (s : Shared) (H : Hp) (vs : List V) (Q : VK) (E : XK), Room k (A.deeper (envOfC name (defScope st) s.heap.objs.size f cdv)) → sp vs H Q E →
      ∃ t, PSs (cxE P w K mg base N name (defScope st) f cdv A outer s H E) (defBody st) t ∧ t { nx := fun _ H' => Q .non H', rt := Q } (start N vs) H) : GotE P w K mg base name (k + 1) ps sp := by
  obtain ⟨f, fd, F, b, m⟩ := D.ex
  obtain ⟨oc, od, kV, doc, pm, an, cdv, ct, osl, rfl, lk, hcd⟩ := F.ex
  refine ⟨f, _, fn_of lk hcd S len (fun A outer s H vs Q E hr h => ?_), b, F.kp, m⟩
  obtain ⟨t, ht, q⟩ := hbody f cdv A outer s H vs Q E hr h
  exact ⟨t, ht.unR fun _ e s' z => RX.leaves rfl z, q⟩
section
variable {P : Program} {w : World} {K : PySem.W.Frag} {mg : Str → Option Value} {base : Heap} {N : List Str} {qual : Str} {scope : Scope} {f : Addr} {cd : Value} {A : Around} {outer : List Env} {s₀ : Shared} {H₀ : Hp} {E : XK}
theorem passE : Passes (CX1 P w) (cxE P w K mg base N qual scope f cd A outer s₀ H₀ E) E := fun _ _ _ _ _ _ I x => passed_of I rfl rfl x
variable {x : Str} {p pos : Pos} {e : Expr} {es : List Expr} {t : TA} {k : Nat} {ps : List Str} {sp : Sp}
theorem pe_callE (G : GotE P w K mg base x k ps sp) (hr : Room k (A.deeper (envOfC qual scope s₀.heap.objs.size f cd))) (hg : Gl (cxE P w K mg base N qual scope f cd A outer s₀ H₀ E) x) (ha : PA (cxE P w K mg base N qual scope f cd A outer s₀ H₀ E) (e :: es) t) (hdb : (x == ("__debug__" : Str)) = false := by decide)
    (he : starEach (e :: es) (envOfC qual scope s₀.heap.objs.size f cd) = (false, eval e (envOfC qual scope s₀.heap.objs.size f cd)) :: starEach es (envOfC qual scope s₀.heap.objs.size f cd) := by rfl) (hpl : (backTo pos (starEach es (envOfC qual scope s₀.heap.objs.size f cd))).any (·.1) = false := by rfl) :
    PE (cxE P w K mg base N qual scope f cd A outer s₀ H₀ E) (.Call (.Name x p) (e :: es) [] pos) (tCall sp [] E t) := by
  obtain ⟨f', fd, F, b, kp, m⟩ := G.ex
  exact pe_call F hr hg m kp b .nil passE ha hdb he hpl
end
end L2

set_option Elab.async false
set_option maxRecDepth 100000
namespace L2
open PySem PySem.Spec PyProof.Rows
/-- the built-in part of our classes' ways -/
abbrev veTail : List Value := [.type "ValueError", .type "Exception", .type "BaseException", .type "object"]
abbrev veNew : String := "ValueError.__new__"
/-- the class at C as an object of the heap -/
def ExcAt (h : Heap) (C : Addr) (bm : List Value) : Prop := ∃ N nm q bs hdct sn sub ab col dd k0 k1 k2 k3 k5 mN,
  h.get? C = some (excClassObj nm q C N bs bm hdct sn sub ab col dd k0 k1 k2 k3 k5 veNew) ∧ h.Ns N mN ∧ mN "__init__" = none ∧ OwnTail h veTail bm
theorem exc_at {K : PySem.W.Frag} {h : Heap} {C : Addr} (X : K.In h) (e : PySem.W.excIn K C veTail veNew = true) : ∃ bm, ExcAt h C bm ∧ ∀ D, PySem.W.mroIn K C D = some true → (Value.ref C :: bm).contains D = true := by
  revert e
  unfold PySem.W.excIn
  cases lk : K.lookup C with
  | none => intro e; cases e
  | some ob =>
    obtain ⟨c0, dd, dt, sl⟩ := ob
    intro e
    split at e
    case h_2 => cases e
    case h_1 cd' sl' lk' =>
      cases lk'
      split at e
      case h_2 => cases e
      case h_1 C2 tl k0 k1 k2 k3 nid k5 hm hs =>
        simp only [Bool.and_eq_true, beq_iff_eq, Bool.not_eq_true'] at e
        obtain ⟨⟨⟨⟨⟨hc, hn⟩, hdel⟩, ht⟩, hok⟩, hi⟩ := e
        subst hc
        subst hn
        have ob := X _ _ lk
        obtain ⟨arr⟩ := sl
        simp only at hs
        subst hs
        have hmro : ∀ D, PySem.W.mroIn K C2 D = some true → (Value.ref C2 :: tl).contains D = true := fun D q => by
          unfold PySem.W.mroIn PySem.W.clsIn at q
          rw [lk] at q
          simp only [Option.bind_some, hm] at q
          simpa using q
        obtain ⟨x1, x2, x3, x4, x5, x6, x7, x8, x9, x10, x11⟩ := cd'
        simp only at hm hdel hok hi
        subst hm
        subst hdel
        exact ⟨tl, ⟨_, _, _, _, _, _, _, _, _, _, _, _, _, _, _, _, ob, .of_isNs (PySem.W.isNs_of_in X hok), PySem.W.nsMap_none_of_in X hok hi, PySem.W.tail_of_in X ht⟩, hmro⟩
section
variable {M : Model} {A : Around} {E : Value → Shared → Prop}
end
/-- a class of refusals: its name and its place -/
structure IsExc (K : PySem.W.Frag) (mg : Str → Option Value) (name : Str) (C : Addr) : Prop where
  mg : mg name = some (.ref C)
  ex : PySem.W.excIn K C veTail veNew = true
section
variable {P : Program} {w : World} {K : PySem.W.Frag} {mg : Str → Option Value} {base : Heap} {N : List Str} {qual : Str} {scope : Scope} {f : Addr} {cd : Value} {A : Around} {outer : List Env} {s₀ : Shared} {H₀ : Hp} {E : XK}
variable {x : Str} {np cpos pos : Pos} {e : Expr} {es : List Expr} {t : TA} {C : Addr}
/-- raise C(..) -/
def tRaise (C : Addr) (E : XK) (t : TA) : TS := fun _ σ H => t σ H fun vs H1 => vs.length ≤ sizeLine ∧ E (.ref C) none H1
theorem ps_raise (x1 : IsExc K mg x C) (hg : Gl (cxE P w K mg base N qual scope f cd A outer s₀ H₀ E) x) (ha : PA (cxE P w K mg base N qual scope f cd A outer s₀ H₀ E) (e :: es) t) (hdb : (x == ("__debug__" : Str)) = false := by decide)
    (he : starEach (e :: es) (envOfC qual scope s₀.heap.objs.size f cd) = (false, eval e (envOfC qual scope s₀.heap.objs.size f cd)) :: starEach es (envOfC qual scope s₀.heap.objs.size f cd) := by rfl) (hpl : (backTo cpos (starEach es (envOfC qual scope s₀.heap.objs.size f cd))).any (·.1) = false := by rfl) :
    PS (cxE P w K mg base N qual scope f cd A outer s₀ H₀ E) (.Raise (some (.Call (.Name x np) (e :: es) [] cpos)) none pos) (tRaise C E t) := by
  intro pins s σ H D I h
  obtain ⟨bm, ⟨Na, nm, q, bs, hdct, sn, sub, ab, col, dd, k0, k1, k2, k3, k5, mN, oC, hN, hni, TL⟩, _⟩ := exc_at I.ok.mod.kin x1.ex
  have hpl2 : (backTo cpos (starEach (e :: es) (envOfC qual scope s₀.heap.objs.size f cd))).any (·.1) = false := by
    rw [he]
    show (false || (backTo cpos (starEach es (envOfC qual scope s₀.heap.objs.size f cd))).any (·.1)) = false
    rw [hpl]; rfl
  refine wpAny_Raise_call_subT (C := C) (nm := nm) (q := q) (N := Na) (bs := bs) (bm := bm) (hdct := hdct) (sn := sn) (sub := sub) (ab := ab) (col := col) (dd := dd) (k0 := k0) (k1 := k1) (k2 := k2) (k3 := k3) (k5 := k5)
    PySem.F.excBase_ValueError (mN := mN) (TL.hasType (by decide)) (I.ok.hd rfl) hpl2 hni (ld_glob I hg x1.mg ⟨rfl, ?_⟩ hdb)
  have hs := ha cpos pins s σ H _ I h
  change wpAny _ _ (evalArgs (.ref C) true (backTo cpos (starEach (e :: es) (envOfC qual scope s₀.heap.objs.size f cd))) []) _ _ _
  change wpAny _ _ (spliced (backTo cpos (starEach (e :: es) (envOfC qual scope s₀.heap.objs.size f cd)))) _ _ _ at hs
  rw [he] at hs ⊢
  refine Calls.evalArgs_plain (thn hs fun us s1 ⟨vs, H1, I1, r, hl, hE⟩ => ?_)
  refine ⟨rfl, by rw [← r.length]; exact hl, I1.bk _ _ oC, hN.keeps I1.bk, TL.keeps I1.bk, fun h' a m => ?_⟩
  exact raised_of (tk := s1.toks) I1 rfl rfl m hE
end
end L2

set_option Elab.async false
set_option maxRecDepth 100000
namespace L2
open PySem PySem.Spec PyProof.Rows
/-! ### caught -/
/-- an exception that is held by a name: its class -/
def ofCls (a : Addr) (cls : Value) (h : Heap) : Prop := ∃ ob, h.get? a = some ob ∧ ob.cls = cls ∧ ob.dict = none ∧ ∃ vs, ob.data = .fields vs
/-- within an except's suite (or a def called there) -/
abbrev cxR (X : Cx) (A' : Around) : Cx := { X with A := A', calm := false, xe := fun _ _ => False }
section
variable {X : Cx} {pins : List (Addr × Obj)} {σ : St} {H : Hp} {s : Shared} {A' : Around}
end
/-- statements at a def's top, where nothing is pinned -/
def PS0 (X : Cx) (st : Stmt) (t : TS) : Prop :=
  ∀ (s : Shared) (σ : St) (H : Hp) (D : Ends), Inv X [] σ H s → t D σ H → wpAny (model X.prog X.w) X.A (exec st X.env) (SP X [] D) X.xe s
def PSs0 (X : Cx) (st : List Stmt) (t : TS) : Prop :=
  ∀ (s : Shared) (σ : St) (H : Hp) (D : Ends), Inv X [] σ H s → t D σ H → wpAny (model X.prog X.w) X.A (execs st X.env) (SP X [] D) X.xe s
section
variable {X : Cx} {st : Stmt} {rest : List Stmt} {t u : TS}
end
/-- try: body, except F as n: suite -/
def tTry (K : PySem.W.Frag) (F : Addr) (N : Nat) (i : Nat) (tb : XK → TS) (th : TS) : TS := fun D σ H => ∃ E : XK, tb E D σ H ∧ ∀ cls H', E cls none H' → ∃ C, cls = .ref C ∧ PySem.W.excIn K C veTail veNew = true ∧ PySem.W.mroIn K C (.ref F) = some true ∧
  ∀ (a : Addr) (σ' : St), σ'.length = N → H' a = none → th { nx := fun _ H2 => D.nx (List.replicate N none) H2, rt := D.rt, bk := fun _ H2 => D.bk (List.replicate N none) H2, ct := fun _ H2 => D.ct (List.replicate N none) H2 } (σ'.set i (some (.ref a))) (upd H' a (.ext (ofCls a (.ref C))))
end L2

set_option Elab.async false
set_option maxRecDepth 100000
namespace L2
open PySem PySem.Spec PyProof.Rows
/-! ### isinstance of a caught exception -/
/-- what the fragment says of a class of ours -/
structure XcOk (K : PySem.W.Frag) (C : Addr) : Prop where
  ga : PySem.W.findIn K (.ref C) "__getattribute__" = some (some (.builtin "BaseException.__getattribute__"))
  gx : PySem.W.findIn K (.ref C) "__getattr__" = some none
  cl : PySem.W.findIn K (.ref C) "__class__" = some (some (.builtin "object.__class__"))
  gg : PySem.W.specialIn K (.builtin "object.__class__") "__get__" = some (some (.builtin "getset_descriptor.__get__"))
  tk : PySem.W.takesIn K (.builtin "object.__class__") = some true
  mo : PySem.W.mroIn K C (.type "object") = some true
  mb : PySem.W.mroIn K C (.type "BaseException") = some true
  cs : ∃ cd, PySem.W.clsIn K C = some cd
section
variable {prog : Program} {w : World} {A : Around} {E : Value → Shared → Prop} {s : Shared} {K : PySem.W.Frag} {C a : Addr} {ox : Obj}
end
section
variable {X : Cx}
/-! ### count, index of a list of bools -/
def rCountB : V → List V → Hp → VK → Prop := fun x vs H Q => ∃ (l : Addr) (bs : List Bool) (k : Bool), x = .ref l ∧ vs = [.bl k] ∧ H l = some (.lst (bs.map V.bl)) ∧ Q (.int (countIn (.bool k) (bs.map PyData.bool))) H
def rIndexB : V → List V → Hp → VK → Prop := fun x vs H Q => ∃ (l : Addr) (bs : List Bool) (k : Bool) (j : Nat), x = .ref l ∧ vs = [.bl k] ∧ H l = some (.lst (bs.map V.bl)) ∧ bs[j]? = some k ∧ (∀ i, i < j → bs[i]? = some (!k)) ∧ Q (.int (j : Int)) H
end
end L2

set_option Elab.async false
set_option maxRecDepth 100000
namespace L2
open PySem PySem.Spec PyProof.Rows
/-! ### defs whose body holds a try; defs that are called within an except -/
/-- room, whatever is handled -/
structure RoomX (k : Nat) (A : Around) : Prop where
  dp : A.depth + 3 * k + 5 < recursionLimit
  un : A.units + 16 * k + 200 < cLine
theorem Room.x {k : Nat} {A : Around} (r : Room k A) : RoomX k A := ⟨r.dp, r.un⟩
theorem RoomX.mark {k : Nat} {A : Around} {h : Option Value} (r : RoomX k A) : RoomX k (A.mark h) := ⟨r.dp, r.un⟩
theorem RoomX.mono {j k : Nat} {A : Around} (r : RoomX k A) (h : j ≤ k) : RoomX j A := ⟨by have := r.dp; omega, by have := r.un; omega⟩
theorem RoomX.deeper {k : Nat} {A : Around} (r : RoomX (k + 1) A) (env : Env) : RoomX k (A.deeper env) :=
  ⟨by have := r.dp; show A.depth + 1 + 3 * k + 5 < _; omega, by have := r.un; show A.units + 3 + 16 * k + 200 < _; omega⟩
theorem RoomX.units {k : Nat} {A : Around} (r : RoomX k A) : A.units + 64 < cLine := by have := r.un; omega
structure FnOkX (P : Program) (w : World) (K : PySem.W.Frag) (mg : Str → Option Value) (base : Heap) (k : Nat) (f : Addr) (fd : FuncData) (ps : List Str) (sp : Sp) : Prop where
  len : ∀ vs H Q E, sp vs H Q E → vs.length = ps.length
  run : ∀ (A : Around) (outer : List Env) (s : Shared) (H : Hp) (args : Args) (us : List Value) (vs : List V) (Q : VK) (E : XK), RoomX k A → Env0 P w K mg base A outer s H → BindsTo s fd args (ps.zip us) → Vals vs us → sp vs H Q E →
    codeAny (model P w) A (.call (.ref f) args) (CR CX0 outer P w H s Q E) s
structure GotX (P : Program) (w : World) (K : PySem.W.Frag) (mg : Str → Option Value) (base : Heap) (name : Str) (k : Nat) (ps : List Str) (sp : Sp) : Prop where
  ex : ∃ (f : Addr) (fd : FuncData), FnOkX P w K mg base k f fd ps sp ∧ Binds K fd ps [] ∧ PySem.W.keepIn K (.ref f) = true ∧ mg name = some (.ref f)
abbrev cxX (P : Program) (w : World) (K : PySem.W.Frag) (mg : Str → Option Value) (base : Heap) (N : List Str) (qual : Str) (scope : Scope) (f : Addr) (cd : Value) (A : Around) (outer : List Env) (s : Shared) (H : Hp) (E : XK) : Cx :=
  cxR (cxOf CX0 P w K mg base N qual scope f cd A outer s H E) (A.deeper (envOfC qual scope s.heap.objs.size f cd))
section
variable {P : Program} {w : World} {K : PySem.W.Frag} {mg : Str → Option Value} {base : Heap} {name : Str} {st : Stmt} {ps N : List Str} {k : Nat} {sp : Sp}
end
section
variable {X : Cx} {x : Str} {p pos : Pos} {e : Expr} {es : List Expr} {t : TA} {k : Nat} {ps : List Str} {sp : Sp} {E : XK}
/-- a call of a def that may raise, in a body that looks out for it -/
theorem pe_callP (G : GotE X.prog X.w X.K X.mg X.base x k ps sp) (hp : Passes (CX1 X.prog X.w) X E) (hr : Room k X.A) (hg : Gl X x) (ha : PA X (e :: es) t) (hdb : (x == ("__debug__" : Str)) = false := by decide)
    (he : starEach (e :: es) X.env = (false, eval e X.env) :: starEach es X.env := by rfl) (hpl : (backTo pos (starEach es X.env)).any (·.1) = false := by rfl) : PE X (.Call (.Name x p) (e :: es) [] pos) (tCall sp [] E t) := by
  obtain ⟨f, fd, F, b, kp, m⟩ := G.ex
  exact pe_call F hr hg m kp b .nil hp ha hdb he hpl
end
end L2

set_option Elab.async false
set_option maxRecDepth 100000
namespace L2
open PySem PySem.Spec PyProof.Rows
/-! ### the six classes of refusals -/
/-- by their names -/
structure Exs (mg : Str → Option Value) (F c0 c1 c2 c3 c4 c5 : Addr) : Prop where
  f : mg "FigureError" = some (.ref F)
  n0 : mg "NoBase" = some (.ref c0)
  n1 : mg "NoFraction" = some (.ref c1)
  n2 : mg "NoWriting" = some (.ref c2)
  n3 : mg "NoNumber" = some (.ref c3)
  n4 : mg "TooLong" = some (.ref c4)
  n5 : mg "NoNote" = some (.ref c5)
/-- how the class C, the j-th of them, stands to the others -/
structure RefX (K : PySem.W.Frag) (F c0 c1 c2 c3 c4 c5 C : Addr) (j : Nat) : Prop where
  up : PySem.W.mroIn K C (.ref F) = some true
  ve : PySem.W.kitOne K (.ref C) (.type "ValueError") = some true
  k0 : PySem.W.kitOne K (.ref C) (.ref c0) = some (decide (j = 0))
  k1 : PySem.W.kitOne K (.ref C) (.ref c1) = some (decide (j = 1))
  k2 : PySem.W.kitOne K (.ref C) (.ref c2) = some (decide (j = 2))
  k3 : PySem.W.kitOne K (.ref C) (.ref c3) = some (decide (j = 3))
  k4 : PySem.W.kitOne K (.ref C) (.ref c4) = some (decide (j = 4))
  k5 : PySem.W.kitOne K (.ref C) (.ref c5) = some (decide (j = 5))
structure Ref (K : PySem.W.Frag) (mg : Str → Option Value) (j : Nat) (C : Addr) : Prop where
  lt : j < 6
  ex : PySem.W.excIn K C veTail veNew = true
  xc : XcOk K C
  all : ∀ F c0 c1 c2 c3 c4 c5, Exs mg F c0 c1 c2 c3 c4 c5 → RefX K F c0 c1 c2 c3 c4 c5 C j
theorem ref_none {K : PySem.W.Frag} {mg : Str → Option Value} {C : Addr} {j : Nat} (h : mg "NoNote" = none) (lt : j < 6) (ex : PySem.W.excIn K C veTail veNew = true) (xc : XcOk K C) : Ref K mg j C :=
  ⟨lt, ex, xc, fun _ _ _ _ _ _ _ y => by
    have e := y.n5
    rw [h] at e
    cases e⟩
/-- the j-th refusal is told, and nothing that was there has changed -/
def Raised (K : PySem.W.Frag) (mg : Str → Option Value) (j : Nat) (E : XK) (H : Hp) : Prop := ∀ C H', Ref K mg j C → Same H H' → E (.ref C) none H'
theorem Raised.up {K : PySem.W.Frag} {mg : Str → Option Value} {j : Nat} {E : XK} {H H1 : Hp} (r : Raised K mg j E H) (s : Same H H1) : Raised K mg j E H1 := fun C H' x s' => r C H' x (s.trans s')
def wordOf : Nat → Str
  | 0 => "base"
  | 1 => "fraction"
  | 2 => "writing"
  | 3 => "number"
  | 4 => "long"
  | _ => "note"
/-- where nothing is refused -/
def EF : XK := fun _ _ _ => False
section
variable {X : Cx} {x : Str} {p pos : Pos} {e : Expr} {es : List Expr} {t : TA} {k : Nat} {ps : List Str} {sp : Sp}
theorem pe_callN (G : GotE X.prog X.w X.K X.mg X.base x k ps sp) (hr : Room k X.A) (hg : Gl X x) (ha : PA X (e :: es) t) (hdb : (x == ("__debug__" : Str)) = false := by decide)
    (he : starEach (e :: es) X.env = (false, eval e X.env) :: starEach es X.env := by rfl) (hpl : (backTo pos (starEach es X.env)).any (·.1) = false := by rfl) : PE X (.Call (.Name x p) (e :: es) [] pos) (tCall sp [] EF t) :=
  pe_callP G (fun _ _ _ _ _ _ _ z => by
    obtain ⟨_, _, _, _, _, _, _, _, _, _, z⟩ := z
    exact False.elim z) hr hg ha hdb he hpl
end
end L2

set_option Elab.async false
set_option maxRecDepth 100000
namespace My
open PySem L2
/-! sums and multiples -/
def Long (T B : Int) : Prop := 1000000000000 < T / B ∨ 2000 < (RF.low T B).2
/-- what is told of a result -/
def Out (K : PySem.W.Frag) (mg : Str → Option Value) (b T B : Int) (H : Hp) (Q : VK) (E : XK) : Prop :=
  (Long T B → Raised K mg 4 E H) ∧ (¬ Long T B → ∀ (w : Int) (a g : List Int) (p la lg : Addr) (H' : Hp), RF.DivIs b (RF.low T B).1 (RF.low T B).2 w a g → NewWr H H' p la lg w a g → Q (.ref p) H')
theorem Out.up {K : PySem.W.Frag} {mg : Str → Option Value} {b T B : Int} {H H1 : Hp} {Q : VK} {E : XK} (o : Out K mg b T B H Q E) (s : Same H H1) : Out K mg b T B H1 Q E :=
  ⟨fun l => (o.1 l).up s, fun l w a g p la lg H' d n => o.2 l w a g p la lg H' d (NewWr.up s n)⟩
def spResultOf (K : PySem.W.Frag) (mg : Str → Option Value) : Sp := fun vs H Q E => ∃ b T B : Int, vs = [.int b, .int T, .int B] ∧ 2 ≤ b ∧ b ≤ 36 ∧ 0 ≤ T ∧ 0 < B ∧ B.natAbs < 2 ^ 8500 ∧ Out K mg b T B H Q E
def spCheckNumberE (K : PySem.W.Frag) (mg : Str → Option Value) : Sp := fun vs H Q E => ∃ n : Int, vs = [.int n] ∧ (0 ≤ n ∧ n ≤ 1000000 → Q .non H) ∧ (¬ (0 ≤ n ∧ n ≤ 1000000) → Raised K mg 3 E H)
/-- top and bottom of a worth -/
abbrev tp (b x : Int) (a g : List Int) : Int := (RF.low (RF.wT b x a g) (RF.wB b a g)).1
abbrev bt (b x : Int) (a g : List Int) : Int := (RF.low (RF.wT b x a g) (RF.wB b a g)).2
/-- a writing that one may reckon with -/
structure Reck (b x : Int) (a g : List Int) : Prop where
  gw : GoodW b x a g
  dv : DivOk (RF.num b a * RF.rM b g + RF.num b g) (RF.wB b a g)
  sm : (bt b x a g).natAbs < 2 ^ 3900
structure Sizes (t q : Int) : Prop where
  t0 : 0 ≤ t
  q0 : 0 < q
  ts : t.natAbs < 2 ^ 3990
  qs : q.natAbs < 2 ^ 3900
theorem Reck.sizes {b x : Int} {a g : List Int} (b2 : 2 ≤ b) (r : Reck b x a g) : Sizes (tp b x a g) (bt b x a g) := by
  have hB := RF.wB_pos b2 a g
  have hN := RF.wN_bd b2 r.gw.fa r.gw.fg
  have hT := wT_nonneg b2 r.gw
  have q0 := RF.low_pos (T := RF.wT b x a g) hB
  have t0 := low_nonneg (B := RF.wB b a g) hT
  have e := RF.low_mul (T := RF.wT b x a g) hB
  have sm := r.sm
  have x1 := r.gw.w1
  refine ⟨t0, q0, ?_, sm⟩
  have h1 : RF.wT b x a g ≤ (x + 1) * RF.wB b a g := by
    unfold RF.wT
    rw [Int.add_mul, Int.one_mul]
    omega
  have h2 : tp b x a g * RF.wB b a g ≤ (x + 1) * bt b x a g * RF.wB b a g := by
    show (RF.low (RF.wT b x a g) (RF.wB b a g)).1 * RF.wB b a g ≤ _
    rw [← e]
    have := Int.mul_le_mul_of_nonneg_right h1 (Int.le_of_lt q0)
    rw [Int.mul_assoc, Int.mul_comm (bt b x a g), ← Int.mul_assoc]
    exact this
  have h3 : tp b x a g ≤ (x + 1) * bt b x a g := Int.le_of_mul_le_mul_right h2 hB
  have h4 : (x + 1) * bt b x a g ≤ 2 ^ 41 * bt b x a g := Int.mul_le_mul_of_nonneg_right (by omega) (Int.le_of_lt q0)
  have h5 : (bt b x a g) < 2 ^ 3900 := by
    have : ((bt b x a g).natAbs : Int) < ((2 ^ 3900 : Nat) : Int) := Int.ofNat_lt.mpr sm
    rw [Int.natAbs_of_nonneg (Int.le_of_lt q0), Int.natCast_pow] at this
    exact this
  have h6 : 2 ^ 41 * bt b x a g < 2 ^ 41 * 2 ^ 3900 := Int.mul_lt_mul_of_pos_left h5 (by decide)
  have h7 : ((tp b x a g).natAbs : Int) < ((2 ^ 41 * 2 ^ 3900 : Nat) : Int) := by
    rw [Int.natAbs_of_nonneg t0, Int.natCast_mul, Int.natCast_pow, Int.natCast_pow]
    exact Int.lt_of_le_of_lt h3 (Int.lt_of_le_of_lt h4 h6)
  have h8 := Int.ofNat_lt.mp h7
  rw [← Nat.pow_add] at h8
  exact Nat.lt_of_lt_of_le h8 (Nat.pow_le_pow_right (by decide) (by decide))
def spAdded (K : PySem.W.Frag) (mg : Str → Option Value) : Sp := fun vs H Q E => ∃ (b : Int) (p1 la1 lg1 : Addr) (x1 : Int) (a1 g1 : List Int) (p2 la2 lg2 : Addr) (x2 : Int) (a2 g2 : List Int), vs = [.int b, .ref p1, .ref p2] ∧ 2 ≤ b ∧ b ≤ 36 ∧
  WrAt K H p1 la1 lg1 x1 a1 g1 ∧ Reck b x1 a1 g1 ∧ WrAt K H p2 la2 lg2 x2 a2 g2 ∧ Reck b x2 a2 g2 ∧
  Out K mg b (tp b x1 a1 g1 * bt b x2 a2 g2 + tp b x2 a2 g2 * bt b x1 a1 g1) (bt b x1 a1 g1 * bt b x2 a2 g2) H Q E
def spTimes (K : PySem.W.Frag) (mg : Str → Option Value) : Sp := fun vs H Q E => ∃ (b : Int) (p la lg : Addr) (x : Int) (a g : List Int) (n : Int), vs = [.int b, .ref p, .int n] ∧ 2 ≤ b ∧ b ≤ 36 ∧
  WrAt K H p la lg x a g ∧ Reck b x a g ∧ (0 ≤ n ∧ n ≤ 1000000 → Out K mg b (tp b x a g * n) (bt b x a g) H Q E) ∧ (¬ (0 ≤ n ∧ n ≤ 1000000) → Raised K mg 3 E H)
theorem reck_div {b t q x : Int} {a g : List Int} (b2 : 2 ≤ b) (hq : 0 < q) (q2 : q ≤ 2000) (ht : 0 ≤ t) (hx : x ≤ 1000000000000) (d : RF.DivIs b t q x a g) : Reck b x a g := by
  have T := d.told b2 hq ht
  have ln := T.ln
  refine ⟨⟨T.w0, hx, T.fa, T.fg, by omega, by omega⟩, divOk_told b2 hq q2 ht d, ?_⟩
  show (RF.low (RF.wT b x a g) (RF.wB b a g)).2.natAbs < _
  rw [d.low b2 hq ht]
  have h1 := low_le (t := t) hq
  have h0 := RF.low_pos (T := t) hq
  exact Nat.lt_of_le_of_lt (show (RF.low t q).2.natAbs ≤ 2 ^ 11 by omega) (Nat.pow_lt_pow_right (by decide) (by decide))
/-! a fraction n by D, D at most 2000 -/
structure Over (b D n x : Int) (a g : List Int) : Prop where
  dv : RF.DivIs b (RF.low n D).1 (RF.low n D).2 x a g
theorem Over.of {b t q D x : Int} {a g : List Int} (hq : 0 < q) (hD : 0 < D) (h : q ∣ D) (d : RF.DivIs b t q x a g) : Over b D (t * (D / q)) x a g := by
  refine ⟨?_⟩
  rw [← RF.low_over hq hD h]
  exact d.of_low hq
theorem Over.uniq {b D n x x' : Int} {a g a' g' : List Int} (y : Over b D n x a g) (z : Over b D n x' a' g') : x = x' ∧ a = a' ∧ g = g' := y.dv.uniq z.dv
theorem Over.low {b D n x : Int} {a g : List Int} (b2 : 2 ≤ b) (hD : 0 < D) (hn : 0 ≤ n) (y : Over b D n x a g) : RF.low (RF.wT b x a g) (RF.wB b a g) = RF.low n D := by
  have h0 := RF.low_pos (T := n) hD
  have e := y.dv.low b2 h0 (low_nonneg hn)
  rw [e]
  exact RF.low_cross h0 hD (RF.low_mul hD).symm
theorem Over.reck {b D n x : Int} {a g : List Int} (b2 : 2 ≤ b) (hD : 0 < D) (h2 : D ≤ 2000) (hn : 0 ≤ n) (hx : n ≤ 1000000000000 * D) (y : Over b D n x a g) : Reck b x a g := by
  have h0 := RF.low_pos (T := n) hD
  have h1 := low_le (t := n) hD
  refine reck_div b2 h0 (by omega) (low_nonneg hn) ?_ y.dv
  rw [y.dv.1, RF.low_div hD]
  exact Int.ediv_le_of_le_mul hD hx
theorem not_long {n D T B : Int} (hD : 0 < D) (h2 : D ≤ 2000) (hB : 0 < B) (hx : n ≤ 1000000000000 * D) (e : RF.low T B = RF.low n D) : ¬ Long T B := by
  have h1 := low_le (t := n) hD
  rintro (h | h)
  · rw [← RF.low_div hB, e, RF.low_div hD] at h
    have := Int.ediv_le_of_le_mul hD hx
    omega
  · rw [e] at h
    omega
/-! the law's own words of sums -/
def spWordOf (K : PySem.W.Frag) (mg : Str → Option Value) : Sp := fun vs H Q _ => ∃ (a C : Addr) (j : Nat), vs = [.ref a] ∧ H a = some (.ext (ofCls a (.ref C))) ∧ Ref K mg j C ∧ ∀ H', Same H H' → Q (.str (wordOf j)) H'
abbrev wds (j : Nat) : List Bool := [decide (j = 0), decide (j = 1), decide (j = 2), decide (j = 3), decide (j = 4), decide (j = 5)]
theorem six {R : Nat → Prop} (h0 : R 0) (h1 : R 1) (h2 : R 2) (h3 : R 3) (h4 : R 4) (h5 : R 5) {j : Nat} (h : j < 6) : R j := by
  rcases (show j = 0 ∨ j = 1 ∨ j = 2 ∨ j = 3 ∨ j = 4 ∨ j = 5 by omega) with rfl | rfl | rfl | rfl | rfl | rfl <;> assumption
/-- a result, or the word of it -/
def OutW (b T B : Int) (H : Hp) (Q : VK) : Prop := (Long T B → ∀ H', Same H H' → Q (.str (wordOf 4)) H') ∧ (¬ Long T B → ∀ (w : Int) (a g : List Int) (p la lg : Addr) (H' : Hp), RF.DivIs b (RF.low T B).1 (RF.low T B).2 w a g → NewWr H H' p la lg w a g → Q (.ref p) H')
theorem OutW.up {b T B : Int} {H H1 : Hp} {Q : VK} (o : OutW b T B H Q) (s : Same H H1) : OutW b T B H1 Q :=
  ⟨fun l H' s' => o.1 l H' (s.trans s'), fun l w a g p la lg H' d n => o.2 l w a g p la lg H' d (NewWr.up s n)⟩
/-- what is asked for: times (the other is none) or added -/
def Ask (K : PySem.W.Frag) (b x : Int) (a g : List Int) (v : V) (n : Int) (H : Hp) (Q : VK) : Prop :=
  (v = .non ∧ (0 ≤ n ∧ n ≤ 1000000 → OutW b (tp b x a g * n) (bt b x a g) H Q) ∧ (¬ (0 ≤ n ∧ n ≤ 1000000) → ∀ H', Same H H' → Q (.str (wordOf 3)) H')) ∨
  ∃ (p2 la2 lg2 : Addr) (x2 : Int) (a2 g2 : List Int), v = .ref p2 ∧ WrAt K H p2 la2 lg2 x2 a2 g2 ∧ Reck b x2 a2 g2 ∧ OutW b (tp b x a g * bt b x2 a2 g2 + tp b x2 a2 g2 * bt b x a g) (bt b x a g * bt b x2 a2 g2) H Q
def spTold (K : PySem.W.Frag) (mg : Str → Option Value) : Sp := fun vs H Q _ => ∃ (b : Int) (p1 la1 lg1 : Addr) (x1 : Int) (a1 g1 : List Int) (v : V) (n : Int), vs = [.int b, .ref p1, v, .int n] ∧ 2 ≤ b ∧ b ≤ 36 ∧ WrAt K H p1 la1 lg1 x1 a1 g1 ∧ Reck b x1 a1 g1 ∧ Ask K b x1 a1 g1 v n H Q
def spOne (K : PySem.W.Frag) : Sp := fun vs H Q _ => ∃ (sc : Addr) (ns : List Int) (i b : Int), vs = [.ref sc, .int i, .int b] ∧ SqL K H sc (ns.map V.int) ∧ 0 ≤ i ∧ 2 ≤ b ∧ b ≤ 36 ∧
  ∀ (x : Int) (a g : List Int) (p la lg : Addr) (H' : Hp), Reck b x a g → NewWr H H' p la lg x a g → Q (.ref p) H'
def spLawWorthR (K : PySem.W.Frag) : Sp := fun vs H Q _ => ∃ (b : Int) (p la lg : Addr) (x : Int) (a g : List Int), vs = [.int b, .ref p] ∧ 2 ≤ b ∧ b ≤ 36 ∧ WrAt K H p la lg x a g ∧ GoodW b x a g ∧ DivOk (RF.wT b x a g) (RF.wB b a g) ∧
  ∀ (p' : Addr) (H' : Hp), Same H H' → H p' = none → H' p' = some (.tup [.int (RF.low (RF.wT b x a g) (RF.wB b a g)).1, .int (RF.low (RF.wT b x a g) (RF.wB b a g)).2]) → Q (.ref p') H'
def spDue : Sp := fun vs H Q _ => ∃ b T B : Int, vs = [.int b, .int T, .int B] ∧ 2 ≤ b ∧ b ≤ 36 ∧ 0 ≤ T ∧ 0 < B ∧ B.natAbs < 2 ^ 8500 ∧ OutW b T B H Q
/-- the same text twice, or the same writing -/
def spIsDue (K : PySem.W.Frag) : Sp := fun vs H Q _ => ∃ u v : V, vs = [u, v] ∧ (∀ H', Same H H' → Q (.bl true) H') ∧ ((∃ z : Str, u = .str z ∧ v = .str z) ∨
  ∃ (p la lg p' la' lg' : Addr) (x : Int) (a g : List Int), u = .ref p ∧ v = .ref p' ∧ H p = some (.tup [.int x, .ref la, .ref lg]) ∧ H la = some (.lst (a.map V.int)) ∧ H lg = some (.lst (g.map V.int)) ∧
    H p' = some (.tup [.int x, .ref la', .ref lg']) ∧ H la' = some (.lst (a.map V.int)) ∧ H lg' = some (.lst (g.map V.int)))
def spOwn (K : PySem.W.Frag) : Sp := fun vs H Q _ => ∃ (b : Int) (l : Addr) (y : V) (p1 la1 lg1 : Addr) (x1 : Int) (a1 g1 : List Int) (v : V) (n : Int), vs = [.int b, .ref l, v, .int n] ∧ 2 ≤ b ∧ b ≤ 36 ∧ SqL K H l [.ref p1, y] ∧ WrAt K H p1 la1 lg1 x1 a1 g1 ∧ Reck b x1 a1 g1 ∧
  (v = .non ∨ ∃ (p2 la2 lg2 : Addr) (x2 : Int) (a2 g2 : List Int), v = .ref p2 ∧ WrAt K H p2 la2 lg2 x2 a2 g2 ∧ Reck b x2 a2 g2) ∧ ∀ H', Same H H' → Q (.bl true) H'
/-- a writing whose objects are not D -/
structure WrN (D : Addr) (H : Hp) (p la lg : Addr) (x : Int) (a g : List Int) : Prop where
  t : H p = some (.tup [.int x, .ref la, .ref lg])
  a : H la = some (.lst (a.map V.int))
  g : H lg = some (.lst (g.map V.int))
  np : p ≠ D
  na : la ≠ D
  ng : lg ≠ D
theorem WrN.of {D : Addr} {H H' : Hp} {p la lg : Addr} {x : Int} {a g : List Int} {o : HO} (hD : H D = some o) (n : NewWr H H' p la lg x a g) : WrN D H' p la lg x a g :=
  ⟨n.t, n.a, n.g, fun e => (by have := n.np; rw [e, hD] at this; cases this), fun e => (by have := n.na; rw [e, hD] at this; cases this), fun e => (by have := n.ng; rw [e, hD] at this; cases this)⟩
theorem WrN.same {D : Addr} {H H' : Hp} {p la lg : Addr} {x : Int} {a g : List Int} (w : WrN D H p la lg x a g) (s : Same H H') : WrN D H' p la lg x a g := ⟨s _ _ w.t, s _ _ w.a, s _ _ w.g, w.np, w.na, w.ng⟩
theorem WrN.put {D : Addr} {H : Hp} {p la lg : Addr} {x : Int} {a g : List Int} {o : HO} (w : WrN D H p la lg x a g) : WrN D (upd H D o) p la lg x a g :=
  ⟨by rw [upd_ne w.np]; exact w.t, by rw [upd_ne w.na]; exact w.a, by rw [upd_ne w.ng]; exact w.g, w.np, w.na, w.ng⟩
theorem WrN.wr {K : PySem.W.Frag} {D : Addr} {H : Hp} {p la lg : Addr} {x : Int} {a g : List Int} (w : WrN D H p la lg x a g) : WrAt K H p la lg x a g := ⟨.of w.t, .of w.a, .of w.g⟩
/-- the writings of some fractions, in a list at D -/
structure Wrs (D : Addr) (b : Int) (t q : Nat → Int) (i : Nat) (H : Hp) (ys : List V) : Prop where
  l : H D = some (.lst ys)
  n : ys.length = i
  all : ∀ j, j < i → ∃ p la lg x a g, ys[j]? = some (.ref p) ∧ WrN D H p la lg x a g ∧ RF.DivIs b (t j) (q j) x a g
theorem Wrs.more {D : Addr} {b : Int} {t q : Nat → Int} {i : Nat} {H H' : Hp} {ys : List V} {p la lg : Addr} {x : Int} {a g : List Int} (w : Wrs D b t q i H ys) (n : NewWr H H' p la lg x a g) (d : RF.DivIs b (t i) (q i) x a g) :
    Wrs D b t q (i + 1) (upd H' D (.lst (ys ++ [.ref p]))) (ys ++ [.ref p]) := by
  refine ⟨upd_same, by rw [List.length_append, w.n]; rfl, fun j hj => ?_⟩
  by_cases e : j = i
  · subst e
    refine ⟨p, la, lg, x, a, g, ?_, (WrN.of w.l n).put, d⟩
    rw [List.getElem?_append_right (by rw [w.n]; exact Nat.le_refl _), w.n, Nat.sub_self]; rfl
  · obtain ⟨p', la', lg', x', a', g', e1, w1, d1⟩ := w.all j (by omega)
    refine ⟨p', la', lg', x', a', g', ?_, (w1.same n.sm).put, d1⟩
    rw [List.getElem?_append_left (by rw [w.n]; omega)]
    exact e1
/-- a sum over one bottom -/
theorem OutN_of {K : PySem.W.Frag} {mg : Str → Option Value} {b D n T B : Int} {H : Hp} {Q : VK} {E : XK} (hD : 0 < D) (h2 : D ≤ 2000) (hB : 0 < B) (hx : n ≤ 1000000000000 * D) (e : RF.low T B = RF.low n D)
    (k : ∀ (w : Int) (a g : List Int) (p la lg : Addr) (H' : Hp), Over b D n w a g → NewWr H H' p la lg w a g → Q (.ref p) H') : Out K mg b T B H Q E :=
  ⟨fun l => absurd l (not_long hD h2 hB hx e), fun _ w a g p la lg H' d nw => k w a g p la lg H' ⟨by rw [← e]; exact d⟩ nw⟩
/-- added, of two fractions over one bottom -/
theorem added_over {K : PySem.W.Frag} {mg : Str → Option Value} {b D n1 n2 : Int} {H : Hp} {Q : VK} {E : XK} {p1 la1 lg1 p2 la2 lg2 : Addr} {x1 x2 : Int} {a1 g1 a2 g2 : List Int} (b2 : 2 ≤ b) (b36 : b ≤ 36) (hD : 0 < D) (h2 : D ≤ 2000) (p0 : 0 ≤ n1) (q0 : 0 ≤ n2) (hx : n1 + n2 ≤ 1000000000000 * D)
    (o1 : Over b D n1 x1 a1 g1) (w1 : WrAt K H p1 la1 lg1 x1 a1 g1) (o2 : Over b D n2 x2 a2 g2) (w2 : WrAt K H p2 la2 lg2 x2 a2 g2)
    (k : ∀ (w : Int) (a g : List Int) (p la lg : Addr) (H' : Hp), Over b D (n1 + n2) w a g → NewWr H H' p la lg w a g → Q (.ref p) H') : spAdded K mg [.int b, .ref p1, .ref p2] H Q E := by
  have r1 := o1.reck b2 hD h2 p0 (by omega)
  have r2 := o2.reck b2 hD h2 q0 (by omega)
  have l1 := o1.low b2 hD p0
  have l2 := o2.low b2 hD q0
  refine ⟨b, p1, la1, lg1, x1, a1, g1, p2, la2, lg2, x2, a2, g2, rfl, b2, b36, w1, r1, w2, r2, OutN_of hD h2 ?_ hx ?_ k⟩
  · exact Int.mul_pos (r1.sizes b2).q0 (r2.sizes b2).q0
  · show RF.low ((RF.low (RF.wT b x1 a1 g1) (RF.wB b a1 g1)).1 * (RF.low (RF.wT b x2 a2 g2) (RF.wB b a2 g2)).2 + (RF.low (RF.wT b x2 a2 g2) (RF.wB b a2 g2)).1 * (RF.low (RF.wT b x1 a1 g1) (RF.wB b a1 g1)).2) ((RF.low (RF.wT b x1 a1 g1) (RF.wB b a1 g1)).2 * (RF.low (RF.wT b x2 a2 g2) (RF.wB b a2 g2)).2) = _
    rw [l1, l2]
    exact RF.low_sum hD
theorem times_over {K : PySem.W.Frag} {mg : Str → Option Value} {b D n m : Int} {H : Hp} {Q : VK} {E : XK} {p la lg : Addr} {x : Int} {a g : List Int} (b2 : 2 ≤ b) (b36 : b ≤ 36) (hD : 0 < D) (h2 : D ≤ 2000) (p0 : 0 ≤ n) (hn : n ≤ 1000000000000 * D) (m0 : 0 ≤ m) (m1 : m ≤ 1000000) (hx : n * m ≤ 1000000000000 * D)
    (o1 : Over b D n x a g) (w1 : WrAt K H p la lg x a g)
    (k : ∀ (w : Int) (a g : List Int) (p la lg : Addr) (H' : Hp), Over b D (n * m) w a g → NewWr H H' p la lg w a g → Q (.ref p) H') : spTimes K mg [.int b, .ref p, .int m] H Q E := by
  have r1 := o1.reck b2 hD h2 p0 hn
  have l1 := o1.low b2 hD p0
  refine ⟨b, p, la, lg, x, a, g, m, rfl, b2, b36, w1, r1, fun _ => OutN_of hD h2 (r1.sizes b2).q0 hx ?_ k, fun z => absurd ⟨m0, m1⟩ z⟩
  show RF.low ((RF.low (RF.wT b x a g) (RF.wB b a g)).1 * m) (RF.low (RF.wT b x a g) (RF.wB b a g)).2 = _
  rw [l1]
  exact RF.low_times hD
theorem over_zero {b D x : Int} {a g : List Int} (hD : 0 < D) (o : Over b D 0 x a g) : x = 0 ∧ a = [] ∧ g = [] := by
  have := o.dv
  rw [RF.low_zero hD] at this
  exact RF.div_whole this
theorem over_self {b D x : Int} {a g : List Int} (hD : 0 < D) (o : Over b D D x a g) : x = 1 ∧ a = [] ∧ g = [] := by
  have := o.dv
  rw [RF.low_self hD] at this
  exact RF.div_whole this
/-- what is due: the word, or the writing -/
inductive DueIs (b T B : Int) (H : Hp) : V → Prop
  | word : Long T B → DueIs b T B H (.str (wordOf 4))
  | wr {p la lg : Addr} {x : Int} {a g : List Int} : ¬ Long T B → RF.DivIs b (RF.low T B).1 (RF.low T B).2 x a g → H p = some (.tup [.int x, .ref la, .ref lg]) → H la = some (.lst (a.map V.int)) → H lg = some (.lst (g.map V.int)) → DueIs b T B H (.ref p)
theorem DueIs.same {b T B : Int} {H H' : Hp} {v : V} (d : DueIs b T B H v) (s : Same H H') : DueIs b T B H' v := by
  cases d with
  | word l => exact .word l
  | wr l d t a g => exact .wr l d (s _ _ t) (s _ _ a) (s _ _ g)
/-- asked again, the same is told -/
def Again (K : PySem.W.Frag) (b x : Int) (a g : List Int) (v : V) (n T B : Int) (H : Hp) : Prop := ∀ (H2 : Hp) (R2 : VK), Same H H2 → (∀ (w : Int) (a g : List Int) (p la lg : Addr) (H' : Hp), RF.DivIs b (RF.low T B).1 (RF.low T B).2 w a g → NewWr H2 H' p la lg w a g → R2 (.ref p) H') → Ask K b x a g v n H2 R2
end My

set_option maxHeartbeats 4000000

/-! the law's own part: the text by places -/
namespace My
open PySem L2
def top (i : Nat) : Stmt := PySem.Challenge.pw_ringfigures_k13_whole_reckoning.main.body.getD i (.Pass ⟨0, 0, 0, 0⟩)
abbrev s_check_base : Stmt := top 15
abbrev s_check_fraction : Stmt := top 16
abbrev s_check_bottom : Stmt := top 17
abbrev s_check_figures : Stmt := top 18
abbrev s_check_writing : Stmt := top 19
abbrev s_check_number : Stmt := top 20
abbrev s_written : Stmt := top 22
abbrev s_divided_out : Stmt := top 23
abbrev s_worth : Stmt := top 24
abbrev s_number_of : Stmt := top 25
abbrev s_power : Stmt := top 26
abbrev s_common_measure : Stmt := top 27
abbrev s_added : Stmt := top 29
abbrev s_times : Stmt := top 30
abbrev s_result_of : Stmt := top 31
abbrev s_law_cell_at : Stmt := top 33
abbrev s_law_whole : Stmt := top 34
abbrev s_law_is_writing : Stmt := top 35
abbrev s_law : Stmt := top 36
structure Txt (K : PySem.W.Frag) (mg : Str → Option Value) : Prop where
  d_check_base : IsDef K mg "check_base" s_check_base ["base"]
  d_check_fraction : IsDef K mg "check_fraction" s_check_fraction ["top", "bottom"]
  d_check_bottom : IsDef K mg "check_bottom" s_check_bottom ["bottom"]
  d_check_figures : IsDef K mg "check_figures" s_check_figures ["base", "figures"]
  d_check_writing : IsDef K mg "check_writing" s_check_writing ["base", "writing"]
  d_check_number : IsDef K mg "check_number" s_check_number ["number"]
  d_written : IsDef K mg "written" s_written ["base", "top", "bottom"]
  d_divided_out : IsDef K mg "divided_out" s_divided_out ["base", "top", "bottom"]
  d_worth : IsDef K mg "worth" s_worth ["base", "writing"]
  d_number_of : IsDef K mg "number_of" s_number_of ["base", "figures"]
  d_power : IsDef K mg "power" s_power ["base", "count"]
  d_common_measure : IsDef K mg "common_measure" s_common_measure ["one", "other"]
  d_added : IsDef K mg "added" s_added ["base", "one", "other"]
  d_times : IsDef K mg "times" s_times ["base", "writing", "number"]
  d_result_of : IsDef K mg "result_of" s_result_of ["base", "top", "bottom"]
  d_law_cell_at : IsDef K mg "_law_cell_at" s_law_cell_at ["script", "k"]
  d_law_whole : IsDef K mg "_law_whole" s_law_whole ["found"]
  d_law_is_writing : IsDef K mg "_law_is_writing" s_law_is_writing ["found", "due"]
  d_law : IsDef K mg "law" s_law ["script"]
  i_GREATEST_BASE : IsInt mg "GREATEST_BASE" 36
  i_GREATEST_BOTTOM : IsInt mg "GREATEST_BOTTOM" 2000
  i_GREATEST_NUMBER : IsInt mg "GREATEST_NUMBER" 1000000
  i_GREATEST_TOP : IsInt mg "GREATEST_TOP" 1000000000000
  i_GREATEST_WHOLE : IsInt mg "GREATEST_WHOLE" 1000000000000
  i_LEAST_BASE : IsInt mg "LEAST_BASE" 2
  i_MOST_FIGURES : IsInt mg "MOST_FIGURES" 4000
  b_bool : mg "bool" = none
  b_int : mg "int" = none
  b_isinstance : mg "isinstance" = none
  b_len : mg "len" = none
  b_list : mg "list" = none
  b_range : mg "range" = none
  b_tuple : mg "tuple" = none
  x_NoNumber : ∃ C, IsExc K mg "NoNumber" C ∧ Ref K mg 3 C
  x_TooLong : ∃ C, IsExc K mg "TooLong" C ∧ Ref K mg 4 C
theorem sc_check_base : FnScope ["base"] ["base"] (defScope s_check_base) := ⟨rfl, rfl, rfl, by decide +kernel, rfl, by decide +kernel, by decide +kernel⟩
theorem sc_check_fraction : FnScope ["top", "bottom"] ["top", "bottom"] (defScope s_check_fraction) := ⟨rfl, rfl, rfl, by decide +kernel, rfl, by decide +kernel, by decide +kernel⟩
theorem sc_check_bottom : FnScope ["bottom"] ["bottom"] (defScope s_check_bottom) := ⟨rfl, rfl, rfl, by decide +kernel, rfl, by decide +kernel, by decide +kernel⟩
theorem sc_check_figures : FnScope ["base", "figures", "figure"] ["base", "figures"] (defScope s_check_figures) := ⟨rfl, rfl, rfl, by decide +kernel, rfl, by decide +kernel, by decide +kernel⟩
theorem sc_check_writing : FnScope ["base", "writing"] ["base", "writing"] (defScope s_check_writing) := ⟨rfl, rfl, rfl, by decide +kernel, rfl, by decide +kernel, by decide +kernel⟩
theorem sc_check_number : FnScope ["number"] ["number"] (defScope s_check_number) := ⟨rfl, rfl, rfl, by decide +kernel, rfl, by decide +kernel, by decide +kernel⟩
theorem sc_written : FnScope ["base", "top", "bottom"] ["base", "top", "bottom"] (defScope s_written) := ⟨rfl, rfl, rfl, by decide +kernel, rfl, by decide +kernel, by decide +kernel⟩
theorem sc_divided_out : FnScope ["base", "top", "bottom", "figures", "place_of_rest", "rest", "start"] ["base", "top", "bottom"] (defScope s_divided_out) := ⟨rfl, rfl, rfl, by decide +kernel, rfl, by decide +kernel, by decide +kernel⟩
theorem sc_worth : FnScope ["base", "writing", "ahead", "ring", "top", "bottom", "round_bottom", "common"] ["base", "writing"] (defScope s_worth) := ⟨rfl, rfl, rfl, by decide +kernel, rfl, by decide +kernel, by decide +kernel⟩
theorem sc_number_of : FnScope ["base", "figures", "number", "figure"] ["base", "figures"] (defScope s_number_of) := ⟨rfl, rfl, rfl, by decide +kernel, rfl, by decide +kernel, by decide +kernel⟩
theorem sc_power : FnScope ["base", "count", "result", "step"] ["base", "count"] (defScope s_power) := ⟨rfl, rfl, rfl, by decide +kernel, rfl, by decide +kernel, by decide +kernel⟩
theorem sc_common_measure : FnScope ["one", "other", "rest"] ["one", "other"] (defScope s_common_measure) := ⟨rfl, rfl, rfl, by decide +kernel, rfl, by decide +kernel, by decide +kernel⟩
theorem sc_added : FnScope ["base", "one", "other", "first", "second", "top"] ["base", "one", "other"] (defScope s_added) := ⟨rfl, rfl, rfl, by decide +kernel, rfl, by decide +kernel, by decide +kernel⟩
theorem sc_times : FnScope ["base", "writing", "number", "value"] ["base", "writing", "number"] (defScope s_times) := ⟨rfl, rfl, rfl, by decide +kernel, rfl, by decide +kernel, by decide +kernel⟩
theorem sc_result_of : FnScope ["base", "top", "bottom", "common"] ["base", "top", "bottom"] (defScope s_result_of) := ⟨rfl, rfl, rfl, by decide +kernel, rfl, by decide +kernel, by decide +kernel⟩
theorem sc_law_cell_at : FnScope ["script", "k"] ["script", "k"] (defScope s_law_cell_at) := ⟨rfl, rfl, rfl, by decide +kernel, rfl, by decide +kernel, by decide +kernel⟩
theorem sc_law_whole : FnScope ["found"] ["found"] (defScope s_law_whole) := ⟨rfl, rfl, rfl, by decide +kernel, rfl, by decide +kernel, by decide +kernel⟩
theorem sc_law_is_writing : FnScope ["found", "due", "side", "figure"] ["found", "due"] (defScope s_law_is_writing) := ⟨rfl, rfl, rfl, by decide +kernel, rfl, by decide +kernel, by decide +kernel⟩
theorem sc_law : FnScope ["script", "base", "bottoms", "tops", "one", "other", "third", "left", "number", "part", "rest"] ["script"] (defScope s_law) := ⟨rfl, rfl, rfl, by decide +kernel, rfl, by decide +kernel, by decide +kernel⟩
seal L2.PE L2.PT L2.PW L2.PA L2.PS L2.PSs L2.PI L2.PG
section
variable {P : Program} {w : World} {K : PySem.W.Frag} {mg : Str → Option Value} {base : Heap}
theorem got_check_base (T : Txt K mg) : Got P w K mg base "check_base" 1 ["base"] spCheckBase := by
  refine T.d_check_base.got sc_check_base (fun vs H Q E h => ?_) (fun f cdv A outer s H vs Q E hr h => ?_)
  · obtain ⟨b, rfl, _⟩ := h; rfl
  · obtain ⟨b, rfl, h2, h36, k⟩ := h
    refine ⟨_, (pss_one (ps_if (PW.pt (pw_or (pt_cmpR op_lt (pv 0) (pe_globI T.i_LEAST_BASE rfl) (nomark _)) (pw_or1 (pt_cmpR op_gt (pv 0) (pe_globI T.i_GREATEST_BASE rfl) (nomark _))))) pss_never pss_nil)), ?_⟩
    refine ⟨_, rfl, _, _, rfl, rfl, _, rfl, iteDF (by omega) ?_⟩
    refine ⟨_, rfl, _, _, rfl, rfl, _, rfl, iteDF (by omega) ?_⟩
    exact k
theorem got_check_bottom (T : Txt K mg) : Got P w K mg base "check_bottom" 1 ["bottom"] spCheckBottom := by
  refine T.d_check_bottom.got sc_check_bottom (fun vs H Q E h => ?_) (fun f cdv A outer s H vs Q E hr h => ?_)
  · obtain ⟨q, rfl, _⟩ := h; rfl
  · obtain ⟨q, rfl, q1, q2, k⟩ := h
    refine ⟨_, (pss_one (ps_if (PW.pt (pw_or (pt_cmpR op_lt (pv 0) pe_int (nomark _)) (pw_or1 (pt_cmpR op_gt (pv 0) (pe_globI T.i_GREATEST_BOTTOM rfl) (nomark _))))) pss_never pss_nil)), ?_⟩
    refine ⟨_, rfl, _, _, rfl, rfl, _, rfl, iteDF (by omega) ?_⟩
    refine ⟨_, rfl, _, _, rfl, rfl, _, rfl, iteDF (by omega) ?_⟩
    exact k
theorem got_check_fraction (T : Txt K mg) : Got P w K mg base "check_fraction" 2 ["top", "bottom"] spCheckFraction := by
  refine T.d_check_fraction.got sc_check_fraction (fun vs H Q E h => ?_) (fun f cdv A outer s H vs Q E hr h => ?_)
  · obtain ⟨b, t, rfl, _⟩ := h; rfl
  · obtain ⟨t, q, rfl, h1, h2, h3, h4, k⟩ := h
    refine ⟨_, (pss_cons (ps_if (PW.pt (pw_or (pt_cmpR op_lt (pv 0) pe_int (nomark _)) (pw_or1 (pt_cmpR op_gt (pv 0) (pe_globI T.i_GREATEST_TOP rfl) (nomark _))))) pss_never pss_nil)
      (pss_one (ps_expr (pe_callG (got_check_bottom T) (hr.mono (by decide)) rfl (pa_n (pv 1) pa_nil))))), ?_⟩
    refine ⟨_, rfl, _, _, rfl, rfl, _, rfl, iteDF (by omega) ?_⟩
    refine ⟨_, rfl, _, _, rfl, rfl, _, rfl, iteDF (by omega) ?_⟩
    exact ⟨_, rfl, q, rfl, h3, h4, k⟩
theorem got_check_figures (T : Txt K mg) : Got P w K mg base "check_figures" 1 ["base", "figures"] (spCheckFigures K) := by
  refine T.d_check_figures.got sc_check_figures (fun vs H Q E h => ?_) (fun f cdv A outer s H vs Q E hr h => ?_)
  · obtain ⟨b, l, ns, rfl, _⟩ := h; rfl
  · obtain ⟨b, l, ns, rfl, hS, hl, hF, k⟩ := h
    refine ⟨_, (pss_cons (ps_if (pt_cmpR op_gt (pe_callB call_len_seq rfl T.b_len PySem.boot_len (pa_n (pv 1) pa_nil)) (pe_globI T.i_MOST_FIGURES rfl) (nomark _)) pss_never pss_nil)
      (pss_one (ps_for PassesOwn.never rfl (pi_list (pv 1)) (pg_name (i := 2) sc_check_figures.nd rfl (Or.inl rfl)) (pss_one (ps_if (PW.pt (pw_or (pt_cmpR op_lt (pv 2) pe_int (nomark _)) (pw_or1 (pt_cmpR op_ge (pv 2) (pv 0) (nomark _))))) pss_never pss_nil))))), ?_⟩
    refine ⟨_, rfl, l, _, rfl, .inl hS, _, _, rfl, rfl, _, rfl, iteDF (by rw [List.length_map]; omega) ?_⟩
    refine ⟨_, rfl, l, rfl, ⟨_, hS⟩, for_list (K := K) (a := l) (xs := ns.map V.int) (fun i σ H2 => ∃ v, σ = [some (.int b), some (.ref l), v] ∧ H2 = H) ⟨_, rfl, rfl⟩ (fun i σ H2 _ ⟨_, _, e⟩ => by rw [e]; exact hS) ?_ ?_⟩
    · rintro i y σ H2 hi ⟨v, rfl, rfl⟩
      obtain ⟨n, rfl, hn⟩ := mem_int hi
      have := hF n (List.mem_of_getElem? hn)
      refine ⟨_, rfl, _, _, rfl, rfl, _, rfl, iteDF (by omega) ?_⟩
      refine ⟨_, rfl, _, rfl, _, _, rfl, rfl, _, rfl, iteDF (by omega) ?_⟩
      exact ⟨_, rfl, rfl⟩
    · rintro σ H2 ⟨v, rfl, rfl⟩
      exact k
theorem got_check_writing (T : Txt K mg) : Got P w K mg base "check_writing" 2 ["base", "writing"] (spCheckWriting K) := by
  refine T.d_check_writing.got sc_check_writing (fun vs H Q E h => ?_) (fun f cdv A outer s H vs Q E hr h => ?_)
  · obtain ⟨b, p, la, lg, x, a, g, rfl, _⟩ := h; rfl
  · obtain ⟨b, p, la, lg, x, a, g, rfl, hW, hG, k⟩ := h
    have w0 := hG.w0
    have w1 := hG.w1
    refine ⟨_, (pss_cons (ps_if (PW.pt (pw_or (pt_cmpR op_lt (pe_ix ix_tup (pv 1) pe_int px_k) pe_int (nomark _)) (pw_or1 (pt_cmpR op_gt (pe_ix ix_tup (pv 1) pe_int px_k) (pe_globI T.i_GREATEST_WHOLE rfl) (nomark _))))) pss_never pss_nil)
      (pss_cons (ps_expr (pe_callG (got_check_figures T) (hr.mono (by decide)) rfl (pa_n (pv 0) (pa_s (pe_ix ix_tup (pv 1) pe_int px_k) pa_nil))))
      (pss_one (ps_expr (pe_callG (got_check_figures T) (hr.mono (by decide)) rfl (pa_n (pv 0) (pa_s (pe_ix ix_tup (pv 1) pe_int px_k) pa_nil))))))), ?_⟩
    refine ⟨_, rfl, p, _, _, _, rfl, rfl, hW.t, rfl, _, _, rfl, rfl, _, rfl, iteDF (by omega) ?_⟩
    refine ⟨_, rfl, p, _, _, _, rfl, rfl, hW.t, rfl, _, _, rfl, rfl, _, rfl, iteDF (by omega) ?_⟩
    refine ⟨_, rfl, _, rfl, p, _, _, _, rfl, rfl, hW.t, rfl, b, la, a, rfl, hW.a, hG.la, hG.fa, ?_⟩
    exact ⟨_, rfl, _, rfl, p, _, _, _, rfl, rfl, hW.t, rfl, b, lg, g, rfl, hW.g, hG.lg, hG.fg, k⟩
theorem gotE_check_number (T : Txt K mg) : GotE P w K mg base "check_number" 1 ["number"] (spCheckNumberE K mg) := by
  obtain ⟨C_NoNumber, X_NoNumber, R_NoNumber⟩ := T.x_NoNumber
  refine T.d_check_number.gotE sc_check_number (fun vs H Q E h => ?_) (fun f cdv A outer s H vs Q E hr h => ?_)
  · obtain ⟨n, rfl, _⟩ := h; rfl
  · obtain ⟨n, rfl, k1, k2⟩ := h
    refine ⟨_, (pss_one (ps_if (PW.pt (pw_or (pt_cmpR op_lt (pv 0) pe_int (nomark _)) (pw_or1 (pt_cmpR op_gt (pv 0) (pe_globI T.i_GREATEST_NUMBER rfl) (nomark _))))) (pss_one (ps_raise X_NoNumber rfl (pa_k pe_str pa_nil))) pss_nil)), ?_⟩
    refine ⟨_, rfl, _, _, rfl, rfl, _, rfl, ite2D (fun h0 => ?_) (fun h0 => ?_)⟩
    · exact iteT ⟨(show 1 ≤ sizeLine by decide), k2 (by omega) _ _ R_NoNumber (Same.refl H)⟩
    refine ⟨_, rfl, _, _, rfl, rfl, _, rfl, ite2D (fun h1 => ?_) (fun h1 => ?_)⟩
    · exact ⟨(show 1 ≤ sizeLine by decide), k2 (by omega) _ _ R_NoNumber (Same.refl H)⟩
    · exact k1 ⟨by omega, by omega⟩
theorem got_divided_out (T : Txt K mg) : Got P w K mg base "divided_out" 1 ["base", "top", "bottom"] spDividedOut := by
  refine T.d_divided_out.got sc_divided_out (fun vs H Q E h => ?_) (fun f cdv A outer s H vs Q E hr h => ?_)
  · obtain ⟨b, t, q, rfl, _⟩ := h; rfl
  · obtain ⟨b, t, q, rfl, b2, b36, t0, q1, q2, k⟩ := h
    have hu := hu_of hr
    refine ⟨_, (pss_cons (ps_set (i := 3) sc_divided_out.nd rfl (Or.inl rfl) (pe_lst pa_nil))
      (pss_cons (ps_set (i := 4) sc_divided_out.nd rfl (Or.inl rfl) pe_dnewK)
      (pss_cons (ps_set (i := 5) sc_divided_out.nd rfl (Or.inl rfl) (pe_op op_mod (pv 1) (pv 2)))
      (pss_cons (ps_while PassesOwn.never (PW.pt (pw_and (pt_cmpR op_ne (pv 5) pe_int (nomark _)) (pw_and1 (pt_cmp (pc_dnotin hu (pv 5) (pv 4)))))) (pss_cons (ps_dput hu (pv 4) (pv 5) (pe_callB call_len_seq rfl T.b_len PySem.boot_len (pa_n (pv 3) pa_nil)) rfl)
      (pss_cons (ps_expr (pe_bm PySem.F.plainAttrs_list PySem.F.slot_list_append PySem.F.type_list_append mt_append (pv 3) (pa_b (pe_op op_fdiv (pe_op op_mul (pv 5) (pv 0)) (pv 2)) pa_nil)))
      (pss_one (ps_set (i := 5) sc_divided_out.nd rfl (Or.inl rfl) (pe_op op_mod (pe_op op_mul (pv 5) (pv 0)) (pv 2)))))))
      (pss_cons (ps_if (pt_cmpR op_eq (pv 5) pe_int (nomark _)) (pss_one (ps_ret (pe_tup (pa_b (pe_op op_fdiv (pv 1) (pv 2)) (pa_n (pv 3) (pa_l (pe_lst pa_nil) pa_nil)))))) pss_nil)
      (pss_cons (ps_set (i := 6) sc_divided_out.nd rfl (Or.inl rfl) (pe_dget hu (pv 4) (pv 5) (fun _ _ => rfl)))
      (pss_one (ps_ret (pe_tup (pa_b (pe_op op_fdiv (pv 1) (pv 2)) (pa_s (pe_slice sl_list (pv 3) po_none (po_some (pv 6))) (pa_s (pe_slice sl_list (pv 3) (po_some (pv 6)) po_none) pa_nil)))))))))))), ?_⟩
    refine ⟨(show 0 ≤ sizeLine by decide), fun lf hf => ?_⟩
    intro d hd
    refine ⟨_, rfl, _, rfl, _, _, rfl, rfl, (show (0 : Int) < q by omega), ?_⟩
    have r0 : 0 ≤ t % q := Int.emod_nonneg _ (by omega)
    have r1 : t % q < q := Int.emod_lt_of_pos _ (by omega)
    have bd := RF.rst_bd (b := b) (r := t % q) (show 0 < q by omega) r0 r1
    have nfd : d ≠ lf := fun e => by rw [e, upd_same] at hd; cases hd
    have hd' : H d = none := by rw [upd_ne nfd] at hd; exact hd
    have inq : ∀ x : Int, (-(2 ^ 64) < x ∧ x < 2 ^ 64) ∨ (-(2 ^ 64) < b ∧ b < 2 ^ 64) := fun x => .inr ⟨by omega, by omega⟩
    refine ⟨fun m σ H' => ∃ n, m + n = q.toNat ∧ RF.Fresh b q (t % q) n ∧ σ = [some (.int b), some (.int t), some (.int q), some (.ref lf), some (.ref d), some (.int (RF.rst b q (t % q) n)), none] ∧
      Same H H' ∧ H' lf = some (.lst ((RF.figs b q (t % q) 0 n).map V.int)) ∧ H' d = some (.dK (seen b q (t % q) n)), ⟨q.toNat, 0, by omega, RF.Fresh.zero, rfl, (Same.upd hf).trans (Same.upd hd), by rw [upd_ne nfd.symm]; exact upd_same, upd_same⟩, ?_⟩
    rintro m σ H' ⟨n, hm, F, rfl, sm, hl, hdd⟩
    have hn := F.lt (show 0 < q by omega) r0 r1
    have nf : H lf = none := hf
    refine ⟨_, rfl, rfl, _, rfl, ite2N (fun hz => ?_) (fun hz => ?_)⟩
    · -- the rest is not nought: is it met
      have hz : RF.rst b q (t % q) n ≠ 0 := fun e => hz (congrArg V.int e)
      refine ⟨_, rfl, _, rfl, d, _, rfl, DGet.k (k := Sum.inl _) hdd, _, rfl, ?_⟩
      rcases seen_or (b := b) (q := q) (r := t % q) (n := n) (RF.rst b q (t % q) n) with hs | ⟨j, hj, ej⟩
      · rw [seen_none hs]
        refine iteT ⟨fun σ' H2 => σ' = [some (.int b), some (.int t), some (.int q), some (.ref lf), some (.ref d), some (.int (RF.rst b q (t % q) (n + 1))), none] ∧
          Same H H2 ∧ H2 lf = some (.lst ((RF.figs b q (t % q) 0 (n + 1)).map V.int)) ∧ H2 d = some (.dK (seen b q (t % q) (n + 1))), ?_, ?_⟩
        · rintro σ' H2 ⟨e, s2, l2, d2⟩
          have F2 := F.succ hz hs
          have hn2 := F2.lt (show 0 < q by omega) r0 r1
          exact ⟨q.toNat - (n + 1), by omega, n + 1, by omega, F2, e, s2, l2, d2⟩
        · have nld : lf ≠ d := ne_of hl hdd (by intro z; cases z)
          have el : (((RF.figs b q (t % q) 0 n).map V.int).length : Int) = (n : Int) := by rw [List.length_map, RF.figs_length]
          refine ⟨_, rfl, lf, _, rfl, .inl (SqL.of hl), _, rfl, _, rfl, d, _, rfl, DPut.k (k := Sum.inl _) hdd (by rw [seen_length]; exact size2000 (by omega)), ?_⟩
          rw [el, seen_put hs]
          refine ⟨_, rfl, .inl ⟨rfl, _, SqL.of (by rw [upd_ne nld]; exact hl)⟩, ?_⟩
          refine ⟨_, rfl, _, rfl, _, _, rfl, rfl, inq _, _, rfl, _, _, rfl, rfl, ⟨by omega, by omega⟩, lf, _, _, rfl, rfl, (by rw [upd_ne nld]; exact hl), (by rw [List.length_map, RF.figs_length]; exact size2000 (by omega)), ?_⟩
          refine ⟨_, rfl, _, rfl, _, _, rfl, rfl, inq _, _, rfl, _, _, rfl, rfl, (show (0 : Int) < q by omega), ?_⟩
          refine ⟨rfl, ?_, ?_, ?_⟩
          · exact (sm.upd2 hd').upd2 nf
          · rw [upd_same, RF.figs_succ, List.map_append, Nat.zero_add]; rfl
          · rw [upd_ne nld.symm]; exact upd_same
      · have hsm := seen_some hj ej F.ne
        have ht : (RF.figs b q (t % q) 0 n).length = n := RF.figs_length
        rw [hsm]
        refine iteF ?_
        have hg : DGet H' d (.int (RF.rst b q (t % q) n)) (some (V.int (j : Int))) := by
          have := DGet.k (k := (Sum.inl (RF.rst b q (t % q) n) : Key)) hdd
          rw [hsm] at this
          exact this
        have dv : RF.DivIs b t q (t / q) ((RF.figs b q (t % q) 0 n).take j) ((RF.figs b q (t % q) 0 n).drop j) :=
          ⟨rfl, n, F, .inr ⟨j, hj, hz, ej, RF.figs_take (by omega), RF.figs_drop⟩⟩
        refine ⟨_, rfl, rfl, _, rfl, iteDF (fun e => hz (V.int.inj e)) ?_⟩
        refine ⟨_, rfl, _, rfl, d, _, rfl, hg, ?_⟩
        refine ⟨_, rfl, _, rfl, _, _, rfl, rfl, ⟨by omega, by omega⟩, ?_⟩
        refine ⟨_, rfl, _, rfl, _, rfl, lf, _, rfl, SqL.of hl, fun la hla => ?_⟩
        have hl2 : upd H' la (.lst (cutV ((RF.figs b q (t % q) 0 n).map V.int) none (some (j : Int)))) lf = some (.lst ((RF.figs b q (t % q) 0 n).map V.int)) := by rw [upd_ne (ne_of_none hl hla)]; exact hl
        refine ⟨_, rfl, _, rfl, _, rfl, lf, _, rfl, SqL.of hl2, fun lg hlg => ⟨(show 3 ≤ sizeLine by decide), fun p hp => ?_⟩⟩
        rw [cut_take (by omega)] at hlg hp ⊢
        rw [cut_drop (by omega)] at hp ⊢
        exact k _ _ _ p la lg _ dv (NewWr.mk2 sm hla hlg hp)
    · have hz : RF.rst b q (t % q) n = 0 := V.int.inj hz
      refine iteF ?_
      refine ⟨_, rfl, rfl, _, rfl, iteDT (congrArg V.int hz) ?_⟩
      refine ⟨_, rfl, _, rfl, _, _, rfl, rfl, ⟨by omega, by omega⟩, _, rfl, (show 0 ≤ sizeLine by decide), fun l2 h2 => ⟨(show 3 ≤ sizeLine by decide), fun p hp => ?_⟩⟩
      exact k (t / q) (RF.figs b q (t % q) 0 n) [] p lf l2 _ ⟨rfl, n, F, .inl ⟨hz, rfl, rfl⟩⟩ (NewWr.mk1 (g := []) sm hl nf h2 hp)
theorem got_written (T : Txt K mg) : Got P w K mg base "written" 3 ["base", "top", "bottom"] spDivided := by
  refine T.d_written.got sc_written (fun vs H Q E h => ?_) (fun f cdv A outer s H vs Q E hr h => ?_)
  · obtain ⟨b, t, q, rfl, _⟩ := h; rfl
  · obtain ⟨b, t, q, rfl, b2, b36, t0, t12, q1, q2, k⟩ := h
    refine ⟨_, (pss_cons (ps_expr (pe_callG (got_check_base T) (hr.mono (by decide)) rfl (pa_n (pv 0) pa_nil)))
      (pss_cons (ps_expr (pe_callG (got_check_fraction T) (hr.mono (by decide)) rfl (pa_n (pv 1) (pa_n (pv 2) pa_nil))))
      (pss_one (ps_ret (pe_callG (got_divided_out T) (hr.mono (by decide)) rfl (pa_n (pv 0) (pa_n (pv 1) (pa_n (pv 2) pa_nil)))))))), ?_⟩
    refine ⟨_, rfl, b, rfl, b2, b36, ?_⟩
    refine ⟨_, rfl, _, rfl, t, q, rfl, t0, t12, q1, q2, ?_⟩
    exact ⟨_, rfl, _, rfl, _, rfl, b, t, q, rfl, b2, b36, t0, q1, q2, k⟩
theorem got_number_of (T : Txt K mg) : Got P w K mg base "number_of" 1 ["base", "figures"] (spNumberOf K) := by
  refine T.d_number_of.got sc_number_of (fun vs H Q E h => ?_) (fun f cdv A outer s H vs Q E hr h => ?_)
  · obtain ⟨b, l, ns, rfl, _⟩ := h; rfl
  · obtain ⟨b, l, ns, rfl, hS, b2, b36, k⟩ := h
    refine ⟨_, (pss_cons (ps_set (i := 2) sc_number_of.nd rfl (Or.inl rfl) pe_int)
      (pss_cons (ps_for PassesOwn.never rfl (pi_list (pv 1)) (pg_name (i := 3) sc_number_of.nd rfl (Or.inl rfl)) (pss_one (ps_set (i := 2) sc_number_of.nd rfl (Or.inl rfl) (pe_op op_add (pe_op op_mul (pv 2) (pv 0)) (pv 3)))))
      (pss_one (ps_ret (pv 2))))), ?_⟩
    refine ⟨_, rfl, l, rfl, ⟨_, hS⟩, for_list (K := K) (a := l) (xs := ns.map V.int) (fun i σ H2 => ∃ v, σ = [some (.int b), some (.ref l), some (.int (RF.num b (ns.take i))), v] ∧ H2 = H) ⟨_, rfl, rfl⟩ (fun i σ H2 _ ⟨_, _, e⟩ => by rw [e]; exact hS) ?_ ?_⟩
    · rintro i y σ H2 hi ⟨v, rfl, rfl⟩
      obtain ⟨n, rfl, hn⟩ := mem_int hi
      refine ⟨_, rfl, _, rfl, _, _, rfl, rfl, .inr ⟨by omega, by omega⟩, _, rfl, _, _, rfl, rfl, ?_⟩
      exact ⟨_, by rw [RF.num_take_succ hn]; rfl, rfl⟩
    · rintro σ H2 ⟨v, rfl, rfl⟩
      refine ⟨_, rfl, ?_⟩
      rw [List.length_map, List.take_length]
      exact k
theorem got_power (T : Txt K mg) : Got P w K mg base "power" 1 ["base", "count"] spPower := by
  refine T.d_power.got sc_power (fun vs H Q E h => ?_) (fun f cdv A outer s H vs Q E hr h => ?_)
  · obtain ⟨b, n, rfl, _⟩ := h; rfl
  · obtain ⟨b, n, rfl, b2, b36, n0, n1, k⟩ := h
    refine ⟨_, (pss_cons (ps_set (i := 2) sc_power.nd rfl (Or.inl rfl) pe_int)
      (pss_cons (ps_for PassesOwn.never rfl (pi_range1 rfl T.b_range (pa_n (pv 1) pa_nil)) (pg_name (i := 3) sc_power.nd rfl (Or.inl rfl)) (pss_one (ps_set (i := 2) sc_power.nd rfl (Or.inl rfl) (pe_op op_mul (pv 2) (pv 0)))))
      (pss_one (ps_ret (pv 2))))), ?_⟩
    refine ⟨_, rfl, n, rfl, by omega, by omega, for_range (lo := 0) (n := n.toNat) (fun i σ H2 => ∃ v, σ = [some (.int b), some (.int n), some (.int (b ^ i)), v] ∧ H2 = H) ⟨_, by rw [Int.pow_zero]; rfl, rfl⟩ ?_ ?_⟩
    · rintro i σ H2 hi ⟨v, rfl, rfl⟩
      refine ⟨_, rfl, _, rfl, _, _, rfl, rfl, .inr ⟨by omega, by omega⟩, ?_⟩
      exact ⟨_, by rw [Int.pow_succ]; rfl, rfl⟩
    · rintro σ H2 ⟨v, rfl, rfl⟩
      exact ⟨_, rfl, k⟩
theorem got_common_measure (T : Txt K mg) : Got P w K mg base "common_measure" 1 ["one", "other"] spCommon := by
  refine T.d_common_measure.got sc_common_measure (fun vs H Q E h => ?_) (fun f cdv A outer s H vs Q E hr h => ?_)
  · obtain ⟨x, y, rfl, _⟩ := h; rfl
  · obtain ⟨x, y, rfl, x0, y0, k⟩ := h
    refine ⟨_, (pss_cons (ps_while PassesOwn.never (pt_cmpR op_ne (pv 1) pe_int (nomark _)) (pss_cons (ps_set (i := 2) sc_common_measure.nd rfl (Or.inl rfl) (pe_op op_mod (pv 0) (pv 1)))
      (pss_cons (ps_set (i := 0) sc_common_measure.nd rfl (Or.inl rfl) (pv 1))
      (pss_one (ps_set (i := 1) sc_common_measure.nd rfl (Or.inl rfl) (pv 2))))))
      (pss_one (ps_ret (pv 0)))), ?_⟩
    refine ⟨fun m σ H2 => ∃ (x' y' : Int) (v : Option V), m = y'.toNat ∧ 0 ≤ x' ∧ 0 ≤ y' ∧ Int.gcd x' y' = Int.gcd x y ∧ σ = [some (.int x'), some (.int y'), v] ∧ H2 = H, ⟨_, x, y, _, rfl, x0, y0, rfl, rfl, rfl⟩, ?_⟩
    rintro m σ H2 ⟨x', y', v, rfl, x0', y0', e, rfl, rfl⟩
    refine ⟨_, rfl, rfl, _, rfl, ite2N (fun hz => ?_) (fun hz => ?_)⟩
    · have hy : 0 < y' := by
        have : y' ≠ 0 := fun e => hz (congrArg V.int e)
        omega
      refine ⟨fun σ' H3 => σ' = [some (.int y'), some (.int (x' % y')), some (.int (x' % y'))] ∧ H3 = H2, ?_, ?_⟩
      · rintro σ' H3 ⟨rfl, rfl⟩
        have h1 := Int.emod_nonneg x' (show y' ≠ 0 by omega)
        have h2 := Int.emod_lt_of_pos x' hy
        exact ⟨_, by omega, y', x' % y', _, rfl, by omega, h1, by rw [RF.gcd_step]; exact e, rfl, rfl⟩
      · refine ⟨_, rfl, _, rfl, _, _, rfl, rfl, hy, ?_⟩
        exact ⟨_, rfl, _, rfl, rfl, rfl⟩
    · have hy : y' = 0 := by exact V.int.inj hz
      subst hy
      refine ⟨_, rfl, ?_⟩
      have e2 : ((Int.gcd x y : Nat) : Int) = x' := by
        rw [← e, Int.gcd_zero_right]
        omega
      rw [e2] at k
      exact k
theorem got_worth (T : Txt K mg) : Got P w K mg base "worth" 3 ["base", "writing"] (spWorth K) := by
  refine T.d_worth.got sc_worth (fun vs H Q E h => ?_) (fun f cdv A outer s H vs Q E hr h => ?_)
  · obtain ⟨b, p, la, lg, x, a, g, rfl, _⟩ := h; rfl
  · obtain ⟨b, p, la, lg, x, a, g, rfl, b2, b36, hW, hG, hd, k⟩ := h
    have hB := RF.wB_pos b2 a g
    have hN := RF.wN_bd b2 hG.fa hG.fg
    have hle := RF.wB_le b2 b36 a g
    have hla := hG.la
    have hlg := hG.lg
    have g0 : 0 < Int.gcd (RF.num b a * RF.rM b g + RF.num b g) (RF.wB b a g) := Int.gcd_pos_of_ne_zero_right _ (by omega)
    have hlow := RF.low_add (W := x) (N := RF.num b a * RF.rM b g + RF.num b g) hB
    have mx : ∀ y : Int, y.natAbs ≤ (RF.wB b a g).natAbs → IntMulOk x y := fun y hy =>
      mulOk_worth (a := a) (g := g) (n := 64) b2 b36 hla hlg (show x.natAbs ≤ 2 ^ 64 by have := hG.w0; have := hG.w1; omega) (by omega) y (Nat.le_trans hy hle)
    have dB : (RF.wB b a g / (Int.gcd (RF.num b a * RF.rM b g + RF.num b g) (RF.wB b a g) : Nat)).natAbs ≤ (RF.wB b a g).natAbs := by
      have h1 := Int.ediv_le_self (b := (Int.gcd (RF.num b a * RF.rM b g + RF.num b g) (RF.wB b a g) : Nat)) (Int.le_of_lt hB)
      have h2 := Int.ediv_nonneg (b := (Int.gcd (RF.num b a * RF.rM b g + RF.num b g) (RF.wB b a g) : Nat)) (Int.le_of_lt hB) (by omega)
      omega
    refine ⟨_, (pss_cons (ps_expr (pe_callG (got_check_base T) (hr.mono (by decide)) rfl (pa_n (pv 0) pa_nil)))
      (pss_cons (ps_expr (pe_callG (got_check_writing T) (hr.mono (by decide)) rfl (pa_n (pv 0) (pa_n (pv 1) pa_nil))))
      (pss_cons (ps_set (i := 2) sc_worth.nd rfl (Or.inl rfl) (pe_ix ix_tup (pv 1) pe_int px_k))
      (pss_cons (ps_set (i := 3) sc_worth.nd rfl (Or.inl rfl) (pe_ix ix_tup (pv 1) pe_int px_k))
      (pss_cons (ps_set (i := 4) sc_worth.nd rfl (Or.inl rfl) (pe_callG (got_number_of T) (hr.mono (by decide)) rfl (pa_n (pv 0) (pa_n (pv 2) pa_nil))))
      (pss_cons (ps_set (i := 5) sc_worth.nd rfl (Or.inl rfl) (pe_callG (got_power T) (hr.mono (by decide)) rfl (pa_n (pv 0) (pa_c (pe_callB call_len_seq rfl T.b_len PySem.boot_len (pa_n (pv 2) pa_nil)) pa_nil))))
      (pss_cons (ps_if (pt_cmpR (op_neL hr.units) (pv 3) (pe_lst pa_nil) (nomark _)) (pss_cons (ps_set (i := 6) sc_worth.nd rfl (Or.inl rfl) (pe_op op_sub (pe_callG (got_power T) (hr.mono (by decide)) rfl (pa_n (pv 0) (pa_c (pe_callB call_len_seq rfl T.b_len PySem.boot_len (pa_n (pv 3) pa_nil)) pa_nil))) pe_int))
      (pss_cons (ps_set (i := 4) sc_worth.nd rfl (Or.inl rfl) (pe_op op_add (pe_op op_mulB (pv 4) (pv 6)) (pe_callG (got_number_of T) (hr.mono (by decide)) rfl (pa_n (pv 0) (pa_n (pv 3) pa_nil)))))
      (pss_one (ps_set (i := 5) sc_worth.nd rfl (Or.inl rfl) (pe_op op_mulB (pv 5) (pv 6)))))) pss_nil)
      (pss_cons (ps_set (i := 7) sc_worth.nd rfl (Or.inl rfl) (pe_callG (got_common_measure T) (hr.mono (by decide)) rfl (pa_n (pv 4) (pa_n (pv 5) pa_nil))))
      (pss_one (ps_ret (pe_tup (pa_b (pe_op op_add (pe_op op_mulB (pe_ix ix_tup (pv 1) pe_int px_k) (pe_op op_fdivB (pv 5) (pv 7))) (pe_op op_fdivB (pv 4) (pv 7))) (pa_b (pe_op op_fdivB (pv 5) (pv 7)) pa_nil))))))))))))), ?_⟩
    refine ⟨_, rfl, b, rfl, b2, b36, ?_⟩
    refine ⟨_, rfl, _, rfl, b, p, la, lg, x, a, g, rfl, hW, hG, ?_⟩
    refine ⟨_, rfl, p, _, _, _, rfl, rfl, hW.t, rfl, ?_⟩
    refine ⟨_, rfl, p, _, _, _, rfl, rfl, hW.t, rfl, ?_⟩
    refine ⟨_, rfl, _, rfl, b, la, a, rfl, hW.a, b2, b36, ?_⟩
    refine ⟨_, rfl, _, rfl, la, _, rfl, .inl hW.a, b, _, rfl, b2, b36, by omega, by rw [List.length_map]; omega, ?_⟩
    rw [List.length_map, Int.toNat_natCast]
    refine ⟨_, rfl, (show 0 ≤ sizeLine by decide), fun l hl => ⟨lg, l, g, [], rfl, rfl, (Same.upd hl).seq hW.g, SqL.of upd_same, _, rfl, ite2N (fun hne => ?_) (fun he => ?_)⟩⟩
    · have s1 := Same.upd (o := .lst []) hl
      have hg' := s1.seq hW.g
      have eM := RF.rM_ne b hne
      refine ⟨_, rfl, _, rfl, lg, _, rfl, .inl hg', b, _, rfl, b2, b36, by omega, by rw [List.length_map]; omega, ?_⟩
      rw [List.length_map, Int.toNat_natCast]
      refine ⟨_, _, rfl, rfl, ?_⟩
      dsimp only
      rw [← eM]
      have mM : (RF.rM b g).natAbs ≤ 2 ^ (6 * (a.length + g.length)) := by
        have h1 := RF.rM_le b2 g
        have h2 := RF.rM_pos b2 g
        have h3 := RF.pow_lt (b := b) (by omega) b36 g.length
        exact Nat.le_trans (show (RF.rM b g).natAbs ≤ (b ^ g.length).natAbs by omega) (Nat.le_trans h3 (Nat.pow_le_pow_right (by decide) (by omega)))
      have mA : (b ^ a.length).natAbs ≤ 2 ^ (6 * a.length) := RF.pow_lt (by omega) b36 _
      have mN : (RF.num b a).natAbs ≤ 2 ^ (6 * a.length) := by
        have := RF.num_bd (b := b) (by omega) hG.fa
        omega
      refine ⟨_, rfl, _, rfl, _, _, rfl, rfl, mulOk_worth (a := a) (g := g) b2 b36 hla hlg mN (by omega) _ mM, _, rfl, _, rfl, b, lg, g, rfl, hg', b2, b36, _, _, rfl, rfl, ?_⟩
      refine ⟨_, rfl, _, rfl, _, _, rfl, rfl, mulOk_worth (a := a) (g := g) b2 b36 hla hlg mA (by omega) _ mM, ?_⟩
      have eB : b ^ a.length * RF.rM b g = RF.wB b a g := rfl
      dsimp only
      rw [eB]
      refine ⟨_, rfl, _, rfl, _, _, rfl, hN.1, Int.le_of_lt hB, ?_⟩
      refine ⟨_, rfl, p, _, _, _, rfl, rfl, s1.tup hW.t, rfl, _, rfl, _, rfl, _, _, rfl, rfl, ⟨by omega, hd.1⟩, _, _, rfl, rfl, mx _ dB, _, rfl, _, rfl, _, _, rfl, rfl, ⟨by omega, hd.2⟩, _, _, rfl, rfl, _, rfl, _, rfl, _, _, rfl, rfl, ⟨by omega, hd.1⟩, (show 2 ≤ sizeLine by decide), fun p' hp' => ?_⟩
      exact k p' _ (s1.trans (Same.upd hp')) (s1.free hp') (by rw [upd_same, show RF.wT b x a g = x * RF.wB b a g + (RF.num b a * RF.rM b g + RF.num b g) from rfl, hlow])
    · have s1 := Same.upd (o := .lst []) hl
      have eB : b ^ a.length = RF.wB b a g := by rw [he]; simp [RF.wB, RF.rM]
      have eN : RF.num b a = RF.num b a * RF.rM b g + RF.num b g := by rw [he]; simp [RF.rM, RF.num_nil]
      rw [eB, eN]
      refine ⟨_, rfl, _, rfl, _, _, rfl, hN.1, Int.le_of_lt hB, ?_⟩
      refine ⟨_, rfl, p, _, _, _, rfl, rfl, s1.tup hW.t, rfl, _, rfl, _, rfl, _, _, rfl, rfl, ⟨by omega, hd.1⟩, _, _, rfl, rfl, mx _ dB, _, rfl, _, rfl, _, _, rfl, rfl, ⟨by omega, hd.2⟩, _, _, rfl, rfl, _, rfl, _, rfl, _, _, rfl, rfl, ⟨by omega, hd.1⟩, (show 2 ≤ sizeLine by decide), fun p' hp' => ?_⟩
      exact k p' _ (s1.trans (Same.upd hp')) (s1.free hp') (by rw [upd_same, show RF.wT b x a g = x * RF.wB b a g + (RF.num b a * RF.rM b g + RF.num b g) from rfl, hlow])
theorem gotE_result_of (T : Txt K mg) : GotE P w K mg base "result_of" 2 ["base", "top", "bottom"] (spResultOf K mg) := by
  obtain ⟨C_TooLong, X_TooLong, R_TooLong⟩ := T.x_TooLong
  refine T.d_result_of.gotE sc_result_of (fun vs H Q E h => ?_) (fun f cdv A outer s H vs Q E hr h => ?_)
  · obtain ⟨b, t, q, rfl, _⟩ := h; rfl
  · obtain ⟨b, t, q, rfl, b2, b36, t0, q0, qs, o1, o2⟩ := h
    have g0 : 0 < Int.gcd t q := Int.gcd_pos_of_ne_zero_right _ (by omega)
    have gl : Int.gcd t q ≤ q.natAbs := Nat.le_of_dvd (by omega) (Int.gcd_dvd_natAbs_right _ _)
    have np : ∀ x y : Int, 0 < y → y.natAbs ≤ q.natAbs → CDivB x y := fun x y y0 h => ⟨y0, PyProof.noPylong_of_log2 ((Nat.log2_lt (by omega)).mpr (Nat.lt_of_le_of_lt h (Nat.lt_trans qs (Nat.pow_lt_pow_right (by decide) (by decide)))))⟩
    have npg : ∀ x : Int, CDivB x ((Int.gcd t q : Nat) : Int) := fun x => np x _ (by omega) (by rw [Int.natAbs_natCast]; exact gl)
    refine ⟨_, (pss_cons (ps_if (pt_cmpR op_gt (pe_op op_fdivB (pv 1) (pv 2)) (pe_globI T.i_GREATEST_WHOLE rfl) (nomark _)) (pss_one (ps_raise X_TooLong rfl (pa_k pe_str pa_nil))) pss_nil)
      (pss_cons (ps_set (i := 3) sc_result_of.nd rfl (Or.inl rfl) (pe_callG (got_common_measure T) (hr.mono (by decide)) rfl (pa_n (pv 1) (pa_n (pv 2) pa_nil))))
      (pss_cons (ps_if (pt_cmpR op_gt (pe_op op_fdivB (pv 2) (pv 3)) (pe_globI T.i_GREATEST_BOTTOM rfl) (nomark _)) (pss_one (ps_raise X_TooLong rfl (pa_k pe_str pa_nil))) pss_nil)
      (pss_one (ps_ret (pe_callG (got_divided_out T) (hr.mono (by decide)) rfl (pa_n (pv 0) (pa_b (pe_op op_fdivB (pv 1) (pv 3)) (pa_b (pe_op op_fdivB (pv 2) (pv 3)) pa_nil))))))))), ?_⟩
    refine ⟨_, rfl, _, rfl, _, _, rfl, rfl, np t q q0 (Nat.le_refl _), _, _, rfl, rfl, _, rfl, ite2D (fun h1 => ?_) (fun h1 => ?_)⟩
    · exact ⟨(show 1 ≤ sizeLine by decide), o1 (.inl h1) _ _ R_TooLong (Same.refl H)⟩
    refine ⟨_, rfl, _, rfl, _, _, rfl, t0, Int.le_of_lt q0, ?_⟩
    refine ⟨_, rfl, _, rfl, _, _, rfl, rfl, npg _, _, _, rfl, rfl, _, rfl, ite2D (fun h2 => ?_) (fun h2 => ?_)⟩
    · exact ⟨(show 1 ≤ sizeLine by decide), o1 (.inr h2) _ _ R_TooLong (Same.refl H)⟩
    have l0 := RF.low_pos (T := t) q0
    have l1 : ¬ 2000 < (RF.low t q).2 := h2
    refine ⟨_, rfl, _, rfl, _, rfl, _, _, rfl, rfl, npg _, _, rfl, _, rfl, _, _, rfl, rfl, npg _, b, (RF.low t q).1, (RF.low t q).2, rfl, b2, b36, low_nonneg t0, by omega, by omega, ?_⟩
    exact o2 (fun z => z.elim h1 h2)
theorem gotE_added (T : Txt K mg) : GotE P w K mg base "added" 4 ["base", "one", "other"] (spAdded K mg) := by
  refine T.d_added.gotE sc_added (fun vs H Q E h => ?_) (fun f cdv A outer s H vs Q E hr h => ?_)
  · obtain ⟨b, p1, la1, lg1, x1, a1, g1, p2, la2, lg2, x2, a2, g2, rfl, _⟩ := h; rfl
  · obtain ⟨b, p1, la1, lg1, x1, a1, g1, p2, la2, lg2, x2, a2, g2, rfl, b2, b36, w1, k1, w2, k2, o⟩ := h
    have z1 := k1.sizes b2
    have z2 := k2.sizes b2
    refine ⟨_, (pss_cons (ps_set (i := 3) sc_added.nd rfl (Or.inl rfl) (pe_callG (got_worth T) (hr.mono (by decide)) rfl (pa_n (pv 0) (pa_n (pv 1) pa_nil))))
      (pss_cons (ps_set (i := 4) sc_added.nd rfl (Or.inl rfl) (pe_callG (got_worth T) (hr.mono (by decide)) rfl (pa_n (pv 0) (pa_n (pv 2) pa_nil))))
      (pss_cons (ps_set (i := 5) sc_added.nd rfl (Or.inl rfl) (pe_op op_add (pe_op op_mulB (pe_ix ix_tup (pv 3) pe_int px_k) (pe_ix ix_tup (pv 4) pe_int px_k)) (pe_op op_mulB (pe_ix ix_tup (pv 4) pe_int px_k) (pe_ix ix_tup (pv 3) pe_int px_k))))
      (pss_one (ps_ret (pe_callE (gotE_result_of T) (hr.mono (by decide)) rfl (pa_n (pv 0) (pa_n (pv 5) (pa_b (pe_op op_mulB (pe_ix ix_tup (pv 3) pe_int px_k) (pe_ix ix_tup (pv 4) pe_int px_k)) pa_nil))))))))), ?_⟩
    refine ⟨_, rfl, _, rfl, b, p1, la1, lg1, x1, a1, g1, rfl, b2, b36, w1, k1.gw, k1.dv, fun r1 H1 s1 n1 e1 => ?_⟩
    refine ⟨_, rfl, _, rfl, b, p2, la2, lg2, x2, a2, g2, rfl, b2, b36, s1.wr w2, k2.gw, k2.dv, fun r2 H2 s2 n2 e2 => ?_⟩
    have e1' := s2 _ _ e1
    refine ⟨_, rfl, r1, _, _, _, rfl, rfl, SqT.of e1', rfl, _, rfl, r2, _, _, _, rfl, rfl, SqT.of e2, rfl, _, _, rfl, rfl, mulOk_of z1.ts z2.qs (by decide), ?_⟩
    refine ⟨_, rfl, r2, _, _, _, rfl, rfl, SqT.of e2, rfl, _, rfl, r1, _, _, _, rfl, rfl, SqT.of e1', rfl, _, _, rfl, rfl, mulOk_of z2.ts z1.qs (by decide), _, _, rfl, rfl, ?_⟩
    refine ⟨_, rfl, _, rfl, _, rfl, r1, _, _, _, rfl, rfl, SqT.of e1', rfl, _, rfl, r2, _, _, _, rfl, rfl, SqT.of e2, rfl, _, _, rfl, rfl, mulOk_of z1.qs z2.qs (by decide), b, _, _, rfl, b2, b36, ?_, Int.mul_pos z1.q0 z2.q0, ?_, o.up (s1.trans s2)⟩
    · have h1 := Int.mul_nonneg z1.t0 (Int.le_of_lt z2.q0)
      have h2 := Int.mul_nonneg z2.t0 (Int.le_of_lt z1.q0)
      exact Int.add_nonneg h1 h2
    · rw [Int.natAbs_mul]
      have := Nat.mul_lt_mul_of_lt_of_lt z1.qs z2.qs
      rw [← Nat.pow_add] at this
      exact Nat.lt_trans this (Nat.pow_lt_pow_right (by decide) (by decide))
theorem gotE_times (T : Txt K mg) : GotE P w K mg base "times" 4 ["base", "writing", "number"] (spTimes K mg) := by
  refine T.d_times.gotE sc_times (fun vs H Q E h => ?_) (fun f cdv A outer s H vs Q E hr h => ?_)
  · obtain ⟨b, p, la, lg, x, a, g, n, rfl, _⟩ := h; rfl
  · obtain ⟨b, p, la, lg, x, a, g, n, rfl, b2, b36, w1, k1, o1, o2⟩ := h
    have z1 := k1.sizes b2
    refine ⟨_, (pss_cons (ps_set (i := 3) sc_times.nd rfl (Or.inl rfl) (pe_callG (got_worth T) (hr.mono (by decide)) rfl (pa_n (pv 0) (pa_n (pv 1) pa_nil))))
      (pss_cons (ps_expr (pe_callE (gotE_check_number T) (hr.mono (by decide)) rfl (pa_n (pv 2) pa_nil)))
      (pss_one (ps_ret (pe_callE (gotE_result_of T) (hr.mono (by decide)) rfl (pa_n (pv 0) (pa_b (pe_op op_mulB (pe_ix ix_tup (pv 3) pe_int px_k) (pv 2)) (pa_s (pe_ix ix_tup (pv 3) pe_int px_k) pa_nil)))))))), ?_⟩
    refine ⟨_, rfl, _, rfl, b, p, la, lg, x, a, g, rfl, b2, b36, w1, k1.gw, k1.dv, fun r1 H1 s1 n1 e1 => ?_⟩
    refine ⟨_, rfl, n, rfl, fun hn => ?_, fun hn => (o2 hn).up s1⟩
    have hn1 := hn.1
    have hn2 := hn.2
    refine ⟨_, rfl, _, rfl, r1, _, _, _, rfl, rfl, SqT.of e1, rfl, _, rfl, _, _, rfl, rfl, mulOk_of (n := 64) z1.ts (show n.natAbs < 2 ^ 64 by omega) (by decide), _, rfl, r1, _, _, _, rfl, rfl, SqT.of e1, rfl, b, _, _, rfl, b2, b36, Int.mul_nonneg z1.t0 hn1, z1.q0, Nat.lt_trans z1.qs (Nat.pow_lt_pow_right (by decide) (by decide)), (o1 hn).up s1⟩
theorem got_law_cell_at (T : Txt K mg) : Got P w K mg base "_law_cell_at" 1 ["script", "k"] (spCell K) := by
  refine T.d_law_cell_at.got sc_law_cell_at (fun vs H Q E h => ?_) (fun f cdv A outer s H vs Q E hr h => ?_)
  · obtain ⟨a, ns, k, rfl, _⟩ := h; rfl
  · obtain ⟨a, ns, i, rfl, hS, h0, k⟩ := h
    refine ⟨_, (pss_cons (ps_if (pt_cmpR op_lt (pv 1) (pe_callB call_len_seq rfl T.b_len PySem.boot_len (pa_n (pv 0) pa_nil)) (nomark _)) (pss_one (ps_ret (pe_ix ix_list (pv 0) (pv 1) px_n))) pss_nil)
      (pss_one (ps_ret pe_int))), ?_⟩
    refine ⟨_, rfl, _, rfl, a, _, rfl, .inl hS, _, _, rfl, rfl, _, rfl, ite2D (fun hk => ?_) (fun hk => ?_)⟩
    · rw [List.length_map] at hk
      exact ⟨_, rfl, _, rfl, a, _, _, _, rfl, rfl, hS, atI_int h0 hk, k _ rfl⟩
    · rw [List.length_map] at hk
      exact k 0 (getD_out hk).symm
theorem got_law_whole (T : Txt K mg) : Got P w K mg base "_law_whole" 1 ["found"] spWhole := by
  refine T.d_law_whole.got sc_law_whole (fun vs H Q E h => ?_) (fun f cdv A outer s H vs Q E hr h => ?_)
  · obtain ⟨i, rfl, _⟩ := h; rfl
  · obtain ⟨i, rfl, k⟩ := h
    refine ⟨_, (pss_one (ps_ret (pe_and (pe_callB call_isi rfl T.b_isinstance PyProof.Rows.boot_isinstance (pa_n (pv 0) (pa_n (pe_bltn (v := .ty "int") rfl T.b_int PyProof.Rows.boot_int rfl) pa_nil))) (pe_one (pe_not (pe_callB call_isi rfl T.b_isinstance PyProof.Rows.boot_isinstance (pa_n (pv 0) (pa_n (pe_bltn (v := .ty "bool") rfl T.b_bool PyProof.Rows.boot_bool rfl) pa_nil)))))))), ?_⟩
    refine ⟨_, rfl, _, _, _, _, rfl, .int i, kit_self _ rfl, _, rfl, iteT ?_⟩
    exact ⟨_, rfl, _, _, _, _, rfl, .int i, kit_int_bool, _, rfl, k⟩
theorem got_law_is_writing (T : Txt K mg) : Got P w K mg base "_law_is_writing" 2 ["found", "due"] (spIsWriting K) := by
  refine T.d_law_is_writing.got sc_law_is_writing (fun vs H Q E h => ?_) (fun f cdv A outer s H vs Q E hr h => ?_)
  · obtain ⟨p, la, lg, x, a, g, p', la', lg', x', a', g', rfl, _⟩ := h; rfl
  · obtain ⟨p, la, lg, x, a, g, p', la', lg', x', a', g', rfl, ht, ha, hg, hW, k⟩ := h
    have hT : SqT K H p [.int x, .ref la, .ref lg] := .of ht
    refine ⟨_, (pss_cons (ps_if (PW.pt (pw_or (pt_not (pt_val (pe_callB call_isi rfl T.b_isinstance PyProof.Rows.boot_isinstance (pa_n (pv 0) (pa_n (pe_bltn (v := .ty "tuple") rfl T.b_tuple PyProof.Rows.boot_tuple rfl) pa_nil))))) (pw_or (pt_cmpR op_ne (pe_callB call_len_seq rfl T.b_len PySem.boot_len (pa_n (pv 0) pa_nil)) pe_int (nomark _)) (pw_or1 (pt_not (pt_val (pe_callG (got_law_whole T) (hr.mono (by decide)) rfl (pa_s (pe_ix ix_tup (pv 0) pe_int px_k) pa_nil)))))))) (pss_one (ps_ret pe_bl)) pss_nil)
      (pss_cons (ps_for PassesOwn.never rfl (pi_tup (pe_tup (pa_k pe_int (pa_k pe_int pa_nil)))) (pg_name (i := 2) sc_law_is_writing.nd rfl (Or.inl rfl)) (pss_cons (ps_if (pt_not (pt_val (pe_callB call_isi rfl T.b_isinstance PyProof.Rows.boot_isinstance (pa_s (pe_ix ix_tup (pv 0) (pv 2) px_n) (pa_n (pe_bltn (v := .ty "list") rfl T.b_list PyProof.Rows.boot_list rfl) pa_nil))))) (pss_one (ps_ret pe_bl)) pss_nil)
      (pss_one (ps_for PassesOwn.never rfl (pi_list (pe_ix ix_tup (pv 0) (pv 2) px_n)) (pg_name (i := 3) sc_law_is_writing.nd rfl (Or.inl rfl)) (pss_one (ps_if (pt_not (pt_val (pe_callG (got_law_whole T) (hr.mono (by decide)) rfl (pa_n (pv 3) pa_nil)))) (pss_one (ps_ret pe_bl)) pss_nil))))))
      (pss_one (ps_ret (pe_cmpR (op_eqW hr.units) (pv 0) (pv 1) (nomark _)))))), ?_⟩
    refine ⟨_, rfl, _, _, _, _, rfl, .tup ht, kit_self _ rfl, _, rfl, iteF ?_⟩
    refine ⟨_, rfl, p, _, rfl, .inr hT, rfl, _, rfl, iteNDF rfl ?_⟩
    refine ⟨_, rfl, p, _, _, _, rfl, rfl, hT, rfl, x, rfl, _, rfl, iteF ?_⟩
    refine ⟨(show 2 ≤ sizeLine by decide), fun lt hlt => ⟨lt, rfl, ⟨_, SqT.of upd_same⟩, ?_⟩⟩
    have s1 : Same H (upd H lt (.tup [.int 1, .int 2])) := Same.upd hlt
    refine for_tup (K := K) (a := lt) (xs := [.int 1, .int 2]) (fun i σ H2 => ∃ v3 v4, σ = [some (.ref p), some (.ref p'), v3, v4] ∧ Same (upd H lt (.tup [.int 1, .int 2])) H2) ⟨_, _, rfl, Same.refl _⟩ (fun i σ H2 _ ⟨_, _, _, s2⟩ => s2.tup (SqT.of upd_same)) ?_ ?_
    · rintro i y σ H2 hi ⟨v3, v4, rfl, s2⟩
      have s3 : Same H H2 := s1.trans s2
      have hT2 := s3.tup hT
      obtain ⟨l, z, j, rfl, ej, hl⟩ : ∃ (l : Addr) (z : List Int) (j : Int), y = .int j ∧ atI [V.int x, V.ref la, V.ref lg] j = some (.ref l) ∧ H2 l = some (.lst (z.map V.int)) := by
        match i, hi with
        | 0, hi => exact ⟨la, a, 1, (Option.some.inj hi).symm, rfl, s3 _ _ ha⟩
        | 1, hi => exact ⟨lg, g, 2, (Option.some.inj hi).symm, rfl, s3 _ _ hg⟩
      refine ⟨_, rfl, _, rfl, p, _, _, _, rfl, rfl, hT2, ej, _, _, _, _, rfl, .lst hl, kit_self _ rfl, _, rfl, iteF ?_⟩
      refine ⟨_, rfl, _, rfl, p, _, _, _, rfl, rfl, hT2, ej, l, rfl, ⟨_, SqL.of hl⟩, ?_⟩
      refine for_list (K := K) (a := l) (xs := z.map V.int) (fun i σ H3 => ∃ v, σ = [some (.ref p), some (.ref p'), some (.int j), v] ∧ H3 = H2) ⟨_, rfl, rfl⟩ (fun i σ H3 _ ⟨_, _, e⟩ => by rw [e]; exact SqL.of hl) ?_ ?_
      · rintro i' y' σ' H3 hi' ⟨v, rfl, rfl⟩
        obtain ⟨n, rfl⟩ : ∃ n, y' = V.int n := by
          rw [List.getElem?_map] at hi'
          cases e : z[i']? with
          | none => rw [e] at hi'; cases hi'
          | some n => rw [e] at hi'; exact ⟨n, (Option.some.inj hi').symm⟩
        refine ⟨_, rfl, n, rfl, _, rfl, iteF ?_⟩
        exact ⟨_, rfl, rfl⟩
      · rintro σ' H3 ⟨v, rfl, rfl⟩
        exact ⟨_, _, rfl, s2⟩
    · rintro σ H2 ⟨v3, v4, rfl, s2⟩
      have s3 : Same H H2 := s1.trans s2
      exact ⟨_, rfl, _, rfl, p, la, lg, x, a, g, p', la', lg', x', a', g', rfl, rfl, ⟨s3.tup hT, s3.seq (.of ha), s3.seq (.of hg)⟩, s3.wr hW, k _ s3⟩
theorem ok_law (T : Txt K mg) {f : Addr} {fd : FuncData} (F : Fun K "law" "law" s_law f fd) : FnOk P w K mg base CX0 5 f fd ["script"] (spLaw K) := by
  refine F.ok sc_law (fun vs H Q E h => ?_) (fun cdv A outer s H vs Q E hr h => ?_)
  · obtain ⟨a, ns, rfl, _⟩ := h; rfl
  · obtain ⟨sc, ns, rfl, hS, hlen, k⟩ := h
    refine ⟨_, (pss_cons (ps_set (i := 1) sc_law.nd rfl (Or.inr rfl) (pe_op op_add pe_int (pe_op op_mod (pe_callG (got_law_cell_at T) (hr.mono (by decide)) rfl (pa_n (pv 0) (pa_k pe_int pa_nil))) pe_int)))
      (pss_cons (ps_set (i := 2) sc_law.nd rfl (Or.inr rfl) (pe_comp [("script", 0)] rfl (pi_range1 rfl T.b_range (pa_k pe_int pa_nil)) ⟨rfl, by decide +kernel, by decide +kernel, rfl, rfl, rfl, ⟨⟨rfl, Or.inr (Or.inl rfl), Or.inl rfl, Or.inl rfl, rfl⟩, True.intro⟩, by decide +kernel⟩ (fun _ _ _ _ => (pe_op op_add pe_int (pe_op op_mod (pe_callG (got_law_cell_at T) (hr.mono (by decide)) rfl (pa_n (pv 1) (pa_k pe_int pa_nil))) pe_int)))))
      (pss_mid (ps_if (pt_cmpR op_eq (pe_op op_mod (pe_callG (got_law_cell_at T) (hr.mono (by decide)) rfl (pa_n (pv 0) (pa_k pe_int pa_nil))) pe_int) pe_int (nomark _)) (pss_one (ps_set (i := 2) sc_law.nd rfl (Or.inr rfl) (pe_comp [("script", 0)] rfl (pi_range1 rfl T.b_range (pa_k pe_int pa_nil)) ⟨rfl, by decide +kernel, by decide +kernel, rfl, rfl, rfl, ⟨⟨rfl, Or.inr (Or.inl rfl), Or.inl rfl, Or.inl rfl, rfl⟩, True.intro⟩, by decide +kernel⟩ (fun _ _ _ _ => (pe_op op_add pe_int (pe_op op_mod (pe_callG (got_law_cell_at T) (hr.mono (by decide)) rfl (pa_n (pv 1) (pa_b (pe_op op_add pe_int (pv 0)) pa_nil))) pe_int)))))) pss_nil)
      (pss_cons (ps_set (i := 3) sc_law.nd rfl (Or.inr rfl) (pe_comp [("script", 0)] rfl (pi_range1 rfl T.b_range (pa_k pe_int pa_nil)) ⟨rfl, by decide +kernel, by decide +kernel, rfl, rfl, rfl, ⟨⟨rfl, Or.inr (Or.inl rfl), Or.inl rfl, Or.inl rfl, rfl⟩, True.intro⟩, by decide +kernel⟩ (fun _ _ _ _ => (pe_op op_mod (pe_callG (got_law_cell_at T) (hr.mono (by decide)) rfl (pa_n (pv 1) (pa_b (pe_op op_add pe_int (pv 0)) pa_nil))) (pe_op op_mul pe_int (pe_op op_pow pe_int pe_int))))))
      (pss_cons (ps_asg (pe_comp [("base", 1), ("bottoms", 2), ("tops", 3)] rfl (pi_range1 rfl T.b_range (pa_k pe_int pa_nil)) ⟨rfl, by decide +kernel, by decide +kernel, rfl, rfl, rfl, ⟨⟨rfl, Or.inr (Or.inl rfl), Or.inl rfl, Or.inl rfl, rfl⟩, ⟨⟨rfl, Or.inr (Or.inl rfl), Or.inl rfl, Or.inl rfl, rfl⟩, ⟨⟨rfl, Or.inr (Or.inl rfl), Or.inl rfl, Or.inl rfl, rfl⟩, True.intro⟩⟩⟩, by decide +kernel⟩ (fun _ _ _ _ => (pe_callG (got_written T) (hr.mono (by decide)) rfl (pa_n (pv 1) (pa_s (pe_ix (ix_listK (K := K) rfl) (pv 3) (pv 0) px_n) (pa_s (pe_ix (ix_listK (K := K) rfl) (pv 2) (pv 0) px_n) pa_nil)))))) (pg_lst rfl (pgs_cons (pg_name (i := 4) sc_law.nd rfl (Or.inl rfl)) (pgs_cons (pg_name (i := 5) sc_law.nd rfl (Or.inl rfl)) (pgs_cons (pg_name (i := 6) sc_law.nd rfl (Or.inl rfl)) pgs_nil)))))
      (pss_cons (ps_set (i := 7) sc_law.nd rfl (Or.inl rfl) (pe_callN (gotE_added T) (hr.mono (by decide)) rfl (pa_n (pv 1) (pa_c (pe_callN (gotE_added T) (hr.mono (by decide)) rfl (pa_n (pv 1) (pa_n (pv 4) (pa_n (pv 5) pa_nil)))) (pa_n (pv 6) pa_nil)))))
      (pss_cons (ps_if (pt_not (pt_val (pe_callG (got_law_is_writing T) (hr.mono (by decide)) rfl (pa_n (pv 7) (pa_c (pe_callN (gotE_added T) (hr.mono (by decide)) rfl (pa_n (pv 1) (pa_n (pv 4) (pa_c (pe_callN (gotE_added T) (hr.mono (by decide)) rfl (pa_n (pv 1) (pa_n (pv 5) (pa_n (pv 6) pa_nil)))) pa_nil)))) pa_nil))))) (pss_one (ps_ret pe_bl)) pss_nil)
      (pss_cons (ps_if (pt_not (pt_val (pe_callG (got_law_is_writing T) (hr.mono (by decide)) rfl (pa_c (pe_callN (gotE_added T) (hr.mono (by decide)) rfl (pa_n (pv 1) (pa_n (pv 5) (pa_n (pv 4) pa_nil)))) (pa_c (pe_callN (gotE_added T) (hr.mono (by decide)) rfl (pa_n (pv 1) (pa_n (pv 4) (pa_n (pv 5) pa_nil)))) pa_nil))))) (pss_one (ps_ret pe_bl)) pss_nil)
      (pss_cons (ps_set (i := 8) sc_law.nd rfl (Or.inl rfl) (pe_op op_mod (pe_callG (got_law_cell_at T) (hr.mono (by decide)) rfl (pa_n (pv 0) (pa_k pe_int pa_nil))) pe_int))
      (pss_cons (ps_if (pt_not (pt_val (pe_callG (got_law_is_writing T) (hr.mono (by decide)) rfl (pa_c (pe_callN (gotE_added T) (hr.mono (by decide)) rfl (pa_n (pv 1) (pa_c (pe_callN (gotE_times T) (hr.mono (by decide)) rfl (pa_n (pv 1) (pa_n (pv 4) (pa_n (pv 8) pa_nil)))) (pa_n (pv 4) pa_nil)))) (pa_c (pe_callN (gotE_times T) (hr.mono (by decide)) rfl (pa_n (pv 1) (pa_n (pv 4) (pa_b (pe_op op_add (pv 8) pe_int) pa_nil)))) pa_nil))))) (pss_one (ps_ret pe_bl)) pss_nil)
      (pss_cons (ps_if (PW.pt (pw_or (pt_cmpR (op_neW hr.units) (pe_callN (gotE_times T) (hr.mono (by decide)) rfl (pa_n (pv 1) (pa_n (pv 4) (pa_k pe_int pa_nil)))) (pe_tup (pa_k pe_int (pa_l (pe_lst pa_nil) (pa_l (pe_lst pa_nil) pa_nil)))) (nomark _)) (pw_or1 (pt_cmpR (op_neW hr.units) (pe_callN (gotE_times T) (hr.mono (by decide)) rfl (pa_n (pv 1) (pa_n (pv 4) (pa_k pe_int pa_nil)))) (pv 4) (nomark _))))) (pss_one (ps_ret pe_bl)) pss_nil)
      (pss_cons (ps_set (i := 9) sc_law.nd rfl (Or.inl rfl) (pe_callG (got_written T) (hr.mono (by decide)) rfl (pa_n (pv 1) (pa_b (pe_op op_mod (pe_ix ix_list (pv 3) pe_int px_k) (pe_ix ix_list (pv 2) pe_int px_k)) (pa_s (pe_ix ix_list (pv 2) pe_int px_k) pa_nil)))))
      (pss_cons (ps_set (i := 10) sc_law.nd rfl (Or.inl rfl) (pe_callG (got_written T) (hr.mono (by decide)) rfl (pa_n (pv 1) (pa_b (pe_op op_sub (pe_ix ix_list (pv 2) pe_int px_k) (pe_op op_mod (pe_ix ix_list (pv 3) pe_int px_k) (pe_ix ix_list (pv 2) pe_int px_k))) (pa_s (pe_ix ix_list (pv 2) pe_int px_k) pa_nil)))))
      (pss_one (ps_ret (pe_callG (got_law_is_writing T) (hr.mono (by decide)) rfl (pa_c (pe_callN (gotE_added T) (hr.mono (by decide)) rfl (pa_n (pv 1) (pa_n (pv 9) (pa_n (pv 10) pa_nil)))) (pa_t (pe_tup (pa_k pe_int (pa_l (pe_lst pa_nil) (pa_l (pe_lst pa_nil) pa_nil)))) pa_nil)))))))))))))))))), ?_⟩
    refine ⟨_, rfl, sc, ns, _, rfl, hS, by decide, fun z0 _ => ⟨_, _, rfl, rfl, (show (0 : Int) < 35 by decide), _, _, rfl, rfl, ?_⟩⟩
    obtain ⟨b, hb, b2, b36⟩ : ∃ b : Int, b = 2 + z0 % 35 ∧ 2 ≤ b ∧ b ≤ 36 := ⟨_, rfl, by omega, by omega⟩
    -- the bottoms
    obtain ⟨q, hq, q1, q2⟩ : ∃ q : Int, q = 1 + ns.getD 1 0 % 2000 ∧ 1 ≤ q ∧ q ≤ 2000 := ⟨_, rfl, by omega, by omega⟩
    refine ⟨3, rfl, by decide, by decide, fun l1 h1 => ?_⟩
    refine comp_range (lo := 0) (n := (3 : Int).toNat) (fun _ => V.int q) (by decide) h1 ?_ ?_
    · intro i H2 hi s2 R hR
      refine ⟨_, rfl, sc, ns, _, rfl, s2.seq hS, by decide, fun z ez => ⟨_, _, rfl, rfl, (show (0 : Int) < 2000 by decide), _, _, rfl, rfl, ?_⟩⟩
      subst ez
      subst hq
      exact hR
    have s1 := Same.upd (o := .lst ((List.range (3 : Int).toNat).map fun _ => V.int q)) h1
    refine ⟨fun σ' H' => ∃ (l : Addr) (qs : Nat → Int) (D : Int), 0 < D ∧ D ≤ 2000 ∧ (∀ j, 1 ≤ qs j ∧ qs j ≤ 2000 ∧ qs j ∣ D) ∧ H' l = some (.lst ([qs 0, qs 1, qs 2].map V.int)) ∧ Same H H' ∧ σ' = [some (.ref sc), some (.int b), some (.ref l), none, none, none, none, none, none, none, none], ?_, ?_⟩
    · refine ⟨_, rfl, sc, ns, _, rfl, s1.seq hS, by decide, fun z _ => ⟨_, _, rfl, rfl, (show (0 : Int) < 2 by decide), rfl, _, rfl, ite2D (fun _ => ?_) (fun _ => ?_)⟩⟩
      · obtain ⟨qs, hqs, qb⟩ : ∃ qs : Nat → Int, qs = (fun i : Nat => 1 + ns.getD (3 + (0 + (i : Int))).toNat 0 % 12) ∧ ∀ j, 1 ≤ qs j ∧ qs j ≤ 12 := ⟨_, rfl, fun j => by omega⟩
        refine ⟨3, rfl, by decide, by decide, fun l2 h2 => ?_⟩
        refine comp_range (lo := 0) (n := (3 : Int).toNat) (fun i => V.int (qs i)) (by decide) h2 ?_ ?_
        · intro i H2 hi s2 R hR
          refine ⟨_, rfl, _, rfl, _, _, rfl, rfl, sc, ns, _, rfl, (s1.trans s2).seq hS, by omega, fun z ez => ⟨_, _, rfl, rfl, (show (0 : Int) < 12 by decide), _, _, rfl, rfl, ?_⟩⟩
          subst ez
          subst hqs
          exact hR
        have c0 := qb 0
        have c1 := qb 1
        have c2 := qb 2
        have e1 : qs 0 * qs 1 ≤ 12 * 12 := Int.mul_le_mul c0.2 c1.2 (by omega) (by decide)
        have e2 : qs 0 * qs 1 * qs 2 ≤ 12 * 12 * 12 := Int.mul_le_mul e1 c2.2 (by omega) (by decide)
        have p1 : 0 < qs 0 * qs 1 := Int.mul_pos (by omega) (by omega)
        have p2 : 0 < qs 0 * qs 1 * qs 2 := Int.mul_pos p1 (by omega)
        refine ⟨l2, fun j => if j = 0 then qs 0 else if j = 1 then qs 1 else qs 2, qs 0 * qs 1 * qs 2, p2, by omega, fun j => ?_, upd_same, s1.trans (Same.upd h2), by subst hb; rfl⟩
        dsimp only
        split
        · exact ⟨c0.1, by omega, Int.dvd_mul_of_dvd_left ⟨_, rfl⟩⟩
        · split
          · exact ⟨c1.1, by omega, Int.dvd_mul_of_dvd_left (Int.dvd_mul_left _ _)⟩
          · exact ⟨c2.1, by omega, Int.dvd_mul_left _ _⟩
      · exact ⟨l1, fun _ => q, q, by omega, q2, fun _ => ⟨q1, q2, Int.dvd_refl q⟩, upd_same, s1, by subst hb; rfl⟩
    clear s1 h1 hq q1 q2 q l1
    rintro σ' H1 ⟨l1, qs, D, D0, D2, qb, hl1, s1, rfl⟩
    -- the tops
    obtain ⟨ts, hts, tb⟩ : ∃ ts : Nat → Int, ts = (fun i : Nat => ns.getD (6 + (0 + (i : Int))).toNat 0 % (9 * 10 ^ (8 : Int).toNat)) ∧ ∀ j, 0 ≤ ts j ∧ ts j < 900000000 := ⟨_, rfl, fun j => by
      have : (9 : Int) * 10 ^ (8 : Int).toNat = 900000000 := by decide
      rw [this]
      omega⟩
    refine ⟨3, rfl, by decide, by decide, fun l2 h2 => ?_⟩
    refine comp_range (lo := 0) (n := (3 : Int).toNat) (fun i => V.int (ts i)) (by decide) h2 ?_ ?_
    · intro i H2 hi s2 R hR
      refine ⟨_, rfl, _, rfl, _, _, rfl, rfl, sc, ns, _, rfl, (s1.trans s2).seq hS, by omega, fun z ez => ⟨_, _, rfl, rfl, ⟨by decide, by decide, by decide⟩, _, _, rfl, rfl, .inl ⟨by decide, by decide⟩, _, _, rfl, rfl, (show (0 : Int) < 9 * 10 ^ (8 : Int).toNat by decide), ?_⟩⟩
      subst ez
      subst hts
      exact hR
    rw [map_ints]
    have hl2 : upd H1 l2 (.lst (((List.range (3 : Int).toNat).map ts).map V.int)) l2 = some (.lst ([ts 0, ts 1, ts 2].map V.int)) := upd_same
    have hl1' := Same.upd (o := .lst (((List.range (3 : Int).toNat).map ts).map V.int)) h2 _ _ hl1
    have s2 := s1.trans (Same.upd (o := .lst (((List.range (3 : Int).toNat).map ts).map V.int)) h2)
    generalize upd H1 l2 (.lst (((List.range (3 : Int).toNat).map ts).map V.int)) = H2 at hl2 hl1' s2 ⊢
    -- the writings
    refine ⟨3, rfl, by decide, by decide, fun l3 h3 => ?_⟩
    refine comp_rangeG (lo := 0) (n := (3 : Int).toNat) (fun i H' ys => Same H2 H' ∧ Wrs l3 b ts qs i H' ys) (by decide) ⟨Same.upd h3, upd_same, rfl, fun j hj => absurd hj (by omega)⟩ (fun i H' ys w => ⟨w.2.l, w.2.n⟩) ?_ ?_
    · rintro i H' ys R hi ⟨s3, w⟩ hR
      have hi : i < 3 := hi
      have gt : ∀ (c : Nat → Int), atI ([c 0, c 1, c 2].map V.int) (0 + (i : Int)) = some (.int (c i)) := fun c => by
        rw [Int.zero_add]
        apply atI_nat
        rcases (show i = 0 ∨ i = 1 ∨ i = 2 by omega) with rfl | rfl | rfl <;> rfl
      have t1 := tb i
      have c1 := qb i
      refine ⟨_, rfl, _, rfl, _, rfl, l2, _, _, _, rfl, rfl, SqL.of (s3 _ _ hl2), gt ts, _, rfl, _, rfl, l1, _, _, _, rfl, rfl, SqL.of (s3 _ _ hl1'), gt qs, b, ts i, qs i, rfl, b2, b36, t1.1, by omega, c1.1, c1.2.1, fun x a g p la lg H'' d n => ?_⟩
      refine hR (.ref p) H'' (n.sm _ _ w.l) ⟨?_, w.more n d⟩
      exact fun c o e => by
        have hc : c ≠ l3 := fun z => by rw [z, h3] at e; cases e
        rw [upd_ne hc]
        exact n.sm _ _ (s3 _ _ e)
    rintro H3 ys ⟨s3, w⟩
    obtain ⟨p0, la0, lg0, x0, a0, g0, e0, w0, d0⟩ := w.all 0 (by decide)
    obtain ⟨p1, la1, lg1, x1, a1, g1, e1, w1, d1⟩ := w.all 1 (by decide)
    obtain ⟨p2, la2, lg2, x2, a2, g2, e2, w2, d2⟩ := w.all 2 (by decide)
    obtain rfl : ys = [.ref p0, .ref p1, .ref p2] := by
      have hn := w.n
      match ys, hn, e0, e1, e2 with
      | [y0, y1, y2], _, e0, e1, e2 =>
        rw [show y0 = .ref p0 from Option.some.inj e0, show y1 = .ref p1 from Option.some.inj e1, show y2 = .ref p2 from Option.some.inj e2]
    refine ⟨l3, _, rfl, SqL.of w.l, rfl, _, _, rfl, _, _, rfl, _, _, rfl, rfl, ?_⟩
    have sH := s2.trans s3
    have hn : ∀ j, 0 ≤ ts j * (D / qs j) ∧ ts j * (D / qs j) ≤ 900000000 * D := fun j => by
      have t1 := tb j
      have c1 := qb j
      have h1 : 0 ≤ D / qs j := Int.ediv_nonneg (by omega) (by omega)
      have h2 : D / qs j ≤ D := Int.ediv_le_self _ (by omega)
      exact ⟨Int.mul_nonneg t1.1 h1, Int.mul_le_mul (by omega) h2 h1 (by decide)⟩
    have o0 := Over.of (D := D) (by have := (qb 0).1; omega) D0 (qb 0).2.2 d0
    have o1 := Over.of (D := D) (by have := (qb 1).1; omega) D0 (qb 1).2.2 d1
    have o2 := Over.of (D := D) (by have := (qb 2).1; omega) D0 (qb 2).2.2 d2
    have m0 := hn 0
    have m1 := hn 1
    have m2 := hn 2
    generalize ts 0 * (D / qs 0) = n0 at o0 m0
    generalize ts 1 * (D / qs 1) = n1 at o1 m1
    generalize ts 2 * (D / qs 2) = n2 at o2 m2
    have v0 : WrAt K H3 p0 la0 lg0 x0 a0 g0 := w0.wr
    have v1 : WrAt K H3 p1 la1 lg1 x1 a1 g1 := w1.wr
    have v2 : WrAt K H3 p2 la2 lg2 x2 a2 g2 := w2.wr
    -- left
    refine ⟨_, rfl, _, rfl, _, rfl, _, rfl, added_over b2 b36 D0 D2 m0.1 m1.1 (by omega) o0 v0 o1 v1 fun xa aa ga pa laa lga H4 oa na => ?_⟩
    have s4 := na.sm
    refine ⟨_, rfl, added_over b2 b36 D0 D2 (by omega) m2.1 (by omega) oa na.wr o2 (s4.wr v2) fun xl al gl pl lal lgl H5 ol nl => ?_⟩
    have s5 := s4.trans nl.sm
    refine ⟨_, rfl, _, rfl, _, rfl, _, rfl, _, rfl, _, rfl, added_over b2 b36 D0 D2 m1.1 m2.1 (by omega) o1 (s5.wr v1) o2 (s5.wr v2) fun xc ac gc pc lac lgc H6 oc nc => ?_⟩
    have s6 := s5.trans nc.sm
    refine added_over b2 b36 D0 D2 m0.1 (by omega) (by omega) o0 (s6.wr v0) oc nc.wr fun xd ad gd pd lad lgd H7 od nd => ?_
    have s57 := nc.sm.trans nd.sm
    rw [← Int.add_assoc] at od
    obtain ⟨rfl, rfl, rfl⟩ := ol.uniq od
    refine ⟨pl, lal, lgl, xl, al, gl, pd, lad, lgd, xl, al, gl, rfl, s57 _ _ nl.t, s57 _ _ nl.a, s57 _ _ nl.g, nd.wr, fun H8 s8 => ?_⟩
    rw [decide_eq_true ⟨rfl, rfl, rfl⟩]
    refine ⟨_, rfl, iteF ?_⟩
    have sA := (s6.trans nd.sm).trans s8
    clear od nd oc nc ol nl oa na s57 s8 s6 s5 s4
    -- the other way round
    refine ⟨_, rfl, _, rfl, _, rfl, added_over b2 b36 D0 D2 m1.1 m0.1 (by omega) o1 (sA.wr v1) o0 (sA.wr v0) fun xa aa ga pa laa lga H9 oa na => ?_⟩
    refine ⟨_, rfl, _, rfl, _, rfl, added_over b2 b36 D0 D2 m0.1 m1.1 (by omega) o0 ((sA.trans na.sm).wr v0) o1 ((sA.trans na.sm).wr v1) fun xc ac gc pc lac lgc H10 oc nc => ?_⟩
    rw [Int.add_comm] at oc
    obtain ⟨rfl, rfl, rfl⟩ := oa.uniq oc
    refine ⟨pa, laa, lga, xa, aa, ga, pc, lac, lgc, xa, aa, ga, rfl, nc.sm _ _ na.t, nc.sm _ _ na.a, nc.sm _ _ na.g, nc.wr, fun H11 s11 => ?_⟩
    rw [decide_eq_true ⟨rfl, rfl, rfl⟩]
    refine ⟨_, rfl, iteF ?_⟩
    have sB := ((sA.trans na.sm).trans nc.sm).trans s11
    clear oa na oc nc s11
    -- so many times
    refine ⟨_, rfl, sc, ns, _, rfl, (sH.trans sB).seq hS, by decide, fun z9 _ => ⟨_, _, rfl, rfl, (show (0 : Int) < 1001 by decide), ?_⟩⟩
    have m3 : 0 ≤ z9 % 1001 := by omega
    have m4 : z9 % 1001 ≤ 1000 := by omega
    have hp : ∀ c : Int, 0 ≤ c → c ≤ 1001 → 0 ≤ n0 * c ∧ n0 * c ≤ 900000000 * D * 1001 := fun c h1 h2 => ⟨Int.mul_nonneg m0.1 h1, Int.mul_le_mul m0.2 h2 h1 (by omega)⟩
    have hpm := hp (z9 % 1001) m3 (by omega)
    have hpm1 := hp (z9 % 1001 + 1) (by omega) (by omega)
    have e1 : n0 * (z9 % 1001 + 1) = n0 * (z9 % 1001) + n0 := by rw [Int.mul_add, Int.mul_one]
    refine ⟨_, rfl, _, rfl, _, rfl, _, rfl, times_over (m := z9 % 1001) b2 b36 D0 D2 m0.1 (by omega) m3 (by omega) (by omega) o0 (sB.wr v0) fun xa aa ga pa laa lga H12 oa na => ?_⟩
    refine ⟨_, rfl, added_over b2 b36 D0 D2 (by omega) m0.1 (by omega) oa na.wr o0 ((sB.trans na.sm).wr v0) fun xc ac gc pc lac lgc H13 oc nc => ?_⟩
    have s13 := (sB.trans na.sm).trans nc.sm
    refine ⟨_, rfl, _, rfl, _, rfl, _, _, rfl, rfl, times_over (m := z9 % 1001 + 1) b2 b36 D0 D2 m0.1 (by omega) (by omega) (by omega) (by omega) o0 (s13.wr v0) fun xd ad gd pd lad lgd H14 od nd => ?_⟩
    rw [e1] at od
    obtain ⟨rfl, rfl, rfl⟩ := oc.uniq od
    refine ⟨pc, lac, lgc, xc, ac, gc, pd, lad, lgd, xc, ac, gc, rfl, nd.sm _ _ nc.t, nd.sm _ _ nc.a, nd.sm _ _ nc.g, nd.wr, fun H15 s15 => ?_⟩
    rw [decide_eq_true ⟨rfl, rfl, rfl⟩]
    refine ⟨_, rfl, iteF ?_⟩
    have sC := (s13.trans nd.sm).trans s15
    clear oa na oc nc od nd s15 s13 hpm hpm1 e1 m3 m4
    -- no times, and once
    have hp0 := hp 0 (by decide) (by decide)
    have hp1 := hp 1 (by decide) (by decide)
    refine ⟨_, rfl, _, rfl, times_over (m := 0) b2 b36 D0 D2 m0.1 (by omega) (by decide) (by decide) (by omega) o0 (sC.wr v0) fun xa aa ga pa laa lga H16 oa na => ?_⟩
    rw [Int.mul_zero] at oa
    obtain ⟨rfl, rfl, rfl⟩ := over_zero D0 oa
    refine ⟨(show 0 ≤ sizeLine by decide), fun l5 h5 => ⟨(show 0 ≤ sizeLine by decide), fun l6 h6 => ⟨(show 3 ≤ sizeLine by decide), fun p7 h7 => ?_⟩⟩⟩
    have nz : NewWr H16 _ p7 l5 l6 0 [] [] := NewWr.mk2 (Same.refl H16) h5 h6 h7
    refine ⟨pa, laa, lga, 0, [], [], p7, l5, l6, 0, [], [], rfl, rfl, nz.sm.wr na.wr, nz.wr, _, rfl, iteNDF ⟨rfl, rfl, rfl⟩ ?_⟩
    have sD := (sC.trans na.sm).trans nz.sm
    refine ⟨_, rfl, _, rfl, times_over (m := 1) b2 b36 D0 D2 m0.1 (by omega) (by decide) (by decide) (by omega) o0 (sD.wr v0) fun xc ac gc pc lac lgc H17 oc nc => ?_⟩
    rw [Int.mul_one] at oc
    obtain ⟨rfl, rfl, rfl⟩ := oc.uniq o0
    refine ⟨_, rfl, pc, lac, lgc, _, _, _, p0, la0, lg0, _, _, _, rfl, rfl, nc.wr, (sD.trans nc.sm).wr v0, _, rfl, iteNDF ⟨rfl, rfl, rfl⟩ ?_⟩
    have sE := sD.trans nc.sm
    -- what makes it up to one
    have t0 := tb 0
    have c0 := qb 0
    have r0 : 0 ≤ ts 0 % qs 0 := Int.emod_nonneg _ (by omega)
    have r1 : ts 0 % qs 0 < qs 0 := Int.emod_lt_of_pos _ (by omega)
    have sx := s3.trans sE
    refine ⟨_, rfl, _, rfl, l2, _, _, _, rfl, rfl, SqL.of (sx _ _ hl2), rfl, _, rfl, l1, _, _, _, rfl, rfl, SqL.of (sx _ _ hl1'), rfl, _, _, rfl, rfl, (show (0 : Int) < qs 0 by omega), _, rfl, l1, _, _, _, rfl, rfl, SqL.of (sx _ _ hl1'), rfl, b, ts 0 % qs 0, qs 0, rfl, b2, b36, r0, by omega, c0.1, c0.2.1, fun xp ap gp pp lap lgp H18 dp np => ?_⟩
    have sy := sx.trans np.sm
    refine ⟨_, rfl, _, rfl, l1, _, _, _, rfl, rfl, SqL.of (sy _ _ hl1'), rfl, _, rfl, l2, _, _, _, rfl, rfl, SqL.of (sy _ _ hl2), rfl, _, rfl, l1, _, _, _, rfl, rfl, SqL.of (sy _ _ hl1'), rfl, _, _, rfl, rfl, (show (0 : Int) < qs 0 by omega), _, _, rfl, rfl, _, rfl, l1, _, _, _, rfl, rfl, SqL.of (sy _ _ hl1'), rfl, b, qs 0 - ts 0 % qs 0, qs 0, rfl, b2, b36, by omega, by omega, c0.1, c0.2.1, fun xr ar gr pr lar lgr H19 dr nr => ?_⟩
    have op := Over.of (D := D) (by omega) D0 c0.2.2 dp
    have or_ := Over.of (D := D) (by omega) D0 c0.2.2 dr
    have hd0 : 0 ≤ D / qs 0 := Int.ediv_nonneg (by omega) (by omega)
    have k1 : 0 ≤ ts 0 % qs 0 * (D / qs 0) := Int.mul_nonneg r0 hd0
    have k2 : 0 ≤ (qs 0 - ts 0 % qs 0) * (D / qs 0) := Int.mul_nonneg (by omega) hd0
    have k3 : ts 0 % qs 0 * (D / qs 0) + (qs 0 - ts 0 % qs 0) * (D / qs 0) = D := by
      rw [← Int.add_mul, show ts 0 % qs 0 + (qs 0 - ts 0 % qs 0) = qs 0 by omega]
      exact Int.mul_ediv_cancel' c0.2.2
    refine ⟨_, rfl, _, rfl, _, rfl, added_over b2 b36 D0 D2 k1 k2 (by omega) op (nr.sm.wr np.wr) or_ nr.wr fun xs as gs ps las lgs H20 os ns' => ?_⟩
    rw [k3] at os
    obtain ⟨rfl, rfl, rfl⟩ := over_self D0 os
    refine ⟨(show 0 ≤ sizeLine by decide), fun l5 h5 => ⟨(show 0 ≤ sizeLine by decide), fun l6 h6 => ⟨(show 3 ≤ sizeLine by decide), fun p7 h7 => ?_⟩⟩⟩
    have nz : NewWr H20 _ p7 l5 l6 1 [] [] := NewWr.mk2 (Same.refl H20) h5 h6 h7
    refine ⟨ps, las, lgs, 1, [], [], p7, l5, l6, 1, [], [], rfl, nz.sm _ _ ns'.t, nz.sm _ _ ns'.a, nz.sm _ _ ns'.g, nz.wr, fun H21 s21 => ?_⟩
    rw [decide_eq_true ⟨rfl, rfl, rfl⟩]
    exact k _
end
theorem txt_mk {K : PySem.W.Frag} {h : Heap} {mg : Str → Option Value} (X : K.In h) (G : h.Ns mainGlobals mg)
    {f_check_base : Addr} {od_check_base an_check_base : Option Addr} {sl_check_base : Array (Option Value)} {oc_check_base kV_check_base dc_check_base pm_check_base cd_check_base ct_check_base : Value}
    (a_check_base : PySem.W.nsIn K mainGlobals "check_base" = some (some (.ref f_check_base))) (l_check_base : K.lookup f_check_base = some ⟨oc_check_base, od_check_base, .func (PySem.W.fnOf "check_base" "check_base" (defArgs s_check_base) (defBody s_check_base) (defScope s_check_base) .none kV_check_base dc_check_base pm_check_base an_check_base cd_check_base ct_check_base), sl_check_base⟩) (c_check_base : PySem.W.codeIn K cd_check_base "check_base" = true) (k_check_base : PySem.W.keepIn K (.ref f_check_base) = true)
    {f_check_fraction : Addr} {od_check_fraction an_check_fraction : Option Addr} {sl_check_fraction : Array (Option Value)} {oc_check_fraction kV_check_fraction dc_check_fraction pm_check_fraction cd_check_fraction ct_check_fraction : Value}
    (a_check_fraction : PySem.W.nsIn K mainGlobals "check_fraction" = some (some (.ref f_check_fraction))) (l_check_fraction : K.lookup f_check_fraction = some ⟨oc_check_fraction, od_check_fraction, .func (PySem.W.fnOf "check_fraction" "check_fraction" (defArgs s_check_fraction) (defBody s_check_fraction) (defScope s_check_fraction) .none kV_check_fraction dc_check_fraction pm_check_fraction an_check_fraction cd_check_fraction ct_check_fraction), sl_check_fraction⟩) (c_check_fraction : PySem.W.codeIn K cd_check_fraction "check_fraction" = true) (k_check_fraction : PySem.W.keepIn K (.ref f_check_fraction) = true)
    {f_check_bottom : Addr} {od_check_bottom an_check_bottom : Option Addr} {sl_check_bottom : Array (Option Value)} {oc_check_bottom kV_check_bottom dc_check_bottom pm_check_bottom cd_check_bottom ct_check_bottom : Value}
    (a_check_bottom : PySem.W.nsIn K mainGlobals "check_bottom" = some (some (.ref f_check_bottom))) (l_check_bottom : K.lookup f_check_bottom = some ⟨oc_check_bottom, od_check_bottom, .func (PySem.W.fnOf "check_bottom" "check_bottom" (defArgs s_check_bottom) (defBody s_check_bottom) (defScope s_check_bottom) .none kV_check_bottom dc_check_bottom pm_check_bottom an_check_bottom cd_check_bottom ct_check_bottom), sl_check_bottom⟩) (c_check_bottom : PySem.W.codeIn K cd_check_bottom "check_bottom" = true) (k_check_bottom : PySem.W.keepIn K (.ref f_check_bottom) = true)
    {f_check_figures : Addr} {od_check_figures an_check_figures : Option Addr} {sl_check_figures : Array (Option Value)} {oc_check_figures kV_check_figures dc_check_figures pm_check_figures cd_check_figures ct_check_figures : Value}
    (a_check_figures : PySem.W.nsIn K mainGlobals "check_figures" = some (some (.ref f_check_figures))) (l_check_figures : K.lookup f_check_figures = some ⟨oc_check_figures, od_check_figures, .func (PySem.W.fnOf "check_figures" "check_figures" (defArgs s_check_figures) (defBody s_check_figures) (defScope s_check_figures) .none kV_check_figures dc_check_figures pm_check_figures an_check_figures cd_check_figures ct_check_figures), sl_check_figures⟩) (c_check_figures : PySem.W.codeIn K cd_check_figures "check_figures" = true) (k_check_figures : PySem.W.keepIn K (.ref f_check_figures) = true)
    {f_check_writing : Addr} {od_check_writing an_check_writing : Option Addr} {sl_check_writing : Array (Option Value)} {oc_check_writing kV_check_writing dc_check_writing pm_check_writing cd_check_writing ct_check_writing : Value}
    (a_check_writing : PySem.W.nsIn K mainGlobals "check_writing" = some (some (.ref f_check_writing))) (l_check_writing : K.lookup f_check_writing = some ⟨oc_check_writing, od_check_writing, .func (PySem.W.fnOf "check_writing" "check_writing" (defArgs s_check_writing) (defBody s_check_writing) (defScope s_check_writing) .none kV_check_writing dc_check_writing pm_check_writing an_check_writing cd_check_writing ct_check_writing), sl_check_writing⟩) (c_check_writing : PySem.W.codeIn K cd_check_writing "check_writing" = true) (k_check_writing : PySem.W.keepIn K (.ref f_check_writing) = true)
    {f_check_number : Addr} {od_check_number an_check_number : Option Addr} {sl_check_number : Array (Option Value)} {oc_check_number kV_check_number dc_check_number pm_check_number cd_check_number ct_check_number : Value}
    (a_check_number : PySem.W.nsIn K mainGlobals "check_number" = some (some (.ref f_check_number))) (l_check_number : K.lookup f_check_number = some ⟨oc_check_number, od_check_number, .func (PySem.W.fnOf "check_number" "check_number" (defArgs s_check_number) (defBody s_check_number) (defScope s_check_number) .none kV_check_number dc_check_number pm_check_number an_check_number cd_check_number ct_check_number), sl_check_number⟩) (c_check_number : PySem.W.codeIn K cd_check_number "check_number" = true) (k_check_number : PySem.W.keepIn K (.ref f_check_number) = true)
    {f_written : Addr} {od_written an_written : Option Addr} {sl_written : Array (Option Value)} {oc_written kV_written dc_written pm_written cd_written ct_written : Value}
    (a_written : PySem.W.nsIn K mainGlobals "written" = some (some (.ref f_written))) (l_written : K.lookup f_written = some ⟨oc_written, od_written, .func (PySem.W.fnOf "written" "written" (defArgs s_written) (defBody s_written) (defScope s_written) .none kV_written dc_written pm_written an_written cd_written ct_written), sl_written⟩) (c_written : PySem.W.codeIn K cd_written "written" = true) (k_written : PySem.W.keepIn K (.ref f_written) = true)
    {f_divided_out : Addr} {od_divided_out an_divided_out : Option Addr} {sl_divided_out : Array (Option Value)} {oc_divided_out kV_divided_out dc_divided_out pm_divided_out cd_divided_out ct_divided_out : Value}
    (a_divided_out : PySem.W.nsIn K mainGlobals "divided_out" = some (some (.ref f_divided_out))) (l_divided_out : K.lookup f_divided_out = some ⟨oc_divided_out, od_divided_out, .func (PySem.W.fnOf "divided_out" "divided_out" (defArgs s_divided_out) (defBody s_divided_out) (defScope s_divided_out) .none kV_divided_out dc_divided_out pm_divided_out an_divided_out cd_divided_out ct_divided_out), sl_divided_out⟩) (c_divided_out : PySem.W.codeIn K cd_divided_out "divided_out" = true) (k_divided_out : PySem.W.keepIn K (.ref f_divided_out) = true)
    {f_worth : Addr} {od_worth an_worth : Option Addr} {sl_worth : Array (Option Value)} {oc_worth kV_worth dc_worth pm_worth cd_worth ct_worth : Value}
    (a_worth : PySem.W.nsIn K mainGlobals "worth" = some (some (.ref f_worth))) (l_worth : K.lookup f_worth = some ⟨oc_worth, od_worth, .func (PySem.W.fnOf "worth" "worth" (defArgs s_worth) (defBody s_worth) (defScope s_worth) .none kV_worth dc_worth pm_worth an_worth cd_worth ct_worth), sl_worth⟩) (c_worth : PySem.W.codeIn K cd_worth "worth" = true) (k_worth : PySem.W.keepIn K (.ref f_worth) = true)
    {f_number_of : Addr} {od_number_of an_number_of : Option Addr} {sl_number_of : Array (Option Value)} {oc_number_of kV_number_of dc_number_of pm_number_of cd_number_of ct_number_of : Value}
    (a_number_of : PySem.W.nsIn K mainGlobals "number_of" = some (some (.ref f_number_of))) (l_number_of : K.lookup f_number_of = some ⟨oc_number_of, od_number_of, .func (PySem.W.fnOf "number_of" "number_of" (defArgs s_number_of) (defBody s_number_of) (defScope s_number_of) .none kV_number_of dc_number_of pm_number_of an_number_of cd_number_of ct_number_of), sl_number_of⟩) (c_number_of : PySem.W.codeIn K cd_number_of "number_of" = true) (k_number_of : PySem.W.keepIn K (.ref f_number_of) = true)
    {f_power : Addr} {od_power an_power : Option Addr} {sl_power : Array (Option Value)} {oc_power kV_power dc_power pm_power cd_power ct_power : Value}
    (a_power : PySem.W.nsIn K mainGlobals "power" = some (some (.ref f_power))) (l_power : K.lookup f_power = some ⟨oc_power, od_power, .func (PySem.W.fnOf "power" "power" (defArgs s_power) (defBody s_power) (defScope s_power) .none kV_power dc_power pm_power an_power cd_power ct_power), sl_power⟩) (c_power : PySem.W.codeIn K cd_power "power" = true) (k_power : PySem.W.keepIn K (.ref f_power) = true)
    {f_common_measure : Addr} {od_common_measure an_common_measure : Option Addr} {sl_common_measure : Array (Option Value)} {oc_common_measure kV_common_measure dc_common_measure pm_common_measure cd_common_measure ct_common_measure : Value}
    (a_common_measure : PySem.W.nsIn K mainGlobals "common_measure" = some (some (.ref f_common_measure))) (l_common_measure : K.lookup f_common_measure = some ⟨oc_common_measure, od_common_measure, .func (PySem.W.fnOf "common_measure" "common_measure" (defArgs s_common_measure) (defBody s_common_measure) (defScope s_common_measure) .none kV_common_measure dc_common_measure pm_common_measure an_common_measure cd_common_measure ct_common_measure), sl_common_measure⟩) (c_common_measure : PySem.W.codeIn K cd_common_measure "common_measure" = true) (k_common_measure : PySem.W.keepIn K (.ref f_common_measure) = true)
    {f_added : Addr} {od_added an_added : Option Addr} {sl_added : Array (Option Value)} {oc_added kV_added dc_added pm_added cd_added ct_added : Value}
    (a_added : PySem.W.nsIn K mainGlobals "added" = some (some (.ref f_added))) (l_added : K.lookup f_added = some ⟨oc_added, od_added, .func (PySem.W.fnOf "added" "added" (defArgs s_added) (defBody s_added) (defScope s_added) .none kV_added dc_added pm_added an_added cd_added ct_added), sl_added⟩) (c_added : PySem.W.codeIn K cd_added "added" = true) (k_added : PySem.W.keepIn K (.ref f_added) = true)
    {f_times : Addr} {od_times an_times : Option Addr} {sl_times : Array (Option Value)} {oc_times kV_times dc_times pm_times cd_times ct_times : Value}
    (a_times : PySem.W.nsIn K mainGlobals "times" = some (some (.ref f_times))) (l_times : K.lookup f_times = some ⟨oc_times, od_times, .func (PySem.W.fnOf "times" "times" (defArgs s_times) (defBody s_times) (defScope s_times) .none kV_times dc_times pm_times an_times cd_times ct_times), sl_times⟩) (c_times : PySem.W.codeIn K cd_times "times" = true) (k_times : PySem.W.keepIn K (.ref f_times) = true)
    {f_result_of : Addr} {od_result_of an_result_of : Option Addr} {sl_result_of : Array (Option Value)} {oc_result_of kV_result_of dc_result_of pm_result_of cd_result_of ct_result_of : Value}
    (a_result_of : PySem.W.nsIn K mainGlobals "result_of" = some (some (.ref f_result_of))) (l_result_of : K.lookup f_result_of = some ⟨oc_result_of, od_result_of, .func (PySem.W.fnOf "result_of" "result_of" (defArgs s_result_of) (defBody s_result_of) (defScope s_result_of) .none kV_result_of dc_result_of pm_result_of an_result_of cd_result_of ct_result_of), sl_result_of⟩) (c_result_of : PySem.W.codeIn K cd_result_of "result_of" = true) (k_result_of : PySem.W.keepIn K (.ref f_result_of) = true)
    {f_law_cell_at : Addr} {od_law_cell_at an_law_cell_at : Option Addr} {sl_law_cell_at : Array (Option Value)} {oc_law_cell_at kV_law_cell_at dc_law_cell_at pm_law_cell_at cd_law_cell_at ct_law_cell_at : Value}
    (a_law_cell_at : PySem.W.nsIn K mainGlobals "_law_cell_at" = some (some (.ref f_law_cell_at))) (l_law_cell_at : K.lookup f_law_cell_at = some ⟨oc_law_cell_at, od_law_cell_at, .func (PySem.W.fnOf "_law_cell_at" "_law_cell_at" (defArgs s_law_cell_at) (defBody s_law_cell_at) (defScope s_law_cell_at) .none kV_law_cell_at dc_law_cell_at pm_law_cell_at an_law_cell_at cd_law_cell_at ct_law_cell_at), sl_law_cell_at⟩) (c_law_cell_at : PySem.W.codeIn K cd_law_cell_at "_law_cell_at" = true) (k_law_cell_at : PySem.W.keepIn K (.ref f_law_cell_at) = true)
    {f_law_whole : Addr} {od_law_whole an_law_whole : Option Addr} {sl_law_whole : Array (Option Value)} {oc_law_whole kV_law_whole dc_law_whole pm_law_whole cd_law_whole ct_law_whole : Value}
    (a_law_whole : PySem.W.nsIn K mainGlobals "_law_whole" = some (some (.ref f_law_whole))) (l_law_whole : K.lookup f_law_whole = some ⟨oc_law_whole, od_law_whole, .func (PySem.W.fnOf "_law_whole" "_law_whole" (defArgs s_law_whole) (defBody s_law_whole) (defScope s_law_whole) .none kV_law_whole dc_law_whole pm_law_whole an_law_whole cd_law_whole ct_law_whole), sl_law_whole⟩) (c_law_whole : PySem.W.codeIn K cd_law_whole "_law_whole" = true) (k_law_whole : PySem.W.keepIn K (.ref f_law_whole) = true)
    {f_law_is_writing : Addr} {od_law_is_writing an_law_is_writing : Option Addr} {sl_law_is_writing : Array (Option Value)} {oc_law_is_writing kV_law_is_writing dc_law_is_writing pm_law_is_writing cd_law_is_writing ct_law_is_writing : Value}
    (a_law_is_writing : PySem.W.nsIn K mainGlobals "_law_is_writing" = some (some (.ref f_law_is_writing))) (l_law_is_writing : K.lookup f_law_is_writing = some ⟨oc_law_is_writing, od_law_is_writing, .func (PySem.W.fnOf "_law_is_writing" "_law_is_writing" (defArgs s_law_is_writing) (defBody s_law_is_writing) (defScope s_law_is_writing) .none kV_law_is_writing dc_law_is_writing pm_law_is_writing an_law_is_writing cd_law_is_writing ct_law_is_writing), sl_law_is_writing⟩) (c_law_is_writing : PySem.W.codeIn K cd_law_is_writing "_law_is_writing" = true) (k_law_is_writing : PySem.W.keepIn K (.ref f_law_is_writing) = true)
    {f_law : Addr} {od_law an_law : Option Addr} {sl_law : Array (Option Value)} {oc_law kV_law dc_law pm_law cd_law ct_law : Value}
    (a_law : PySem.W.nsIn K mainGlobals "law" = some (some (.ref f_law))) (l_law : K.lookup f_law = some ⟨oc_law, od_law, .func (PySem.W.fnOf "law" "law" (defArgs s_law) (defBody s_law) (defScope s_law) .none kV_law dc_law pm_law an_law cd_law ct_law), sl_law⟩) (c_law : PySem.W.codeIn K cd_law "law" = true) (k_law : PySem.W.keepIn K (.ref f_law) = true)
    {t_GREATEST_BASE : Tok} (i_GREATEST_BASE : PySem.W.nsIn K mainGlobals "GREATEST_BASE" = some (some (.int 36 t_GREATEST_BASE)))
    {t_GREATEST_BOTTOM : Tok} (i_GREATEST_BOTTOM : PySem.W.nsIn K mainGlobals "GREATEST_BOTTOM" = some (some (.int 2000 t_GREATEST_BOTTOM)))
    {t_GREATEST_NUMBER : Tok} (i_GREATEST_NUMBER : PySem.W.nsIn K mainGlobals "GREATEST_NUMBER" = some (some (.int 1000000 t_GREATEST_NUMBER)))
    {t_GREATEST_TOP : Tok} (i_GREATEST_TOP : PySem.W.nsIn K mainGlobals "GREATEST_TOP" = some (some (.int 1000000000000 t_GREATEST_TOP)))
    {t_GREATEST_WHOLE : Tok} (i_GREATEST_WHOLE : PySem.W.nsIn K mainGlobals "GREATEST_WHOLE" = some (some (.int 1000000000000 t_GREATEST_WHOLE)))
    {t_LEAST_BASE : Tok} (i_LEAST_BASE : PySem.W.nsIn K mainGlobals "LEAST_BASE" = some (some (.int 2 t_LEAST_BASE)))
    {t_MOST_FIGURES : Tok} (i_MOST_FIGURES : PySem.W.nsIn K mainGlobals "MOST_FIGURES" = some (some (.int 4000 t_MOST_FIGURES)))
    (b_bool : PySem.W.nsIn K mainGlobals "bool" = some none)
    (b_int : PySem.W.nsIn K mainGlobals "int" = some none)
    (b_isinstance : PySem.W.nsIn K mainGlobals "isinstance" = some none)
    (b_len : PySem.W.nsIn K mainGlobals "len" = some none)
    (b_list : PySem.W.nsIn K mainGlobals "list" = some none)
    (b_range : PySem.W.nsIn K mainGlobals "range" = some none)
    (b_tuple : PySem.W.nsIn K mainGlobals "tuple" = some none)
    {c_NoNumber : Addr} (m_NoNumber : PySem.W.nsIn K mainGlobals "NoNumber" = some (some (.ref c_NoNumber)))
    {c_TooLong : Addr} (m_TooLong : PySem.W.nsIn K mainGlobals "TooLong" = some (some (.ref c_TooLong)))
    (b_NoNote : PySem.W.nsIn K mainGlobals "NoNote" = some none)
    (e_NoNumber : PySem.W.excIn K c_NoNumber veTail veNew = true) (xc_NoNumber : XcOk K c_NoNumber)
    (e_TooLong : PySem.W.excIn K c_TooLong veTail veNew = true) (xc_TooLong : XcOk K c_TooLong) :
    Txt K mg :=
  ⟨⟨f_check_base, _, fun_mk (st := s_check_base) l_check_base c_check_base k_check_base, (fun_mk (st := s_check_base) l_check_base c_check_base k_check_base).binds (ps := ["base"]) fun _ _ _ _ _ _ us hl => match us, hl with | [_], _ => rfl, PySem.W.mg_of X G a_check_base⟩,
   ⟨f_check_fraction, _, fun_mk (st := s_check_fraction) l_check_fraction c_check_fraction k_check_fraction, (fun_mk (st := s_check_fraction) l_check_fraction c_check_fraction k_check_fraction).binds (ps := ["top", "bottom"]) fun _ _ _ _ _ _ us hl => match us, hl with | [_, _], _ => rfl, PySem.W.mg_of X G a_check_fraction⟩,
   ⟨f_check_bottom, _, fun_mk (st := s_check_bottom) l_check_bottom c_check_bottom k_check_bottom, (fun_mk (st := s_check_bottom) l_check_bottom c_check_bottom k_check_bottom).binds (ps := ["bottom"]) fun _ _ _ _ _ _ us hl => match us, hl with | [_], _ => rfl, PySem.W.mg_of X G a_check_bottom⟩,
   ⟨f_check_figures, _, fun_mk (st := s_check_figures) l_check_figures c_check_figures k_check_figures, (fun_mk (st := s_check_figures) l_check_figures c_check_figures k_check_figures).binds (ps := ["base", "figures"]) fun _ _ _ _ _ _ us hl => match us, hl with | [_, _], _ => rfl, PySem.W.mg_of X G a_check_figures⟩,
   ⟨f_check_writing, _, fun_mk (st := s_check_writing) l_check_writing c_check_writing k_check_writing, (fun_mk (st := s_check_writing) l_check_writing c_check_writing k_check_writing).binds (ps := ["base", "writing"]) fun _ _ _ _ _ _ us hl => match us, hl with | [_, _], _ => rfl, PySem.W.mg_of X G a_check_writing⟩,
   ⟨f_check_number, _, fun_mk (st := s_check_number) l_check_number c_check_number k_check_number, (fun_mk (st := s_check_number) l_check_number c_check_number k_check_number).binds (ps := ["number"]) fun _ _ _ _ _ _ us hl => match us, hl with | [_], _ => rfl, PySem.W.mg_of X G a_check_number⟩,
   ⟨f_written, _, fun_mk (st := s_written) l_written c_written k_written, (fun_mk (st := s_written) l_written c_written k_written).binds (ps := ["base", "top", "bottom"]) fun _ _ _ _ _ _ us hl => match us, hl with | [_, _, _], _ => rfl, PySem.W.mg_of X G a_written⟩,
   ⟨f_divided_out, _, fun_mk (st := s_divided_out) l_divided_out c_divided_out k_divided_out, (fun_mk (st := s_divided_out) l_divided_out c_divided_out k_divided_out).binds (ps := ["base", "top", "bottom"]) fun _ _ _ _ _ _ us hl => match us, hl with | [_, _, _], _ => rfl, PySem.W.mg_of X G a_divided_out⟩,
   ⟨f_worth, _, fun_mk (st := s_worth) l_worth c_worth k_worth, (fun_mk (st := s_worth) l_worth c_worth k_worth).binds (ps := ["base", "writing"]) fun _ _ _ _ _ _ us hl => match us, hl with | [_, _], _ => rfl, PySem.W.mg_of X G a_worth⟩,
   ⟨f_number_of, _, fun_mk (st := s_number_of) l_number_of c_number_of k_number_of, (fun_mk (st := s_number_of) l_number_of c_number_of k_number_of).binds (ps := ["base", "figures"]) fun _ _ _ _ _ _ us hl => match us, hl with | [_, _], _ => rfl, PySem.W.mg_of X G a_number_of⟩,
   ⟨f_power, _, fun_mk (st := s_power) l_power c_power k_power, (fun_mk (st := s_power) l_power c_power k_power).binds (ps := ["base", "count"]) fun _ _ _ _ _ _ us hl => match us, hl with | [_, _], _ => rfl, PySem.W.mg_of X G a_power⟩,
   ⟨f_common_measure, _, fun_mk (st := s_common_measure) l_common_measure c_common_measure k_common_measure, (fun_mk (st := s_common_measure) l_common_measure c_common_measure k_common_measure).binds (ps := ["one", "other"]) fun _ _ _ _ _ _ us hl => match us, hl with | [_, _], _ => rfl, PySem.W.mg_of X G a_common_measure⟩,
   ⟨f_added, _, fun_mk (st := s_added) l_added c_added k_added, (fun_mk (st := s_added) l_added c_added k_added).binds (ps := ["base", "one", "other"]) fun _ _ _ _ _ _ us hl => match us, hl with | [_, _, _], _ => rfl, PySem.W.mg_of X G a_added⟩,
   ⟨f_times, _, fun_mk (st := s_times) l_times c_times k_times, (fun_mk (st := s_times) l_times c_times k_times).binds (ps := ["base", "writing", "number"]) fun _ _ _ _ _ _ us hl => match us, hl with | [_, _, _], _ => rfl, PySem.W.mg_of X G a_times⟩,
   ⟨f_result_of, _, fun_mk (st := s_result_of) l_result_of c_result_of k_result_of, (fun_mk (st := s_result_of) l_result_of c_result_of k_result_of).binds (ps := ["base", "top", "bottom"]) fun _ _ _ _ _ _ us hl => match us, hl with | [_, _, _], _ => rfl, PySem.W.mg_of X G a_result_of⟩,
   ⟨f_law_cell_at, _, fun_mk (st := s_law_cell_at) l_law_cell_at c_law_cell_at k_law_cell_at, (fun_mk (st := s_law_cell_at) l_law_cell_at c_law_cell_at k_law_cell_at).binds (ps := ["script", "k"]) fun _ _ _ _ _ _ us hl => match us, hl with | [_, _], _ => rfl, PySem.W.mg_of X G a_law_cell_at⟩,
   ⟨f_law_whole, _, fun_mk (st := s_law_whole) l_law_whole c_law_whole k_law_whole, (fun_mk (st := s_law_whole) l_law_whole c_law_whole k_law_whole).binds (ps := ["found"]) fun _ _ _ _ _ _ us hl => match us, hl with | [_], _ => rfl, PySem.W.mg_of X G a_law_whole⟩,
   ⟨f_law_is_writing, _, fun_mk (st := s_law_is_writing) l_law_is_writing c_law_is_writing k_law_is_writing, (fun_mk (st := s_law_is_writing) l_law_is_writing c_law_is_writing k_law_is_writing).binds (ps := ["found", "due"]) fun _ _ _ _ _ _ us hl => match us, hl with | [_, _], _ => rfl, PySem.W.mg_of X G a_law_is_writing⟩,
   ⟨f_law, _, fun_mk (st := s_law) l_law c_law k_law, (fun_mk (st := s_law) l_law c_law k_law).binds (ps := ["script"]) fun _ _ _ _ _ _ us hl => match us, hl with | [_], _ => rfl, PySem.W.mg_of X G a_law⟩,
   ⟨t_GREATEST_BASE, PySem.W.mg_of X G i_GREATEST_BASE⟩,
   ⟨t_GREATEST_BOTTOM, PySem.W.mg_of X G i_GREATEST_BOTTOM⟩,
   ⟨t_GREATEST_NUMBER, PySem.W.mg_of X G i_GREATEST_NUMBER⟩,
   ⟨t_GREATEST_TOP, PySem.W.mg_of X G i_GREATEST_TOP⟩,
   ⟨t_GREATEST_WHOLE, PySem.W.mg_of X G i_GREATEST_WHOLE⟩,
   ⟨t_LEAST_BASE, PySem.W.mg_of X G i_LEAST_BASE⟩,
   ⟨t_MOST_FIGURES, PySem.W.mg_of X G i_MOST_FIGURES⟩,
   PySem.W.mg_none_of X G b_bool,
   PySem.W.mg_none_of X G b_int,
   PySem.W.mg_none_of X G b_isinstance,
   PySem.W.mg_none_of X G b_len,
   PySem.W.mg_none_of X G b_list,
   PySem.W.mg_none_of X G b_range,
   PySem.W.mg_none_of X G b_tuple,
   ⟨c_NoNumber, ⟨PySem.W.mg_of X G m_NoNumber, e_NoNumber⟩, ref_none (PySem.W.mg_none_of X G b_NoNote) (by decide) e_NoNumber xc_NoNumber⟩,
   ⟨c_TooLong, ⟨PySem.W.mg_of X G m_TooLong, e_TooLong⟩, ref_none (PySem.W.mg_none_of X G b_NoNote) (by decide) e_TooLong xc_TooLong⟩⟩
theorem all_mk {l : PySem.W.OpenLaw} {w : World} {K : PySem.W.Frag} {h : Heap} {mg : Str → Option Value} {fa : Addr} (X : K.In h) (G : h.Ns mainGlobals mg) (hfa : mg "law" = some (.ref fa)) (T : Txt K mg) :
    ∃ fd : FuncData, (∀ (s : Shared) (v : Value), BindsTo s fd ⟨[v], []⟩ [("script", v)]) ∧ ∀ base : Heap, K.In base → base.Ns mainGlobals mg → FnOk l.prog w K mg base CX0 5 fa fd ["script"] (spLaw K) := by
  have D := T.d_law
  obtain ⟨f, fd, F, b, m⟩ := D.ex
  have e := hfa.symm.trans m
  cases e
  refine ⟨fd, fun s v => ?_, fun base _ _ => ok_law T F⟩
  obtain ⟨oc, od, kV, doc, pm, an, cdv, ct, osl, rfl, lk, hcd⟩ := F.ex
  exact .of_eq rfl
theorem walk {l : PySem.W.OpenLaw} {q : Program} {loose : List Str} {XP : (Str → Option Value) → Heap → Prop} {YP : World → Heap → Prop} {d : DefRec} {K : Params → PySem.W.Frag} (hn : l.most = some 63) (hdf : d.params.defaults = [])
    (hY : ∀ (w : World) (h : Heap), YP w h → (K w.params).In h)
    (F : ∀ (w : World) (mg : Str → Option Value) (fa : Addr) (h : Heap), (K w.params).In h → h.Ns mainGlobals mg → mg d.name = some (.ref fa) →
      ∃ fd : FuncData, (∀ (s : Shared) (u : Value), BindsTo s fd ⟨[u], []⟩ [("script", u)]) ∧ ∀ base : Heap, (K w.params).In base → base.Ns mainGlobals mg → FnOk l.prog w (K w.params) mg base CX0 5 fa fd ["script"] (spLaw (K w.params))) :
    PySem.W.WalkO q loose XP YP l.row.toRowW d [] (fun f vs => PySem.call f vs) :=
  L2.walk_of (n := 63) (k := 5) (x := "script") (CX := fun _ => CX0) (sp := fun w => spLaw (K w.params)) hn (by decide) hdf ⟨rfl, by decide, by decide⟩ hY F (fun _ _ a ns hl _ hS => ⟨a, ns, rfl, hS, hl, fun _ => rfl⟩) fun _ _ _ _ _ z => z
end My
open PySem PySem.W PyProof.Rows
set_option maxRecDepth 100000 in
set_option maxHeartbeats 0 in
theorem PySem.Challenge.cw_ringfigures_k13_whole_reckoning_holds : PySem.Challenge.rw_ringfigures_k13_whole_reckoning.Holds := by
  w_on; o_law; k_head; (case hw => w_witness2)
  k_fill
  refine My.walk (l := PySem.Challenge.rw_ringfigures_k13_whole_reckoning) rfl rfl (fun w h Y => PySem.W.kIn_of Y) ?F
  case F =>
    intro w mg fa h KX G hmg
    refine My.all_mk KX G hmg ?T
    refine' My.txt_mk KX G ?a_check_base ?l_check_base ?c_check_base ?k_check_base ?a_check_fraction ?l_check_fraction ?c_check_fraction ?k_check_fraction ?a_check_bottom ?l_check_bottom ?c_check_bottom ?k_check_bottom ?a_check_figures ?l_check_figures ?c_check_figures ?k_check_figures ?a_check_writing ?l_check_writing ?c_check_writing ?k_check_writing ?a_check_number ?l_check_number ?c_check_number ?k_check_number ?a_written ?l_written ?c_written ?k_written ?a_divided_out ?l_divided_out ?c_divided_out ?k_divided_out ?a_worth ?l_worth ?c_worth ?k_worth ?a_number_of ?l_number_of ?c_number_of ?k_number_of ?a_power ?l_power ?c_power ?k_power ?a_common_measure ?l_common_measure ?c_common_measure ?k_common_measure ?a_added ?l_added ?c_added ?k_added ?a_times ?l_times ?c_times ?k_times ?a_result_of ?l_result_of ?c_result_of ?k_result_of ?a_law_cell_at ?l_law_cell_at ?c_law_cell_at ?k_law_cell_at ?a_law_whole ?l_law_whole ?c_law_whole ?k_law_whole ?a_law_is_writing ?l_law_is_writing ?c_law_is_writing ?k_law_is_writing ?a_law ?l_law ?c_law ?k_law ?i_GREATEST_BASE ?i_GREATEST_BOTTOM ?i_GREATEST_NUMBER ?i_GREATEST_TOP ?i_GREATEST_WHOLE ?i_LEAST_BASE ?i_MOST_FIGURES ?b_bool ?b_int ?b_isinstance ?b_len ?b_list ?b_range ?b_tuple ?m_NoNumber ?m_TooLong ?b_NoNote ?e_NoNumber ?xc_NoNumber ?e_TooLong ?xc_TooLong
    (case a_check_base => k_is)
    (case l_check_base => k_is)
    (case c_check_base => k_is)
    (case k_check_base => k_is)
    (case a_check_fraction => k_is)
    (case l_check_fraction => k_is)
    (case c_check_fraction => k_is)
    (case k_check_fraction => k_is)
    (case a_check_bottom => k_is)
    (case l_check_bottom => k_is)
    (case c_check_bottom => k_is)
    (case k_check_bottom => k_is)
    (case a_check_figures => k_is)
    (case l_check_figures => k_is)
    (case c_check_figures => k_is)
    (case k_check_figures => k_is)
    (case a_check_writing => k_is)
    (case l_check_writing => k_is)
    (case c_check_writing => k_is)
    (case k_check_writing => k_is)
    (case a_check_number => k_is)
    (case l_check_number => k_is)
    (case c_check_number => k_is)
    (case k_check_number => k_is)
    (case a_written => k_is)
    (case l_written => k_is)
    (case c_written => k_is)
    (case k_written => k_is)
    (case a_divided_out => k_is)
    (case l_divided_out => k_is)
    (case c_divided_out => k_is)
    (case k_divided_out => k_is)
    (case a_worth => k_is)
    (case l_worth => k_is)
    (case c_worth => k_is)
    (case k_worth => k_is)
    (case a_number_of => k_is)
    (case l_number_of => k_is)
    (case c_number_of => k_is)
    (case k_number_of => k_is)
    (case a_power => k_is)
    (case l_power => k_is)
    (case c_power => k_is)
    (case k_power => k_is)
    (case a_common_measure => k_is)
    (case l_common_measure => k_is)
    (case c_common_measure => k_is)
    (case k_common_measure => k_is)
    (case a_added => k_is)
    (case l_added => k_is)
    (case c_added => k_is)
    (case k_added => k_is)
    (case a_times => k_is)
    (case l_times => k_is)
    (case c_times => k_is)
    (case k_times => k_is)
    (case a_result_of => k_is)
    (case l_result_of => k_is)
    (case c_result_of => k_is)
    (case k_result_of => k_is)
    (case a_law_cell_at => k_is)
    (case l_law_cell_at => k_is)
    (case c_law_cell_at => k_is)
    (case k_law_cell_at => k_is)
    (case a_law_whole => k_is)
    (case l_law_whole => k_is)
    (case c_law_whole => k_is)
    (case k_law_whole => k_is)
    (case a_law_is_writing => k_is)
    (case l_law_is_writing => k_is)
    (case c_law_is_writing => k_is)
    (case k_law_is_writing => k_is)
    (case a_law => k_is)
    (case l_law => k_is)
    (case c_law => k_is)
    (case k_law => k_is)
    (case i_GREATEST_BASE => k_is)
    (case i_GREATEST_BOTTOM => k_is)
    (case i_GREATEST_NUMBER => k_is)
    (case i_GREATEST_TOP => k_is)
    (case i_GREATEST_WHOLE => k_is)
    (case i_LEAST_BASE => k_is)
    (case i_MOST_FIGURES => k_is)
    (case b_bool => k_is)
    (case b_int => k_is)
    (case b_isinstance => k_is)
    (case b_len => k_is)
    (case b_list => k_is)
    (case b_range => k_is)
    (case b_tuple => k_is)
    (case m_NoNumber => k_is)
    (case m_TooLong => k_is)
    (case b_NoNote => k_is)
    (case e_NoNumber => k_exc)
    (case xc_NoNumber => exact ⟨by k_is, by k_is, by k_is, by k_is, by k_is, by k_is, by k_is, ⟨_, by k_is⟩⟩)
    (case e_TooLong => k_exc)
    (case xc_TooLong => exact ⟨by k_is, by k_is, by k_is, by k_is, by k_is, by k_is, by k_is, ⟨_, by k_is⟩⟩)
#print axioms PySem.Challenge.cw_ringfigures_k13_whole_reckoning_holds
