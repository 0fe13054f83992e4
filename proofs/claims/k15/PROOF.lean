import PyProof.Rows.All
import Wide.All
import OpenK.AllK
import Wide.FinOn
import Lean
import PyProof.EqAt
import PyProof.EqKinds
import PyProof.TupleCall
import PySem.Challenge.RW_ringfigures_k15_read_or_refused
set_option Elab.async false
set_option linter.all false
set_option maxRecDepth 100000
/-! THE HAND LAYER, for ints, bools, texts, own classes, LISTS and tuples (index, slices, in, append, pop ..), calls, loops. Paste it whole ahead of your own text; what your proof does not reach may be deleted. -/
namespace L2
open PySem PySem.Spec PyProof.Rows

/-- a key: an int or a str -/
abbrev Key := Sum Int Str
def keyIs : Key → Value → Bool
  | .inl k, v => Value.isInt k v
  | .inr x, v => Value.isStrOf x v
def keyH (w : World) : Key → Int
  | .inl k => hashInt k
  | .inr x => hashStr w x
theorem keyIs_shape : ∀ {k : Key} {v : Value}, keyIs k v = true → (∃ i t, k = Sum.inl i ∧ v = Value.int i t) ∨ (∃ x t, k = Sum.inr x ∧ v = Value.str x t)
  | .inl i, v, h => by
    obtain ⟨t, e⟩ := Value.isInt_shape (k := i) (v := v) h
    exact .inl ⟨i, t, rfl, e⟩
  | .inr x, v, h => by
    obtain ⟨t, e⟩ := Value.isStrOf_shape (x := x) (v := v) h
    exact .inr ⟨x, t, rfl, e⟩
theorem key_ll (a b : Int) : decide ((Sum.inl a : Key) = Sum.inl b) = (a == b) := by
  by_cases e : a = b
  · subst e; simp
  · have h : ¬ (Sum.inl a : Key) = Sum.inl b := fun q => e (Sum.inl.inj q)
    rw [decide_eq_false h]
    exact (beq_eq_false_iff_ne.mpr e).symm
theorem key_rr (a b : Str) : decide ((Sum.inr a : Key) = Sum.inr b) = decide (a = b) := by
  by_cases e : a = b
  · subst e; simp
  · have h : ¬ (Sum.inr a : Key) = Sum.inr b := fun q => e (Sum.inr.inj q)
    rw [decide_eq_false h, decide_eq_false e]
theorem key_lr (a : Int) (b : Str) : decide ((Sum.inl a : Key) = Sum.inr b) = false := decide_eq_false (fun q => nomatch q)
theorem key_rl (a : Str) (b : Int) : decide ((Sum.inr a : Key) = Sum.inl b) = false := decide_eq_false (fun q => nomatch q)

def mixKind (prog : Program) (w : World) : PySem.KeyKind prog w Key where
  is := keyIs
  hash := keyH w
  inj := fun v a b ha hb => by
    rcases keyIs_shape ha with ⟨i, t, rfl, rfl⟩ | ⟨x, t, rfl, rfl⟩
    · rcases keyIs_shape hb with ⟨j, u, rfl, e⟩ | ⟨y, u, rfl, e⟩
      · injection e with e1 _; rw [e1]
      · exact nomatch e
    · rcases keyIs_shape hb with ⟨j, u, rfl, e⟩ | ⟨y, u, rfl, e⟩
      · exact nomatch e
      · injection e with e1 _; rw [e1]
  byValue := fun k v h => by
    rcases keyIs_shape h with ⟨i, t, rfl, rfl⟩ | ⟨x, t, rfl, rfl⟩ <;> rfl
  pyHash := fun hv h => by
    rcases keyIs_shape hv with ⟨i, t, rfl, rfl⟩ | ⟨x, t, rfl, rfl⟩
    · exact wpAny_pyHash_int h
    · exact wpAny_pyHash_str h
  eqBool := fun hu hv h => by
    rcases keyIs_shape hu with ⟨i, t, rfl, rfl⟩ | ⟨x, t, rfl, rfl⟩
    · rcases keyIs_shape hv with ⟨j, u, rfl, rfl⟩ | ⟨y, u, rfl, rfl⟩
      · rw [key_ll] at h; exact wpAny_eqBool_int h
      · rw [key_lr] at h; exact SeqAt.EqAt.int_str i t y u _ _ _ _ h
    · rcases keyIs_shape hv with ⟨j, u, rfl, rfl⟩ | ⟨y, u, rfl, rfl⟩
      · rw [key_rl] at h; exact SeqAt.EqAt.str_int x t j u _ _ _ _ h
      · rw [key_rr] at h; exact wpAny_eqBool_str h
  «strs» := fun k x t v h => by
    rcases keyIs_shape h with ⟨i, u, rfl, e⟩ | ⟨y, u, rfl, e⟩
    · exact nomatch e
    · injection e with e1 _
      subst e1
      cases v <;> rfl

end L2

namespace L2
open PySem PySem.Spec PyProof.Rows

/-- a value, without the heap -/
inductive V where
  | non | bl (b : Bool) | int (i : Int) | str (x : Str) | byt (b : Array UInt8) | flt (b : UInt64) | ref (a : Addr) | ty (n : String)
  deriving DecidableEq

def RelV : V → Value → Prop
  | .non, u => u = Value.none
  | .bl b, u => u = Value.bool b
  | .int i, u => ∃ t, u = Value.int i t
  | .str x, u => ∃ t, u = Value.str x t
  | .byt b, u => ∃ t, u = Value.bytes b t
  | .flt b, u => ∃ t, u = Value.float b t
  | .ref a, u => u = Value.ref a
  | .ty n, u => u = Value.type n

abbrev Vals : List V → List Value → Prop := Paired RelV
theorem Vals.length {xs : List V} {us : List Value} (r : Vals xs us) : xs.length = us.length := Paired.length r
theorem Vals.get : ∀ {xs : List V} {us : List Value} {i : Nat} {x : V}, Vals xs us → xs[i]? = some x → ∃ u, us[i]? = some u ∧ RelV x u
  | _, _, _, _, .nil, e => by simp at e
  | _, _, 0, _, .cons r _, e => by simp at e; subst e; exact ⟨_, rfl, r⟩
  | _, _, i + 1, x, .cons _ t, e => by
    obtain ⟨u, h1, h2⟩ := Vals.get (i := i) (x := x) t (by simpa using e)
    exact ⟨u, by simpa using h1, h2⟩
theorem Vals.set {x : V} {u : Value} (r : RelV x u) : ∀ {xs : List V} {us : List Value} (i : Nat), Vals xs us → Vals (xs.set i x) (us.set i u)
  | _, _, _, .nil => .nil
  | _, _, 0, .cons _ t => .cons r t
  | _, _, i + 1, .cons q t => .cons q (Vals.set r i t)
theorem Vals.append : ∀ {xs ys : List V} {us ws : List Value}, Vals xs us → Vals ys ws → Vals (xs ++ ys) (us ++ ws)
  | _, _, _, _, .nil, s => s
  | _, _, _, _, .cons r t, s => .cons r (Vals.append t s)
theorem Vals.take : ∀ {xs : List V} {us : List Value} (n : Nat), Vals xs us → Vals (xs.take n) (us.take n)
  | _, _, 0, _ => .nil
  | _, _, _ + 1, .nil => .nil
  | _, _, n + 1, .cons r t => .cons r (Vals.take n t)
theorem Vals.drop : ∀ {xs : List V} {us : List Value} (n : Nat), Vals xs us → Vals (xs.drop n) (us.drop n)
  | _, _, 0, r => r
  | _, _, _ + 1, .nil => .nil
  | _, _, n + 1, .cons _ t => Vals.drop n t
def RelO : Option V → Option Value → Prop
  | some v, some u => RelV v u
  | none, none => True
  | _, _ => False
def KV {κ : Type} : List (κ × V) → List (κ × Value) → Prop := Paired fun (p : κ × V) (q : κ × Value) => p.1 = q.1 ∧ RelV p.2 q.2

/-- a key of a dict (00_mix): an int or a text -/
def kV : Key → V
  | .inl i => .int i
  | .inr x => .str x

/-- what stands at a tracked address -/
inductive HO where
  /-- a list -/
  | lst (xs : List V)
  /-- a tuple (never changes) -/
  | tup (xs : List V)
  /-- a dict whose keys are ints and texts; one whose keys are tuples of ints and texts (the empty one is both) -/
  | dK (kvs : List (Key × V)) | dT (kvs : List (List Key × V))
  /-- a set of ints: its members, its size -/
  | set (S : Int → Bool) (n : Nat)
  /-- an instance of the class at C, its dict at dx, its attributes -/
  | ins (C dx : Addr) (fs : List (Str × V))
  /-- the dict of the instance at x -/
  | own (x : Addr)
  /-- the dict of an exception -/
  | xd (fs : List (Str × V))
  /-- a bound method, f of x -/
  | met (f x : Addr)
  /-- a range object lo, lo + 1, .. below hi -/
  | rng (lo hi : Int)
  /-- a thing that is known to the object (the script; a dict while a loop walks it): read, never written while it is so -/
  | frz (o : Obj) (u : HO)
  /-- a code object's table -/
  | tbl (ps : Array Value)
  /-- any other thing, by what is true of its one object (a def of one's own: SetO a S n := HO.ext fun h => ..) -/
  | ext (φ : Heap → Prop)

abbrev Hp := Addr → Option HO
def upd (H : Hp) (a : Addr) (o : HO) : Hp := fun b => if b = a then some o else H b
theorem upd_same {H : Hp} {a : Addr} {o : HO} : upd H a o a = some o := by unfold upd; rw [if_pos rfl]
theorem upd_ne {H : Hp} {a b : Addr} {o : HO} (h : b ≠ a) : upd H a o b = H b := by unfold upd; rw [if_neg h]
theorem upd_upd {H : Hp} {a : Addr} {o u : HO} : upd (upd H a o) a u = upd H a u := by
  funext b; unfold upd; split <;> rfl
theorem ne_of_none {H : Hp} {a b : Addr} {o : HO} (h : H a = some o) (h' : H b = none) : a ≠ b := by
  intro e; subst e; rw [h] at h'; cases h'

section
variable (P : Program) (w : World)
def ObjOk (H : Hp) (h : Heap) (a : Addr) : HO → Prop
  | .lst xs => xs.length ≤ sizeLine ∧ ∃ (its : List Value) (n : Nat), Vals xs its ∧ h.get? a = some { cls := .type "list", data := .seq its.toArray n }
  | .tup xs => xs.length ≤ sizeLine ∧ ∃ its : List Value, Vals xs its ∧ IsTup h a its.toArray
  | .dK kvs => kvs.length ≤ sizeLine ∧ (a == sysModules) = false ∧ ∃ vs, KV kvs vs ∧ h.DictOf (mixKind P w) a vs
  | .dT kvs => kvs.length ≤ sizeLine ∧ (a == sysModules) = false ∧ ∃ xs : List (List Key × Addr × Value),
      Paired (fun (p : List Key × V) (q : List Key × Addr × Value) => p.1 = q.1 ∧ H q.2.1 = some (.tup (p.1.map kV)) ∧ RelV p.2 q.2.2) kvs xs ∧
      ∃ o es ep, h.get? a = some o ∧ o.ExactDict ∧ o.data = .dict es ep ∧ es.toList = xs.map (entryOfKey (tupleKind (mixKind P w))) ∧ (xs.map (·.1)).Nodup
  | .set S n => h.SetOf (intKind P w) a S n
  | .ins C dx fs => H dx = some (.own a) ∧ fs.length ≤ 1000 ∧ dx ≠ a ∧ h.get? a = some (PySem.W.instObj C dx) ∧
      ∃ mA, h.Ns1 dx mA ∧ (∀ f, RelO (fs.lookup f) (mA f)) ∧ PySem.Within mA (fs.map (·.1))
  | .own _ => ∃ o, h.get? a = some o
  | .xd fs => ∃ mA, h.Ns1 a mA ∧ ∀ f, RelO (fs.lookup f) (mA f)
  | .rng lo hi => ∃ t u v, h.get? a = some { cls := .type "range", data := .fields #[.int lo t, .int hi u, .int 1 v] }
  | .frz o u => h.get? a = some o ∧ ObjOk H h a u
  | .tbl ps => h.get? a = some { cls := .none, data := .fields ps }
  | .met f x => h.get? a = some (PySem.W.methodObj (.ref f) (.ref x))
  | .ext φ => φ h ∧ (∃ o, h.get? a = some o) ∧ ∀ h1 h2 : Heap, φ h1 → (∀ o, h1.get? a = some o → h2.get? a = some o) → φ h2
/-- the abstract heap is held -/
def HOk (H : Hp) (h : Heap) : Prop := ∀ a o, H a = some o → ObjOk P w H h a o
end

section
variable {P : Program} {w : World} {H H' : Hp} {h h' : Heap} {a : Addr} {o : HO}
theorem ObjOk.lt (x : ObjOk P w H h a o) : a < h.objs.size := by
  cases o with
  | lst xs => obtain ⟨_, _, _, _, e⟩ := x; exact Heap.lt_size e
  | tup xs => obtain ⟨_, _, _, p⟩ := x; exact p.lt
  | dK kvs => obtain ⟨_, _, _, _, o, _, _, e, _⟩ := x; exact Heap.lt_size e
  | dT kvs => obtain ⟨_, _, _, _, o, _, _, e, _⟩ := x; exact Heap.lt_size e
  | set S n => obtain ⟨o, _, _, _, e, _⟩ := x; exact Heap.lt_size e
  | ins C dx fs => obtain ⟨_, _, _, e, _⟩ := x; exact Heap.lt_size e
  | own y => obtain ⟨_, e⟩ := x; exact Heap.lt_size e
  | xd fs => obtain ⟨_, ⟨_, _, _, e, _⟩, _⟩ := x; exact Heap.lt_size e
  | rng lo hi => obtain ⟨_, _, _, e⟩ := x; exact Heap.lt_size e
  | frz ob u => obtain ⟨e, _⟩ := x; exact Heap.lt_size e
  | tbl ps => exact Heap.lt_size (show h.get? a = some _ from x)
  | met f y => exact Heap.lt_size (show h.get? a = some _ from x)
  | ext φ => obtain ⟨_, ⟨_, e⟩, _⟩ := x; exact Heap.lt_size e
theorem Paired.mapP {α β : Type} {F G : α → β → Prop} : ∀ {l₁ : List α} {l₂ : List β}, Paired F l₁ l₂ → (∀ a b, F a b → G a b) → Paired G l₁ l₂
  | _, _, .nil, _ => .nil
  | _, _, .cons r t, f => .cons (f _ _ r) (Paired.mapP t f)
/-- what an object's description leans on: its own object, its own dict, the tuples -/
theorem ObjOk.stay (x : ObjOk P w H h a o) (k : ∀ b u, (b = a ∨ H b = some (.own a)) → h.get? b = some u → h'.get? b = some u)
    (ho : ∀ b, H b = some (.own a) → H' b = some (.own a)) (ht : ∀ b xs, H b = some (.tup xs) → H' b = some (.tup xs)) : ObjOk P w H' h' a o := by
  induction o with
  | lst xs => obtain ⟨z, its, n, r, e⟩ := x; exact ⟨z, its, n, r, k _ _ (.inl rfl) e⟩
  | tup xs => obtain ⟨z, its, r, ob, e, c⟩ := x; exact ⟨z, its, r, ob, k _ _ (.inl rfl) e, c⟩
  | dK kvs => obtain ⟨z, y, vs, r, ob, es, ep, e, c⟩ := x; exact ⟨z, y, vs, r, ob, es, ep, k _ _ (.inl rfl) e, c⟩
  | dT kvs =>
    obtain ⟨z, y, xs, r, ob, es, ep, e, c⟩ := x
    exact ⟨z, y, xs, Paired.mapP r fun p q z => ⟨z.1, ht _ _ z.2.1, z.2.2⟩, ob, es, ep, k _ _ (.inl rfl) e, c⟩
  | set S n => obtain ⟨ob, es, ep, t, e, c⟩ := x; exact ⟨ob, es, ep, t, k _ _ (.inl rfl) e, c⟩
  | ins C dx fs =>
    obtain ⟨d, z, ne, e, mA, ⟨od, es, ep, e2, c⟩, r⟩ := x
    exact ⟨ho _ d, z, ne, k _ _ (.inl rfl) e, mA, ⟨od, es, ep, k _ _ (.inr d) e2, c⟩, r⟩
  | own y => obtain ⟨ob, e⟩ := x; exact ⟨ob, k _ _ (.inl rfl) e⟩
  | xd fs => obtain ⟨mA, ⟨od, es, ep, e, c⟩, r⟩ := x; exact ⟨mA, ⟨od, es, ep, k _ _ (.inl rfl) e, c⟩, r⟩
  | rng lo hi => obtain ⟨t, u, v, e⟩ := x; exact ⟨t, u, v, k _ _ (.inl rfl) e⟩
  | frz ob u ih => obtain ⟨e, q⟩ := x; exact ⟨k _ _ (.inl rfl) e, ih q⟩
  | tbl ps =>
    have e : h.get? a = some { cls := .none, data := .fields ps } := x
    show h'.get? a = some { cls := .none, data := .fields ps }
    exact k a _ (.inl rfl) e
  | met f y =>
    have e : h.get? a = some (PySem.W.methodObj (.ref f) (.ref y)) := x
    show h'.get? a = some (PySem.W.methodObj (.ref f) (.ref y))
    exact k a _ (.inl rfl) e
  | ext φ => obtain ⟨p, ⟨o, e⟩, st⟩ := x; exact ⟨st _ _ p fun o q => k _ _ (.inl rfl) q, ⟨o, k _ _ (.inl rfl) e⟩, st⟩
theorem HOk.lt (x : HOk P w H h) (e : H a = some o) : a < h.objs.size := (x a o e).lt
theorem HOk.fresh (x : HOk P w H h) (e : h.objs.size ≤ a) : H a = none := by
  cases q : H a with
  | none => rfl
  | some u => exact absurd (Nat.lt_of_lt_of_le (x.lt q) e) (Nat.lt_irrefl _)
/-- every object of the heap is kept -/
theorem HOk.kept (x : HOk P w H h) (k : ∀ b u, h.get? b = some u → h'.get? b = some u) : HOk P w H h' := fun a o e =>
  (x a o e).stay (fun b u _ q => k b u q) (fun _ q => q) fun _ _ q => q
/-- a new object is laid and tracked -/
theorem HOk.laid (x : HOk P w H h) (k : ∀ b u, h.get? b = some u → h'.get? b = some u) (hp : h.objs.size ≤ a) (new : ObjOk P w (upd H a o) h' a o) : HOk P w (upd H a o) h' := fun b u e => by
  have hn := x.fresh hp
  by_cases hb : b = a
  · subst hb; rw [upd_same] at e; cases e; exact new
  · rw [upd_ne hb] at e
    exact (x b u e).stay (fun c v _ q => k c v q) (fun c q => by rw [upd_ne (ne_of_none q hn)]; exact q) fun c xs q => by rw [upd_ne (ne_of_none q hn)]; exact q
end

/-- what may be read as u: it is u, or a known u -/
def Rd (H : Hp) (a : Addr) (u : HO) : Prop := H a = some u ∨ ∃ o, H a = some (.frz o u)
theorem Rd.of {H : Hp} {a : Addr} {u : HO} (h : H a = some u) : Rd H a u := .inl h
theorem Rd.ok {P : Program} {w : World} {H : Hp} {h : Heap} {a : Addr} {u : HO} (r : Rd H a u) (x : HOk P w H h) : ObjOk P w H h a u := by
  rcases r with r | ⟨o, r⟩
  · exact x a u r
  · obtain ⟨_, q⟩ := x a _ r
    exact q
/-- what may be written -/
def Mut : Option HO → Prop
  | some (.lst _) => True
  | some (.dK _) => True
  | some (.dT _) => True
  | some (.set _ _) => True
  | some (.ins _ _ _) => True
  | some (.ext _) => True
  | _ => False
section
variable {P : Program} {w : World} {H : Hp} {h h' : Heap} {x e : Addr} {o' : HO}
/-- the object at e is changed: x itself, or the dict of the instance x -/
theorem HOk.write (ok : HOk P w H h) (mu : Mut (H x)) (he : e = x ∨ H e = some (.own x)) (k : ∀ b u, b ≠ e → h.get? b = some u → h'.get? b = some u) (heo : ∃ u, h'.get? e = some u)
    (new : ObjOk P w (upd H x o') h' x o') : HOk P w (upd H x o') h' := fun b u q => by
  have nown : ∀ c y, H c = some (.own y) → c ≠ x := fun c y r z => by subst z; rw [r] at mu; exact mu
  have ntup : ∀ c xs, H c = some (.tup xs) → c ≠ x := fun c xs r z => by subst z; rw [r] at mu; exact mu
  by_cases hb : b = x
  · subst hb; rw [upd_same] at q; cases q; exact new
  · rw [upd_ne hb] at q
    by_cases hbe : b = e
    · have q' : H b = some (.own x) := by
        rcases he with z | z
        · exact absurd (hbe.trans z) hb
        · rw [hbe]; exact z
      rw [q] at q'; cases q'
      obtain ⟨v, hv⟩ := heo
      exact ⟨v, by rw [hbe]; exact hv⟩
    · refine (ok b u q).stay (fun c v hc r => k c v ?_ r) (fun c r => by rw [upd_ne (nown c b r)]; exact r) fun c xs r => by rw [upd_ne (ntup c xs r)]; exact r
      rcases hc with rfl | hc
      · exact hbe
      · rintro rfl
        rcases he with z | z
        · exact nown c b hc z
        · rw [hc] at z; cases z; exact hb rfl
end

/-! ### kept unless tracked; of the frames at fs (the callers') the slots may change (an exception that passes writes there); of the records at ex (iterators) nothing is said -/
structure Un (fs ex : List Addr) (H H' : Hp) (h h' : Heap) : Prop where
  keep : ∀ b o, h.get? b = some o → H b = none → b ∉ fs → b ∉ ex → h'.get? b = some o
  slot : ∀ b o, h.get? b = some o → H b = none → b ∈ fs → b ∉ ex → ∃ sl, h'.get? b = some { o with slots := sl }
  free : ∀ b o, h.get? b = some o → H b = none → b ∉ ex → H' b = none
  there : ∀ b o, h.get? b = some o → b ∉ ex → ∃ o', h'.get? b = some o'
  tups : ∀ b xs, H b = some (.tup xs) → H' b = some (.tup xs)
  frzs : ∀ b o u, H b = some (.frz o u) → H' b = some (.frz o u)
  tbls : ∀ b ps, H b = some (.tbl ps) → ∃ more, H' b = some (.tbl (ps ++ more))
section
variable {fs fs' ex ex' : List Addr} {H H1 H2 : Hp} {h h1 h2 h' : Heap} {a x e : Addr} {o : HO}
theorem Un.any (u : Un fs ex H H1 h h1) {b : Addr} {ob : Obj} (q : h.get? b = some ob) (n : H b = none) (hx : b ∉ ex) : ∃ sl, h1.get? b = some { ob with slots := sl } := by
  by_cases hb : b ∈ fs
  · exact u.slot b ob q n hb hx
  · exact ⟨ob.slots, u.keep b ob q n hb hx⟩
theorem Un.trans (a : Un fs ex H H1 h h1) (b : Un fs ex H1 H2 h1 h2) : Un fs ex H H2 h h2 where
  keep := fun c ob q n hc hx => b.keep c ob (a.keep c ob q n hc hx) (a.free c ob q n hx) hc hx
  slot := fun c ob q n hc hx => by
    obtain ⟨sl, e1⟩ := a.slot c ob q n hc hx
    obtain ⟨sl', e2⟩ := b.slot c _ e1 (a.free c ob q n hx) hc hx
    exact ⟨sl', e2⟩
  free := fun c ob q n hx => by
    obtain ⟨o', e1⟩ := a.there c ob q hx
    exact b.free c o' e1 (a.free c ob q n hx) hx
  there := fun c ob q hx => by
    obtain ⟨o', e1⟩ := a.there c ob q hx
    exact b.there c o' e1 hx
  tups := fun c xs q => b.tups c xs (a.tups c xs q)
  frzs := fun c ob xs q => b.frzs c ob xs (a.frzs c ob xs q)
  tbls := fun c ps q => by
    obtain ⟨m1, e1⟩ := a.tbls c ps q
    obtain ⟨m2, e2⟩ := b.tbls c _ e1
    exact ⟨m1 ++ m2, by rw [e2, Array.append_assoc]⟩
theorem Un.kept (k : ∀ b u, h.get? b = some u → h'.get? b = some u) : Un fs ex H H h h' :=
  ⟨fun b ob q _ _ _ => k b ob q, fun b ob q _ _ _ => ⟨ob.slots, k b ob q⟩, fun _ _ _ n _ => n, fun b ob q _ => ⟨ob, k b ob q⟩, fun _ _ q => q, fun _ _ _ q => q, fun _ ps q => ⟨#[], by rw [q]; simp⟩⟩
theorem Un.refl : Un fs ex H H h h := Un.kept fun _ _ q => q
theorem Un.laid (k : ∀ b u, h.get? b = some u → h'.get? b = some u) (hp : h.objs.size ≤ a) (hn : H a = none) : Un fs ex H (upd H a o) h h' where
  keep := fun b u q _ _ _ => k b u q
  slot := fun b u q _ _ _ => ⟨u.slots, k b u q⟩
  free := fun b u q n _ => by rw [upd_ne (Nat.ne_of_lt (Nat.lt_of_lt_of_le (Heap.lt_size q) hp))]; exact n
  there := fun b u q _ => ⟨u, k b u q⟩
  tups := fun b xs q => by rw [upd_ne (ne_of_none q hn)]; exact q
  frzs := fun b u xs q => by rw [upd_ne (ne_of_none q hn)]; exact q
  tbls := fun b ps q => ⟨#[], by rw [upd_ne (ne_of_none q hn), q]; simp⟩
theorem Un.write (mu : Mut (H x)) (he : e = x ∨ H e = some (.own x)) (k : ∀ b u, b ≠ e → h.get? b = some u → h'.get? b = some u) (heo : ∃ u, h'.get? e = some u) : Un fs ex H (upd H x o) h h' := by
  have hx : ∀ b, H b = none → b ≠ x := fun b n z => by subst z; rw [n] at mu; exact mu
  have hb : ∀ b, H b = none → b ≠ e := fun b n z => by
    subst z
    rcases he with r | r
    · exact hx b n r
    · rw [n] at r; cases r
  have hm : ∀ b u, H b = some u → ¬ Mut (some u) → b ≠ x := fun b u q nm z => by subst z; rw [q] at mu; exact nm mu
  refine ⟨fun b u q n _ _ => k b u (hb b n) q, fun b u q n _ _ => ⟨u.slots, k b u (hb b n) q⟩, fun b u q n _ => by rw [upd_ne (hx b n)]; exact n, fun b u q _ => ?_,
    fun b xs q => by rw [upd_ne (hm b _ q fun z => z)]; exact q, fun b u xs q => by rw [upd_ne (hm b _ q fun z => z)]; exact q, fun b ps q => ⟨#[], by rw [upd_ne (hm b _ q fun z => z), q]; simp⟩⟩
  by_cases hbe : b = e
  · subst hbe; exact heo
  · exact ⟨u, k b u hbe q⟩
theorem Un.mono (u : Un fs ex H H1 h h1) (hs : ∀ b ∈ fs, b ∈ fs') (hx : ∀ b ∈ ex, b ∈ ex') : Un fs' ex' H H1 h h1 :=
  ⟨fun b ob q n hb he => u.keep b ob q n (fun z => hb (hs b z)) fun z => he (hx b z), fun _ _ q n _ he => u.any q n fun z => he (hx _ z), fun b ob q n he => u.free b ob q n fun z => he (hx b z), fun b ob q he => u.there b ob q fun z => he (hx b z), u.tups, u.frzs, u.tbls⟩
end

/-! ### the heap without what is tracked -/
def trk (h : Heap) (H : Hp) : List Addr := (List.range h.objs.size).filter fun a => (H a).isSome
def hidT (h : Heap) (H : Hp) : Heap := PySem.W.hideAll h (trk h H)
theorem hidT_size (h : Heap) (H : Hp) : (hidT h H).objs.size = h.objs.size := PySem.W.hideAll_size _ _
theorem hidT_get {h : Heap} {H : Hp} {b : Addr} {o : Obj} (e : h.get? b = some o) (n : H b = none) : (hidT h H).get? b = some o :=
  PySem.W.hideAll_get _ e fun hm => by
    have q : (H b).isSome = true := (List.mem_filter.mp hm).2
    rw [n] at q; simp at q
theorem of_hidT {h : Heap} {H : Hp} {b : Addr} {o : Obj} (e : (hidT h H).get? b = some o) : h.get? b = some o ∧ H b = none := by
  have e' : h.get? b = some o := PySem.W.of_hideAll (trk h H) e
  refine ⟨e', ?_⟩
  cases q : H b with
  | none => rfl
  | some x =>
    have hm : b ∈ trk h H := List.mem_filter.mpr ⟨List.mem_range.mpr (Heap.lt_size e'), by simp [q]⟩
    have z : (hidT h H).get? b = none := PySem.W.hideAll_none (trk h H) hm
    rw [z] at e; cases e

/-! ### OpenK's ledger, filled with every new object but one -/
def allNews (g h : Heap) (L : Addr) : List (Addr × Obj) := (List.range h.objs.size).filterMap fun a => if a = L ∨ (g.get? a).isSome = true then none else (h.get? a).map fun o => (a, o)
def rest (g h : Heap) (L d : Addr) : List (Addr × Obj) := (allNews g h L).filter fun p => decide (p.1 ≠ d)
end L2

namespace L2
open PySem PySem.Spec PyProof.Rows

/-- the module's facts, over the base: the heap at the law's entry without what is tracked there -/
structure Mod (K : PySem.W.Frag) (mg : Str → Option Value) (base : Heap) : Prop where
  kin : K.In base
  glob : base.Ns mainGlobals mg
  blt : ∃ mb, base.Ns builtinsNs mb ∧ ∀ x : Str, x ≠ "__name__" → mb x = bootBuiltins x
  nolimit : base.NoLimit

/-- the context: a def's body (or a comprehension's block) running. base: fixed through the whole law; s₀, H₀: the entry; outer: the frames whose slots others may change (a def's callers); stack: all frames that run;
   ex: iterators that were made ahead of the entry and are walked here (a comprehension's); fn: the names whose cells were made at the entry (a def: all; a comprehension's block: its own); calm: not within an except suite; pn: pins that every state bears; xe: what is wanted of an exception that leaves the code -/
structure Cx where
  prog : Program
  w : World
  K : PySem.W.Frag
  mg : Str → Option Value
  base : Heap
  A : Around
  N : List Str
  s₀ : Shared
  H₀ : Hp
  env : Env
  outer : List Env
  stack : List Env
  ex : List Addr
  fn : Str → Bool
  calm : Bool
  pn : List (Addr × Obj)
  xe : Value → Shared → Prop
/-- the callers' frames -/
def frs (l : List Env) : List Addr := l.filterMap (·.frame)
abbrev Cx.fs (X : Cx) : List Addr := frs X.outer

def Vis (sc : Scope) (x : Str) : Prop := sc.names.lookup x = some .local ∨ sc.names.lookup x = some .cell ∨ sc.names.lookup x = some .free
def Loc (sc : Scope) (x : Str) : Prop := sc.names.lookup x = some .local ∨ sc.names.lookup x = some .cell
def Look (env : Env) (h : Heap) (m : Str → Option Value) (x : Str) (u : Value) : Prop :=
  (env.kindOf x = some .local ∧ m x = some u) ∨ ((env.kindOf x = some .cell ∨ env.kindOf x = some .free) ∧ ∃ c, env.cells.lookup x = some c ∧ h.IsCell c (some u))

structure Cx.Ok (X : Cx) : Prop where
  mod : Mod X.K X.mg X.base
  kind : X.env.scope.kind = .function
  glob : X.env.globals = mainGlobals
  blt : X.env.builtins = builtinsNs
  above : X.s₀.heap.objs.size ≤ X.env.locals
  inj : ∀ x y c, X.env.cells.lookup x = some c → X.env.cells.lookup y = some c → x = y
  has : ∀ x, (X.env.kindOf x = some .cell ∨ X.env.kindOf x = some .free) → ∃ c, X.env.cells.lookup x = some c
  cab : ∀ x c, X.fn x = true → X.env.cells.lookup x = some c → X.s₀.heap.objs.size ≤ c
  hd : X.calm = true → X.A.handled = none
  frames : X.A.frames = some X.stack
  stk : X.stack = X.outer ∨ (X.stack = X.env :: X.outer ∧ X.env.frame = some X.env.locals)
  exf : ∀ b ∈ X.ex, b ≠ X.env.locals ∧ ∀ x c, X.env.cells.lookup x = some c → c ≠ b
  bs : ∀ b o, X.base.get? b = some o → X.s₀.heap.get? b = some o ∧ X.H₀ b = none
  bsz : X.base.objs.size ≤ X.s₀.heap.objs.size
  noex : ∀ b o, X.base.get? b = some o → b ∉ X.ex
  exfs : ∀ b ∈ X.ex, b ∉ X.fs
  funs : X.s₀.heap.FunFrames X.base X.outer
  frf : ∀ b ∈ X.fs, X.H₀ b = none

structure Inv (X : Cx) (pins : List (Addr × Obj)) (σ : List (Option V)) (H : Hp) (s : Shared) : Prop where
  ok : X.Ok
  os : s.os = X.s₀.os
  bare : AllBare s.gens
  base : Un X.fs X.ex X.H₀ H X.s₀.heap s.heap
  loc : ∃ m, s.heap.Ns X.env.locals m ∧ ∀ (i : Nat) (x : Str) (v : V), X.N[i]? = some x → σ[i]? = some (some v) → Vis X.env.scope x → ∃ u, RelV v u ∧ Look X.env s.heap m x u
  cell : ∀ x c, X.env.cells.lookup x = some c → ∃ v, s.heap.IsCell c v
  free : H X.env.locals = none
  freeC : ∀ x c, X.env.cells.lookup x = some c → H c = none
  pin : ∀ p ∈ X.pn ++ pins, s.heap.get? p.1 = some p.2 ∧ H p.1 = none ∧ p.1 ≠ X.env.locals ∧ p.1 ∉ X.fs ∧ ∀ v, p.2.data ≠ .cell v
  hok : HOk X.prog X.w H s.heap
  len : σ.length = X.N.length

section
variable {X : Cx} {pins : List (Addr × Obj)} {σ : List (Option V)} {H H' : Hp} {s : Shared} {h' : Heap}

theorem Cx.Ok.nofr (ok : X.Ok) {b : Addr} {o : Obj} (e : X.base.get? b = some o) : b ∉ X.fs := fun hb => by
  have := (ok.funs.mem hb).1
  rw [e] at this; cases this
theorem Inv.bs (I : Inv X pins σ H s) : ∀ b o, X.base.get? b = some o → s.heap.get? b = some o ∧ H b = none := fun b o e =>
  ⟨I.base.keep b o (I.ok.bs b o e).1 (I.ok.bs b o e).2 (I.ok.nofr e) (I.ok.noex b o e), I.base.free b o (I.ok.bs b o e).1 (I.ok.bs b o e).2 (I.ok.noex b o e)⟩
theorem Inv.bk (I : Inv X pins σ H s) : ∀ b o, X.base.get? b = some o → s.heap.get? b = some o := fun b o e => (I.bs b o e).1
theorem Inv.mod (I : Inv X pins σ H s) : Mod X.K X.mg X.base := I.ok.mod
theorem Inv.kIn (I : Inv X pins σ H s) : X.K.In s.heap := I.ok.mod.kin.keeps I.bk
theorem Inv.nolimit (I : Inv X pins σ H s) : s.heap.NoLimit := I.ok.mod.nolimit.keeps I.bk
/-- the frame over the base: for OpenK's rules (K.In X.base is I.mod.kin) -/
theorem Inv.fr (I : Inv X pins σ H s) : ∃ m, Fr X.base X.env.locals s.heap m :=
  let ⟨m, hn, _⟩ := I.loc
  ⟨m, hn, I.bk, Nat.le_trans I.ok.bsz I.ok.above⟩
theorem Inv.lt (I : Inv X pins σ H s) : X.env.locals < s.heap.objs.size := let ⟨_, hn, _⟩ := I.loc; hn.lt
theorem Inv.sz (I : Inv X pins σ H s) : X.s₀.heap.objs.size ≤ s.heap.objs.size := Nat.le_trans I.ok.above (Nat.le_of_lt I.lt)
theorem Inv.nofs (I : Inv X pins σ H s) {a : Addr} (h : s.heap.objs.size ≤ a) : a ∉ X.fs := fun hb => by
  obtain ⟨_, o, ho, _⟩ := I.ok.funs.mem hb
  exact absurd (Nat.lt_of_lt_of_le (Heap.lt_size ho) (Nat.le_trans I.sz h)) (Nat.lt_irrefl _)
theorem Inv.cne (I : Inv X pins σ H s) : ∀ x c, X.env.cells.lookup x = some c → c ≠ X.env.locals := fun x c e z => by
  obtain ⟨v, o, ho, hd⟩ := I.cell x c e
  obtain ⟨m, ⟨o', es, ep, ho', hd', _⟩, _⟩ := I.loc
  rw [z, ho'] at ho; cases ho; rw [hd'] at hd; cases hd
theorem Inv.funs (I : Inv X pins σ H s) : s.heap.FunFrames X.base X.outer := by
  have all : ∀ (l : List Env), (∀ b ∈ frs l, b ∈ X.fs) → X.s₀.heap.FunFrames X.base l → s.heap.FunFrames X.base l := by
    intro l
    induction l with
    | nil => intro _ _; trivial
    | cons env r ih =>
      intro hs hl
      obtain ⟨hk, ⟨L, o, hf, hn, ho, hd⟩, hr⟩ := hl
      have hL : L ∈ X.fs := hs L (by unfold frs; rw [List.filterMap_cons, hf]; exact List.mem_cons_self)
      obtain ⟨sl, e⟩ := I.base.slot L o ho (I.ok.frf L hL) hL fun z => I.ok.exfs L z hL
      exact ⟨hk, ⟨L, _, hf, hn, e, hd⟩, ih (fun b hb => hs b (by unfold frs; rw [List.filterMap_cons, hf]; exact List.mem_cons_of_mem _ hb)) hr⟩
  exact all X.outer (fun _ hb => hb) I.ok.funs

/-- the frames that run, for a call -/
theorem Inv.stack (I : Inv X pins σ H s) : s.heap.FunFrames X.base X.stack := by
  rcases I.ok.stk with e | ⟨e, hf⟩
  · rw [e]; exact I.funs
  · rw [e]
    obtain ⟨m, hn, _⟩ := I.loc
    refine .cons (by rw [I.ok.kind]; decide) hf hn ?_ I.funs
    exact Heap.get?_none_of_le (Nat.le_trans I.ok.bsz I.ok.above)
theorem Inv.stkSub (I : Inv X pins σ H s) : ∀ b ∈ frs X.stack, b ∈ X.env.locals :: X.fs := fun b hb => by
  rcases I.ok.stk with e | ⟨e, hf⟩
  · rw [e] at hb; exact List.mem_cons_of_mem _ hb
  · rw [e] at hb
    unfold frs at hb
    rw [List.filterMap_cons, hf] at hb
    exact hb
theorem Inv.stkFree (I : Inv X pins σ H s) : ∀ b ∈ frs X.stack, H b = none := fun b hb => by
  rcases List.mem_cons.mp (I.stkSub b hb) with e | hb
  · rw [e]; exact I.free
  · obtain ⟨_, o, ho, _⟩ := I.ok.funs.mem hb
    exact I.base.free b o ho (I.ok.frf b hb) fun z => I.ok.exfs b z hb

/-- THE STEP: the untracked objects but the frame and the records at ch are kept (the callers' frames up to slots), the frame's map is kept, the new abstract heap is held -/
theorem Inv.step {g' : Array GenState} {t' : Nat} {d' : Drawn} {ch : List Addr} (I : Inv X pins σ H s)
    (hch : ∀ b ∈ ch, (b ∈ X.ex ∨ X.s₀.heap.objs.size ≤ b) ∧ b ≠ X.env.locals ∧ (∀ x c, X.env.cells.lookup x = some c → c ≠ b) ∧ ∀ p ∈ X.pn ++ pins, p.1 ≠ b)
    (keep : ∀ b o, b ≠ X.env.locals → b ∉ X.fs → b ∉ ch → s.heap.get? b = some o → H b = none → h'.get? b = some o)
    (slot : ∀ b o, b ≠ X.env.locals → b ∈ X.fs → b ∉ ch → s.heap.get? b = some o → H b = none → ∃ sl, h'.get? b = some { o with slots := sl }) (free : ∀ b o, b ∉ ch → s.heap.get? b = some o → H b = none → H' b = none)
    (there : ∀ b o, b ∉ ch → s.heap.get? b = some o → ∃ o', h'.get? b = some o')
    (tups : ∀ b xs, H b = some (.tup xs) → H' b = some (.tup xs)) (frzs : ∀ b o u, H b = some (.frz o u) → H' b = some (.frz o u)) (tbls : ∀ b ps, H b = some (.tbl ps) → ∃ more, H' b = some (.tbl (ps ++ more)))
    (ns : ∀ m, s.heap.Ns X.env.locals m → h'.Ns X.env.locals m) (hok : HOk X.prog X.w H' h') (hg : AllBare g') :
    Inv X pins σ H' { s with heap := h', gens := g', drawn := d', toks := t' } := by
  have neL : ∀ b o, X.s₀.heap.get? b = some o → b ≠ X.env.locals := fun b o e => Nat.ne_of_lt (Nat.lt_of_lt_of_le (Heap.lt_size e) I.ok.above)
  have neC : ∀ b o, X.s₀.heap.get? b = some o → b ∉ X.ex → b ∉ ch := fun b o e hx hb => by
    rcases (hch b hb).1 with z | z
    · exact hx z
    · exact absurd (Nat.lt_of_lt_of_le (Heap.lt_size e) z) (Nat.lt_irrefl _)
  have cellK : ∀ x c, X.env.cells.lookup x = some c → ∀ v, s.heap.IsCell c v → h'.IsCell c v := fun x c e v ⟨o, ho, hd⟩ => by
    have nch : c ∉ ch := fun z => (hch c z).2.2.1 x c e rfl
    by_cases hc : c ∈ X.fs
    · obtain ⟨sl, q⟩ := slot c o (I.cne x c e) hc nch ho (I.freeC x c e)
      exact ⟨_, q, hd⟩
    · exact ⟨o, keep c o (I.cne x c e) hc nch ho (I.freeC x c e), hd⟩
  refine ⟨I.ok, I.os, hg, ⟨fun b o e n hb hx => ?_, fun b o e n hb hx => ?_, fun b o e n hx => ?_, fun b o e hx => ?_, fun b xs e => tups b xs (I.base.tups b xs e), fun b o xs e => frzs b o xs (I.base.frzs b o xs e), fun b ps e => ?_⟩, ?_, fun x c e => ?_, ?_, fun x c e => ?_, fun p hp => ?_, hok, I.len⟩
  · exact keep b o (neL b o e) hb (neC b o e hx) (I.base.keep b o e n hb hx) (I.base.free b o e n hx)
  · obtain ⟨sl, e1⟩ := I.base.slot b o e n hb hx
    obtain ⟨sl', e2⟩ := slot b _ (neL b o e) hb (neC b o e hx) e1 (I.base.free b o e n hx)
    exact ⟨sl', e2⟩
  · obtain ⟨o', e1⟩ := I.base.there b o e hx
    exact free b o' (neC b o e hx) e1 (I.base.free b o e n hx)
  · obtain ⟨o', e1⟩ := I.base.there b o e hx
    exact there b o' (neC b o e hx) e1
  · obtain ⟨m1, e1⟩ := I.base.tbls b ps e
    obtain ⟨m2, e2⟩ := tbls b _ e1
    exact ⟨m1 ++ m2, by rw [e2, Array.append_assoc]⟩
  · obtain ⟨m, hn, hl⟩ := I.loc
    refine ⟨m, ns m hn, fun i x v e1 e2 e3 => ?_⟩
    obtain ⟨u, r, l⟩ := hl i x v e1 e2 e3
    refine ⟨u, r, ?_⟩
    rcases l with l | ⟨k, c, e, z⟩
    · exact .inl l
    · exact .inr ⟨k, c, e, cellK x c e _ z⟩
  · obtain ⟨v, z⟩ := I.cell x c e
    exact ⟨v, cellK x c e v z⟩
  · obtain ⟨m, ⟨o, _, _, ho, _⟩, _⟩ := I.loc
    exact free _ o (fun z => (hch _ z).2.1 rfl) ho I.free
  · obtain ⟨v, o, ho, hd⟩ := I.cell x c e
    exact free c o (fun z => (hch c z).2.2.1 x c e rfl) ho (I.freeC x c e)
  · obtain ⟨e, n, ne, nf, d⟩ := I.pin p hp
    have nch : p.1 ∉ ch := fun z => (hch p.1 z).2.2.2 p hp rfl
    exact ⟨keep p.1 p.2 ne nf nch e n, free p.1 p.2 nch e n, ne, nf, d⟩
/-- .. where the frame's own object is kept too -/
theorem Inv.un {t' : Nat} (I : Inv X pins σ H s) (u : Un X.fs [] H H' s.heap h') (hok : HOk X.prog X.w H' h') : Inv X pins σ H' { s with heap := h', toks := t' } := by
  obtain ⟨m, ⟨o, es, ep, ho, r⟩, _⟩ := id I.loc
  obtain ⟨sl, hL⟩ := u.any ho I.free (by simp)
  exact I.step (g' := s.gens) (d' := s.drawn) (ch := []) (fun _ z => nomatch z) (fun b o _ hb _ e n => u.keep b o e n hb (by simp)) (fun b o _ hb _ e n => u.slot b o e n hb (by simp)) (fun b o _ e n => u.free b o e n (by simp)) (fun b o _ e => u.there b o e (by simp)) u.tups u.frzs u.tbls (fun m' hm => by
    obtain ⟨o', es', ep', ho', r'⟩ := hm
    rw [ho] at ho'; cases ho'
    exact ⟨_, es', ep', hL, r'⟩) hok I.bare
/-- behind a call (or a comprehension's block): the slots of this frame may have changed too, the records at ch may have turned -/
theorem Inv.call {g' : Array GenState} {t' : Nat} {d' : Drawn} {ch : List Addr} (I : Inv X pins σ H s) (u : Un (frs X.stack) ch H H' s.heap h') (hok : HOk X.prog X.w H' h') (hg : AllBare g')
    (hch : ∀ b ∈ ch, (b ∈ X.ex ∨ X.s₀.heap.objs.size ≤ b) ∧ b ≠ X.env.locals ∧ (∀ x c, X.env.cells.lookup x = some c → c ≠ b) ∧ ∀ p ∈ X.pn ++ pins, p.1 ≠ b) :
    Inv X pins σ H' { s with heap := h', gens := g', drawn := d', toks := t' } := by
  obtain ⟨m, ⟨o, es, ep, ho, r⟩, _⟩ := id I.loc
  obtain ⟨sl, hL⟩ := u.any ho I.free fun z => (hch _ z).2.1 rfl
  exact I.step (ch := ch) hch (fun b o hL hb hc e n => u.keep b o e n (fun z => (List.mem_cons.mp (I.stkSub b z)).elim hL hb) hc) (fun b o _ _ hc e n => u.any e n hc) (fun b o hc e n => u.free b o e n hc) (fun b o hc e => u.there b o e hc) u.tups u.frzs u.tbls (fun m' hm => by
    obtain ⟨o', es', ep', ho', r'⟩ := hm
    rw [ho] at ho'; cases ho'
    exact ⟨_, es', ep', hL, r'⟩) hok hg
/-- an untracked record of ours (an iterator) has turned -/
theorem Inv.turned {t' : Nat} {it : Addr} (I : Inv X pins σ H s) (k : ∀ b o, b ≠ it → s.heap.get? b = some o → h'.get? b = some o) (hn : H it = none) (hL : it ≠ X.env.locals)
    (h1 : it ∈ X.ex ∨ X.s₀.heap.objs.size ≤ it) (h2 : ∀ x c, X.env.cells.lookup x = some c → c ≠ it) (h3 : ∀ p ∈ X.pn ++ pins, p.1 ≠ it) : Inv X pins σ H { s with heap := h', toks := t' } := by
  have nit : ∀ b u, H b = some u → b ≠ it := fun b u e z => by rw [z, hn] at e; cases e
  refine I.step (g' := s.gens) (d' := s.drawn) (ch := [it]) (fun b hb => ?_) (fun b o _ _ hc e _ => k b o (fun z => hc (by simp [z])) e) (fun b o _ _ hc e _ => ⟨o.slots, k b o (fun z => hc (by simp [z])) e⟩) (fun _ _ _ _ n => n)
    (fun b o hc e => ⟨o, k b o (fun z => hc (by simp [z])) e⟩) (fun _ _ e => e) (fun _ _ _ e => e) (fun b ps e => ⟨#[], by rw [e]; simp⟩) (fun m hm => ?_) (fun b u e => ?_) I.bare
  · have e : b = it := by simpa using hb
    subst e
    exact ⟨h1, hL, h2, h3⟩
  · obtain ⟨o, es, ep, ho, r⟩ := hm
    exact ⟨o, es, ep, k _ o (Ne.symm hL) ho, r⟩
  · refine (I.hok b u e).stay (fun c v hc q => k c v ?_ q) (fun _ q => q) fun _ _ q => q
    rcases hc with z | z
    · rw [z]; exact nit b u e
    · exact nit c _ z
theorem Inv.tok (I : Inv X pins σ H s) (t : Nat) : Inv X pins σ H { s with toks := t } := I.un (h' := s.heap) (t' := t) Un.refl I.hok
/-- all objects kept -/
theorem Inv.kept {t' : Nat} (I : Inv X pins σ H s) (k : ∀ b u, s.heap.get? b = some u → h'.get? b = some u) : Inv X pins σ H { s with heap := h', toks := t' } := I.un (Un.kept k) (I.hok.kept k)
/-- a new object laid and tracked -/
theorem Inv.laid {a : Addr} {o : HO} {t' : Nat} (I : Inv X pins σ H s) (k : ∀ b u, s.heap.get? b = some u → h'.get? b = some u) (hp : s.heap.objs.size ≤ a) (new : ObjOk X.prog X.w (upd H a o) h' a o) :
    Inv X pins σ (upd H a o) { s with heap := h', toks := t' } := I.un (Un.laid k hp (I.hok.fresh hp)) (I.hok.laid k hp new)
/-- an object written -/
theorem Inv.write {x e : Addr} {o : HO} {t' : Nat} (I : Inv X pins σ H s) (mu : Mut (H x)) (he : e = x ∨ H e = some (.own x)) (k : ∀ b u, b ≠ e → s.heap.get? b = some u → h'.get? b = some u) (heo : ∃ u, h'.get? e = some u)
    (new : ObjOk X.prog X.w (upd H x o) h' x o) : Inv X pins σ (upd H x o) { s with heap := h', toks := t' } := I.un (Un.write mu he k heo) (I.hok.write mu he k heo new)
theorem Inv.pins_of {pins' : List (Addr × Obj)} (I : Inv X pins σ H s) (h : ∀ p ∈ pins', s.heap.get? p.1 = some p.2 ∧ H p.1 = none ∧ p.1 ≠ X.env.locals ∧ p.1 ∉ X.fs ∧ ∀ v, p.2.data ≠ .cell v) : Inv X pins' σ H s :=
  ⟨I.ok, I.os, I.bare, I.base, I.loc, I.cell, I.free, I.freeC, fun p hp => (List.mem_append.mp hp).elim (fun z => I.pin p (List.mem_append_left _ z)) (h p), I.hok, I.len⟩

theorem nodup_ix {N : List Str} (hN : N.Nodup) {i j : Nat} {x : Str} (a : N[i]? = some x) (b : N[j]? = some x) : i = j := by
  obtain ⟨h1, e1⟩ := List.getElem?_eq_some_iff.mp a
  obtain ⟨h2, e2⟩ := List.getElem?_eq_some_iff.mp b
  exact (List.getElem_inj hN).mp (e1.trans e2.symm)

/-- a name is stored; what changed -/
theorem store_ok2 {M : Model} {A : Around} {E : Value → Shared → Prop} {i : Nat} {x : Str} {v : V} {u : Value} {Q : Unit → Shared → Prop} (I : Inv X pins σ H s) (hN : X.N.Nodup) (hi : X.N[i]? = some x) (hx : Loc X.env.scope x) (r : RelV v u)
    (h : ∀ s', Inv X pins (σ.set i (some v)) H s' → (∃ a, Heap.SameBut a s.heap s'.heap ∧ (a = X.env.locals ∨ X.env.cells.lookup x = some a)) → Q () s') (hf : X.fn x = true ∨ X.env.scope.names.lookup x = some .local := by first | exact .inl rfl | exact .inr rfl | assumption) : wpAny M A (storeName X.env x u) Q E s := by
  obtain ⟨m, hn, hl⟩ := id I.loc
  have hcls : (X.env.scope.kind == .class || (X.env.scope.kind == .module && X.env.locals != X.env.globals)) = false := by rw [I.ok.kind]; rfl
  have hiσ : i < σ.length := by rw [I.len]; exact (List.getElem?_eq_some_iff.mp hi).1
  have cne := I.cne
  have tracked : ∀ {a : Addr} {h' : Heap}, (∃ o, s.heap.get? a = some o ∧ H a = none) → Heap.SameBut a s.heap h' → HOk X.prog X.w H h' := fun {a h'} ha hs b ob e => by
    obtain ⟨_, _, hfree⟩ := ha
    refine (I.hok b ob e).stay (fun c w' hc q => (hs.2 c ?_).trans q) (fun _ q => q) fun _ _ q => q
    rintro rfl
    rcases hc with rfl | hc
    · rw [hfree] at e; cases e
    · rw [hfree] at hc; cases hc
  rcases hx with hk | hk
  · refine wpAny_storeName_local hk hn (fun h' hn' hs => ?_) hcls
    obtain ⟨oL, _, _, hoL, _⟩ := id hn
    refine h _ ⟨I.ok, I.os, I.bare, ⟨fun b o e n hb hx => ?_, fun b o e n hb hx => ?_, I.base.free, fun b o e hx => ?_, I.base.tups, I.base.frzs, I.base.tbls⟩, ⟨_, hn', fun j y v' e1 e2 e3 => ?_⟩, fun y c e => ?_, I.free, I.freeC, fun p hp => ?_, tracked ⟨oL, hoL, I.free⟩ hs, by simpa using I.len⟩ ⟨_, hs, .inl rfl⟩
    · exact (hs.2 b (Nat.ne_of_lt (Nat.lt_of_lt_of_le (Heap.lt_size e) I.ok.above))).trans (I.base.keep b o e n hb hx)
    · obtain ⟨sl, e1⟩ := I.base.slot b o e n hb hx
      exact ⟨sl, (hs.2 b (Nat.ne_of_lt (Nat.lt_of_lt_of_le (Heap.lt_size e) I.ok.above))).trans e1⟩
    · obtain ⟨o', e1⟩ := I.base.there b o e hx
      exact ⟨o', (hs.2 b (Nat.ne_of_lt (Nat.lt_of_lt_of_le (Heap.lt_size e) I.ok.above))).trans e1⟩
    · by_cases hj : j = i
      · subst hj
        rw [hi] at e1; cases e1
        rw [List.getElem?_set_self hiσ] at e2
        cases e2
        exact ⟨u, r, .inl ⟨hk, by simp⟩⟩
      · rw [List.getElem?_set_ne (Ne.symm hj)] at e2
        obtain ⟨u', r', q⟩ := hl j y v' e1 e2 e3
        refine ⟨u', r', ?_⟩
        rcases q with ⟨k, e⟩ | ⟨k, c, e, z⟩
        · refine .inl ⟨k, ?_⟩
          have : y ≠ x := fun e => hj (nodup_ix hN e1 (e ▸ hi))
          simp [this, e]
        · exact .inr ⟨k, c, e, z.sameBut hs (cne y c e)⟩
    · obtain ⟨w', z⟩ := I.cell y c e
      exact ⟨w', z.sameBut hs (cne y c e)⟩
    · obtain ⟨e, n, ne, nf, d⟩ := I.pin p hp
      exact ⟨(hs.2 p.1 ne).trans e, n, ne, nf, d⟩
  · have hfn : X.fn x = true := by
      rcases hf with z | z
      · exact z
      · rw [z] at hk; cases hk
    obtain ⟨c, hc⟩ := I.ok.has x (.inl hk)
    obtain ⟨w', z⟩ := I.cell x c hc
    refine wpAny_storeName_cell I.ok.kind hk hc z (fun h' hc' hs => ?_)
    obtain ⟨oc, hoc, hocd⟩ := id z
    refine h { s with heap := h' } ⟨I.ok, I.os, I.bare, ⟨fun b o e n hb hx => ?_, fun b o e n hb hx => ?_, I.base.free, fun b o e hx => ?_, I.base.tups, I.base.frzs, I.base.tbls⟩, ⟨m, hn.sameBut hs (Ne.symm (cne x c hc)), fun j y v' e1 e2 e3 => ?_⟩, fun y c' e => ?_, I.free, I.freeC, fun p hp => ?_, tracked ⟨oc, hoc, I.freeC x c hc⟩ hs, by simpa using I.len⟩ ⟨c, hs, .inr hc⟩
    · exact (hs.2 b (Nat.ne_of_lt (Nat.lt_of_lt_of_le (Heap.lt_size e) (I.ok.cab x c hfn hc)))).trans (I.base.keep b o e n hb hx)
    · obtain ⟨sl, e1⟩ := I.base.slot b o e n hb hx
      exact ⟨sl, (hs.2 b (Nat.ne_of_lt (Nat.lt_of_lt_of_le (Heap.lt_size e) (I.ok.cab x c hfn hc)))).trans e1⟩
    · obtain ⟨o', e1⟩ := I.base.there b o e hx
      exact ⟨o', (hs.2 b (Nat.ne_of_lt (Nat.lt_of_lt_of_le (Heap.lt_size e) (I.ok.cab x c hfn hc)))).trans e1⟩
    · by_cases hj : j = i
      · subst hj
        rw [hi] at e1; cases e1
        rw [List.getElem?_set_self hiσ] at e2
        cases e2
        exact ⟨u, r, .inr ⟨.inl hk, c, hc, hc'⟩⟩
      · rw [List.getElem?_set_ne (Ne.symm hj)] at e2
        obtain ⟨u', r', q⟩ := hl j y v' e1 e2 e3
        refine ⟨u', r', ?_⟩
        rcases q with q | ⟨k, c', e, z'⟩
        · exact .inl q
        · refine .inr ⟨k, c', e, z'.sameBut hs ?_⟩
          rintro rfl
          exact hj (nodup_ix hN e1 (I.ok.inj _ _ _ e hc ▸ hi))
    · by_cases hcc : c' = c
      · subst hcc; exact ⟨_, hc'⟩
      · obtain ⟨w2, z2⟩ := I.cell y c' e
        exact ⟨w2, z2.sameBut hs hcc⟩
    · obtain ⟨e, n, ne, nf, d⟩ := I.pin p hp
      refine ⟨(hs.2 p.1 ?_).trans e, n, ne, nf, d⟩
      intro q
      rw [q, hoc] at e
      have q' : oc = p.2 := Option.some.inj e
      exact d w' (by rw [← q']; exact hocd)
theorem store_ok {M : Model} {A : Around} {E : Value → Shared → Prop} {i : Nat} {x : Str} {v : V} {u : Value} {Q : Unit → Shared → Prop} (I : Inv X pins σ H s) (hN : X.N.Nodup) (hi : X.N[i]? = some x) (hx : Loc X.env.scope x) (r : RelV v u)
    (h : ∀ s', Inv X pins (σ.set i (some v)) H s' → Q () s') (hf : X.fn x = true ∨ X.env.scope.names.lookup x = some .local := by first | exact .inl rfl | exact .inr rfl | assumption) : wpAny M A (storeName X.env x u) Q E s :=
  store_ok2 I hN hi hx r (fun s' I' _ => h s' I') hf
/-- behind a call or a block, the state as it is -/
theorem Inv.call' {s' : Shared} {ch : List Addr} (I : Inv X pins σ H s) (ho : s'.os = s.os) (u : Un (frs X.stack) ch H H' s.heap s'.heap) (hok : HOk X.prog X.w H' s'.heap) (hg : AllBare s'.gens)
    (hch : ∀ b ∈ ch, (b ∈ X.ex ∨ X.s₀.heap.objs.size ≤ b) ∧ b ≠ X.env.locals ∧ (∀ x c, X.env.cells.lookup x = some c → c ≠ b) ∧ ∀ p ∈ X.pn ++ pins, p.1 ≠ b) : Inv X pins σ H' s' := by
  obtain ⟨h', g', d', t', o'⟩ := s'
  have e : o' = s.os := ho
  subst e
  exact I.call (g' := g') (t' := t') (d' := d') u hok hg hch
end

/-! ### the judgements -/
/-- an exception: its class, its own dict's address (where it has one), the abstract heap behind it -/
abbrev XK := Value → Option Addr → Hp → Prop
abbrev St := List (Option V)
abbrev VK := V → Hp → Prop
/-- an expression's reading; a test's; an argument list's -/
abbrev TE := St → Hp → VK → Prop
abbrev TT := St → Hp → (Bool → Hp → Prop) → Prop
abbrev TA := St → Hp → (List V → Hp → Prop) → Prop
/-- what is wanted behind a statement -/
structure Ends where
  nx : St → Hp → Prop
  rt : VK
  bk : St → Hp → Prop := fun _ _ => False
  ct : St → Hp → Prop := fun _ _ => False
abbrev TS := Ends → St → Hp → Prop

def EP (X : Cx) (pins : List (Addr × Obj)) (σ : St) (Q : VK) (u : Value) (s' : Shared) : Prop := ∃ v H', Inv X pins σ H' s' ∧ RelV v u ∧ Q v H'
def TP (X : Cx) (pins : List (Addr × Obj)) (σ : St) (Q : Bool → Hp → Prop) (b : Bool) (s' : Shared) : Prop := ∃ H', Inv X pins σ H' s' ∧ Q b H'
def AP (X : Cx) (pins : List (Addr × Obj)) (σ : St) (Q : List V → Hp → Prop) (us : List Value) (s' : Shared) : Prop := ∃ vs H', Inv X pins σ H' s' ∧ Vals vs us ∧ Q vs H'
def SP (X : Cx) (pins : List (Addr × Obj)) (D : Ends) (f : Flow) (s' : Shared) : Prop :=
  match f with
  | .next => ∃ σ' H', Inv X pins σ' H' s' ∧ D.nx σ' H'
  | .brk => ∃ σ' H', Inv X pins σ' H' s' ∧ D.bk σ' H'
  | .cont => ∃ σ' H', Inv X pins σ' H' s' ∧ D.ct σ' H'
  | .ret u => ∃ v σ' H', Inv X pins σ' H' s' ∧ RelV v u ∧ D.rt v H'

def PE (X : Cx) (e : Expr) (t : TE) : Prop :=
  ∀ (pins : List (Addr × Obj)) (s : Shared) (σ : St) (H : Hp) (Q : VK), Inv X pins σ H s → t σ H Q → wpAny (model X.prog X.w) X.A (eval e X.env) (EP X pins σ Q) X.xe s
def PT (X : Cx) (e : Expr) (t : TT) : Prop :=
  ∀ (pins : List (Addr × Obj)) (s : Shared) (σ : St) (H : Hp) (Q : Bool → Hp → Prop), Inv X pins σ H s → t σ H Q → wpAny (model X.prog X.w) X.A (isTrue e X.env (eval e X.env)) (TP X pins σ Q) X.xe s
/-- a test whatever its 'whole' is (and, or) -/
def PW (X : Cx) (e : Expr) (t : TT) : Prop :=
  ∀ (whole : Sem Value) (pins : List (Addr × Obj)) (s : Shared) (σ : St) (H : Hp) (Q : Bool → Hp → Prop), Inv X pins σ H s → t σ H Q → wpAny (model X.prog X.w) X.A (isTrue e X.env whole) (TP X pins σ Q) X.xe s
theorem PW.pt {X : Cx} {e : Expr} {t : TT} (h : PW X e t) : PT X e t := h _
/-- an argument list (no star), from the left -/
def PA (X : Cx) (es : List Expr) (t : TA) : Prop :=
  ∀ (pos : Pos) (pins : List (Addr × Obj)) (s : Shared) (σ : St) (H : Hp) (Q : List V → Hp → Prop), Inv X pins σ H s → t σ H Q → wpAny (model X.prog X.w) X.A (spliced (backTo pos (starEach es X.env))) (AP X pins σ Q) X.xe s
def PS (X : Cx) (st : Stmt) (t : TS) : Prop :=
  ∀ (pins : List (Addr × Obj)) (s : Shared) (σ : St) (H : Hp) (D : Ends), Inv X pins σ H s → t D σ H → wpAny (model X.prog X.w) X.A (exec st X.env) (SP X pins D) X.xe s
def PSs (X : Cx) (st : List Stmt) (t : TS) : Prop :=
  ∀ (pins : List (Addr × Obj)) (s : Shared) (σ : St) (H : Hp) (D : Ends), Inv X pins σ H s → t D σ H → wpAny (model X.prog X.w) X.A (execs st X.env) (SP X pins D) X.xe s
/-- weaken the end -/
theorem thn {α : Type} {t : Sem α} {Q Q' : α → Shared → Prop} {M : Model} {A : Around} {E : Value → Shared → Prop} {s : Shared} (h : wpAny M A t Q E s) (hQ : ∀ a s, Q a s → Q' a s) : wpAny M A t Q' E s := wpAny_mono h hQ fun _ _ x => x
end L2

namespace L2
open PySem PySem.Spec PyProof.Rows
section
variable {X : Cx}

/-! ### names and constants -/
def tVar (i : Nat) : TE := fun σ H Q => ∃ v, σ[i]? = some (some v) ∧ Q v H
def tC (v : V) : TE := fun _ H Q => Q v H
theorem pe_var {i : Nat} {x : Str} {pos : Pos} (hN : X.N[i]? = some x) (hv : Vis X.env.scope x) (hd : (x == ("__debug__" : Str)) = false := by decide) (hcd : (x == ("__classdict__" : Str)) = false := by decide) : PE X (.Name x pos) (tVar i) := by
  intro pins s σ H Q I h
  obtain ⟨v, e, h⟩ := h
  obtain ⟨m, hn, hl⟩ := I.loc
  obtain ⟨u, r, l⟩ := hl i x v hN e hv
  have fin : EP X pins σ Q u s := ⟨v, H, I, r, h⟩
  rcases l with ⟨hk, hm⟩ | ⟨hk, c, hc, hcell⟩
  · exact wpAny_Name (wpAny_loadName_local I.ok.kind hk hn hm fin) hd
  · rcases hk with hk | hk
    · exact wpAny_Name (wpAny_loadName_cell I.ok.kind hk hc hcell fin) hd
    · exact wpAny_Name (wpAny_loadName_free I.ok.kind hk hc hcell fin hcd) hd
theorem pe_int {i j pos} : PE X (.Constant (.int i) j pos) (tC (.int i)) := fun _ _ _ H _ I h => wpAny_Constant_int ⟨.int i, H, I.tok _, ⟨_, rfl⟩, h⟩
theorem pe_bl {b j pos} : PE X (.Constant (.bool b) j pos) (tC (.bl b)) := fun _ _ _ H _ I h => Constant_bool ⟨.bl b, H, I, rfl, h⟩
theorem pe_non {j pos} : PE X (.Constant .none j pos) (tC .non) := fun _ _ _ H _ I h => Constant_none ⟨.non, H, I, rfl, h⟩
theorem pe_str {x j pos} : PE X (.Constant (.str x) j pos) (tC (.str x)) := fun _ _ _ H _ I h => Calls.Constant_str ⟨.str x, H, I.tok _, ⟨_, rfl⟩, h⟩

/-- a global name of the def -/
def Gl (X : Cx) (x : Str) : Prop := X.env.kindOf x = some .globalImplicit
theorem ld_glob {E : Value → Shared → Prop} {pins : List (Addr × Obj)} {s : Shared} {σ : St} {H : Hp} {x : Str} {u : Value} {pos : Pos} {Q : Value → Shared → Prop} (I : Inv X pins σ H s) (hg : Gl X x) (hm : X.mg x = some u) (h : Q u s)
    (hd : (x == ("__debug__" : Str)) = false := by decide) : wpAny (model X.prog X.w) X.A (eval (.Name x pos) X.env) Q E s :=
  Calls.Name_function_global I.ok.kind hg (Calls.loadGlobal_global (by rw [I.ok.glob]; exact I.mod.glob.keeps I.bk) hm h) hd
theorem ld_blt {E : Value → Shared → Prop} {pins : List (Addr × Obj)} {s : Shared} {σ : St} {H : Hp} {x : Str} {u : Value} {pos : Pos} {Q : Value → Shared → Prop} (I : Inv X pins σ H s) (hg : Gl X x) (hm : X.mg x = none) (hv : bootBuiltins x = some u) (h : Q u s)
    (hn : x ≠ "__name__" := by decide) (hd : (x == ("__debug__" : Str)) = false := by decide) : wpAny (model X.prog X.w) X.A (eval (.Name x pos) X.env) Q E s := by
  obtain ⟨mb, h1, h2⟩ := I.mod.blt
  exact Calls.Name_function_global I.ok.kind hg (Calls.loadGlobal_builtin (by rw [I.ok.glob]; exact I.mod.glob.keeps I.bk) hm (by rw [I.ok.blt]; exact h1.keeps I.bk) ((h2 x hn).trans hv) h) hd
/-- a module's constant, a class, a function, as a value -/
theorem pe_glob {x : Str} {v : V} {u : Value} {pos : Pos} (hg : Gl X x) (hm : X.mg x = some u) (r : RelV v u) (hd : (x == ("__debug__" : Str)) = false := by decide) : PE X (.Name x pos) (tC v) :=
  fun _ _ _ H _ I h => ld_glob I hg hm ⟨v, H, I, r, h⟩ hd
theorem pe_bltn {x : Str} {v : V} {u : Value} {pos : Pos} (hg : Gl X x) (hm : X.mg x = none) (hv : bootBuiltins x = some u) (r : RelV v u) (hn : x ≠ "__name__" := by decide) (hd : (x == ("__debug__" : Str)) = false := by decide) : PE X (.Name x pos) (tC v) :=
  fun _ _ _ H _ I h => ld_blt I hg hm hv ⟨v, H, I, r, h⟩ hn hd

/-! ### arithmetic -/
/-- two ints -/
def t2I (ta tb : TE) (k : Int → Int → Hp → Prop) : St → Hp → Prop := fun σ H => ta σ H fun x H1 => tb σ H1 fun y H2 => ∃ i j, x = .int i ∧ y = .int j ∧ k i j H2
def tAdd (ta tb : TE) : TE := fun σ H Q => t2I ta tb (fun i j H2 => Q (.int (i + j)) H2) σ H
def tSub (ta tb : TE) : TE := fun σ H Q => t2I ta tb (fun i j H2 => Q (.int (i - j)) H2) σ H
/-- the left factor below 2^64 -/
def tMul (ta tb : TE) : TE := fun σ H Q => t2I ta tb (fun i j H2 => (-(2 ^ 64) < i ∧ i < 2 ^ 64) ∧ Q (.int (i * j)) H2) σ H
variable {a b : Expr} {ta tb : TE} {pos : Pos}
/-! ### comparisons -/
def PC (X : Cx) (op : CmpOp) (a b : Expr) (t : TE) : Prop :=
  ∀ (pins : List (Addr × Obj)) (s : Shared) (σ : St) (H : Hp) (Q : VK), Inv X pins σ H s → t σ H Q →
    wpAny (model X.prog X.w) X.A (eval a X.env) (fun v s₁ => wpAny (model X.prog X.w) X.A (eval b X.env) (fun u s₂ => wpAny (model X.prog X.w) X.A (compareOp op v u) (EP X pins σ Q) X.xe s₂) X.xe s₁) X.xe s
def tCmp (p : Int → Int → Bool) (ta tb : TE) : TE := fun σ H Q => t2I ta tb (fun i j H2 => Q (.bl (p i j)) H2) σ H
abbrev tLt : TE → TE → TE := tCmp fun i j => decide (i < j)
abbrev tLe : TE → TE → TE := tCmp fun i j => decide (i ≤ j)
abbrev tGt : TE → TE → TE := tCmp fun i j => decide (j < i)
abbrev tGe : TE → TE → TE := tCmp fun i j => decide (j ≤ i)
abbrev tEqI : TE → TE → TE := tCmp fun i j => decide (i = j)
abbrev tNeI : TE → TE → TE := tCmp fun i j => !decide (i = j)
/-- is None -/
def tIsN (ta : TE) : TE := fun σ H Q => ta σ H fun x H1 => Q (.bl (decide (x = .non))) H1
def tNotN (ta : TE) : TE := fun σ H Q => ta σ H fun x H1 => Q (.bl (!decide (x = .non))) H1
/-- a comparison as a value, as a test -/
def tB (t : TE) : TT := fun σ H Q => t σ H fun x H1 => ∃ c, x = .bl c ∧ Q c H1
/-- an expression whose value is a bool, as a test -/
theorem pt_val {e : Expr} {t : TE} (h : PE X e t) (he : ∀ whole, isTrue e X.env whole = (do let v ← whole; standAt e.pos; holding [v] (truthy v)) := by intro _; rfl) : PT X e (tB t) := by
  intro pins s σ H Q I hw
  refine isTrue_plain (thn (h pins s σ H _ I hw) fun v s1 ⟨x, H1, I1, r1, q1⟩ => ?_) (he _)
  obtain ⟨d, rfl, q⟩ := q1
  cases r1
  exact wpAny_truthy_bool ⟨H1, I1, q⟩

/-! ### and, or, not -/
variable {tA tB' : TT} {rest : List Expr}
def tAnd (t u : TT) : TT := fun σ H Q => t σ H fun c H1 => if c = true then u σ H1 Q else Q false H1
def tOr (t u : TT) : TT := fun σ H Q => t σ H fun c H1 => if c = true then Q true H1 else u σ H1 Q
def tNot (t : TT) : TT := fun σ H Q => t σ H fun c H1 => Q (!c) H1
theorem pw_and1 (ha : PT X a tA) : PW X (.BoolOp .And [a] pos) tA := by
  intro wh pins s σ H Q I h
  refine isTrue_and (thn (ha pins s σ H Q I h) fun c s1 e => ?_)
  cases c with
  | true => exact isTrue_and_nil e
  | false => exact e
theorem pw_or1 (ha : PT X a tA) : PW X (.BoolOp .Or [a] pos) tA := by
  intro wh pins s σ H Q I h
  refine isTrue_or (thn (ha pins s σ H Q I h) fun c s1 e => ?_)
  cases c with
  | false => exact isTrue_or_nil e
  | true => exact e
theorem pw_and (ha : PT X a tA) (hb : PW X (.BoolOp .And (b :: rest) pos) tB') : PW X (.BoolOp .And (a :: b :: rest) pos) (tAnd tA tB') := by
  intro wh pins s σ H Q I h
  refine isTrue_and (thn (ha pins s σ H _ I h) fun c s1 ⟨H1, I1, q1⟩ => ?_)
  cases c with
  | true => exact hb wh pins s1 σ H1 Q I1 q1
  | false => exact ⟨H1, I1, q1⟩
theorem pw_or (ha : PT X a tA) (hb : PW X (.BoolOp .Or (b :: rest) pos) tB') : PW X (.BoolOp .Or (a :: b :: rest) pos) (tOr tA tB') := by
  intro wh pins s σ H Q I h
  refine isTrue_or (thn (ha pins s σ H _ I h) fun c s1 ⟨H1, I1, q1⟩ => ?_)
  cases c with
  | true => exact ⟨H1, I1, q1⟩
  | false => exact hb wh pins s1 σ H1 Q I1 q1
theorem pt_not (ha : PT X a tA) : PT X (.UnaryOp .Not a pos) (tNot tA) := by
  intro pins s σ H Q I h
  exact isTrue_not (ha pins s σ H (fun c H1 => Q (!c) H1) I h)
/-- .. as values (bools) -/
def tAndV (ta tb : TE) : TE := fun σ H Q => ta σ H fun x H1 => ∃ c, x = .bl c ∧ if c = true then tb σ H1 Q else Q (.bl false) H1
def tOrV (ta tb : TE) : TE := fun σ H Q => ta σ H fun x H1 => ∃ c, x = .bl c ∧ if c = true then Q (.bl true) H1 else tb σ H1 Q
def tNotV (ta : TE) : TE := fun σ H Q => ta σ H fun x H1 => ∃ c, x = .bl c ∧ Q (.bl (!c)) H1
theorem pe_one {op} {t : TE} (h : PE X a t) : PE X (.BoolOp op [a] pos) t := fun pins s σ H Q I hw => BoolOp_one (h pins s σ H Q I hw)
theorem pe_and (ha : PE X a ta) (hb : PE X (.BoolOp .And (b :: rest) pos) tb) : PE X (.BoolOp .And (a :: b :: rest) pos) (tAndV ta tb) := by
  intro pins s σ H Q I h
  refine BoolOp_and (thn (ha pins s σ H _ I h) fun v s1 ⟨x, H1, I1, r1, q1⟩ => ?_)
  obtain ⟨c, rfl, q1⟩ := q1
  cases r1
  refine wpAny_truthy_bool ?_
  cases c with
  | true => exact hb pins s1 σ H1 Q I1 q1
  | false => exact ⟨.bl false, H1, I1, rfl, q1⟩
theorem pe_not (ha : PE X a ta) : PE X (.UnaryOp .Not a pos) (tNotV ta) := by
  intro pins s σ H Q I h
  refine UnaryOp_ (thn (ha pins s σ H _ I h) fun v s1 ⟨x, H1, I1, r1, q1⟩ => ?_)
  obtain ⟨c, rfl, q1⟩ := q1
  cases r1
  exact not_of (wpAny_truthy_bool ⟨.bl (!c), H1, I1, rfl, q1⟩)
/-- a if t else b -/
def tIf (t : TT) (ta tb : TE) : TE := fun σ H Q => t σ H fun c H1 => if c = true then ta σ H1 Q else tb σ H1 Q
end
end L2

namespace L2
open PySem PySem.Spec PyProof.Rows

/-! ### a list, a tuple that is read: tracked, frozen, or an object of the module -/
def SqL (K : PySem.W.Frag) (H : Hp) (a : Addr) (xs : List V) : Prop :=
  Rd H a (.lst xs) ∨
    ∃ (o : Obj) (its : Array Value) (n : Nat), K.lookup a = some o ∧ o.cls = .type "list" ∧ o.dict = none ∧ o.data = .seq its n ∧ its.size ≤ sizeLine ∧ Vals xs its.toList
def SqT (K : PySem.W.Frag) (H : Hp) (a : Addr) (xs : List V) : Prop :=
  Rd H a (.tup xs) ∨
    ∃ (o : Obj) (its : Array Value) (n : Nat), K.lookup a = some o ∧ o.cls = .type "tuple" ∧ o.data = .seq its n ∧ its.size ≤ sizeLine ∧ Vals xs its.toList
def absV : Value → Option V
  | .none => some .non
  | .bool b => some (.bl b)
  | .int i _ => some (.int i)
  | .str x _ => some (.str x)
  | .bytes b _ => some (.byt b)
  | .float b _ => some (.flt b)
  | .ref a => some (.ref a)
  | .type n => some (.ty n)
  | _ => none
theorem RelV.abs {x : V} {u : Value} (r : RelV x u) : absV u = some x := by
  cases x with
  | non => cases r; rfl
  | bl _ => cases r; rfl
  | int _ => obtain ⟨t, rfl⟩ := r; rfl
  | str _ => obtain ⟨t, rfl⟩ := r; rfl
  | byt _ => obtain ⟨t, rfl⟩ := r; rfl
  | flt _ => obtain ⟨t, rfl⟩ := r; rfl
  | ref _ => cases r; rfl
  | ty _ => cases r; rfl
theorem RelV.inj {x y : V} {u : Value} (r : RelV x u) (q : RelV y u) : x = y := Option.some.inj (r.abs.symm.trans q.abs)
theorem Vals.inj : ∀ {xs ys : List V} {us : List Value}, Vals xs us → Vals ys us → xs = ys
  | _, _, _, .nil, .nil => rfl
  | _, _, _, .cons r t, .cons r' t' => by rw [r.inj r', Vals.inj t t']
section
variable {X : Cx} {pins : List (Addr × Obj)} {σ : St} {H : Hp} {s : Shared} {a : Addr} {xs ys : List V}
theorem SqL.of {K : PySem.W.Frag} (h : H a = some (.lst xs)) : SqL K H a xs := .inl (.inl h)
theorem SqT.of {K : PySem.W.Frag} (h : H a = some (.tup xs)) : SqT K H a xs := .inl (.inl h)
theorem Inv.list (I : Inv X pins σ H s) (h : SqL X.K H a xs) : ∃ its : List Value, Vals xs its ∧ PlainL s.heap a its.toArray ∧ xs.length ≤ sizeLine := by
  rcases h with h | ⟨o, its, n, hk, hc, hd, hs, hz, r⟩
  · obtain ⟨z, its, n, r, e⟩ := h.ok I.hok
    exact ⟨its, r, ⟨_, n, e, rfl, rfl, rfl⟩, z⟩
  · refine ⟨its.toList, r, ⟨o, n, I.kIn a o hk, hc, hd, by simpa using hs⟩, ?_⟩
    have e := r.length
    simp only [Array.length_toList] at e
    omega
theorem Inv.tuple (I : Inv X pins σ H s) (h : SqT X.K H a xs) : ∃ its : List Value, Vals xs its ∧ IsTup s.heap a its.toArray ∧ xs.length ≤ sizeLine := by
  rcases h with h | ⟨o, its, n, hk, hc, hs, hz, r⟩
  · obtain ⟨z, its, r, p⟩ := h.ok I.hok
    exact ⟨its, r, p, z⟩
  · refine ⟨its.toList, r, ⟨o, I.kIn a o hk, hc, n, by simpa using hs⟩, ?_⟩
    have e := r.length
    simp only [Array.length_toList] at e
    omega
theorem Inv.list_inj (I : Inv X pins σ H s) (h : SqL X.K H a xs) (h' : SqL X.K H a ys) : xs = ys := by
  obtain ⟨its, r, ⟨o, n, e, _, _, d⟩, _⟩ := I.list h
  obtain ⟨its', r', ⟨o', n', e', _, _, d'⟩, _⟩ := I.list h'
  rw [e] at e'; cases e'
  rw [d] at d'
  injection d' with d1 _
  have : its = its' := by simpa using congrArg Array.toList d1
  subst this
  exact r.inj r'
theorem Inv.tuple_inj (I : Inv X pins σ H s) (h : SqT X.K H a xs) (h' : SqT X.K H a ys) : xs = ys := by
  obtain ⟨its, r, ⟨o, e, _, n, d⟩, _⟩ := I.tuple h
  obtain ⟨its', r', ⟨o', e', _, n', d'⟩, _⟩ := I.tuple h'
  rw [e] at e'; cases e'
  rw [d] at d'
  injection d' with d1 _
  have : its = its' := by simpa using congrArg Array.toList d1
  subst this
  exact r.inj r'
end

/-! ### another wish about exceptions -/
abbrev Cx.wish (X : Cx) (E : Value → Shared → Prop) : Cx := { X with xe := E }
/-- no exception leaves -/
abbrev Cx.nox (X : Cx) : Cx := X.wish fun _ _ => False
theorem Cx.Ok.wish {X : Cx} (ok : X.Ok) (E : Value → Shared → Prop) : (X.wish E).Ok :=
  ⟨ok.mod, ok.kind, ok.glob, ok.blt, ok.above, ok.inj, ok.has, ok.cab, ok.hd, ok.frames, ok.stk, ok.exf, ok.bs, ok.bsz, ok.noex, ok.exfs, ok.funs, ok.frf⟩
theorem Cx.Ok.unwish {X : Cx} {E : Value → Shared → Prop} (ok : (X.wish E).Ok) : X.Ok :=
  ⟨ok.mod, ok.kind, ok.glob, ok.blt, ok.above, ok.inj, ok.has, ok.cab, ok.hd, ok.frames, ok.stk, ok.exf, ok.bs, ok.bsz, ok.noex, ok.exfs, ok.funs, ok.frf⟩
section
variable {X : Cx} {pins : List (Addr × Obj)} {σ : St} {H : Hp} {s : Shared} {E : Value → Shared → Prop}
theorem Inv.wish (I : Inv X pins σ H s) (E : Value → Shared → Prop) : Inv (X.wish E) pins σ H s := ⟨I.ok.wish E, I.os, I.bare, I.base, I.loc, I.cell, I.free, I.freeC, I.pin, I.hok, I.len⟩
theorem Inv.unwish (I : Inv (X.wish E) pins σ H s) : Inv X pins σ H s := ⟨I.ok.unwish, I.os, I.bare, I.base, I.loc, I.cell, I.free, I.freeC, I.pin, I.hok, I.len⟩
theorem SP.unwish {D : Ends} {f : Flow} {s' : Shared} (h : SP (X.wish E) pins D f s') : SP X pins D f s' := by
  cases f with
  | next => obtain ⟨σ', H', I, q⟩ := h; exact ⟨σ', H', I.unwish, q⟩
  | brk => obtain ⟨σ', H', I, q⟩ := h; exact ⟨σ', H', I.unwish, q⟩
  | cont => obtain ⟨σ', H', I, q⟩ := h; exact ⟨σ', H', I.unwish, q⟩
  | ret u => obtain ⟨v, σ', H', I, r, q⟩ := h; exact ⟨v, σ', H', I.unwish, r, q⟩
theorem PE.nox {e : Expr} {t : TE} (h : PE X.nox e t) : PE X e t := fun pins s σ H Q I hw =>
  wpAny_mono (h pins s σ H Q (I.wish _) hw) (fun _ _ ⟨v, H', I', r, q⟩ => ⟨v, H', I'.unwish, r, q⟩) fun _ _ z => False.elim z
theorem PT.nox {e : Expr} {t : TT} (h : PT X.nox e t) : PT X e t := fun pins s σ H Q I hw =>
  wpAny_mono (h pins s σ H Q (I.wish _) hw) (fun _ _ ⟨H', I', q⟩ => ⟨H', I'.unwish, q⟩) fun _ _ z => False.elim z
theorem PSs.nox {st : List Stmt} {t : TS} (h : PSs X.nox st t) : PSs X st t := fun pins s σ H D I hw =>
  wpAny_mono (h pins s σ H D (I.wish _) hw) (fun _ _ q => q.unwish) fun _ _ z => False.elim z
end

/-! ### blocks and small statements -/
section
variable {X : Cx} {st : Stmt} {rest : List Stmt} {t u : TS} {e : Expr} {te : TE} {pos : Pos}
def tNext : TS := fun D σ H => D.nx σ H
def tSeq (t u : TS) : TS := fun D σ H => t { D with nx := u D } σ H
theorem pss_nil : PSs X [] tNext := fun _ _ σ H _ I h => wpAny_execs_nil ⟨σ, H, I, h⟩
theorem pss_cons (h1 : PS X st t) (h2 : PSs X rest u) : PSs X (st :: rest) (tSeq t u) := by
  intro pins s σ H D I h
  refine wpAny_execs_cons (thn (h1 pins s σ H { D with nx := u D } I h) fun f s1 q => ?_)
  cases f with
  | next =>
    obtain ⟨σ', H', I', q⟩ := q
    exact h2 pins s1 σ' H' D I' q
  | ret v => exact q
  | brk => exact q
  | cont => exact q
theorem pss_one (h1 : PS X st t) : PSs X [st] t := by
  intro pins s σ H D I h
  refine wpAny_execs_cons (thn (h1 pins s σ H D I h) fun f s1 q => ?_)
  cases f with
  | next => exact wpAny_execs_nil q
  | ret v => exact q
  | brk => exact q
  | cont => exact q
def tBreak : TS := fun D σ H => D.bk σ H
def tCont : TS := fun D σ H => D.ct σ H
/-- in a def's body nothing is shown -/
theorem Inv.quiet {pins : List (Addr × Obj)} {σ : St} {H : Hp} {s : Shared} (I : Inv X pins σ H s) : interactive X.env = false := by simp [interactive, I.ok.kind]
/-- an expression whose value is dropped -/
def tDrop (te : TE) : TS := fun D σ H => te σ H fun _ H1 => D.nx σ H1
theorem ps_expr (he : PE X e te) (hs : swapsWith e none pos.line X.env = pure false := by rfl) : PS X (.Expr e pos) (tDrop te) := by
  intro pins s σ H D I h
  exact wpAny_Expr_any (thn (he pins s σ H _ I h) fun v s1 ⟨x, H1, I1, r1, q1⟩ => ⟨σ, H1, I1, q1⟩) I.quiet hs
def tRet (te : TE) : TS := fun D σ H => te σ H D.rt
theorem ps_ret (he : PE X e te) : PS X (.Return (some e) pos) (tRet te) := by
  intro pins s σ H D I h
  exact wpAny_Return_some (thn (he pins s σ H _ I h) fun v s1 ⟨x, H1, I1, r1, q1⟩ => ⟨x, σ, H1, I1, r1, q1⟩)
def tRetN : TS := fun D _ H => D.rt .non H
def tIfS (c : TT) (t u : TS) : TS := fun D σ H => c σ H fun b H1 => if b = true then t D σ H1 else u D σ H1
theorem ps_if {c : Expr} {a b : List Stmt} {tc : TT} (hc : PT X c tc) (ha : PSs X a t) (hb : PSs X b u) : PS X (.If c a b pos) (tIfS tc t u) := by
  intro pins s σ H D I h
  refine wpAny_If (thn (hc pins s σ H _ I h) fun d s1 ⟨H1, I1, q1⟩ => ?_)
  cases d with
  | true => exact ha pins s1 σ H1 D I1 q1
  | false => exact hb pins s1 σ H1 D I1 q1
/-- code that the proof never comes to -/
def tNever : TS := fun _ _ _ => False
end

/-! ### targets -/
abbrev TG := V → St → Hp → (St → Hp → Prop) → Prop
abbrev TGs := List V → St → Hp → (St → Hp → Prop) → Prop
def PG (X : Cx) (target : Expr) (t : TG) : Prop :=
  ∀ (pins : List (Addr × Obj)) (s : Shared) (σ : St) (H : Hp) (v : V) (u : Value) (Q : St → Hp → Prop), Inv X pins σ H s → RelV v u → t v σ H Q →
    wpAny (model X.prog X.w) X.A (assign target X.env u) (fun _ s' => ∃ σ' H', Inv X pins σ' H' s' ∧ Q σ' H') X.xe s
/-- several targets, one after another -/
def PGs (X : Cx) (ts : List Expr) (t : TGs) : Prop :=
  ∀ (pins : List (Addr × Obj)) (s : Shared) (σ : St) (H : Hp) (vs : List V) (us : List Value) (Q : St → Hp → Prop), Inv X pins σ H s → Vals vs us → t vs σ H Q →
    wpAny (model X.prog X.w) X.A (assignInOrder ((assignEach ts X.env).map (·.2)) us) (fun _ s' => ∃ σ' H', Inv X pins σ' H' s' ∧ Q σ' H') X.xe s
/-- o[i] = v, by values -/
abbrev TSet := V → V → V → Hp → (Hp → Prop) → Prop
def PSet (X : Cx) (t : TSet) : Prop :=
  ∀ (pins : List (Addr × Obj)) (s : Shared) (σ : St) (H : Hp) (o i v : V) (ov iv u : Value) (Q : Hp → Prop), Inv X pins σ H s → RelV o ov → RelV i iv → RelV v u → t o i v H Q →
    wpAny (model X.prog X.w) X.A (setItem ov iv u) (fun _ s' => ∃ H', Inv X pins σ H' s' ∧ Q H') X.xe s
/-- a op= b, by values -/
abbrev TIp := V → V → Hp → VK → Prop
def PIp (X : Cx) (op : Operator) (t : TIp) : Prop :=
  ∀ (pins : List (Addr × Obj)) (s : Shared) (σ : St) (H : Hp) (x y : V) (v u : Value) (Q : VK), Inv X pins σ H s → RelV x v → RelV y u → t x y H Q →
    wpAny (model X.prog X.w) X.A (inplaceOp op v u) (EP X pins σ Q) X.xe s
section
variable {X : Cx} {pos : Pos}
def gName (i : Nat) : TG := fun v σ H Q => Q (σ.set i (some v)) H
theorem pg_name {i : Nat} {x : Str} (hN : X.N.Nodup) (hi : X.N[i]? = some x) (hx : Loc X.env.scope x) (hf : X.fn x = true ∨ X.env.scope.names.lookup x = some .local := by first | exact .inl rfl | exact .inr rfl | assumption) : PG X (.Name x pos) (gName i) := by
  intro pins s σ H v u Q I r h
  exact wpAny_assign_Name (store_ok I hN hi hx r (fun s' I' => ⟨_, H, I', h⟩) hf)
def gNil : TGs := fun vs σ H Q => vs = [] ∧ Q σ H
def gCons (t : TG) (u : TGs) : TGs := fun vs σ H Q => ∃ v r, vs = v :: r ∧ t v σ H fun σ' H' => u r σ' H' Q
/-- (a, b, ..) = a tuple of that length -/
def gTup (K : PySem.W.Frag) (n : Nat) (t : TGs) : TG := fun v σ H Q => ∃ a xs, v = .ref a ∧ SqT K H a xs ∧ xs.length = n ∧ t xs σ H Q
/-- o[i] = .. -/
def gSub (to ti : TE) (t : TSet) : TG := fun v σ H Q => to σ H fun o H1 => ti σ H1 fun i H2 => t o i v H2 fun H3 => Q σ H3
/-- target = value -/
def tAsg (te : TE) (g : TG) : TS := fun D σ H => te σ H fun x H1 => g x σ H1 D.nx
/-- name = value -/
theorem ps_set {i : Nat} {x : Str} {e : Expr} {te : TE} {pos' : Pos} (hN : X.N.Nodup) (hi : X.N[i]? = some x) (hx : Loc X.env.scope x) (he : PE X e te) (hs : swapsWith e (some (.Name x pos')) pos.line X.env = pure false := by rfl) (hf : X.fn x = true ∨ X.env.scope.names.lookup x = some .local := by first | exact .inl rfl | exact .inr rfl | assumption) :
    PS X (.Assign [.Name x pos'] e pos) (tAsg te (gName i)) := by
  intro pins s σ H D I h
  refine wpAny_Assign_Name (thn (he pins s σ H _ I h) fun v s1 ⟨y, H1, I1, r1, q1⟩ => ?_) hs
  exact store_ok I1 hN hi hx r1 (fun s2 I2 => ⟨_, H1, I2, q1⟩) hf
/-- a, b = x, y with plain local names: stored from the right; the pair itself is not tracked (the opening rows as in PyProof/Rows/TupAssign.lean:23) -/
def tPar (i j : Nat) (ta : TA) : TS := fun D σ H => ta σ H fun vs H1 => ∃ v w, vs = [v, w] ∧ D.nx ((σ.set i (some v)).set j (some w)) H1
/-- name op= e -/
def tAug (i : Nat) (te : TE) (ti : TIp) : TS := fun D σ H => ∃ x, σ[i]? = some (some x) ∧ te σ H fun y H1 => ti x y H1 fun z H2 => D.nx (σ.set i (some z)) H2
/-- o[i] op= e -/
def tAugS (to ti te : TE) (tget : V → V → Hp → VK → Prop) (tip : TIp) (tset : TSet) : TS := fun D σ H => to σ H fun o H1 => ti σ H1 fun i H2 => tget o i H2 fun x H3 => te σ H3 fun y H4 => tip x y H4 fun z H5 => tset o i z H5 fun H6 => D.nx σ H6
/-- o[i], by values -/
def PGet (X : Cx) (t : V → V → Hp → VK → Prop) : Prop :=
  ∀ (pins : List (Addr × Obj)) (s : Shared) (σ : St) (H : Hp) (o i : V) (ov iv : Value) (Q : VK), Inv X pins σ H s → RelV o ov → RelV i iv → t o i H Q →
    wpAny (model X.prog X.w) X.A (getItem ov iv) (EP X pins σ Q) X.xe s
/-- ints -/
def ipI (f : Int → Int → Int) : TIp := fun x y H Q => ∃ i j, x = .int i ∧ y = .int j ∧ Q (.int (f i j)) H
end

/-! ### while -/
section
variable {X : Cx} {pos : Pos}
/-- the invariant W with its measure -/
def tWhile (c : TT) (tb : TS) : TS := fun D σ H => ∃ W : Nat → St → Hp → Prop, (∃ m, W m σ H) ∧ ∀ m σ H, W m σ H →
  c σ H fun b H1 => if b = true then ∃ N : St → Hp → Prop, (∀ σ' H', N σ' H' → ∃ m', m' < m ∧ W m' σ' H') ∧ tb { D with nx := N, ct := N, bk := D.nx } σ H1 else D.nx σ H1
theorem ps_while {c : Expr} {body : List Stmt} {tc : TT} {tb : TS} (hp : PassesOwn (model X.prog X.w) X.A X.env X.xe) (hc : PT X c tc) (hb : PSs X body tb) : PS X (.While c body [] pos) (tWhile tc tb) := by
  intro pins s σ H D I h
  obtain ⟨W, ⟨m0, w0⟩, turn⟩ := h
  refine wpAny_While (codeAny_whileLoop (fun n s' => ∃ σ' H', Inv X pins σ' H' s' ∧ W n σ' H') ?_ m0 ⟨σ, H, I, w0⟩)
  rintro n s1 ⟨σ1, H1, I1, w1⟩
  refine wpAny_passesOwn hp (thn (hc pins s1 σ1 H1 _ I1 (turn n σ1 H1 w1)) fun b s2 ⟨H2, I2, q2⟩ => ?_)
  cases b with
  | true =>
    obtain ⟨N, hN, q2⟩ := q2
    rw [if_pos rfl]
    refine wpAny_passesOwn hp (thn (hb pins s2 σ1 H2 _ I2 q2) fun f s3 q3 => ?_)
    cases f with
    | next =>
      obtain ⟨σ3, H3, I3, n3⟩ := q3
      obtain ⟨m', hm, w3⟩ := hN σ3 H3 n3
      exact ⟨m', hm, σ3, H3, I3, w3⟩
    | cont =>
      obtain ⟨σ3, H3, I3, n3⟩ := q3
      obtain ⟨m', hm, w3⟩ := hN σ3 H3 n3
      exact ⟨m', hm, σ3, H3, I3, w3⟩
    | brk => exact q3
    | ret v => exact q3
  | false =>
    rw [if_neg Bool.false_ne_true]
    exact wpAny_execs_nil ⟨σ1, H2, I2, q2⟩
end

/-! ### what a loop or a comprehension walks -/
/-- at turn i: it yields x (the heap may grow), or it stops -/
structure It where
  go : Nat → Hp → Prop
  yld : Nat → Hp → V → Hp → Prop
  stop : Nat → Hp → Prop
/-- the iterator's own objects may turn: they are not the frame's, not pinned, younger than the entry (or a comprehension's own) -/
def FpOk (X : Cx) (pins : List (Addr × Obj)) (H : Hp) (b : Addr) : Prop :=
  H b = none ∧ b ≠ X.env.locals ∧ b ∉ X.fs ∧ (b ∈ X.ex ∨ X.s₀.heap.objs.size ≤ b) ∧ (∀ x c, X.env.cells.lookup x = some c → c ≠ b) ∧ ∀ p ∈ X.pn ++ pins, p.1 ≠ b
theorem Inv.fpOk {X : Cx} {pins : List (Addr × Obj)} {σ : St} {H H' : Hp} {s : Shared} {b : Addr} (I : Inv X pins σ H s) (hb : s.heap.objs.size ≤ b) (hn : H' b = none) : FpOk X pins H' b := by
  refine ⟨hn, Nat.ne_of_gt (Nat.lt_of_lt_of_le I.lt hb), I.nofs hb, .inr (Nat.le_trans I.sz hb), fun x c e z => ?_, fun p hp z => ?_⟩
  · obtain ⟨v, q⟩ := I.cell x c e
    exact absurd (Nat.lt_of_lt_of_le q.lt (by rw [z]; exact hb)) (Nat.lt_irrefl _)
  · exact absurd (Nat.lt_of_lt_of_le (Heap.lt_size (I.pin p hp).1) (by rw [z]; exact hb)) (Nat.lt_irrefl _)
structure Turn (P : Program) (w : World) (K : PySem.W.Frag) (tg : Expr) (J : It) (fp : List Addr) (it : Addr) (tn : Nat → Heap → Prop) : Prop where
  mem : it ∈ fp
  obj : ∀ i h, tn i h → ∀ b ∈ fp, ∃ o, h.get? b = some o ∧ ∀ v, o.data ≠ .cell v
  keep : ∀ i h h', tn i h → (∀ b ∈ fp, ∀ o, h.get? b = some o → h'.get? b = some o) → tn i h'
  item : ∀ (X : Cx), X.prog = P → X.w = w → X.K = K → X.calm = true → ∀ (i : Nat) (pins : List (Addr × Obj)) (s : Shared) (σ : St) (H : Hp) (E : Value → Shared → Prop), Inv X pins σ H s → (∀ b ∈ fp, FpOk X pins H b) → tn i s.heap → J.go i H →
    wpAny (model P w) X.A (pyNext (.ref it)) (fun r s1 => ∃ u, r = some u ∧
      wpAny (model P w) X.A (letOwnedTupleGo tg (.ref it) u) (fun _ s2 => ∃ x H', Inv X pins σ H' s2 ∧ RelV x u ∧ J.yld i H x H' ∧ tn (i + 1) s2.heap ∧ ∀ b ∈ fp, H' b = none) E s1) E s
  done : ∀ (X : Cx), X.prog = P → X.w = w → X.K = K → X.calm = true → ∀ (i : Nat) (pins : List (Addr × Obj)) (s : Shared) (σ : St) (H : Hp) (E : Value → Shared → Prop), Inv X pins σ H s → (∀ b ∈ fp, FpOk X pins H b) → tn i s.heap → J.stop i H →
    wpAny (model P w) X.A (pyNext (.ref it)) (fun r s1 => r = none ∧ Inv X pins σ H s1) E s
  self : ∀ (A : Around) (i : Nat) (s : Shared) (Q : Value → Shared → Prop) (E : Value → Shared → Prop), tn i s.heap → Q (.ref it) s → wpAny (model P w) A (pyIter (.ref it)) Q E s
abbrev TI := St → Hp → (It → Hp → Prop) → Prop
/-- an iterator has come -/
def PIE (X : Cx) (pins : List (Addr × Obj)) (σ : St) (tg : Expr) (R : It → Hp → Prop) (itv : Value) (s2 : Shared) : Prop :=
  ∃ (it : Addr) (fp : List Addr) (tn : Nat → Heap → Prop) (J : It) (H' : Hp), itv = .ref it ∧ Inv X pins σ H' s2 ∧ Turn X.prog X.w X.K tg J fp it tn ∧ tn 0 s2.heap ∧ (∀ b ∈ fp, FpOk X pins H' b) ∧ R J H'
def PI (X : Cx) (tg iter : Expr) (wi : TI) : Prop :=
  ∀ (pins : List (Addr × Obj)) (s : Shared) (σ : St) (H : Hp) (R : It → Hp → Prop), Inv X pins σ H s → wi σ H R →
    wpAny (model X.prog X.w) X.A (eval iter X.env) (fun v s1 => wpAny (model X.prog X.w) X.A (pyIter v) (PIE X pins σ tg R) X.xe s1) X.xe s

/-- the step ahead of the store is nothing for an iterator that keeps no tuple -/
theorem go_of {M : Model} {A : Around} {E : Value → Shared → Prop} {s : Shared} {tg : Expr} {it : Addr} {u : Value} {o : Obj} {n : String} {vs : Array Value} {Q : Unit → Shared → Prop} (ho : s.heap.get? it = some o) (hc : o.cls = .type n) (hd : o.data = .fields vs)
    (hn : ["enumerate", "zip", "dict_itemiterator", "dict_reverseitemiterator", "odict_iterator", "itertools.zip_longest", "itertools.pairwise"].contains n = false) (hQ : Q () s) : wpAny M A (letOwnedTupleGo tg (.ref it) u) Q E s := by
  unfold letOwnedTupleGo
  cases tg <;> first
    | exact wpAny_pure hQ
    | (cases u <;> first
        | exact wpAny_pure hQ
        | (refine wpAny_bind (wpAny_load ho ?_)
           rw [hc, hd]
           show wpAny M A (if (["enumerate", "zip", "dict_itemiterator", "dict_reverseitemiterator", "odict_iterator", "itertools.zip_longest", "itertools.pairwise"].contains n && vs[0]? == some (rawInt _)) = true then _ else _) Q E s
           rw [if_neg (by intro h; rw [hn, Bool.false_and] at h; cases h)]
           exact wpAny_pure hQ))

/-- the list at a, as it stands at each turn (a loop may append to it) -/
def Itl (K : PySem.W.Frag) (a : Addr) : It :=
  ⟨fun i H => ∃ xs x, SqL K H a xs ∧ xs[i]? = some x, fun i H x H' => H' = H ∧ ∀ xs, SqL K H a xs → xs[i]? = some x, fun i H => ∃ xs, SqL K H a xs ∧ xs.length ≤ i⟩
def Itt (K : PySem.W.Frag) (a : Addr) : It :=
  ⟨fun i H => ∃ xs x, SqT K H a xs ∧ xs[i]? = some x, fun i H x H' => H' = H ∧ ∀ xs, SqT K H a xs → xs[i]? = some x, fun i H => ∃ xs, SqT K H a xs ∧ xs.length ≤ i⟩
/-- lo, lo + 1, .. (n of them) -/
def Itr (lo : Int) (n : Nat) : It := ⟨fun i _ => i < n, fun i H x H' => H' = H ∧ x = .int (lo + i), fun i _ => n ≤ i⟩
theorem turn_list {P : Program} {w : World} {K : PySem.W.Frag} {tg : Expr} (a it : Addr) : Turn P w K tg (Itl K a) [it] it (fun i h => h.IsListIter it a i) where
  mem := by simp
  obj := fun i h st b hb => by
    have e : b = it := by simpa using hb
    subst e
    obtain ⟨o, e, c, d⟩ := st
    exact ⟨o, e, fun v z => by rw [d] at z; cases z⟩
  keep := fun i h h' st k => st.at fun o e => k it (by simp) o e
  item := by
    intro X hP hw hK hc i pins s σ H E I hf st hg
    subst hP hw hK
    obtain ⟨xs, x, hq, hx⟩ := hg
    obtain ⟨its, rv, p, hz⟩ := I.list hq
    obtain ⟨u, hu, ru⟩ := rv.get hx
    obtain ⟨f0, f1, f2, f3, f4, f5⟩ := hf it (by simp)
    refine wpAny_pyNext_list_item st p.isList (x := u) (by simpa using hu) fun h' st' sb => ?_
    have I1 : Inv X pins σ H { s with heap := h' } := I.turned (t' := s.toks) (fun b o hb e => (sb.2 b hb).trans e) f0 f1 f3 f4 f5
    obtain ⟨o, e, c, d⟩ := id st'
    exact ⟨u, rfl, go_of (s := { s with heap := h' }) e c d (by decide) ⟨x, H, I1, ru, ⟨rfl, fun ys hy => by rw [I.list_inj hy hq]; exact hx⟩, st', fun b hb => (hf b hb).1⟩⟩
  done := by
    intro X hP hw hK hc i pins s σ H E I hf st hg
    subst hP hw hK
    obtain ⟨xs, hq, hx⟩ := hg
    obtain ⟨its, rv, p, hz⟩ := I.list hq
    obtain ⟨f0, f1, f2, f3, f4, f5⟩ := hf it (by simp)
    have hl := rv.length
    exact wpAny_pyNext_list_end (I.ok.hd hc) st p.isList (by simp; omega) fun h' eb => ⟨rfl, I.turned (t' := s.toks) (fun b o hb e => eb b o hb e) f0 f1 f3 f4 f5⟩
  self := fun _ _ _ _ _ st h => wpAny_pyIter_listiter st h
theorem turn_tuple {P : Program} {w : World} {K : PySem.W.Frag} {tg : Expr} (a it : Addr) : Turn P w K tg (Itt K a) [it] it (fun i h => h.IsTupleIter it a i) where
  mem := by simp
  obj := fun i h st b hb => by
    have e : b = it := by simpa using hb
    subst e
    obtain ⟨o, e, c, d⟩ := st
    exact ⟨o, e, fun v z => by rw [d] at z; cases z⟩
  keep := fun i h h' st k => st.at fun o e => k it (by simp) o e
  item := by
    intro X hP hw hK hc i pins s σ H E I hf st hg
    subst hP hw hK
    obtain ⟨xs, x, hq, hx⟩ := hg
    obtain ⟨its, rv, p, hz⟩ := I.tuple hq
    obtain ⟨u, hu, ru⟩ := rv.get hx
    obtain ⟨f0, f1, f2, f3, f4, f5⟩ := hf it (by simp)
    refine wpAny_pyNext_tuple_item st (show s.heap.IsTuple a its.toArray from p) (x := u) (by simpa using hu) fun h' st' sb => ?_
    have I1 : Inv X pins σ H { s with heap := h' } := I.turned (t' := s.toks) (fun b o hb e => (sb.2 b hb).trans e) f0 f1 f3 f4 f5
    obtain ⟨o, e, c, d⟩ := id st'
    exact ⟨u, rfl, go_of (s := { s with heap := h' }) e c d (by decide) ⟨x, H, I1, ru, ⟨rfl, fun ys hy => by rw [I.tuple_inj hy hq]; exact hx⟩, st', fun b hb => (hf b hb).1⟩⟩
  done := by
    intro X hP hw hK hc i pins s σ H E I hf st hg
    subst hP hw hK
    obtain ⟨xs, hq, hx⟩ := hg
    obtain ⟨its, rv, p, hz⟩ := I.tuple hq
    obtain ⟨f0, f1, f2, f3, f4, f5⟩ := hf it (by simp)
    have hl := rv.length
    exact wpAny_pyNext_tuple_end (I.ok.hd hc) st (show s.heap.IsTuple a its.toArray from p) (by simp; omega) fun h' eb => ⟨rfl, I.turned (t' := s.toks) (fun b o hb e => eb b o hb e) f0 f1 f3 f4 f5⟩
  self := fun _ _ _ _ _ st h => wpAny_pyIter_tupleiter st h
theorem turn_range {P : Program} {w : World} {K : PySem.W.Frag} {tg : Expr} (it : Addr) (lo : Int) (n : Nat) : Turn P w K tg (Itr lo n) [it] it (fun i h => IsRangeIter h it (lo + (i : Nat) * 1) ((n : Int) - (i : Nat)) 1) where
  mem := by simp
  obj := fun i h st b hb => by
    have e : b = it := by simpa using hb
    subst e
    exact ⟨_, st, fun v z => by
      have z' : Data.fields _ = Data.cell v := z
      cases z'⟩
  keep := fun i h h' st k => k it (by simp) _ st
  item := by
    intro X hP hw hK hc i pins s σ H E I hf st hg
    subst hP hw hK
    obtain ⟨f0, f1, f2, f3, f4, f5⟩ := hf it (by simp)
    have W := Walks.range (prog := X.prog) (w := X.w) (I.ok.hd hc) it lo 1 n
    refine W.item i s _ _ hg st fun v h' tk hv st' kk => ?_
    obtain ⟨t, rfl⟩ := hv
    have I1 : Inv X pins σ H { s with heap := h', toks := tk } := I.turned (fun b o hb e => kk b o (by simpa using hb) e) f0 f1 f3 f4 f5
    refine ⟨_, rfl, go_of (s := { s with heap := h', toks := tk }) (n := "range_iterator") st' rfl rfl (by decide) ⟨.int (lo + i), H, I1, ⟨t, ?_⟩, ⟨rfl, rfl⟩, st', fun b hb => (hf b hb).1⟩⟩
    rw [Int.mul_one]
  done := by
    intro X hP hw hK hc i pins s σ H E I hf st hg
    subst hP hw hK
    obtain ⟨f0, f1, f2, f3, f4, f5⟩ := hf it (by simp)
    exact wpAny_pyNext_range_end (I.ok.hd hc) st (by have : n ≤ i := hg; omega) fun h' eb => ⟨rfl, I.turned (t' := s.toks) (fun b o hb e => eb b o hb e) f0 f1 f3 f4 f5⟩
  self := fun _ _ _ _ _ st h => wpAny_pyIter_rangeiter st h
end L2

namespace L2
open PySem PySem.Spec PyProof.Rows
section
variable {X : Cx} {tg : Expr}
def iList (K : PySem.W.Frag) (tl : TE) : TI := fun σ H R => tl σ H fun x H1 => ∃ a, x = .ref a ∧ (∃ xs, SqL K H1 a xs) ∧ R (Itl K a) H1
def iTup (K : PySem.W.Frag) (tl : TE) : TI := fun σ H R => tl σ H fun x H1 => ∃ a, x = .ref a ∧ (∃ xs, SqT K H1 a xs) ∧ R (Itt K a) H1
theorem pi_list {l : Expr} {tl : TE} (hl : PE X l tl) : PI X tg l (iList X.K tl) := by
  intro pins s σ H R I h
  refine thn (hl pins s σ H _ I h) fun v s1 ⟨x, H1, I1, r1, q1⟩ => ?_
  obtain ⟨a, e, ⟨xs, hq⟩, q⟩ := q1
  subst e
  cases r1
  obtain ⟨its, rv, p, hz⟩ := I1.list hq
  refine wpAny_pyIter_list p.isList ?_
  refine ⟨s1.heap.objs.size, [s1.heap.objs.size], _, _, H1, rfl, I1.kept (t' := s1.toks) fun b o e => Heap.get?_push_of_some _ e, turn_list a _, ⟨_, Heap.get?_push_size _ rfl, rfl, rfl⟩, fun b hb => ?_, q⟩
  have e : b = s1.heap.objs.size := by simpa using hb
  subst e
  exact I1.fpOk (Nat.le_refl _) (I1.hok.fresh (Nat.le_refl _))
theorem pi_tup {l : Expr} {tl : TE} (hl : PE X l tl) : PI X tg l (iTup X.K tl) := by
  intro pins s σ H R I h
  refine thn (hl pins s σ H _ I h) fun v s1 ⟨x, H1, I1, r1, q1⟩ => ?_
  obtain ⟨a, e, ⟨xs, hq⟩, q⟩ := q1
  subst e
  cases r1
  obtain ⟨its, rv, p, hz⟩ := I1.tuple hq
  refine wpAny_pyIter_tuple (show s1.heap.IsTuple a its.toArray from p) ?_
  refine ⟨s1.heap.objs.size, [s1.heap.objs.size], _, _, H1, rfl, I1.kept (t' := s1.toks) fun b o e => Heap.get?_push_of_some _ e, turn_tuple a _, ⟨_, Heap.get?_push_size _ rfl, rfl, rfl⟩, fun b hb => ?_, q⟩
  have e : b = s1.heap.objs.size := by simpa using hb
  subst e
  exact I1.fpOk (Nat.le_refl _) (I1.hok.fresh (Nat.le_refl _))
/-- a range object just made, walked -/
theorem range_it {pins : List (Addr × Obj)} {σ : St} {H : Hp} {s : Shared} {R : It → Hp → Prop} {E : Value → Shared → Prop} {lo hi : Int} {t u v : Tok} {tk : Nat} (I : Inv X pins σ H s) (h1 : -(2 ^ 62) ≤ lo) (h2 : lo < 2 ^ 62) (h3 : -(2 ^ 62) ≤ hi) (h4 : hi < 2 ^ 62)
    (q : R (Itr lo (hi - lo).toNat) H) : wpAny (model X.prog X.w) X.A (pyIter (.ref s.heap.objs.size)) (PIE X pins σ tg R) E { s with heap := s.heap.push { cls := .type "range", data := .fields #[.int lo t, .int hi u, .int 1 v] }, toks := tk } := by
  refine wpAny_pyIter_range (IsRange.new ..) (small_one h1 h2 h3 h4) ?_
  have I1 : Inv X pins σ H { s with heap := s.heap.push { cls := .type "range", data := .fields #[.int lo t, .int hi u, .int 1 v] }, toks := tk } := I.kept fun b o e => Heap.get?_push_of_some _ e
  refine ⟨(s.heap.push { cls := .type "range", data := .fields #[.int lo t, .int hi u, .int 1 v] }).objs.size, [(s.heap.push { cls := .type "range", data := .fields #[.int lo t, .int hi u, .int 1 v] }).objs.size], _, _, H, rfl,
    I1.kept (t' := tk) fun b o e => Heap.get?_push_of_some _ e, turn_range _ lo (hi - lo).toNat, ?_, fun b hb => ?_, q⟩
  · have e1 : lo + ((0 : Nat) : Int) * 1 = lo := by simp
    have e2 : (((hi - lo).toNat : Nat) : Int) - ((0 : Nat) : Int) = Builtin.Range.rangeSize lo hi 1 := by rw [rangeSize_one]; split <;> omega
    show IsRangeIter _ _ (lo + ((0 : Nat) : Int) * 1) ((((hi - lo).toNat : Nat) : Int) - ((0 : Nat) : Int)) 1
    rw [e1, e2]
    exact Heap.get?_push_size _ rfl
  · have e : b = (s.heap.push { cls := .type "range", data := .fields #[.int lo t, .int hi u, .int 1 v] }).objs.size := by simpa using hb
    subst e
    exact I1.fpOk (Nat.le_refl _) (I1.hok.fresh (Nat.le_refl _))
def iRng1 (ta : TA) : TI := fun σ H R => ta σ H fun vs H1 => ∃ j : Int, vs = [.int j] ∧ -(2 ^ 62) ≤ j ∧ j < 2 ^ 62 ∧ R (Itr 0 j.toNat) H1
def iRng2 (ta : TA) : TI := fun σ H R => ta σ H fun vs H1 => ∃ i j : Int, vs = [.int i, .int j] ∧ (-(2 ^ 62) ≤ i ∧ i < 2 ^ 62 ∧ -(2 ^ 62) ≤ j ∧ j < 2 ^ 62) ∧ R (Itr i (j - i).toNat) H1
theorem pi_range1 {a : Expr} {ta : TA} {p pos : Pos} (hg : Gl X "range") (hm : X.mg "range" = none) (ha : PA X [a] ta) (hs : starEach [a] X.env = [(false, eval a X.env)] := by rfl) : PI X tg (.Call (.Name "range" p) [a] [] pos) (iRng1 ta) := by
  intro pins s σ H R I h
  refine Call_ (ld_blt I hg hm boot_range (PyProof.Rows.callWith_type1 (thn (ha pos pins s σ H _ I h) fun us s1 ⟨vs, H1, I1, r1, q1⟩ => ?_) hs rfl))
  obtain ⟨j, e, q1, q2, q⟩ := q1
  subst e
  cases r1 with
  | cons r rr =>
    cases rr
    obtain ⟨t, rfl⟩ := r
    exact call_range_1 (range_it I1 (by omega) (by omega) q1 q2 (by simpa using q))
/-! ### for -/
/-- W: the invariant by the turn and a measure; N: what the body is to reach -/
def tFor (wi : TI) (g : TG) (tb : TS) : TS := fun D σ H => wi σ H fun J H1 => ∃ W : Nat → Nat → St → Hp → Prop, (∃ m, W 0 m σ H1) ∧ ∀ i m σ H, W i m σ H →
  (J.stop i H ∧ D.nx σ H) ∨ (J.go i H ∧ ∃ N : St → Hp → Prop, (∀ σ' H', N σ' H' → ∃ m', m' < m ∧ W (i + 1) m' σ' H') ∧ ∀ x H', J.yld i H x H' → g x σ H' fun σ2 H2 => tb { D with nx := N, ct := N, bk := D.nx } σ2 H2)
/-- the records at fp as they stand -/
def pinsAt (fp : List Addr) (h : Heap) : List (Addr × Obj) := fp.filterMap fun b => (h.get? b).map fun o => (b, o)
theorem mem_pinsAt {fp : List Addr} {h : Heap} {b : Addr} {o : Obj} (hb : b ∈ fp) (e : h.get? b = some o) : (b, o) ∈ pinsAt fp h := List.mem_filterMap.mpr ⟨b, hb, by rw [e]; rfl⟩
theorem of_pinsAt {fp : List Addr} {h : Heap} {p : Addr × Obj} (hp : p ∈ pinsAt fp h) : p.1 ∈ fp ∧ h.get? p.1 = some p.2 := by
  obtain ⟨b, hb, e⟩ := List.mem_filterMap.mp hp
  cases q : h.get? b with
  | none => rw [q] at e; cases e
  | some o =>
    rw [q] at e
    have e' : (b, o) = p := Option.some.inj e
    subst e'
    exact ⟨hb, q⟩
theorem Inv.pinned {pins : List (Addr × Obj)} {σ : St} {H : Hp} {s : Shared} {fp : List Addr} (I : Inv X pins σ H s) (hf : ∀ b ∈ fp, FpOk X pins H b) (ho : ∀ b ∈ fp, ∃ o, s.heap.get? b = some o ∧ ∀ v, o.data ≠ .cell v) : Inv X (pins ++ pinsAt fp s.heap) σ H s :=
  I.pins_of fun p hp => (List.mem_append.mp hp).elim (fun z => I.pin p (List.mem_append_right _ z)) fun z => by
    obtain ⟨hb, e⟩ := of_pinsAt z
    obtain ⟨f0, f1, f2, _⟩ := hf p.1 hb
    obtain ⟨o, e', d⟩ := ho p.1 hb
    rw [e] at e'; cases e'
    exact ⟨e, f0, f1, f2, d⟩
theorem Inv.unpinned {pins pl : List (Addr × Obj)} {σ : St} {H : Hp} {s : Shared} (I : Inv X (pins ++ pl) σ H s) : Inv X pins σ H s := I.pins_of fun p hp => I.pin p (List.mem_append_right _ (List.mem_append_left _ hp))
theorem ps_for {iter : Expr} {body : List Stmt} {wi : TI} {g : TG} {tb : TS} {pos : Pos} (hp : PassesOwn (model X.prog X.w) X.A X.env X.xe) (hc : X.calm = true) (hi : PI X tg iter wi) (hg : PG X tg g) (hb : PSs X body tb)
    (hs : ∀ x, foldedSetIterable iter X.env x = pure x := by intro _; rfl) : PS X (.For tg iter body [] pos) (tFor wi g tb) := by
  intro pins s σ H D I h
  refine wpAny_For (thn (hi pins s σ H _ I h) fun v s1 h1 => thn h1 fun itv s2 h2 => ?_) hs
  obtain ⟨it, fp, tn, J, H2, e, I2, T, st2, f2, W, ⟨m0, w0⟩, turn⟩ := h2
  subst e
  -- what stays true of the iterator's objects through the loop
  have stat : ∀ {H' : Hp}, (∀ b ∈ fp, H' b = none) → ∀ b ∈ fp, FpOk X pins H' b := fun hn b hb => ⟨hn b hb, (f2 b hb).2⟩
  refine codeAny_forLoop_any (fun n s' => ∃ i σ' H', Inv X pins σ' H' s' ∧ tn i s'.heap ∧ (∀ b ∈ fp, H' b = none) ∧ W i n σ' H') ?_ m0 ⟨0, σ, H2, I2, st2, fun b hb => (f2 b hb).1, w0⟩
  rintro n s3 ⟨i, σ3, H3, I3, st3, fr3, w3⟩
  rcases turn i n σ3 H3 w3 with ⟨stop, qn⟩ | ⟨go, N, hN, step⟩
  · refine wpAny_passesOwn hp (thn (T.done X rfl rfl rfl hc i pins s3 σ3 H3 X.xe I3 (stat fr3) st3 stop) fun r s4 ⟨hr, I4⟩ => ?_)
    subst hr
    exact wpAny_execs_nil ⟨σ3, H3, I4, qn⟩
  · refine wpAny_passesOwn hp (thn (T.item X rfl rfl rfl hc i pins s3 σ3 H3 X.xe I3 (stat fr3) st3 go) fun r s4 ⟨u, hr, h4⟩ => ?_)
    subst hr
    refine wpAny_passesOwn hp (thn h4 fun _ s5 ⟨x, H5, I5, r5, y5, st5, fr5⟩ => ?_)
    have I5' := I5.pinned (stat fr5) (T.obj _ _ st5)
    refine wpAny_passesOwn hp (thn (hg _ s5 σ3 H5 x u _ I5' r5 (step x H5 y5)) fun _ s6 ⟨σ6, H6, I6, q6⟩ => ?_)
    refine wpAny_passesOwn hp (thn (hb _ s6 σ6 H6 _ I6 q6) fun f s7 q7 => ?_)
    have again : ∀ {σ7 : St} {H7 : Hp}, Inv X (pins ++ pinsAt fp s5.heap) σ7 H7 s7 → N σ7 H7 → ∃ m, m < n ∧ ∃ i σ' H', Inv X pins σ' H' s7 ∧ tn i s7.heap ∧ (∀ b ∈ fp, H' b = none) ∧ W i m σ' H' := fun {σ7 H7} I7 n7 => by
      obtain ⟨m', hm, w7⟩ := hN σ7 H7 n7
      refine ⟨m', hm, i + 1, σ7, H7, I7.unpinned, T.keep _ _ _ st5 fun b hb o e => (I7.pin (b, o) (List.mem_append_right _ (List.mem_append_right _ (mem_pinsAt hb e)))).1, fun b hb => ?_, w7⟩
      obtain ⟨o, e, d⟩ := T.obj _ _ st5 b hb
      exact (I7.pin (b, o) (List.mem_append_right _ (List.mem_append_right _ (mem_pinsAt hb e)))).2.1
    cases f with
    | next => obtain ⟨σ7, H7, I7, n7⟩ := q7; exact again I7 n7
    | cont => obtain ⟨σ7, H7, I7, n7⟩ := q7; exact again I7 n7
    | brk => obtain ⟨σ7, H7, I7, q7⟩ := q7; exact ⟨σ7, H7, I7.unpinned, q7⟩
    | ret v => obtain ⟨x7, σ7, H7, I7, r7, q7⟩ := q7; exact ⟨x7, σ7, H7, I7.unpinned, r7, q7⟩
end

/-! ### the forms one uses -/
/-- over a list that the body leaves as it is -/
theorem for_list {K : PySem.W.Frag} {a : Addr} {xs : List V} {g : TG} {tb : TS} {D : Ends} {σ : St} {H : Hp} (Pv : Nat → St → Hp → Prop) (h0 : Pv 0 σ H) (hl : ∀ i σ H, i ≤ xs.length → Pv i σ H → SqL K H a xs)
    (hs : ∀ i x σ H, xs[i]? = some x → Pv i σ H → g x σ H fun σ2 H2 => tb { D with nx := Pv (i + 1), ct := Pv (i + 1), bk := D.nx } σ2 H2) (hd : ∀ σ H, Pv xs.length σ H → D.nx σ H) :
    ∃ W : Nat → Nat → St → Hp → Prop, (∃ m, W 0 m σ H) ∧ ∀ i m σ H, W i m σ H →
      ((Itl K a).stop i H ∧ D.nx σ H) ∨ ((Itl K a).go i H ∧ ∃ N : St → Hp → Prop, (∀ σ' H', N σ' H' → ∃ m', m' < m ∧ W (i + 1) m' σ' H') ∧ ∀ x H', (Itl K a).yld i H x H' → g x σ H' fun σ2 H2 => tb { D with nx := N, ct := N, bk := D.nx } σ2 H2) := by
  refine ⟨fun i m σ H => m = xs.length - i ∧ i ≤ xs.length ∧ Pv i σ H, ⟨xs.length, by simp, Nat.zero_le _, h0⟩, ?_⟩
  rintro i m σ H ⟨rfl, hi, p⟩
  have q := hl i σ H hi p
  by_cases hlt : i < xs.length
  · refine .inr ⟨⟨xs, xs[i], q, by simp [hlt]⟩, Pv (i + 1), fun σ' H' p' => ⟨xs.length - (i + 1), by omega, rfl, hlt, p'⟩, fun x H' y => ?_⟩
    obtain ⟨e, y⟩ := y
    subst e
    exact hs i x σ _ (y xs q) p
  · have e : i = xs.length := by omega
    subst e
    exact .inl ⟨⟨xs, q, Nat.le_refl _⟩, hd σ H p⟩
theorem for_tup {K : PySem.W.Frag} {a : Addr} {xs : List V} {g : TG} {tb : TS} {D : Ends} {σ : St} {H : Hp} (Pv : Nat → St → Hp → Prop) (h0 : Pv 0 σ H) (hl : ∀ i σ H, i ≤ xs.length → Pv i σ H → SqT K H a xs)
    (hs : ∀ i x σ H, xs[i]? = some x → Pv i σ H → g x σ H fun σ2 H2 => tb { D with nx := Pv (i + 1), ct := Pv (i + 1), bk := D.nx } σ2 H2) (hd : ∀ σ H, Pv xs.length σ H → D.nx σ H) :
    ∃ W : Nat → Nat → St → Hp → Prop, (∃ m, W 0 m σ H) ∧ ∀ i m σ H, W i m σ H →
      ((Itt K a).stop i H ∧ D.nx σ H) ∨ ((Itt K a).go i H ∧ ∃ N : St → Hp → Prop, (∀ σ' H', N σ' H' → ∃ m', m' < m ∧ W (i + 1) m' σ' H') ∧ ∀ x H', (Itt K a).yld i H x H' → g x σ H' fun σ2 H2 => tb { D with nx := N, ct := N, bk := D.nx } σ2 H2) := by
  refine ⟨fun i m σ H => m = xs.length - i ∧ i ≤ xs.length ∧ Pv i σ H, ⟨xs.length, by simp, Nat.zero_le _, h0⟩, ?_⟩
  rintro i m σ H ⟨rfl, hi, p⟩
  have q := hl i σ H hi p
  by_cases hlt : i < xs.length
  · refine .inr ⟨⟨xs, xs[i], q, by simp [hlt]⟩, Pv (i + 1), fun σ' H' p' => ⟨xs.length - (i + 1), by omega, rfl, hlt, p'⟩, fun x H' y => ?_⟩
    obtain ⟨e, y⟩ := y
    subst e
    exact hs i x σ _ (y xs q) p
  · have e : i = xs.length := by omega
    subst e
    exact .inl ⟨⟨xs, q, Nat.le_refl _⟩, hd σ H p⟩
theorem for_range {lo : Int} {n : Nat} {g : TG} {tb : TS} {D : Ends} {σ : St} {H : Hp} (Pv : Nat → St → Hp → Prop) (h0 : Pv 0 σ H)
    (hs : ∀ i σ H, i < n → Pv i σ H → g (.int (lo + i)) σ H fun σ2 H2 => tb { D with nx := Pv (i + 1), ct := Pv (i + 1), bk := D.nx } σ2 H2) (hd : ∀ σ H, Pv n σ H → D.nx σ H) :
    ∃ W : Nat → Nat → St → Hp → Prop, (∃ m, W 0 m σ H) ∧ ∀ i m σ H, W i m σ H →
      ((Itr lo n).stop i H ∧ D.nx σ H) ∨ ((Itr lo n).go i H ∧ ∃ N : St → Hp → Prop, (∀ σ' H', N σ' H' → ∃ m', m' < m ∧ W (i + 1) m' σ' H') ∧ ∀ x H', (Itr lo n).yld i H x H' → g x σ H' fun σ2 H2 => tb { D with nx := N, ct := N, bk := D.nx } σ2 H2) := by
  refine ⟨fun i m σ H => m = n - i ∧ i ≤ n ∧ Pv i σ H, ⟨n, by simp, Nat.zero_le _, h0⟩, ?_⟩
  rintro i m σ H ⟨rfl, hi, p⟩
  by_cases hlt : i < n
  · refine .inr ⟨hlt, Pv (i + 1), fun σ' H' p' => ⟨n - (i + 1), by omega, rfl, hlt, p'⟩, fun x H' y => ?_⟩
    obtain ⟨e, y⟩ := y
    subst e y
    exact hs i σ _ hlt p
  · have e : i = n := by omega
    subst e
    exact .inl ⟨Nat.le_refl _, hd σ H p⟩
end L2

namespace L2
open PySem PySem.Spec PyProof.Rows

abbrev R2 := V → V → Hp → VK → Prop
/-- a two-place operation on values: f is binaryOp op, inplaceOp op or compareOp op -/
def OpR (X : Cx) (f : Value → Value → Sem Value) (r : R2) : Prop :=
  ∀ (pins : List (Addr × Obj)) (s : Shared) (σ : St) (H : Hp) (x y : V) (v u : Value) (Q : VK), Inv X pins σ H s → RelV x v → RelV y u → r x y H Q →
    wpAny (model X.prog X.w) X.A (f v u) (EP X pins σ Q) X.xe s
/-- a one-place operation -/
def UnR (X : Cx) (f : Value → Sem Value) (r : V → Hp → VK → Prop) : Prop :=
  ∀ (pins : List (Addr × Obj)) (s : Shared) (σ : St) (H : Hp) (x : V) (v : Value) (Q : VK), Inv X pins σ H s → RelV x v → r x H Q →
    wpAny (model X.prog X.w) X.A (f v) (EP X pins σ Q) X.xe s
/-- a call of a value that is known (a builtin, a type) with values -/
def CallR (X : Cx) (f : Value) (r : List V → Hp → VK → Prop) : Prop :=
  ∀ (pins : List (Addr × Obj)) (s : Shared) (σ : St) (H : Hp) (xs : List V) (us : List Value) (Q : VK), Inv X pins σ H s → Vals xs us → r xs H Q →
    wpAny (model X.prog X.w) X.A (call f us) (EP X pins σ Q) X.xe s
/-- a value's truth -/
def TruR (X : Cx) (r : V → Hp → (Bool → Hp → Prop) → Prop) : Prop :=
  ∀ (pins : List (Addr × Obj)) (s : Shared) (σ : St) (H : Hp) (x : V) (v : Value) (Q : Bool → Hp → Prop), Inv X pins σ H s → RelV x v → r x H Q →
    wpAny (model X.prog X.w) X.A (truthy v) (TP X pins σ Q) X.xe s

def tOp (r : R2) (ta tb : TE) : TE := fun σ H Q => ta σ H fun x H1 => tb σ H1 fun y H2 => r x y H2 Q
def tUn (r : V → Hp → VK → Prop) (ta : TE) : TE := fun σ H Q => ta σ H fun x H1 => r x H1 Q
/-- ints in, under C, and a value out -/
def rI (C : Int → Int → Prop) (g : Int → Int → V) : R2 := fun x y H Q => ∃ i j, x = .int i ∧ y = .int j ∧ C i j ∧ Q (g i j) H
def rI0 (g : Int → Int → V) : R2 := fun x y H Q => ∃ i j, x = .int i ∧ y = .int j ∧ Q (g i j) H
def rU (g : Int → V) : V → Hp → VK → Prop := fun x H Q => ∃ i, x = .int i ∧ Q (g i) H

section
variable {X : Cx} {a b c : Expr} {ta tb tc : TE} {pos : Pos}

theorem binT (ha : PE X a ta) (hb : PE X b tb) {pins : List (Addr × Obj)} {s : Shared} {σ : St} {H : Hp} {R : V → V → Hp → Prop} (I : Inv X pins σ H s)
    (h : ta σ H fun x H1 => tb σ H1 fun y H2 => R x y H2) {Q : Value → Shared → Prop} {f : Value → Value → Sem Value}
    (hf : ∀ v u s2 x y H2, Inv X pins σ H2 s2 → RelV x v → RelV y u → R x y H2 → wpAny (model X.prog X.w) X.A (f v u) Q X.xe s2) :
    wpAny (model X.prog X.w) X.A (eval a X.env) (fun v s₁ => wpAny (model X.prog X.w) X.A (eval b X.env) (fun u s₂ => wpAny (model X.prog X.w) X.A (f v u) Q X.xe s₂) X.xe s₁) X.xe s := by
  refine thn (ha pins s σ H _ I h) fun v s1 ⟨x, H1, I1, r1, q1⟩ => ?_
  refine thn (hb pins s1 σ H1 _ I1 q1) fun u s2 ⟨y, H2, I2, r2, q2⟩ => ?_
  exact hf v u s2 x y H2 I2 r1 r2 q2

theorem pe_op {op : Operator} {r : R2} (ho : OpR X (binaryOp op) r) (ha : PE X a ta) (hb : PE X b tb) : PE X (.BinOp a op b pos) (tOp r ta tb) := by
  intro pins s σ H Q I h
  exact wpAny_BinOp (binT ha hb I h fun v u s2 x y H2 I2 rx ry q => ho pins s2 σ H2 x y v u Q I2 rx ry q)
theorem pe_un {op : UnaryOp} {r : V → Hp → VK → Prop} (ho : UnR X (unaryOp op) r) (ha : PE X a ta) : PE X (.UnaryOp op a pos) (tUn r ta) := by
  intro pins s σ H Q I h
  exact UnaryOp_ (thn (ha pins s σ H _ I h) fun v s1 ⟨x, H1, I1, r1, q1⟩ => ho pins s1 σ H1 x v Q I1 r1 q1)
/-! ### ints -/
theorem opI {f : Value → Value → Sem Value} {C : Int → Int → Prop} {g : Int → Int → Int}
    (rule : ∀ (i j : Int) (t u : Tok) (s : Shared) (Q : Value → Shared → Prop) (E : Value → Shared → Prop), C i j → Q (.int (g i j) s.toks) { s with toks := s.toks + 1 } → wpAny (model X.prog X.w) X.A (f (.int i t) (.int j u)) Q E s) :
    OpR X f (rI C fun i j => .int (g i j)) := by
  intro pins s σ H x y v u Q I rx ry h
  obtain ⟨i, j, rfl, rfl, hc, q⟩ := h
  obtain ⟨t, rfl⟩ := rx
  obtain ⟨t', rfl⟩ := ry
  exact rule i j t t' s _ _ hc ⟨.int (g i j), H, I.tok _, ⟨_, rfl⟩, q⟩
theorem opI0 {f : Value → Value → Sem Value} {g : Int → Int → Int}
    (rule : ∀ (i j : Int) (t u : Tok) (s : Shared) (Q : Value → Shared → Prop) (E : Value → Shared → Prop), Q (.int (g i j) s.toks) { s with toks := s.toks + 1 } → wpAny (model X.prog X.w) X.A (f (.int i t) (.int j u)) Q E s) :
    OpR X f (rI0 fun i j => .int (g i j)) := by
  intro pins s σ H x y v u Q I rx ry h
  obtain ⟨i, j, rfl, rfl, q⟩ := h
  obtain ⟨t, rfl⟩ := rx
  obtain ⟨t', rfl⟩ := ry
  exact rule i j t t' s _ _ ⟨.int (g i j), H, I.tok _, ⟨_, rfl⟩, q⟩
theorem opB0 {f : Value → Value → Sem Value} {g : Int → Int → Bool}
    (rule : ∀ (i j : Int) (t u : Tok) (s : Shared) (Q : Value → Shared → Prop) (E : Value → Shared → Prop), Q (.bool (g i j)) s → wpAny (model X.prog X.w) X.A (f (.int i t) (.int j u)) Q E s) :
    OpR X f (rI0 fun i j => .bl (g i j)) := by
  intro pins s σ H x y v u Q I rx ry h
  obtain ⟨i, j, rfl, rfl, q⟩ := h
  obtain ⟨t, rfl⟩ := rx
  obtain ⟨t', rfl⟩ := ry
  exact rule i j t t' s _ _ ⟨.bl (g i j), H, I, rfl, q⟩

def CDiv (i j : Int) : Prop := 0 < j ∧ j < 1073741824
def CDivN (i j : Int) : Prop := j ≠ 0 ∧ j.natAbs < 1073741824
def CPow (i j : Int) : Prop := 0 ≤ j ∧ j ≤ 1000000 ∧ i.natAbs < 2 ^ 64
def CMul (i j : Int) : Prop := (-(2 ^ 64) < i ∧ i < 2 ^ 64) ∨ (-(2 ^ 64) < j ∧ j < 2 ^ 64)
theorem CMul.ok {i j : Int} (h : CMul i j) : IntMulOk i j := by
  rcases h with ⟨h1, h2⟩ | ⟨h1, h2⟩
  · exact .of_left (intBits_le_64 h1 h2)
  · exact .of_right (intBits_le_64 h1 h2)
theorem op_add : OpR X (binaryOp .Add) (rI0 fun i j => .int (i + j)) := opI0 fun _ _ _ _ _ _ _ q => add_int q
theorem op_sub : OpR X (binaryOp .Sub) (rI0 fun i j => .int (i - j)) := opI0 fun _ _ _ _ _ _ _ q => sub_int q
theorem op_mul : OpR X (binaryOp .Mult) (rI CMul fun i j => .int (i * j)) := opI fun _ _ _ _ _ _ _ hc q => mul_int q hc.ok
/-- // by a positive divisor -/
theorem op_fdiv : OpR X (binaryOp .FloorDiv) (rI CDiv fun i j => .int (i / j)) := opI fun i j _ _ _ _ _ hc q => by
  have h1 : (0 : Int) < j := hc.1
  have h2 : j < 1073741824 := hc.2
  exact floordiv_int (by omega) (by rw [Int.fdiv_eq_ediv_of_nonneg i (by omega)]; exact q) (.inl (PyProof.noPylong_small (by omega)))
/-- % by a positive divisor of any size -/
theorem op_mod : OpR X (binaryOp .Mod) (rI (fun _ j => 0 < j) fun i j => .int (i % j)) := opI fun i j _ _ _ _ _ hc q => by
  have h1 : (0 : Int) < j := hc
  exact mod_int' (by omega) (by rw [Int.fmod_eq_emod_of_nonneg i (by omega)]; exact q)
theorem op_pow : OpR X (binaryOp .Pow) (rI CPow fun i j => .int (i ^ j.toNat)) := opI fun _ _ _ _ _ _ _ hc q => pow_int_small hc.1 hc.2.1 hc.2.2 q
theorem unI {f : Value → Sem Value} {g : Int → Int}
    (rule : ∀ (i : Int) (t : Tok) (s : Shared) (Q : Value → Shared → Prop) (E : Value → Shared → Prop), Q (.int (g i) s.toks) { s with toks := s.toks + 1 } → wpAny (model X.prog X.w) X.A (f (.int i t)) Q E s) :
    UnR X f (rU fun i => .int (g i)) := by
  intro pins s σ H x v Q I rx h
  obtain ⟨i, rfl, q⟩ := h
  obtain ⟨t, rfl⟩ := rx
  exact rule i t s _ _ ⟨.int (g i), H, I.tok _, ⟨_, rfl⟩, q⟩
theorem un_neg : UnR X (unaryOp .USub) (rU fun i => .int (-i)) := unI fun _ _ _ _ _ q => neg_int q
/-! ### bools among ints: n += (a < b) -/
end

/-! ### comparisons -/
/-- the scalars that == tells apart as data does -/
def scal : V → V → Bool
  | .non, .non => true | .non, .int _ => true | .int _, .non => true | .non, .bl _ => true | .bl _, .non => true | .non, .str _ => true | .str _, .non => true
  | .int _, .int _ => true | .bl _, .bl _ => true | .str _, .str _ => true | .byt _, .byt _ => true
  | .int _, .str _ => true | .str _, .int _ => true | .bl _, .str _ => true | .str _, .bl _ => true
  | _, _ => false
def rEq : R2 := fun x y H Q => scal x y = true ∧ Q (.bl (decide (x = y))) H
def rNe : R2 := fun x y H Q => scal x y = true ∧ Q (.bl (!decide (x = y))) H

theorem dec_int {i j : Int} : decide (V.int i = V.int j) = (i == j) := by
  rw [Bool.eq_iff_iff]
  simp
theorem dec_bl {i j : Bool} : decide (V.bl i = V.bl j) = (i == j) := by
  rw [Bool.eq_iff_iff]
  simp
theorem dec_str {i j : Str} : decide (V.str i = V.str j) = (i == j) := by
  rw [Bool.eq_iff_iff]
  simp
theorem dec_byt {i j : Array UInt8} : decide (V.byt i = V.byt j) = (i.toList == j.toList) := by
  rw [Bool.eq_iff_iff]
  cases i
  cases j
  simp

section
variable {X : Cx} {a b c : Expr} {ta tb tc : TE} {pos : Pos}
theorem fin_bl {pins : List (Addr × Obj)} {σ : St} {H : Hp} {s : Shared} {Q : VK} {k k' : Bool} (I : Inv X pins σ H s) (q : Q (.bl k) H) (e : k = k') : EP X pins σ Q (.bool k') s := by
  subst e
  exact ⟨.bl k, H, I, rfl, q⟩
theorem op_eq : OpR X (compareOp .Eq) rEq := by
  intro pins s σ H x y v u Q I rx ry h
  obtain ⟨hs, q⟩ := h
  cases x with
  | non =>
    cases rx
    cases y with
    | non => cases ry; exact PySem.EqNone.eq_none_none (fin_bl I q (by simp))
    | bl j => cases ry; exact PySem.EqNone.eq_none_bool (fin_bl I q (by simp))
    | int j => obtain ⟨t', rfl⟩ := ry; exact PySem.EqNone.eq_none_int (fin_bl I q (by simp))
    | str j => obtain ⟨t', rfl⟩ := ry; exact PySem.EqNone.eq_none_str (fin_bl I q (by simp))
    | _ => exact absurd (show false = true from hs) Bool.false_ne_true
  | bl i =>
    cases rx
    cases y with
    | non => cases ry; exact PySem.EqNone.eq_bool_none (fin_bl I q (by simp))
    | bl j => cases ry; exact eq_bool (fin_bl I q dec_bl)
    | str j => obtain ⟨t', rfl⟩ := ry; exact PySem.EqMixed.eq_bool_str (fin_bl I q (by simp))
    | _ => exact absurd (show false = true from hs) Bool.false_ne_true
  | int i =>
    obtain ⟨t, rfl⟩ := rx
    cases y with
    | non => cases ry; exact PySem.EqNone.eq_int_none (fin_bl I q (by simp))
    | int j => obtain ⟨t', rfl⟩ := ry; exact eq_int (fin_bl I q dec_int)
    | str j => obtain ⟨t', rfl⟩ := ry; exact PySem.EqMixed.eq_int_str (fin_bl I q (by simp))
    | _ => exact absurd (show false = true from hs) Bool.false_ne_true
  | str i =>
    obtain ⟨t, rfl⟩ := rx
    cases y with
    | non => cases ry; exact PySem.EqNone.eq_str_none (fin_bl I q (by simp))
    | bl j => cases ry; exact PySem.EqMixed.eq_str_bool (fin_bl I q (by simp))
    | int j => obtain ⟨t', rfl⟩ := ry; exact PySem.EqMixed.eq_str_int (fin_bl I q (by simp))
    | str j => obtain ⟨t', rfl⟩ := ry; exact eq_str (fin_bl I q dec_str)
    | _ => exact absurd (show false = true from hs) Bool.false_ne_true
  | byt i =>
    obtain ⟨t, rfl⟩ := rx
    cases y with
    | byt j => obtain ⟨t', rfl⟩ := ry; exact PySem.W.eq_bytes (fin_bl I q dec_byt)
    | _ => exact absurd (show false = true from hs) Bool.false_ne_true
  | _ => cases y <;> exact absurd (show false = true from hs) Bool.false_ne_true
theorem op_ne : OpR X (compareOp .NotEq) rNe := by
  intro pins s σ H x y v u Q I rx ry h
  obtain ⟨hs, q⟩ := h
  cases x with
  | non =>
    cases rx
    cases y with
    | non => cases ry; exact PySem.EqNone.ne_none_none (fin_bl I q (by simp))
    | bl j => cases ry; exact PySem.EqNone.ne_none_bool (fin_bl I q (by simp))
    | int j => obtain ⟨t', rfl⟩ := ry; exact PySem.EqNone.ne_none_int (fin_bl I q (by simp))
    | str j => obtain ⟨t', rfl⟩ := ry; exact PySem.EqNone.ne_none_str (fin_bl I q (by simp))
    | _ => exact absurd (show false = true from hs) Bool.false_ne_true
  | bl i =>
    cases rx
    cases y with
    | non => cases ry; exact PySem.EqNone.ne_bool_none (fin_bl I q (by simp))
    | bl j => cases ry; exact ne_bool (fin_bl I q (congrArg not dec_bl))
    | str j => obtain ⟨t', rfl⟩ := ry; exact PySem.EqMixed.ne_bool_str (fin_bl I q (by simp))
    | _ => exact absurd (show false = true from hs) Bool.false_ne_true
  | int i =>
    obtain ⟨t, rfl⟩ := rx
    cases y with
    | non => cases ry; exact PySem.EqNone.ne_int_none (fin_bl I q (by simp))
    | int j => obtain ⟨t', rfl⟩ := ry; exact ne_int (fin_bl I q (congrArg not dec_int))
    | str j => obtain ⟨t', rfl⟩ := ry; exact PySem.EqMixed.ne_int_str (fin_bl I q (by simp))
    | _ => exact absurd (show false = true from hs) Bool.false_ne_true
  | str i =>
    obtain ⟨t, rfl⟩ := rx
    cases y with
    | non => cases ry; exact PySem.EqNone.ne_str_none (fin_bl I q (by simp))
    | bl j => cases ry; exact PySem.EqMixed.ne_str_bool (fin_bl I q (by simp))
    | int j => obtain ⟨t', rfl⟩ := ry; exact PySem.EqMixed.ne_str_int (fin_bl I q (by simp))
    | str j => obtain ⟨t', rfl⟩ := ry; exact ne_str (fin_bl I q (congrArg not dec_str))
    | _ => exact absurd (show false = true from hs) Bool.false_ne_true
  | byt i =>
    obtain ⟨t, rfl⟩ := rx
    cases y with
    | byt j => obtain ⟨t', rfl⟩ := ry; exact PySem.W.ne_bytes (fin_bl I q (congrArg not dec_byt))
    | _ => exact absurd (show false = true from hs) Bool.false_ne_true
  | _ => cases y <;> exact absurd (show false = true from hs) Bool.false_ne_true

theorem op_lt : OpR X (compareOp .Lt) (rI0 fun i j => .bl (decide (i < j))) := opB0 fun _ _ _ _ _ _ _ q => lt_int q
theorem op_gt : OpR X (compareOp .Gt) (rI0 fun i j => .bl (decide (j < i))) := opB0 fun _ _ _ _ _ _ _ q => gt_int q
theorem op_ge : OpR X (compareOp .GtE) (rI0 fun i j => .bl (decide (j ≤ i))) := opB0 fun _ _ _ _ _ _ _ q => ge_int q
/-- is None, is not None: the right side a value none -/
theorem op_isN : OpR X (compareOp .Is) (fun x y H Q => y = .non ∧ Q (.bl (decide (x = .non))) H) := by
  intro pins s σ H x y v u Q I rx ry h
  obtain ⟨rfl, q⟩ := h
  cases ry
  refine is_none_gen (fin_bl I q ?_)
  cases x <;> first
    | (cases rx; rfl)
    | (obtain ⟨t, rfl⟩ := rx; rfl)
/-- is, is not of two objects that are tracked lists or instances -/
def isObj : HO → Bool
  | .lst _ => true
  | .ins _ _ _ => true
  | _ => false
/-- two rules for one operation: by cases -/
theorem OpR.or {f : Value → Value → Sem Value} {r r' : R2} (h : OpR X f r) (h' : OpR X f r') : OpR X f (fun x y H Q => r x y H Q ∨ r' x y H Q) := by
  intro pins s σ H x y v u Q I rx ry q
  rcases q with q | q
  · exact h pins s σ H x y v u Q I rx ry q
  · exact h' pins s σ H x y v u Q I rx ry q

theorem nomark (b : Expr) {op : CmpOp} (h : op ≠ .In := by decide) (h2 : op ≠ .NotIn := by decide) : behindInMarks op b = false := by
  have e1 : (op == CmpOp.In) = false := by cases op <;> first | rfl | exact absurd rfl h
  have e2 : (op == CmpOp.NotIn) = false := by cases op <;> first | rfl | exact absurd rfl h2
  cases b <;> simp [behindInMarks, e1, e2]
/-- a comparison as a value; hm: nomark b, or (for in, not in) by with_unfolding_all rfl -/
theorem pe_cmpR {op : CmpOp} {r : R2} (ho : OpR X (compareOp op) r) (ha : PE X a ta) (hb : PE X b tb) (hm : behindInMarks op b = false) : PE X (.Compare a [op] [b] pos) (tOp r ta tb) := by
  intro pins s σ H Q I h
  exact wpAny_Compare1 (binT ha hb I h fun v u s2 x y H2 I2 rx ry q => ho pins s2 σ H2 x y v u Q I2 rx ry q) hm
/-- a reading of a value as a test -/
def tTest (t : TE) : TT := fun σ H Q => t σ H fun x H' => ∃ k, x = .bl k ∧ Q k H'
theorem pt_cmpR {op : CmpOp} {r : R2} (ho : OpR X (compareOp op) r) (ha : PE X a ta) (hb : PE X b tb) (hm : behindInMarks op b = false) : PT X (.Compare a [op] [b] pos) (tTest (tOp r ta tb)) := by
  intro pins s σ H Q I h
  refine wpAny_isTrue_Compare1 (thn (ha pins s σ H _ I h) fun v s1 ⟨x, H1, I1, r1, q1⟩ => thn (hb pins s1 σ H1 _ I1 q1) fun u s2 ⟨y, H2, I2, r2, q2⟩ =>
    thn (ho pins s2 σ H2 x y v u _ I2 r1 r2 q2) fun c s3 ⟨z, H3, I3, r3, k, e, q3⟩ => ?_) hm
  subst e
  cases r3
  exact wpAny_truthy_bool ⟨H3, I3, q3⟩
/-- a op1 b op2 c -/
def tChain (r r' : R2) (ta tb tc : TE) : TE := fun σ H Q => ta σ H fun x H1 => tb σ H1 fun y H2 => r x y H2 fun z H3 => ∃ k, z = .bl k ∧
  (if k = true then tc σ H3 fun w' H4 => r' y w' H4 Q else Q (.bl false) H3)
/-! ### truth -/
/-- a value's truth by the abstract heap -/
def TruV (K : PySem.W.Frag) (x : V) (H : Hp) (k : Bool) : Prop :=
  match x with
  | .non => k = false
  | .bl b => k = b
  | .int i => k = (i != 0)
  | .str y => y.length ≤ sizeLine ∧ k = ((y.length : Int) != 0)
  | .byt y => y.size ≤ sizeLine ∧ k = ((y.size : Int) != 0)
  | .ref p => (∃ xs, SqL K H p xs ∧ k = !xs.isEmpty) ∨ (∃ xs, SqT K H p xs ∧ k = !xs.isEmpty) ∨ ∃ kvs, H p = some (.dK kvs) ∧ k = !kvs.isEmpty
  | _ => False
theorem line63 : (sizeLine : Nat) < 2 ^ 63 := by rw [sizeLine_eq]; decide
/-! ### strs and bytes -/
theorem op_add_str : OpR X (binaryOp .Add) (fun x y H Q => ∃ i j, x = .str i ∧ y = .str j ∧ i.length + j.length ≤ sizeLine ∧ Q (.str (i ++ j)) H) := by
  intro pins s σ H x y v u Q I rx ry h
  obtain ⟨i, j, rfl, rfl, hz, q⟩ := h
  obtain ⟨t, rfl⟩ := rx
  obtain ⟨t', rfl⟩ := ry
  exact add_str (fun t' tk => ⟨.str (i ++ j), H, I.tok _, ⟨_, rfl⟩, q⟩) hz
def PlainIxT (b : Expr) : Prop := ∀ o i, subscripted b false o i = operate [o, i] (getItem o i)
/-! ### scalar builtins, by CallR -/
theorem vals1 {x : V} {us : List Value} (r : Vals [x] us) : ∃ u, us = [u] ∧ RelV x u := by
  cases r with
  | cons r1 r2 => cases r2; exact ⟨_, rfl, r1⟩
theorem vals2 {x y : V} {us : List Value} (r : Vals [x, y] us) : ∃ u w', us = [u, w'] ∧ RelV x u ∧ RelV y w' := by
  cases r with
  | cons r1 r2 =>
    cases r2 with
    | cons r3 r4 => cases r4; exact ⟨_, _, rfl, r1, r3⟩
/-- len of a str, a bytes, a list, a tuple -/
def LenV (K : PySem.W.Frag) (x : V) (H : Hp) (n : Nat) : Prop :=
  match x with
  | .str y => y.length ≤ sizeLine ∧ n = y.length
  | .byt y => y.size ≤ sizeLine ∧ n = y.size
  | .ref p => (∃ xs, SqL K H p xs ∧ n = xs.length) ∨ ∃ xs, SqT K H p xs ∧ n = xs.length
  | _ => False
end
end L2

namespace L2
open PySem PySem.Spec PyProof.Rows

/-! ### an instance, its attributes a map -/
structure ObjM (h : Heap) (x dx C : Addr) (mA : Str → Option Value) : Prop where
  obj : h.get? x = some (PySem.W.instObj C dx)
  ns : h.Ns1 dx mA
  ne : dx ≠ x

theorem lookIn_ns {h : Heap} {dx : Addr} {mA : Str → Option Value} (n : h.Ns1 dx mA) : ∃ od, h.get? dx = some od ∧ ∀ name, PySem.W.lookIn name od = some (mA name) := by
  obtain ⟨o, es, ep, ho, hd, hk, _, hm⟩ := n
  refine ⟨o, ho, fun name => ?_⟩
  have e := hm name
  unfold nsFind findBy at e
  rw [← Array.find?_toList] at e
  unfold PySem.W.lookIn
  rw [hd]
  dsimp only
  split
  · rename_i y q
    rw [q] at e
    exact congrArg some e
  · rename_i q
    rw [q] at e
    have a : es.toList.any (·.refKey) = false := by
      rw [List.any_eq_false]
      intro y hy
      obtain ⟨z, t, hkey⟩ := hk y (Array.mem_toList_iff.mp hy)
      simp [DictEntry.refKey, hkey]
    have a' : ¬ es.toList.any (·.refKey) = true := by rw [a]; exact Bool.false_ne_true
    rw [if_neg a']
    exact congrArg some e

theorem ObjM.look {h : Heap} {x dx C : Addr} {mA : Str → Option Value} (I : ObjM h x dx C mA) : ∃ od, PySem.W.InstAt h x (PySem.W.instObj C dx) C (some od) ∧ ∀ name, PySem.W.lookIn name od = some (mA name) :=
  let ⟨od, ho, hl⟩ := lookIn_ns I.ns
  ⟨od, ⟨I.obj, rfl, rfl, ho⟩, hl⟩

section
variable {prog : Program} {w : World} {A : Around} {E : Value → Shared → Prop} {s : Shared} {K : PySem.W.Frag} {x dx C f : Addr} {mA : Str → Option Value} {name : Str} {v : Value}

end

/-! ### the attributes as a list of pairs -/
def putF (f : Str) (v : V) : List (Str × V) → List (Str × V)
  | [] => [(f, v)]
  | (g, x) :: r => if g = f then (g, v) :: r else (g, x) :: putF f v r
section
variable {P : Program} {w : World} {H H' : Hp} {h h' : Heap} {a C dx : Addr} {fs fs' : List (Str × V)}
theorem ins_get (hok : HOk P w H h) (e : H a = some (.ins C dx fs)) : ∃ mA, ObjM h a dx C mA ∧ (∀ f, RelO (fs.lookup f) (mA f)) ∧ PySem.Within mA (fs.map (·.1)) ∧ fs.length ≤ 1000 ∧ H dx = some (.own a) := by
  obtain ⟨d, z, ne, ob, mA, n, r, q⟩ := (show ObjOk P w H h a (.ins C dx fs) from hok a _ e)
  exact ⟨mA, ⟨ob, n, ne⟩, r, q, z, d⟩
end

/-! ### what of the text a class must have -/
structure Cls (K : PySem.W.Frag) (C : Addr) : Prop where
  pg : PySem.W.plainGet K C Str.empty = true
  hd : PySem.W.hasDictIn K C = true
  po : PySem.W.plainOver K C = true
  sa : PySem.W.findIn K (.ref C) "__setattr__" = some (some (.builtin "object.__setattr__"))
theorem Cls.get {K : PySem.W.Frag} {C : Addr} (c : Cls K C) (f : Str) : PySem.W.plainGet K C f = true := c.pg
/-- no class of it has the name -/
def NoAttr (K : PySem.W.Frag) (C : Addr) (f : Str) : Prop := PySem.W.findIn K (.ref C) f = some none
/-- a constant of the class -/
structure Con (K : PySem.W.Frag) (C : Addr) (f : Str) (v : V) (u : Value) : Prop where
  at_ : PySem.W.findIn K (.ref C) f = some (some u)
  rel : RelV v u
  get : PySem.W.specialIn K u "__get__" = some none
  cp : PySem.W.copiedNames.contains f = false
/-- a method: a plain def of the class or of one above it -/
structure Meth (K : PySem.W.Frag) (C : Addr) (m : Str) (f : Addr) : Prop where
  at_ : PySem.W.findIn K (.ref C) m = some (some (.ref f))
  fn : PySem.W.isFn K (.ref f) = true
  kp : PySem.W.keepIn K (.ref f) = true

section
variable {X : Cx} {pins : List (Addr × Obj)} {σ : St} {H : Hp} {s : Shared} {a C dx : Addr} {fs : List (Str × V)} {f : Str} {v : V} {A : Around} {E : Value → Shared → Prop}

/-- a new instance, tracked, without attributes -/
theorem Inv.made (I : Inv X pins σ H s) : Inv X pins σ (upd (upd H s.heap.objs.size (.own (s.heap.objs.size + 1))) (s.heap.objs.size + 1) (.ins C s.heap.objs.size []))
    { s with heap := (s.heap.push PySem.W.emptyDict).push (PySem.W.instObj C s.heap.objs.size) } := by
  have e1 : (s.heap.push PySem.W.emptyDict).get? s.heap.objs.size = some PySem.W.emptyDict := Heap.get?_push_size s.heap rfl
  have e2 : ((s.heap.push PySem.W.emptyDict).push (PySem.W.instObj C s.heap.objs.size)).get? (s.heap.objs.size + 1) = some (PySem.W.instObj C s.heap.objs.size) := by
    have := Heap.get?_push_size (s.heap.push PySem.W.emptyDict) (o := PySem.W.instObj C s.heap.objs.size) rfl
    rwa [Heap.size_push] at this
  have e3 : (s.heap.push PySem.W.emptyDict).Ns s.heap.objs.size (fun _ => none) := ⟨PySem.W.emptyDict, #[], _, e1, rfl, (fun e he => absurd he (by simp)), fun _ => rfl⟩
  have I1 := I.laid (a := s.heap.objs.size) (o := .own (s.heap.objs.size + 1)) (h' := s.heap.push PySem.W.emptyDict) (t' := s.toks) (fun b u q => Heap.get?_push_of_some _ q) (Nat.le_refl _) ⟨_, e1⟩
  refine I1.laid (a := s.heap.objs.size + 1) (o := .ins C s.heap.objs.size []) (t' := s.toks) (fun b u q => Heap.get?_push_of_some _ q) (Nat.le_of_eq (Heap.size_push _ _)) ?_
  have ne : s.heap.objs.size ≠ s.heap.objs.size + 1 := Nat.ne_of_lt (Nat.lt_succ_self _)
  refine ⟨by rw [upd_ne ne, upd_same], Nat.zero_le _, ne, e2, fun _ => none, (Heap.Ns1.of_empty e3).at fun o q => Heap.get?_push_of_some _ q, fun _ => True.intro, fun y hy => absurd rfl hy⟩

end

/-! ### readings and rules -/
/-- e.f, an attribute of the instance -/
def tFld (K : PySem.W.Frag) (ta : TE) (f : Str) : TE := fun σ H Q => ta σ H fun x H1 => ∃ a C dx fs v, x = .ref a ∧ H1 a = some (.ins C dx fs) ∧ Cls K C ∧ NoAttr K C f ∧ fs.lookup f = some v ∧ Q v H1
/-- e.f, a constant of the class -/
def tCon (K : PySem.W.Frag) (ta : TE) (f : Str) : TE := fun σ H Q => ta σ H fun x H1 => ∃ a C dx fs v u, x = .ref a ∧ H1 a = some (.ins C dx fs) ∧ Cls K C ∧ Con K C f v u ∧ fs.lookup f = none ∧ Q v H1
/-- e.f = value -/
def sFld (K : PySem.W.Frag) (ta tv : TE) (f : Str) : TS := fun D σ H => tv σ H fun y H1 => ta σ H1 fun x H2 => ∃ a C dx fs, x = .ref a ∧ H2 a = some (.ins C dx fs) ∧ Cls K C ∧ NoAttr K C f ∧ fs.length < 1000 ∧
  D.nx σ (upd H2 a (.ins C dx (putF f y fs)))
/-- an augmented operator on two values -/
def InOp (X : Cx) (op : Operator) (rd : V → V → Hp → VK → Prop) : Prop :=
  ∀ (pins : List (Addr × Obj)) (s : Shared) (σ : St) (H : Hp) (x y : V) (u v : Value) (Q : VK), Inv X pins σ H s → RelV x u → RelV y v → rd x y H Q → wpAny (model X.prog X.w) X.A (inplaceOp op u v) (EP X pins σ Q) X.xe s
/-- e.f op= value -/
def sFldAug (K : PySem.W.Frag) (ta tv : TE) (rd : V → V → Hp → VK → Prop) (f : Str) : TS := fun D σ H => ta σ H fun x H1 => ∃ a C dx fs v, x = .ref a ∧ H1 a = some (.ins C dx fs) ∧ Cls K C ∧ NoAttr K C f ∧ fs.lookup f = some v ∧
  tv σ H1 fun y H2 => rd v y H2 fun z H3 => ∃ dx' fs', H3 a = some (.ins C dx' fs') ∧ fs'.length < 1000 ∧ D.nx σ (upd H3 a (.ins C dx' (putF f z fs')))

section
variable {X : Cx} {o e value : Expr} {f : Str} {pos pos' tpos : Pos} {ta tv : TE}
def rAdd : V → V → Hp → VK → Prop := fun x y H Q => ∃ i j, x = .int i ∧ y = .int j ∧ Q (.int (i + j)) H
def rSub : V → V → Hp → VK → Prop := fun x y H Q => ∃ i j, x = .int i ∧ y = .int j ∧ Q (.int (i - j)) H
end

/-! ### isinstance -/
section
variable {X : Cx} {pins : List (Addr × Obj)} {σ : St} {H : Hp} {s : Shared} {A : Around} {E : Value → Shared → Prop} {Q : Value → Shared → Prop} {c : Value} {b : Bool}
/-- the type of a value, as the fragment's deciders take it; for an instance its class -/
inductive TyOf (K : PySem.W.Frag) (H : Hp) : V → Value → Prop where
  | non : TyOf K H .non (.type "NoneType")
  | bl (x : Bool) : TyOf K H (.bl x) (.type "bool")
  | int (i : Int) : TyOf K H (.int i) (.type "int")
  | str (x : Str) : TyOf K H (.str x) (.type "str")
  | flt (x : UInt64) : TyOf K H (.flt x) (.type "float")
  | lst {a : Addr} {xs : List V} (e : H a = some (.lst xs)) : TyOf K H (.ref a) (.type "list")
  | frz {a : Addr} {o : Obj} {xs : List V} (e : H a = some (.frz o (.lst xs))) : TyOf K H (.ref a) (.type "list")
  | tup {a : Addr} {xs : List V} (e : H a = some (.tup xs)) : TyOf K H (.ref a) (.type "tuple")
  | dK {a : Addr} {kvs : List (Key × V)} (e : H a = some (.dK kvs)) : TyOf K H (.ref a) (.type "dict")
  | dT {a : Addr} {kvs : List (List Key × V)} (e : H a = some (.dT kvs)) : TyOf K H (.ref a) (.type "dict")
  | ins {a C dx : Addr} {fs : List (Str × V)} (e : H a = some (.ins C dx fs)) (cl : Cls K C) (ha : PySem.W.findIn K (.ref C) "__class__" = some (some (.builtin "object.__class__")))
      (hn : PySem.W.specialIn K (.builtin "object.__class__") "__get__" = some (some (.builtin "getset_descriptor.__get__"))) (htk : PySem.W.takesIn K (.builtin "object.__class__") = some true)
      (hm : PySem.W.mroIn K C (.type "object") = some true) : TyOf K H (.ref a) (.ref C)
/-- isinstance(x, c) for one class c, a built-in or an own one: kitOne's answer -/
theorem isinst_ok {x : V} {u t : Value} (I : Inv X pins σ H s) (rx : RelV x u) (ty : TyOf X.K H x t) (e : PySem.W.kitOne X.K t c = some b) (h : ∀ tk, Q (.bool b) { s with toks := tk }) :
    wpAny (model X.prog X.w) A (call (.builtin "isinstance") [u, c]) Q E s := by
  cases ty with
  | non => cases (show u = Value.none from rx); exact PySem.W.kia_one PySem.W.kitx_none I.kIn True.intro e (fun z => nomatch z) h
  | bl y => cases (show u = Value.bool y from rx); exact PySem.W.kia_one PySem.W.kitx_bool I.kIn True.intro e (fun z => nomatch z) h
  | int i => obtain ⟨t, q⟩ := (show ∃ t, u = Value.int i t from rx); cases q; exact PySem.W.kia_one PySem.W.kitx_int I.kIn True.intro e (fun z => nomatch z) h
  | str y => obtain ⟨t, q⟩ := (show ∃ t, u = Value.str y t from rx); cases q; exact PySem.W.kia_one PySem.W.kitx_str I.kIn True.intro e (fun z => nomatch z) h
  | flt y => obtain ⟨t, q⟩ := (show ∃ t, u = Value.float y t from rx); cases q; exact PySem.W.kia_one PySem.W.kitx_float I.kIn True.intro e (fun z => nomatch z) h
  | @lst a xs ea =>
    cases (show u = Value.ref a from rx)
    obtain ⟨_, _, n, _, h1⟩ := (show ObjOk X.prog X.w H s.heap a (.lst xs) from I.hok a _ ea)
    exact PySem.W.kia_one PySem.W.kitx_list I.kIn ⟨_, h1, rfl⟩ e (fun z => nomatch z) h
  | @frz a ob xs ea =>
    cases (show u = Value.ref a from rx)
    obtain ⟨_, _, _, n, _, h1⟩ := (show ObjOk X.prog X.w H s.heap a (.frz ob (.lst xs)) from I.hok a _ ea)
    exact PySem.W.kia_one PySem.W.kitx_list I.kIn ⟨_, h1, rfl⟩ e (fun z => nomatch z) h
  | @tup a xs ea =>
    cases (show u = Value.ref a from rx)
    obtain ⟨_, _, _, p⟩ := (show ObjOk X.prog X.w H s.heap a (.tup xs) from I.hok a _ ea)
    obtain ⟨o, h1, h2, _⟩ := p
    exact PySem.W.kia_one PySem.W.kitx_tuple I.kIn ⟨o, h1, h2⟩ e (fun z => nomatch z) h
  | @dK a kvs ea =>
    cases (show u = Value.ref a from rx)
    obtain ⟨_, _, vs, _, p⟩ := (show ObjOk X.prog X.w H s.heap a (.dK kvs) from I.hok a _ ea)
    obtain ⟨o, es, ep, h1, h2, _⟩ := p
    exact PySem.W.kia_one PySem.W.kitx_dict I.kIn ⟨o, h1, h2.1⟩ e (fun z => nomatch z) h
  | @dT a kvs ea =>
    cases (show u = Value.ref a from rx)
    obtain ⟨_, _, xs, _, o, es, ep, h1, h2, _⟩ := (show ObjOk X.prog X.w H s.heap a (.dT kvs) from I.hok a _ ea)
    exact PySem.W.kia_one PySem.W.kitx_dict I.kIn ⟨o, h1, h2.1⟩ e (fun z => nomatch z) h
  | @ins a C dx fs ea cl ha hn htk hm =>
    cases (show u = Value.ref a from rx)
    obtain ⟨mA, O, _⟩ := ins_get I.hok ea
    obtain ⟨od, J, _⟩ := O.look
    exact PySem.W.kia_one (PySem.W.kitx_own (cl.get _) cl.hd ha hn htk hm) I.kIn J e (fun z => nomatch z) h
end
end L2

namespace L2
open PySem PySem.Spec PyProof.Rows

/-! ### room -/
structure Room (k : Nat) (A : Around) : Prop where
  hd : A.handled = none
  dp : A.depth + 3 * k + 5 < recursionLimit
  un : A.units + 16 * k + 200 < cLine
theorem Room.mono {j k : Nat} {A : Around} (r : Room k A) (h : j ≤ k) : Room j A := ⟨r.hd, by have := r.dp; omega, by have := r.un; omega⟩
theorem Room.deeper {k : Nat} {A : Around} (r : Room (k + 1) A) (env : Env) : Room k (A.deeper env) :=
  ⟨r.hd, by have := r.dp; show A.depth + 1 + 3 * k + 5 < _; omega, by have := r.un; show A.units + 3 + 16 * k + 200 < _; omega⟩
theorem make_depth {A : Around} {C : Addr} {us : List Value} {kw : List (Str × Value)} : (A.under (.builtin "type.__call__" ⟨.ref C :: us, kw⟩)).depth = A.depth + 1 := by
  first | rfl | simp [Around.under, Code.weight, Code.isCreation, Code.isGuard, Code.isCaller, Code.frames, Code.isFrame, guardIds]
theorem make_units {A : Around} {C : Addr} {us : List Value} {kw : List (Str × Value)} : (A.under (.builtin "type.__call__" ⟨.ref C :: us, kw⟩)).units = A.units + 1 := by
  first | rfl | simp [Around.under, Code.cUnits, Code.frames, Code.isFrame]
theorem Room.make {k : Nat} {A : Around} (r : Room (k + 1) A) (C : Addr) (us : List Value) (kw : List (Str × Value)) : Room k (A.under (.builtin "type.__call__" ⟨.ref C :: us, kw⟩)) :=
  ⟨r.hd, by have := r.dp; rw [make_depth]; omega, by have := r.un; rw [make_units]; omega⟩
theorem Room.depth {k : Nat} {A : Around} (r : Room k A) : A.depth < recursionLimit := by have := r.dp; omega
theorem Room.units {k : Nat} {A : Around} (r : Room k A) : A.units + 64 < cLine := by have := r.un; omega
/-! ### argument lists and displays -/
def tNil : TA := fun _ H Q => Q [] H
def tCons (ta : TE) (tr : TA) : TA := fun σ H Q => ta σ H fun x H1 => tr σ H1 fun xs H2 => Q (x :: xs) H2
section
variable {X : Cx} {e : Expr} {es : List Expr} {te : TE} {t : TA} {pos : Pos}
theorem pa_nil : PA X [] tNil := fun _ _ _ _ H Q I h => Calls.spliced_nil ⟨[], H, I, .nil, h⟩
theorem pa_cons (ha : PE X e te) (hr : PA X es t) (hs : starEach (e :: es) X.env = (false, eval e X.env) :: starEach es X.env := by rfl) : PA X (e :: es) (tCons te t) := by
  intro pos pins s σ H Q I h
  rw [hs]
  show wpAny _ _ (spliced ((false, eval e X.env) :: backTo pos (starEach es X.env))) _ _ s
  refine Calls.spliced_cons (thn (ha pins s σ H _ I h) fun u s1 ⟨x, H1, I1, r1, q1⟩ => ?_)
  exact thn (hr pos pins s1 σ H1 _ I1 q1) fun us s2 ⟨xs, H2, I2, r2, q2⟩ => ⟨x :: xs, H2, I2, .cons r1 r2, q2⟩

/-- a tuple, a list of written items -/
def tTup (t : TA) : TE := fun σ H Q => t σ H fun xs H1 => xs.length ≤ sizeLine ∧ ∀ p, H1 p = none → Q (.ref p) (upd H1 p (.tup xs))
def tLst (t : TA) : TE := fun σ H Q => t σ H fun xs H1 => xs.length ≤ sizeLine ∧ ∀ p, H1 p = none → Q (.ref p) (upd H1 p (.lst xs))
theorem pe_tup {x1} (h : PA X es t) : PE X (.Tuple es x1 pos) (tTup t) := by
  intro pins s σ H Q I hq
  refine wpAny_Tuple_spliced (thn (h pos pins s σ H _ I hq) fun us s1 ⟨xs, H1, I1, r, z, q⟩ => ⟨by rw [← r.length]; exact z, ?_⟩)
  have hf : H1 s1.heap.objs.size = none := I1.hok.fresh (Nat.le_refl _)
  refine ⟨.ref s1.heap.objs.size, upd H1 s1.heap.objs.size (.tup xs), I1.laid (t' := s1.toks) (fun b u e => Heap.get?_push_of_some _ e) (Nat.le_refl _) ?_, rfl, q _ hf⟩
  exact ⟨z, us, r, ⟨_, Heap.get?_push_size _ rfl, rfl, _, rfl⟩⟩
theorem pe_lst (h : PA X es t) : PE X (.List es pos) (tLst t) := by
  intro pins s σ H Q I hq
  refine wpAny_List_spliced (thn (h pos pins s σ H _ I hq) fun us s1 ⟨xs, H1, I1, r, z, q⟩ => ⟨by rw [← r.length]; exact z, ?_⟩)
  have hf : H1 s1.heap.objs.size = none := I1.hok.fresh (Nat.le_refl _)
  refine ⟨.ref s1.heap.objs.size, upd H1 s1.heap.objs.size (.lst xs), I1.laid (t' := s1.toks) (fun b u e => Heap.get?_push_of_some _ e) (Nat.le_refl _) ?_, rfl, q _ hf⟩
  exact ⟨z, us, 0, r, Heap.get?_push_size _ rfl⟩
end

/-! ### what a def promises -/
/-- a def's promise: the bound arguments in the parameters' order, the heap, the wanted end, the wanted exception -/
abbrev Sp := List V → Hp → VK → XK → Prop
/-- how an exception lies behind a call (file 08 gives it): the callers' frames, abstract heap and state ahead of the call, the wish, the exception, the state -/
abbrev CXT := List Env → Hp → Shared → XK → Value → Shared → Prop

/-- the state at a call -/
structure Env0 (P : Program) (w : World) (K : PySem.W.Frag) (mg : Str → Option Value) (base : Heap) (A : Around) (outer : List Env) (s : Shared) (H : Hp) : Prop where
  frames : A.frames = some outer
  mod : Mod K mg base
  bs : ∀ b o, base.get? b = some o → s.heap.get? b = some o ∧ H b = none
  bsz : base.objs.size ≤ s.heap.objs.size
  funs : s.heap.FunFrames base outer
  frf : ∀ b ∈ frs outer, H b = none
  hok : HOk P w H s.heap
  bare : AllBare s.gens
/-- a call's end -/
def CE (outer : List Env) (P : Program) (w : World) (H : Hp) (s : Shared) (Q : VK) (u : Value) (s' : Shared) : Prop :=
  ∃ v H', s'.os = s.os ∧ AllBare s'.gens ∧ Un (frs outer) [] H H' s.heap s'.heap ∧ HOk P w H' s'.heap ∧ RelV v u ∧ Q v H'
def CR (CX : CXT) (outer : List Env) (P : Program) (w : World) (H : Hp) (s : Shared) (Q : VK) (E : XK) (r : Result) (s' : Shared) : Prop :=
  match r with
  | .ok (.ret u) => CE outer P w H s Q u s'
  | .ok _ => False
  | .error e => CX outer H s E e s'
structure FnOk (P : Program) (w : World) (K : PySem.W.Frag) (mg : Str → Option Value) (base : Heap) (CX : CXT) (k : Nat) (f : Addr) (fd : FuncData) (ps : List Str) (sp : Sp) : Prop where
  len : ∀ vs H Q E, sp vs H Q E → vs.length = ps.length
  run : ∀ (A : Around) (outer : List Env) (s : Shared) (H : Hp) (args : Args) (us : List Value) (vs : List V) (Q : VK) (E : XK), Room k A → Env0 P w K mg base A outer s H → BindsTo s fd args (ps.zip us) → Vals vs us → sp vs H Q E →
    codeAny (model P w) A (.call (.ref f) args) (CR CX outer P w H s Q E) s
theorem FnOk.mono {P : Program} {w : World} {K : PySem.W.Frag} {mg : Str → Option Value} {base : Heap} {CX : CXT} {j k : Nat} {f : Addr} {fd : FuncData} {ps : List Str} {sp : Sp} (F : FnOk P w K mg base CX j f fd ps sp) (h : j ≤ k) :
    FnOk P w K mg base CX k f fd ps sp := ⟨F.len, fun A outer s H args us vs Q E hr => F.run A outer s H args us vs Q E (hr.mono h)⟩
theorem Env0.make {P : Program} {w : World} {K : PySem.W.Frag} {mg : Str → Option Value} {base : Heap} {A : Around} {outer : List Env} {s : Shared} {H : Hp} (e : Env0 P w K mg base A outer s H) (C : Addr) (us : List Value) (kw : List (Str × Value)) :
    Env0 P w K mg base (A.under (.builtin "type.__call__" ⟨.ref C :: us, kw⟩)) outer s H := ⟨by first | exact e.frames | (simpa [Around.under, Code.envs, Code.isFrame, pushEnvs] using e.frames), e.mod, e.bs, e.bsz, e.funs, e.frf, e.hok, e.bare⟩
section
variable {X : Cx} {pins : List (Addr × Obj)} {σ : St} {H : Hp} {s s' : Shared}
/-- from a body: what a callee wants -/
theorem Inv.env0 (I : Inv X pins σ H s) : Env0 X.prog X.w X.K X.mg X.base X.A X.stack s H :=
  ⟨I.ok.frames, I.ok.mod, I.bs, Nat.le_trans I.ok.bsz I.sz, I.stack, I.stkFree, I.hok, I.bare⟩
/-- behind a call -/
theorem Inv.after {Q : VK} {u : Value} (I : Inv X pins σ H s) (h : CE X.stack X.prog X.w H s Q u s') : EP X pins σ Q u s' := by
  obtain ⟨v, H', os, bare, un, hok, r, q⟩ := h
  obtain ⟨hh, g, d, t, os'⟩ := s'
  obtain rfl : os' = s.os := os
  exact ⟨v, H', I.call (h' := hh) (g' := g) (d' := d) (t' := t) (ch := []) un hok bare (fun b z => absurd z (by simp)), r, q⟩
end

/-! ### calls -/
/-- f(..): the written arguments, then the defaults dvs; E: what is wanted of an exception -/
def tCall (sp : Sp) (dvs : List V) (E : XK) (t : TA) : TE := fun σ H Q => t σ H fun vs H1 => sp (vs ++ dvs) H1 Q E
/-- o.m(..) of an instance of the class at C -/
def tMeth (C : Addr) (m : Str) (sp : Sp) (dvs : List V) (E : XK) (ta : TE) (t : TA) : TE := fun σ H Q => ta σ H fun x H1 => ∃ a dx fs, x = .ref a ∧ H1 a = some (.ins C dx fs) ∧ fs.lookup m = none ∧
  t σ H1 fun vs H2 => sp (x :: (vs ++ dvs)) H2 Q E
/-- C(..): a new instance and its dict, then __init__ -/
def tMake (C : Addr) (sp : Sp) (dvs : List V) (E : XK) (t : TA) : TE := fun σ H Q => t σ H fun vs H1 => ∀ x dx, H1 x = none → H1 dx = none → dx ≠ x →
  sp (.ref x :: (vs ++ dvs)) (upd (upd H1 dx (.own x)) x (.ins C dx [])) (fun v H2 => v = .non ∧ Q (.ref x) H2) E

/-- how the parameters are bound: us the positional arguments, kw the keywords' values by name, ds the defaults that fill up -/
def Binds (K : PySem.W.Frag) (fd : FuncData) (ps : List Str) (ds : List Value) : Prop :=
  ∀ (s : Shared) (us : List Value), K.In s.heap → (us ++ ds).length = ps.length → BindsTo s fd ⟨us, []⟩ (ps.zip (us ++ ds))
/-- every parameter is given -/
theorem Binds.all {K : PySem.W.Frag} {fd : FuncData} {ps : List Str} (h : ∀ us : List Value, us.length = ps.length → bindArgs fd ⟨us, []⟩ = pure (ps.zip us)) : Binds K fd ps [] := fun s us _ hl => by
  rw [List.append_nil] at hl ⊢
  exact .of_eq (h us hl)

/-- an exception of a callee reaches what this body wants of exceptions -/
def Passes (CX : CXT) (X : Cx) (E : XK) : Prop := ∀ (pins : List (Addr × Obj)) (σ : St) (H : Hp) (s : Shared) (e : Value) (s' : Shared), Inv X pins σ H s → CX X.stack H s E e s' → X.xe e s'

section
variable {X : Cx} {CX : CXT} {k : Nat} {f C : Addr} {fd : FuncData} {ps : List Str} {sp : Sp} {dvs : List V} {ds : List Value} {E : XK} {x m : Str} {p pos apos : Pos} {e o : Expr} {es : List Expr} {ta : TE} {t : TA}

/-- the callee runs -/
theorem run_fn {pins : List (Addr × Obj)} {σ : St} {H : Hp} {s : Shared} {Q : VK} {us : List Value} {vs : List V} (F : FnOk X.prog X.w X.K X.mg X.base CX k f fd ps sp) (hr : Room k X.A) (hb : Binds X.K fd ps ds) (hd : Vals dvs ds) (hx : Passes CX X E)
    (I : Inv X pins σ H s) (r : Vals vs us) (h : sp (vs ++ dvs) H Q E) : wpAny (model X.prog X.w) X.A (call (.ref f) us) (EP X pins σ Q) X.xe s := by
  have r2 : Vals (vs ++ dvs) (us ++ ds) := r.append hd
  have hl : (us ++ ds).length = ps.length := by rw [← r2.length]; exact F.len _ _ _ _ h
  refine wpAny_call (codeAny_mono (F.run X.A X.stack s H ⟨us, []⟩ (us ++ ds) (vs ++ dvs) Q E hr I.env0 (hb s us I.kIn hl) r2 h) fun r s' hq => ?_)
  cases r with
  | error e => exact hx pins σ H s e s' I hq
  | ok fl =>
    cases fl with
    | ret u => exact I.after hq
    | next => exact False.elim hq
    | brk => exact False.elim hq
    | cont => exact False.elim hq

theorem pe_call (F : FnOk X.prog X.w X.K X.mg X.base CX k f fd ps sp) (hr : Room k X.A) (hg : Gl X x) (hm : X.mg x = some (.ref f)) (hk : PySem.W.keepIn X.K (.ref f) = true) (hb : Binds X.K fd ps ds) (hd : Vals dvs ds) (hx : Passes CX X E)
    (ha : PA X (e :: es) t) (hdb : (x == ("__debug__" : Str)) = false := by decide) (he : starEach (e :: es) X.env = (false, eval e X.env) :: starEach es X.env := by rfl) (hpl : (backTo pos (starEach es X.env)).any (·.1) = false := by rfl) :
    PE X (.Call (.Name x p) (e :: es) [] pos) (tCall sp dvs E t) := by
  intro pins s σ H Q I h
  refine wpAny_Call_Name_kw (ld_glob I hg hm ?_ hdb)
  refine PySem.W.callWith_K (h₀ := X.base) I.ok.mod.kin hk (thn (ha pos pins s σ H _ I h) fun us s1 ⟨vs, H1, I1, r, q⟩ => ⟨I1.kIn, ?_⟩) he hpl
  exact run_fn F hr hb hd hx I1 r q
/-- what a class must have to be made -/
structure Mk (K : PySem.W.Frag) (C f : Addr) : Prop where
  makes : PySem.W.makesIn K C = true
  init : PySem.W.findIn K (.ref C) "__init__" = some (some (.ref f))
  fn : PySem.W.isFn K (.ref f) = true
  kp : PySem.W.keepIn K (.ref C) = true

end

/-! ### keywords -/
/-- the values of the keywords, from the left -/
def PK (X : Cx) (kws : List Keyword) (t : TA) : Prop :=
  ∀ (pos : Pos) (pins : List (Addr × Obj)) (s : Shared) (σ : St) (H : Hp) (Q : List V → Hp → Prop), Inv X pins σ H s → t σ H Q → wpAny (model X.prog X.w) X.A (evalAll ((backToKw pos (keywordEach kws X.env)).map (·.2))) (AP X pins σ Q) X.xe s
section
variable {X : Cx} {CX : CXT} {k : Nat} {f C : Addr} {fd : FuncData} {ps ks : List Str} {sp : Sp} {E : XK} {x m : Str} {p pos apos kpos : Pos} {e o : Expr} {es : List Expr} {kws : List Keyword} {te ta : TE} {t tk : TA} {nm : Option Str}
/-- how a call with keywords binds: g puts the positional values us and the keywords' values ws (names ks) in the parameters' order, defaults among them -/
structure KBinds (K : PySem.W.Frag) (fd : FuncData) (ps ks : List Str) (g : List Value → List Value → List Value) (gV : List V → List V → List V) : Prop where
  to : ∀ (s : Shared) (us ws : List Value), K.In s.heap → (g us ws).length = ps.length → BindsTo s fd ⟨us, ks.zip ws⟩ (ps.zip (g us ws))
  rel : ∀ {vs : List V} {us : List Value} {zs : List V} {ws : List Value}, Vals vs us → Vals zs ws → Vals (gV vs zs) (g us ws)
def tCallK (sp : Sp) (gV : List V → List V → List V) (E : XK) (t tk : TA) : TE := fun σ H Q => t σ H fun vs H1 => tk σ H1 fun zs H2 => sp (gV vs zs) H2 Q E
variable {g : List Value → List Value → List Value} {gV : List V → List V → List V}
end

/-! ### a def's body keeps its promise -/
/-- names: the parameters first -/
structure FnScope (N P : List Str) (sc : Scope) : Prop where
  kind : sc.kind = .function
  co : sc.isCoroutine = false
  gen : sc.isGenerator = false
  nd : N.Nodup
  pre : N.take P.length = P
  par : ∀ x ∈ P, sc.names.lookup x = some .local ∨ sc.names.lookup x = some .cell
  nofree : ∀ y ∈ sc.names, y.2 ≠ .free

theorem bindL_out {kindOf : Str → Option NameKind} {x : Str} : ∀ {binds : List (Str × Value)} {m : Str → Option Value}, (∀ v, (x, v) ∉ binds) → bindL kindOf binds m x = m x
  | [], _, _ => rfl
  | (n, v) :: r, m, h => by
    unfold bindL
    rw [bindL_out fun w hw => h w (List.mem_cons_of_mem _ hw)]
    split
    · have : x ≠ n := by rintro rfl; exact h v List.mem_cons_self
      simp [this]
    · rfl
theorem bindC_out {kindOf : Str → Option NameKind} {x : Str} : ∀ {binds : List (Str × Value)} {m : Str → Option Value}, (∀ v, (x, v) ∉ binds) → bindC kindOf binds m x = m x
  | [], _, _ => rfl
  | (n, v) :: r, m, h => by
    unfold bindC
    rw [bindC_out fun w hw => h w (List.mem_cons_of_mem _ hw)]
    split
    · rfl
    · have : x ≠ n := by rintro rfl; exact h v List.mem_cons_self
      simp [this]
theorem bindL_get {kindOf : Str → Option NameKind} {x : Str} {v : Value} : ∀ {P : List Str} {vs : List Value} {i : Nat} {m : Str → Option Value}, P.Nodup → P[i]? = some x → vs[i]? = some v → kindOf x = some .local →
    bindL kindOf (P.zip vs) m x = some v
  | [], _, _, _, _, h, _, _ => by simp at h
  | _ :: _, [], _, _, _, _, h, _ => by simp at h
  | p :: P, w :: vs, 0, m, nd, h1, h2, hk => by
    simp at h1 h2; subst h1; subst h2
    show bindL kindOf ((p, w) :: P.zip vs) m p = _
    unfold bindL
    rw [bindL_out fun v hv => (List.nodup_cons.mp nd).1 (List.of_mem_zip hv).1, if_pos hk]
    simp
  | p :: P, w :: vs, i + 1, m, nd, h1, h2, hk => by
    show bindL kindOf ((p, w) :: P.zip vs) m x = _
    unfold bindL
    exact bindL_get (i := i) (List.nodup_cons.mp nd).2 (by simpa using h1) (by simpa using h2) hk
theorem bindC_get {kindOf : Str → Option NameKind} {x : Str} {v : Value} : ∀ {P : List Str} {vs : List Value} {i : Nat} {m : Str → Option Value}, P.Nodup → P[i]? = some x → vs[i]? = some v → kindOf x ≠ some .local →
    bindC kindOf (P.zip vs) m x = some v
  | [], _, _, _, _, h, _, _ => by simp at h
  | _ :: _, [], _, _, _, _, h, _ => by simp at h
  | p :: P, w :: vs, 0, m, nd, h1, h2, hk => by
    simp at h1 h2; subst h1; subst h2
    show bindC kindOf ((p, w) :: P.zip vs) m p = _
    unfold bindC
    rw [bindC_out fun v hv => (List.nodup_cons.mp nd).1 (List.of_mem_zip hv).1, if_neg hk]
    simp
  | p :: P, w :: vs, i + 1, m, nd, h1, h2, hk => by
    show bindC kindOf ((p, w) :: P.zip vs) m x = _
    unfold bindC
    exact bindC_get (i := i) (List.nodup_cons.mp nd).2 (by simpa using h1) (by simpa using h2) hk

/-- the names' values at the entry -/
def start (N : List Str) (vs : List V) : St := vs.map some ++ List.replicate (N.length - vs.length) none

/-- the context of a def's body, at its entry; an exception leaves the frame, then lies as CX says -/
def cxOf (CX : CXT) (P : Program) (w : World) (K : PySem.W.Frag) (mg : Str → Option Value) (base : Heap) (N : List Str) (qual : Str) (scope : Scope) (f : Addr) (cd : Value) (A : Around) (outer : List Env) (s : Shared) (H : Hp) (E : XK) : Cx where
  prog := P
  w := w
  K := K
  mg := mg
  base := base
  A := A.deeper (envOfC qual scope s.heap.objs.size f cd)
  N := N
  s₀ := s
  H₀ := H
  env := envOfC qual scope s.heap.objs.size f cd
  outer := outer
  stack := envOfC qual scope s.heap.objs.size f cd :: outer
  ex := []
  calm := true
  fn := fun _ => true
  pn := []
  xe := fun e s' => wpAny (model P w) (A.deeper (envOfC qual scope s.heap.objs.size f cd)) (leaving (envOfC qual scope s.heap.objs.size f cd) e) (fun _ s'' => CX outer H s E e s'') (fun e' s'' => CX outer H s E e' s'') s'

theorem cell_has {sc : Scope} {n : Nat} {x : Str} (h : sc.names.lookup x = some .cell) : ∃ c, (cellsFrom n sc.names []).lookup x = some c := by
  have q := PySem.W.cellsFrom_some sc.names n [] (.inl h)
  exact Option.isSome_iff_exists.mp q

theorem inv_start {CX : CXT} {P : Program} {w : World} {K : PySem.W.Frag} {mg : Str → Option Value} {base : Heap} {N ps : List Str} {qual : Str} {scope : Scope} {f : Addr} {cd : Value} {A : Around} {outer : List Env} {s s1 : Shared} {H : Hp} {E : XK} {us : List Value} {vs : List V}
    (S : FnScope N ps scope) (hd : A.handled = none) (e0 : Env0 P w K mg base A outer s H) (hl : vs.length = ps.length) (r : Vals vs us)
    (x : InCallC s s.heap.objs.size (bindL (envOfC qual scope s.heap.objs.size f cd).kindOf (ps.zip us) fun _ => none) (cellsFrom (s.heap.objs.size + 1) scope.names []) (bindC (envOfC qual scope s.heap.objs.size f cd).kindOf (ps.zip us) fun _ => none) s1) :
    Inv (cxOf CX P w K mg base N qual scope f cd A outer s H E) [] (start N vs) H s1 := by
  have hpl : ps.length ≤ N.length := by have := congrArg List.length S.pre; rw [List.length_take] at this; omega
  obtain ⟨h1, tk, rfl, hk⟩ := x.done
  have noA : ∀ b : Addr, b ∉ (cxOf CX P w K mg base N qual scope f cd A outer s H E).ex := fun b z => absurd (show b ∈ ([] : List Addr) from z) (by simp)
  refine ⟨⟨e0.mod, S.kind, rfl, rfl, Nat.le_refl _, fun y z c h1 h2 => ?_, fun y hy => ?_, fun y c _ h => ?_, fun _ => hd, Around.frames_deeper e0.frames, .inr ⟨rfl, rfl⟩, fun b z => absurd z (noA b), e0.bs, e0.bsz, fun b _ _ => noA b, fun b z => absurd z (noA b), e0.funs, e0.frf⟩,
    rfl, e0.bare, Un.kept hk, ⟨_, x.toInCall.ns, fun i y v h1 h2 h3 => ?_⟩, fun y c h => ⟨_, x.cell y c h⟩, e0.hok.fresh (Nat.le_refl _), fun y c h => ?_, fun p hp => absurd (show p ∈ ([] : List (Addr × Obj)) from hp) (by simp), e0.hok.kept hk, ?_⟩
  · exact name_of_addr x.apart (PySem.mem_of_lookup h1) (PySem.mem_of_lookup h2)
  · have hy : scope.names.lookup y = some .cell ∨ scope.names.lookup y = some .free := hy
    rcases hy with hy | hy
    · exact cell_has hy
    · exact absurd rfl (S.nofree _ (PySem.mem_of_lookup hy))
  · exact Nat.le_of_lt (x.above y c (PySem.mem_of_lookup h))
  · have hi : i < vs.length := by
      unfold start at h2
      by_cases hi : i < vs.length
      · exact hi
      · rw [List.getElem?_append_right (by simpa using hi)] at h2
        rw [List.getElem?_replicate] at h2
        split at h2 <;> cases h2
    have ha : vs[i]? = some v := by
      unfold start at h2
      rw [List.getElem?_append_left (by simpa using hi), List.getElem?_map] at h2
      cases e : vs[i]? with
      | none => rw [e] at h2; cases h2
      | some a => rw [e] at h2; cases h2; rfl
    obtain ⟨u, hu, rv⟩ := r.get ha
    have hp : ps[i]? = some y := by
      rw [← S.pre, List.getElem?_take_of_lt (by omega)]; exact h1
    have ndP : ps.Nodup := by rw [← S.pre]; exact S.nd.sublist (List.take_sublist _ _)
    refine ⟨u, rv, ?_⟩
    rcases S.par y (List.mem_of_getElem? hp) with k | k
    · exact .inl ⟨k, bindL_get ndP hp hu k⟩
    · obtain ⟨c, e⟩ := cell_has (n := s.heap.objs.size + 1) k
      refine .inr ⟨.inl k, c, e, ?_⟩
      have q := x.cell y c e
      rw [bindC_get ndP hp hu (by show scope.names.lookup y ≠ _; rw [k]; decide)] at q
      exact q
  · exact e0.hok.fresh (Nat.le_of_lt (x.above y c (PySem.mem_of_lookup h)))
  · unfold start
    show _ = N.length
    rw [List.length_append, List.length_map, List.length_replicate]
    omega

/-- THE RULE: a def (or a method) of the text, by its body. The body's reading t is chosen for each entry; it is run at the parameters' values -/
theorem fn_of {CX : CXT} {P : Program} {w : World} {K : PySem.W.Frag} {mg : Str → Option Value} {base : Heap} {k : Nat} {f : Addr} {name qual : Str} {params : Arguments} {body : List Stmt} {scope : Scope} {dV kV doc pm cdv ct oc : Value} {an od : Option Addr}
    {osl : Array (Option Value)} {N ps : List Str} {sp : Sp} (lk : K.lookup f = some ⟨oc, od, .func (PySem.W.fnOf name qual params body scope dV kV doc pm an cdv ct), osl⟩) (hcd : PySem.W.codeIn K cdv qual = true) (S : FnScope N ps scope)
    (len : ∀ vs H Q E, sp vs H Q E → vs.length = ps.length)
    (hbody : ∀ (A : Around) (outer : List Env) (s : Shared) (H : Hp) (vs : List V) (Q : VK) (E : XK), Room k (A.deeper (envOfC qual scope s.heap.objs.size f cdv)) → sp vs H Q E →
      ∃ t, PSs (cxOf CX P w K mg base N qual scope f cdv A outer s H E) body t ∧ t { nx := fun _ H' => Q .non H', rt := Q } (start N vs) H) :
    FnOk P w K mg base CX (k + 1) f (PySem.W.fnOf name qual params body scope dV kV doc pm an cdv ct) ps sp := by
  refine ⟨len, fun A outer s H args us vs Q E hr e0 hb r hsp => ?_⟩
  have hl := len _ _ _ _ hsp
  have KX : K.In s.heap := e0.mod.kin.keeps fun b o e => (e0.bs b o e).1
  have lim : s.heap.NoLimit := e0.mod.nolimit.keeps fun b o e => (e0.bs b o e).1
  have hkind : ∀ y ∈ ps.zip us, scope.names.lookup y.1 = some .local ∨ (scope.names.lookup y.1 = some .cell ∧ ((cellsFrom (s.heap.objs.size + 1) scope.names []).lookup y.1).isSome = true) := fun ⟨n, v⟩ hy => by
    rcases S.par n (List.of_mem_zip hy).1 with q | q
    · exact .inl q
    · exact .inr ⟨q, PySem.W.cellsFrom_some _ _ _ (.inl q)⟩
  refine codeAny_call_function hr.depth (KX _ _ lk) rfl S.co S.gen rfl (PySem.W.codeRec_of KX hcd) (hb _ _ _ _ ?_)
  refine wpAny_newFunctionEnv_cells S.kind hkind fun env he s1 x => ?_
  subst he
  refine ⟨lim.keeps x.toInCall.keep, codeAny_func ?_⟩
  obtain ⟨t, ht, hq⟩ := hbody A outer s H vs Q E (hr.deeper _) hsp
  have I : Inv (cxOf CX P w K mg base N qual scope f cdv A outer s H E) [] (start N vs) H s1 := inv_start S hr.hd e0 hl r x
  refine wpAny_mono (ht [] s1 (start N vs) H _ I hq) (fun fl s' hs => ?_) fun e s' hs => hs
  have fin : ∀ {σ' : St} {H' : Hp} {v : V} {u : Value}, Inv (cxOf CX P w K mg base N qual scope f cdv A outer s H E) [] σ' H' s' → RelV v u → Q v H' → CE outer P w H s Q u s' :=
    fun {σ' H' v u} J rv q => ⟨v, H', J.os, J.bare, J.base, J.hok, rv, q⟩
  cases fl with
  | ret u =>
    obtain ⟨v, σ', H', J, rv, q⟩ := hs
    exact fin J rv q
  | next =>
    obtain ⟨σ', H', J, q⟩ := hs
    exact fin (v := V.non) (u := Value.none) J rfl q
  | brk =>
    obtain ⟨_, _, _, q⟩ := hs
    exact False.elim q
  | cont =>
    obtain ⟨_, _, _, q⟩ := hs
    exact False.elim q
end L2

namespace L2
open PySem PySem.Spec PyProof.Rows
section
variable {X : Cx} {x : Str} {p pos : Pos} {e : Expr} {es : List Expr} {t : TA} {id T : String} {r : List V → Hp → VK → Prop}

def tCB (r : List V → Hp → VK → Prop) (t : TA) : TE := fun σ H Q => t σ H fun vs H1 => r vs H1 Q
/-- f(e, ..), f a built-in function -/
theorem pe_callB (hc : CallR X (.builtin id) r) (hg : Gl X x) (hm : X.mg x = none) (hv : bootBuiltins x = some (.builtin id)) (ha : PA X (e :: es) t) (hn : x ≠ "__name__" := by decide) (hdb : (x == ("__debug__" : Str)) = false := by decide)
    (he : starEach (e :: es) X.env = (false, eval e X.env) :: starEach es X.env := by rfl) (hpl : (backTo pos (starEach es X.env)).any (·.1) = false := by rfl) : PE X (.Call (.Name x p) (e :: es) [] pos) (tCB r t) := by
  intro pins s σ H Q I h
  refine wpAny_Call_Name_kw (ld_blt I hg hm hv ?_ hn hdb)
  exact PyProof.Rows.callWith_builtin1 (thn (ha pos pins s σ H _ I h) fun us s1 ⟨vs, H1, I1, r1, q1⟩ => hc pins s1 σ H1 vs us Q I1 r1 q1) he hpl
end
end L2

namespace HT
open PySem PyProof.Rows

/-- t < u of tuples of ints -/
def lexLt : List Int → List Int → Bool
  | [], [] => false
  | [], _ :: _ => true
  | _ :: _, [] => false
  | x :: xs, y :: ys => if x = y then lexLt xs ys else decide (x < y)
section
open PySem.SeqAt
open PySem.AutoSeq1 (wpAny_loadPart')
open PySem.MeetsSeq PySem.MeetsSeq2 PySem.MeetsSeq3

end

section
variable {prog : Program} {w : World} {A : Around} {E : Value → Shared → Prop} {s : Shared}

/-! ### t[a:b], not the whole -/
/-- a slice's bound as a place among n (d where it is left out) -/
def sIx (n d : Nat) : Option Int → Nat
  | none => d
  | some v => if v < 0 then (v + (n : Int)).toNat else min v.toNat n
end
end HT

namespace L2
open PySem PySem.Spec PyProof.Rows

/-! ### the parts of a slice -/
abbrev TO := St → Hp → (Option Int → Hp → Prop) → Prop
/-- a slice's part (left out, or an int) -/
def PO (X : Cx) (e : Option Expr) (t : TO) : Prop :=
  ∀ (pins : List (Addr × Obj)) (s : Shared) (σ : St) (H : Hp) (Q : Option Int → Hp → Prop), Inv X pins σ H s → t σ H Q →
    wpAny (model X.prog X.w) X.A (evalPart e X.env) (fun u s' => ∃ o H', Inv X pins σ H' s' ∧ IsPart u o ∧ Q o H') X.xe s
def tNoPart : TO := fun _ H Q => Q none H
def tPart (t : TE) : TO := fun σ H Q => t σ H fun x H1 => ∃ i, x = .int i ∧ Q (some i) H1

section
variable {X : Cx} {e : Expr} {te : TE} {lo hi : Option Expr} {tl th : TO} {pos p2 : Pos}

theorem po_none : PO X none tNoPart := by
  intro pins s σ H Q I h
  rw [evalPart_none]
  exact wpAny_pure ⟨none, H, I, .none, h⟩
theorem po_some (h : PE X e te) : PO X (some e) (tPart te) := by
  intro pins s σ H Q I hw
  rw [evalPart_some]
  refine thn (h pins s σ H _ I hw) fun u s1 ⟨x, H1, I1, r1, q1⟩ => ?_
  obtain ⟨i, rfl, q⟩ := q1
  obtain ⟨t, rfl⟩ := r1
  exact ⟨some i, H1, I1, .int i t, q⟩

/-- what a slice of a value is, by values: the slice object stands at sl -/
def SlR (X : Cx) (r : V → Option Int → Option Int → Hp → VK → Prop) : Prop :=
  ∀ (pins : List (Addr × Obj)) (s : Shared) (σ : St) (H : Hp) (x : V) (v vl vu : Value) (lo hi : Option Int) (sl : Addr) (Q : VK), Inv X pins σ H s → RelV x v → s.heap.IsSliceOf sl vl vu .none → IsPart vl lo → IsPart vu hi → r x lo hi H Q →
    ∃ T id, typeLookup (.type T) "__getitem__" = pure (some (.builtin id)) ∧ s.TypeIs v T ∧ wpAny (model X.prog X.w) X.A (getItem v (.ref sl)) (EP X pins σ Q) X.xe s
theorem SlR.or {r r' : V → Option Int → Option Int → Hp → VK → Prop} (h : SlR X r) (h' : SlR X r') : SlR X (fun x lo hi H Q => r x lo hi H Q ∨ r' x lo hi H Q) := by
  intro pins s σ H x v vl vu lo hi sl Q I rx hs pl pu q
  rcases q with q | q
  · exact h pins s σ H x v vl vu lo hi sl Q I rx hs pl pu q
  · exact h' pins s σ H x v vl vu lo hi sl Q I rx hs pl pu q
def tSl (r : V → Option Int → Option Int → Hp → VK → Prop) (te : TE) (tl th : TO) : TE := fun σ H Q => te σ H fun x H1 => tl σ H1 fun l H2 => th σ H2 fun u H3 => r x l u H3 Q
/-- a[lo:hi], any a -/
theorem pe_slice {r : V → Option Int → Option Int → Hp → VK → Prop} (hr : SlR X r) (he : PE X e te) (hl : PO X lo tl) (hu : PO X hi th) : PE X (.Subscript e (.Slice lo hi none p2) pos) (tSl r te tl th) := by
  intro pins s σ H Q I h
  refine Subscript_ (thn (he pins s σ H _ I h) fun v s1 ⟨x, H1, I1, r1, q1⟩ => ?_)
  refine wpAny_Slice (thn (hl pins s1 σ H1 _ I1 q1) fun vl s2 ⟨l, H2, I2, pl, q2⟩ => thn (hu pins s2 σ H2 _ I2 q2) fun vu s3 ⟨u, H3, I3, pu, q3⟩ => ?_)
  rw [evalPart_none]
  refine wpAny_pure ?_
  have I4 : Inv X pins σ H3 { s3 with heap := s3.heap.push { cls := .type "slice", data := .fields #[vl, vu, .none] } } := I3.kept (t' := s3.toks) fun b ob q => Heap.get?_push_of_some _ q
  obtain ⟨T, id, hT, ht, hg⟩ := hr pins { s3 with heap := s3.heap.push { cls := .type "slice", data := .fields #[vl, vu, .none] } } σ H3 x v vl vu l u s3.heap.objs.size Q I4 r1 (Heap.IsSliceOf.new ..) pl pu q3
  show wpAny (model X.prog X.w) X.A (subscriptTail e (.Slice lo hi none p2) v (.ref s3.heap.objs.size)) (EP X pins σ Q) X.xe { s3 with heap := s3.heap.push { cls := .type "slice", data := .fields #[vl, vu, .none] } }
  exact tail_any (ops := [.ref s3.heap.objs.size, v]) ht hT hg (by with_unfolding_all rfl)

/-- the items of xs[lo:hi] -/
def cutV (xs : List V) (lo hi : Option Int) : List V := (xs.drop (HT.sIx xs.length 0 lo)).take (HT.sIx xs.length xs.length hi - HT.sIx xs.length 0 lo)
/-- t[lo:hi], not the whole of it (the whole would be t itself) -/
def rSlT (K : PySem.W.Frag) : V → Option Int → Option Int → Hp → VK → Prop := fun x lo hi H Q => ∃ a xs, x = .ref a ∧ SqT K H a xs ∧
  ¬ (HT.sIx xs.length 0 lo = 0 ∧ HT.sIx xs.length xs.length hi = xs.length) ∧ ∀ p, H p = none → Q (.ref p) (upd H p (.tup (cutV xs lo hi)))
/-! ### t < u, t + u -/
def rLtT (K : PySem.W.Frag) : R2 := fun x y H Q => ∃ a b ns ms, x = .ref a ∧ y = .ref b ∧ SqT K H a (ns.map V.int) ∧ SqT K H b (ms.map V.int) ∧ Q (.bl (HT.lexLt ns ms)) H
/-- t + u, t not empty: u empty gives t itself -/
def rCatT (K : PySem.W.Frag) : R2 := fun x y H Q => ∃ a b xs ys, x = .ref a ∧ y = .ref b ∧ SqT K H a xs ∧ SqT K H b ys ∧ xs ≠ [] ∧ xs.length + ys.length ≤ sizeLine ∧
  (ys = [] → Q (.ref a) H) ∧ (ys ≠ [] → ∀ p, H p = none → Q (.ref p) (upd H p (.tup (xs ++ ys))))
end
end L2

namespace L2
open PySem PySem.Spec PyProof.Rows

/-! ### places -/
/-- the place that an index of any sign means -/
def ixN (n : Nat) (i : Int) : Option Nat := if 0 ≤ i then (if i < n then some i.toNat else none) else if -(n : Int) ≤ i then some (i + n).toNat else none
def atI {α : Type} (xs : List α) (i : Int) : Option α := (ixN xs.length i).bind fun j => xs[j]?
theorem ixN_seq {n : Nat} {i : Int} {j : Nat} (h : ixN n i = some j) : seqIndex? i n = some j ∧ j < n ∧ -(n : Int) ≤ i ∧ i < n := by
  unfold ixN at h
  by_cases h0 : 0 ≤ i
  · rw [if_pos h0] at h
    by_cases h1 : i < n
    · rw [if_pos h1] at h
      have e : i.toNat = j := Option.some.inj h
      exact ⟨by rw [seqIndex_of h0 h1, e], by omega, by omega, h1⟩
    · rw [if_neg h1] at h; cases h
  · rw [if_neg h0] at h
    by_cases h1 : -(n : Int) ≤ i
    · rw [if_pos h1] at h
      have e : (i + n).toNat = j := Option.some.inj h
      exact ⟨by rw [seqIndex_neg (by omega) h1, e], by omega, h1, by omega⟩
    · rw [if_neg h1] at h; cases h
theorem atI_get {α : Type} {xs : List α} {i : Int} {v : α} (h : atI xs i = some v) : ∃ j, seqIndex? i xs.length = some j ∧ xs[j]? = some v ∧ j < xs.length ∧ -(xs.length : Int) ≤ i ∧ i < xs.length := by
  unfold atI at h
  cases e : ixN xs.length i with
  | none => rw [e] at h; cases h
  | some j =>
    rw [e] at h
    obtain ⟨h1, h2, h3, h4⟩ := ixN_seq e
    exact ⟨j, h1, h, h2, h3, h4⟩
theorem atI_nat {α : Type} {xs : List α} {j : Nat} {v : α} (h : xs[j]? = some v) : atI xs (j : Int) = some v := by
  have hj : j < xs.length := (List.getElem?_eq_some_iff.mp h).1
  have e : ixN xs.length (j : Int) = some j := by
    unfold ixN
    rw [if_pos (by omega), if_pos (by omega)]; simp
  unfold atI; rw [e]; exact h
theorem atI_last {α : Type} (xs : List α) (v : α) : atI (xs ++ [v]) (-1) = some v := by
  have hl : (xs ++ [v]).length = xs.length + 1 := by simp
  have e : ixN (xs ++ [v]).length (-1) = some xs.length := by
    unfold ixN
    rw [hl, if_neg (by decide), if_pos (by omega)]
    congr 1
    omega
  unfold atI
  rw [e]
  show (xs ++ [v])[xs.length]? = some v
  simp

/-! ### what may be subscripted -/
/-- what stands as an index of a plain subscript -/
def PlainIx (b : Expr) : Prop := ∀ o i, subscripted b false o i = operate [o, i] (getItem o i)
/-- a subscript by values -/
def IxR (X : Cx) (r : R2) : Prop :=
  ∀ (value slice : Expr) (pins : List (Addr × Obj)) (s : Shared) (σ : St) (H : Hp) (x y : V) (v u : Value) (Q : VK), Inv X pins σ H s → RelV x v → RelV y u → r x y H Q →
    subscripted slice false v u = operate [v, u] (getItem v u) → wpAny (model X.prog X.w) X.A (subscriptTail value slice v u) (EP X pins σ Q) X.xe s
/-- a call of a builtin's method by values: the receiver, the arguments -/
def MtR (X : Cx) (id : String) (r : V → List V → Hp → VK → Prop) : Prop :=
  ∀ (pins : List (Addr × Obj)) (s : Shared) (σ : St) (H : Hp) (x : V) (xs : List V) (v : Value) (us : List Value) (Q : VK), Inv X pins σ H s → RelV x v → Vals xs us → r x xs H Q →
    wpAny (model X.prog X.w) X.A (call (.builtin id) (v :: us)) (EP X pins σ Q) X.xe s
section
variable {X : Cx} {a b : Expr} {ta tb : TE} {pos : Pos}
theorem IxR.or {r r' : R2} (h : IxR X r) (h' : IxR X r') : IxR X (fun x y H Q => r x y H Q ∨ r' x y H Q) := by
  intro value slice pins s σ H x y v u Q I rx ry q hs
  rcases q with q | q
  · exact h value slice pins s σ H x y v u Q I rx ry q hs
  · exact h' value slice pins s σ H x y v u Q I rx ry q hs
theorem MtR.or {id : String} {r r' : V → List V → Hp → VK → Prop} (h : MtR X id r) (h' : MtR X id r') : MtR X id (fun x xs H Q => r x xs H Q ∨ r' x xs H Q) := by
  intro pins s σ H x xs v us Q I rx rs q
  rcases q with q | q
  · exact h pins s σ H x xs v us Q I rx rs q
  · exact h' pins s σ H x xs v us Q I rx rs q
/-- a[b] -/
theorem pe_ix {r : R2} (hr : IxR X r) (ha : PE X a ta) (hb : PE X b tb) (hs : PlainIx b) : PE X (.Subscript a b pos) (tOp r ta tb) := by
  intro pins s σ H Q I h
  exact Subscript_ (binT ha hb I h fun v u s2 x y H2 I2 rx ry q => hr a b pins s2 σ H2 x y v u Q I2 rx ry q (hs _ _))

def rIxL (K : PySem.W.Frag) : R2 := fun x y H Q => ∃ p xs i v, x = .ref p ∧ y = .int i ∧ SqL K H p xs ∧ atI xs i = some v ∧ Q v H
def rIxT (K : PySem.W.Frag) : R2 := fun x y H Q => ∃ p xs i v, x = .ref p ∧ y = .int i ∧ SqT K H p xs ∧ atI xs i = some v ∧ Q v H
def rIxS : R2 := fun x y H Q => ∃ z i c, x = .str z ∧ y = .int i ∧ z.length ≤ sizeLine ∧ atI z.cps.toList i = some c ∧ Q (.str ⟨#[c]⟩) H
theorem ix_list : IxR X (rIxL X.K) := by
  intro value slice pins s σ H x y v u Q I rx ry h hs
  obtain ⟨p, xs, i, z, rfl, rfl, hq, he, q⟩ := h
  cases rx
  obtain ⟨t, rfl⟩ := ry
  obtain ⟨its, r, pl, hz⟩ := I.list hq
  obtain ⟨j, h1, h2, h3, h4, h5⟩ := atI_get he
  obtain ⟨w, ew, rw'⟩ := r.get h2
  have hl := r.length
  have hn := line63
  have fin : EP X pins σ Q w s := ⟨z, H, I, rw', q⟩
  by_cases h0 : 0 ≤ i
  · have hj : i.toNat = j := by
      rw [seqIndex_of h0 h5] at h1
      exact Option.some.inj h1
    exact item_listR pl.isList h0 (by omega) (by rw [hj]; simpa using ew) fin hs
  · have hj : (i + (its.toArray.size : Int)).toNat = j := by
      rw [seqIndex_neg (by omega) h4] at h1
      rw [List.size_toArray, ← hl]
      exact Option.some.inj h1
    exact subscriptTail_builtinR (x := w) pl.isList.typeIs slot_list_getitem.lookup
      (wpAny_getItem_list_neg (Q := fun r s' => r = w ∧ EP X pins σ Q r s') pl.isList (by omega) (by rw [List.size_toArray] <;> omega) (by omega) (by rw [hj]; simpa using ew) ⟨rfl, fin⟩) hs
theorem ix_tup : IxR X (rIxT X.K) := by
  intro value slice pins s σ H x y v u Q I rx ry h hs
  obtain ⟨p, xs, i, z, rfl, rfl, hq, he, q⟩ := h
  cases rx
  obtain ⟨t, rfl⟩ := ry
  obtain ⟨its, r, pl, hz⟩ := I.tuple hq
  obtain ⟨j, h1, h2, h3, h4, h5⟩ := atI_get he
  obtain ⟨w, ew, rw'⟩ := r.get h2
  have hl := r.length
  have hn := line63
  have fin : EP X pins σ Q w s := ⟨z, H, I, rw', q⟩
  exact subscriptTail_builtinR (x := w) pl.typeIs slot_tuple_getitem.lookup
    (getItem_tuple (j := j) (Q := fun r s' => r = w ∧ EP X pins σ Q r s') pl (by omega) (by omega) (by rw [List.size_toArray, ← hl]; exact h1) (by simpa using ew) ⟨rfl, fin⟩) hs
theorem ix_str : IxR X rIxS := by
  intro value slice pins s σ H x y v u Q I rx ry h hs
  obtain ⟨z, i, c, rfl, rfl, hz, he, q⟩ := h
  obtain ⟨t, rfl⟩ := rx
  obtain ⟨t', rfl⟩ := ry
  obtain ⟨j, h1, h2, h3, h4, h5⟩ := atI_get he
  have hl : z.cps.toList.length = z.length := by simp [Str.length]
  rw [hl] at h1 h4 h5
  have hn := line63
  exact tail_any (typeIs_str s z t) slot_str_getitem.lookup (getItem_str (c := c) (by
    have e1 : decide (i < -(2 ^ 63 : Int)) = false := decide_eq_false (by omega)
    have e2 : decide (i ≥ 2 ^ 63) = false := decide_eq_false (by omega)
    rw [e1, e2, Bool.or_false]) (by rw [h1]; simpa using h2) ⟨.str ⟨#[c]⟩, H, I.tok _, ⟨_, rfl⟩, q⟩) hs
/-- list, tuple or str -/
def rIx (K : PySem.W.Frag) : R2 := fun x y H Q => rIxL K x y H Q ∨ rIxT K x y H Q ∨ rIxS x y H Q
/-! ### xs[i] = v, any sign -/
theorem Inv.lst {pins : List (Addr × Obj)} {σ : St} {H : Hp} {s : Shared} {p : Addr} {xs : List V} (I : Inv X pins σ H s) (h : H p = some (.lst xs)) :
    ∃ (its : List Value) (n : Nat), Vals xs its ∧ s.heap.get? p = some { cls := .type "list", data := .seq its.toArray n } ∧ xs.length ≤ sizeLine := by
  obtain ⟨z, its, n, r, e⟩ := I.hok p _ h
  exact ⟨its, n, r, e, z⟩
def rSetL : V → V → V → Hp → (Hp → Prop) → Prop := fun o i v H Q => ∃ p xs k j, o = .ref p ∧ i = .int k ∧ H p = some (.lst xs) ∧ ixN xs.length k = some j ∧ Q (upd H p (.lst (xs.set j v)))
/-! ### slices -/
/-- xs[lo:hi] of a list: a new list -/
def rSlL (K : PySem.W.Frag) : V → Option Int → Option Int → Hp → VK → Prop := fun x lo hi H Q => ∃ a xs, x = .ref a ∧ SqL K H a xs ∧ ∀ p, H p = none → Q (.ref p) (upd H p (.lst (cutV xs lo hi)))
/-! ### in, not in: flat items -/
def flatV : V → Bool
  | .non => true
  | .bl _ => true
  | .int _ => true
  | .str _ => true
  | _ => false
/-- == of flat values -/
def eqV : V → V → Bool
  | .non, .non => true
  | .bl a, .bl b => a == b
  | .bl a, .int b => (if a then 1 else 0) == b
  | .int a, .bl b => a == (if b then 1 else 0)
  | .int a, .int b => a == b
  | .str a, .str b => a == b
  | _, _ => false
/-- the items' answers, read off the values (a value's own answer does not lean on its token) -/
def eqU (x : V) (u : Value) : Bool := match u with
  | .none => eqV .non x
  | .bool b => eqV (.bl b) x
  | .int i _ => eqV (.int i) x
  | .str z _ => eqV (.str z) x
  | _ => false
def inV (x : V) (xs : List V) : Bool := xs.any fun y => eqV y x
/-- x in a list or tuple of flat items -/
def rIn (K : PySem.W.Frag) (neg : Bool) : R2 := fun x y H Q => ∃ p xs, y = .ref p ∧ (SqL K H p xs ∨ SqT K H p xs) ∧ flatV x = true ∧ xs.all flatV = true ∧ Q (.bl (if neg then !inV x xs else inV x xs)) H
/-! ### len, list(x), tuple(x) of any list or tuple that is read -/
theorem call_len_seq : CallR X (.builtin "len") (fun xs H Q => ∃ p ys, xs = [.ref p] ∧ (SqL X.K H p ys ∨ SqT X.K H p ys) ∧ Q (.int ys.length) H) := by
  intro pins s σ H xs us Q I r h
  obtain ⟨p, ys, rfl, hq, q⟩ := h
  obtain ⟨u, rfl, rx⟩ := vals1 r
  cases rx
  have hn := line63
  rcases hq with hq | hq
  · obtain ⟨its, r', pl, hz⟩ := I.list hq
    have hlen := r'.length
    exact Calls.call_len_list pl.isList (by simp only [List.size_toArray] <;> omega) ⟨.int ys.length, H, I.tok _, ⟨s.toks + 1, by rw [List.size_toArray, hlen]⟩, q⟩
  · obtain ⟨its, r', pl, hz⟩ := I.tuple hq
    have hlen := r'.length
    exact len_tuple pl (by simp only [List.size_toArray] <;> omega) ⟨.int ys.length, H, I.tok _, ⟨s.toks + 1, by rw [List.size_toArray, hlen]⟩, q⟩
theorem call_len_str : CallR X (.builtin "len") (fun xs H Q => ∃ z, xs = [.str z] ∧ z.length ≤ sizeLine ∧ Q (.int z.length) H) := by
  intro pins s σ H xs us Q I r h
  obtain ⟨z, rfl, hz, q⟩ := h
  obtain ⟨u, rfl, t, rfl⟩ := vals1 r
  have hn := line63
  exact len_str (by omega) ⟨.int z.length, H, I.tok _, ⟨_, rfl⟩, q⟩
theorem CallR.or {f : Value} {r r' : List V → Hp → VK → Prop} (h : CallR X f r) (h' : CallR X f r') : CallR X f (fun xs H Q => r xs H Q ∨ r' xs H Q) := by
  intro pins s σ H xs us Q I rs q
  rcases q with q | q
  · exact h pins s σ H xs us Q I rs q
  · exact h' pins s σ H xs us Q I rs q
/-! ### the call of a builtin's method: o.m(..) -/
/-- the value is of that builtin type -/
def tyV (K : PySem.W.Frag) (T : String) (x : V) (H : Hp) : Prop := match x with
  | .str _ => T = "str"
  | .int _ => T = "int"
  | .ref p => (T = "list" ∧ ∃ xs, SqL K H p xs) ∨ (T = "tuple" ∧ ∃ o, K.lookup p = some o ∧ o.cls = .type "tuple" ∧ o.dict = none) ∨
      (T = "dict" ∧ ((∃ kvs, H p = some (.dK kvs)) ∨ ∃ kvs, H p = some (.dT kvs))) ∨ (T = "set" ∧ ∃ S n, H p = some (.set S n))
  | _ => False
theorem tyV_is {pins : List (Addr × Obj)} {σ : St} {H : Hp} {s : Shared} {T : String} {x : V} {v : Value} (I : Inv X pins σ H s) (r : RelV x v) (ty : tyV X.K T x H) :
    s.TypeIs v T ∧ ∀ a, v = .ref a → ∃ ob, s.heap.get? a = some ob ∧ ob.dict = none := by
  cases x with
  | str z =>
    obtain ⟨t, rfl⟩ := r
    cases (show T = "str" from ty)
    exact ⟨typeIs_str s z t, fun _ e => nomatch e⟩
  | int i =>
    obtain ⟨t, rfl⟩ := r
    cases (show T = "int" from ty)
    exact ⟨typeIs_int s i t, fun _ e => nomatch e⟩
  | ref p =>
    cases r
    rcases ty with ⟨rfl, xs, hq⟩ | ⟨rfl, o, hk, hc, hd⟩ | ⟨rfl, hk⟩ | ⟨rfl, S, n, hk⟩
    · obtain ⟨its, _, pl, _⟩ := I.list hq
      refine ⟨pl.isList.typeIs, fun a e => ?_⟩
      cases e
      obtain ⟨o, n, e, c, hd, _⟩ := pl
      exact ⟨o, e, hd⟩
    · refine ⟨⟨o, I.kIn p o hk, hc⟩, fun a e => ?_⟩
      cases e
      exact ⟨o, I.kIn _ o hk, hd⟩
    · have z : ∃ o, s.heap.get? p = some o ∧ o.ExactDict := by
        rcases hk with ⟨kvs, hk⟩ | ⟨kvs, hk⟩
        · obtain ⟨_, _, _, _, o, _, _, e, ex, _⟩ := I.hok p _ hk
          exact ⟨o, e, ex⟩
        · obtain ⟨_, _, _, _, o, _, _, e, ex, _⟩ := I.hok p _ hk
          exact ⟨o, e, ex⟩
      obtain ⟨o, e, ex⟩ := z
      refine ⟨⟨o, e, ex.1⟩, fun a e2 => ?_⟩
      cases e2
      exact ⟨o, e, ex.2.1⟩
    · obtain ⟨o, _, _, _, e, ex, _⟩ := I.hok p _ hk
      refine ⟨⟨o, e, ex.1⟩, fun a e2 => ?_⟩
      cases e2
      exact ⟨o, e, ex.2.1⟩
  | _ => exact False.elim ty
def tBM0 (K : PySem.W.Frag) (T : String) (r : V → List V → Hp → VK → Prop) (to : TE) : TE := fun σ H Q => to σ H fun x H1 => tyV K T x H1 ∧ r x [] H1 Q
def tBM (K : PySem.W.Frag) (T : String) (r : V → List V → Hp → VK → Prop) (to : TE) (t : TA) : TE := fun σ H Q => to σ H fun x H1 => tyV K T x H1 ∧ t σ H1 fun xs H2 => r x xs H2 Q
variable {o e : Expr} {es : List Expr} {to : TE} {t : TA} {name : Str} {apos cpos : Pos} {T id : String} {r : V → List V → Hp → VK → Prop}
theorem pe_bm (pa : PlainAttrs T) (slot : Slot T name id) (hty : typeOf (.builtin id) = pure (.type "method_descriptor")) (hm : MtR X id r) (ho : PE X o to) (ha : PA X (e :: es) t)
    (hbase : attributeBase o name X.env (eval o X.env) = eval o X.env := by rfl)
    (hfew : ((backTo cpos (starEach (e :: es) X.env)).all (fun x => !x.1) && (backToKw cpos (keywordEach [] X.env)).all (fun x => x.1.isSome)
      && decide ((e :: es).length + ([] : List Keyword).length + (if ([] : List Keyword).isEmpty then 0 else 1) < 30)) = true := by rfl)
    (hline : (apos.endLine == cpos.line) = true := by rfl) (hs : starEach (e :: es) X.env = (false, eval e X.env) :: starEach es X.env := by rfl) (hplain : (backTo cpos (starEach es X.env)).any (·.1) = false := by rfl) :
    PE X (.Call (.Attribute o name apos) (e :: es) [] cpos) (tBM X.K T r to t) := by
  intro pins s σ H Q I h
  refine wpAny_Call_method_late hbase hfew hline rfl (thn (ho pins s σ H _ I h) fun v s1 ⟨x, H1, I1, r1, ty, q1⟩ => ?_)
  obtain ⟨h1, h2⟩ := tyV_is I1 r1 ty
  refine ⟨T, id, pa, slot, hty, h1, h2, ?_⟩
  have hA := ha cpos pins s1 σ H1 _ I1 q1
  rw [hs] at hA ⊢
  refine Calls.callWith_builtin (by show (false || (backTo cpos (starEach es X.env)).any (·.1)) = false; rw [hplain] <;> rfl) (Calls.evalArgs_plain ?_)
  exact thn hA fun us s2 ⟨vs, H2, I2, r2, q2⟩ => hm pins s2 σ H2 x vs v us Q I2 r1 r2 q2
/- xs.append(e), list.index on a module's tuple .. are MtR facts of 06m -/
end
end L2

namespace L2
open PySem PySem.Spec PyProof.Rows

def MtM (X : Cx) (id : String) (r : V → List V → Hp → VK → Prop) : Prop :=
  ∀ (pins : List (Addr × Obj)) (s : Shared) (σ : St) (H : Hp) (x : V) (xs : List V) (v : Value) (us : List Value) (Q : VK), Inv X pins σ H s → RelV x v → Vals xs us → r x xs H Q →
    wpAny (model X.prog X.w) X.A (call (.builtin id) (v :: us)) (EP X pins σ Q) X.xe s

/-! ### lists of values -/
theorem Vals.one : ∀ {x : V} {us : List Value}, Vals [x] us → ∃ u, us = [u] ∧ RelV x u
  | _, _, .cons r .nil => ⟨_, rfl, r⟩
theorem Vals.two : ∀ {x y : V} {us : List Value}, Vals [x, y] us → ∃ u v, us = [u, v] ∧ RelV x u ∧ RelV y v
  | _, _, _, .cons r (.cons q .nil) => ⟨_, _, rfl, r, q⟩
theorem Vals.zero : ∀ {us : List Value}, Vals [] us → us = []
  | _, .nil => rfl
theorem Vals.dropLast {xs : List V} {us : List Value} (h : Vals xs us) : Vals xs.dropLast us.dropLast := by
  induction h with
  | nil => exact .nil
  | cons r t ih =>
    cases t with
    | nil => exact .nil
    | cons q t' => exact .cons r ih
theorem Vals.eraseIdx : ∀ {xs : List V} {us : List Value} (i : Nat), Vals xs us → Vals (xs.eraseIdx i) (us.eraseIdx i)
  | _, _, _, .nil => .nil
  | _, _, 0, .cons _ t => t
  | _, _, i + 1, .cons r t => .cons r (Vals.eraseIdx i t)
theorem Vals.reverse {xs : List V} {us : List Value} (h : Vals xs us) : Vals xs.reverse us.reverse := by
  induction h with
  | nil => exact .nil
  | cons r t ih => rw [List.reverse_cons, List.reverse_cons]; exact Vals.append ih (.cons r .nil)
theorem Vals.rep {xs : List V} {us : List Value} (h : Vals xs us) : ∀ k : Nat, Vals (List.replicate k xs).flatten (List.replicate k us).flatten
  | 0 => .nil
  | k + 1 => by
    rw [List.replicate_succ, List.replicate_succ, List.flatten_cons, List.flatten_cons]
    exact Vals.append h (Vals.rep h k)
section
variable {X : Cx} {pins : List (Addr × Obj)} {σ : St} {H : Hp} {s : Shared} {l b : Addr} {xs ys zs : List V}

/-! ### the two steps: a tracked list is rewritten, a new list is laid -/
theorem Inv.lset {its its' : List Value} {n : Nat} {f : Array Value → Array Value} {t' : Nat} (I : Inv X pins σ H s) (hH : H l = some (.lst xs))
    (e : s.heap.get? l = some { cls := .type "list", data := .seq its.toArray n }) (hf : f its.toArray = its'.toArray) (hv : Vals ys its') (hz : ys.length ≤ sizeLine) :
    Inv X pins σ (upd H l (.lst ys)) { s with heap := s.heap.update l (Obj.mapSeq f), toks := t' } := by
  have q := PySem.IsL.update e f
  rw [hf] at q
  refine I.write (x := l) (e := l) (by rw [hH]; exact trivial) (.inl rfl) (fun b' u hb hu => (Heap.get?_update_other s.heap (Obj.mapSeq f) (Ne.symm hb)).trans hu) ⟨_, q⟩ ?_
  exact ⟨hz, its', _, hv, q⟩
theorem Inv.lnew {its : List Value} {t' : Nat} (I : Inv X pins σ H s) (hv : Vals ys its) (hz : ys.length ≤ sizeLine) :
    Inv X pins σ (upd H s.heap.objs.size (.lst ys)) { s with heap := s.heap.push { cls := .type "list", data := .seq its.toArray }, toks := t' } :=
  I.laid (fun _ _ q => Heap.get?_push_of_some _ q) (Nat.le_refl _) ⟨hz, its, 0, hv, Heap.get?_push_size _ rfl⟩
theorem Inv.fresh (I : Inv X pins σ H s) : H s.heap.objs.size = none := I.hok.fresh (Nat.le_refl _)
theorem Inv.lstM (I : Inv X pins σ H s) (hH : H l = some (.lst xs)) : xs.length ≤ sizeLine ∧ ∃ (its : List Value) (n : Nat), Vals xs its ∧ xs.length = its.length ∧ s.heap.get? l = some { cls := .type "list", data := .seq its.toArray n } := by
  obtain ⟨z, its, n, r, e⟩ := I.hok l _ hH
  exact ⟨z, its, n, r, r.length, e⟩

end

section
variable {X : Cx}

/-! ### methods -/
def rAppend : V → List V → Hp → VK → Prop := fun x vs H Q => ∃ l xs y, x = .ref l ∧ vs = [y] ∧ H l = some (.lst xs) ∧ xs.length < sizeLine ∧ Q .non (upd H l (.lst (xs ++ [y])))
theorem mt_append : MtM X "list.append" rAppend := by
  intro pins s σ H x vs v us Q I rx rv h
  obtain ⟨l, xs, y, rfl, rfl, hH, hz, q⟩ := h
  cases rx
  obtain ⟨u, rfl, ru⟩ := rv.one
  obtain ⟨z, its, n, r, hl, e⟩ := I.lstM hH
  refine call_meets F.slot_list_append ⟨_, e, rfl⟩ F.entry_list_append (F.args_list_append_2 _ _) (PySem.list_append l its.toArray n u (by rw [List.size_toArray]; omega)) ⟨e, ?_⟩
  refine ⟨.non, _, I.lset (its' := its ++ [u]) hH e (by simp) (r.append (.cons ru .nil)) ?_, rfl, q⟩
  rw [List.length_append, List.length_singleton]
  omega

def rExtend : V → List V → Hp → VK → Prop := fun x vs H Q => ∃ l b xs zs, x = .ref l ∧ vs = [.ref b] ∧ H l = some (.lst xs) ∧ H b = some (.lst zs) ∧ xs.length + zs.length ≤ sizeLine ∧ Q .non (upd H l (.lst (xs ++ zs)))
def rPop : V → List V → Hp → VK → Prop := fun x vs H Q => ∃ l xs y, x = .ref l ∧ vs = [] ∧ H l = some (.lst xs) ∧ xs[xs.length - 1]? = some y ∧ Q y (upd H l (.lst xs.dropLast))
def rPopAt : V → List V → Hp → VK → Prop := fun x vs H Q => ∃ l xs i k y, x = .ref l ∧ vs = [.int i] ∧ H l = some (.lst xs) ∧ -(2 ^ 63) ≤ i ∧ i < 2 ^ 63 ∧ seqIndex? i xs.length = some k ∧ xs[k]? = some y ∧ Q y (upd H l (.lst (xs.eraseIdx k)))
def rReverse : V → List V → Hp → VK → Prop := fun x vs H Q => ∃ l xs, x = .ref l ∧ vs = [] ∧ H l = some (.lst xs) ∧ Q .non (upd H l (.lst xs.reverse))
def rClear : V → List V → Hp → VK → Prop := fun x vs H Q => ∃ l xs, x = .ref l ∧ vs = [] ∧ H l = some (.lst xs) ∧ Q .non (upd H l (.lst []))
/-! ### list + list, list += list, list * int -/
def rCat : R2 := fun x y H Q => ∃ l b xs zs, x = .ref l ∧ y = .ref b ∧ H l = some (.lst xs) ∧ H b = some (.lst zs) ∧ xs.length + zs.length ≤ sizeLine ∧ ∀ p, H p = none → Q (.ref p) (upd H p (.lst (xs ++ zs)))
theorem op_cat : OpR X (binaryOp .Add) rCat := by
  intro pins s σ H x y v u Q I rx ry h
  obtain ⟨l, b, xs, zs, rfl, rfl, hH, hB, hz, q⟩ := h
  cases rx
  cases ry
  obtain ⟨z, its, n, r, hl, e⟩ := I.lstM hH
  obtain ⟨z2, its2, n2, r2, hl2, e2⟩ := I.lstM hB
  refine PySem.P.add_list e e2 ?_ (by rw [List.size_toArray, List.size_toArray]; omega)
  have ea : its.toArray ++ its2.toArray = (its ++ its2).toArray := by simp
  rw [ea]
  exact ⟨.ref _, _, I.lnew (t' := s.toks) (r.append r2) (by rw [List.length_append]; omega), rfl, q _ I.fresh⟩
/-- a list times an int (a negative one is nothing) -/
def rRep : R2 := fun x y H Q => ∃ l k xs, x = .ref l ∧ y = .int k ∧ H l = some (.lst xs) ∧ -(2 ^ 63) ≤ k ∧ k < 2 ^ 63 ∧ xs.length * k.toNat ≤ sizeLine ∧
  ∀ p, H p = none → Q (.ref p) (upd H p (.lst (List.replicate k.toNat xs).flatten))
/-! ### del xs[i] -/
end

/-! ### xs[a:b] = ys -/
section
variable {prog : Program} {w : World} {A : Around} {E : Value → Shared → Prop} {s : Shared}
end

section
variable {X : Cx}
end
end L2

namespace L2
open PySem PySem.Spec PyProof.Rows

/-! ### lists of pairs as tables -/
section
variable {κ : Type} [DecidableEq κ]
def valV (kvs : List (κ × V)) (k : κ) : Option V := (kvs.find? fun kv => decide (kv.1 = k)).map (·.2)
/-- in its place, or at the end -/
def putK (kvs : List (κ × V)) (k : κ) (v : V) : List (κ × V) :=
  if (kvs.any fun kv => decide (kv.1 = k)) = true then kvs.map (fun kv => if kv.1 = k then (kv.1, v) else kv) else kvs ++ [(k, v)]
def dropK (kvs : List (κ × V)) (k : κ) : List (κ × V) := kvs.filter fun kv => decide (kv.1 ≠ k)

theorem valV_pos {p : κ × V} {r : List (κ × V)} {k : κ} (e : p.1 = k) : valV (p :: r) k = some p.2 := by simp [valV, List.find?_cons, e]
theorem valV_neg {p : κ × V} {r : List (κ × V)} {k : κ} (e : ¬ p.1 = k) : valV (p :: r) k = valV r k := by simp [valV, List.find?_cons, e]
theorem valV_any (k : κ) : ∀ kvs : List (κ × V), (kvs.any fun kv => decide (kv.1 = k)) = (valV kvs k).isSome
  | [] => rfl
  | p :: r => by
    rw [List.any_cons]
    by_cases e : p.1 = k
    · simp only [valV_pos e, decide_eq_true e, Bool.true_or, Option.isSome_some]
    · rw [valV_neg e, decide_eq_false e, Bool.false_or]; exact valV_any k r
theorem RelO.isSome_eq {o : Option V} {u : Option Value} (r : RelO o u) : o.isSome = u.isSome := by
  cases o with
  | none => cases u with
    | none => rfl
    | some _ => exact (show False from r).elim
  | some _ => cases u with
    | none => exact (show False from r).elim
    | some _ => rfl
theorem RelO.getD {o : Option V} {u : Option Value} {d : V} {d' : Value} (r : RelO o u) (rd : RelV d d') : RelV (o.getD d) (u.getD d') := by
  cases o with
  | none => cases u with
    | none => exact rd
    | some _ => exact (show False from r).elim
  | some _ => cases u with
    | none => exact (show False from r).elim
    | some _ => exact r

/-- raw tables of the same keys -/
theorem KV.val {kvs : List (κ × V)} {vs : List (κ × Value)} (r : KV kvs vs) (k : κ) : RelO (valV kvs k) (valueAt vs k) := by
  unfold KV at r
  induction r with
  | nil => exact True.intro
  | @cons p q ps qs h t ih =>
    obtain ⟨h1, h2⟩ := h
    by_cases e : p.1 = k
    · have e' : q.1 = k := h1.symm.trans e
      have b : valueAt (q :: qs) k = some q.2 := by simp [valueAt, List.find?_cons, e']
      rw [valV_pos e, b]; exact h2
    · have e' : ¬ q.1 = k := fun z => e (h1.trans z)
      have b : valueAt (q :: qs) k = valueAt qs k := by simp [valueAt, List.find?_cons, e']
      rw [valV_neg e, b]; exact ih
theorem KV.any {kvs : List (κ × V)} {vs : List (κ × Value)} (r : KV kvs vs) (k : κ) : (kvs.any fun kv => decide (kv.1 = k)) = vs.any fun kv => decide (kv.1 = k) := by
  unfold KV at r
  induction r with
  | nil => rfl
  | cons h t ih => rw [List.any_cons, List.any_cons, ih, h.1]
theorem KV.repl {kvs : List (κ × V)} {vs : List (κ × Value)} (r : KV kvs vs) (k : κ) {y : V} {u : Value} (ry : RelV y u) :
    KV (kvs.map fun kv => if kv.1 = k then (kv.1, y) else kv) (vs.map fun kv => if kv.1 = k then (kv.1, u) else kv) := by
  unfold KV at r ⊢
  induction r with
  | nil => exact .nil
  | @cons p q ps qs h t ih =>
    rw [List.map_cons, List.map_cons]
    refine .cons ?_ ih
    obtain ⟨h1, h2⟩ := h
    by_cases e : p.1 = k
    · rw [if_pos e, if_pos (h1.symm.trans e)]; exact ⟨h1, ry⟩
    · rw [if_neg e, if_neg (fun z => e (h1.trans z))]; exact ⟨h1, h2⟩
theorem KV.put {kvs : List (κ × V)} {vs : List (κ × Value)} (r : KV kvs vs) (k : κ) {y : V} {u : Value} (ry : RelV y u) : KV (putK kvs k y) (stored vs k u) := by
  unfold putK stored
  rw [r.any k]
  by_cases e : (vs.any fun kv => decide (kv.1 = k)) = true
  · rw [if_pos e, if_pos e]; exact r.repl k ry
  · rw [if_neg e, if_neg e]; exact Paired.snoc r ⟨rfl, ry⟩
theorem KV.drop {kvs : List (κ × V)} {vs : List (κ × Value)} (r : KV kvs vs) (k : κ) : KV (dropK kvs k) (without vs k) := by
  unfold KV at r ⊢
  unfold dropK without
  induction r with
  | nil => exact .nil
  | @cons p q ps qs h t ih =>
    obtain ⟨h1, h2⟩ := h
    rw [List.filter_cons, List.filter_cons]
    by_cases e : p.1 = k
    · have a : ¬ decide (p.1 ≠ k) = true := by simp [e]
      have b : ¬ decide (q.1 ≠ k) = true := by simp [h1.symm.trans e]
      rw [if_neg a, if_neg b]; exact ih
    · have e' : ¬ q.1 = k := fun z => e (h1.trans z)
      have a : decide (p.1 ≠ k) = true := by simp [e]
      have b : decide (q.1 ≠ k) = true := by simp [e']
      rw [if_pos a, if_pos b]; exact .cons ⟨h1, h2⟩ ih
theorem KV.keys {kvs : List (κ × V)} {vs : List (κ × Value)} (r : KV kvs vs) : kvs.map (·.1) = vs.map (·.1) := by
  unfold KV at r
  induction r with
  | nil => rfl
  | cons h t ih => rw [List.map_cons, List.map_cons, ih, h.1]
theorem KV.length {kvs : List (κ × V)} {vs : List (κ × Value)} (r : KV kvs vs) : kvs.length = vs.length := Paired.length r
end


/-! ### a tracked dict, its keys ints and texts or tuples of these -/
/-- raw entries of a dict with tuple keys -/
abbrev KT (H : Hp) : List (List Key × V) → List (List Key × Addr × Value) → Prop := Paired fun p q => p.1 = q.1 ∧ H q.2.1 = some (.tup (p.1.map kV)) ∧ RelV p.2 q.2.2
theorem KT.val {H : Hp} {kvs : List (List Key × V)} {xs : List (List Key × Addr × Value)} (r : KT H kvs xs) (k : List Key) : RelO (valV kvs k) ((atKey xs k).map (·.2)) := by
  induction r with
  | nil => exact True.intro
  | @cons p q ps qs h t ih =>
    obtain ⟨h1, _, h2⟩ := h
    by_cases e : p.1 = k
    · have e' : q.1 = k := h1.symm.trans e
      have b : atKey (q :: qs) k = some q.2 := by simp [atKey, List.find?_cons, e']
      rw [valV_pos e, b]; exact h2
    · have e' : ¬ q.1 = k := fun z => e (h1.trans z)
      have b : atKey (q :: qs) k = atKey qs k := by simp [atKey, List.find?_cons, e']
      rw [valV_neg e, b]; exact ih
theorem KT.repl {H : Hp} {kvs : List (List Key × V)} {xs : List (List Key × Addr × Value)} (r : KT H kvs xs) (k : List Key) {y : V} {u : Value} (ry : RelV y u) :
    KT H (kvs.map fun kv => if kv.1 = k then (kv.1, y) else kv) (xs.map (putAt k u)) := by
  induction r with
  | nil => exact .nil
  | @cons p q ps qs h t ih =>
    rw [List.map_cons, List.map_cons]
    refine .cons ?_ ih
    obtain ⟨h1, h2, h3⟩ := h
    unfold putAt
    by_cases e : p.1 = k
    · rw [if_pos e, if_pos (h1.symm.trans e)]; exact ⟨h1, h2, ry⟩
    · rw [if_neg e, if_neg (fun z => e (h1.trans z))]; exact ⟨h1, h2, h3⟩
theorem KT.put {H : Hp} {kvs : List (List Key × V)} {xs : List (List Key × Addr × Value)} (r : KT H kvs xs) (k : List Key) {b : Addr} {y : V} {u : Value} (hb : H b = some (.tup (k.map kV))) (ry : RelV y u) :
    KT H (putK kvs k y) (storedH xs k b u) := by
  have e : (kvs.any fun kv => decide (kv.1 = k)) = (atKey xs k).isSome := by
    rw [valV_any, (r.val k).isSome_eq, Option.isSome_map]
  unfold putK storedH
  rw [e]
  by_cases q : (atKey xs k).isSome = true
  · rw [if_pos q, if_pos q]; exact r.repl k ry
  · rw [if_neg q, if_neg q]; exact Paired.snoc r ⟨rfl, hb, ry⟩
theorem KT.keeps {H H' : Hp} {kvs : List (List Key × V)} {xs : List (List Key × Addr × Value)} (r : KT H kvs xs) (ht : ∀ b ys, H b = some (.tup ys) → H' b = some (.tup ys)) : KT H' kvs xs :=
  Paired.mapP r fun _ _ z => ⟨z.1, ht _ _ z.2.1, z.2.2⟩

section
variable {P : Program} {w : World} {H : Hp} {h : Heap} {a : Addr}
end

/-- what the dict at a holds at the key y -/
def DGet (H : Hp) (a : Addr) (y : V) (r : Option V) : Prop :=
  (∃ kvs k, Rd H a (.dK kvs) ∧ y = kV k ∧ r = valV kvs k) ∨ ∃ kvs k b, Rd H a (.dT kvs) ∧ y = .ref b ∧ H b = some (.tup (k.map kV)) ∧ r = valV kvs k
/-- the heap behind a[y] = v -/
def DPut (H : Hp) (a : Addr) (y v : V) (H' : Hp) : Prop :=
  (∃ kvs k, H a = some (.dK kvs) ∧ y = kV k ∧ kvs.length < sizeLine ∧ H' = upd H a (.dK (putK kvs k v))) ∨
  ∃ kvs k b, H a = some (.dT kvs) ∧ y = .ref b ∧ H b = some (.tup (k.map kV)) ∧ kvs.length < sizeLine ∧ H' = upd H a (.dT (putK kvs k v))
theorem DGet.k {H : Hp} {a : Addr} {kvs : List (Key × V)} {k : Key} (e : H a = some (.dK kvs)) : DGet H a (kV k) (valV kvs k) := .inl ⟨kvs, k, .inl e, rfl, rfl⟩
theorem DGet.t {H : Hp} {a b : Addr} {kvs : List (List Key × V)} {k : List Key} (e : H a = some (.dT kvs)) (eb : H b = some (.tup (k.map kV))) : DGet H a (.ref b) (valV kvs k) := .inr ⟨kvs, k, b, .inl e, rfl, eb, rfl⟩
theorem DPut.k {H : Hp} {a : Addr} {kvs : List (Key × V)} {k : Key} {v : V} (e : H a = some (.dK kvs)) (hl : kvs.length < sizeLine) : DPut H a (kV k) v (upd H a (.dK (putK kvs k v))) := .inl ⟨kvs, k, e, rfl, hl, rfl⟩
theorem DPut.t {H : Hp} {a b : Addr} {kvs : List (List Key × V)} {k : List Key} {v : V} (e : H a = some (.dT kvs)) (eb : H b = some (.tup (k.map kV))) (hl : kvs.length < sizeLine) :
    DPut H a (.ref b) v (upd H a (.dT (putK kvs k v))) := .inr ⟨kvs, k, b, e, rfl, eb, hl, rfl⟩


section
variable {X : Cx} {pins : List (Addr × Obj)} {σ : St} {H : Hp} {s : Shared} {a : Addr} {y v : V} {u r : Value} {o : Option V} {A : Around} {E : Value → Shared → Prop}

end

section
variable {X : Cx} {pins : List (Addr × Obj)} {σ : St} {H : Hp} {s : Shared} {a : Addr} {kvs : List (Key × V)} {k : Key} {u : Value} {A : Around} {E : Value → Shared → Prop}
end


/-! ### readings and rules -/
/-- the element of a subscription, not a slice -/
def NoSl (i : Expr) : Prop := ∀ ov iv, subscripted i false ov iv = operate [ov, iv] (getItem ov iv)
/-- d[y] -/
def tDGet (td ty : TE) : TE := fun σ H Q => td σ H fun x H1 => ty σ H1 fun y H2 => ∃ a v, x = .ref a ∧ DGet H2 a y (some v) ∧ Q v H2
/-- y in d, y not in d -/
def tDIn (ty td : TE) : TE := fun σ H Q => ty σ H fun y H1 => td σ H1 fun x H2 => ∃ a o, x = .ref a ∧ DGet H2 a y o ∧ Q (.bl o.isSome) H2
def tDNotIn (ty td : TE) : TE := fun σ H Q => ty σ H fun y H1 => td σ H1 fun x H2 => ∃ a o, x = .ref a ∧ DGet H2 a y o ∧ Q (.bl (!o.isSome)) H2
/-- d[y] = v -/
def sDPut (td ty tv : TE) : TS := fun D σ H => tv σ H fun v H1 => td σ H1 fun x H2 => ty σ H2 fun y H3 => ∃ a H4, x = .ref a ∧ DPut H3 a y v H4 ∧ D.nx σ H4
/-- d[y] op= v -/
def sDAug (td ty tv : TE) (rd : V → V → Hp → VK → Prop) : TS := fun D σ H => td σ H fun x H1 => ty σ H1 fun y H2 => ∃ a v, x = .ref a ∧ DGet H2 a y (some v) ∧
  tv σ H2 fun y2 H3 => rd v y2 H3 fun z H4 => ∃ H5, DPut H4 a y z H5 ∧ D.nx σ H5
/-- del d[y] -/
def sDDel (td ty : TE) : TS := fun D σ H => td σ H fun x H1 => ty σ H1 fun y H2 => ∃ a kvs k, x = .ref a ∧ H2 a = some (.dK kvs) ∧ y = kV k ∧ (valV kvs k).isSome = true ∧ D.nx σ (upd H2 a (.dK (dropK kvs k)))

section
variable {X : Cx} {o i e value : Expr} {pos pos' tpos : Pos} {td ty tv : TE}
end


/-! ### displays -/
/-- {}, to be a dict of the kind that is wanted -/
def tDNewK : TE := fun _ H Q => ∀ p, H p = none → Q (.ref p) (upd H p (.dK []))
def tDNewT : TE := fun _ H Q => ∀ p, H p = none → Q (.ref p) (upd H p (.dT []))
section
variable {X : Cx} {pos : Pos}
end

/-- the pairs of a display, from the left -/
def tPairs : List (TE × TE) → St → Hp → (List (V × V) → Hp → Prop) → Prop
  | [], _, H, Q => Q [] H
  | (tk, tv) :: r, σ, H, Q => tk σ H fun x H1 => tv σ H1 fun y H2 => tPairs r σ H2 fun ps H3 => Q ((x, y) :: ps) H3
abbrev VV : List (V × V) → List (Value × Value) → Prop := Paired fun p q => RelV p.1 q.1 ∧ RelV p.2 q.2
def PPs (X : Cx) (pos : Pos) (keys : List (Option Expr)) (values : List Expr) (trs : List (TE × TE)) : Prop :=
  ∀ (pins : List (Addr × Obj)) (s : Shared) (σ : St) (H : Hp) (Q : List (V × V) → Hp → Prop), Inv X pins σ H s → tPairs trs σ H Q →
    wpAny (model X.prog X.w) X.A (evalPairs (pairTrees keys values X.env pos)) (fun vs s' => ∃ ps H', Inv X pins σ H' s' ∧ VV ps vs ∧ Q ps H') X.xe s
def mergeK (kvs more : List (Key × V)) : List (Key × V) := more.foldl (fun acc kv => putK acc kv.1 kv.2) kvs
/-- {k: v, ..} with keys ints and texts; the new dict stands empty while the pairs are made -/
def tDisp (trs : List (TE × TE)) : TE := fun σ H Q => ∀ p, H p = none → tPairs trs σ (upd H p (.dK [])) fun ps H2 => H2 p = some (.dK []) ∧ ∃ kvs : List (Key × V), ps = kvs.map (fun kv => (kV kv.1, kv.2)) ∧ kvs.length ≤ 15 ∧ Q (.ref p) (upd H2 p (.dK (mergeK [] kvs)))
/-! ### methods -/
/-- a method call o.m(e) of a built-in, with one argument: what must be seen of the text -/
structure M1 (X : Cx) (o : Expr) (m : Str) (apos : Pos) (e : Expr) (cpos : Pos) : Prop where
  base : attributeBase o m X.env (eval o X.env) = eval o X.env
  few : ((backTo cpos (starEach [e] X.env)).all (fun x => !x.1) && (backToKw cpos (keywordEach [] X.env)).all (fun x => x.1.isSome)
    && decide (([e] : List Expr).length + ([] : List Keyword).length + (if ([] : List Keyword).isEmpty then 0 else 1) < 30)) = true
  line : (apos.endLine == cpos.line) = true
  trees : backTo cpos (starEach [e] X.env) = [(false, eval e X.env)]
structure M2 (X : Cx) (o : Expr) (m : Str) (apos : Pos) (e f : Expr) (cpos : Pos) : Prop where
  base : attributeBase o m X.env (eval o X.env) = eval o X.env
  few : ((backTo cpos (starEach [e, f] X.env)).all (fun x => !x.1) && (backToKw cpos (keywordEach [] X.env)).all (fun x => x.1.isSome)
    && decide (([e, f] : List Expr).length + ([] : List Keyword).length + (if ([] : List Keyword).isEmpty then 0 else 1) < 30)) = true
  line : (apos.endLine == cpos.line) = true
  trees : backTo cpos (starEach [e, f] X.env) = [(false, eval e X.env), (false, eval f X.env)]

/-- a is a dict, whatever its keys -/
def IsD (H : Hp) (a : Addr) : Prop := (∃ kvs, Rd H a (.dK kvs)) ∨ ∃ kvs, Rd H a (.dT kvs)
section
variable {X : Cx} {pins : List (Addr × Obj)} {σ : St} {H : Hp} {s : Shared} {a : Addr} {y d : V} {u r : Value} {o : Option V} {A : Around} {E : Value → Shared → Prop}
end

def tDGet1 (td ty : TE) : TE := fun σ H Q => td σ H fun x H1 => ∃ a, x = .ref a ∧ IsD H1 a ∧ ty σ H1 fun y H2 => ∃ o, DGet H2 a y o ∧ Q (o.getD .non) H2
def tDGet2 (td ty tx : TE) : TE := fun σ H Q => td σ H fun x H1 => ∃ a, x = .ref a ∧ IsD H1 a ∧ ty σ H1 fun y H2 => tx σ H2 fun z H3 => ∃ o, DGet H3 a y o ∧ Q (o.getD z) H3
/-- d.pop(k): there; d.pop(k, x): there or not -/
def tDPop1 (td ty : TE) : TE := fun σ H Q => td σ H fun x H1 => ∃ a, x = .ref a ∧ IsD H1 a ∧ ty σ H1 fun y H2 => ∃ kvs k v, H2 a = some (.dK kvs) ∧ y = kV k ∧ valV kvs k = some v ∧ Q v (upd H2 a (.dK (dropK kvs k)))
def tDPop2 (td ty tx : TE) : TE := fun σ H Q => td σ H fun x H1 => ∃ a, x = .ref a ∧ IsD H1 a ∧ ty σ H1 fun y H2 => tx σ H2 fun z H3 => ∃ kvs k, H3 a = some (.dK kvs) ∧ y = kV k ∧
  (∀ v, valV kvs k = some v → Q v (upd H3 a (.dK (dropK kvs k)))) ∧ (valV kvs k = none → Q z H3)
section
variable {X : Cx} {o e f : Expr} {apos cpos : Pos} {td ty tx : TE}
end

/-! ### dict(d): a copy -/
section
variable {X : Cx} {pins : List (Addr × Obj)} {σ : St} {H : Hp} {s : Shared} {a : Addr} {kvs : List (Key × V)} {A : Around} {E : Value → Shared → Prop}
end


section
variable {X : Cx} {pins : List (Addr × Obj)} {σ : St} {H : Hp} {s : Shared} {a : Addr} {y : V} {u : Value} {A : Around} {E : Value → Shared → Prop}
end
end L2

namespace Att
open PySem PySem.W PySem.Calls PyProof.Rows

/-! ### the script -/
theorem ints_of_wellAll {P : Params} {h : Heap} : ∀ (ns : List Int) (vs : List Value), WellAll P h vs (ns.map WData.int) → IntsAre vs ns := by
  intro ns
  induction ns with
  | nil =>
    intro vs w
    rw [List.map_nil] at w
    cases w
    exact .nil
  | cons n ns ih =>
    intro vs w
    rw [List.map_cons] at w
    cases w with
    | cons a b =>
      cases a
      exact .cons _ _ (ih _ b)

theorem script_of {l : OpenLaw} {n : Nat} (hn : l.most = some n) {P : Params} {h : Heap} {args : List WData} {vals : List Value}
    (hpre : l.row.toRowW.claim.pre args = true) (hwl : WellAll P h vals args) :
    ∃ a vs ns, vals = [Value.ref a] ∧ args = [WData.list (ns.map WData.int)] ∧ h.get? a = some { cls := .type "list", data := .seq vs.toArray } ∧ IntsAre vs ns ∧ ns.length ≤ n := by
  have hsh : WShape.hasAll [] args [.list .int] = true := (pre_splitW hpre).1
  have hc : l.pre.holds [] { args := args } = true := (pre_splitW hpre).2
  obtain ⟨d, r, rfl, h1, h2⟩ := hasAllW_cons hsh
  obtain rfl := hasAllW_nil h2
  obtain ⟨xs, rfl, h3⟩ := hasW_list h1
  obtain ⟨ns, rfl⟩ := items_int h3
  have hlen : ns.length ≤ n := by
    unfold OpenLaw.pre at hc
    have h4 : (WTm.not (.lt (.lit (.int (n : Int))) (.len (.arg 0)))).holds [] { args := [.list (ns.map .int)] } = true := by
      have h4 := (holds_andW hc).1
      rw [hn] at h4
      exact h4
    have h5 := condW_of h4 (w_not (w_lt w_lit (w_len_list (w_arg rfl))))
    rw [List.length_map] at h5
    refine Nat.le_of_not_lt fun q => ?_
    have q' : (n : Int) < ((ns.length : Nat) : Int) := by omega
    first
      | (rw [decide_eq_true q'] at h5; exact absurd h5 (by decide))
      | (simp at h5; omega)
  cases hwl with
  | cons w1 w2 =>
    cases w2
    cases w1 with
    | list ho hall => exact ⟨_, _, ns, rfl, rfl, ho, ints_of_wellAll ns _ hall, hlen⟩

theorem post_true (l : OpenLaw) (args : List WData) : l.row.toRowW.claim.post args (.bool true) args = true :=
  postW_of (r := l.row.toRowW) (X := (true == true))
    (show WShape.has [] (.bool true) .bool = true by first | rfl | decide | simp [WShape.has, WShape.arms, WShape.armsAll])
    (show (WTm.eq .res (.lit (.bool true))).value [] { args := args, res := some (.bool true), after := args } = some (.bool (true == true)) from w_eq_bool (w_res rfl) w_lit) rfl

/-! ### the attachment: holds_open's last premise (the goal 'hc' behind k_head) from a wpAny of the law's body -/
/-- the same from a codeAny of the CALL (for a layer whose function contracts speak of calls) -/
theorem attach_call {l : OpenLaw} {n : Nat} {q : Program} {loose : List Str} {XP : (Str → Option Value) → Heap → Prop} {YP : World → Heap → Prop} {d : DefRec}
    (hn : l.most = some n) (hdf : d.params.defaults = [])
    (call : ∀ (w : World) (s₀ s₁ : Shared) (mg mb : Str → Option Value) (fa : Addr) (o : Obj) (pm cd doc : Value) (a : Addr) (vs : List Value) (ns : List Int),
      Ground q loose [] XP w s₀ mg mb s₁.heap → YP w s₁.heap →
      s₁.heap.get? fa = some o → o.data = .func (docDef d.name d.params d.body d.scope pm cd doc) → s₁.heap.CodeRec cd d.name → mg d.name = some (.ref fa) →
      s₁.heap.get? a = some { cls := .type "list", data := .seq vs.toArray } → IntsAre vs ns → ns.length ≤ n → s₁.gens = #[] →
      codeAny (model l.prog w) callerA (.call (.ref fa) ⟨[.ref a], []⟩) (fun r s' => r = .ok (.ret (.bool true)) ∧ OldK s₁.heap s'.heap ∧ s'.os = s₁.os ∧ AllBare s'.gens) s₁) :
    WalkO q loose XP YP l.row.toRowW d [] (fun f vs => PySem.call f vs) := by
  intro w s₀ s₁ mg mb G Y fa o pm cd doc dV kV ho hd hcd hD hmg hg args vals as hpre hlay hrd hwl hlo
  obtain rfl : dV = .none := Dflts.none hD hdf
  obtain rfl : kV = .none := Dflts.noKw hD
  obtain ⟨a, vs, ns, rfl, rfl, hobj, hints, hlen⟩ := script_of hn hpre hwl
  refine enter_call (codeAny_mono (call w s₀ s₁ mg mb fa o pm cd doc a vs ns G Y ho (fd_plain hd) hcd hmg hobj hints hlen hg) fun r s' hq => ?_)
  obtain ⟨rfl, h2, h3, h4⟩ := hq
  exact ⟨.inl ⟨.bool true, .bool true, [], rfl, fun _ => rfl, .bool true, post_true l _, fun _ => ⟨List.Pairwise.nil, fun _ hm => (nomatch hm)⟩⟩, h2, h3, h4⟩

/-! ### rules over ANY heap (no ledger) from facts about the written part K: the library's own take a ledger (News) for what they write -/
section
variable {prog : Program} {w : World} {A : Around} {E : Value → Shared → Prop} {s : Shared} {K : Frag}

/-! the whole heap as the ledger: makes every rule that writes through a ledger a rule over any heap -/
def noObjs (h : Heap) : Heap := { h with objs := #[] }
def ledger (h : Heap) (L d : Addr) : List (Addr × Obj) := (List.range h.objs.size).filterMap fun a => if a = L ∨ a = d then none else (h.get? a).map fun o => (a, o)
end
end Att

namespace L2
open PySem PySem.Spec PyProof.Rows

theorem vals_ints : ∀ {vs : List Value} {ns : List Int}, IntsAre vs ns → Vals (ns.map V.int) vs
  | _, _, .nil => .nil
  | _, _, .cons n t h => .cons ⟨t, rfl⟩ (vals_ints h)

/-- nothing is tracked but the script, known to the object (or it is an object of the module) -/
def Only (H : Hp) : Prop := ∀ b, H b = none ∨ ∃ o xs, H b = some (.frz o (.lst xs))

/-- THE HEAD: the law's promise, at the heap behind the top. F, the promise of the law's def, may use that base is part of the heap (so K.In base, base.Ns mainGlobals mg stand in Mod) -/
theorem law_call {P : Program} {w : World} {K : PySem.W.Frag} {mg mb : Str → Option Value} {CX : CXT} {k : Nat} {fa a : Addr} {fd : FuncData} {x : Str} {sp : Sp} {s₁ : Shared} {vs : List Value} {ns : List Int}
    (KX : K.In s₁.heap) (hns : s₁.heap.Ns mainGlobals mg) (hb : s₁.heap.Ns builtinsNs mb) (hbb : ∀ x : Str, x ≠ "__name__" → mb x = bootBuiltins x) (hlim : s₁.heap.NoLimit) (hg : s₁.gens = #[])
    (ha : s₁.heap.get? a = some { cls := .type "list", data := .seq vs.toArray }) (hi : IntsAre vs ns) (hl : ns.length ≤ sizeLine) (hr : Room k callerA)
    (F : ∀ base : Heap, K.In base → base.Ns mainGlobals mg → FnOk P w K mg base CX k fa fd [x] sp) (hbind : ∀ (s : Shared) (u : Value), BindsTo s fd ⟨[u], []⟩ [(x, u)])
    (hsp : ∀ H : Hp, Only H → SqL K H a (ns.map V.int) → sp [.ref a] H (fun v _ => v = .bl true) fun _ _ _ => False)
    (hCX : ∀ H e s', CX [] H s₁ (fun _ _ _ => False) e s' → False) :
    codeAny (model P w) callerA (.call (.ref fa) ⟨[.ref a], []⟩) (fun r s' => r = .ok (.ret (.bool true)) ∧ OldK s₁.heap s'.heap ∧ s'.os = s₁.os ∧ AllBare s'.gens) s₁ := by
  have rv := vals_ints hi
  have lenV := hi.length
  -- from an abstract heap in which nothing but the script may be tracked
  have core : ∀ H : Hp, Only H → SqL K H a (ns.map V.int) → HOk P w H s₁.heap → (∀ b, H b ≠ none → b = a) → (H a ≠ none → K.lookup a = none) →
      codeAny (model P w) callerA (.call (.ref fa) ⟨[.ref a], []⟩) (fun r s' => r = .ok (.ret (.bool true)) ∧ OldK s₁.heap s'.heap ∧ s'.os = s₁.os ∧ AllBare s'.gens) s₁ := by
    intro H hO hS hok hA hK
    have base_of : ∀ {b : Addr} {o : Obj}, s₁.heap.get? b = some o → H b = none → (hidT s₁.heap H).get? b = some o := fun e n => hidT_get e n
    have noA : ∀ {b : Addr} {o : Obj} {es : Array DictEntry} {ep : Nat}, s₁.heap.get? b = some o → o.data = .dict es ep → H b = none := fun {b o es ep} e d => by
      cases q : H b with
      | none => rfl
      | some u =>
        have e' : b = a := hA b (by rw [q]; simp)
        subst e'
        rw [ha] at e; cases e
        have d' : Data.seq vs.toArray _ = Data.dict es ep := d
        cases d'
    have nsK : ∀ {b : Addr} {m : Str → Option Value}, s₁.heap.Ns b m → (hidT s₁.heap H).Ns b m := fun {b m} ⟨o, es, ep, e, d, r⟩ => ⟨o, es, ep, base_of e (noA e d), d, r⟩
    have hKb : K.In (hidT s₁.heap H) := fun b o e => base_of (KX b o e) (by
      cases q : H b with
      | none => rfl
      | some u =>
        have e' : b = a := hA b (by rw [q]; simp)
        subst e'
        rw [hK (by rw [q]; simp)] at e; cases e)
    have hM : Mod K mg (hidT s₁.heap H) := ⟨hKb, nsK hns, ⟨mb, nsK hb, hbb⟩, let ⟨mc, h1, h2⟩ := hlim; ⟨mc, nsK h1, h2⟩⟩
    have e0 : Env0 P w K mg (hidT s₁.heap H) callerA [] s₁ H := ⟨rfl, hM, fun b o e => of_hidT e, Nat.le_of_eq (hidT_size _ _), trivial, fun b hb => absurd (show b ∈ ([] : List Addr) from hb) (by simp), hok, .of_eq hg⟩
    refine codeAny_mono ((F _ hKb (nsK hns)).run callerA [] s₁ H ⟨[.ref a], []⟩ [.ref a] [.ref a] _ _ hr e0 (hbind s₁ (.ref a)) (.cons rfl .nil) (hsp H hO hS)) fun r s' h => ?_
    cases r with
    | error e => exact (hCX H e s' h).elim
    | ok fl =>
      cases fl with
      | next => exact False.elim h
      | brk => exact False.elim h
      | cont => exact False.elim h
      | ret u =>
        obtain ⟨v, H', os, bare, un, hok', r', q⟩ := h
        have q' : v = .bl true := q
        subst q'
        obtain rfl : u = Value.bool true := r'
        refine ⟨rfl, OldK.of_keep fun b o e => ?_, os, bare⟩
        cases q : H b with
        | none => exact un.keep b o e q (by intro z; exact absurd (show b ∈ ([] : List Addr) from z) (by simp)) (by simp)
        | some u =>
          rcases hO b with z | ⟨ob, xs, z⟩
          · rw [q] at z; cases z
          · have z2 := un.frzs b ob _ z
            obtain ⟨e1, _⟩ := hok b _ z
            obtain ⟨e2, _⟩ := hok' b _ z2
            rw [e] at e1; cases e1
            exact e2
  cases hk : K.lookup a with
  | some o =>
    -- the script is one of the module's own objects
    have e := KX a o hk
    rw [ha] at e
    cases e
    refine core (fun _ => none) (fun _ => .inl rfl) (.inr ⟨_, vs.toArray, _, hk, rfl, rfl, rfl, by rw [List.size_toArray, lenV]; exact hl, by simpa using rv⟩) (fun b u z => by have z' : (none : Option HO) = some u := z; cases z') (fun b z => absurd rfl z) fun z => absurd rfl z
  | none =>
    refine core (fun b => if b = a then some (.frz { cls := .type "list", data := .seq vs.toArray } (.lst (ns.map V.int))) else none) (fun b => ?_) (.inl (.inr ⟨{ cls := .type "list", data := .seq vs.toArray }, if_pos rfl⟩)) (fun b u z => ?_) (fun b z => ?_) fun _ => hk
    · by_cases hb : b = a
      · exact .inr ⟨_, _, if_pos hb⟩
      · exact .inl (if_neg hb)
    · by_cases hb : b = a
      · have z' := (if_pos hb).symm.trans z
        cases z'
        subst hb
        exact ⟨ha, by rw [List.length_map]; exact hl, vs, _, rv, ha⟩
      · have z' := (if_neg hb).symm.trans z
        cases z'
    · by_cases hb : b = a
      · exact hb
      · exact absurd (if_neg hb) z
end L2

namespace L2
open PySem PySem.Spec PyProof.Rows

abbrev KOf {K : PySem.W.Frag} {h : Heap} (_ : K.In h) : PySem.W.Frag := K

/-- the goal that k_head leaves (case hc), from the law's promise. F gives the function object fd (K's own) once, then the promise over every base -/
theorem walk_of {l : PySem.W.OpenLaw} {n k : Nat} {q : Program} {loose : List Str} {XP : (Str → Option Value) → Heap → Prop} {YP : World → Heap → Prop} {d : DefRec} {K : Params → PySem.W.Frag} {CX : World → CXT} {sp : World → Sp} {x : Str}
    (hn : l.most = some n) (hn2 : n ≤ sizeLine) (hdf : d.params.defaults = []) (hr : Room k callerA)
    (hY : ∀ (w : World) (h : Heap), YP w h → (K w.params).In h)
    (F : ∀ (w : World) (mg : Str → Option Value) (fa : Addr) (h : Heap), (K w.params).In h → h.Ns mainGlobals mg → mg d.name = some (.ref fa) →
      ∃ fd : FuncData, (∀ (s : Shared) (u : Value), BindsTo s fd ⟨[u], []⟩ [(x, u)]) ∧
        ∀ base : Heap, (K w.params).In base → base.Ns mainGlobals mg → FnOk l.prog w (K w.params) mg base (CX w) k fa fd [x] (sp w))
    (hsp : ∀ (w : World) (H : Hp) (a : Addr) (ns : List Int), ns.length ≤ n → Only H → SqL (K w.params) H a (ns.map V.int) → sp w [.ref a] H (fun v _ => v = .bl true) fun _ _ _ => False)
    (hCX : ∀ (w : World) (H : Hp) (s : Shared) (e : Value) (s' : Shared), CX w [] H s (fun _ _ _ => False) e s' → False) :
    PySem.W.WalkO q loose XP YP l.row.toRowW d [] (fun f vs => PySem.call f vs) := by
  refine Att.attach_call hn hdf fun w s₀ s₁ mg mb fa o pm cd doc a vs ns G Y ho hd hcd hmg hobj hints hlen hg => ?_
  have KX := hY w _ Y
  obtain ⟨fd, hb, hF⟩ := F w mg fa _ KX G.T.g hmg
  exact law_call KX G.T.g G.T.b G.T.builtins G.T.nolimit hg hobj hints (Nat.le_trans hlen hn2) hr hF hb (fun H hO hS => hsp w H a ns hlen hO hS) fun H e s' => hCX w H s₁ e s'
end L2



/-! SHORT WORDS over the layer: a def of the text, its body, what a loop and a test want. -/
namespace L2
open PySem PySem.Spec PyProof.Rows

/-! ### the text by places -/
/-- the j-th statement of a class's body -/
def inClass (s : Stmt) (j : Nat) : Stmt := match s with
  | .ClassDef _ _ _ body _ _ _ _ _ _ _ => body.getD j (.Pass ⟨0, 0, 0, 0⟩)
  | _ => .Pass ⟨0, 0, 0, 0⟩
def defArgs (s : Stmt) : Arguments := match s with
  | .FunctionDef _ a _ _ _ _ _ _ _ _ => a
  | _ => { posonlyargs := [], args := [], vararg := none, kwonlyargs := [], kw_defaults := [], kwarg := none, defaults := [] }
def defBody (s : Stmt) : List Stmt := match s with
  | .FunctionDef _ _ b _ _ _ _ _ _ _ => b
  | _ => []
def defScope (s : Stmt) : Scope := match s with
  | .FunctionDef _ _ _ _ _ _ sc _ _ _ => sc
  | _ => { kind := .function, names := [], isGenerator := false, isCoroutine := false }

/-! ### no exception leaves a def -/
abbrev CX0 : CXT := fun _ _ _ _ _ _ => False
abbrev E0 : XK := fun _ _ _ => False
theorem pass0 {X : Cx} : Passes CX0 X E0 := fun _ _ _ _ _ _ _ h => h.elim

/-! ### a def (or method) of the text as it stands behind the top -/
structure Fun (K : PySem.W.Frag) (x qual : Str) (st : Stmt) (f : Addr) (fd : FuncData) : Prop where
  ex : ∃ (oc : Value) (od : Option Addr) (kV doc pm : Value) (an : Option Addr) (cdv ct : Value) (osl : Array (Option Value)),
    fd = PySem.W.fnOf x qual (defArgs st) (defBody st) (defScope st) .none kV doc pm an cdv ct ∧ K.lookup f = some ⟨oc, od, .func fd, osl⟩ ∧ PySem.W.codeIn K cdv qual = true
  kp : PySem.W.keepIn K (.ref f) = true
section
variable {P : Program} {w : World} {K : PySem.W.Frag} {mg : Str → Option Value} {base : Heap}
/-- THE RULE for a def: its body as a term of rules, and the reading of that term -/
theorem Fun.ok {x qual : Str} {st : Stmt} {f : Addr} {fd : FuncData} {N ps : List Str} {k : Nat} {sp : Sp} (F : Fun K x qual st f fd) (S : FnScope N ps (defScope st)) (len : ∀ vs H Q E, sp vs H Q E → vs.length = ps.length)
    (hbody : ∀ (cdv : Value) (A : Around) (outer : List Env) (s : Shared) (H : Hp) (vs : List V) (Q : VK) (E : XK), Room k (A.deeper (envOfC qual (defScope st) s.heap.objs.size f cdv)) → sp vs H Q E →
      ∃ t, PSs (cxOf CX0 P w K mg base N qual (defScope st) f cdv A outer s H E).nox (defBody st) t ∧ t { nx := fun _ H' => Q .non H', rt := Q } (start N vs) H) : FnOk P w K mg base CX0 (k + 1) f fd ps sp := by
  obtain ⟨oc, od, kV, doc, pm, an, cdv, ct, osl, rfl, lk, hcd⟩ := F.ex
  refine fn_of lk hcd S len fun A outer s H vs Q E hr hsp => ?_
  obtain ⟨t, h, q⟩ := hbody cdv A outer s H vs Q E hr hsp
  exact ⟨t, h.nox, q⟩
/-- how its arguments bind (no defaults): h is «fun _ _ _ _ _ _ us hl => match us, hl with | [_, _], _ => rfl», one _ a parameter -/
theorem Fun.binds {x qual : Str} {st : Stmt} {f : Addr} {fd : FuncData} {ps : List Str} (F : Fun K x qual st f fd)
    (h : ∀ (kV doc pm : Value) (an : Option Addr) (cdv ct : Value) (us : List Value), us.length = ps.length → bindArgs (PySem.W.fnOf x qual (defArgs st) (defBody st) (defScope st) .none kV doc pm an cdv ct) ⟨us, []⟩ = pure (ps.zip us)) : Binds K fd ps [] := by
  obtain ⟨oc, od, kV, doc, pm, an, cdv, ct, osl, rfl, lk, hcd⟩ := F.ex
  exact .all (h kV doc pm an cdv ct)
theorem fun_mk {x qual : Str} {st : Stmt} {f : Addr} {oc : Value} {od an : Option Addr} {osl : Array (Option Value)} {kV doc pm cdv ct : Value} (l : K.lookup f = some ⟨oc, od, .func (PySem.W.fnOf x qual (defArgs st) (defBody st) (defScope st) .none kV doc pm an cdv ct), osl⟩)
    (c : PySem.W.codeIn K cdv qual = true) (k : PySem.W.keepIn K (.ref f) = true) : Fun K x qual st f (PySem.W.fnOf x qual (defArgs st) (defBody st) (defScope st) .none kV doc pm an cdv ct) := ⟨⟨oc, od, kV, doc, pm, an, cdv, ct, osl, rfl, l, c⟩, k⟩
end
/-! ### expressions in short: the name that stands in the i-th slot -/
section
variable {X : Cx}
theorem pv (i : Nat) {x : Str} {pos : Pos} (hN : X.N[i]? = some x := by rfl) (hv : Vis X.env.scope x := by first | exact Or.inl rfl | exact Or.inr (Or.inl rfl) | exact Or.inr (Or.inr rfl)) (hd : (x == ("__debug__" : Str)) = false := by decide)
    (hcd : (x == ("__classdict__" : Str)) = false := by decide) : PE X (.Name x pos) (tVar i) := pe_var hN hv hd hcd
end

/-! ### tests -/
theorem iteF {A B : Prop} (h : B) : if false = true then A else B := by
  rw [if_neg Bool.false_ne_true]
  exact h
theorem iteT {A B : Prop} (h : A) : if true = true then A else B := by
  rw [if_pos rfl]
  exact h
theorem iteNS {c A B : Prop} [Decidable c] (hc : c) (h : B) : if (!decide c) = true then A else B := by
  rw [decide_eq_true hc]
  exact iteF h

/-! ### heaps -/
/-- all that was tracked is as it was -/
def Same (H H' : Hp) : Prop := ∀ b o, H b = some o → H' b = some o
theorem Same.refl (H : Hp) : Same H H := fun _ _ h => h
theorem Same.trans {H H1 H2 : Hp} (a : Same H H1) (b : Same H1 H2) : Same H H2 := fun c o h => b c o (a c o h)
theorem Same.free {H H' : Hp} (e : Same H H') {l : Addr} (h : H' l = Option.none) : H l = Option.none := by
  cases q : H l with
  | none => rfl
  | some o =>
    rw [e l o q] at h
    cases h
theorem Same.seq {K : PySem.W.Frag} {H H' : Hp} {a : Addr} {xs : List V} (e : Same H H') (h : SqL K H a xs) : SqL K H' a xs := by
  rcases h with (h | ⟨o, h⟩) | h
  · exact .inl (.inl (e _ _ h))
  · exact .inl (.inr ⟨o, e _ _ h⟩)
  · exact .inr h

section
variable {X : Cx}
end
/-! ### a dict's pairs: keys that differ -/
section
variable {κ : Type} [DecidableEq κ]
end
end L2


section
namespace RF
/-! ### long division, the rests -/
def rst (b q r : Int) : Nat → Int
  | 0 => r
  | n + 1 => rst b q r n * b % q
def fig (b q r : Int) (i : Nat) : Int := rst b q r i * b / q
theorem rst_bd {b q r : Int} (hq : 0 < q) (h0 : 0 ≤ r) (h1 : r < q) : ∀ i, 0 ≤ rst b q r i ∧ rst b q r i < q
  | 0 => ⟨h0, h1⟩
  | i + 1 => ⟨Int.emod_nonneg _ (by omega), Int.emod_lt_of_pos _ hq⟩
theorem rst_step {b q r : Int} (i : Nat) : rst b q r i * b = fig b q r i * q + rst b q r (i + 1) := by
  unfold fig
  show _ = _ + rst b q r i * b % q
  have := Int.mul_ediv_add_emod (rst b q r i * b) q
  rw [Int.mul_comm] at this
  omega
theorem fig_bd {b q r : Int} (hb : 0 < b) (hq : 0 < q) (h0 : 0 ≤ r) (h1 : r < q) (i : Nat) : 0 ≤ fig b q r i ∧ fig b q r i < b := by
  have ⟨a, c⟩ := rst_bd (b := b) hq h0 h1 i
  unfold fig
  constructor
  · exact Int.ediv_nonneg (Int.mul_nonneg a (by omega)) (by omega)
  · apply Int.ediv_lt_of_lt_mul hq
    rw [Int.mul_comm]
    exact Int.mul_lt_mul_of_pos_left c hb
/-- from equal rests on all is equal -/
theorem rst_shift {b q r : Int} {i j : Nat} (e : rst b q r i = rst b q r j) : ∀ t, rst b q r (i + t) = rst b q r (j + t)
  | 0 => e
  | t + 1 => by
    show rst b q r (i + t) * b % q = rst b q r (j + t) * b % q
    rw [rst_shift e t]
theorem php : ∀ (m n : Nat) (f : Nat → Nat), (∀ i, i < n → f i < m) → (∀ i j, i < j → j < n → f i ≠ f j) → n ≤ m
  | 0, n, f, h, _ => by
    cases n with
    | zero => exact Nat.le_refl _
    | succ n => exact absurd (h 0 (by omega)) (by omega)
  | m + 1, 0, _, _, _ => Nat.zero_le _
  | m + 1, n + 1, f, h, d => by
    have hn := h n (by omega)
    by_cases e : f n = m
    · have := php m n f (fun i hi => by
        have h1 := h i (by omega)
        have h2 := d i n hi (by omega)
        omega) (fun i j a c => d i j a (by omega))
      omega
    · have := php m n (fun i => if f i = m then f n else f i) (fun i hi => by
        have h1 := h i (by omega)
        split <;> omega) (fun i j a c => by
          have h1 := d i j a (by omega)
          have h2 := d i n (by omega) (by omega)
          have h3 := d j n (by omega) (by omega)
          split <;> split <;> omega)
      omega
/-- all rests below n are fresh and no nought -/
structure Fresh (b q r : Int) (n : Nat) : Prop where
  nz : ∀ i, i < n → rst b q r i ≠ 0
  ne : ∀ i j, i < j → j < n → rst b q r i ≠ rst b q r j
theorem Fresh.zero {b q r : Int} : Fresh b q r 0 := ⟨fun _ h => absurd h (by omega), fun _ _ _ h => absurd h (by omega)⟩
theorem Fresh.succ {b q r : Int} {n : Nat} (F : Fresh b q r n) (h0 : rst b q r n ≠ 0) (h : ∀ i, i < n → rst b q r i ≠ rst b q r n) : Fresh b q r (n + 1) :=
  ⟨fun i hi => by
    by_cases e : i = n
    · rw [e]; exact h0
    · exact F.nz i (by omega),
   fun i j a c => by
    by_cases e : j = n
    · rw [e] at a ⊢; exact h i a
    · exact F.ne i j a (by omega)⟩
theorem Fresh.lt {b q r : Int} {n : Nat} (hq : 0 < q) (h0 : 0 ≤ r) (h1 : r < q) (F : Fresh b q r n) : n < q.toNat := by
  have := php (q.toNat - 1) n (fun i => (rst b q r i).toNat - 1) (fun i hi => by
      have a := rst_bd (b := b) hq h0 h1 i
      have c := F.nz i hi
      omega) (fun i j a c => by
      have x := rst_bd (b := b) hq h0 h1 i
      have y := rst_bd (b := b) hq h0 h1 j
      have z := F.ne i j a c
      have u := F.nz i (by omega)
      have v := F.nz j (by omega)
      omega)
  omega
def figs (b q r : Int) (k n : Nat) : List Int := (List.range n).map fun i => fig b q r (k + i)
theorem figs_length {b q r : Int} {k n : Nat} : (figs b q r k n).length = n := by simp [figs]
theorem figs_succ {b q r : Int} {k n : Nat} : figs b q r k (n + 1) = figs b q r k n ++ [fig b q r (k + n)] := by
  simp [figs, List.range_succ]
/-- what long division tells -/
def DivIs (b t q w : Int) (a g : List Int) : Prop :=
  w = t / q ∧ ∃ n, Fresh b q (t % q) n ∧
    ((rst b q (t % q) n = 0 ∧ a = figs b q (t % q) 0 n ∧ g = []) ∨
     ∃ k, k < n ∧ rst b q (t % q) n ≠ 0 ∧ rst b q (t % q) k = rst b q (t % q) n ∧ a = figs b q (t % q) 0 k ∧ g = figs b q (t % q) k (n - k))
/-- taken c times above and below -/
theorem rst_scale {b q r c : Int} (hc : 0 < c) : ∀ i, rst b (c * q) (c * r) i = c * rst b q r i
  | 0 => rfl
  | i + 1 => by
    show rst b (c * q) (c * r) i * b % (c * q) = c * (rst b q r i * b % q)
    rw [rst_scale hc i, Int.mul_assoc, Int.mul_emod_mul_of_pos _ _ hc]
theorem fig_scale {b q r c : Int} (hc : 0 < c) (i : Nat) : fig b (c * q) (c * r) i = fig b q r i := by
  unfold fig
  rw [rst_scale hc i, Int.mul_assoc, Int.mul_ediv_mul_of_pos _ _ hc]
theorem figs_scale {b q r c : Int} (hc : 0 < c) (k n : Nat) : figs b (c * q) (c * r) k n = figs b q r k n := by
  unfold figs
  apply List.map_congr_left
  intro i _
  exact fig_scale hc _
theorem DivIs.scale {b t q w c : Int} {a g : List Int} (hc : 0 < c) (x : DivIs b t q w a g) : DivIs b (c * t) (c * q) w a g := by
  obtain ⟨hw, n, F, h⟩ := x
  refine ⟨by rw [Int.mul_ediv_mul_of_pos _ _ hc]; exact hw, n, ?_, ?_⟩
  · rw [Int.mul_emod_mul_of_pos _ _ hc]
    refine ⟨fun i hi z => ?_, fun i j a d z => ?_⟩
    · rw [rst_scale hc] at z
      rcases Int.mul_eq_zero.mp z with z | z
      · omega
      · exact F.nz i hi z
    · rw [rst_scale hc, rst_scale hc] at z
      exact F.ne i j a d (Int.eq_of_mul_eq_mul_left (by omega) z)
  · rw [Int.mul_emod_mul_of_pos _ _ hc]
    simp only [rst_scale hc, figs_scale hc]
    rcases h with ⟨h0, ha, hg⟩ | ⟨k, h1, h2, h3, ha, hg⟩
    · exact .inl ⟨by rw [h0]; omega, ha, hg⟩
    · exact .inr ⟨k, h1, fun z => by rcases Int.mul_eq_zero.mp z with z | z; · omega
                                     · exact h2 z, by rw [h3], ha, hg⟩
end RF

end
section
namespace RF
/-! ### numbers of figures -/
def num (b : Int) (l : List Int) : Int := l.foldl (fun n d => n * b + d) 0
theorem num_foldl (b : Int) : ∀ (l : List Int) (n : Int), l.foldl (fun n d => n * b + d) n = n * b ^ l.length + num b l
  | [], n => by simp [num]
  | d :: l, n => by
    have h1 := num_foldl b l (n * b + d)
    have h2 := num_foldl b l (0 * b + d)
    simp only [num, List.foldl_cons, List.length_cons, Int.pow_succ] at *
    rw [h1, h2]
    grind
theorem num_nil (b : Int) : num b [] = 0 := rfl
theorem num_cons (b d : Int) (l : List Int) : num b (d :: l) = d * b ^ l.length + num b l := by
  show l.foldl (fun n d => n * b + d) (0 * b + d) = _
  rw [num_foldl]; simp
theorem num_append (b : Int) (l m : List Int) : num b (l ++ m) = num b l * b ^ m.length + num b m := by
  unfold num
  rw [List.foldl_append, num_foldl]; rfl
theorem num_snoc (b d : Int) (l : List Int) : num b (l ++ [d]) = num b l * b + d := by
  rw [num_append, num_cons]
  simp only [num_nil, List.length_cons, List.length_nil]
  grind
abbrev Figs (b : Int) (l : List Int) : Prop := ∀ d, d ∈ l → 0 ≤ d ∧ d < b
theorem pow_pos {b : Int} (hb : 0 < b) : ∀ n : Nat, 0 < b ^ n
  | 0 => by simp
  | n + 1 => by rw [Int.pow_succ]; exact Int.mul_pos (pow_pos hb n) hb
theorem num_bd {b : Int} (hb : 0 < b) : ∀ {l : List Int}, Figs b l → 0 ≤ num b l ∧ num b l < b ^ l.length
  | [], _ => by simp [num]
  | d :: l, h => by
    have ⟨h1, h2⟩ := num_bd hb (l := l) fun x hx => h x (List.mem_cons_of_mem _ hx)
    have ⟨h3, h4⟩ := h d List.mem_cons_self
    have hp := pow_pos hb l.length
    rw [num_cons, List.length_cons, Int.pow_succ]
    constructor
    · have := Int.mul_nonneg h3 (Int.le_of_lt hp); omega
    · have h5 : (d + 1) * b ^ l.length ≤ b * b ^ l.length := Int.mul_le_mul_of_nonneg_right (by omega) (Int.le_of_lt hp)
      grind
/-! ### rotations -/
def rot1 : List Int → List Int
  | [] => []
  | x :: l => l ++ [x]
def rot : Nat → List Int → List Int
  | 0, l => l
  | n + 1, l => rot1 (rot n l)
theorem rot1_length (l : List Int) : (rot1 l).length = l.length := by cases l <;> simp [rot1]
theorem rot_length : ∀ (n : Nat) (l : List Int), (rot n l).length = l.length
  | 0, _ => rfl
  | n + 1, l => by show (rot1 (rot n l)).length = _; rw [rot1_length, rot_length n l]
theorem rot_add : ∀ (n m : Nat) (l : List Int), rot (n + m) l = rot m (rot n l)
  | _, 0, _ => rfl
  | n, m + 1, l => by
    show rot1 (rot (n + m) l) = rot1 (rot m (rot n l))
    rw [rot_add n m l]
theorem rot_eq : ∀ (n : Nat) (l : List Int), n ≤ l.length → rot n l = l.drop n ++ l.take n
  | 0, l, _ => by simp [rot]
  | n + 1, l, h => by
    show rot1 (rot n l) = _
    rw [rot_eq n l (by omega)]
    have hn : n < l.length := by omega
    rw [List.drop_eq_getElem_cons hn]
    show (l.drop (n + 1) ++ l.take n) ++ [l[n]] = _
    rw [List.take_succ_eq_append_getElem hn, List.append_assoc]
theorem rot_len (l : List Int) : rot l.length l = l := by
  rw [rot_eq _ _ (Nat.le_refl _)]; simp
theorem rot1_inj {l m : List Int} (h : rot1 l = rot1 m) : l = m := by
  cases l with
  | nil => cases m with
    | nil => rfl
    | cons a m => simp [rot1] at h
  | cons a l => cases m with
    | nil => simp [rot1] at h
    | cons c m =>
      have h : l ++ [a] = m ++ [c] := h
      have := List.append_inj' h rfl
      simp at this
      rw [this.1, this.2]
theorem rot_inj : ∀ (n : Nat) {l m : List Int}, rot n l = rot n m → l = m
  | 0, _, _, h => h
  | n + 1, _, _, h => rot_inj n (rot1_inj h)
/-- no shorter ring told twice or oftener -/
def Prim (g : List Int) : Prop := ∀ d, 0 < d → d < g.length → rot d g ≠ g
theorem Prim.rot {g : List Int} (p : Prim g) (n : Nat) : Prim (rot n g) := fun d h1 h2 e => by
  rw [rot_length] at h2
  rw [← rot_add, Nat.add_comm, rot_add] at e
  exact p d h1 h2 (rot_inj n e)
theorem Prim.ne {g : List Int} (p : Prim g) {i j : Nat} (h1 : i < j) (h2 : j < g.length) : RF.rot i g ≠ RF.rot j g := fun e => by
  have : RF.rot (j - i) g = g := by
    apply rot_inj i
    rw [← rot_add, show j - i + i = j by omega]
    exact e.symm
  exact p (j - i) (by omega) (by omega) this
/-- the words of the document, for figures ahead and a ring -/
def Plain (b : Int) (a g : List Int) : Prop :=
  (g = [] ∧ a.getLast? ≠ some 0) ∨
  (g ≠ [] ∧ (¬ ∀ d, d ∈ g → d = 0) ∧ (¬ ∀ d, d ∈ g → d = b - 1) ∧ Prim g ∧ a.getLast? ≠ g.getLast?)
/-- top and bottom of a writing's worth -/
def rM (b : Int) (g : List Int) : Int := if g = [] then 1 else b ^ g.length - 1
def wB (b : Int) (a g : List Int) : Int := b ^ a.length * rM b g
def wT (b w : Int) (a g : List Int) : Int := w * wB b a g + (num b a * rM b g + num b g)
theorem rM_nil (b : Int) : rM b [] = 1 := rfl
theorem rM_ne (b : Int) {g : List Int} (h : g ≠ []) : rM b g = b ^ g.length - 1 := by simp [rM, h]
theorem rM_pos {b : Int} (hb : 2 ≤ b) (g : List Int) : 0 < rM b g := by
  cases g with
  | nil => simp [rM]
  | cons x l =>
    rw [rM_ne b (by simp), List.length_cons, Int.pow_succ]
    have h1 := pow_pos (b := b) (by omega) l.length
    have h2 : b ^ l.length * 2 ≤ b ^ l.length * b := Int.mul_le_mul_of_nonneg_left hb (Int.le_of_lt h1)
    omega
theorem wB_pos {b : Int} (hb : 2 ≤ b) (a g : List Int) : 0 < wB b a g := Int.mul_pos (pow_pos (by omega) _) (rM_pos hb g)
end RF

end
section
namespace RF
/-! ### a plain writing is what long division tells of its worth -/
end RF

end
section
namespace RF
/-! ### what long division tells is plain and is worth the fraction -/
theorem DivIs.unscale {b t q w c : Int} {a g : List Int} (hc : 0 < c) (x : DivIs b (c * t) (c * q) w a g) : DivIs b t q w a g := by
  obtain ⟨hw, n, F, h⟩ := x
  rw [Int.mul_emod_mul_of_pos _ _ hc] at F h
  simp only [rst_scale hc, figs_scale hc] at h
  refine ⟨by rw [Int.mul_ediv_mul_of_pos _ _ hc] at hw; exact hw, n, ⟨fun i hi z => F.nz i hi ?_, fun i j a d z => F.ne i j a d ?_⟩, ?_⟩
  · rw [rst_scale hc, z]; omega
  · rw [rst_scale hc, rst_scale hc, z]
  · rcases h with ⟨h0, ha, hg⟩ | ⟨k, h1, h2, h3, ha, hg⟩
    · refine .inl ⟨?_, ha, hg⟩
      rcases Int.mul_eq_zero.mp h0 with z | z
      · omega
      · exact z
    · exact .inr ⟨k, h1, fun z => h2 (by rw [z]; omega), Int.eq_of_mul_eq_mul_left (by omega) h3, ha, hg⟩
/-- two fractions of one worth have one writing -/
theorem DivIs.cross {b t q T B w : Int} {a g : List Int} (hq : 0 < q) (hB : 0 < B) (e : T * q = t * B) (x : DivIs b T B w a g) : DivIs b t q w a g := by
  have y := x.scale hq
  rw [Int.mul_comm q T, e, Int.mul_comm t B, Int.mul_comm q B] at y
  exact y.unscale hB
theorem rst_pow {b q r : Int} (i : Nat) : ∀ n, rst b q r i * b ^ n = num b (figs b q r i n) * q + rst b q r (i + n)
  | 0 => by simp [figs, num]
  | n + 1 => by
    have h := rst_pow (b := b) (q := q) (r := r) i n
    have s := rst_step (b := b) (q := q) (r := r) (i + n)
    rw [figs_succ, num_snoc, Int.pow_succ, ← Int.mul_assoc, h]
    show _ = _ + rst b q r (i + n + 1)
    grind
theorem figs_mem {b q r : Int} (hb : 0 < b) (hq : 0 < q) (h0 : 0 ≤ r) (h1 : r < q) (k n : Nat) : Figs b (figs b q r k n) := fun d hd => by
  obtain ⟨i, _, rfl⟩ := List.mem_map.mp hd
  exact fig_bd hb hq h0 h1 _
theorem figs_cons {b q r : Int} {k n : Nat} : figs b q r k (n + 1) = fig b q r k :: figs b q r (k + 1) n := by
  unfold figs
  rw [List.range_succ_eq_map, List.map_cons, List.map_map]
  congr 1
  apply List.map_congr_left
  intro i _
  show fig b q r (k + (i + 1)) = fig b q r (k + 1 + i)
  rw [show k + (i + 1) = k + 1 + i by omega]
theorem rot_figs_eq {b q r : Int} {k m : Nat} (e : rst b q r k = rst b q r (k + m)) (hm : 0 < m) : ∀ d, rot d (figs b q r k m) = figs b q r (k + d) m
  | 0 => rfl
  | d + 1 => by
    show rot1 (rot d (figs b q r k m)) = _
    rw [rot_figs_eq e hm d]
    obtain ⟨m', rfl⟩ : ∃ m', m = m' + 1 := ⟨m - 1, by omega⟩
    rw [figs_cons]
    show figs b q r (k + d + 1) m' ++ [fig b q r (k + d)] = figs b q r (k + d + 1) (m' + 1)
    rw [figs_succ]
    congr 2
    unfold fig
    rw [rst_shift e d]
    congr 3
    omega
theorem num_zeros {b : Int} : ∀ {l : List Int}, (∀ d, d ∈ l → d = 0) → num b l = 0
  | [], _ => rfl
  | d :: l, h => by rw [num_cons, h d List.mem_cons_self, num_zeros fun x hx => h x (List.mem_cons_of_mem _ hx)]; simp
theorem num_tops {b : Int} : ∀ {l : List Int}, (∀ d, d ∈ l → d = b - 1) → num b l = b ^ l.length - 1
  | [], _ => by simp [num]
  | d :: l, h => by
    rw [num_cons, h d List.mem_cons_self, num_tops fun x hx => h x (List.mem_cons_of_mem _ hx), List.length_cons, Int.pow_succ]
    grind
theorem figs_last {b q r : Int} {k n : Nat} (h : 0 < n) : (figs b q r k n).getLast? = some (fig b q r (k + n - 1)) := by
  obtain ⟨m, rfl⟩ : ∃ m, n = m + 1 := ⟨n - 1, by omega⟩
  rw [figs_succ]
  simp
structure Told (b t q w : Int) (a g : List Int) : Prop where
  fa : Figs b a
  fg : Figs b g
  pl : Plain b a g
  wo : wT b w a g * q = t * wB b a g
  w0 : 0 ≤ w
  w1 : w ≤ t
  ln : a.length + g.length < q.toNat
theorem DivIs.told {b t q w : Int} {a g : List Int} (hb : 2 ≤ b) (hq : 0 < q) (ht : 0 ≤ t) (x : DivIs b t q w a g) : Told b t q w a g := by
  obtain ⟨hw, n, F, h⟩ := x
  have h0 : 0 ≤ t % q := Int.emod_nonneg _ (by omega)
  have h1 : t % q < q := Int.emod_lt_of_pos _ hq
  have hbp : (0 : Int) < b := by omega
  have hn := F.lt hq h0 h1
  have bd := rst_bd (b := b) hq h0 h1
  have et : t = w * q + t % q := by
    have := Int.mul_ediv_add_emod t q
    rw [Int.mul_comm, ← hw] at this
    omega
  have w0 : 0 ≤ w := by rw [hw]; exact Int.ediv_nonneg ht (by omega)
  have w1 : w ≤ t := by
    have : w * 1 ≤ w * q := Int.mul_le_mul_of_nonneg_left (by omega) w0
    omega
  rcases h with ⟨h0', rfl, rfl⟩ | ⟨k, hk, hz, he, rfl, rfl⟩
  · refine ⟨figs_mem hbp hq h0 h1 _ _, fun d hd => by simp at hd, .inl ⟨rfl, fun z => ?_⟩, ?_, w0, w1, by rw [figs_length]; simpa using hn⟩
    · cases n with
      | zero => simp [figs] at z
      | succ n =>
        rw [figs_last (by omega)] at z
        have z := Option.some.inj z
        have s := rst_step (b := b) (q := q) (r := t % q) n
        rw [show 0 + (n + 1) - 1 = n by omega] at z
        rw [z, h0'] at s
        have s' : rst b q (t % q) n * b = 0 := by omega
        rcases Int.mul_eq_zero.mp s' with z | z
        · exact F.nz n (by omega) z
        · omega
    · have p := rst_pow (b := b) (q := q) (r := t % q) 0 n
      rw [Nat.zero_add, h0'] at p
      have e0 : rst b q (t % q) 0 = t % q := rfl
      rw [e0] at p
      unfold wT wB
      rw [rM_nil, figs_length, num_nil]
      generalize t % q = r at *
      grind
  · have e0 : rst b q (t % q) 0 = t % q := rfl
    have p := rst_pow (b := b) (q := q) (r := t % q) 0 k
    have p2 := rst_pow (b := b) (q := q) (r := t % q) k (n - k)
    rw [Nat.zero_add, e0] at p
    rw [show k + (n - k) = n by omega, ← he] at p2
    have gl : (figs b q (t % q) k (n - k)).length = n - k := figs_length
    have gne : figs b q (t % q) k (n - k) ≠ [] := fun z => by rw [z] at gl; simp at gl; omega
    have bkp := pow_pos hbp (n - k)
    have p3 : rst b q (t % q) k * (b ^ (n - k) - 1) = num b (figs b q (t % q) k (n - k)) * q := by grind
    have hMpos : 0 < b ^ (n - k) - 1 := by
      have := rM_pos hb (figs b q (t % q) k (n - k))
      rw [rM_ne b gne, gl] at this
      exact this
    refine ⟨figs_mem hbp hq h0 h1 _ _, figs_mem hbp hq h0 h1 _ _, .inr ⟨gne, fun z => ?_, fun z => ?_, fun d d0 d1 z => ?_, fun z => ?_⟩, ?_, w0, w1, by rw [figs_length, figs_length]; omega⟩
    · rw [num_zeros z] at p3
      have p3 : rst b q (t % q) k * (b ^ (n - k) - 1) = 0 := by omega
      rcases Int.mul_eq_zero.mp p3 with y | y
      · exact F.nz k hk y
      · omega
    · rw [num_tops z, gl] at p3
      rw [Int.mul_comm] at p3
      have := Int.eq_of_mul_eq_mul_left (by omega) p3
      have := bd k
      omega
    · rw [gl] at d1
      have ek : rst b q (t % q) k = rst b q (t % q) (k + (n - k)) := by rw [show k + (n - k) = n by omega]; exact he
      rw [rot_figs_eq ek (by omega) d] at z
      have p4 := rst_pow (b := b) (q := q) (r := t % q) (k + d) (n - k)
      have e4 := rst_shift ek d
      rw [z, show k + d + (n - k) = k + (n - k) + d by omega, ← e4] at p4
      have p5 : rst b q (t % q) (k + d) * (b ^ (n - k) - 1) = rst b q (t % q) k * (b ^ (n - k) - 1) := by grind
      rw [Int.mul_comm, Int.mul_comm _ (b ^ (n - k) - 1)] at p5
      exact F.ne k (k + d) (by omega) (by omega) (Int.eq_of_mul_eq_mul_left (by omega) p5).symm
    · rw [figs_last (k := k) (n := n - k) (by omega)] at z
      cases k with
      | zero => simp [figs] at z
      | succ k =>
        rw [figs_last (k := 0) (n := k + 1) (by omega)] at z
        have z := Option.some.inj z
        rw [show 0 + (k + 1) - 1 = k by omega, show k + 1 + (n - (k + 1)) - 1 = n - 1 by omega] at z
        have s1 := rst_step (b := b) (q := q) (r := t % q) k
        have s2 := rst_step (b := b) (q := q) (r := t % q) (n - 1)
        rw [show n - 1 + 1 = n by omega, ← he, ← z, ← s1, Int.mul_comm, Int.mul_comm _ b] at s2
        exact F.ne k (n - 1) (by omega) (by omega) (Int.eq_of_mul_eq_mul_left (by omega) s2).symm
    · unfold wT wB
      rw [rM_ne b gne, gl, figs_length]
      generalize t % q = r at *
      generalize num b (figs b q r k (n - k)) = x at *
      generalize num b (figs b q r 0 k) = y at *
      generalize rst b q r k = rk at *
      have e1 : t = w * q + r := et
      subst e1
      have : b ^ k * r = y * q + rk := by rw [Int.mul_comm]; exact p
      grind
/-! ### lowest terms -/
def low (t q : Int) : Int × Int := (t / (Int.gcd t q : Nat), q / (Int.gcd t q : Nat))
theorem low_cross {T B t q : Int} (hB : 0 < B) (hq : 0 < q) (e : T * q = t * B) : low T B = low t q := by
  have g1 : Int.gcd (T * q) (B * q) = Int.gcd T B * q.natAbs := Int.gcd_mul_right T q B
  have g2 : Int.gcd (t * B) (q * B) = Int.gcd t q * B.natAbs := Int.gcd_mul_right t B q
  rw [e, Int.mul_comm B q, g2] at g1
  have p1 : 0 < Int.gcd T B := Int.gcd_pos_of_ne_zero_right _ (by omega)
  have p2 : 0 < Int.gcd t q := Int.gcd_pos_of_ne_zero_right _ (by omega)
  have g3 : (Int.gcd t q : Int) * B = (Int.gcd T B : Int) * q := by
    have := congrArg (fun n : Nat => (n : Int)) g1
    simp only [Int.natCast_mul] at this
    rw [Int.natAbs_of_nonneg (by omega), Int.natAbs_of_nonneg (by omega)] at this
    exact this
  obtain ⟨T1, hT⟩ := Int.gcd_dvd_left T B
  obtain ⟨B1, hB1⟩ := Int.gcd_dvd_right T B
  obtain ⟨t1, ht⟩ := Int.gcd_dvd_left t q
  obtain ⟨q1, hq1⟩ := Int.gcd_dvd_right t q
  unfold low
  generalize (Int.gcd T B) = G at *
  generalize (Int.gcd t q) = g at *
  subst hT hB1 ht hq1
  have G0 : (G : Int) ≠ 0 := by omega
  have g0 : (g : Int) ≠ 0 := by omega
  rw [Int.mul_ediv_cancel_left _ G0, Int.mul_ediv_cancel_left _ G0, Int.mul_ediv_cancel_left _ g0, Int.mul_ediv_cancel_left _ g0]
  have e1 : B1 = q1 := by
    have : ((g : Int) * G) * B1 = ((g : Int) * G) * q1 := by grind
    exact Int.eq_of_mul_eq_mul_left (Int.mul_ne_zero g0 G0) this
  subst e1
  have hB1 : B1 ≠ 0 := by
    intro z
    rw [z] at hB
    simp at hB
  have : ((g : Int) * G * B1) * T1 = ((g : Int) * G * B1) * t1 := by grind
  rw [Int.eq_of_mul_eq_mul_left (Int.mul_ne_zero (Int.mul_ne_zero g0 G0) hB1) this]
theorem low_pos {T B : Int} (hB : 0 < B) : 0 < (low T B).2 := by
  obtain ⟨B1, hB1⟩ := Int.gcd_dvd_right T B
  have p1 : 0 < Int.gcd T B := Int.gcd_pos_of_ne_zero_right _ (by omega)
  show 0 < B / (Int.gcd T B : Nat)
  exact Int.ediv_pos_of_pos_of_dvd hB (by omega) (Int.gcd_dvd_right T B)
/-- cross product with its lowest terms -/
theorem low_mul {T B : Int} (hB : 0 < B) : T * (low T B).2 = (low T B).1 * B := by
  show T * (B / (Int.gcd T B : Nat)) = T / (Int.gcd T B : Nat) * B
  obtain ⟨T1, hT⟩ := Int.gcd_dvd_left T B
  obtain ⟨B1, hB1⟩ := Int.gcd_dvd_right T B
  have p1 : 0 < Int.gcd T B := Int.gcd_pos_of_ne_zero_right _ (by omega)
  generalize (Int.gcd T B) = G at *
  subst hT hB1
  have G0 : (G : Int) ≠ 0 := by omega
  rw [Int.mul_ediv_cancel_left _ G0, Int.mul_ediv_cancel_left _ G0]
  grind
end RF

end
section
namespace RF
/-! ### repeated rings -/
def rep (c : Nat) (h : List Int) : List Int := (List.replicate c h).flatten
theorem rep_succ (c : Nat) (h : List Int) : rep (c + 1) h = h ++ rep c h := by simp [rep, List.replicate_succ]
theorem rep_succ' (h : List Int) : ∀ c, rep (c + 1) h = rep c h ++ h
  | 0 => by simp [rep]
  | c + 1 => by
    have e := rep_succ' h c
    rw [rep_succ (c + 1)]
    conv => lhs; rw [e]
    rw [← List.append_assoc, ← rep_succ]
theorem rep_add (h : List Int) (d : Nat) : ∀ c, rep (c + d) h = rep c h ++ rep d h
  | 0 => by simp [rep]
  | c + 1 => by rw [show c + 1 + d = (c + d) + 1 by omega, rep_succ, rep_add h d c, rep_succ, List.append_assoc]
theorem rep_rep (h : List Int) (d : Nat) : ∀ c, rep c (rep d h) = rep (c * d) h
  | 0 => by simp [rep]
  | c + 1 => by rw [rep_succ, rep_rep h d c, Nat.add_mul, Nat.one_mul, Nat.add_comm, rep_add]
theorem rot_append : ∀ (l m : List Int), rot l.length (l ++ m) = m ++ l := fun l m => by
  rw [rot_eq _ _ (by simp)]; simp
/-- ring of d figures told again and again -/
def Per (d : Nat) (g : List Int) : Prop := g.length % d = 0 ∧ rep (g.length / d) (g.take d) = g
theorem Per.rot {d : Nat} {g : List Int} (p : Per d g) (h0 : 0 < d) (h1 : d ≤ g.length) : rot d g = g := by
  obtain ⟨_, p⟩ := p
  obtain ⟨c, hc⟩ : ∃ c, g.length / d = c + 1 := ⟨g.length / d - 1, by have := Nat.div_pos h1 h0; omega⟩
  rw [hc] at p
  have hl : (g.take d).length = d := by rw [List.length_take]; omega
  have e := rot_append (g.take d) (rep c (g.take d))
  rw [← rep_succ, ← rep_succ', hl, p] at e
  exact e
theorem comm_rep {h : List Int} (hh : h ≠ []) : ∀ (c : Nat) (g : List Int), h ++ g = g ++ h → g.length = c * h.length → g = rep c h
  | 0, g, _, l => by
    have : g.length = 0 := by omega
    rw [List.length_eq_zero_iff.mp this]; rfl
  | c + 1, g, e, l => by
    have hl : h.length ≤ g.length := by rw [l, Nat.add_mul]; omega
    have e1 : h = g.take h.length := by
      have := congrArg (List.take h.length) e
      rw [List.take_left' rfl, List.take_append_of_le_length hl] at this
      exact this
    have e2 : g = h ++ g.drop h.length := by
      have := List.take_append_drop h.length g
      rw [← e1] at this
      exact this.symm
    have e3 : h ++ g.drop h.length = g.drop h.length ++ h := by
      rw [e2, List.append_assoc] at e
      have := List.append_cancel_left e
      rw [← e2] at this
      rw [← e2]
      exact this
    rw [e2, rep_succ, comm_rep hh c (g.drop h.length) e3 (by rw [List.length_drop, l, Nat.add_mul]; omega)]
theorem per_of_rot {d : Nat} {g : List Int} (h0 : 0 < d) (h1 : d < g.length) (hd : g.length % d = 0) (e : rot d g = g) : Per d g := by
  refine ⟨hd, ?_⟩
  have hl : (g.take d).length = d := by rw [List.length_take]; omega
  have hne : g.take d ≠ [] := fun z => by rw [z] at hl; simp at hl; omega
  rw [rot_eq d g (by omega)] at e
  have e1 : g.take d ++ g.drop d = g := List.take_append_drop d g
  have hc : g.length = g.length / d * d := by
    have := Nat.div_add_mod g.length d
    rw [hd, Nat.add_zero, Nat.mul_comm] at this
    exact this.symm
  obtain ⟨c, hcc⟩ : ∃ c, g.length / d = c + 1 := ⟨g.length / d - 1, by have := Nat.div_pos (Nat.le_of_lt h1) h0; omega⟩
  have := comm_rep hne c (g.drop d) (e1.trans e.symm) (by rw [List.length_drop, hl, hc, hcc, Nat.add_mul]; omega)
  rw [hcc, rep_succ, ← this]
  exact e1
theorem rot_period {g : List Int} : ∀ (n d : Nat), d ≤ n → 0 < d → d < g.length → rot d g = g → ∃ e, 0 < e ∧ e < g.length ∧ g.length % e = 0 ∧ rot e g = g
  | 0, d, h, h0, _, _ => absurd h (by omega)
  | n + 1, d, h, h0, h1, e => by
    by_cases hd : g.length % d = 0
    · exact ⟨d, h0, h1, hd, e⟩
    · have hr := Nat.mod_lt g.length h0
      have ec : ∀ c, rot (c * d) g = g := fun c => by
        induction c with
        | zero => simp [rot]
        | succ c ih => rw [Nat.add_mul, Nat.one_mul, rot_add, ih, e]
      refine rot_period n (g.length % d) (by omega) (by omega) (by omega) ?_
      have hs : g.length / d * d + g.length % d = g.length := by rw [Nat.mul_comm]; exact Nat.div_add_mod _ _
      have := rot_add (g.length / d * d) (g.length % d) g
      rw [hs, ec, rot_len] at this
      exact this.symm
theorem prim_of {g : List Int} (h : ∀ e, 0 < e → e < g.length → ¬ Per e g) : Prim g := fun d h0 h1 e => by
  obtain ⟨x, x0, x1, x2, x3⟩ := rot_period d d (Nat.le_refl _) h0 h1 e
  exact h x x0 x1 (per_of_rot x0 x1 x2 x3)
theorem Prim.no {g : List Int} (p : Prim g) {e : Nat} (h0 : 0 < e) (h1 : e < g.length) : ¬ Per e g := fun z => p e h0 h1 (z.rot h0 (Nat.le_of_lt h1))
/-- the shortest ring -/
def ShortIs (g h : List Int) : Prop :=
  (∃ d, 0 < d ∧ d < g.length ∧ Per d g ∧ h = g.take d ∧ ∀ e, 0 < e → e < d → ¬ Per e g) ∨ (h = g ∧ ∀ e, 0 < e → e < g.length → ¬ Per e g)
theorem per_short {d e : Nat} {g : List Int} (h0 : 0 < e) (h1 : e < d) (h2 : d < g.length) (p : Per d g) (q : Per e (g.take d)) : Per e g := by
  have hl : (g.take d).length = d := by rw [List.length_take]; omega
  obtain ⟨p1, p2⟩ := p
  obtain ⟨q1, q2⟩ := q
  rw [hl] at q1 q2
  rw [List.take_take, Nat.min_eq_left (Nat.le_of_lt h1)] at q2
  obtain ⟨x, hx⟩ := Nat.dvd_of_mod_eq_zero p1
  obtain ⟨y, hy⟩ := Nat.dvd_of_mod_eq_zero q1
  have hd : 0 < d := by omega
  have e1 : g.length / d = x := by rw [hx]; exact Nat.mul_div_cancel_left x hd
  have e2 : d / e = y := by
    have : e * y / e = y := Nat.mul_div_cancel_left y h0
    rw [← hy] at this; exact this
  have e3 : g.length / e = x * y := by
    have : g.length = e * (x * y) := by rw [hx]; conv => lhs; rw [hy]
                                        rw [Nat.mul_assoc, Nat.mul_comm y x]
    rw [this]; exact Nat.mul_div_cancel_left _ h0
  refine ⟨?_, ?_⟩
  · rw [hx, hy, Nat.mul_assoc]; exact Nat.mul_mod_right _ _
  · rw [e3, ← rep_rep, ← e2, q2, ← e1, p2]
structure Short (g h : List Int) : Prop where
  pr : Prim h
  rp : ∃ c, 0 < c ∧ g = rep c h
  ln : h.length ≤ g.length
  ne : g ≠ [] → h ≠ []
theorem ShortIs.facts {g h : List Int} (x : ShortIs g h) : Short g h := by
  rcases x with ⟨d, h0, h1, p, rfl, mn⟩ | ⟨rfl, mn⟩
  · have hl : (g.take d).length = d := by rw [List.length_take]; omega
    refine ⟨prim_of fun e e0 e1 q => ?_, ⟨g.length / d, Nat.div_pos (Nat.le_of_lt h1) h0, p.2.symm⟩, by omega, fun _ z => by rw [z] at hl; simp at hl; omega⟩
    rw [hl] at e1
    exact mn e e0 e1 (per_short e0 e1 h1 p q)
  · exact ⟨prim_of mn, ⟨1, by omega, by simp [rep]⟩, Nat.le_refl _, fun z => z⟩
/-- a ring is its own shortest one just where it is no shorter one told again -/
theorem ShortIs.self {g h : List Int} (x : ShortIs g h) : h = g ↔ Prim g := by
  constructor
  · intro e
    have := x.facts.pr
    rw [e] at this; exact this
  · intro p
    rcases x with ⟨d, h0, h1, q, rfl, mn⟩ | ⟨rfl, mn⟩
    · exact absurd q (p.no h0 h1)
    · rfl
/-! ### one worth -/
def SameW (b w : Int) (a g : List Int) (w' : Int) (a' g' : List Int) : Prop := wT b w a g * wB b a' g' = wT b w' a' g' * wB b a g
theorem SameW.refl (b w : Int) (a g : List Int) : SameW b w a g w a g := rfl
theorem SameW.symm {b w w' : Int} {a g a' g' : List Int} (h : SameW b w a g w' a' g') : SameW b w' a' g' w a g := Eq.symm h
theorem SameW.trans {b w w1 w2 : Int} {a g a1 g1 a2 g2 : List Int} (hb : 2 ≤ b) (x : SameW b w a g w1 a1 g1) (y : SameW b w1 a1 g1 w2 a2 g2) : SameW b w a g w2 a2 g2 := by
  unfold SameW at *
  have p := wB_pos hb a1 g1
  generalize wT b w a g = A at *
  generalize wB b a g = B at *
  generalize wT b w1 a1 g1 = A1 at *
  generalize wB b a1 g1 = B1 at *
  generalize wT b w2 a2 g2 = A2 at *
  generalize wB b a2 g2 = B2 at *
  have : B1 * (A * B2) = B1 * (A2 * B) := by grind
  exact Int.eq_of_mul_eq_mul_left (by omega) this
/-- what plain is to tell -/
structure PlainOut (b w : Int) (a g : List Int) (w' : Int) (a' g' : List Int) : Prop where
  dv : DivIs b (wT b w a g) (wB b a g) w' a' g'
  fa : Figs b a'
  fg : Figs b g'
  pl : Plain b a' g'
  sm : SameW b w a g w' a' g'
  w0 : w ≤ w'
  w1 : w' ≤ w + 1
  la : a'.length ≤ a.length
  lg : g'.length ≤ g.length
/-- figures without the last ones that are f -/
def DropIs (f : Int) (a a' : List Int) : Prop := a'.getLast? ≠ some f ∧ ∃ j, a = a' ++ List.replicate j f
theorem DropIs.figs {b f : Int} {a a' : List Int} (ha : Figs b a) (x : DropIs f a a') : Figs b a' := fun d hd => by
  obtain ⟨_, j, e⟩ := x
  exact ha d (by rw [e]; exact List.mem_append_left _ hd)
theorem DropIs.len {f : Int} {a a' : List Int} (x : DropIs f a a') : a'.length ≤ a.length := by
  obtain ⟨_, j, e⟩ := x
  rw [e, List.length_append]; omega
/-- so many figures are drawn into the ring -/
def DrawIs (a h : List Int) (u : Nat) : Prop := u ≤ a.length ∧ ∀ i, i < u → a[a.length - 1 - i]? = h[h.length - 1 - i % h.length]?
end RF

end
section
namespace RF
theorem num_take_succ {b : Int} {ns : List Int} {i : Nat} {n : Int} (h : ns[i]? = some n) : num b (ns.take (i + 1)) = num b (ns.take i) * b + n := by
  have hi : i < ns.length := (List.getElem?_eq_some_iff.mp h).1
  have e : ns[i] = n := (List.getElem?_eq_some_iff.mp h).2
  rw [List.take_succ_eq_append_getElem hi, num_snoc, e]
theorem DivIs.low {b t q w : Int} {a g : List Int} (hb : 2 ≤ b) (hq : 0 < q) (ht : 0 ≤ t) (x : DivIs b t q w a g) : low (wT b w a g) (wB b a g) = RF.low t q :=
  low_cross (wB_pos hb a g) hq (x.told hb hq ht).wo
/-- the fraction in lowest terms has the same writing -/
theorem DivIs.of_low {b t q w : Int} {a g : List Int} (hq : 0 < q) (x : DivIs b t q w a g) : DivIs b (RF.low t q).1 (RF.low t q).2 w a g :=
  x.cross (low_pos hq) hq (low_mul hq)
end RF

end
section
namespace RF
/-! ### there is a plain writing -/
/-! ### where long division stops -/
def Stop (b q r : Int) (N : Nat) : Prop := rst b q r N = 0 ∨ ∃ k, k < N ∧ rst b q r k = rst b q r N
theorem DivIs.stop {b t q w : Int} {a g : List Int} (x : DivIs b t q w a g) : Stop b q (t % q) (a.length + g.length) := by
  obtain ⟨_, n, F, h⟩ := x
  rcases h with ⟨h0, rfl, rfl⟩ | ⟨k, h1, h2, h3, rfl, rfl⟩
  · rw [figs_length]; exact .inl h0
  · rw [figs_length, figs_length, show k + (n - k) = n by omega]
    exact .inr ⟨k, h1, h3⟩
end RF

end
section
namespace RF
/-! ### lengths of a bottom -/
theorem rst_closed {b t q : Int} : ∀ i, rst b q (t % q) i = t * b ^ i % q
  | 0 => by
    show t % q = t * b ^ 0 % q
    rw [Int.pow_zero, Int.mul_one]
  | i + 1 => by
    show rst b q (t % q) i * b % q = _
    rw [rst_closed i, Int.pow_succ, ← Int.mul_assoc, Int.mul_emod (t * b ^ i % q), Int.emod_emod_of_dvd _ (Int.dvd_refl q), ← Int.mul_emod]
theorem dvd_cancel {t q x : Int} (h : Int.gcd t q = 1) (d : q ∣ t * x) : q ∣ x := by
  have h1 : q.natAbs ∣ t.natAbs * x.natAbs := by rw [← Int.natAbs_mul]; exact Int.natAbs_dvd_natAbs.mpr d
  have h2 : Nat.Coprime q.natAbs t.natAbs := by
    rw [Nat.coprime_iff_gcd_eq_one, Nat.gcd_comm]; exact h
  exact Int.natAbs_dvd_natAbs.mp (h2.dvd_of_dvd_mul_left h1)
theorem rst_zero_iff {b t q : Int} (h : Int.gcd t q = 1) (i : Nat) : rst b q (t % q) i = 0 ↔ q ∣ b ^ i := by
  rw [rst_closed, ← Int.dvd_iff_emod_eq_zero]
  exact ⟨fun d => dvd_cancel h d, fun d => Int.dvd_trans d (Int.dvd_mul_left _ _)⟩
theorem rst_eq_iff {b t q : Int} (h : Int.gcd t q = 1) (i m : Nat) : rst b q (t % q) (i + m) = rst b q (t % q) i ↔ q ∣ b ^ i * (b ^ m - 1) := by
  rw [rst_closed, rst_closed, Int.emod_eq_emod_iff_emod_sub_eq_zero, ← Int.dvd_iff_emod_eq_zero]
  have e : t * b ^ (i + m) - t * b ^ i = t * (b ^ i * (b ^ m - 1)) := by rw [Int.pow_add]; grind
  rw [e]
  exact ⟨fun d => dvd_cancel h d, fun d => Int.dvd_trans d (Int.dvd_mul_left _ _)⟩
def Len (b q : Int) (k r : Nat) : Prop :=
  (r = 0 ∧ q ∣ b ^ k ∧ ∀ i, i < k → ¬ q ∣ b ^ i) ∨
  (0 < r ∧ (∀ i, ¬ q ∣ b ^ i) ∧ q ∣ b ^ k * (b ^ r - 1) ∧ ∀ i m, 0 < m → q ∣ b ^ i * (b ^ m - 1) → k ≤ i ∧ r ≤ m)
theorem rst_round {b q r0 : Int} {k m : Nat} (e : rst b q r0 k = rst b q r0 (k + m)) : ∀ c s, rst b q r0 (k + c * m + s) = rst b q r0 (k + s)
  | 0, s => by rw [Nat.zero_mul, Nat.add_zero]
  | c + 1, s => by
    have h := rst_shift e (c * m + s)
    rw [show k + (c + 1) * m + s = k + m + (c * m + s) by rw [Nat.add_mul]; omega, ← h, ← Nat.add_assoc]
    exact rst_round e c s
theorem rst_round' {b q r0 : Int} {k m : Nat} (e : rst b q r0 k = rst b q r0 (k + m)) {i : Nat} (hi : k ≤ i) : rst b q r0 i = rst b q r0 (k + (i - k) % m) := by
  have h := rst_round e ((i - k) / m) ((i - k) % m)
  have h2 : (i - k) / m * m + (i - k) % m = i - k := by rw [Nat.mul_comm]; exact Nat.div_add_mod _ _
  rw [show k + (i - k) / m * m + (i - k) % m = i by omega] at h
  exact h
theorem Fresh.inj {b q r : Int} {n i j : Nat} (F : Fresh b q r n) (hi : i < n) (hj : j < n) (e : rst b q r i = rst b q r j) : i = j := by
  rcases Nat.lt_trichotomy i j with l | l | l
  · exact absurd e (F.ne i j l hj)
  · exact l
  · exact absurd e.symm (F.ne j i l hi)
/-- the writing of a fraction in lowest terms has the lengths of its bottom -/
theorem DivIs.len {b t q w : Int} {a g : List Int} (h : Int.gcd t q = 1) (x : DivIs b t q w a g) : Len b q a.length g.length := by
  obtain ⟨_, n, F, c⟩ := x
  rcases c with ⟨h0, rfl, rfl⟩ | ⟨k, hk, hz, he, rfl, rfl⟩
  · rw [figs_length]
    exact .inl ⟨rfl, (rst_zero_iff h n).mp h0, fun i hi d => F.nz i hi ((rst_zero_iff h i).mpr d)⟩
  · rw [figs_length, figs_length]
    have e : rst b q (t % q) k = rst b q (t % q) (k + (n - k)) := by rw [show k + (n - k) = n by omega]; exact he
    have hm : 0 < n - k := by omega
    refine .inr ⟨hm, fun i d => ?_, ?_, fun i m hm' d => ?_⟩
    · have z := (rst_zero_iff (b := b) h i).mpr d
      by_cases l : i < n
      · exact F.nz i l z
      · rw [rst_round' e (by omega : k ≤ i)] at z
        exact F.nz _ (by have := Nat.mod_lt (i - k) hm; omega) z
    · exact (rst_eq_iff h k (n - k)).mp e.symm
    · have z := (rst_eq_iff (b := b) h i m).mpr d
      have zc : ∀ c, rst b q (t % q) (i + c * m) = rst b q (t % q) i := fun c => by
        have := rst_round z.symm c 0
        rw [Nat.add_zero, Nat.add_zero] at this
        exact this
      have ki : k ≤ i := by
        refine Nat.le_of_not_lt fun l => ?_
        have z2 := zc k
        have hkm : k ≤ i + k * m := by
          have : k * 1 ≤ k * m := Nat.mul_le_mul_left k hm'
          omega
        rw [rst_round' e hkm] at z2
        have hs := Nat.mod_lt (i + k * m - k) hm
        have := F.inj (by omega) (by omega) z2
        omega
      refine ⟨ki, ?_⟩
      rw [rst_round' e ki, rst_round' e (by omega : k ≤ i + m)] at z
      have s1 := Nat.mod_lt (i - k) hm
      have s2 := Nat.mod_lt (i + m - k) hm
      have ez := F.inj (by omega) (by omega) z
      refine Nat.le_of_not_lt fun l => ?_
      have q1 := Nat.div_add_mod (i - k) (n - k)
      have q2 := Nat.div_add_mod (i + m - k) (n - k)
      have e5 : (i + m - k) % (n - k) = (i - k) % (n - k) := by omega
      have e6 : (n - k) * ((i + m - k) / (n - k)) = (n - k) * ((i - k) / (n - k)) + m := by omega
      have e7 : m = (n - k) * ((i + m - k) / (n - k) - (i - k) / (n - k)) := by rw [Nat.mul_sub]; omega
      generalize (i + m - k) / (n - k) - (i - k) / (n - k) = y at e7
      cases y with
      | zero => rw [Nat.mul_zero] at e7; omega
      | succ y =>
        have : (n - k) * 1 ≤ (n - k) * (y + 1) := Nat.mul_le_mul_left _ (by omega)
        omega
/-! ### what a bottom has in common with the base -/
def left (b q i : Nat) : Nat := q / q.gcd (b ^ i)
end RF

end
section
namespace RF
/-! ### the order of the base -/
/-! ### prime numbers -/
def Pr (p : Nat) : Prop := 2 ≤ p ∧ ∀ d, d ∣ p → d = 1 ∨ d = p
def fac (n : Nat) : Nat := ((List.range n).map (· + 1)).prod
/-! ### rings of primes -/
/-- what the document says of bottoms that are prime -/
structure PrimeRing (b p : Nat) (a g : List Int) : Prop where
  ah : a = []
  ne : g ≠ []
  dv : (p - 1) % g.length = 0
  fo : ∀ h, g.length = 2 * h → ∀ k, k < h → g.getD k 0 + g.getD (k + h) 0 = (b : Int) - 1
end RF

end
section
namespace RF
/-! ### the figure at a place; a figure further -/
theorem rst_from {b q r : Int} : ∀ i, rst b q (r * b % q) i = rst b q r (i + 1)
  | 0 => rfl
  | i + 1 => by
    show rst b q (r * b % q) i * b % q = rst b q r (i + 1) * b % q
    rw [rst_from i]
theorem fig_from {b q r : Int} (i : Nat) : fig b q (r * b % q) i = fig b q r (i + 1) := by
  unfold fig; rw [rst_from]
theorem figs_from {b q r : Int} (k n : Nat) : figs b q (r * b % q) k n = figs b q r (k + 1) n := by
  unfold figs
  apply List.map_congr_left
  intro i _
  rw [fig_from, Nat.add_right_comm]
/-- the fraction taken base times, without its whole part -/
theorem DivIs.next {b t q w : Int} {a g : List Int} (hq : 0 < q) (t0 : 0 ≤ t) (tq : t < q) (x : DivIs b t q w a g) :
    (∃ f a', a = f :: a' ∧ t * b / q = f ∧ DivIs b (t * b % q) q 0 a' g) ∨ (∃ f g', a = [] ∧ g = f :: g' ∧ t * b / q = f ∧ DivIs b (t * b % q) q 0 [] (g' ++ [f])) ∨
      (a = [] ∧ g = [] ∧ t * b / q = 0 ∧ DivIs b (t * b % q) q 0 [] []) := by
  obtain ⟨_, n, F, c⟩ := x
  have et : t % q = t := Int.emod_eq_of_lt t0 tq
  rw [et] at F c
  have e1 : (t * b % q) % q = t * b % q := Int.emod_emod_of_dvd _ (Int.dvd_refl _)
  have w0 : (0 : Int) = t * b % q / q := (Int.ediv_eq_zero_of_lt (Int.emod_nonneg _ (by omega)) (Int.emod_lt_of_pos _ hq)).symm
  have ef : t * b / q = fig b q t 0 := rfl
  have fr : ∀ m, m + 1 ≤ n → Fresh b q (t * b % q) m := fun m hm =>
    ⟨fun i hi => by rw [rst_from]; exact F.nz (i + 1) (by omega), fun i j hij hj => by rw [rst_from, rst_from]; exact F.ne (i + 1) (j + 1) (by omega) (by omega)⟩
  rcases c with ⟨h0, rfl, rfl⟩ | ⟨k, hk, hz, he, rfl, rfl⟩
  · cases n with
    | zero =>
      have ht : t = 0 := h0
      subst ht
      refine .inr (.inr ⟨rfl, rfl, by rw [Int.zero_mul, Int.zero_ediv], w0, 0, Fresh.zero, .inl ⟨?_, rfl, rfl⟩⟩)
      rw [e1]
      show (0 : Int) * b % q = 0
      rw [Int.zero_mul, Int.zero_emod]
    | succ m =>
      refine .inl ⟨_, _, figs_cons, ef, w0, m, ?_, .inl ⟨?_, ?_, rfl⟩⟩
      · rw [e1]; exact fr m (Nat.le_refl _)
      · rw [e1, rst_from]; exact h0
      · rw [e1, figs_from]
  · cases k with
    | zero =>
      obtain ⟨m, rfl⟩ : ∃ m, n = m + 1 := ⟨n - 1, by omega⟩
      have he : t = rst b q t (m + 1) := he
      have sh : ∀ i, rst b q t (m + 1 + i) = rst b q t i := fun i => by
        have := rst_shift (b := b) (q := q) (r := t) (i := 0) (j := m + 1) he i
        rw [Nat.zero_add] at this
        exact this.symm
      refine .inr (.inl ⟨fig b q t 0, figs b q t 1 m, rfl, by rw [Nat.sub_zero, figs_cons], ef, w0, m + 1, ?_, .inr ⟨0, by omega, ?_, ?_, rfl, ?_⟩⟩)
      · rw [e1]
        refine ⟨fun i hi => ?_, fun i j hij hj => ?_⟩
        · rw [rst_from]
          by_cases e : i + 1 = m + 1
          · rw [e]; exact hz
          · exact F.nz (i + 1) (by omega)
        · rw [rst_from, rst_from]
          by_cases e : j + 1 = m + 1
          · rw [e, ← he]
            exact (F.ne 0 (i + 1) (by omega) (by omega)).symm
          · exact F.ne (i + 1) (j + 1) (by omega) (by omega)
      · rw [e1, rst_from, sh 1]
        by_cases e : m = 0
        · subst e; exact hz
        · exact F.nz 1 (by omega)
      · rw [e1, rst_from, rst_from, sh 1]
      · rw [e1, figs_from, Nat.sub_zero, figs_succ]
        congr 2
        unfold fig
        rw [show 0 + 1 + m = m + 1 by omega, ← he]; rfl
    | succ k =>
      obtain ⟨m, rfl⟩ : ∃ m, n = m + 1 := ⟨n - 1, by omega⟩
      refine .inl ⟨_, _, figs_cons, ef, w0, m, ?_, .inr ⟨k, by omega, ?_, ?_, ?_, ?_⟩⟩
      · rw [e1]; exact fr m (Nat.le_refl _)
      · rw [e1, rst_from]; exact hz
      · rw [e1, rst_from, rst_from]; exact he
      · rw [e1, figs_from]
      · rw [e1, figs_from, show m + 1 - (k + 1) = m - k by omega]
end RF

end
section
namespace RF
end RF

end
section
namespace RF
/-! ### powers by squaring -/
end RF

end
section
namespace RF
/-! ### sums and multiples over one bottom -/
theorem dvd_mul_ediv {q D : Int} (h : q ∣ D) (t : Int) (hq : 0 < q) : t * D = t * (D / q) * q := by
  rw [Int.mul_assoc, Int.ediv_mul_cancel h]
/-- a fraction over a bottom that its own goes into -/
theorem low_over {t q D : Int} (hq : 0 < q) (hD : 0 < D) (h : q ∣ D) : low t q = low (t * (D / q)) D := low_cross hq hD (dvd_mul_ediv h t hq)
end RF

end
section
namespace RF
/-! ### a whole number's figures, and notes as lists of signs -/
def dg0 (b n : Nat) : List Nat := if h : n = 0 ∨ b < 2 then [] else dg0 b (n / b) ++ [n % b]
termination_by n
decreasing_by exact Nat.div_lt_self (by omega) (by omega)
/-- the figures of a whole number, nought has one -/
def dg (b n : Nat) : List Nat := dg0 b (n / b) ++ [n % b]
/-- as figures (ints) -/
def ig (l : List Nat) : List Int := l.map Int.ofNat
theorem ig_figs {b : Nat} {l : List Nat} (h : ∀ d ∈ l, d < b) : Figs (b : Int) (ig l) := fun d hd => by
  obtain ⟨n, hn, rfl⟩ := List.mem_map.mp hd
  have := h n hn
  exact ⟨Int.natCast_nonneg n, by show ((n : Nat) : Int) < b; omega⟩
/-- the sign of a figure -/
def sgn (d : Nat) : Nat := if d < 10 then 48 + d else 87 + d
theorem sgn_inj {d e : Nat} (hd : d < 36) (he : e < 36) (h : sgn d = sgn e) : d = e := by
  unfold sgn at h
  split at h <;> split at h <;> omega
theorem sgn_rng {d : Nat} (hd : d < 36) : (48 ≤ sgn d ∧ sgn d ≤ 57) ∨ (97 ≤ sgn d ∧ sgn d ≤ 122) := by
  unfold sgn
  split <;> omega
/-- behind the whole number -/
def tail (a g : List Nat) : List Nat := if a = [] ∧ g = [] then [] else 46 :: (a.map sgn ++ (if g = [] then [] else 40 :: (g.map sgn ++ [41])))
def note (b w : Nat) (a g : List Nat) : List Nat := (dg b w).map sgn ++ tail a g
end RF

end
section
namespace RF
/-! ### texts read -/
/-- the figure of a sign -/
def fg (b c : Nat) : Option Nat := (List.range b).find? fun d => decide (sgn d = c)
theorem fg_some {b c d : Nat} (h : fg b c = some d) : d < b ∧ sgn d = c := by
  have h1 := List.find?_some h
  have h2 := List.mem_of_find?_eq_some h
  exact ⟨List.mem_range.mp h2, by simpa using h1⟩
theorem fg_none {b c : Nat} (h : fg b c = none) : ∀ d, d < b → sgn d ≠ c := fun d hd e => by
  have := List.find?_eq_none.mp h d (List.mem_range.mpr hd)
  simp [e] at this
theorem fg_of {b d : Nat} (hb : b ≤ 36) (hd : d < b) : fg b (sgn d) = some d := by
  cases e : fg b (sgn d) with
  | none => exact absurd rfl (fg_none e d hd)
  | some d' =>
    obtain ⟨h1, h2⟩ := fg_some e
    rw [sgn_inj (by omega) (by omega) h2]
def fgs (b : Nat) : List Nat → Option (List Nat)
  | [] => some []
  | c :: l => match fg b c, fgs b l with
    | some d, some ds => some (d :: ds)
    | _, _ => none
theorem fgs_some {b : Nat} : ∀ {l ds : List Nat}, fgs b l = some ds → l = ds.map sgn ∧ ∀ d ∈ ds, d < b
  | [], ds, h => by
    have : ds = [] := by
      unfold fgs at h
      exact (Option.some.inj h).symm
    subst this
    exact ⟨rfl, fun d hd => by cases hd⟩
  | c :: l, ds, h => by
    unfold fgs at h
    cases e1 : fg b c with
    | none => rw [e1] at h; cases h
    | some d =>
      cases e2 : fgs b l with
      | none => rw [e1, e2] at h; cases h
      | some es =>
        rw [e1, e2] at h
        have : d :: es = ds := Option.some.inj h
        subst this
        obtain ⟨h1, h2⟩ := fg_some e1
        obtain ⟨h3, h4⟩ := fgs_some e2
        refine ⟨by rw [List.map_cons, h2, ← h3], fun x hx => ?_⟩
        rcases List.mem_cons.mp hx with rfl | hx
        · exact h1
        · exact h4 x hx
theorem fgs_of {b : Nat} (hb : b ≤ 36) : ∀ {ds : List Nat}, (∀ d ∈ ds, d < b) → fgs b (ds.map sgn) = some ds
  | [], _ => rfl
  | d :: ds, h => by
    rw [List.map_cons]
    unfold fgs
    rw [fg_of hb (h d List.mem_cons_self), fgs_of hb fun x hx => h x (List.mem_cons_of_mem _ hx)]
/-- the first sign that is no figure -/
theorem fgs_none {b : Nat} : ∀ {l : List Nat}, fgs b l = none → ∃ i c : Nat, l[i]? = some c ∧ fg b c = none ∧ ∀ j : Nat, j < i → ∃ e d : Nat, l[j]? = some e ∧ fg b e = some d
  | [], h => by cases h
  | c :: l, h => by
    cases e1 : fg b c with
    | none => exact ⟨0, c, rfl, e1, fun j hj => absurd hj (by omega)⟩
    | some d =>
      cases e2 : fgs b l with
      | some es =>
        unfold fgs at h
        rw [e1, e2] at h; cases h
      | none =>
        obtain ⟨i, x, h1, h2, h3⟩ := fgs_none e2
        refine ⟨i + 1, x, by simpa using h1, h2, fun j hj => ?_⟩
        cases j with
        | zero => exact ⟨c, d, rfl, e1⟩
        | succ j => simpa using h3 j (by omega)
theorem fgs_bad {b c : Nat} {l : List Nat} (hc : c ∈ l) (h : fg b c = none) : fgs b l = none := by
  cases e : fgs b l with
  | none => rfl
  | some ds =>
    obtain ⟨h1, h2⟩ := fgs_some e
    rw [h1] at hc
    obtain ⟨d, hd, rfl⟩ := List.mem_map.mp hc
    exact absurd rfl (fg_none h d (h2 d hd))
theorem fg_sign {b c : Nat} (hb : b ≤ 36) (h : c < 48 ∨ (57 < c ∧ c < 97)) : fg b c = none := by
  cases e : fg b c with
  | none => rfl
  | some d =>
    obtain ⟨h1, h2⟩ := fg_some e
    have := sgn_rng (d := d) (by omega)
    omega
/-- cut at the first c -/
def cut (c : Nat) : List Nat → List Nat × Option (List Nat)
  | [] => ([], none)
  | x :: r => if x = c then ([], some r) else (x :: (cut c r).1, (cut c r).2)
theorem cut_no {c : Nat} : ∀ {l : List Nat}, c ∉ l → cut c l = (l, none)
  | [], _ => rfl
  | x :: r, h => by
    unfold cut
    rw [if_neg (fun e => h (by rw [e]; exact List.mem_cons_self)), cut_no fun z => h (List.mem_cons_of_mem _ z)]
theorem cut_at {c : Nat} {m : List Nat} : ∀ {l : List Nat}, c ∉ l → cut c (l ++ c :: m) = (l, some m)
  | [], _ => by
    show cut c (c :: m) = _
    unfold cut
    rw [if_pos rfl]
  | x :: r, h => by
    rw [List.cons_append]
    unfold cut
    rw [if_neg (fun e => h (by rw [e]; exact List.mem_cons_self)), cut_at fun z => h (List.mem_cons_of_mem _ z)]
theorem cut_ex (c : Nat) : ∀ l : List Nat, c ∉ l ∨ ∃ p m, l = p ++ c :: m ∧ c ∉ p
  | [] => .inl (by simp)
  | x :: r => by
    by_cases e : x = c
    · exact .inr ⟨[], r, by rw [e]; rfl, by simp⟩
    · rcases cut_ex c r with h | ⟨p, m, h1, h2⟩
      · left
        intro z
        rcases List.mem_cons.mp z with z | z
        · exact e z.symm
        · exact h z
      · refine .inr ⟨x :: p, m, by rw [h1]; rfl, fun z => ?_⟩
        rcases List.mem_cons.mp z with z | z
        · exact e z.symm
        · exact h2 z
theorem last_in {p m : List Nat} {c : Nat} (hm : m ≠ []) : (p ++ c :: m).getLast? = m.getLast? := by
  rcases List.eq_nil_or_concat m with h | ⟨q, x, rfl⟩
  · exact absurd h hm
  · rw [List.concat_eq_append, show p ++ c :: (q ++ [x]) = (p ++ c :: q) ++ [x] by simp, List.getLast?_append, List.getLast?_append (l := q)]
    rfl
/-- figures that are a whole number's -/
def wOk (b : Nat) (ds : List Nat) : Prop := ds ≠ [] ∧ ¬ (1 < ds.length ∧ ds.head? = some 0) ∧ num (b : Int) (ig ds) ≤ 1000000000000
instance (b : Nat) (ds : List Nat) : Decidable (wOk b ds) := by unfold wOk; infer_instance
def rdW (b : Nat) (l : List Nat) : Option Int := match fgs b l with
  | none => none
  | some ds => if wOk b ds then some (num (b : Int) (ig ds)) else none
def rdR (b : Nat) (r : List Nat) : Option (List Nat) := if r.getLast? = some 41 ∧ r.length ≠ 1 then fgs b r.dropLast else none
/-- what a text is read to -/
def rd (b : Nat) (l : List Nat) : Option (Int × List Nat × List Nat) :=
  match rdW b (cut 46 l).1 with
  | none => none
  | some n => match (cut 46 l).2 with
    | none => some (n, [], [])
    | some r => match fgs b (cut 40 r).1 with
      | none => none
      | some as => if 4000 < as.length then none else match (cut 40 r).2 with
        | none => if as = [] then none else some (n, as, [])
        | some r2 => match rdR b r2 with
          | none => none
          | some gs => if 4000 < gs.length then none else some (n, as, gs)
theorem rd_no {b : Nat} {l : List Nat} (h : 46 ∉ l) : rd b l = match rdW b l with
    | none => none
    | some n => some (n, [], []) := by
  unfold rd
  rw [cut_no h]
theorem rd_a {b : Nat} {p m : List Nat} (hp : 46 ∉ p) (hm : 40 ∉ m) : rd b (p ++ 46 :: m) = match rdW b p with
    | none => none
    | some n => match fgs b m with
      | none => none
      | some as => if 4000 < as.length then none else if as = [] then none else some (n, as, []) := by
  unfold rd
  rw [cut_at hp]
  dsimp only
  rw [cut_no hm]
theorem rd_r {b : Nat} {p q m : List Nat} (hp : 46 ∉ p) (hq : 40 ∉ q) : rd b (p ++ 46 :: (q ++ 40 :: m)) = match rdW b p with
    | none => none
    | some n => match fgs b q with
      | none => none
      | some as => if 4000 < as.length then none else match rdR b m with
        | none => none
        | some gs => if 4000 < gs.length then none else some (n, as, gs) := by
  unfold rd
  rw [cut_at hp]
  dsimp only
  rw [cut_at hq]
/-- the law's way -/
def ptd (l : List Nat) : Option (List Nat × List Nat × List Nat) :=
  match (cut 46 l).2 with
  | none => some ((cut 46 l).1, [], [])
  | some r => if r = [] then none else if r.getLast? ≠ some 41 then some ((cut 46 l).1, r, []) else match (cut 40 r).2 with
    | none => none
    | some r2 => if r2.length = 1 then none else some ((cut 46 l).1, (cut 40 r).1, r2.dropLast)
def lrd (b : Nat) (l : List Nat) : Option (Int × List Nat × List Nat) :=
  match ptd l with
  | none => none
  | some (w, a, g) => match fgs b w, fgs b a, fgs b g with
    | some ws, some as, some gs => if wOk b ws then some (num (b : Int) (ig ws), as, gs) else none
    | _, _, _ => none
def short (o : Option (Int × List Nat × List Nat)) : Option (Int × List Nat × List Nat) := match o with
  | none => none
  | some (n, a, g) => if 4000 < a.length ∨ 4000 < g.length then none else some (n, a, g)
theorem rd_law {b : Nat} (hb : b ≤ 36) (l : List Nat) : rd b l = short (lrd b l) := by
  have b46 : fg b 46 = none := fg_sign hb (by decide)
  have b40 : fg b 40 = none := fg_sign hb (by decide)
  have b41 : fg b 41 = none := fg_sign hb (by decide)
  unfold rd lrd ptd rdW
  cases e1 : (cut 46 l).2 with
  | none =>
    dsimp only
    cases e2 : fgs b (cut 46 l).1 with
    | none => rfl
    | some ws =>
      dsimp only [fgs]
      by_cases h : wOk b ws
      · rw [if_pos h, if_pos h]; rfl
      · rw [if_neg h, if_neg h]; rfl
  | some r =>
    dsimp only
    generalize (cut 46 l).1 = w
    by_cases hr : r = []
    · subst hr
      rw [if_pos rfl]
      cases fgs b w with
      | none => rfl
      | some ws =>
        dsimp only
        by_cases h : wOk b ws
        · rw [if_pos h]; rfl
        · rw [if_neg h]; rfl
    rw [if_neg hr]
    by_cases hl : r.getLast? = some 41
    · have hl' : ¬ (r.getLast? ≠ some 41) := fun z => z hl
      rw [if_neg hl']
      have m41 : 41 ∈ r := List.mem_of_getLast? hl
      rcases cut_ex 40 r with no | ⟨p, m, rfl, hp⟩
      · rw [cut_no no]
        dsimp only
        rw [fgs_bad m41 b41]
        cases fgs b w with
        | none => rfl
        | some ws =>
          dsimp only
          by_cases h : wOk b ws
          · rw [if_pos h]; rfl
          · rw [if_neg h]; rfl
      · rw [cut_at hp]
        dsimp only
        have hm : m ≠ [] := fun z => by
          rw [z] at hl
          simp at hl
        have hml : m.getLast? = some 41 := by
          rw [last_in hm] at hl
          exact hl
        unfold rdR
        by_cases h1 : m.length = 1
        · rw [if_pos h1, if_neg (fun z => z.2 h1)]
          cases fgs b w with
          | none => rfl
          | some ws =>
            dsimp only
            by_cases h : wOk b ws
            · rw [if_pos h]
              dsimp only
              cases fgs b p with
              | none => rfl
              | some as =>
                dsimp only
                split <;> rfl
            · rw [if_neg h]; rfl
        · rw [if_neg h1, if_pos ⟨hml, h1⟩]
          dsimp only
          cases fgs b w with
          | none => rfl
          | some ws =>
            dsimp only
            cases e3 : fgs b p with
            | none =>
              by_cases h : wOk b ws
              · rw [if_pos h]; rfl
              · rw [if_neg h]; rfl
            | some as =>
              dsimp only
              cases e4 : fgs b m.dropLast with
              | none =>
                by_cases h : wOk b ws
                · rw [if_pos h]
                  dsimp only
                  split <;> rfl
                · rw [if_neg h]; rfl
              | some gs =>
                dsimp only
                by_cases h : wOk b ws
                · rw [if_pos h, if_pos h]
                  dsimp only [short]
                  by_cases h5 : 4000 < as.length
                  · rw [if_pos h5, if_pos (.inl h5)]
                  · rw [if_neg h5]
                    by_cases h6 : 4000 < gs.length
                    · rw [if_pos h6, if_pos (.inr h6)]
                    · rw [if_neg h6, if_neg (by omega)]
                · rw [if_neg h, if_neg h]; rfl
    · rw [if_pos hl]
      dsimp only [fgs]
      rcases cut_ex 40 r with no | ⟨p, m, rfl, hp⟩
      · rw [cut_no no]
        dsimp only
        cases fgs b w with
        | none => rfl
        | some ws =>
          dsimp only
          cases e3 : fgs b r with
          | none =>
            by_cases h : wOk b ws
            · rw [if_pos h]; rfl
            · rw [if_neg h]; rfl
          | some as =>
            dsimp only
            have ne : as ≠ [] := fun z => by
              obtain ⟨h1, _⟩ := fgs_some e3
              rw [z] at h1
              exact hr h1
            by_cases h : wOk b ws
            · rw [if_pos h, if_pos h]
              dsimp only [short]
              by_cases h5 : 4000 < as.length
              · rw [if_pos h5, if_pos (.inl h5)]
              · rw [if_neg h5, if_neg ne, if_neg (by simp; omega)]
            · rw [if_neg h, if_neg h]; rfl
      · rw [cut_at hp, fgs_bad (l := p ++ 40 :: m) (List.mem_append_right _ List.mem_cons_self) b40]
        dsimp only
        have hm : rdR b m = none := by
          unfold rdR
          rw [if_neg]
          rintro ⟨z, _⟩
          apply hl
          have hm : m ≠ [] := fun y => by rw [y] at z; cases z
          rw [last_in hm]
          exact z
        rw [hm]
        cases fgs b w with
        | none => rfl
        | some ws =>
          dsimp only
          by_cases h : wOk b ws
          · rw [if_pos h]
            dsimp only
            cases fgs b p with
            | none => rfl
            | some as =>
              dsimp only
              split <;> rfl
          · rw [if_neg h]; rfl
/-- a very long whole number is too great -/
theorem num_big {b : Nat} (hb : 2 ≤ b) {ds : List Nat} (hd : ∀ d ∈ ds, d < b) (h : 4000 < ds.length) : ¬ wOk b ds := by
  rintro ⟨_, h1, h2⟩
  cases ds with
  | nil => simp at h
  | cons d r =>
    have hd0 : d ≠ 0 := fun z => h1 ⟨by simp only [List.length_cons] at h ⊢; omega, by rw [z]; rfl⟩
    have e : num (b : Int) (ig (d :: r)) = (d : Int) * (b : Int) ^ r.length + num (b : Int) (ig r) := by
      show num (b : Int) ((d : Int) :: ig r) = _
      rw [num_cons]
      congr 3
      simp [ig]
    have n0 := (num_bd (b := (b : Int)) (by omega) (ig_figs (l := r) fun x hx => hd x (List.mem_cons_of_mem _ hx))).1
    have p1 : ((2 : Int) ^ 40) ≤ (b : Int) ^ r.length := by
      have h3 : (2 : Nat) ^ 40 ≤ b ^ r.length := Nat.le_trans (Nat.pow_le_pow_left hb 40) (Nat.pow_le_pow_right (by omega) (by simp only [List.length_cons] at h; omega))
      have := Int.ofNat_le.mpr h3
      rw [Int.natCast_pow, Int.natCast_pow] at this
      exact this
    have p2 : (1 : Int) * (b : Int) ^ r.length ≤ (d : Int) * (b : Int) ^ r.length := Int.mul_le_mul_of_nonneg_right (by omega) (by omega)
    rw [e] at h2
    omega
end RF

end
set_option Elab.async false
set_option maxRecDepth 100000
namespace L2
open PySem PySem.Spec PyProof.Rows
/-! MY OWN WORDS over the layer -/
/-- a def of the text with its promise, by its name -/
structure Got (P : Program) (w : World) (K : PySem.W.Frag) (mg : Str → Option Value) (base : Heap) (name : Str) (k : Nat) (ps : List Str) (sp : Sp) : Prop where
  ex : ∃ (f : Addr) (fd : FuncData), FnOk P w K mg base CX0 k f fd ps sp ∧ Binds K fd ps [] ∧ PySem.W.keepIn K (.ref f) = true ∧ mg name = some (.ref f)
/-- a def of the text as it stands -/
structure IsDef (K : PySem.W.Frag) (mg : Str → Option Value) (name : Str) (st : Stmt) (ps : List Str) : Prop where
  ex : ∃ (f : Addr) (fd : FuncData), Fun K name name st f fd ∧ Binds K fd ps [] ∧ mg name = some (.ref f)
/-- an int of the module's top -/
def IsInt (mg : Str → Option Value) (name : Str) (i : Int) : Prop := ∃ t, mg name = some (.int i t)
theorem IsDef.got {P : Program} {w : World} {K : PySem.W.Frag} {mg : Str → Option Value} {base : Heap} {name : Str} {st : Stmt} {ps N : List Str} {k : Nat} {sp : Sp} (D : IsDef K mg name st ps) (S : FnScope N ps (defScope st)) (len : ∀ vs H Q E, sp vs H Q E → vs.length = ps.length)
    (hbody : ∀ (f : Addr) (cdv : Value) (A : Around) (outer : List Env) (s : Shared) (H : Hp) (vs : List V) (Q : VK) (E : XK), Room k (A.deeper (envOfC name (defScope st) s.heap.objs.size f cdv)) → sp vs H Q E →
      ∃ t, PSs (cxOf CX0 P w K mg base N name (defScope st) f cdv A outer s H E).nox (defBody st) t ∧ t { nx := fun _ H' => Q .non H', rt := Q } (start N vs) H) : Got P w K mg base name (k + 1) ps sp := by
  obtain ⟨f, fd, F, b, m⟩ := D.ex
  exact ⟨f, fd, F.ok S len (fun cdv A outer s H vs Q E hr h => hbody f cdv A outer s H vs Q E hr h), b, F.kp, m⟩
theorem Got.mono {P : Program} {w : World} {K : PySem.W.Frag} {mg : Str → Option Value} {base : Heap} {name : Str} {ps : List Str} {j k : Nat} {sp : Sp} (G : Got P w K mg base name j ps sp) (h : j ≤ k) : Got P w K mg base name k ps sp := by
  obtain ⟨f, fd, F, b, kp, m⟩ := G.ex
  exact ⟨f, fd, F.mono h, b, kp, m⟩
section
variable {X : Cx} {x : Str} {p pos : Pos} {e : Expr} {es : List Expr} {t : TA} {k : Nat} {ps : List Str} {sp : Sp}
theorem pe_callG (G : Got X.prog X.w X.K X.mg X.base x k ps sp) (hr : Room k X.A) (hg : Gl X x) (ha : PA X (e :: es) t) (hdb : (x == ("__debug__" : Str)) = false := by decide)
    (he : starEach (e :: es) X.env = (false, eval e X.env) :: starEach es X.env := by rfl) (hpl : (backTo pos (starEach es X.env)).any (·.1) = false := by rfl) : PE X (.Call (.Name x p) (e :: es) [] pos) (tCall sp [] E0 t) := by
  obtain ⟨f, fd, F, b, kp, m⟩ := G.ex
  exact pe_call F hr hg m kp b .nil pass0 ha hdb he hpl
theorem pe_globI {i : Int} (h : IsInt X.mg x i) (hg : Gl X x) (hd : (x == ("__debug__" : Str)) = false := by decide) : PE X (.Name x pos) (tC (.int i)) := by
  obtain ⟨t, h⟩ := h
  exact pe_glob hg h ⟨t, rfl⟩ hd
/-! ### isinstance -/
theorem call_isi : CallR X (.builtin "isinstance") (fun xs H Q => ∃ x T t b, xs = [x, .ty T] ∧ TyOf X.K H x t ∧ PySem.W.kitOne X.K t (.type T) = some b ∧ Q (.bl b) H) := by
  intro pins s σ H xs us Q I r h
  obtain ⟨x, T, t, b, rfl, ty, e, q⟩ := h
  obtain ⟨u, w', rfl, r1, r2⟩ := vals2 r
  cases (show w' = Value.type T from r2)
  exact isinst_ok I r1 ty e fun tk => ⟨.bl b, H, I.tok tk, rfl, q⟩
theorem kit_self {K : PySem.W.Frag} (t : Value) (h : (t == t) = true) : PySem.W.kitOne K t t = some true := by unfold PySem.W.kitOne; rw [if_pos h]
/-! ### == of data: ints, lists of ints, tuples of these -/
inductive RdL (K : PySem.W.Frag) (H : Hp) : V → PyData → Prop
  | int (i : Int) : RdL K H (.int i) (.int i)
  | bl (b : Bool) : RdL K H (.bl b) (.bool b)
  | lst {a : Addr} {ns : List Int} : SqL K H a (ns.map V.int) → RdL K H (.ref a) (.list (ns.map PyData.int))
inductive RdT (K : PySem.W.Frag) (H : Hp) : V → PyData → Prop
  | of {v : V} {d : PyData} : RdL K H v d → RdT K H v d
  | tup {a : Addr} {xs : List V} {ds : List PyData} : SqT K H a xs → Paired (RdL K H) xs ds → RdT K H (.ref a) (.tuple ds)
theorem readsAll_ints {h : Heap} : ∀ {ns : List Int} {us : List Value}, Vals (ns.map V.int) us → ReadsAll h us (ns.map PyData.int) []
  | [], _, .nil => .nil
  | n :: ns, _, .cons r t => by
    obtain ⟨k, rfl⟩ := (show ∃ k, _ = Value.int n k from r)
    have := ReadsAll.cons (Reads.int (h := h) n k) (readsAll_ints (h := h) t)
    simpa using this
theorem RdL.reads {pins : List (Addr × Obj)} {s : Shared} {σ : St} {H : Hp} {v : V} {u : Value} {d : PyData} (I : Inv X pins σ H s) (r : RelV v u) (h : RdL X.K H v d) : ∃ as, Reads s.heap u d as := by
  cases h with
  | int i => obtain ⟨t, rfl⟩ := (show ∃ t, u = Value.int i t from r); exact ⟨_, Reads.int i t⟩
  | bl b => cases (show u = Value.bool b from r); exact ⟨_, Reads.bool b⟩
  | @lst a ns hs =>
    cases (show u = Value.ref a from r)
    obtain ⟨its, rv, pl, _⟩ := I.list hs
    obtain ⟨o, ho, hc, n, hd⟩ := pl.isList
    exact ⟨_, Reads.list ho hc hd (by simpa using readsAll_ints rv)⟩
theorem RdL.readsAll {pins : List (Addr × Obj)} {s : Shared} {σ : St} {H : Hp} (I : Inv X pins σ H s) : ∀ {xs : List V} {us : List Value} {ds : List PyData}, Vals xs us → Paired (RdL X.K H) xs ds → ∃ as, ReadsAll s.heap us ds as
  | _, _, _, .nil, .nil => ⟨_, ReadsAll.nil⟩
  | _, _, _, .cons r t, .cons q y => by
    obtain ⟨as, h1⟩ := RdL.reads I r q
    obtain ⟨bs, h2⟩ := RdL.readsAll I t y
    exact ⟨_, ReadsAll.cons h1 h2⟩
theorem RdT.reads {pins : List (Addr × Obj)} {s : Shared} {σ : St} {H : Hp} {v : V} {u : Value} {d : PyData} (I : Inv X pins σ H s) (r : RelV v u) (h : RdT X.K H v d) : ∃ as, Reads s.heap u d as := by
  cases h with
  | of h => exact h.reads I r
  | @tup a xs ds hs hp =>
    cases (show u = Value.ref a from r)
    obtain ⟨its, rv, ht, _⟩ := I.tuple hs
    obtain ⟨o, ho, hc, n, hd⟩ := ht
    obtain ⟨as, q⟩ := RdL.readsAll I rv hp
    exact ⟨_, Reads.tuple ho hc hd (by simpa using q)⟩
theorem canLay_ints : ∀ ns : List Int, PyData.canLayAll0 (ns.map PyData.int) = true
  | [] => rfl
  | _ :: r => by simp [PyData.canLayAll0, PyData.canLay0, canLay_ints r]
theorem depth_ints : ∀ ns : List Int, PyData.depthAll (ns.map PyData.int) = 0
  | [] => rfl
  | _ :: r => by simp [PyData.depthAll, PyData.depth, depth_ints r]
theorem RdL.lay {K : PySem.W.Frag} {H : Hp} {v : V} {d : PyData} (h : RdL K H v d) : d.canLay0 = true ∧ d.depth ≤ 1 := by
  cases h with
  | int i => simp [PyData.canLay0, PyData.depth]
  | bl i => simp [PyData.canLay0, PyData.depth]
  | @lst a ns hs => simp [PyData.canLay0, PyData.depth, canLay_ints, depth_ints]
theorem RdL.layAll {K : PySem.W.Frag} {H : Hp} : ∀ {xs : List V} {ds : List PyData}, Paired (RdL K H) xs ds → PyData.canLayAll0 ds = true ∧ PyData.depthAll ds ≤ 1
  | _, _, .nil => by simp [PyData.canLayAll0, PyData.depthAll]
  | _, _, .cons r t => by
    have h1 := r.lay
    have h2 := RdL.layAll t
    simp only [PyData.canLayAll0, PyData.depthAll, h1.1, h2.1, Bool.and_self, true_and]
    have := h1.2
    have := h2.2
    omega
theorem RdT.shaped {K : PySem.W.Frag} {H : Hp} {v : V} {d : PyData} (h : RdT K H v d) : SeqAt.shaped d = true := by
  have : d.canLay0 = true ∧ d.depth ≤ 3 := by
    cases h with
    | of h => exact ⟨h.lay.1, by have := h.lay.2; omega⟩
    | @tup a xs ds hs hp =>
      have := RdL.layAll hp
      simp only [PyData.canLay0, PyData.depth, this.1, true_and]
      have := this.2
      omega
  unfold SeqAt.shaped
  rw [this.1, Bool.true_and]
  exact decide_eq_true (by have := this.2; omega)
theorem op_eqD (hu : X.A.units + 64 < cLine) : OpR X (compareOp .Eq) (fun x y H Q => ∃ d e, RdT X.K H x d ∧ RdT X.K H y e ∧ Q (.bl (PyData.eqv d e)) H) := by
  intro pins s σ H x y v u Q I rx ry h
  obtain ⟨d, e, h1, h2, q⟩ := h
  obtain ⟨as, ra⟩ := h1.reads I rx
  obtain ⟨bs, rb⟩ := h2.reads I ry
  exact eq_dataH ra rb h1.shaped h2.shaped hu ⟨.bl _, H, I, rfl, q⟩
end
theorem eqv_ints : ∀ ns ms : List Int, PyData.eqvAll (ns.map PyData.int) (ms.map PyData.int) = decide (ns = ms)
  | [], [] => by simp [PyData.eqvAll]
  | [], _ :: _ => by simp [PyData.eqvAll]
  | _ :: _, [] => by simp [PyData.eqvAll]
  | a :: r, b :: t => by
    simp only [List.map_cons, PyData.eqvAll, PyData.eqv, eqv_ints r t]
    by_cases h : a = b <;> by_cases h' : r = t <;> simp [h, h']
/-- == of lists of ints -/
def rEqL (K : PySem.W.Frag) : R2 := fun x y H Q => ∃ (a b : Addr) (ns ms : List Int), x = .ref a ∧ y = .ref b ∧ SqL K H a (ns.map V.int) ∧ SqL K H b (ms.map V.int) ∧ Q (.bl (decide (ns = ms))) H
def rNeL (K : PySem.W.Frag) : R2 := fun x y H Q => ∃ (a b : Addr) (ns ms : List Int), x = .ref a ∧ y = .ref b ∧ SqL K H a (ns.map V.int) ∧ SqL K H b (ms.map V.int) ∧ Q (.bl (!decide (ns = ms))) H
/-- a writing stands at p -/
structure WrAt (K : PySem.W.Frag) (H : Hp) (p la lg : Addr) (w : Int) (a g : List Int) : Prop where
  t : SqT K H p [.int w, .ref la, .ref lg]
  a : SqL K H la (a.map V.int)
  g : SqL K H lg (g.map V.int)
def rEqW (K : PySem.W.Frag) : R2 := fun x y H Q => ∃ (p la lg : Addr) (w : Int) (a g : List Int) (p' la' lg' : Addr) (w' : Int) (a' g' : List Int), x = .ref p ∧ y = .ref p' ∧ WrAt K H p la lg w a g ∧ WrAt K H p' la' lg' w' a' g' ∧ Q (.bl (decide (w = w' ∧ a = a' ∧ g = g'))) H
def rNeW (K : PySem.W.Frag) : R2 := fun x y H Q => ∃ (p la lg : Addr) (w : Int) (a g : List Int) (p' la' lg' : Addr) (w' : Int) (a' g' : List Int), x = .ref p ∧ y = .ref p' ∧ WrAt K H p la lg w a g ∧ WrAt K H p' la' lg' w' a' g' ∧ Q (.bl (!decide (w = w' ∧ a = a' ∧ g = g'))) H
/-- == of tuples of two ints -/
def rEqP (K : PySem.W.Frag) : R2 := fun x y H Q => ∃ (p : Addr) (i j : Int) (p' : Addr) (i' j' : Int), x = .ref p ∧ y = .ref p' ∧ SqT K H p [.int i, .int j] ∧ SqT K H p' [.int i', .int j'] ∧ Q (.bl (decide (i = i' ∧ j = j'))) H
def rNeP (K : PySem.W.Frag) : R2 := fun x y H Q => ∃ (p : Addr) (i j : Int) (p' : Addr) (i' j' : Int), x = .ref p ∧ y = .ref p' ∧ SqT K H p [.int i, .int j] ∧ SqT K H p' [.int i', .int j'] ∧ Q (.bl (!decide (i = i' ∧ j = j'))) H
theorem WrAt.rd {K : PySem.W.Frag} {H : Hp} {p la lg : Addr} {w : Int} {a g : List Int} (h : WrAt K H p la lg w a g) : RdT K H (.ref p) (.tuple [.int w, .list (a.map PyData.int), .list (g.map PyData.int)]) :=
  .tup h.t (.cons (.int w) (.cons (.lst h.a) (.cons (.lst h.g) .nil)))
theorem eqv_wr (w w' : Int) (a a' g g' : List Int) : PyData.eqv (.tuple [.int w, .list (a.map PyData.int), .list (g.map PyData.int)]) (.tuple [.int w', .list (a'.map PyData.int), .list (g'.map PyData.int)]) = decide (w = w' ∧ a = a' ∧ g = g') := by
  simp only [PyData.eqv, PyData.eqvAll, eqv_ints]
  by_cases h1 : w = w' <;> by_cases h2 : a = a' <;> by_cases h3 : g = g' <;> simp [h1, h2, h3]
section
variable {X : Cx}
theorem op_eqL (hu : X.A.units + 64 < cLine) : OpR X (compareOp .Eq) (rEqL X.K) := fun pins s σ H x y v u Q I rx ry h => by
  obtain ⟨a, b, ns, ms, rfl, rfl, h1, h2, q⟩ := h
  exact op_eqD hu pins s σ H _ _ v u Q I rx ry ⟨_, _, .of (.lst h1), .of (.lst h2), by simp only [PyData.eqv, eqv_ints]; exact q⟩
theorem op_eqW (hu : X.A.units + 64 < cLine) : OpR X (compareOp .Eq) (rEqW X.K) := fun pins s σ H x y v u Q I rx ry h => by
  obtain ⟨p, la, lg, w, a, g, p', la', lg', w', a', g', rfl, rfl, h1, h2, q⟩ := h
  exact op_eqD hu pins s σ H _ _ v u Q I rx ry ⟨_, _, h1.rd, h2.rd, by rw [eqv_wr]; exact q⟩
end
/-! ### tests, again -/
theorem iteDF {c A B : Prop} [Decidable c] (hc : ¬ c) (h : B) : if decide c = true then A else B := by
  rw [decide_eq_false hc]; exact iteF h
theorem iteDT {c A B : Prop} [Decidable c] (hc : c) (h : A) : if decide c = true then A else B := by
  rw [decide_eq_true hc]; exact iteT h
theorem iteNDF {c A B : Prop} [Decidable c] (hc : c) (h : B) : if (!decide c) = true then A else B := iteNS hc h
theorem iteNDT {c A B : Prop} [Decidable c] (hc : ¬ c) (h : A) : if (!decide c) = true then A else B := by
  rw [decide_eq_false hc]; exact iteT h
theorem ite2D {c A B : Prop} [Decidable c] (h1 : c → A) (h2 : ¬ c → B) : if decide c = true then A else B := by
  by_cases h : c
  · exact iteDT h (h1 h)
  · exact iteDF h (h2 h)
theorem ite2N {c A B : Prop} [Decidable c] (h1 : ¬ c → A) (h2 : c → B) : if (!decide c) = true then A else B := by
  by_cases h : c
  · exact iteNDF h (h2 h)
  · exact iteNDT h (h1 h)
/-! ### what is kept -/
theorem Same.tup {K : PySem.W.Frag} {H H' : Hp} {a : Addr} {xs : List V} (e : Same H H') (h : SqT K H a xs) : SqT K H' a xs := by
  rcases h with (h | ⟨o, h⟩) | h
  · exact .inl (.inl (e _ _ h))
  · exact .inl (.inr ⟨o, e _ _ h⟩)
  · exact .inr h
theorem Same.upd {H : Hp} {a : Addr} {o : HO} (h : H a = none) : Same H (upd H a o) := fun b u e => by rw [upd_ne (ne_of_none e h)]; exact e
theorem Same.upd2 {H H' : Hp} {a : Addr} {o : HO} (s : Same H H') (h : H a = none) : Same H (L2.upd H' a o) := fun b u e => by rw [upd_ne (ne_of_none e h)]; exact s b u e
theorem Same.wr {K : PySem.W.Frag} {H H' : Hp} {p la lg : Addr} {w : Int} {a g : List Int} (e : Same H H') (h : WrAt K H p la lg w a g) : WrAt K H' p la lg w a g := ⟨e.tup h.t, e.seq h.a, e.seq h.g⟩
theorem map_int_cut {xs : List Int} {lo hi : Option Int} : cutV (xs.map V.int) lo hi = (((xs.drop (HT.sIx xs.length 0 lo)).take (HT.sIx xs.length xs.length hi - HT.sIx xs.length 0 lo))).map V.int := by
  unfold cutV
  rw [List.length_map, List.map_take, List.map_drop]
end L2
namespace L2
open PySem PySem.Spec PyProof.Rows
theorem kit_int_bool {K : PySem.W.Frag} : PySem.W.kitOne K (.type "int") (.type "bool") = some false := by
  have h0 : ((Value.type "int") == (Value.type "bool")) = false := by decide +kernel
  have h1 : PySem.W.kitMeta "bool" = true := by decide +kernel
  have h2 : PySem.W.subIn K (.type "int") (.type "bool") = some false := by
    show (fastBuiltinMro "int").map (·.contains (Value.type "bool")) = some false
    decide +kernel
  unfold PySem.W.kitOne PySem.W.kitCls
  rw [h0, if_neg (by decide)]
  show (if PySem.W.kitMeta "bool" = true then PySem.W.subIn K (.type "int") (.type "bool") else none) = some false
  rw [if_pos h1, h2]
section
variable {X : Cx}
/-! ### products and quotients of long ints -/
def CDivB (i j : Int) : Prop := 0 < j ∧ Builtin.divisionGoesByPylong i j = false
end
theorem intBits_le {x : Int} {m : Nat} (h : x.natAbs < 2 ^ m) : Builtin.Int.intBits x ≤ m := by
  unfold Builtin.Int.intBits
  by_cases e : (x == 0) = true
  · rw [if_pos e]; exact Nat.zero_le _
  · rw [if_neg e]
    have h0 : x.natAbs ≠ 0 := by
      intro z
      apply e
      have : x = 0 := by omega
      rw [this]; rfl
    have := (Nat.log2_lt h0).mpr h
    omega
theorem mulOk_of {x y : Int} {m n : Nat} (hx : x.natAbs < 2 ^ m) (hy : y.natAbs < 2 ^ n) (h : m + n ≤ 134217728) : IntMulOk x y := by
  have h1 := intBits_le hx
  have h2 := intBits_le hy
  have hc : Builtin.Int.intTooBig (Builtin.Int.intBits x + Builtin.Int.intBits y) = false := by
    unfold Builtin.Int.intTooBig bitsLine
    exact decide_eq_false (by omega)
  unfold IntMulOk
  rw [hc]
  simp
end L2

set_option Elab.async false
set_option maxRecDepth 100000
set_option maxHeartbeats 2000000
namespace L2
open PySem PySem.Spec PyProof.Rows
/-! ### a comprehension of one clause without tests: [elt for x in iter] -/
/-- the cells that a block takes from its def -/
def clStep (env : Env) (cs : List (Str × Addr)) (p : Str × NameKind) : List (Str × Addr) := if p.2 == .free then (p.1, (env.cells.lookup p.1).getD 0) :: cs else cs
def clOf (sc : Scope) (env : Env) : List (Str × Addr) := sc.names.foldl (clStep env) []
def frees (sc : Scope) (env : Env) : Bool := sc.names.all fun p => !(p.2 == .free) || (env.cells.lookup p.1).isSome
theorem closure_is {sc : Scope} {env : Env} (h : frees sc env = true) : closureFor sc env = pure (clOf sc env) := by
  have key : ∀ (l : List (Str × NameKind)) (cs : List (Str × Addr)), (l.all fun p => !(p.2 == .free) || (env.cells.lookup p.1).isSome) = true →
      (forIn l cs fun (x : Str × NameKind) (r : List (Str × Addr)) => (match x with
        | (name, kind) => if (kind == NameKind.free) = true then (do let a ← cellOf env name; pure (ForInStep.yield ((name, a) :: r))) else pure (ForInStep.yield r) : Sem (ForInStep (List (Str × Addr))))) = (pure (l.foldl (clStep env) cs) : Sem (List (Str × Addr))) := by
    intro l
    induction l with
    | nil => intro cs _; rfl
    | cons p l ih =>
      intro cs hl
      rw [List.all_cons, Bool.and_eq_true] at hl
      rw [List.forIn_cons, List.foldl_cons]
      obtain ⟨name, kind⟩ := p
      by_cases hk : (kind == NameKind.free) = true
      · have h1 : (env.cells.lookup name).isSome = true := by
          have := hl.1
          rw [hk] at this
          exact this
        obtain ⟨c, hc⟩ := Option.isSome_iff_exists.mp h1
        have e1 : clStep env cs (name, kind) = (name, c) :: cs := by unfold clStep; rw [if_pos hk, hc]; rfl
        have e2 : cellOf env name = pure c := by unfold cellOf; rw [hc]
        dsimp only
        rw [if_pos hk, e2, e1, pure_bind, pure_bind]
        exact ih _ hl.2
      · have e1 : clStep env cs (name, kind) = cs := by unfold clStep; rw [if_neg hk]
        dsimp only
        rw [if_neg hk, e1, pure_bind]
        exact ih _ hl.2
  have := key sc.names [] h
  show (forIn sc.names ([] : List (Str × Addr)) _ >>= fun s => pure s) = _
  rw [bind_pure]
  exact this
theorem clOf_mem {sc : Scope} {env : Env} (h : frees sc env = true) : ∀ p ∈ clOf sc env, env.cells.lookup p.1 = some p.2 := by
  have key : ∀ (l : List (Str × NameKind)) (cs : List (Str × Addr)), (l.all fun p => !(p.2 == .free) || (env.cells.lookup p.1).isSome) = true → (∀ p ∈ cs, env.cells.lookup p.1 = some p.2) → ∀ p ∈ l.foldl (clStep env) cs, env.cells.lookup p.1 = some p.2 := by
    intro l
    induction l with
    | nil => intro cs _ hc p hp; exact hc p hp
    | cons q l ih =>
      intro cs hl hc p hp
      rw [List.all_cons, Bool.and_eq_true] at hl
      rw [List.foldl_cons] at hp
      refine ih _ hl.2 (fun r hr => ?_) p hp
      unfold clStep at hr
      by_cases hk : (q.2 == NameKind.free) = true
      · rw [if_pos hk] at hr
        rcases List.mem_cons.mp hr with rfl | hr
        · have h1 : (env.cells.lookup q.1).isSome = true := by
            have := hl.1
            rw [hk] at this
            exact this
          obtain ⟨c, hcc⟩ := Option.isSome_iff_exists.mp h1
          show env.cells.lookup q.1 = some ((env.cells.lookup q.1).getD 0)
          rw [hcc]; rfl
        · exact hc r hr
      · rw [if_neg hk] at hr
        exact hc r hr
  exact key sc.names [] h (fun p hp => by simp at hp)
theorem lookup_mem {β : Type} : ∀ {l : List (Str × β)} {y : Str} {c : β}, l.lookup y = some c → (y, c) ∈ l
  | [], _, _, h => by simp at h
  | (z, d) :: l, y, c, h => by
    rw [List.lookup_cons] at h
    by_cases e : (y == z) = true
    · rw [e] at h
      have e1 : y = z := eq_of_beq e
      have h : d = c := by simpa using h
      rw [e1, h]; exact List.mem_cons_self
    · have e : (y == z) = false := by simpa using e
      rw [e] at h
      exact List.mem_cons_of_mem _ (lookup_mem h)
theorem clOf_lookup {sc : Scope} {env : Env} (h : frees sc env = true) {y : Str} {c : Addr} (e : (clOf sc env).lookup y = some c) : env.cells.lookup y = some c := clOf_mem h (y, c) (lookup_mem e)
/-- the block's context -/
def cxB (X : Cx) (sc : Scope) (C : Addr) (N' : List Str) (s0 : Shared) (H0 : Hp) (fp : List Addr) : Cx :=
  { X with N := N', s₀ := s0, H₀ := H0, env := compEnvC sc (clOf sc X.env) C X.env, outer := X.stack, stack := X.stack, ex := fp, fn := fun _ => false, pn := [], xe := fun _ _ => False }
/-- what a captured name (with its slot) must have -/
def capsOk (X : Cx) (sc : Scope) : List (Str × Nat) → Prop
  | [] => True
  | p :: r => (X.N[p.2]? = some p.1 ∧ Vis X.env.scope p.1 ∧ (X.env.kindOf p.1 = some .cell ∨ X.env.kindOf p.1 = some .free) ∧ ((relabel sc X.env).names.lookup p.1 = some .cell ∨ (relabel sc X.env).names.lookup p.1 = some .free) ∧ ((clOf sc X.env).lookup p.1).isSome = true) ∧ capsOk X sc r
structure CompOk (X : Cx) (sc : Scope) (x : Str) (caps : List (Str × Nat)) : Prop where
  kind : sc.kind = .function
  nocell : ∀ y ∈ sc.names, y.2 ≠ .cell
  names : ∀ y ∈ sc.names, y.2 = .local → sc.names.lookup y.1 = some .local
  loc : sc.names.lookup x = some .local
  free : frees sc X.env = true
  rel : ((relabel sc X.env).names.all fun p => !(p.2 == .cell || p.2 == .free) || ((clOf sc X.env).lookup p.1).isSome) = true
  cap : capsOk X sc caps
  nd : (x :: caps.map (·.1)).Nodup
theorem capsOk_get {X : Cx} {sc : Scope} : ∀ {caps : List (Str × Nat)} {j : Nat} {p : Str × Nat}, capsOk X sc caps → caps[j]? = some p →
    X.N[p.2]? = some p.1 ∧ Vis X.env.scope p.1 ∧ (X.env.kindOf p.1 = some .cell ∨ X.env.kindOf p.1 = some .free) ∧ ((relabel sc X.env).names.lookup p.1 = some .cell ∨ (relabel sc X.env).names.lookup p.1 = some .free) ∧ ((clOf sc X.env).lookup p.1).isSome = true
  | [], _, _, _, e => by simp at e
  | q :: r, 0, p, h, e => by
    have : q = p := by simpa using e
    subst this
    exact h.1
  | q :: r, j + 1, p, h, e => capsOk_get h.2 (by simpa using e)
/-- the block's slots: the turn's name, then what it takes from the def -/
def capsV (caps : List (Str × Nat)) (σ : St) : St := caps.map fun p => (σ[p.2]?).join
section
variable {X : Cx} {pins : List (Addr × Obj)} {σ : St} {H2 : Hp} {s2 : Shared} {sc : Scope} {x : Str} {caps : List (Str × Nat)} {fp : List Addr} {C : Addr}
theorem cxB_ok (I : Inv X pins σ H2 s2) (O : CompOk X sc x caps) (f2 : ∀ b ∈ fp, FpOk X pins H2 b) (hfp : ∀ b ∈ fp, b < s2.heap.objs.size) (hC : s2.heap.objs.size ≤ C) :
    (cxB X sc C (x :: caps.map (·.1)) s2 H2 fp).Ok where
  mod := I.ok.mod
  kind := O.kind
  glob := I.ok.glob
  blt := I.ok.blt
  above := hC
  inj := fun y z c h1 h2 => I.ok.inj y z c (clOf_lookup O.free h1) (clOf_lookup O.free h2)
  has := fun y hy => by
    have hy : (relabel sc X.env).names.lookup y = some .cell ∨ (relabel sc X.env).names.lookup y = some .free := hy
    have hall := List.all_eq_true.mp O.rel
    rcases hy with hy | hy
    · have := hall _ (lookup_mem hy)
      exact Option.isSome_iff_exists.mp this
    · have := hall _ (lookup_mem hy)
      exact Option.isSome_iff_exists.mp this
  cab := fun y c h _ => by cases h
  hd := I.ok.hd
  frames := I.ok.frames
  stk := .inl rfl
  exf := fun b hb => ⟨Nat.ne_of_lt (Nat.lt_of_lt_of_le (hfp b hb) hC), fun y c h => (f2 b hb).2.2.2.2.1 y c (clOf_lookup O.free h)⟩
  bs := I.bs
  bsz := Nat.le_trans I.ok.bsz I.sz
  noex := fun b o e hb => by
    rcases (f2 b hb).2.2.2.1 with h | h
    · exact I.ok.noex b o e h
    · exact absurd h (Nat.not_le.mpr (Heap.lt_size (I.ok.bs b o e).1))
  exfs := fun b hb hf => by
    rcases List.mem_cons.mp (I.stkSub b hf) with h | h
    · exact (f2 b hb).2.1 h
    · exact (f2 b hb).2.2.1 h
  funs := I.stack
  frf := I.stkFree
/-- the block's start: the list laid at D, the block's names at C -/
theorem cxB_start {s4 : Shared} {D : Addr} {m : Str → Option Value} (I : Inv X pins σ H2 s2) (O : CompOk X sc x caps) (f2 : ∀ b ∈ fp, FpOk X pins H2 b) (hfp : ∀ b ∈ fp, b < s2.heap.objs.size) (hC : s2.heap.objs.size ≤ C)
    (hD : s2.heap.objs.size ≤ D) (hCD : C ≠ D) (hos : s4.os = s2.os) (hg : s4.gens = s2.gens) (k : ∀ b o, s2.heap.get? b = some o → s4.heap.get? b = some o) (hns : s4.heap.Ns C m)
    (hl : s4.heap.get? D = some { cls := .type "list", data := .seq #[] }) :
    Inv (cxB X sc C (x :: caps.map (·.1)) s2 H2 fp) [] (none :: capsV caps σ) (upd H2 D (.lst [])) s4 where
  ok := cxB_ok I O f2 hfp hC
  os := hos
  bare := by rw [hg]; exact I.bare
  base := Un.laid k hD (I.hok.fresh hD)
  loc := by
    refine ⟨m, hns, fun i y v h1 h2 _ => ?_⟩
    cases i with
    | zero => simp at h2
    | succ j =>
      have h2 : (capsV caps σ)[j]? = some (some v) := by simpa using h2
      unfold capsV at h2
      rw [List.getElem?_map] at h2
      cases e : caps[j]? with
      | none => rw [e] at h2; cases h2
      | some p =>
        rw [e] at h2
        have h3 : (σ[p.2]?).join = some v := Option.some.inj h2
        have h4 : σ[p.2]? = some (some v) := by
          cases q : σ[p.2]? with
          | none => rw [q] at h3; cases h3
          | some z => rw [q] at h3; rw [show z = some v from h3]
        have ey : y = p.1 := by
          have h1 : (caps.map (·.1))[j]? = some y := by simpa [cxB] using h1
          rw [List.getElem?_map, e] at h1
          exact (Option.some.inj h1).symm
        subst ey
        obtain ⟨c1, c2, c3, c4, c5⟩ := capsOk_get O.cap e
        obtain ⟨m0, _, hloc⟩ := I.loc
        obtain ⟨u, ru, lk⟩ := hloc p.2 p.1 v c1 h4 c2
        refine ⟨u, ru, .inr ⟨c4, ?_⟩⟩
        obtain ⟨c, hc⟩ := Option.isSome_iff_exists.mp c5
        refine ⟨c, hc, ?_⟩
        rcases lk with ⟨z, _⟩ | ⟨_, c', hc', hcell⟩
        · rcases c3 with c3 | c3 <;> (rw [z] at c3; cases c3)
        · have := clOf_lookup O.free hc
          rw [hc'] at this
          cases this
          obtain ⟨o, ho, hd⟩ := hcell
          exact ⟨o, k _ _ ho, hd⟩
  cell := fun y c h => by
    obtain ⟨v, o, ho, hd⟩ := I.cell y c (clOf_lookup O.free h)
    exact ⟨v, o, k _ _ ho, hd⟩
  free := by
    show upd H2 D (.lst []) C = none
    rw [upd_ne hCD]; exact I.hok.fresh hC
  freeC := fun y c h => by
    have h1 := clOf_lookup O.free h
    obtain ⟨v, o, ho, _⟩ := I.cell y c h1
    have : c ≠ D := Nat.ne_of_lt (Nat.lt_of_lt_of_le (Heap.lt_size ho) hD)
    rw [upd_ne this]
    exact I.freeC y c h1
  pin := fun p hp => by simp [cxB] at hp
  hok := I.hok.laid k hD ⟨Nat.zero_le _, [], 0, .nil, hl⟩
  len := by simp [cxB, capsV]
/-- the reading of a comprehension: W by the turn, a measure, the heap and the list so far -/
def tComp (caps : List (Str × Nat)) (wi : TI) (te : TE) : TE := fun σ H Q => wi σ H fun J H1 => ∀ D, H1 D = none → ∃ W : Nat → Nat → Hp → List V → Prop, (∃ m, W 0 m (upd H1 D (.lst [])) []) ∧
  ∀ i m H2 ys, W i m H2 ys → H2 D = some (.lst ys) ∧ ((J.stop i H2 ∧ Q (.ref D) H2) ∨ (J.go i H2 ∧ ys.length < sizeLine ∧ ∀ x H3, J.yld i H2 x H3 →
    te (some x :: capsV caps σ) H3 fun y H4 => H4 D = some (.lst ys) ∧ ∃ m', m' < m ∧ W (i + 1) m' (upd H4 D (.lst (ys ++ [y]))) (ys ++ [y])))
/-- one turn, with the step ahead of the store -/
theorem compLoop_turn {prog : Program} {w : World} {A : Around} {R : Result → Shared → Prop} {s : Shared} {elt target iter : Expr} {scope : Scope} {pos : Pos} {it acc : Value} {env : Env} (I : Nat → Shared → Prop)
    (turn : ∀ n s, I n s → ∀ E : Value → Shared → Prop, wpAny (model prog w) A (pyNext it) (fun r s₁ => match r with
      | none => R (.ok .next) s₁
      | some v => wpAny (model prog w) A (letOwnedTupleGo target it v) (fun _ s₁' => wpAny (model prog w) A (assign target env v) (fun _ s₂ => wpAny (model prog w) A (eval elt env) (fun x s₃ =>
          wpAny (model prog w) A (call (.builtin "list.append") [acc, x]) (fun _ s₄ => ∃ m, m < n ∧ I m s₄) E s₃) E s₂) E s₁') E s₁) E s)
    (n : Nat) (h : I n s) : codeAny (model prog w) A (.compLoop (.ListComp elt [⟨target, iter, [], 0⟩] scope pos) 0 it acc env) R s := by
  refine codeAny_loop rfl I (fun n s hI => ?_) n h
  show wpAny _ _ ((compTurn (.ListComp elt [⟨target, iter, [], 0⟩] scope pos) 0 it acc env).onRaise (fun x => do noteFrame x env; theTreesLotGoes x)) _ _ s
  refine wpAny_noted ?_
  rw [compTurn_list1]
  refine wpAny_bind (wpAny_standAt (wpAny_bind (wpAny_mono (turn n s hI _) (fun r s₁ h₁ => ?_) fun _ _ h' => h')))
  cases r with
  | none => exact wpAny_pure h₁
  | some v =>
    exact wpAny_bind (wpAny_mono h₁ (fun _ s₁' h₁' => wpAny_bind (wpAny_mono h₁' (fun _ s₂ h₂ => wpAny_bind (wpAny_bind (wpAny_mono h₂ (fun x s₃ h₃ => wpAny_bind (wpAny_mono h₃
      (fun _ s₄ h₄ => wpAny_pure (wpAny_pure ⟨rfl, h₄⟩)) fun _ _ h' => h')) fun _ _ h' => h'))) fun _ _ h' => h')) fun _ _ h' => h')
/-- the block runs -/
theorem comp_run {elt iter : Expr} {px pos : Pos} {te : TE} {J : It} {it : Addr} {tn : Nat → Heap → Prop} {Q : VK} {E : Value → Shared → Prop} {RR : Value → Addr → Result → Shared → Prop} (hc : X.calm = true)
    (I : Inv X pins σ H2 s2) (T : Turn X.prog X.w X.K (.Name x px) J fp it tn) (st : tn 0 s2.heap) (f2 : ∀ b ∈ fp, FpOk X pins H2 b) (O : CompOk X sc x caps)
    (he : ∀ C s0 H0 fp, PE (cxB X sc C (x :: caps.map (·.1)) s0 H0 fp) elt te)
    (h : ∀ D, H2 D = none → ∃ W : Nat → Nat → Hp → List V → Prop, (∃ m, W 0 m (upd H2 D (.lst [])) []) ∧
      ∀ i m H2 ys, W i m H2 ys → H2 D = some (.lst ys) ∧ ((J.stop i H2 ∧ Q (.ref D) H2) ∨ (J.go i H2 ∧ ys.length < sizeLine ∧ ∀ x H3, J.yld i H2 x H3 →
        te (some x :: capsV caps σ) H3 fun y H4 => H4 D = some (.lst ys) ∧ ∃ m', m' < m ∧ W (i + 1) m' (upd H4 D (.lst (ys ++ [y]))) (ys ++ [y]))))
    (hRR : ∀ D C s' H' m, s2.heap.objs.size ≤ C → H' C = none → Inv X pins σ H' s' → Q (.ref D) H' → s'.heap.Ns C m → RR (.ref D) C (.ok .next) s') :
    wpAny (model X.prog X.w) X.A (newList []) (fun acc s₃ => wpAny (model X.prog X.w) X.A (newFunctionEnv sc X.env.globals (clOf sc X.env) [] X.env.qual none .none (some X.env)) (fun cenv s₄ =>
      codeAny (model X.prog X.w) X.A (.compStart (.ListComp elt [⟨.Name x px, iter, [], 0⟩] sc pos) 0 (.ref it) acc { cenv with scope := relabel sc X.env }) (RR acc cenv.locals) s₄) E s₃) E s2 := by
  have hfp : ∀ b ∈ fp, b < s2.heap.objs.size := fun b hb => by
    obtain ⟨o, ho, _⟩ := T.obj 0 _ st b hb
    exact Heap.lt_size ho
  refine wpAny_newObj_type (wpAny_newFunctionEnv O.nocell (by intro y hy; simp at hy) (fun h₁ hns₁ hsb₁ => ?_) O.kind)
  dsimp only at hns₁ hsb₁ ⊢
  generalize hH2 : s2.heap.push { cls := .type "list", dict := none, data := .seq ([] : List Value).toArray } = G2 at hns₁ hsb₁ ⊢
  have hC : G2.objs.size = s2.heap.objs.size + 1 := by rw [← hH2, Heap.size_push]
  have hDC : s2.heap.objs.size ≠ G2.objs.size := by rw [hC]; exact Nat.ne_of_lt (Nat.lt_succ_self _)
  have hCle : s2.heap.objs.size ≤ G2.objs.size := by rw [hC]; exact Nat.le_succ _
  have old : ∀ b o, s2.heap.get? b = some o → h₁.get? b = some o := fun b o e =>
    hsb₁.extBut b o (by rw [hC]; exact Nat.ne_of_lt (Nat.lt_succ_of_lt (Heap.lt_size e))) (Heap.get?_push_of_some _ (hH2 ▸ Heap.get?_push_of_some _ e))
  have hacc : h₁.get? s2.heap.objs.size = some { cls := .type "list", data := .seq #[] } := hsb₁.extBut _ _ hDC (Heap.get?_push_of_some _ (hH2 ▸ Heap.get?_push_size _ rfl))
  have hst₁ : tn 0 h₁ := T.keep 0 _ _ st fun b _ o e => old b o e
  have I4 : Inv (cxB X sc G2.objs.size (x :: caps.map (·.1)) s2 H2 fp) [] (none :: capsV caps σ) (upd H2 s2.heap.objs.size (.lst [])) { s2 with heap := h₁, toks := s2.toks + ([] : List (Str × Value)).length } :=
    cxB_start I O f2 hfp hCle (Nat.le_refl _) hDC.symm rfl rfl old hns₁ hacc
  obtain ⟨W, ⟨m0, w0⟩, turn⟩ := h s2.heap.objs.size (I.hok.fresh (Nat.le_refl _))
  have stat : ∀ {H' : Hp}, (∀ b ∈ fp, H' b = none) → ∀ b ∈ fp, FpOk (cxB X sc G2.objs.size (x :: caps.map (·.1)) s2 H2 fp) [] H' b := fun hn b hb =>
    ⟨hn b hb, ((cxB_ok I O f2 hfp hCle).exf b hb).1, (cxB_ok I O f2 hfp hCle).exfs b hb, .inl hb, ((cxB_ok I O f2 hfp hCle).exf b hb).2, fun p hp => by simp [cxB] at hp⟩
  have fr0 : ∀ b ∈ fp, upd H2 s2.heap.objs.size (.lst []) b = none := fun b hb => by
    rw [upd_ne (Nat.ne_of_lt (hfp b hb))]; exact (f2 b hb).1
  have loop : ∀ s₃ : Shared, s₃ = { s2 with heap := h₁, toks := s2.toks + ([] : List (Str × Value)).length } →
      codeAny (model X.prog X.w) X.A (.compLoop (.ListComp elt [⟨.Name x px, iter, [], 0⟩] sc pos) 0 (.ref it) (.ref s2.heap.objs.size) (compEnvC sc (clOf sc X.env) G2.objs.size X.env))
        (RR (.ref s2.heap.objs.size) G2.objs.size) s₃ := by
    rintro s₃ rfl
    refine compLoop_turn (fun n s' => ∃ i v0 H' ys, Inv (cxB X sc G2.objs.size (x :: caps.map (·.1)) s2 H2 fp) [] (v0 :: capsV caps σ) H' s' ∧ tn i s'.heap ∧ (∀ b ∈ fp, H' b = none) ∧ W i n H' ys) ?_ m0 ⟨0, _, _, _, I4, hst₁, fr0, w0⟩
    rintro n s3 ⟨i, v0, H3, ys, I3, st3, fr3, w3⟩ E'
    obtain ⟨hDl, hw⟩ := turn i n H3 ys w3
    rcases hw with ⟨stop, qn⟩ | ⟨go, hlen, step⟩
    · refine thn (T.done (cxB X sc G2.objs.size (x :: caps.map (·.1)) s2 H2 fp) rfl rfl rfl hc i [] s3 _ H3 E' I3 (stat fr3) st3 stop) fun r s4 ⟨hr, I4'⟩ => ?_
      subst hr
      obtain ⟨m, hn, _⟩ := I4'.loc
      refine hRR _ _ s4 H3 m hCle I4'.free (I.call' (ch := fp) I4'.os I4'.base I4'.hok I4'.bare fun b hb => ⟨(f2 b hb).2.2.2.1, (f2 b hb).2.1, (f2 b hb).2.2.2.2.1, (f2 b hb).2.2.2.2.2⟩) qn hn
    · refine thn (T.item (cxB X sc G2.objs.size (x :: caps.map (·.1)) s2 H2 fp) rfl rfl rfl hc i [] s3 _ H3 E' I3 (stat fr3) st3 go) fun r s4 ⟨u, hr, h4⟩ => ?_
      subst hr
      refine thn h4 fun _ s5 ⟨y, H5, I5, r5, y5, st5, fr5⟩ => ?_
      have I5' := I5.pinned (stat fr5) (T.obj _ _ st5)
      have hgn : PG (cxB X sc G2.objs.size (x :: caps.map (·.1)) s2 H2 fp) (.Name x px) (gName 0) := pg_name O.nd rfl (.inl (lookup_relabel_local O.loc)) (.inr (lookup_relabel_local O.loc))
      refine wpAny_mono (hgn _ s5 _ H5 y u (fun σ' H' => σ' = some y :: capsV caps σ ∧ H' = H5) I5' r5 ⟨rfl, rfl⟩) (fun _ s6 ⟨σ6, H6, I6, e6, e6'⟩ => ?_) (fun _ _ z => z.elim)
      subst e6 e6'
      refine wpAny_mono (he _ _ _ _ _ s6 _ H6 _ I6 (step y H6 y5)) (fun vz s7 ⟨z, H7, I7, r7, q7, m', hm', w7⟩ => ?_) (fun _ _ z => z.elim)
      refine wpAny_mono (mt_append (X := cxB X sc G2.objs.size (x :: caps.map (·.1)) s2 H2 fp) _ s7 _ H7 (.ref s2.heap.objs.size) [z] _ [vz] (fun _ H' => H' = upd H7 s2.heap.objs.size (.lst (ys ++ [z]))) I7 rfl (.cons r7 .nil)
        ⟨_, ys, z, rfl, rfl, q7, hlen, rfl⟩) (fun _ s8 ⟨_, H8, I8, _, e8⟩ => ?_) (fun _ _ z => z.elim)
      subst e8
      refine ⟨m', hm', i + 1, _, _, _, I8.unpinned, T.keep _ _ _ st5 fun b hb o e => (I8.pin (b, o) (List.mem_append_right _ (List.mem_append_right _ (mem_pinsAt hb e)))).1, fun b hb => ?_, w7⟩
      obtain ⟨o, e, d⟩ := T.obj _ _ st5 b hb
      exact (I8.pin (b, o) (List.mem_append_right _ (List.mem_append_right _ (mem_pinsAt hb e)))).2.1
  exact codeAny_compStart_list (loop _ rfl) (T.self _ 0 _ _ _ hst₁ (loop _ rfl))
/-- forgetting the block's names -/
theorem Inv.letGo {H' : Hp} {s' : Shared} {h' : Heap} (I : Inv X pins σ H' s') (hC : X.s₀.heap.objs.size ≤ C) (hn : H' C = none) (hL : C ≠ X.env.locals) (hcl : ∀ y c, X.env.cells.lookup y = some c → c ≠ C) (hpin : ∀ p ∈ X.pn ++ pins, p.1 ≠ C) (hs : Heap.SameBut C s'.heap h') :
    Inv X pins σ H' { s' with heap := h' } :=
  I.turned (t' := s'.toks) (fun b o hb e => hs.extBut b o hb e) hn hL (.inr hC) hcl hpin
/-- [elt for x in iter] as a value -/
theorem pe_comp {elt iter : Expr} {px pos : Pos} {wi : TI} {te : TE} (caps : List (Str × Nat)) (hc : X.calm = true) (hi : PI X (.Name x px) iter wi) (O : CompOk X sc x caps) (he : ∀ C s0 H0 fp, PE (cxB X sc C (x :: caps.map (·.1)) s0 H0 fp) elt te)
    (hs : ∀ x, foldedSetIterable iter X.env x = pure x := by intro _; rfl) : PE X (.ListComp elt [⟨.Name x px, iter, [], 0⟩] sc pos) (tComp caps wi te) := by
  intro pins s σ H Q I h
  rw [eval_ListComp]
  refine wpAny_comprehension_free (use := none) rfl hs (closure_is O.free) O.kind O.names (thn (hi pins s σ H _ I h) fun v s1 h1 => thn h1 fun itv s2 h2 => ?_)
  obtain ⟨it, fp, tn, J, H2, e, I2, T, st2, f2, hR⟩ := h2
  subst e
  refine comp_run (RR := fun acc C => compPost (model X.prog X.w) X.A X.xe none (EP X pins σ Q) acc C) hc I2 T st2 f2 O he hR ?_
  intro D C s' H' m hC hn I' q hns
  have hlt : ∀ b, b < s2.heap.objs.size → b ≠ C := fun b hb => Nat.ne_of_lt (Nat.lt_of_lt_of_le hb hC)
  refine ⟨m, hns, fun h' hs' => ⟨.ref D, H', I'.letGo (Nat.le_trans I2.sz hC) hn (hlt _ I2.lt).symm (fun y c hy => ?_) (fun p hp => ?_) hs', rfl, q⟩⟩
  · obtain ⟨_, o, ho, _⟩ := I2.cell y c hy
    exact hlt _ (Heap.lt_size ho)
  · exact hlt _ (Heap.lt_size (I2.pin p hp).1)
/-- y = [elt for x in iter] -/
theorem ps_comp {elt iter : Expr} {px py pos spos : Pos} {wi : TI} {te : TE} {i : Nat} {y : Str} (caps : List (Str × Nat)) (hN : X.N.Nodup) (hi' : X.N[i]? = some y) (hy : Loc X.env.scope y) (hc : X.calm = true) (hi : PI X (.Name x px) iter wi) (O : CompOk X sc x caps) (he : ∀ C s0 H0 fp, PE (cxB X sc C (x :: caps.map (·.1)) s0 H0 fp) elt te)
    (hsw : swapsWith (.ListComp elt [⟨.Name x px, iter, [], 0⟩] sc pos) (some (.Name y py)) spos.line X.env = pure true := by rfl)
    (hs : ∀ x, foldedSetIterable iter X.env x = pure x := by intro _; rfl) (hf : X.fn y = true ∨ X.env.scope.names.lookup y = some .local := by first | exact .inl rfl | exact .inr rfl) :
    PS X (.Assign [.Name y py] (.ListComp elt [⟨.Name x px, iter, [], 0⟩] sc pos) spos) (tAsg (tComp caps wi te) (gName i)) := by
  intro pins s σ H D0 I h
  rw [exec_Assign_Name_used _ _ _ _ hsw]
  refine wpAny_bind (wpAny_standAt (wpAny_bind ?_))
  show wpAny _ X.A (do let _ ← comprehension (.ListComp elt [⟨.Name x px, iter, [], 0⟩] sc pos) sc X.env _ (newList []) false (eval iter X.env) (some (assign (.Name y py) X.env))) _ _ s
  refine wpAny_bind (wpAny_mono (wpAny_comprehension_free (use := some (assign (.Name y py) X.env)) (Q := fun _ s' => SP X pins D0 .next s') rfl hs (closure_is O.free) O.kind O.names
    (thn (hi pins s σ H _ I h) fun v s1 h1 => thn h1 fun itv s2 h2 => ?_)) (fun _ s' hq => wpAny_pure (wpAny_pure hq)) fun _ _ e => e)
  obtain ⟨it, fp, tn, J, H2, e, I2, T, st2, f2, hR⟩ := h2
  subst e
  refine comp_run (RR := fun acc C => compPost (model X.prog X.w) X.A X.xe (some (assign (.Name y py) X.env)) (fun _ s' => SP X pins D0 .next s') acc C) (Q := fun v H1 => gName i v σ H1 D0.nx) hc I2 T st2 f2 O he hR ?_
  intro D C s' H' m hC hn I' q hns
  have hlt : ∀ b, b < s2.heap.objs.size → b ≠ C := fun b hb => Nat.ne_of_lt (Nat.lt_of_lt_of_le hb hC)
  have hcl : ∀ z c, X.env.cells.lookup z = some c → c ≠ C := fun z c hz => by
    obtain ⟨_, o, ho, _⟩ := I2.cell z c hz
    exact hlt _ (Heap.lt_size ho)
  show wpAny _ X.A (assign (.Name y py) X.env (.ref D)) _ _ _
  refine wpAny_assign_Name (store_ok2 (v := .ref D) I' hN hi' hy rfl (fun s6 I6 ⟨a, hsb, ha⟩ => ?_) hf)
  have haC : C ≠ a := by
    rcases ha with ha | ha
    · rw [ha]; exact (hlt _ I2.lt).symm
    · exact (hcl y a ha).symm
  refine ⟨m, hns.sameBut hsb haC, fun h' hs' => ⟨_, H', I6.letGo (Nat.le_trans I2.sz hC) hn (hlt _ I2.lt).symm hcl (fun p hp => hlt _ (Heap.lt_size (I2.pin p hp).1)) hs', q⟩⟩
end
/-! ### the forms one uses: the element leaves the heap as it is -/
/-- over a range -/
theorem comp_range {lo : Int} {n : Nat} {D : Addr} {te : TE} {cs : St} {H1 : Hp} {Q : Hp → Prop} (f : Nat → V) (hz : n ≤ sizeLine) (hD : H1 D = none)
    (step : ∀ i H, i < n → Same H1 H → ∀ R : VK, R (f i) H → te (some (.int (lo + i)) :: cs) H R) (q : Q (upd H1 D (.lst ((List.range n).map f)))) :
    ∃ W : Nat → Nat → Hp → List V → Prop, (∃ m, W 0 m (upd H1 D (.lst [])) []) ∧
      ∀ i m H2 ys, W i m H2 ys → H2 D = some (.lst ys) ∧ (((Itr lo n).stop i H2 ∧ Q H2) ∨ ((Itr lo n).go i H2 ∧ ys.length < sizeLine ∧ ∀ x H3, (Itr lo n).yld i H2 x H3 →
        te (some x :: cs) H3 fun y H4 => H4 D = some (.lst ys) ∧ ∃ m', m' < m ∧ W (i + 1) m' (upd H4 D (.lst (ys ++ [y]))) (ys ++ [y]))) := by
  refine ⟨fun i m H2 ys => m + i = n ∧ ys = (List.range i).map f ∧ H2 = upd H1 D (.lst ys), ⟨n, by omega, rfl, rfl⟩, ?_⟩
  rintro i m H2 ys ⟨hm, rfl, rfl⟩
  refine ⟨upd_same, ?_⟩
  by_cases hi : i = n
  · subst hi
    exact .inl ⟨Nat.le_refl _, q⟩
  · have hlt : i < n := by omega
    refine .inr ⟨hlt, by rw [List.length_map, List.length_range]; omega, ?_⟩
    rintro x H3 ⟨rfl, rfl⟩
    refine step i _ hlt (Same.upd hD) _ ⟨upd_same, m - 1, by omega, by omega, ?_, ?_⟩
    · rw [List.range_succ, List.map_append]; rfl
    · rw [upd_upd]
/-! ### a statement, then the rest, with a word between -/
def tMid (t u : TS) : TS := fun D σ H => ∃ P : St → Hp → Prop, t { D with nx := P } σ H ∧ ∀ σ' H', P σ' H' → u D σ' H'
section
variable {X : Cx} {st : Stmt} {rest : List Stmt} {t u : TS}
theorem pss_mid (h1 : PS X st t) (h2 : PSs X rest u) : PSs X (st :: rest) (tMid t u) := by
  intro pins s σ H D I ⟨P, h, hP⟩
  refine wpAny_execs_cons (thn (h1 pins s σ H { D with nx := P } I h) fun f s1 q => ?_)
  cases f with
  | next =>
    obtain ⟨σ', H', I', q⟩ := q
    exact h2 pins s1 σ' H' D I' (hP σ' H' q)
  | ret v => exact q
  | brk => exact q
  | cont => exact q
end
end L2

set_option Elab.async false
set_option maxRecDepth 100000
namespace L2
open PySem PySem.Spec PyProof.Rows
/-! ### max, min of a list of ints -/
section
variable {X : Cx}
end
end L2
namespace L2
open PySem PySem.Spec PyProof.Rows
section
variable {X : Cx} {K : PySem.W.Frag}
end
end L2

set_option Elab.async false
set_option maxRecDepth 100000
namespace L2
open PySem PySem.Spec PyProof.Rows
/-! ### arguments, item by item, by the make of the item: no search for a star -/
section
variable {X : Cx} {e : Expr} {es : List Expr} {te : TE} {t : TA}
theorem pa_k {c j p} (ha : PE X (.Constant c j p) te) (hr : PA X es t) : PA X (.Constant c j p :: es) (tCons te t) := pa_cons ha hr rfl
theorem pa_n {c p} (ha : PE X (.Name c p) te) (hr : PA X es t) : PA X (.Name c p :: es) (tCons te t) := pa_cons ha hr rfl
theorem pa_b {l o r p} (ha : PE X (.BinOp l o r p) te) (hr : PA X es t) : PA X (.BinOp l o r p :: es) (tCons te t) := pa_cons ha hr rfl
theorem pa_c {f l o p} (ha : PE X (.Call f l o p) te) (hr : PA X es t) : PA X (.Call f l o p :: es) (tCons te t) := pa_cons ha hr rfl
theorem pa_s {v s p} (ha : PE X (.Subscript v s p) te) (hr : PA X es t) : PA X (.Subscript v s p :: es) (tCons te t) := pa_cons ha hr rfl
theorem pa_l {v p} (ha : PE X (.List v p) te) (hr : PA X es t) : PA X (.List v p :: es) (tCons te t) := pa_cons ha hr rfl
end
/-! ### a subscript that is no slice, by its make -/
theorem px_k {i : Int} {j p} : PlainIx (.Constant (.int i) j p) := fun _ _ => rfl
theorem px_n {i p} : PlainIx (.Name i p) := fun _ _ => rfl
theorem px_b {l o r p} : PlainIx (.BinOp l o r p) := fun _ _ => rfl
theorem px_u {o r p} : PlainIx (.UnaryOp o r p) := fun _ _ => rfl
theorem px_c {f l o p} : PlainIx (.Call f l o p) := fun _ _ => rfl
section
variable {X : Cx}
/-! ### list(range(n)) -/
end
end L2

set_option Elab.async false
set_option maxRecDepth 100000
namespace My
open PySem L2
/-! the promises of the defs -/
def spCheckBase : Sp := fun vs H Q _ => ∃ b : Int, vs = [.int b] ∧ 2 ≤ b ∧ b ≤ 36 ∧ Q .non H
def spCheckFraction : Sp := fun vs H Q _ => ∃ t q : Int, vs = [.int t, .int q] ∧ 0 ≤ t ∧ t ≤ 1000000000000 ∧ 1 ≤ q ∧ q ≤ 2000 ∧ Q .non H
def spCell (K : PySem.W.Frag) : Sp := fun vs H Q _ => ∃ (a : Addr) (ns : List Int) (k : Int), vs = [.ref a, .int k] ∧ SqL K H a (ns.map V.int) ∧ 0 ≤ k ∧ ∀ z : Int, z = ns.getD k.toNat 0 → Q (.int z) H
def spWhole : Sp := fun vs H Q _ => ∃ i : Int, vs = [.int i] ∧ Q (.bl true) H
def spFractionBy (K : PySem.W.Frag) : Sp := fun vs H Q _ => ∃ (a : Addr) (ns : List Int) (k : Int), vs = [.ref a, .int k] ∧ SqL K H a (ns.map V.int) ∧ 0 ≤ k ∧
  ∀ (t q : Int) (p : Addr), 0 ≤ t → t ≤ 1000000000000 → 1 ≤ q → q ≤ 2000 → H p = none → Q (.ref p) (upd H p (.tup [.int t, .int q]))
/-- a new writing at p, its lists new and apart -/
structure NewWr (H H' : Hp) (p la lg : Addr) (w : Int) (a g : List Int) : Prop where
  sm : Same H H'
  t : H' p = some (.tup [.int w, .ref la, .ref lg])
  a : H' la = some (.lst (a.map V.int))
  g : H' lg = some (.lst (g.map V.int))
  np : H p = none
  na : H la = none
  ng : H lg = none
  ne : la ≠ lg
theorem NewWr.wr {K : PySem.W.Frag} {H H' : Hp} {p la lg : Addr} {w : Int} {a g : List Int} (h : NewWr H H' p la lg w a g) : WrAt K H' p la lg w a g := ⟨.of h.t, .of h.a, .of h.g⟩
/-- written, and the law's own long division -/
def spDivided : Sp := fun vs H Q _ => ∃ b t q : Int, vs = [.int b, .int t, .int q] ∧ 2 ≤ b ∧ b ≤ 36 ∧ 0 ≤ t ∧ t ≤ 1000000000000 ∧ 1 ≤ q ∧ q ≤ 2000 ∧
  ∀ (w : Int) (a g : List Int) (p la lg : Addr) (H' : Hp), RF.DivIs b t q w a g → NewWr H H' p la lg w a g → Q (.ref p) H'
def spIsWriting (K : PySem.W.Frag) : Sp := fun vs H Q _ => ∃ (p la lg : Addr) (w : Int) (a g : List Int) (p' la' lg' : Addr) (w' : Int) (a' g' : List Int), vs = [.ref p, .ref p'] ∧ H p = some (.tup [.int w, .ref la, .ref lg]) ∧ H la = some (.lst (a.map V.int)) ∧ H lg = some (.lst (g.map V.int)) ∧
  WrAt K H p' la' lg' w' a' g' ∧ ∀ H', Same H H' → Q (.bl (decide (w = w' ∧ a = a' ∧ g = g'))) H'
/-- law's: a list of at most 63 ints is handed in, True comes out -/
def spLaw (K : PySem.W.Frag) : Sp := fun vs H Q _ => ∃ (a : Addr) (ns : List Int), vs = [.ref a] ∧ SqL K H a (ns.map V.int) ∧ ns.length ≤ 63 ∧ ∀ H', Q (.bl true) H'
/-! small facts -/
theorem atI_int {ns : List Int} {k : Int} (h0 : 0 ≤ k) (h1 : k < ns.length) : atI (ns.map V.int) k = some (.int (ns.getD k.toNat 0)) := by
  obtain ⟨j, rfl⟩ : ∃ j : Nat, k = (j : Int) := ⟨k.toNat, by omega⟩
  rw [Int.toNat_natCast]
  apply atI_nat
  have hl : j < ns.length := by omega
  simp [List.getD_eq_getElem?_getD, List.getElem?_eq_getElem hl]
theorem getD_out {ns : List Int} {k : Int} (h1 : ¬ k < ns.length) : ns.getD k.toNat 0 = 0 := by
  have hl : ns.length ≤ k.toNat := by omega
  simp [List.getD_eq_getElem?_getD, List.getElem?_eq_none hl]
theorem pow12 : (10 : Int) ^ (12 : Int).toNat = 1000000000000 := by decide
/-! the dict of rests -/
open RF in
def seen (b q r : Int) (n : Nat) : List (Key × V) := (List.range n).map fun i => (Sum.inl (rst b q r i), V.int (i : Int))
end My
namespace My
open PySem L2
theorem NewWr.mk1 {H H1 : Hp} {p la lg : Addr} {w : Int} {a g : List Int} (sm : Same H H1) (ha : H1 la = some (.lst (a.map V.int))) (na : H la = none) (hg : H1 lg = none) (hp : upd H1 lg (.lst (g.map V.int)) p = none) :
    NewWr H (upd (upd H1 lg (.lst (g.map V.int))) p (.tup [.int w, .ref la, .ref lg])) p la lg w a g := by
  have npg : p ≠ lg := fun e => by rw [e, upd_same] at hp; cases hp
  have hp1 : H1 p = none := by rw [upd_ne npg] at hp; exact hp
  have nla : la ≠ lg := ne_of_none ha hg
  have npl : la ≠ p := ne_of_none ha hp1
  refine ⟨(sm.trans (Same.upd hg)).trans (Same.upd hp), upd_same, ?_, ?_, sm.free hp1, na, sm.free hg, nla⟩
  · rw [upd_ne npl, upd_ne nla]; exact ha
  · rw [upd_ne npg.symm]; exact upd_same
theorem NewWr.mk2 {H H1 : Hp} {p la lg : Addr} {w : Int} {a g : List Int} (sm : Same H H1) (ha : H1 la = none) (hg : upd H1 la (.lst (a.map V.int)) lg = none) (hp : upd (upd H1 la (.lst (a.map V.int))) lg (.lst (g.map V.int)) p = none) :
    NewWr H (upd (upd (upd H1 la (.lst (a.map V.int))) lg (.lst (g.map V.int))) p (.tup [.int w, .ref la, .ref lg])) p la lg w a g :=
  NewWr.mk1 (sm.trans (Same.upd ha)) upd_same (sm.free ha) hg hp
end My
namespace My
open PySem L2
/-- a writing that is none of the refused ones -/
structure GoodW (b w : Int) (a g : List Int) : Prop where
  w0 : 0 ≤ w
  w1 : w ≤ 1000000000000
  fa : RF.Figs b a
  fg : RF.Figs b g
  la : a.length ≤ 4000
  lg : g.length ≤ 4000
def spCheckFigures (K : PySem.W.Frag) : Sp := fun vs H Q _ => ∃ (b : Int) (l : Addr) (ns : List Int), vs = [.int b, .ref l] ∧ SqL K H l (ns.map V.int) ∧ ns.length ≤ 4000 ∧ RF.Figs b ns ∧ Q .non H
def spCheckWriting (K : PySem.W.Frag) : Sp := fun vs H Q _ => ∃ (b : Int) (p la lg : Addr) (x : Int) (a g : List Int), vs = [.int b, .ref p] ∧ WrAt K H p la lg x a g ∧ GoodW b x a g ∧ Q .non H
def spNumberOf (K : PySem.W.Frag) : Sp := fun vs H Q _ => ∃ (b : Int) (l : Addr) (ns : List Int), vs = [.int b, .ref l] ∧ SqL K H l (ns.map V.int) ∧ 2 ≤ b ∧ b ≤ 36 ∧ Q (.int (RF.num b ns)) H
def spPower : Sp := fun vs H Q _ => ∃ (b n : Int), vs = [.int b, .int n] ∧ 2 ≤ b ∧ b ≤ 36 ∧ 0 ≤ n ∧ n ≤ 100000 ∧ Q (.int (b ^ n.toNat)) H
def spCommon : Sp := fun vs H Q _ => ∃ (x y : Int), vs = [.int x, .int y] ∧ 0 ≤ x ∧ 0 ≤ y ∧ Q (.int (Int.gcd x y : Nat)) H
/-- the divisions of a worth are short ones -/
def DivOk (N B : Int) : Prop := Builtin.divisionGoesByPylong B (Int.gcd N B : Nat) = false ∧ Builtin.divisionGoesByPylong N (Int.gcd N B : Nat) = false
def spWorth (K : PySem.W.Frag) : Sp := fun vs H Q _ => ∃ (b : Int) (p la lg : Addr) (x : Int) (a g : List Int), vs = [.int b, .ref p] ∧ 2 ≤ b ∧ b ≤ 36 ∧ WrAt K H p la lg x a g ∧ GoodW b x a g ∧
  DivOk (RF.num b a * RF.rM b g + RF.num b g) (RF.wB b a g) ∧
  ∀ (p' : Addr) (H' : Hp), Same H H' → H p' = none → H' p' = some (.tup [.int (RF.low (RF.wT b x a g) (RF.wB b a g)).1, .int (RF.low (RF.wT b x a g) (RF.wB b a g)).2]) → Q (.ref p') H'
def spLowest : Sp := fun vs H Q _ => ∃ (x y : Int), vs = [.int x, .int y] ∧ 0 ≤ x ∧ 0 < y ∧ DivOk x y ∧ ∀ p, H p = none → Q (.ref p) (upd H p (.tup [.int (RF.low x y).1, .int (RF.low x y).2]))
def spCopy (K : PySem.W.Frag) : Sp := fun vs H Q _ => ∃ (p la lg : Addr) (x : Int) (a g : List Int), vs = [.ref p] ∧ WrAt K H p la lg x a g ∧ ∀ (p' la' lg' : Addr) (H' : Hp), NewWr H H' p' la' lg' x a g → Q (.ref p') H'
theorem mem_int {ns : List Int} {i : Nat} {y : V} (h : (ns.map V.int)[i]? = some y) : ∃ n, y = V.int n ∧ ns[i]? = some n := by
  rw [List.getElem?_map] at h
  cases e : ns[i]? with
  | none => rw [e] at h; cases h
  | some n => rw [e] at h; exact ⟨n, (Option.some.inj h).symm, rfl⟩
end My
namespace My
open PySem L2
theorem NewWr.up {H H1 H2 : Hp} {p la lg : Addr} {w : Int} {a g : List Int} (s : Same H H1) (n : NewWr H1 H2 p la lg w a g) : NewWr H H2 p la lg w a g :=
  ⟨s.trans n.sm, n.t, n.a, n.g, s.free n.np, s.free n.na, s.free n.ng, n.ne⟩
def spShortest (K : PySem.W.Frag) : Sp := fun vs H Q _ => ∃ (l : Addr) (ns : List Int), vs = [.ref l] ∧ SqL K H l (ns.map V.int) ∧ ns.length ≤ 4000 ∧
  ∀ (l' : Addr) (h : List Int) (H' : Hp), RF.ShortIs ns h → Same H H' → H l' = none → H' l' = some (.lst (h.map V.int)) → Q (.ref l') H'
def spWithoutLast (K : PySem.W.Frag) : Sp := fun vs H Q _ => ∃ (l : Addr) (ns : List Int) (f : Int), vs = [.ref l, .int f] ∧ SqL K H l (ns.map V.int) ∧
  ∀ (l' : Addr) (a' : List Int), RF.DropIs f ns a' → H l' = none → Q (.ref l') (upd H l' (.lst (a'.map V.int)))
def spRoundedUp (K : PySem.W.Frag) : Sp := fun vs H Q _ => ∃ (b x : Int) (l : Addr) (a : List Int), vs = [.int b, .int x, .ref l] ∧ SqL K H l (a.map V.int) ∧ a.length ≤ 4000 ∧
  ∀ (x' : Int) (a' : List Int) (p la lg : Addr) (H' : Hp), ((RF.DropIs (b - 1) a [] ∧ x' = x + 1 ∧ a' = []) ∨ ∃ q y, RF.DropIs (b - 1) a (q ++ [y]) ∧ x' = x ∧ a' = q ++ [y + 1]) → NewWr H H' p la lg x' a' [] → Q (.ref p) H'
def spDrawn (K : PySem.W.Frag) : Sp := fun vs H Q _ => ∃ (x : Int) (la lh : Addr) (a h : List Int), vs = [.int x, .ref la, .ref lh] ∧ SqL K H la (a.map V.int) ∧ SqL K H lh (h.map V.int) ∧ h ≠ [] ∧ a.length ≤ 4000 ∧ h.length ≤ 4000 ∧
  ∀ (u : Nat) (p l1 l2 : Addr) (H' : Hp), RF.DrawIs a h u → (u < a.length → a[a.length - 1 - u]? ≠ h[h.length - 1 - u % h.length]?) → NewWr H H' p l1 l2 x (a.take (a.length - u)) (RF.rot (h.length - u % h.length) h) → Q (.ref p) H'
def spPlain (K : PySem.W.Frag) : Sp := fun vs H Q _ => ∃ (b : Int) (p la lg : Addr) (x : Int) (a g : List Int), vs = [.int b, .ref p] ∧ 2 ≤ b ∧ b ≤ 36 ∧ WrAt K H p la lg x a g ∧ GoodW b x a g ∧
  ∀ (x' : Int) (a' g' : List Int) (p' la' lg' : Addr) (H' : Hp), RF.PlainOut b x a g x' a' g' → NewWr H H' p' la' lg' x' a' g' → Q (.ref p') H'
def spIsPlain (K : PySem.W.Frag) : Sp := fun vs H Q _ => ∃ (b : Int) (p la lg : Addr) (x : Int) (a g : List Int), vs = [.int b, .ref p] ∧ 2 ≤ b ∧ b ≤ 36 ∧ WrAt K H p la lg x a g ∧ GoodW b x a g ∧
  ∀ (t : Bool) (H' : Hp), (t = true ↔ RF.Plain b a g) → Same H H' → Q (.bl t) H'
end My
namespace My
open PySem L2
end My

set_option Elab.async false
set_option maxRecDepth 100000
namespace My
open PySem L2
/-! the law's drawn writings -/
def drawF (c k b : Int) : Int :=
  (((c % 2147483647 + 977 * k + 1) * 48271 % 2147483647) * ((c % 2147483647 + 977 * k + 1) * 48271 % 2147483647) % 2147483629 + 40692 * (k + 3)) * 69621 % 2147483647 / 8 % b
theorem drawF_bd (c k : Int) {b : Int} (hb : 0 < b) : 0 ≤ drawF c k b ∧ drawF c k b < b := ⟨Int.emod_nonneg _ (by omega), Int.emod_lt_of_pos _ hb⟩
theorem cmul_mod (x y : Int) : CMul (x % 2147483647) y := .inl ⟨by omega, by omega⟩
def spDraw : Sp := fun vs H Q _ => ∃ (c k b : Int), vs = [.int c, .int k, .int b] ∧ 0 < b ∧ Q (.int (drawF c k b)) H
def drawL (c b : Int) (n : Nat) : List Int := (List.range n).map fun (i : Nat) => drawF c (0 + (i : Int)) b
def spFiguresBy : Sp := fun vs H Q _ => ∃ (c b n : Int), vs = [.int c, .int b, .int n] ∧ 2 ≤ b ∧ b ≤ 36 ∧ 0 ≤ n ∧ n ≤ 1000 ∧
  ∀ (ns : List Int) (l : Addr), ns.length = n.toNat → RF.Figs b ns → H l = none → Q (.ref l) (upd H l (.lst (ns.map V.int)))
/-- two new lists -/
structure NewLs (H H' : Hp) (la lg : Addr) (a g : List Int) : Prop where
  sm : Same H H'
  a : H' la = some (.lst (a.map V.int))
  g : H' lg = some (.lst (g.map V.int))
  na : H la = none
  ng : H lg = none
  ne : la ≠ lg
theorem NewLs.ring {H H' : Hp} {la lg l : Addr} {a g h : List Int} (n : NewLs H H' la lg a g) (hl : H' l = none) : NewLs H (upd H' l (.lst (h.map V.int))) la l a h :=
  ⟨n.sm.trans (Same.upd hl), (Same.upd hl) _ _ n.a, upd_same, n.na, n.sm.free hl, ne_of_none n.a hl⟩
theorem NewLs.ahead {H H' : Hp} {la lg l : Addr} {a g h : List Int} (n : NewLs H H' la lg a g) (hl : H' l = none) : NewLs H (upd H' l (.lst (h.map V.int))) l lg h g :=
  ⟨n.sm.trans (Same.upd hl), upd_same, (Same.upd hl) _ _ n.g, n.sm.free hl, n.ng, (ne_of_none n.g hl).symm⟩
theorem NewLs.more {H H' : Hp} {la lg l : Addr} {a g : List Int} {o : HO} (n : NewLs H H' la lg a g) (hl : H' l = none) : NewLs H (upd H' l o) la lg a g :=
  ⟨n.sm.trans (Same.upd hl), (Same.upd hl) _ _ n.a, (Same.upd hl) _ _ n.g, n.na, n.ng, n.ne⟩
theorem NewLs.wr {H H' : Hp} {la lg p : Addr} {a g : List Int} {x : Int} (n : NewLs H H' la lg a g) (hp : H' p = none) : NewWr H (upd H' p (.tup [.int x, .ref la, .ref lg])) p la lg x a g :=
  ⟨n.sm.trans (Same.upd hp), upd_same, (Same.upd hp) _ _ n.a, (Same.upd hp) _ _ n.g, n.sm.free hp, n.na, n.ng, n.ne⟩
def spWritingBy (K : PySem.W.Frag) : Sp := fun vs H Q _ => ∃ (sc : Addr) (ns : List Int) (i b : Int), vs = [.ref sc, .int i, .int b] ∧ SqL K H sc (ns.map V.int) ∧ 0 ≤ i ∧ 2 ≤ b ∧ b ≤ 36 ∧
  ∀ (x : Int) (a g : List Int) (p la lg : Addr) (H' : Hp), GoodW b x a g → a.length ≤ 130 → g.length ≤ 140 → NewWr H H' p la lg x a g → Q (.ref p) H'
def spLawWorth (K : PySem.W.Frag) : Sp := fun vs H Q _ => ∃ (b : Int) (p la lg : Addr) (x : Int) (a g : List Int), vs = [.int b, .ref p] ∧ 2 ≤ b ∧ b ≤ 36 ∧ WrAt K H p la lg x a g ∧ GoodW b x a g ∧ a.length + g.length ≤ 1400 ∧
  ∀ (p' : Addr) (H' : Hp), Same H H' → H p' = none → H' p' = some (.tup [.int (RF.low (RF.wT b x a g) (RF.wB b a g)).1, .int (RF.low (RF.wT b x a g) (RF.wB b a g)).2]) → Q (.ref p') H'
end My
namespace My
open PySem L2
/-- two lists as ahead and ring, with bounds of their lengths -/
def WBy (H : Hp) (sc : Addr) (i b x c : Int) (A G : Nat) (σ : St) (H' : Hp) : Prop := ∃ (la lg : Addr) (a g : List Int) (wv : Int), σ = [some (.ref sc), some (.int i), some (.int b), some (.int x), some (.int c), some (.ref la), some (.ref lg), some (.int wv)] ∧
  NewLs H H' la lg a g ∧ RF.Figs b a ∧ RF.Figs b g ∧ a.length ≤ A ∧ g.length ≤ G
end My
namespace My
open PySem L2
theorem cut_ex (g : List Int) (lo hi : Option Int) : ∃ g' : List Int, cutV (g.map V.int) lo hi = g'.map V.int ∧ (∀ d, d ∈ g' → d ∈ g) ∧ g'.length ≤ g.length :=
  ⟨_, map_int_cut, fun d hd => List.mem_of_mem_drop (List.mem_of_mem_take hd), by rw [List.length_take, List.length_drop]; omega⟩
end My
namespace My
open PySem L2
/-- the law's own long division, of any fraction whose writing is short -/
def spDividedB : Sp := fun vs H Q _ => ∃ b t q : Int, vs = [.int b, .int t, .int q] ∧ 2 ≤ b ∧ b ≤ 36 ∧ 0 ≤ t ∧ 0 < q ∧ t.natAbs < q.natAbs * 2 ^ 4000 ∧ (∃ w0 a0 g0, RF.DivIs b t q w0 a0 g0 ∧ a0.length + g0.length ≤ 8000) ∧
  ∀ (w : Int) (a g : List Int) (p la lg : Addr) (H' : Hp), RF.DivIs b t q w a g → NewWr H H' p la lg w a g → Q (.ref p) H'
end My
namespace My
open PySem L2
theorem low_nonneg {T B : Int} (hT : 0 ≤ T) : 0 ≤ (RF.low T B).1 := Int.ediv_nonneg hT (by omega)
end My

set_option Elab.async false
set_option maxRecDepth 100000
namespace My
open PySem L2
def spKeeps (K : PySem.W.Frag) : Sp := fun vs H Q _ => ∃ (b : Int) (p la lg : Addr) (x : Int) (a g : List Int), vs = [.int b, .ref p] ∧ 2 ≤ b ∧ b ≤ 36 ∧ WrAt K H p la lg x a g ∧ RF.Figs b g ∧ g.length ≤ 4000 ∧ RF.Plain b a g ∧ ∀ H', Same H H' → Q (.bl true) H'
def spOther (K : PySem.W.Frag) : Sp := fun vs H Q _ => ∃ (sc : Addr) (ns : List Int) (b : Int) (p la lg : Addr) (x : Int) (a g : List Int) (pf laf lgf : Addr) (xf : Int) (af gf : List Int), vs = [.ref sc, .int b, .ref p, .ref pf] ∧ SqL K H sc (ns.map V.int) ∧ 2 ≤ b ∧ b ≤ 36 ∧
  WrAt K H p la lg x a g ∧ GoodW b x a g ∧ x ≤ 999999999999 ∧ a.length ≤ 130 ∧ g.length ≤ 140 ∧ H pf = some (.tup [.int xf, .ref laf, .ref lgf]) ∧ H laf = some (.lst (af.map V.int)) ∧ H lgf = some (.lst (gf.map V.int)) ∧
  GoodW b xf af gf ∧ af.length ≤ 130 ∧ gf.length ≤ 140 ∧
  ∀ (xo : Int) (ao go : List Int) (po lao lgo : Addr) (H' : Hp), GoodW b xo ao go → ao.length + go.length ≤ 1400 → WrAt K H' po lao lgo xo ao go → Same H H' → Q (.ref po) H'
end My
namespace My
open PySem L2
end My

set_option Elab.async false
set_option maxRecDepth 100000
namespace My
open PySem L2
/-! promises of the second stage -/
def spLengths : Sp := fun vs H Q _ => ∃ b q : Int, vs = [.int b, .int q] ∧ 2 ≤ b ∧ b ≤ 36 ∧ 1 ≤ q ∧ q ≤ 2000 ∧
  ∀ (k r : Nat) (p : Addr) (H' : Hp), RF.Len b q k r → Same H H' → H p = none → H' p = some (.tup [.int (k : Int), .int (r : Int)]) → Q (.ref p) H'
def spFigureAt : Sp := fun vs H Q _ => ∃ b t q n : Int, vs = [.int b, .int t, .int q, .int n] ∧ 2 ≤ b ∧ b ≤ 36 ∧ 0 ≤ t ∧ t ≤ 1000000000000 ∧ 1 ≤ q ∧ q ≤ 2000 ∧ 0 ≤ n ∧ n < 10 ^ 40 ∧
  ∀ (z : Int) (H' : Hp), z = RF.fig b q (t % q) n.toNat → Same H H' → Q (.int z) H'
/-- a ring folds -/
def Folds (b : Int) (g : List Int) : Prop := ∃ h, 0 < h ∧ g.length = 2 * h ∧ ∀ k, k < h → g.getD k 0 + g.getD (k + h) 0 = b - 1
def spFolds (K : PySem.W.Frag) : Sp := fun vs H Q _ => ∃ (b : Int) (l : Addr) (g : List Int), vs = [.int b, .ref l] ∧ SqL K H l (g.map V.int) ∧ 2 ≤ b ∧ b ≤ 36 ∧ RF.Figs b g ∧ g.length ≤ 4000 ∧
  ∀ (t : Bool) (H' : Hp), (t = true ↔ Folds b g) → Same H H' → Q (.bl t) H'
/-- the law's own look at a ring -/
def spLawFolds (K : PySem.W.Frag) : Sp := fun vs H Q _ => ∃ (b : Int) (l : Addr) (g : List Int), vs = [.int b, .ref l] ∧ SqL K H l (g.map V.int) ∧ g.length ≤ 4000 ∧
  ∀ (t : Bool) (H' : Hp), (t = true ↔ Folds b g) → Same H H' → Q (.bl t) H'
def spIsPrime : Sp := fun vs H Q _ => ∃ n : Nat, vs = [.int (n : Int)] ∧ 2 ≤ n ∧ n ≤ 2000 ∧ ∀ t : Bool, (t = true ↔ RF.Pr n) → Q (.bl t) H
end My

set_option Elab.async false
set_option maxRecDepth 100000
namespace My
open PySem L2
def spCheckBottom : Sp := fun vs H Q _ => ∃ q : Int, vs = [.int q] ∧ 1 ≤ q ∧ q ≤ 2000 ∧ Q .non H
/-- long division of any top -/
def spDividedOut : Sp := fun vs H Q _ => ∃ b t q : Int, vs = [.int b, .int t, .int q] ∧ 2 ≤ b ∧ b ≤ 36 ∧ 0 ≤ t ∧ 1 ≤ q ∧ q ≤ 2000 ∧
  ∀ (w : Int) (a g : List Int) (p la lg : Addr) (H' : Hp), RF.DivIs b t q w a g → NewWr H H' p la lg w a g → Q (.ref p) H'
/-- the ring's length of what is left of a bottom -/
def RLen (b L r : Nat) : Prop := (L = 1 ∧ r = 0) ∨ (1 < L ∧ 0 < r ∧ L ∣ b ^ r - 1 ∧ ∀ m, 0 < m → m < r → ¬ L ∣ b ^ m - 1)
def spRingLength : Sp := fun vs H Q _ => ∃ b L : Nat, vs = [.int (b : Int), .int (L : Int)] ∧ 2 ≤ b ∧ b ≤ 36 ∧ 0 < L ∧ L ≤ 2000 ∧ Nat.Coprime L b ∧
  ∀ r : Nat, RLen b L r → Q (.int (r : Int)) H
def spPowerRest : Sp := fun vs H Q _ => ∃ b n q : Int, vs = [.int b, .int n, .int q] ∧ 2 ≤ b ∧ b ≤ 36 ∧ 0 ≤ n ∧ 1 ≤ q ∧ q ≤ 2000 ∧
  ∀ z : Int, 0 ≤ z → z ≤ 2000 → z % q = b ^ n.toNat % q → Q (.int z) H
end My

set_option Elab.async false
set_option maxRecDepth 100000
namespace L2
open PySem PySem.Spec PyProof.Rows
/-! ### texts: sign by sign -/
def Its (z : Str) : It := ⟨fun i _ => i < z.length, fun i H x H' => H' = H ∧ ∃ c, z.cps.toList[i]? = some c ∧ x = .str ⟨#[c]⟩, fun i _ => z.length ≤ i⟩
theorem cps_at {z : Str} {i : Nat} (h : i < z.length) : ∃ c, z.cps[i]? = some c ∧ z.cps.toList[i]? = some c := by
  have h : i < z.cps.size := h
  exact ⟨z.cps[i], by simp [h], by simp [h]⟩
theorem turn_ascii {P : Program} {w : World} {K : PySem.W.Frag} {tg : Expr} (z : Str) (t : Tok) (it : Addr) : Turn P w K tg (Its z) [it] it (fun i h => h.IsStrIter it "str_ascii_iterator" z t i) where
  mem := by simp
  obj := fun i h st b hb => by
    have e : b = it := by simpa using hb
    subst e
    obtain ⟨o, e, c, d⟩ := st
    exact ⟨o, e, fun v z => by rw [d] at z; cases z⟩
  keep := fun i h h' st k => by
    obtain ⟨o, e, r⟩ := st
    exact ⟨o, k it (by simp) o e, r⟩
  item := by
    intro X hP hw hK hc i pins s σ H E I hf st hg
    subst hP hw hK
    obtain ⟨f0, f1, f2, f3, f4, f5⟩ := hf it (by simp)
    obtain ⟨c, hc1, hc2⟩ := cps_at (show i < z.length from hg)
    refine wpAny_pyNext_ascii_item st hc1 fun h' st' sb => ?_
    have I1 : Inv X pins σ H { s with heap := h', toks := s.toks + 1 } := I.turned (fun b o hb e => (sb.2 b hb).trans e) f0 f1 f3 f4 f5
    obtain ⟨o, e, c', d⟩ := id st'
    exact ⟨_, rfl, go_of (s := { s with heap := h', toks := s.toks + 1 }) e c' d (by decide) ⟨.str ⟨#[c]⟩, H, I1, ⟨_, rfl⟩, ⟨rfl, c, hc2, rfl⟩, st', fun b hb => (hf b hb).1⟩⟩
  done := by
    intro X hP hw hK hc i pins s σ H E I hf st hg
    subst hP hw hK
    obtain ⟨f0, f1, f2, f3, f4, f5⟩ := hf it (by simp)
    have hg : z.cps.size ≤ i := hg
    exact wpAny_pyNext_ascii_end (I.ok.hd hc) st (by simp [hg]) fun h' eb => ⟨rfl, I.turned (t' := s.toks) (fun b o hb e => eb b o hb e) f0 f1 f3 f4 f5⟩
  self := fun _ _ _ _ _ st h => wpAny_pyIter_striter_ascii st h
theorem turn_wide {P : Program} {w : World} {K : PySem.W.Frag} {tg : Expr} (z : Str) (t : Tok) (it : Addr) : Turn P w K tg (Its z) [it] it (fun i h => h.IsStrIter it "str_iterator" z t i) where
  mem := by simp
  obj := fun i h st b hb => by
    have e : b = it := by simpa using hb
    subst e
    obtain ⟨o, e, c, d⟩ := st
    exact ⟨o, e, fun v z => by rw [d] at z; cases z⟩
  keep := fun i h h' st k => by
    obtain ⟨o, e, r⟩ := st
    exact ⟨o, k it (by simp) o e, r⟩
  item := by
    intro X hP hw hK hc i pins s σ H E I hf st hg
    subst hP hw hK
    obtain ⟨f0, f1, f2, f3, f4, f5⟩ := hf it (by simp)
    obtain ⟨c, hc1, hc2⟩ := cps_at (show i < z.length from hg)
    refine wpAny_pyNext_wide_item st hc1 fun h' st' sb => ?_
    have I1 : Inv X pins σ H { s with heap := h', toks := s.toks + 1 } := I.turned (fun b o hb e => (sb.2 b hb).trans e) f0 f1 f3 f4 f5
    obtain ⟨o, e, c', d⟩ := id st'
    exact ⟨_, rfl, go_of (s := { s with heap := h', toks := s.toks + 1 }) e c' d (by decide) ⟨.str ⟨#[c]⟩, H, I1, ⟨_, rfl⟩, ⟨rfl, c, hc2, rfl⟩, st', fun b hb => (hf b hb).1⟩⟩
  done := by
    intro X hP hw hK hc i pins s σ H E I hf st hg
    subst hP hw hK
    obtain ⟨f0, f1, f2, f3, f4, f5⟩ := hf it (by simp)
    have hg : z.cps.size ≤ i := hg
    exact wpAny_pyNext_wide_end (I.ok.hd hc) st (by simp [hg]) fun h' eb => ⟨rfl, I.turned (t' := s.toks) (fun b o hb e => eb b o hb e) f0 f1 f3 f4 f5⟩
  self := fun _ _ _ _ _ st h => wpAny_pyIter_striter_wide st h
def iStr (tl : TE) : TI := fun σ H R => tl σ H fun x H1 => ∃ z, x = .str z ∧ R (Its z) H1
section
variable {X : Cx} {tg : Expr}
theorem pi_str {l : Expr} {tl : TE} (hl : PE X l tl) : PI X tg l (iStr tl) := by
  intro pins s σ H R I h
  refine thn (hl pins s σ H _ I h) fun v s1 ⟨x, H1, I1, r1, q1⟩ => ?_
  obtain ⟨z, e, q⟩ := q1
  subst e
  obtain ⟨t, rfl⟩ := r1
  have fp : ∀ b ∈ [s1.heap.objs.size], FpOk X pins H1 b := fun b hb => by
    have e : b = s1.heap.objs.size := by simpa using hb
    subst e
    exact I1.fpOk (Nat.le_refl _) (I1.hok.fresh (Nat.le_refl _))
  cases ha : z.cps.all (· < 128)
  · refine wpAny_pyIter_wide ha ?_
    exact ⟨s1.heap.objs.size, [s1.heap.objs.size], _, _, H1, rfl, I1.kept (t' := s1.toks) fun b o e => Heap.get?_push_of_some _ e, turn_wide z t _, ⟨_, Heap.get?_push_size _ rfl, rfl, rfl⟩, fp, q⟩
  · refine wpAny_pyIter_ascii ha ?_
    exact ⟨s1.heap.objs.size, [s1.heap.objs.size], _, _, H1, rfl, I1.kept (t' := s1.toks) fun b o e => Heap.get?_push_of_some _ e, turn_ascii z t _, ⟨_, Heap.get?_push_size _ rfl, rfl, rfl⟩, fp, q⟩
end
/-- a loop over a text -/
theorem for_str {z : Str} {g : TG} {tb : TS} {D : Ends} {σ : St} {H : Hp} (Pv : Nat → St → Hp → Prop) (h0 : Pv 0 σ H)
    (hs : ∀ i c σ H, z.cps.toList[i]? = some c → Pv i σ H → g (.str ⟨#[c]⟩) σ H fun σ2 H2 => tb { D with nx := Pv (i + 1), ct := Pv (i + 1), bk := D.nx } σ2 H2) (hd : ∀ σ H, Pv z.length σ H → D.nx σ H) :
    ∃ W : Nat → Nat → St → Hp → Prop, (∃ m, W 0 m σ H) ∧ ∀ i m σ H, W i m σ H →
      ((Its z).stop i H ∧ D.nx σ H) ∨ ((Its z).go i H ∧ ∃ N : St → Hp → Prop, (∀ σ' H', N σ' H' → ∃ m', m' < m ∧ W (i + 1) m' σ' H') ∧ ∀ x H', (Its z).yld i H x H' → g x σ H' fun σ2 H2 => tb { D with nx := N, ct := N, bk := D.nx } σ2 H2) := by
  refine ⟨fun i m σ H => m = z.length - i ∧ i ≤ z.length ∧ Pv i σ H, ⟨z.length, by simp, Nat.zero_le _, h0⟩, ?_⟩
  rintro i m σ H ⟨rfl, hi, p⟩
  by_cases hlt : i < z.length
  · refine .inr ⟨hlt, Pv (i + 1), fun σ' H' p' => ⟨z.length - (i + 1), by omega, rfl, hlt, p'⟩, fun x H' y => ?_⟩
    obtain ⟨e, c, hc, e2⟩ := y
    subst e e2
    exact hs i c σ _ hc p
  · have e : i = z.length := by omega
    subst e
    exact .inl ⟨Nat.le_refl _, hd σ H p⟩
/-! ### methods of texts -/
section
variable {X : Cx}
def rFind : V → List V → Hp → VK → Prop := fun x vs H Q => ∃ z y, x = .str z ∧ vs = [.str y] ∧ Q (.int (PySem.Txt.find z y)) H
theorem mt_find : MtR X "str.find" rFind := by
  intro pins s σ H x vs v us Q I rx rv h
  obtain ⟨z, y, rfl, rfl, q⟩ := h
  obtain ⟨t, rfl⟩ := rx
  obtain ⟨u, rfl, ru⟩ := rv.one
  obtain ⟨t', rfl⟩ := ru
  exact SC.find ⟨.int _, H, I.tok _, ⟨_, rfl⟩, q⟩
def rCountS : V → List V → Hp → VK → Prop := fun x vs H Q => ∃ z y, x = .str z ∧ vs = [.str y] ∧ Q (.int (PySem.Txt.count z y)) H
theorem mt_countS : MtR X "str.count" rCountS := by
  intro pins s σ H x vs v us Q I rx rv h
  obtain ⟨z, y, rfl, rfl, q⟩ := h
  obtain ⟨t, rfl⟩ := rx
  obtain ⟨u, rfl, ru⟩ := rv.one
  obtain ⟨t', rfl⟩ := ru
  exact SC.count ⟨.int _, H, I.tok _, ⟨_, rfl⟩, q⟩
def rEnds : V → List V → Hp → VK → Prop := fun x vs H Q => ∃ z y, x = .str z ∧ vs = [.str y] ∧ Q (.bl (PySem.Txt.endswith z y)) H
theorem mt_ends : MtR X "str.endswith" rEnds := by
  intro pins s σ H x vs v us Q I rx rv h
  obtain ⟨z, y, rfl, rfl, q⟩ := h
  obtain ⟨t, rfl⟩ := rx
  obtain ⟨u, rfl, ru⟩ := rv.one
  obtain ⟨t', rfl⟩ := ru
  exact SC.endswith ⟨.bl _, H, I, rfl, q⟩
def rPartition : V → List V → Hp → VK → Prop := fun x vs H Q => ∃ z y, x = .str z ∧ vs = [.str y] ∧ (y.length == 0) = false ∧ z.length ≤ sizeLine ∧
  ∀ p, H p = none → Q (.ref p) (upd H p (.tup [.str (PySem.Txt.partition z y).1, .str (PySem.Txt.partition z y).2.1, .str (PySem.Txt.partition z y).2.2]))
theorem mt_partition : MtR X "str.partition" rPartition := by
  intro pins s σ H x vs v us Q I rx rv h
  obtain ⟨z, y, rfl, rfl, hy, hz, q⟩ := h
  obtain ⟨t, rfl⟩ := rx
  obtain ⟨u, rfl, ru⟩ := rv.one
  obtain ⟨t', rfl⟩ := ru
  refine call_meets F.slot_str_partition (typeIs_str _ _ _) F.entry_str_partition (F.args_str_partition_2 _ _) (meets_str_partition z y t t' hy hz) ?_
  have fin : ∀ (a b c : Str) (ta tb tc : Tok) (k : Nat), PySem.Txt.partition z y = (a, b, c) → EP X pins σ Q (.ref s.heap.objs.size) { s with toks := k, heap := s.heap.push { cls := .type "tuple", data := .seq [.str a ta, .str b tb, .str c tc].toArray } } := fun a b c ta tb tc k e => by
    rw [e] at q
    refine ⟨.ref s.heap.objs.size, _, I.laid (t' := k) (fun _ _ q => Heap.get?_push_of_some _ q) (Nat.le_refl _) (show ObjOk X.prog X.w _ _ _ (.tup [.str a, .str b, .str c]) from ⟨by show 3 ≤ sizeLine; decide, _, .cons ⟨ta, rfl⟩ (.cons ⟨tb, rfl⟩ (.cons ⟨tc, rfl⟩ .nil)), IsTup.new _ _⟩), rfl, q _ I.fresh⟩
  unfold PySem.Txt.partition at fin
  revert fin
  cases Builtin.Str.occurrences z y 0 z.length 1 with
  | nil => intro fin; exact fin _ _ _ _ _ _ _ rfl
  | cons i r => intro fin; exact fin _ _ _ _ _ _ _ rfl
theorem vals_strs : ∀ {ts : List Str} {us : List Value}, Vals (ts.map V.str) us → ∃ l : List (Str × Tok), us = strValues l ∧ l.map (·.1) = ts
  | [], _, .nil => ⟨[], rfl, rfl⟩
  | t :: ts, _, .cons r q => by
    obtain ⟨l, e, h⟩ := vals_strs q
    obtain ⟨k, rfl⟩ := (show ∃ k, _ = Value.str t k from r)
    exact ⟨(t, k) :: l, by rw [e]; rfl, by rw [List.map_cons, h]⟩
def rJoin (K : PySem.W.Frag) : V → List V → Hp → VK → Prop := fun x vs H Q => ∃ z a ts, x = .str z ∧ vs = [.ref a] ∧ SqL K H a (ts.map V.str) ∧ JoinOk z ts = true ∧ Q (.str (PySem.Txt.join z ts)) H
theorem mt_join : MtR X "str.join" (rJoin X.K) := by
  intro pins s σ H x vs v us Q I rx rv h
  obtain ⟨z, a, ts, rfl, rfl, hS, hok, q⟩ := h
  obtain ⟨t, rfl⟩ := rx
  obtain ⟨u, rfl, ru⟩ := rv.one
  cases ru
  obtain ⟨its, r, pl, _⟩ := I.list hS
  obtain ⟨l, rfl, hl⟩ := vals_strs r
  exact SC.join pl.isList hl hok fun t' k => ⟨.str _, H, I.tok k, ⟨t', rfl⟩, q⟩
def rSlS : V → Option Int → Option Int → Hp → VK → Prop := fun x lo hi H Q => ∃ z, x = .str z ∧ z.length ≤ sizeLine ∧ Q (.str (PySem.Txt.slice z lo hi)) H
theorem sl_str : SlR X rSlS := by
  intro pins s σ H x v vl vu lo hi sl Q I rx hs pl pu h
  obtain ⟨z, rfl, hz, q⟩ := h
  obtain ⟨t, rfl⟩ := rx
  refine ⟨"str", _, F.slot_str_getitem.lookup, typeIs_str _ _ _, ?_⟩
  have fin : ∀ t' k, EP X pins σ Q (.str (PySem.Txt.slice z lo hi) t') { s with toks := k } := fun t' k => ⟨.str _, H, I.tok k, ⟨t', rfl⟩, q⟩
  have fz := Nat.le_trans (PySem.Txt.slice_le z lo hi) hz
  cases pl with
  | none => cases pu with
    | none => exact wpAny_getItem_str_slice (l := none) (u := none) (st := none) hs rfl (post_val_or_str ⟨fz, fin⟩)
    | int j uj => exact wpAny_getItem_str_slice (l := none) (u := some (j, uj)) (st := none) hs rfl (post_val_or_str ⟨fz, fin⟩)
  | int i ui => cases pu with
    | none => exact wpAny_getItem_str_slice (l := some (i, ui)) (u := none) (st := none) hs rfl (post_val_or_str ⟨fz, fin⟩)
    | int j uj => exact wpAny_getItem_str_slice (l := some (i, ui)) (u := some (j, uj)) (st := none) hs rfl (post_val_or_str ⟨fz, fin⟩)
end
/-- a text of the module's top -/
def IsStr (mg : Str → Option Value) (name : Str) (z : Str) : Prop := ∃ t, mg name = some (.str z t)
section
variable {X : Cx} {x : Str} {pos : Pos}
theorem pe_globS {z : Str} (h : IsStr X.mg x z) (hg : Gl X x) (hd : (x == ("__debug__" : Str)) = false := by decide) : PE X (.Name x pos) (tC (.str z)) := by
  obtain ⟨t, h⟩ := h
  exact pe_glob hg h ⟨t, rfl⟩ hd
end
/-! ### what the methods tell, by lists of signs -/
open Builtin.Str in
theorem occ_rest {x : Str} {c : Nat} : ∀ (l : List Nat) (st : Array Nat × Nat), st.fst.size = 1 → (forIn l st (StrLaws.occBody x ⟨#[c]⟩ x.length 1)).run.fst = st.fst
  | [], _, _ => rfl
  | a :: l, st, h => by
    rw [List.forIn_cons]
    unfold StrLaws.occBody
    rw [if_neg (by intro z; omega)]
    exact occ_rest l _ h
open Builtin.Str in
theorem occ_skip {x : Str} {c : Nat} : ∀ (l m : List Nat), (∀ i ∈ l, ¬ x.cps.toList[i]? = some c) → (forIn (l ++ m) ((#[] : Array Nat), 0) (StrLaws.occBody x ⟨#[c]⟩ x.length 1)).run = (forIn m ((#[] : Array Nat), 0) (StrLaws.occBody x ⟨#[c]⟩ x.length 1)).run
  | [], _, _ => rfl
  | a :: l, m, h => by
    have h1 := h a List.mem_cons_self
    rw [List.cons_append, List.forIn_cons]
    have e : StrLaws.occBody x ⟨#[c]⟩ x.length 1 a ((#[] : Array Nat), 0) = pure (ForInStep.yield ((#[] : Array Nat), 0)) := by
      unfold StrLaws.occBody
      rw [if_neg (fun z => h1 ((StrLaws.subAt_one x c a).mp ⟨z.1.2, z.2⟩))]
    rw [e]
    exact occ_skip l m fun i hi => h i (List.mem_cons_of_mem _ hi)
open Builtin.Str in
theorem occ_no {x : Str} {c : Nat} (h : c ∉ x.cps.toList) : occurrences x ⟨#[c]⟩ 0 x.length 1 = [] := by
  have := StrLaws.found_one x c
  rw [decide_eq_false h] at this
  simpa using this
open Builtin.Str in
theorem occ_at {l m : List Nat} {c : Nat} (h : c ∉ l) : occurrences ⟨(l ++ c :: m).toArray⟩ ⟨#[c]⟩ 0 (⟨(l ++ c :: m).toArray⟩ : Str).length 1 = [l.length] := by
  rw [StrLaws.occ_eq]
  have hl : (⟨(l ++ c :: m).toArray⟩ : Str).length = l.length + 1 + m.length := by simp [Str.length]; omega
  have e1 : List.range' 0 ((⟨(l ++ c :: m).toArray⟩ : Str).length + 1 - 0) = List.range' 0 l.length ++ (l.length :: List.range' (l.length + 1) (m.length + 1)) := by
    rw [hl]
    have : l.length + 1 + m.length + 1 - 0 = l.length + ((m.length + 1) + 1) := by omega
    rw [this, ← List.range'_append_1, List.range'_succ]
    simp
  rw [e1, occ_skip]
  · rw [List.forIn_cons]
    have e : StrLaws.occBody ⟨(l ++ c :: m).toArray⟩ ⟨#[c]⟩ (⟨(l ++ c :: m).toArray⟩ : Str).length 1 l.length ((#[] : Array Nat), 0) = pure (ForInStep.yield (#[l.length], l.length + 1)) := by
      unfold StrLaws.occBody
      have z := (StrLaws.subAt_one ⟨(l ++ c :: m).toArray⟩ c l.length).mpr (by simp)
      rw [if_pos ⟨⟨⟨by simp, Nat.zero_le _⟩, z.1⟩, z.2⟩]
      rfl
    rw [e]
    show (forIn (List.range' (l.length + 1) (m.length + 1)) (#[l.length], l.length + 1) (StrLaws.occBody ⟨(l ++ c :: m).toArray⟩ ⟨#[c]⟩ (⟨(l ++ c :: m).toArray⟩ : Str).length 1)).run.fst.toList = _
    rw [occ_rest _ _ rfl]
  · intro i hi
    have hi : i < l.length := by simpa using hi
    have : (⟨(l ++ c :: m).toArray⟩ : Str).cps.toList[i]? = some l[i] := by
      show (l ++ c :: m)[i]? = some l[i]
      rw [List.getElem?_append_left hi, List.getElem?_eq_getElem hi]
    rw [this]
    intro z
    exact h (by rw [← Option.some.inj z]; exact List.getElem_mem hi)
theorem find_no {l : List Nat} {c : Nat} (h : c ∉ l) : PySem.Txt.find ⟨l.toArray⟩ ⟨#[c]⟩ = -1 := by
  unfold PySem.Txt.find
  rw [occ_no (x := ⟨l.toArray⟩) h]
theorem find_at {l m : List Nat} {c : Nat} (h : c ∉ l) : PySem.Txt.find ⟨(l ++ c :: m).toArray⟩ ⟨#[c]⟩ = (l.length : Int) := by
  unfold PySem.Txt.find
  rw [occ_at h]
theorem part_no {l : List Nat} {c : Nat} (h : c ∉ l) : PySem.Txt.partition ⟨l.toArray⟩ ⟨#[c]⟩ = (⟨l.toArray⟩, ⟨#[]⟩, ⟨#[]⟩) := by
  unfold PySem.Txt.partition
  rw [occ_no (x := ⟨l.toArray⟩) h]; rfl
theorem part_at {l m : List Nat} {c : Nat} (h : c ∉ l) : PySem.Txt.partition ⟨(l ++ c :: m).toArray⟩ ⟨#[c]⟩ = (⟨l.toArray⟩, ⟨#[c]⟩, ⟨m.toArray⟩) := by
  unfold PySem.Txt.partition
  rw [occ_at h]
  have e1 : Builtin.Str.strSub ⟨(l ++ c :: m).toArray⟩ 0 l.length = ⟨l.toArray⟩ := by
    unfold Builtin.Str.strSub
    congr 1
    simp
  have e2 : Builtin.Str.strSub ⟨(l ++ c :: m).toArray⟩ (l.length + (⟨#[c]⟩ : Str).length) (⟨(l ++ c :: m).toArray⟩ : Str).length = ⟨m.toArray⟩ := by
    unfold Builtin.Str.strSub
    congr 1
    have : (⟨#[c]⟩ : Str).length = 1 := rfl
    rw [this]
    show ((l ++ c :: m).toArray).extract (l.length + 1) (l ++ c :: m).toArray.size = m.toArray
    simp
    exact List.take_of_length_le (by omega)
  dsimp only
  rw [e1, e2]
theorem join_signs (l : List Nat) : PySem.Txt.join ⟨#[]⟩ (l.map fun c => (⟨#[c]⟩ : Str)) = ⟨l.toArray⟩ := by
  show PySem.Builtin.Str.glued ⟨#[]⟩ _ = _
  rw [StrLaws.glued_eq_join]
  induction l with
  | nil => rfl
  | cons a l ih =>
    cases l with
    | nil => rfl
    | cons b l =>
      show (⟨#[a]⟩ : Str) ++ ⟨#[]⟩ ++ Str.join ⟨#[]⟩ ((b :: l).map fun c => (⟨#[c]⟩ : Str)) = _
      rw [ih]
      show (⟨#[a] ++ #[] ++ (b :: l).toArray⟩ : Str) = _
      simp
theorem joinOk_signs {l : List Nat} (h : l.length ≤ 16777216) : JoinOk ⟨#[]⟩ (l.map fun c => (⟨#[c]⟩ : Str)) = true :=
  joinOk_signsN (sep := ⟨#[]⟩) (y := ⟨l.toArray⟩) (N := l.length) (S := 0) (by simp [Str.length]) (Nat.le_refl _) (by omega)
theorem ends_one {l : List Nat} {c d : Nat} : PySem.Txt.endswith ⟨(l ++ [d]).toArray⟩ ⟨#[c]⟩ = decide (d = c) := by
  unfold PySem.Txt.endswith
  have h1 : (⟨#[c]⟩ : Str).length = 1 := rfl
  have h2 : (⟨(l ++ [d]).toArray⟩ : Str).length = l.length + 1 := by simp [Str.length]
  rw [Bool.eq_iff_iff, Bool.and_eq_true, decide_eq_true_iff, decide_eq_true_iff]
  have z := StrLaws.subAt_one ⟨(l ++ [d]).toArray⟩ c l.length
  rw [h1, h2] at z ⊢
  rw [show l.length + 1 - 1 = l.length by omega]
  have e : (⟨(l ++ [d]).toArray⟩ : Str).cps.toList[l.length]? = some d := by
    show (l ++ [d])[l.length]? = some d
    simp
  rw [e] at z
  constructor
  · rintro ⟨_, h⟩
    exact Option.some.inj (z.mp ⟨Nat.le_refl _, h⟩)
  · rintro rfl
    exact ⟨by omega, (z.mpr rfl).2⟩
theorem slice_init {l : List Nat} {d : Nat} : PySem.Txt.slice ⟨(l ++ [d]).toArray⟩ none (some (-1)) = ⟨l.toArray⟩ := by
  have h2 : (⟨(l ++ [d]).toArray⟩ : Str).length = l.length + 1 := by simp [Str.length]
  have := slice_closes_to_neg (x := ⟨(l ++ [d]).toArray⟩) (j := -1) (k := (l.length : Int)) (by decide) (by rw [h2]; omega) (by rw [h2]; omega)
  rw [beq_iff_eq.mp this]
  congr 1
  simp
end L2

set_option Elab.async false
set_option maxRecDepth 100000
namespace L2
open PySem PySem.Spec PyProof.Rows
/-! ### a, b, c = a list -/
section
variable {prog : Program} {w : World} {A : Around} {E : Value → Shared → Prop}
end
section
variable {X : Cx} {pos : Pos}
def gLst (K : PySem.W.Frag) (n : Nat) (t : TGs) : TG := fun v σ H Q => ∃ a xs, v = .ref a ∧ SqL K H a xs ∧ xs.length = n ∧ t xs σ H Q
end
/-! ### insert -/
section
variable {X : Cx}
def rInsert : V → List V → Hp → VK → Prop := fun x vs H Q => ∃ (l : Addr) (xs : List V) (i : Nat) (y : V), x = .ref l ∧ vs = [.int (i : Int), y] ∧ H l = some (.lst xs) ∧ i ≤ xs.length ∧ xs.length < sizeLine ∧ Q .non (upd H l (.lst (xs.take i ++ y :: xs.drop i)))
end
/-! ### == and != of lists of writings -/
inductive RdW (K : PySem.W.Frag) (H : Hp) : V → PyData → Prop
  | wr {p la lg : Addr} {w : Int} {a g : List Int} : WrAt K H p la lg w a g → RdW K H (.ref p) (.tuple [.int w, .list (a.map PyData.int), .list (g.map PyData.int)])
theorem RdW.rdT {K : PySem.W.Frag} {H : Hp} {v : V} {d : PyData} (h : RdW K H v d) : RdT K H v d := by
  cases h with
  | wr h => exact h.rd
section
variable {X : Cx}
theorem RdW.readsAll {pins : List (Addr × Obj)} {s : Shared} {σ : St} {H : Hp} (I : Inv X pins σ H s) : ∀ {xs : List V} {us : List Value} {ds : List PyData}, Vals xs us → Paired (RdW X.K H) xs ds → ∃ as, ReadsAll s.heap us ds as
  | _, _, _, .nil, .nil => ⟨_, ReadsAll.nil⟩
  | _, _, _, .cons r t, .cons q y => by
    obtain ⟨as, h1⟩ := RdT.reads I r q.rdT
    obtain ⟨bs, h2⟩ := RdW.readsAll I t y
    exact ⟨_, ReadsAll.cons h1 h2⟩
theorem RdW.layAll {K : PySem.W.Frag} {H : Hp} : ∀ {xs : List V} {ds : List PyData}, Paired (RdW K H) xs ds → PyData.canLayAll0 ds = true ∧ PyData.depthAll ds ≤ 2
  | _, _, .nil => by simp [PyData.canLayAll0, PyData.depthAll]
  | _, _, .cons r t => by
    have h2 := RdW.layAll t
    cases r with
    | wr h =>
      simp only [PyData.canLayAll0, PyData.depthAll, PyData.canLay0, PyData.depth, canLay_ints, depth_ints, h2.1, Bool.and_self, Bool.true_and, true_and]
      have := h2.2
      omega
def rNeLW (K : PySem.W.Frag) : R2 := fun x y H Q => ∃ (a b : Addr) (xs ys : List V) (ds es : List PyData), x = .ref a ∧ y = .ref b ∧ SqL K H a xs ∧ SqL K H b ys ∧ Paired (RdW K H) xs ds ∧ Paired (RdW K H) ys es ∧ Q (.bl (!PyData.eqv (.list ds) (.list es))) H
end
end L2
namespace L2
open PySem
end L2

set_option Elab.async false
set_option maxRecDepth 100000
namespace L2
open PySem PySem.Spec PyProof.Rows
/-! ### more of texts -/
section
variable {X : Cx}
def rMulS : R2 := fun x y H Q => ∃ z n, x = .str z ∧ y = .int n ∧ MulOk z n ∧ Q (.str (PySem.Txt.mul z n)) H
theorem op_mulS : OpR X (binaryOp .Mult) rMulS := by
  intro pins s σ H x y v u Q I rx ry h
  obtain ⟨z, n, rfl, rfl, hok, q⟩ := h
  obtain ⟨t, rfl⟩ := rx
  obtain ⟨t2, rfl⟩ := ry
  exact SB.mul hok fun t' k => ⟨.str _, H, I.tok k, ⟨t', rfl⟩, q⟩
/-- None in a list of lists and Nones -/
def eN (u : Value) : Bool := match u with
  | .none => true
  | _ => false
def rInN (K : PySem.W.Frag) : R2 := fun x y H Q => ∃ p xs, x = .non ∧ y = .ref p ∧ SqL K H p xs ∧ (∀ y ∈ xs, y = .non ∨ ∃ l zs, y = .ref l ∧ SqL K H l zs) ∧ Q (.bl (xs.any fun y => decide (y = .non))) H
theorem vals_back : ∀ {xs : List V} {us : List Value} {i : Nat} {w : Value}, Vals xs us → us[i]? = some w → ∃ y, xs[i]? = some y ∧ RelV y w
  | _, _, _, _, .nil, h => by simp at h
  | _, _, 0, _, .cons a _, h => ⟨_, rfl, by have := Option.some.inj h; subst this; exact a⟩
  | _, _, i + 1, _, .cons _ b, h => by simpa using vals_back b (i := i) (by simpa using h)
theorem any_eN {H : Hp} {K : PySem.W.Frag} : ∀ {xs : List V} {us : List Value}, Vals xs us → (∀ y ∈ xs, y = .non ∨ ∃ l zs, y = V.ref l ∧ SqL K H l zs) → us.any eN = xs.any fun y => decide (y = .non)
  | _, _, .nil, _ => rfl
  | y :: xs, u :: us, .cons r t, f => by
    rw [List.any_cons, List.any_cons, any_eN t fun y hy => f y (List.mem_cons_of_mem _ hy)]
    congr 1
    rcases f y List.mem_cons_self with rfl | ⟨l, zs, rfl, _⟩
    · cases r; rfl
    · cases r; rfl
theorem op_inN (hu : X.A.units + 64 < cLine) : OpR X (compareOp .In) (rInN X.K) := by
  intro pins s σ H x y v u Q I rx ry h
  obtain ⟨p, xs, rfl, rfl, hq, hx, q⟩ := h
  cases rx
  cases ry
  obtain ⟨its, r, pl, hz⟩ := I.list hq
  refine SeqAt.in_listAt eN pl.isList (fun w hw => ?_) ⟨.bl _, H, I, rfl, ?_⟩
  · have hw : w ∈ its := by simpa using hw
    obtain ⟨i, hi⟩ := List.mem_iff_getElem?.mp hw
    obtain ⟨y, hy, ry⟩ := vals_back r hi
    rcases hx y (List.mem_of_getElem? hy) with rfl | ⟨l, zs, rfl, hl⟩
    · cases ry; exact SeqAt.EqAt.same _
    · cases ry
      obtain ⟨_, _, pl', _⟩ := I.list hl
      exact SeqAt.EqAt.list_none pl'.isList (show X.A.units + 1 < cLine by omega)
  · rw [show its.toArray.any eN = its.any eN by simp, any_eN r hx]
    exact q
end
/-- a comprehension over a text, where the element may refuse -/
theorem comp_strE {z : Str} {D : Addr} {te : TE} {cs : St} {H1 : Hp} {Q : Hp → Prop} (f : Nat → V) (ok : Nat → Prop) (hz : z.length ≤ sizeLine) (hD : H1 D = none)
    (step : ∀ i c H, z.cps.toList[i]? = some c → Same H1 H → ∀ R : VK, (ok i → R (f i) H) → te (some (.str ⟨#[c]⟩) :: cs) H R) (q : (∀ i, i < z.length → ok i) → Q (upd H1 D (.lst ((List.range z.length).map f)))) :
    ∃ W : Nat → Nat → Hp → List V → Prop, (∃ m, W 0 m (upd H1 D (.lst [])) []) ∧
      ∀ i m H2 ys, W i m H2 ys → H2 D = some (.lst ys) ∧ (((Its z).stop i H2 ∧ Q H2) ∨ ((Its z).go i H2 ∧ ys.length < sizeLine ∧ ∀ x H3, (Its z).yld i H2 x H3 →
        te (some x :: cs) H3 fun y H4 => H4 D = some (.lst ys) ∧ ∃ m', m' < m ∧ W (i + 1) m' (upd H4 D (.lst (ys ++ [y]))) (ys ++ [y]))) := by
  refine ⟨fun i m H2 ys => m + i = z.length ∧ ys = (List.range i).map f ∧ H2 = upd H1 D (.lst ys) ∧ ∀ j, j < i → ok j, ⟨z.length, by omega, rfl, rfl, fun j hj => absurd hj (Nat.not_lt_zero _)⟩, ?_⟩
  rintro i m H2 ys ⟨hm, rfl, rfl, hk⟩
  refine ⟨upd_same, ?_⟩
  by_cases hi : i = z.length
  · subst hi
    exact .inl ⟨Nat.le_refl _, q hk⟩
  · have hlt : i < z.length := by omega
    refine .inr ⟨hlt, by rw [List.length_map, List.length_range]; omega, ?_⟩
    rintro x H3 ⟨rfl, c, hc, rfl⟩
    refine step i c _ hc (Same.upd hD) _ fun o => ⟨upd_same, m - 1, by omega, by omega, ?_, ?_, fun j hj => ?_⟩
    · rw [List.range_succ, List.map_append]; rfl
    · rw [upd_upd]
    · by_cases e : j = i
      · subst e; exact o
      · exact hk j (by omega)
/-- over a list, the elements may lay objects -/
theorem comp_listG {K : PySem.W.Frag} {a D : Addr} {xs : List V} {te : TE} {cs : St} {H1 : Hp} {Q : Hp → Prop} (Pv : Nat → Hp → List V → Prop) (hz : xs.length ≤ sizeLine) (h0 : Pv 0 (upd H1 D (.lst [])) [])
    (hl : ∀ i H ys, Pv i H ys → H D = some (.lst ys) ∧ ys.length = i ∧ SqL K H a xs)
    (step : ∀ i x H ys (R : VK), xs[i]? = some x → Pv i H ys → (∀ y H4, H4 D = some (.lst ys) → Pv (i + 1) (upd H4 D (.lst (ys ++ [y]))) (ys ++ [y]) → R y H4) → te (some x :: cs) H R) (q : ∀ H ys, Pv xs.length H ys → Q H) :
    ∃ W : Nat → Nat → Hp → List V → Prop, (∃ m, W 0 m (upd H1 D (.lst [])) []) ∧
      ∀ i m H2 ys, W i m H2 ys → H2 D = some (.lst ys) ∧ (((Itl K a).stop i H2 ∧ Q H2) ∨ ((Itl K a).go i H2 ∧ ys.length < sizeLine ∧ ∀ x H3, (Itl K a).yld i H2 x H3 →
        te (some x :: cs) H3 fun y H4 => H4 D = some (.lst ys) ∧ ∃ m', m' < m ∧ W (i + 1) m' (upd H4 D (.lst (ys ++ [y]))) (ys ++ [y]))) := by
  refine ⟨fun i m H2 ys => m + i = xs.length ∧ Pv i H2 ys, ⟨xs.length, by omega, h0⟩, ?_⟩
  rintro i m H2 ys ⟨hm, p⟩
  obtain ⟨h1, h2, h3⟩ := hl i H2 ys p
  refine ⟨h1, ?_⟩
  by_cases hi : i = xs.length
  · subst hi
    exact .inl ⟨⟨xs, h3, Nat.le_refl _⟩, q _ _ p⟩
  · have hlt : i < xs.length := by omega
    refine .inr ⟨⟨xs, xs[i], h3, List.getElem?_eq_getElem hlt⟩, by omega, ?_⟩
    rintro x H3 ⟨rfl, hy⟩
    exact step i x _ ys _ (hy xs h3) p fun y H4 e p4 => ⟨e, m - 1, by omega, by omega, p4⟩
/-! ### count and slices, by lists of signs -/
theorem count_no {l : List Nat} {c : Nat} (h : c ∉ l) : PySem.Txt.count ⟨l.toArray⟩ ⟨#[c]⟩ = 0 := by
  unfold PySem.Txt.count
  rcases StrLaws.occ_head ⟨l.toArray⟩ ⟨#[c]⟩ ((⟨l.toArray⟩ : Str).length + 1) (by omega) with ⟨e, _⟩ | ⟨i, r, _, ha, _⟩
  · rw [e]; rfl
  · have := (StrLaws.subAt_one ⟨l.toArray⟩ c i).mp ⟨ha.1, ha.2⟩
    exact absurd (List.mem_of_getElem? (l := l) (by simpa using this)) h
theorem count_at {l : List Nat} {c : Nat} (h : c ∈ l) : ¬ PySem.Txt.count ⟨l.toArray⟩ ⟨#[c]⟩ = 0 := by
  unfold PySem.Txt.count
  rcases StrLaws.occ_head ⟨l.toArray⟩ ⟨#[c]⟩ ((⟨l.toArray⟩ : Str).length + 1) (by omega) with ⟨_, hn⟩ | ⟨i, r, e, _, _⟩
  · obtain ⟨i, hi⟩ := List.mem_iff_getElem?.mp h
    have := (StrLaws.subAt_one ⟨l.toArray⟩ c i).mpr (by simpa using hi)
    exact absurd ⟨this.1, this.2⟩ (hn i)
  · rw [e, List.length_cons]; omega
theorem slice_to {l : List Nat} {k : Nat} (h : k ≤ l.length) : PySem.Txt.slice ⟨l.toArray⟩ none (some (k : Int)) = ⟨(l.take k).toArray⟩ := by
  have hl : (⟨l.toArray⟩ : Str).length = l.length := by simp [Str.length]
  have := slice_closes_toL (x := ⟨l.toArray⟩) (j := (k : Int)) (by omega) (by rw [hl]; omega)
  rw [beq_iff_eq.mp this]
  congr 1
theorem slice_from {l : List Nat} {k : Nat} (h : k ≤ l.length) : PySem.Txt.slice ⟨l.toArray⟩ (some (k : Int)) none = ⟨(l.drop k).toArray⟩ := by
  have hl : (⟨l.toArray⟩ : Str).length = l.length := by simp [Str.length]
  have := slice_closes_fromL (x := ⟨l.toArray⟩) (i := (k : Int)) (by omega) (by rw [hl]; omega) rfl
  rw [beq_iff_eq.mp this]
  congr 1
  show List.toArray ((l.drop k).take _) = _
  rw [List.take_of_length_le]
  rw [List.length_drop, hl]
  omega
theorem slice_mid {l : List Nat} {k : Nat} {d : Nat} (h : k ≤ l.length) : PySem.Txt.slice ⟨(l ++ [d]).toArray⟩ (some (k : Int)) (some (-1)) = ⟨(l.drop k).toArray⟩ := by
  have hl : (⟨(l ++ [d]).toArray⟩ : Str).length = l.length + 1 := by simp [Str.length]
  have e : PySem.Txt.slice ⟨(l ++ [d]).toArray⟩ (some (k : Int)) (some (-1)) = PySem.Txt.slice ⟨(l ++ [d]).toArray⟩ (some (k : Int)) (some (-1 + (⟨(l ++ [d]).toArray⟩ : Str).length)) :=
    StrLaws.sliceText_neg_hi _ _ (by decide) (by rw [hl]; omega)
  rw [e]
  have := slice_closesL (x := ⟨(l ++ [d]).toArray⟩) (i := (k : Int)) (j := -1 + (⟨(l ++ [d]).toArray⟩ : Str).length) (by omega) (by rw [hl]; omega) (by rw [hl]; omega)
  rw [beq_iff_eq.mp this]
  congr 1
  show List.toArray (((l ++ [d]).drop k).take _) = _
  rw [hl, List.drop_append_of_le_length h, List.take_append_of_le_length (by rw [List.length_drop]; omega), List.take_of_length_le]
  rw [List.length_drop]
  omega
end L2

set_option Elab.async false
set_option maxRecDepth 100000
namespace My
open PySem L2
/-! texts -/
abbrev txt (l : List Nat) : Str := ⟨l.toArray⟩
theorem txt_len (l : List Nat) : (txt l).length = l.length := by simp [Str.length]
theorem txt_inj {l m : List Nat} (h : txt l = txt m) : l = m := by
  have : l.toArray = m.toArray := congrArg Str.cps h
  simpa using this
abbrev signsT : Str := "0123456789abcdefghijklmnopqrstuvwxyz"
theorem signs_list : signsT.cps.toList = (List.range 36).map RF.sgn := by decide +kernel
theorem signs_len : signsT.length = 36 := by decide +kernel
theorem signs_at {d : Nat} (h : d < 36) : atI signsT.cps.toList (d : Int) = some (RF.sgn d) := by
  apply atI_nat
  rw [signs_list, List.getElem?_map, List.getElem?_range h]; rfl
theorem signs_txt : signsT = txt ((List.range 36).map RF.sgn) := by decide +kernel
theorem find_sign {d : Nat} (h : d < 36) : PySem.Txt.find signsT ⟨#[RF.sgn d]⟩ = (d : Int) := by
  have e : (List.range 36).map RF.sgn = (List.range d).map RF.sgn ++ RF.sgn d :: ((List.range' (d + 1) (35 - d)).map RF.sgn) := by
    have : List.range 36 = List.range d ++ d :: List.range' (d + 1) (35 - d) := by
      rw [List.range_eq_range', List.range_eq_range', show 36 = d + ((35 - d) + 1) by omega, ← List.range'_append_1, List.range'_succ]
      simp
    rw [this, List.map_append, List.map_cons]
  rw [signs_txt, e, find_at]
  · simp
  · intro hm
    obtain ⟨i, hi, he⟩ := List.mem_map.mp hm
    have hi := List.mem_range.mp hi
    have := RF.sgn_inj (by omega) h he
    omega
theorem find_other {c : Nat} (h : ∀ d, d < 36 → RF.sgn d ≠ c) : PySem.Txt.find signsT ⟨#[c]⟩ = -1 := by
  rw [signs_txt, find_no]
  intro hm
  obtain ⟨i, hi, he⟩ := List.mem_map.mp hm
  exact h i (List.mem_range.mp hi) he
/-- figures as natural numbers -/
def nats (a : List Int) : List Nat := a.map Int.toNat
theorem ig_len (a : List Nat) : (RF.ig a).length = a.length := by simp [RF.ig]
def spTextOf (K : PySem.W.Frag) : Sp := fun vs H Q _ => ∃ (l : Addr) (ds : List Nat), vs = [.ref l] ∧ SqL K H l ((RF.ig ds).map V.int) ∧ (∀ d ∈ ds, d < 36) ∧ ds.length ≤ 4000 ∧ ∀ H', Same H H' → Q (.str (txt (ds.map RF.sgn))) H'
def spFigsOfWhole : Sp := fun vs H Q _ => ∃ b n : Nat, vs = [.int (b : Int), .int (n : Int)] ∧ 2 ≤ b ∧ b ≤ 36 ∧ n ≤ 1000000000000 ∧
  ∀ (l : Addr) (H' : Hp), Same H H' → H l = none → H' l = some (.lst ((RF.ig (RF.dg b n)).map V.int)) → Q (.ref l) H'
/-- a writing's note -/
def noteOf (b x : Int) (a g : List Int) : List Nat := RF.note b.toNat x.toNat (nats a) (nats g)
def spShown (K : PySem.W.Frag) : Sp := fun vs H Q _ => ∃ (b : Int) (p la lg : Addr) (x : Int) (a g : List Int), vs = [.int b, .ref p] ∧ 2 ≤ b ∧ b ≤ 36 ∧ WrAt K H p la lg x a g ∧ GoodW b x a g ∧ ∀ H', Same H H' → Q (.str (txt (noteOf b x a g))) H'
def spFigureRead : Sp := fun vs H Q _ => ∃ b d : Nat, vs = [.int (b : Int), .str ⟨#[RF.sgn d]⟩] ∧ b ≤ 36 ∧ d < b ∧ Q (.int (d : Int)) H
def spFiguresRead : Sp := fun vs H Q _ => ∃ (b : Nat) (ds : List Nat), vs = [.int (b : Int), .str (txt (ds.map RF.sgn))] ∧ b ≤ 36 ∧ (∀ d ∈ ds, d < b) ∧ ds.length ≤ 4000 ∧
  ∀ (l : Addr), H l = none → Q (.ref l) (upd H l (.lst ((RF.ig ds).map V.int)))
def spRingRead : Sp := fun vs H Q _ => ∃ (b : Nat) (ds : List Nat), vs = [.int (b : Int), .str (txt (ds.map RF.sgn ++ [41]))] ∧ b ≤ 36 ∧ (∀ d ∈ ds, d < b) ∧ ds.length ≤ 4000 ∧ ds ≠ [] ∧
  ∀ (l : Addr), H l = none → Q (.ref l) (upd H l (.lst ((RF.ig ds).map V.int)))
def spWholeRead : Sp := fun vs H Q _ => ∃ b n : Nat, vs = [.int (b : Int), .str (txt ((RF.dg b n).map RF.sgn))] ∧ 2 ≤ b ∧ b ≤ 36 ∧ n ≤ 1000000000000 ∧ ∀ H', Same H H' → Q (.int (n : Int)) H'
def spRead : Sp := fun vs H Q _ => ∃ (b x : Int) (a g : List Int), vs = [.int b, .str (txt (noteOf b x a g))] ∧ 2 ≤ b ∧ b ≤ 36 ∧ GoodW b x a g ∧
  ∀ (p la lg : Addr) (H' : Hp), NewWr H H' p la lg x a g → Q (.ref p) H'
def spLawText (K : PySem.W.Frag) : Sp := fun vs H Q _ => ∃ (b : Int) (p la lg : Addr) (x : Int) (a g : List Int), vs = [.int b, .ref p] ∧ 2 ≤ b ∧ b ≤ 36 ∧ WrAt K H p la lg x a g ∧ GoodW b x a g ∧ ∀ H', Same H H' → Q (.str (txt (noteOf b x a g))) H'
theorem small_text {n : Nat} (h : n ≤ 20000) : n ≤ sizeLine := Nat.le_trans h (by decide)
end My

set_option Elab.async false
set_option maxRecDepth 100000
namespace L2
open PySem PySem.Spec PyProof.Rows
/-! ### exceptions of own classes: raised, passed on, caught -/
/-- a raised exception and its newest entry; fl: the frame that stands in it -/
structure Trc (h B : Heap) (a : Addr) (cls fl : Value) (oe ot : Obj) (vs ts : Array Value) (T : Addr) : Prop where
  oa : h.get? a = some oe
  cl : oe.cls = cls
  nd : oe.dict = none
  da : oe.data = .fields vs
  en : vs[1]? = some (.ref T)
  nw : B.get? T = none
  ne : T ≠ a
  oT : h.get? T = some ot
  dT : ot.data = .fields ts
  fl3 : ts[3]? = some fl
structure Fly (B : Heap) (l : List Env) (a : Addr) (cls fl : Value) (h : Heap) : Prop where
  st : B.StaysIn h
  nw : B.get? a = none
  fr : h.FunFrames B l
  tr : ∃ oe oT vs ts T, Trc h B a cls fl oe oT vs ts T
/-- how a raised exception stands in a frame: flying, noted by this frame, or just made -/
def Stage (B : Heap) (l : List Env) (_L a : Addr) (cls : Value) (h : Heap) : Prop :=
  (∃ fl, Fly B l a cls fl h) ∨ ∃ h1 args, B.StaysIn h1 ∧ h1.FunFrames B l ∧ Heap.MadeExcOf h1 h a cls args
section
variable {M : Model} {A : Around} {E : Value → Shared → Prop} {s : Shared} {B : Heap} {env : Env} {outer : List Env} {L a : Addr} {cls fl : Value}
theorem Stage.stays {l : List Env} {h : Heap} (x : Stage B l L a cls h) : B.StaysIn h := by
  rcases x with ⟨_, x⟩ | ⟨h1, _, k, _, m⟩
  · exact x.st
  · exact fun b o e => m.keeps b o (k b o e)
theorem Stage.frames {l : List Env} {h : Heap} (x : Stage B l L a cls h) : h.FunFrames B l := by
  rcases x with ⟨_, x⟩ | ⟨h1, _, _, f, m⟩
  · exact x.fr
  · exact f.of_keeps fun b o e _ => ⟨o, m.keeps b o e, rfl⟩
/-- a fresh one is new to the base -/
theorem made_new {h1 : Heap} (k : B.StaysIn h1) {b : Addr} (hb : h1.get? b = none) : B.get? b = none := by
  cases q : B.get? b with
  | none => rfl
  | some o => rw [k b o q] at hb; cases hb
/-- the mark of the newest entry is put -/
theorem Fly.mark {Q : Unit → Shared → Prop} {l : List Env} {fr : Option Addr} (x : Fly B l a cls fl s.heap) (hQ : ∀ h', Fly B l a cls (fr.elim Value.none fun f => rawInt f) h' → s.heap.UpToSlots h' → Q () { s with heap := h' }) :
    wpAny M A (setFlight (.ref a) fr) Q E s := by
  obtain ⟨st, new, ff, oe, oT, vs, ts, T, y⟩ := x
  have sz : 3 < ts.size := (Array.getElem?_eq_some_iff.mp y.fl3).1
  have oth : ∀ b, b ≠ T → (s.heap.update T (Obj.mapFields (·.setIfInBounds 3 (fr.elim Value.none fun f => rawInt f)))).get? b = s.heap.get? b := fun b hb => Heap.get?_update_other _ _ (Ne.symm hb)
  have nr : ∀ b o, s.heap.get? b = some o → (∀ vs, o.data ≠ .fields vs) → b ≠ T := fun b o hb hn q => by
    have z := y.oT
    rw [← q, hb] at z
    cases z
    exact hn ts y.dT
  unfold setFlight
  refine wpAny_bind (wpAny_field y.oa y.da y.en ?_)
  rw [if_pos (show (Value.ref T != Value.none) = true from by simp)]
  have dT := Obj.data_mapFields y.dT (·.setIfInBounds 3 (fr.elim Value.none fun f => rawInt f))
  refine wpAny_setField y.oT y.dT sz (hQ _ ⟨?_, new, ?_, oe, _, vs, _, T, ⟨(oth a (Ne.symm y.ne)).trans y.oa, y.cl, y.nd, y.da, y.en, y.nw, y.ne, Heap.get?_update_self _ y.oT (Obj.isFreed_of_fields dT), dT, ?_⟩⟩ ?_)
  · intro b o e
    exact (oth b fun q => by rw [q, y.nw] at e; cases e).trans (st b o e)
  · exact ff.of_keeps fun b o e hn => ⟨o, (oth b (nr b o e hn)).trans e, rfl⟩
  · simp [sz]
  · intro b o e hn
    exact ⟨o.slots, (oth b (nr b o e hn)).trans e⟩
theorem dict_map (o : Obj) (f : Array Value → Array Value) : (Obj.mapFields f o).dict = o.dict := by
  obtain ⟨c, d, dt, sl⟩ := o
  cases dt <;> rfl
/-- a new entry for this frame -/
theorem new_entry {Q : Unit → Shared → Prop} {oe : Obj} {vs : Array Value} {hv : Value} {nx : Bool} (hfr : A.frames = some (env :: outer)) (ff : s.heap.FunFrames B (env :: outer)) (hf : env.frame = some L) (st : B.StaysIn s.heap) (new : B.get? a = none)
    (oa : s.heap.get? a = some oe) (cl : oe.cls = cls) (nd : oe.dict = none) (da : oe.data = .fields vs) (sz : 1 < vs.size) (hQ : ∀ h', Fly B (env :: outer) a cls (rawInt L) h' → s.heap.UpToSlots h' → Q () { s with heap := h' }) :
    wpAny M A (do let fo ← frameOf env; let pl ← entryPlaceOf L nx; let nb ← EntryCells.newEntry hv fo .none (rawInt L) .none pl; setField (.ref a) 1 nb) Q E s := by
  have anf : a ∉ (env :: outer).filterMap (·.frame) := fun hm => by
    obtain ⟨_, o, ho, hn⟩ := ff.mem hm
    rw [oa] at ho
    cases ho
    exact hn vs da
  refine wpAny_bind (wpAny_frameOf_fun hfr ff hf fun g1 r1 => ?_)
  refine wpAny_bind (wpAny_entryPlaceOf fun pl hpl => ?_)
  unfold EntryCells.newEntry newFields
  refine wpAny_bind (wpAny_newObj_type ?_ (hpl.sizeOk5 _ _ _ _ _))
  generalize hob : ({ cls := .type "traceback", dict := none, data := .fields ([hv, .ref L, .none, rawInt L, .none] ++ (if pl.isEmpty then List.replicate 6 Value.none else pl)).toArray } : Obj) = tb
  have a1 : g1.get? a = some oe := (r1.2.1 a anf).trans oa
  have b1 : B.StaysIn g1 := fun b o e => (r1.2.1 b fun hm => by rw [(ff.mem hm).1] at e; cases e).trans (st b o e)
  have a2 := Heap.get?_push_of_some tb a1
  refine wpAny_setField a2 da sz ?_
  have Ta : g1.objs.size ≠ a := Nat.ne_of_gt (Heap.lt_size a1)
  have da3 := Obj.data_mapFields da (·.setIfInBounds 1 (Value.ref g1.objs.size))
  have a3 := Heap.get?_update_self (Obj.mapFields (·.setIfInBounds 1 (Value.ref g1.objs.size))) a2 (Obj.isFreed_of_fields da3)
  have T3 : ((g1.push tb).update a (Obj.mapFields (·.setIfInBounds 1 (Value.ref g1.objs.size)))).get? g1.objs.size = some tb := (Heap.get?_update_other _ _ (Ne.symm Ta)).trans (Heap.get?_push_size g1 (by rw [← hob]; rfl))
  have kp : ∀ b o, b ≠ a → g1.get? b = some o → ((g1.push tb).update a (Obj.mapFields (·.setIfInBounds 1 (Value.ref g1.objs.size)))).get? b = some o := fun b o hb e =>
    (Heap.get?_update_other _ _ (Ne.symm hb)).trans (Heap.get?_push_of_some _ e)
  have nr : ∀ b o, s.heap.get? b = some o → (∀ vs, o.data ≠ .fields vs) → b ≠ a := fun b o hb hn q => by
    rw [q, oa] at hb
    cases hb
    exact hn vs da
  refine hQ _ ⟨fun b o e => kp b o (fun q => by rw [q, new] at e; cases e) (b1 b o e), new, ff.of_keeps fun b o e hn => ?_, _, tb, _, _, g1.objs.size, ⟨a3, (Obj.cls_mapFields _ _).trans cl, (dict_map _ _).trans nd, da3, by simp [sz], b1.fresh, Ta, T3, by rw [← hob], ?_⟩⟩ fun b o e hn => ?_
  · obtain ⟨sl, q⟩ := r1.2.2 b o e
    exact ⟨_, kp b _ (nr b o e hn) q, rfl⟩
  · rcases hpl with rfl | ⟨_, _, _, _, _, _, _, rfl⟩ <;> simp
  · obtain ⟨sl, q⟩ := r1.2.2 b o e
    exact ⟨sl, kp b _ (nr b o e hn) q⟩
/-- noted by the frame -/
theorem Stage.note {Q : Unit → Shared → Prop} (x : Stage B (env :: outer) L a cls s.heap) (hfr : A.frames = some (env :: outer)) (hf : env.frame = some L)
    (hQ : ∀ h', Fly B (env :: outer) a cls (rawInt L) h' → s.heap.UpToSlots h' → Q () { s with heap := h' }) : wpAny M A (noteFrame (.ref a) env) Q E s := by
  rcases x with ⟨fl, x⟩ | ⟨h1, args, k, f, m⟩
  · by_cases hfl : (fl == rawInt L) = true
    · have x' := x
      obtain ⟨_, _, _, oe, oT, vs, ts, T, y⟩ := x'
      unfold noteFrame
      simp only [hf]
      refine wpAny_bind (wpAny_field y.oa y.da y.en ?_)
      rw [if_pos (show (Value.ref T != Value.none) = true from by simp)]
      refine wpAny_bind (wpAny_field y.oT y.dT y.fl3 ?_)
      rw [if_pos hfl]
      exact wpAny_pure (hQ _ (eq_of_beq hfl ▸ x) (.refl _))
    obtain ⟨st, new, ff, oe, oT, vs, ts, T, y⟩ := x
    unfold noteFrame
    simp only [hf]
    refine wpAny_bind (wpAny_field y.oa y.da y.en ?_)
    rw [if_pos (show (Value.ref T != Value.none) = true from by simp)]
    refine wpAny_bind (wpAny_field y.oT y.dT y.fl3 ?_)
    rw [if_neg hfl]
    refine wpAny_bind (wpAny_setField y.oT y.dT (Array.getElem?_eq_some_iff.mp y.fl3).1 ?_)
    have oth : ∀ b, b ≠ T → (s.heap.update T (Obj.mapFields (·.setIfInBounds 3 Value.none))).get? b = s.heap.get? b := fun b hb => Heap.get?_update_other _ _ (Ne.symm hb)
    have nr : ∀ b o, s.heap.get? b = some o → (∀ vs, o.data ≠ .fields vs) → b ≠ T := fun b o hb hn q => by
      have z := y.oT
      rw [← q, hb] at z
      cases z
      exact hn ts y.dT
    refine new_entry hfr (ff.of_keeps fun b o e hn => ⟨o, (oth b (nr b o e hn)).trans e, rfl⟩) hf (fun b o e => (oth b fun q => by rw [q, y.nw] at e; cases e).trans (st b o e)) new ((oth a (Ne.symm y.ne)).trans y.oa) y.cl y.nd y.da (Array.getElem?_eq_some_iff.mp y.en).1 fun h' z u => hQ h' z fun b o e hn => ?_
    exact u b o ((oth b (nr b o e hn)).trans e) hn
  · obtain ⟨t, he, _, _⟩ := m.there
    unfold noteFrame
    simp only [hf]
    refine wpAny_bind (wpAny_field (x := Value.none) he rfl rfl ?_)
    rw [if_neg (by decide)]
    exact new_entry hfr (f.of_keeps fun b o e _ => ⟨o, m.keeps b o e, rfl⟩) hf (fun b o e => m.keeps b o (k b o e)) (made_new k m.new) he rfl rfl rfl (show 1 < 6 by decide) hQ
/-- out of the frame -/
theorem Stage.leave {Q : Unit → Shared → Prop} (x : Stage B (env :: outer) L a cls s.heap) (hfr : A.frames = some (env :: outer)) (hf : env.frame = some L)
    (hQ : ∀ h', Fly B outer a cls .none h' → s.heap.UpToSlots h' → Q () { s with heap := h' }) : wpAny M A (leaving env (.ref a)) Q E s := by
  unfold leaving
  refine wpAny_bind (x.note hfr hf fun h1 y u => ?_)
  refine Fly.mark (s := { s with heap := h1 }) (fr := none) y fun h2 z u2 => ?_
  exact hQ h2 ⟨z.st, z.nw, z.fr.2.2, z.tr⟩ (u.trans u2)
end
/-- what lies behind an exception: H' the abstract heap, held in B; h₀, H₀ those ahead of the call -/
structure Bx (P : Program) (w : World) (outer : List Env) (H₀ : Hp) (h₀ : Heap) (H' : Hp) (B : Heap) : Prop where
  old : ∀ b o, h₀.get? b = some o → H₀ b = none → b ∉ frs outer → B.get? b = some o
  thr : ∀ b o, h₀.get? b = some o → b ∉ frs outer → ∃ o', B.get? b = some o'
  hok : HOk P w H' B
  free : ∀ b o, h₀.get? b = some o → H₀ b = none → H' b = none
  tups : ∀ b xs, H₀ b = some (.tup xs) → H' b = some (.tup xs)
  frzs : ∀ b o u, H₀ b = some (.frz o u) → H' b = some (.frz o u)
  tbls : ∀ b ps, H₀ b = some (.tbl ps) → ∃ more, H' b = some (.tbl (ps ++ more))
/-- the callers' frames: their slots alone may have changed -/
def Slots (outer : List Env) (h₀ h : Heap) : Prop := ∀ b o, h₀.get? b = some o → b ∈ frs outer → ∃ sl, h.get? b = some { o with slots := sl }
theorem Slots.up {outer : List Env} {h₀ h h' B : Heap} (x : Slots outer h₀ h) (f : h.FunFrames B outer) (u : h.UpToSlots h') : Slots outer h₀ h' := fun b o e hb => by
  obtain ⟨sl, e1⟩ := x b o e hb
  obtain ⟨_, o1, e2, hn⟩ := f.mem hb
  rw [e1] at e2
  cases e2
  obtain ⟨sl', e3⟩ := u b _ e1 hn
  exact ⟨sl', e3⟩
theorem Bx.un {P : Program} {w : World} {outer : List Env} {H₀ H' : Hp} {h₀ B h : Heap} (x : Bx P w outer H₀ h₀ H' B) (sl : Slots outer h₀ h) (st : B.StaysIn h) : Un (frs outer) [] H₀ H' h₀ h where
  keep := fun b o e n hb _ => st b o (x.old b o e n hb)
  slot := fun b o e _ hb _ => sl b o e hb
  free := fun b o e n _ => x.free b o e n
  there := fun b o e _ => by
    by_cases hb : b ∈ frs outer
    · obtain ⟨s1, e1⟩ := sl b o e hb
      exact ⟨_, e1⟩
    · obtain ⟨o', e1⟩ := x.thr b o e hb
      exact ⟨o', st b o' e1⟩
  tups := x.tups
  frzs := x.frzs
  tbls := x.tbls
/-- how an exception lies behind a call -/
def CX1 (P : Program) (w : World) : CXT := fun outer H₀ s₀ E v s' => ∃ (a : Addr) (cls : Value) (H' : Hp) (B : Heap),
  v = .ref a ∧ s'.os = s₀.os ∧ AllBare s'.gens ∧ Bx P w outer H₀ s₀.heap H' B ∧ Slots outer s₀.heap s'.heap ∧ Fly B outer a cls .none s'.heap ∧ E cls none H'
/-- an exception within a def's frame -/
def RX (P : Program) (w : World) (A : Around) (env : Env) (outer : List Env) (L : Addr) (H₀ : Hp) (s₀ : Shared) (E : XK) : Value → Shared → Prop := fun v s => ∃ (a : Addr) (cls : Value) (H' : Hp) (B : Heap),
  v = .ref a ∧ A.frames = some (env :: outer) ∧ s.os = s₀.os ∧ AllBare s.gens ∧ Bx P w outer H₀ s₀.heap H' B ∧ Slots outer s₀.heap s.heap ∧ Stage B (env :: outer) L a cls s.heap ∧ E cls none H'
theorem RX.leaves {P : Program} {w : World} {M : Model} {A : Around} {env : Env} {outer : List Env} {L : Addr} {H₀ : Hp} {s₀ s : Shared} {E : XK} {v : Value} {E' : Value → Shared → Prop} (hf : env.frame = some L)
    (x : RX P w A env outer L H₀ s₀ E v s) : wpAny M A (leaving env v) (fun _ s'' => CX1 P w outer H₀ s₀ E v s'') E' s := by
  obtain ⟨a, cls, H', B, rfl, hfr, os, ba, bx, sl, st, e⟩ := x
  refine st.leave hfr hf fun h' fl u => ⟨a, cls, H', B, rfl, os, ba, bx, ?_, fl, e⟩
  have f : s.heap.FunFrames B outer := st.frames.2.2
  exact sl.up f u
theorem RX.own {P : Program} {w : World} {M : Model} {A : Around} {env : Env} {outer : List Env} {L : Addr} {H₀ : Hp} {s₀ : Shared} {E : XK} (hf : env.frame = some L) :
    PassesOwn M A env (RX P w A env outer L H₀ s₀ E) := by
  rintro v s ⟨a, cls, H', B, rfl, hfr, os, ba, bx, sl, st, e⟩
  have f : s.heap.FunFrames B outer := st.frames.2.2
  refine st.note hfr hf fun h' hd u => ?_
  have sl' := sl.up f u
  have f' : h'.FunFrames B outer := hd.fr.2.2
  have hd0 := hd
  obtain ⟨_, _, _, oe, oT, vs, ts, T, y⟩ := hd0
  refine wpAny_bind (wpAny_field y.oa y.da y.en ?_)
  rw [if_neg (by simp), hf]
  refine Fly.mark (s := { s with heap := h' }) (fr := some L) hd fun h'' hd' u' => ?_
  exact ⟨a, cls, H', B, rfl, hfr, os, ba, bx, sl'.up f' u', .inl ⟨_, hd'⟩, e⟩
end L2

set_option Elab.async false
set_option maxRecDepth 100000
namespace L2
open PySem PySem.Spec PyProof.Rows
section
variable {X : Cx} {pins : List (Addr × Obj)} {σ : St} {H : Hp} {s : Shared}
theorem PSs.unR {R : Value → Shared → Prop} {st : List Stmt} {t : TS} (hR : X.Ok → ∀ e s', R e s' → X.xe e s') (h : PSs (X.wish R) st t) : PSs X st t := fun pins s σ H D I hw =>
  wpAny_mono (h pins s σ H D (I.wish _) hw) (fun _ _ q => q.unwish) fun e s' z => hR I.ok e s' z
/-- what the state holds, as B sees it: all but the frames -/
theorem bx_of (I : Inv X pins σ H s) (hst : X.stack = X.env :: X.outer) (hex : X.ex = []) : Bx X.prog X.w X.outer X.H₀ X.s₀.heap H (PySem.W.hideAll s.heap (frs X.stack)) := by
  have nfr : ∀ b o, X.s₀.heap.get? b = some o → b ∉ frs X.outer → b ∉ frs X.stack := fun b o e hb hm => by
    rcases List.mem_cons.mp (I.stkSub b hm) with q | q
    · exact absurd (Heap.lt_size e) (by rw [q]; exact Nat.not_lt.mpr I.ok.above)
    · exact hb q
  have nex : ∀ b : Addr, b ∉ X.ex := fun b z => by rw [hex] at z; cases z
  refine ⟨fun b o e n hb => ?_, fun b o e hb => ?_, fun b u e => ?_, fun b o e n => I.base.free b o e n (nex b), I.base.tups, I.base.frzs, I.base.tbls⟩
  · exact PySem.W.hideAll_get _ (I.base.keep b o e n hb (nex b)) (nfr b o e hb)
  · obtain ⟨o', e'⟩ := I.base.there b o e (nex b)
    exact ⟨o', PySem.W.hideAll_get _ e' (nfr b o e hb)⟩
  · refine (I.hok b u e).stay (fun c v hc q => PySem.W.hideAll_get _ q fun hm => ?_) (fun _ q => q) fun _ _ q => q
    have z := I.stkFree c hm
    rcases hc with rfl | hc
    · rw [z] at e; cases e
    · rw [z] at hc; cases hc
theorem slots_of (I : Inv X pins σ H s) (hex : X.ex = []) : Slots X.outer X.s₀.heap s.heap := fun b o e hb =>
  I.base.slot b o e (I.ok.frf b hb) hb (by rw [hex]; intro z; cases z)
theorem frames_of (I : Inv X pins σ H s) : s.heap.FunFrames (PySem.W.hideAll s.heap (frs X.stack)) X.stack :=
  PySem.W.funFrames_hide I.stack fun env he b hb => List.mem_filterMap.mpr ⟨env, he, hb⟩
/-- raised here -/
theorem raised_of {E : XK} {h' : Heap} {a : Addr} {cls : Value} {args : List Value} {tk : Nat} (I : Inv X pins σ H s) (hst : X.stack = X.env :: X.outer) (hex : X.ex = []) (m : Heap.MadeExcOf s.heap h' a cls args) (he : E cls none H) :
    RX X.prog X.w X.A X.env X.outer X.env.locals X.H₀ X.s₀ E (.ref a) { s with heap := h', toks := tk } := by
  refine ⟨a, cls, H, _, rfl, hst ▸ I.ok.frames, I.os, I.bare, bx_of I hst hex, fun b o e hb => ?_, .inr ⟨s.heap, args, fun b o e => PySem.W.of_hideAll _ e, ?_, m⟩, he⟩
  · obtain ⟨sl, q⟩ := slots_of I hex b o e hb
    exact ⟨sl, m.keeps _ _ q⟩
  · have := frames_of I
    rw [hst] at this ⊢
    exact this
/-- from a callee -/
theorem passed_of {E : XK} {v : Value} {s' : Shared} (I : Inv X pins σ H s) (hst : X.stack = X.env :: X.outer) (hex : X.ex = []) (x : CX1 X.prog X.w X.stack H s E v s') :
    RX X.prog X.w X.A X.env X.outer X.env.locals X.H₀ X.s₀ E v s' := by
  obtain ⟨a, cls, H', B, rfl, os, ba, bx, sl, fl, e⟩ := x
  have nfr : ∀ b o, X.s₀.heap.get? b = some o → b ∉ frs X.outer → b ∉ frs X.stack := fun b o e hb hm => by
    rcases List.mem_cons.mp (I.stkSub b hm) with q | q
    · exact absurd (Heap.lt_size e) (by rw [q]; exact Nat.not_lt.mpr I.ok.above)
    · exact hb q
  have nex : ∀ b : Addr, b ∉ X.ex := fun b z => by rw [hex] at z; cases z
  have sub : ∀ b, b ∈ frs X.outer → b ∈ frs X.stack := fun b hb => by
    rw [hst]
    unfold frs at hb ⊢
    rw [List.filterMap_cons]
    split
    · exact hb
    · exact List.mem_cons_of_mem _ hb
  refine ⟨a, cls, H', B, rfl, hst ▸ I.ok.frames, os.trans I.os, ba, ⟨fun b o e n hb => ?_, fun b o e hb => ?_, bx.hok, fun b o e n => ?_, fun b xs q => bx.tups _ _ (I.base.tups _ _ q), fun b o u q => bx.frzs _ _ _ (I.base.frzs _ _ _ q), fun b ps q => ?_⟩, fun b o e hb => ?_, .inl ⟨_, by rw [← hst]; exact fl⟩, e⟩
  · exact bx.old b o (I.base.keep b o e n hb (nex b)) (I.base.free b o e n (nex b)) (nfr b o e hb)
  · obtain ⟨o', e'⟩ := I.base.there b o e (nex b)
    exact bx.thr b o' e' (nfr b o e hb)
  · obtain ⟨o', e'⟩ := I.base.there b o e (nex b)
    exact bx.free b o' e' (I.base.free b o e n (nex b))
  · obtain ⟨m1, q1⟩ := I.base.tbls _ _ q
    obtain ⟨m2, q2⟩ := bx.tbls _ _ q1
    exact ⟨m1 ++ m2, by rw [q2, Array.append_assoc]⟩
  · obtain ⟨sl1, q⟩ := slots_of I hex b o e hb
    obtain ⟨sl2, q2⟩ := sl b _ q (sub b hb)
    exact ⟨sl2, q2⟩
end
/-- a def of the text that may raise -/
structure GotE (P : Program) (w : World) (K : PySem.W.Frag) (mg : Str → Option Value) (base : Heap) (name : Str) (k : Nat) (ps : List Str) (sp : Sp) : Prop where
  ex : ∃ (f : Addr) (fd : FuncData), FnOk P w K mg base (CX1 P w) k f fd ps sp ∧ Binds K fd ps [] ∧ PySem.W.keepIn K (.ref f) = true ∧ mg name = some (.ref f)
theorem GotE.mono {P : Program} {w : World} {K : PySem.W.Frag} {mg : Str → Option Value} {base : Heap} {name : Str} {ps : List Str} {j k : Nat} {sp : Sp} (G : GotE P w K mg base name j ps sp) (h : j ≤ k) : GotE P w K mg base name k ps sp := by
  obtain ⟨f, fd, F, b, kp, m⟩ := G.ex
  exact ⟨f, fd, F.mono h, b, kp, m⟩
/-- the context of a def's body that may raise -/
abbrev cxE (P : Program) (w : World) (K : PySem.W.Frag) (mg : Str → Option Value) (base : Heap) (N : List Str) (qual : Str) (scope : Scope) (f : Addr) (cd : Value) (A : Around) (outer : List Env) (s : Shared) (H : Hp) (E : XK) : Cx :=
  (cxOf (CX1 P w) P w K mg base N qual scope f cd A outer s H E).wish (RX P w (A.deeper (envOfC qual scope s.heap.objs.size f cd)) (envOfC qual scope s.heap.objs.size f cd) outer s.heap.objs.size H s E)
theorem IsDef.gotE {P : Program} {w : World} {K : PySem.W.Frag} {mg : Str → Option Value} {base : Heap} {name : Str} {st : Stmt} {ps N : List Str} {k : Nat} {sp : Sp} (D : IsDef K mg name st ps) (S : FnScope N ps (defScope st)) (len : ∀ vs H Q E, sp vs H Q E → vs.length = ps.length)
    (hbody : ∀ (f : Addr) (cdv : Value) (A : Around) (outer : List Env) (s : Shared) (H : Hp) (vs : List V) (Q : VK) (E : XK), Room k (A.deeper (envOfC name (defScope st) s.heap.objs.size f cdv)) → sp vs H Q E →
      ∃ t, PSs (cxE P w K mg base N name (defScope st) f cdv A outer s H E) (defBody st) t ∧ t { nx := fun _ H' => Q .non H', rt := Q } (start N vs) H) : GotE P w K mg base name (k + 1) ps sp := by
  obtain ⟨f, fd, F, b, m⟩ := D.ex
  obtain ⟨oc, od, kV, doc, pm, an, cdv, ct, osl, rfl, lk, hcd⟩ := F.ex
  refine ⟨f, _, fn_of lk hcd S len (fun A outer s H vs Q E hr h => ?_), b, F.kp, m⟩
  obtain ⟨t, ht, q⟩ := hbody f cdv A outer s H vs Q E hr h
  exact ⟨t, ht.unR fun _ e s' z => RX.leaves rfl z, q⟩
section
variable {P : Program} {w : World} {K : PySem.W.Frag} {mg : Str → Option Value} {base : Heap} {N : List Str} {qual : Str} {scope : Scope} {f : Addr} {cd : Value} {A : Around} {outer : List Env} {s₀ : Shared} {H₀ : Hp} {E : XK}
theorem passE : Passes (CX1 P w) (cxE P w K mg base N qual scope f cd A outer s₀ H₀ E) E := fun _ _ _ _ _ _ I x => passed_of I rfl rfl x
variable {x : Str} {p pos : Pos} {e : Expr} {es : List Expr} {t : TA} {k : Nat} {ps : List Str} {sp : Sp}
theorem pe_callE (G : GotE P w K mg base x k ps sp) (hr : Room k (A.deeper (envOfC qual scope s₀.heap.objs.size f cd))) (hg : Gl (cxE P w K mg base N qual scope f cd A outer s₀ H₀ E) x) (ha : PA (cxE P w K mg base N qual scope f cd A outer s₀ H₀ E) (e :: es) t) (hdb : (x == ("__debug__" : Str)) = false := by decide)
    (he : starEach (e :: es) (envOfC qual scope s₀.heap.objs.size f cd) = (false, eval e (envOfC qual scope s₀.heap.objs.size f cd)) :: starEach es (envOfC qual scope s₀.heap.objs.size f cd) := by rfl) (hpl : (backTo pos (starEach es (envOfC qual scope s₀.heap.objs.size f cd))).any (·.1) = false := by rfl) :
    PE (cxE P w K mg base N qual scope f cd A outer s₀ H₀ E) (.Call (.Name x p) (e :: es) [] pos) (tCall sp [] E t) := by
  obtain ⟨f', fd, F, b, kp, m⟩ := G.ex
  exact pe_call F hr hg m kp b .nil passE ha hdb he hpl
end
end L2

set_option Elab.async false
set_option maxRecDepth 100000
namespace L2
open PySem PySem.Spec PyProof.Rows
/-- the built-in part of our classes' ways -/
abbrev veTail : List Value := [.type "ValueError", .type "Exception", .type "BaseException", .type "object"]
abbrev veNew : String := "ValueError.__new__"
/-- the class at C as an object of the heap -/
def ExcAt (h : Heap) (C : Addr) (bm : List Value) : Prop := ∃ N nm q bs hdct sn sub ab col dd k0 k1 k2 k3 k5 mN,
  h.get? C = some (excClassObj nm q C N bs bm hdct sn sub ab col dd k0 k1 k2 k3 k5 veNew) ∧ h.Ns N mN ∧ mN "__init__" = none ∧ OwnTail h veTail bm
theorem exc_at {K : PySem.W.Frag} {h : Heap} {C : Addr} (X : K.In h) (e : PySem.W.excIn K C veTail veNew = true) : ∃ bm, ExcAt h C bm ∧ ∀ D, PySem.W.mroIn K C D = some true → (Value.ref C :: bm).contains D = true := by
  revert e
  unfold PySem.W.excIn
  cases lk : K.lookup C with
  | none => intro e; cases e
  | some ob =>
    obtain ⟨c0, dd, dt, sl⟩ := ob
    intro e
    split at e
    case h_2 => cases e
    case h_1 cd' sl' lk' =>
      cases lk'
      split at e
      case h_2 => cases e
      case h_1 C2 tl k0 k1 k2 k3 nid k5 hm hs =>
        simp only [Bool.and_eq_true, beq_iff_eq, Bool.not_eq_true'] at e
        obtain ⟨⟨⟨⟨⟨hc, hn⟩, hdel⟩, ht⟩, hok⟩, hi⟩ := e
        subst hc
        subst hn
        have ob := X _ _ lk
        obtain ⟨arr⟩ := sl
        simp only at hs
        subst hs
        have hmro : ∀ D, PySem.W.mroIn K C2 D = some true → (Value.ref C2 :: tl).contains D = true := fun D q => by
          unfold PySem.W.mroIn PySem.W.clsIn at q
          rw [lk] at q
          simp only [Option.bind_some, hm] at q
          simpa using q
        obtain ⟨x1, x2, x3, x4, x5, x6, x7, x8, x9, x10, x11⟩ := cd'
        simp only at hm hdel hok hi
        subst hm
        subst hdel
        exact ⟨tl, ⟨_, _, _, _, _, _, _, _, _, _, _, _, _, _, _, _, ob, .of_isNs (PySem.W.isNs_of_in X hok), PySem.W.nsMap_none_of_in X hok hi, PySem.W.tail_of_in X ht⟩, hmro⟩
section
variable {M : Model} {A : Around} {E : Value → Shared → Prop}
/-- an exception of class C goes by the class D -/
theorem matches_own {s : Shared} {a C D : Addr} {oe : Obj} {bm bmD : List Value} {Q : Bool → Shared → Prop} (hC : ExcAt s.heap C bm) (hD : ExcAt s.heap D bmD) (he : s.heap.get? a = some oe) (hcls : oe.cls = .ref C)
    (hin : (Value.ref C :: bm).contains (.ref D) = true) (hq : Q true s) : wpAny M A (excMatches (.ref a) (.ref D)) Q E s := by
  obtain ⟨h, g, d, t, os⟩ := s
  obtain ⟨_, _, _, _, _, _, _, _, _, _, _, _, _, _, _, _, oC, _, _, _⟩ := hC
  obtain ⟨_, _, _, _, _, _, _, _, _, _, _, _, _, _, _, _, oD, _, _, tD⟩ := hD
  have hb : bmD.contains (.type "BaseException") = true := tD.hasType (by decide)
  have hbD : (Value.ref D :: bmD).contains (.type "BaseException") = true := by rw [List.contains_cons, hb, Bool.or_true]
  have f := tc_notTuple
  unfold excMatches
  repeat (first | (with_reducible refine wpAny_loadPart_at he ?_; rw [hcls]) | with_reducible refine wpAny_loadPart_at oD ?_ | (with_reducible refine wpAny_isSubtype_exc oD ?_; rw [hbD]) | (with_reducible refine wpAny_isSubtype_exc oC ?_; rw [hin]) | wp_step)
  exact hq
end
/-- a class of refusals: its name and its place -/
structure IsExc (K : PySem.W.Frag) (mg : Str → Option Value) (name : Str) (C : Addr) : Prop where
  mg : mg name = some (.ref C)
  ex : PySem.W.excIn K C veTail veNew = true
section
variable {P : Program} {w : World} {K : PySem.W.Frag} {mg : Str → Option Value} {base : Heap} {N : List Str} {qual : Str} {scope : Scope} {f : Addr} {cd : Value} {A : Around} {outer : List Env} {s₀ : Shared} {H₀ : Hp} {E : XK}
variable {x : Str} {np cpos pos : Pos} {e : Expr} {es : List Expr} {t : TA} {C : Addr}
/-- raise C(..) -/
def tRaise (C : Addr) (E : XK) (t : TA) : TS := fun _ σ H => t σ H fun vs H1 => vs.length ≤ sizeLine ∧ E (.ref C) none H1
theorem ps_raise (x1 : IsExc K mg x C) (hg : Gl (cxE P w K mg base N qual scope f cd A outer s₀ H₀ E) x) (ha : PA (cxE P w K mg base N qual scope f cd A outer s₀ H₀ E) (e :: es) t) (hdb : (x == ("__debug__" : Str)) = false := by decide)
    (he : starEach (e :: es) (envOfC qual scope s₀.heap.objs.size f cd) = (false, eval e (envOfC qual scope s₀.heap.objs.size f cd)) :: starEach es (envOfC qual scope s₀.heap.objs.size f cd) := by rfl) (hpl : (backTo cpos (starEach es (envOfC qual scope s₀.heap.objs.size f cd))).any (·.1) = false := by rfl) :
    PS (cxE P w K mg base N qual scope f cd A outer s₀ H₀ E) (.Raise (some (.Call (.Name x np) (e :: es) [] cpos)) none pos) (tRaise C E t) := by
  intro pins s σ H D I h
  obtain ⟨bm, ⟨Na, nm, q, bs, hdct, sn, sub, ab, col, dd, k0, k1, k2, k3, k5, mN, oC, hN, hni, TL⟩, _⟩ := exc_at I.ok.mod.kin x1.ex
  have hpl2 : (backTo cpos (starEach (e :: es) (envOfC qual scope s₀.heap.objs.size f cd))).any (·.1) = false := by
    rw [he]
    show (false || (backTo cpos (starEach es (envOfC qual scope s₀.heap.objs.size f cd))).any (·.1)) = false
    rw [hpl]; rfl
  refine wpAny_Raise_call_subT (C := C) (nm := nm) (q := q) (N := Na) (bs := bs) (bm := bm) (hdct := hdct) (sn := sn) (sub := sub) (ab := ab) (col := col) (dd := dd) (k0 := k0) (k1 := k1) (k2 := k2) (k3 := k3) (k5 := k5)
    PySem.F.excBase_ValueError (mN := mN) (TL.hasType (by decide)) (I.ok.hd rfl) hpl2 hni (ld_glob I hg x1.mg ⟨rfl, ?_⟩ hdb)
  have hs := ha cpos pins s σ H _ I h
  change wpAny _ _ (evalArgs (.ref C) true (backTo cpos (starEach (e :: es) (envOfC qual scope s₀.heap.objs.size f cd))) []) _ _ _
  change wpAny _ _ (spliced (backTo cpos (starEach (e :: es) (envOfC qual scope s₀.heap.objs.size f cd)))) _ _ _ at hs
  rw [he] at hs ⊢
  refine Calls.evalArgs_plain (thn hs fun us s1 ⟨vs, H1, I1, r, hl, hE⟩ => ?_)
  refine ⟨rfl, by rw [← r.length]; exact hl, I1.bk _ _ oC, hN.keeps I1.bk, TL.keeps I1.bk, fun h' a m => ?_⟩
  exact raised_of (tk := s1.toks) I1 rfl rfl m hE
end
end L2

set_option Elab.async false
set_option maxRecDepth 100000
namespace L2
open PySem PySem.Spec PyProof.Rows
/-! ### caught -/
/-- an exception that is held by a name: its class -/
def ofCls (a : Addr) (cls : Value) (h : Heap) : Prop := ∃ ob, h.get? a = some ob ∧ ob.cls = cls ∧ ob.dict = none ∧ ∃ vs, ob.data = .fields vs
/-- within an except's suite (or a def called there) -/
abbrev cxR (X : Cx) (A' : Around) : Cx := { X with A := A', calm := false, xe := fun _ _ => False }
section
variable {X : Cx} {pins : List (Addr × Obj)} {σ : St} {H : Hp} {s : Shared} {A' : Around}
theorem Inv.re (I : Inv X pins σ H s) (hA : A'.frames = X.A.frames) : Inv (cxR X A') pins σ H s :=
  ⟨⟨I.ok.mod, I.ok.kind, I.ok.glob, I.ok.blt, I.ok.above, I.ok.inj, I.ok.has, I.ok.cab, fun z => Bool.noConfusion (show false = true from z), hA.trans I.ok.frames, I.ok.stk, I.ok.exf, I.ok.bs, I.ok.bsz, I.ok.noex, I.ok.exfs, I.ok.funs, I.ok.frf⟩,
    I.os, I.bare, I.base, I.loc, I.cell, I.free, I.freeC, I.pin, I.hok, I.len⟩
theorem Inv.unre (ok : X.Ok) (I : Inv (cxR X A') pins σ H s) : Inv X pins σ H s :=
  ⟨ok, I.os, I.bare, I.base, I.loc, I.cell, I.free, I.freeC, I.pin, I.hok, I.len⟩
/-- behind the catch: the state ahead of the call, as it is now, and the exception tracked -/
theorem catch_inv {sc : Shared} {H' : Hp} {B : Heap} {a : Addr} {cls fl : Value} (I : Inv X pins σ H sc) (os : s.os = sc.os) (ba : AllBare s.gens) (bx : Bx X.prog X.w X.stack H sc.heap H' B) (sl : Slots X.stack sc.heap s.heap) (x : Fly B X.stack a cls fl s.heap) :
    Inv X pins σ (upd H' a (.ext (ofCls a cls))) s ∧ H' a = none := by
  obtain ⟨st, nw, ff, oe, oT, vs, ts, T, y⟩ := x
  have trk : ∀ b u, H' b = some u → b ≠ a := fun b u e q => by
    have z := (bx.hok b u e)
    have lt : ∃ o, B.get? b = some o := by
      cases u with
      | lst xs => obtain ⟨_, _, _, _, e⟩ := z; exact ⟨_, e⟩
      | tup xs => obtain ⟨_, _, _, ob, e, _⟩ := z; exact ⟨_, e⟩
      | dK kvs => obtain ⟨_, _, _, _, o, _, _, e, _⟩ := z; exact ⟨_, e⟩
      | dT kvs => obtain ⟨_, _, _, _, o, _, _, e, _⟩ := z; exact ⟨_, e⟩
      | set S n => obtain ⟨o, _, _, _, e, _⟩ := z; exact ⟨_, e⟩
      | ins C dx fs => obtain ⟨_, _, _, e, _⟩ := z; exact ⟨_, e⟩
      | own y => obtain ⟨_, e⟩ := z; exact ⟨_, e⟩
      | xd fs => obtain ⟨_, ⟨_, _, _, e, _⟩, _⟩ := z; exact ⟨_, e⟩
      | rng lo hi => obtain ⟨_, _, _, e⟩ := z; exact ⟨_, e⟩
      | frz ob u => obtain ⟨e, _⟩ := z; exact ⟨_, e⟩
      | tbl ps => exact ⟨_, show B.get? b = some _ from z⟩
      | met f y => exact ⟨_, show B.get? b = some _ from z⟩
      | ext φ => obtain ⟨_, ⟨_, e⟩, _⟩ := z; exact ⟨_, e⟩
    obtain ⟨o, e2⟩ := lt
    rw [q, nw] at e2
    cases e2
  have Ha : H' a = none := by
    cases q : H' a with
    | none => rfl
    | some u => exact absurd rfl (trk a u q)
  have un := bx.un sl st
  have old : ∀ b o, sc.heap.get? b = some o → b ≠ a := fun b o e q => by
    by_cases hb : b ∈ frs X.stack
    · obtain ⟨_, o1, e1, hn⟩ := ff.mem hb
      rw [q, y.oa] at e1
      cases e1
      exact hn vs y.da
    · obtain ⟨o', e1⟩ := bx.thr b o e hb
      rw [q, nw] at e1
      cases e1
  refine ⟨I.call' (ch := []) os ⟨un.keep, un.slot, fun b o e n hx => ?_, un.there, fun b xs e => ?_, fun b o u e => ?_, fun b ps e => ?_⟩ (fun b u e => ?_) ba (fun b z => absurd z (by simp)), Ha⟩
  · rw [upd_ne (old b o e)]; exact un.free b o e n hx
  · have z := un.tups b xs e
    rw [upd_ne (trk b _ z)]; exact z
  · have z := un.frzs b o u e
    rw [upd_ne (trk b _ z)]; exact z
  · obtain ⟨more, z⟩ := un.tbls b ps e
    exact ⟨more, by rw [upd_ne (trk b _ z)]; exact z⟩
  · by_cases q : b = a
    · subst q
      rw [upd_same] at e
      cases e
      refine ⟨⟨oe, y.oa, y.cl, y.nd, vs, y.da⟩, ⟨oe, y.oa⟩, ?_⟩
      rintro h1 h2 ⟨ob, e1, e2⟩ k
      exact ⟨ob, k ob e1, e2⟩
    · rw [upd_ne q] at e
      refine (bx.hok b u e).stay (fun c v _ e1 => st c v e1) (fun c e1 => ?_) fun c xs e1 => ?_
      · rw [upd_ne (trk c _ e1)]; exact e1
      · rw [upd_ne (trk c _ e1)]; exact e1
end
/-- statements at a def's top, where nothing is pinned -/
def PS0 (X : Cx) (st : Stmt) (t : TS) : Prop :=
  ∀ (s : Shared) (σ : St) (H : Hp) (D : Ends), Inv X [] σ H s → t D σ H → wpAny (model X.prog X.w) X.A (exec st X.env) (SP X [] D) X.xe s
def PSs0 (X : Cx) (st : List Stmt) (t : TS) : Prop :=
  ∀ (s : Shared) (σ : St) (H : Hp) (D : Ends), Inv X [] σ H s → t D σ H → wpAny (model X.prog X.w) X.A (execs st X.env) (SP X [] D) X.xe s
section
variable {X : Cx} {st : Stmt} {rest : List Stmt} {t u : TS}
theorem pss0_one (h1 : PS0 X st t) : PSs0 X [st] t := by
  intro s σ H D I h
  refine wpAny_execs_cons (thn (h1 s σ H D I h) fun f s1 q => ?_)
  cases f with
  | next => exact wpAny_execs_nil q
  | ret v => exact q
  | brk => exact q
  | cont => exact q
end
/-- the frame's names are forgotten -/
theorem Inv.forget {X : Cx} {pins : List (Addr × Obj)} {σ : St} {H : Hp} {s : Shared} {h' : Heap} {m' : Str → Option Value} {tk : Nat} (I : Inv X pins σ H s) (hn : h'.Ns X.env.locals m') (hs : Heap.SameBut X.env.locals s.heap h') :
    Inv X pins (List.replicate X.N.length none) H { s with heap := h', toks := tk } := by
  have lo : ∀ b o, X.s₀.heap.get? b = some o → b ≠ X.env.locals := fun b o e => Nat.ne_of_lt (Nat.lt_of_lt_of_le (Heap.lt_size e) I.ok.above)
  refine ⟨I.ok, I.os, I.bare, ⟨fun b o e n hb hx => ?_, fun b o e n hb hx => ?_, I.base.free, fun b o e hx => ?_, I.base.tups, I.base.frzs, I.base.tbls⟩, ⟨m', hn, fun i x v _ e _ => ?_⟩, fun x c e => ?_, I.free, I.freeC, fun p hp => ?_, fun b u e => ?_, by rw [List.length_replicate]⟩
  · exact (hs.2 b (lo b o e)).trans (I.base.keep b o e n hb hx)
  · obtain ⟨sl, q⟩ := I.base.slot b o e n hb hx
    exact ⟨sl, (hs.2 b (lo b o e)).trans q⟩
  · obtain ⟨o', q⟩ := I.base.there b o e hx
    exact ⟨o', (hs.2 b (lo b o e)).trans q⟩
  · rw [List.getElem?_replicate] at e
    split at e <;> cases e
  · obtain ⟨v, z⟩ := I.cell x c e
    exact ⟨v, z.sameBut hs (I.cne x c e)⟩
  · obtain ⟨e, n, ne, nf, d⟩ := I.pin p hp
    exact ⟨(hs.2 p.1 ne).trans e, n, ne, nf, d⟩
  · refine (I.hok b u e).stay (fun c v hc q => (hs.2 c ?_).trans q) (fun _ q => q) fun _ _ q => q
    rintro rfl
    rcases hc with z | z
    · rw [← z, I.free] at e; cases e
    · rw [I.free] at z; cases z
/-- try: body, except F as n: suite -/
def tTry (K : PySem.W.Frag) (F : Addr) (N : Nat) (i : Nat) (tb : XK → TS) (th : TS) : TS := fun D σ H => ∃ E : XK, tb E D σ H ∧ ∀ cls H', E cls none H' → ∃ C, cls = .ref C ∧ PySem.W.excIn K C veTail veNew = true ∧ PySem.W.mroIn K C (.ref F) = some true ∧
  ∀ (a : Addr) (σ' : St), σ'.length = N → H' a = none → th { nx := fun _ H2 => D.nx (List.replicate N none) H2, rt := D.rt, bk := fun _ H2 => D.bk (List.replicate N none) H2, ct := fun _ H2 => D.ct (List.replicate N none) H2 } (σ'.set i (some (.ref a))) (upd H' a (.ext (ofCls a (.ref C))))
theorem ps_try {X : Cx} {cn n : Str} {F : Addr} {i : Nat} {np hpos pos : Pos} {body suite : List Stmt} {b₀ : Stmt} {tb : XK → TS} {th : TS} (hst : X.stack = X.env :: X.outer) (hf : X.env.frame = some X.env.locals) (xF : IsExc X.K X.mg cn F) (hg : Gl X cn)
    (hN : X.N.Nodup) (hi : X.N[i]? = some n) (hl : X.env.scope.names.lookup n = some .local) (hb : ∀ (R : Value → Shared → Prop) (E : XK), Passes (CX1 X.prog X.w) (X.wish R) E → PSs (X.wish R) body (tb E)) (hh : ∀ hv : Option Value, PSs (cxR X (X.A.mark hv)) (b₀ :: suite) th)
    (hd : (cn == ("__debug__" : Str)) = false := by decide) : PS0 X (.Try body [.ExceptHandler (some (.Name cn np)) (some n) (b₀ :: suite) hpos] [] [] pos) (tTry X.K F X.N.length i tb th) := by
  intro s σ H D I ⟨E, hbd, hhd⟩
  have ok := I.ok
  let R : Value → Shared → Prop := fun v s' => ∃ (pins : List (Addr × Obj)) (σ' : St) (H1 : Hp) (sc : Shared) (a : Addr) (cls : Value) (H' : Hp) (B : Heap), Inv X pins σ' H1 sc ∧ v = .ref a ∧ s'.os = sc.os ∧ AllBare s'.gens ∧ Bx X.prog X.w X.stack H1 sc.heap H' B ∧ Slots X.stack sc.heap s'.heap ∧ Fly B X.stack a cls .none s'.heap ∧ E cls none H'
  have hp : Passes (CX1 X.prog X.w) (X.wish R) E := fun pins σ' H1 sc v s' J x => by
    obtain ⟨a, cls, H', B, rfl, os, ba, bx, sl, fl, e⟩ := x
    exact ⟨pins, σ', H1, sc, a, cls, H', B, J.unwish, rfl, os, ba, bx, sl, fl, e⟩
  refine wpAny_Try_except (wpAny_mono (hb R E hp [] s σ H D (I.wish R) hbd) (fun f s1 q => ?_) fun v s1 q => ?_)
  · have q := q.unwish
    cases f with
    | next => exact wpAny_execs_nil q
    | ret v => exact q
    | brk => exact q
    | cont => exact q
  obtain ⟨pins, σ', H1, sc, a, cls, H', B, J, rfl, os, ba, bx, sl, fl, e⟩ := q
  obtain ⟨C, rfl, xC, mC, hth⟩ := hhd _ _ e
  have hfr : X.A.frames = some (X.env :: X.outer) := hst ▸ ok.frames
  have stg : Stage B (X.env :: X.outer) X.env.locals a (.ref C) s1.heap := .inl ⟨_, hst ▸ fl⟩
  refine stg.note hfr hf fun h2 y2 u2 => ?_
  have sl2 := sl.up fl.fr u2
  refine Fly.mark (s := { s1 with heap := h2 }) (fr := none) y2 fun h3 y3 u3 => ?_
  have y2' : Fly B X.stack a (.ref C) (rawInt X.env.locals) h2 := hst ▸ y2
  have y3' : Fly B X.stack a (.ref C) .none h3 := hst ▸ y3
  have sl3 := sl2.up y2'.fr u3
  have I3 := (catch_inv (s := { s1 with heap := h3 }) J os ba bx sl3 y3').1
  have KI := I3.kIn
  obtain ⟨bmC, eC, inC⟩ := exc_at KI xC
  obtain ⟨bmF, eF, _⟩ := exc_at KI xF.ex
  obtain ⟨_, _, _, oe3, oT3, vs3, ts3, T3, t3⟩ := y3'
  refine wpAny_handleBy_cons (codeAny_handlers_test (ld_glob (I3.re (A' := X.A.mark (some (.ref a))) rfl) hg xF.mg (matches_own eC eF t3.oa t3.cl (inC _ mC) ?_) hd)) (by intro q; cases q)
  refine codeAny_handlers_suite_as ?_
  have y3'' : Fly B X.stack a (.ref C) .none h3 := hst ▸ y3
  refine Fly.mark (s := { s1 with heap := h3 }) (fr := none) y3'' fun h4 y4 u4 => ?_
  have sl4 := sl3.up y3''.fr u4
  obtain ⟨I4, Ha⟩ := catch_inv (s := { s1 with heap := h4 }) J os ba bx sl4 y4
  have I4r := (I4.pins_of (pins' := []) (fun p hp => by cases hp)).re (A' := X.A.mark (some (.ref a))) rfl
  refine store_ok (X := cxR X (X.A.mark (some (.ref a)))) (v := .ref a) I4r hN hi (.inl hl) rfl (fun s5 I5 => ?_) (.inr hl)
  refine wpAny_mono (hh (some (.ref a)) [] s5 _ _ _ I5 (hth a σ' J.len Ha)) (fun f s6 q => ?_) fun _ _ z => False.elim z
  have hcls : (X.env.scope.kind == .class || (X.env.scope.kind == .module && X.env.locals != X.env.globals)) = false := by rw [ok.kind]; rfl
  have fin : ∀ {σ6 : St} {H6 : Hp} {Q : Unit → Shared → Prop}, Inv (cxR X (X.A.mark (some (.ref a)))) [] σ6 H6 s6 → (∀ s7, Inv X [] (List.replicate X.N.length none) H6 s7 → Q () s7) → wpAny (model X.prog X.w) X.A (do bindName X.env n .none; unbindBehindTheSuite X.env n hpos) Q X.xe s6 := fun {σ6 H6 Q} I6 hQ => by
    obtain ⟨m, hn, _⟩ := id I6.loc
    exact wpAny_nameGoes (s := s6) hl hn hcls fun h' m' hn' hs => hQ _ ((I6.unre ok).forget (tk := s6.toks + 1) hn' hs)
  cases f with
  | next =>
    obtain ⟨σ6, H6, I6, q⟩ := q
    exact fin I6 fun s7 I7 => ⟨_, H6, I7, q⟩
  | brk =>
    obtain ⟨σ6, H6, I6, q⟩ := q
    exact fin I6 fun s7 I7 => ⟨_, H6, I7, q⟩
  | cont =>
    obtain ⟨σ6, H6, I6, q⟩ := q
    exact fin I6 fun s7 I7 => ⟨_, H6, I7, q⟩
  | ret u =>
    obtain ⟨v, σ6, H6, I6, r, q⟩ := q
    exact fin I6 fun s7 I7 => ⟨v, _, H6, I7, r, q⟩
end L2

set_option Elab.async false
set_option maxRecDepth 100000
namespace L2
open PySem PySem.Spec PyProof.Rows
/-! ### isinstance of a caught exception -/
/-- what the fragment says of a class of ours -/
structure XcOk (K : PySem.W.Frag) (C : Addr) : Prop where
  ga : PySem.W.findIn K (.ref C) "__getattribute__" = some (some (.builtin "BaseException.__getattribute__"))
  gx : PySem.W.findIn K (.ref C) "__getattr__" = some none
  cl : PySem.W.findIn K (.ref C) "__class__" = some (some (.builtin "object.__class__"))
  gg : PySem.W.specialIn K (.builtin "object.__class__") "__get__" = some (some (.builtin "getset_descriptor.__get__"))
  tk : PySem.W.takesIn K (.builtin "object.__class__") = some true
  mo : PySem.W.mroIn K C (.type "object") = some true
  mb : PySem.W.mroIn K C (.type "BaseException") = some true
  cs : ∃ cd, PySem.W.clsIn K C = some cd
section
variable {prog : Program} {w : World} {A : Around} {E : Value → Shared → Prop} {s : Shared} {K : PySem.W.Frag} {C a : Addr} {ox : Obj}
theorem exc_find (x : XcOk K C) : PySem.W.findObj K C none "__class__" = some (.bind (.builtin "getset_descriptor.__get__") (.builtin "object.__class__")) := by
  obtain ⟨cd, hc⟩ := x.cs
  unfold PySem.W.findObj
  rw [hc, Option.bind_some, x.cl, Option.bind_some]
  simp [x.gg, x.tk]
theorem exc_ga {tk : Tok} {R : Result → Shared → Prop} (X : K.In s.heap) (I : PySem.W.InstAt s.heap a ox C none) (x : XcOk K C) (hq : R (.ok (.ret (.ref C))) s) :
    codeAny (model prog w) A (.call (.builtin "BaseException.__getattribute__") ⟨[.ref a, .str "__class__" tk], []⟩) R s := by
  have L0 := I.type (M := model prog w)
  have Lb := PySem.W.looks_mroIn (M := model prog w) X x.mb
  have Lf := PySem.W.looks_find (M := model prog w) X I (exc_find x)
  have LI : PySem.W.Looks (model prog w) s.heap (isInstance (.ref a) (.type "BaseException")) true := L0.andThen Lb
  refine codeAny_call_builtin (PySem.F.excAttr_ValueError).ga.plain PySem.F.entry_bexc_ga ?_
  have e1 : builtinKind "BaseException.__getattribute__" = some .slot := by decide +kernel
  have e2 : splitId "BaseException.__getattribute__" = some ("BaseException", "__getattribute__") := by decide +kernel
  have e3 := PySem.F.args_bexc_ga (.ref a) (.str "__class__" tk)
  obtain ⟨hh, g, d, t, os⟩ := s
  simp only [checkBuiltinCall, e1, e2]
  refine wpAny_bind (LI.at ?_)
  repeat (first | assumption | with_reducible refine L0.at ?_ | with_reducible refine Lf.at ?_ | wp_step)
  exact PySem.W.class_get X I x.mo (wpAny_pure hq)
theorem exc_class {Q : Option Value → Shared → Prop} (X : K.In s.heap) (I : PySem.W.InstAt s.heap a ox C none) (x : XcOk K C) (hq : Q (some (.ref C)) { s with toks := s.toks + 1 }) :
    wpAny (model prog w) A (getAttr? (.ref a) "__class__") Q E s := by
  have L0 := I.type (M := model prog w)
  have L1 := PySem.W.looks_findIn (M := model prog w) X x.ga
  have L2 := PySem.W.looks_findIn (M := model prog w) X x.gx
  have f3 := (PySem.F.excAttr_ValueError).ga.bind (.ref a)
  have n0 : (false && onTheHeap (Value.builtin "BaseException.__getattribute__")) = false := rfl
  have n2 : (Value.builtin "BaseException.__getattribute__" == Value.builtin "object.__getattribute__") = false := by decide +kernel
  have n1 : (onTheHeap (Value.ref C) && Value.builtin "BaseException.__getattribute__" == Value.builtin "object.__getattribute__") = false := by rw [n2, Bool.and_false]
  obtain ⟨hh, g, d, t, os⟩ := s
  unfold getAttr? getAttrBy? getAttrBy
  repeat (first | assumption | with_reducible refine L0.at ?_ | with_reducible refine L1.at ?_ | with_reducible refine L2.at ?_ | wp_step)
  exact exc_ga (s := ⟨hh, g, d, t + 1, os⟩) X I x (PySem.W.handed_on rfl (wpAny_pure hq))
theorem kitx_exc (x : XcOk K C) : PySem.W.KitX K (.ref a) (.ref C) (ofCls a (.ref C)) where
  ty := fun _ h _ ⟨ob, e, c, d, vs, dt⟩ => PySem.W.InstAt.type (ox := ob) (od := none) ⟨e, c, by obtain ⟨_, _, _, _⟩ := ob; cases dt; rfl, by rw [d]; trivial⟩
  it := fun _ h X _ => by
    obtain ⟨cd, hc⟩ := x.cs
    unfold PySem.W.clsIn at hc
    split at hc
    · rename_i lk
      intro A' Q' E' s' k q
      unfold isType loadHead
      exact wpAny_bind (wpAny_loadPart (k _ _ (X _ _ lk)) (wpAny_pure q))
    · cases hc
  ne := fun h tp dd its n sl X htp => by
    obtain ⟨cd, hc⟩ := x.cs
    refine Bool.eq_false_iff.mpr fun q => ?_
    have e : C = tp := Value.ref.inj (beq_iff_eq.mp q)
    subst e
    unfold PySem.W.clsIn at hc
    split at hc
    · rename_i lk
      have z := (X _ _ lk).symm.trans htp
      cases z
    · cases hc
  ca := fun X ⟨ob, e, c, d, vs, dt⟩ k => exc_class (ox := ob) X ⟨e, c, by obtain ⟨_, _, _, _⟩ := ob; cases dt; rfl, by rw [d]; trivial⟩ x k
end
section
variable {X : Cx}
/-- isinstance(e, D) of a caught exception -/
theorem call_isiE : CallR X (.builtin "isinstance") (fun xs H Q => ∃ (a C : Addr) (d : V) (c : Value) (b : Bool), xs = [.ref a, d] ∧ H a = some (.ext (ofCls a (.ref C))) ∧ XcOk X.K C ∧ ((∃ D, d = .ref D ∧ c = .ref D) ∨ ∃ T, d = .ty T ∧ c = .type T) ∧ PySem.W.kitOne X.K (.ref C) c = some b ∧ Q (.bl b) H) := by
  intro pins s σ H xs us Q I r h
  obtain ⟨a, C, d, c, b, rfl, hH, x, hd, e, q⟩ := h
  obtain ⟨u, w', rfl, r1, r2⟩ := vals2 r
  cases (show u = Value.ref a from r1)
  have ew : w' = c := by
    rcases hd with ⟨D, rfl, rfl⟩ | ⟨T, rfl, rfl⟩
    · exact r2
    · exact r2
  subst ew
  obtain ⟨hφ, _, _⟩ := (show ObjOk X.prog X.w H s.heap a (.ext (ofCls a (.ref C))) from I.hok a _ hH)
  exact PySem.W.kia_one (kitx_exc x) I.kIn hφ e (fun z => by cases z) fun tk => ⟨.bl b, H, I.tok tk, rfl, q⟩
/-! ### count, index of a list of bools -/
theorem vals_bools : ∀ {bs : List Bool} {us : List Value}, Vals (bs.map V.bl) us → us = bs.map Value.bool
  | [], _, .nil => rfl
  | b :: bs, _, .cons r t => by
    rw [List.map_cons, vals_bools t, show _ = Value.bool b from r]
theorem reads_bools {h : Heap} : ∀ bs : List Bool, ReadsAll h (bs.map Value.bool) (bs.map PyData.bool) []
  | [] => .nil
  | b :: bs => by
    have := ReadsAll.cons (Reads.bool (h := h) b) (reads_bools (h := h) bs)
    simpa using this
theorem all_bools : ∀ bs : List Bool, (bs.map PyData.bool).all Shape.bool.has = true
  | [] => rfl
  | _ :: bs => by rw [List.map_cons, List.all_cons, all_bools bs]; rfl
def rCountB : V → List V → Hp → VK → Prop := fun x vs H Q => ∃ (l : Addr) (bs : List Bool) (k : Bool), x = .ref l ∧ vs = [.bl k] ∧ H l = some (.lst (bs.map V.bl)) ∧ Q (.int (countIn (.bool k) (bs.map PyData.bool))) H
theorem mt_countB : MtM X "list.count" rCountB := by
  intro pins s σ H x vs v us Q I rx rv h
  obtain ⟨l, bs, k, rfl, rfl, hH, q⟩ := h
  cases rx
  obtain ⟨u, rfl, ru⟩ := rv.one
  cases (show u = Value.bool k from ru)
  obtain ⟨z, its, n, r, hl, e⟩ := I.lstM hH
  have ei := vals_bools r
  subst ei
  exact count_list_bools (vs := bs.map Value.bool) ⟨_, e, rfl, n, rfl⟩ (reads_bools (h := s.heap) bs) (all_bools bs) ⟨.int (countIn (.bool k) (bs.map PyData.bool)), H, I.tok _, ⟨_, rfl⟩, q⟩
def rIndexB : V → List V → Hp → VK → Prop := fun x vs H Q => ∃ (l : Addr) (bs : List Bool) (k : Bool) (j : Nat), x = .ref l ∧ vs = [.bl k] ∧ H l = some (.lst (bs.map V.bl)) ∧ bs[j]? = some k ∧ (∀ i, i < j → bs[i]? = some (!k)) ∧ Q (.int (j : Int)) H
theorem mt_indexB : MtM X "list.index" rIndexB := by
  intro pins s σ H x vs v us Q I rx rv h
  obtain ⟨l, bs, k, j, rfl, rfl, hH, hj, hno, q⟩ := h
  cases rx
  obtain ⟨u, rfl, ru⟩ := rv.one
  cases (show u = Value.bool k from ru)
  obtain ⟨z, its, n, r, hl, e⟩ := I.lstM hH
  have ei := vals_bools r
  subst ei
  have jl : j < bs.length := (List.getElem?_eq_some_iff.mp hj).1
  have zl : bs.length ≤ sizeLine := by simpa using z
  have j63 : (j : Int) < 2 ^ 63 - 1 := by
    have h1 : sizeLine ≤ 2 ^ 62 := by decide
    have h2 : j < 2 ^ 62 := Nat.lt_of_lt_of_le jl (Nat.le_trans zl h1)
    omega
  refine call_meets PySem.F.slot_list_index ⟨_, e, rfl⟩ PySem.F.entry_list_index (PySem.F.args_list_index_2 _ _)
    (MeetsSeq.list_index l (bs.map Value.bool).toArray n (.bool k) (isBoolOf k) (fun y hy => ?_) j (by simpa using jl) j63 ?_ fun m hm hlt => ?_) ⟨e, ⟨.int (j : Int), H, I.tok _, ⟨_, rfl⟩, q⟩⟩
  · obtain ⟨b, _, rfl⟩ := List.mem_map.mp (by simpa using hy : y ∈ bs.map Value.bool)
    exact fun prog w A E s Q h => PySem.SeqAt.EqAt.bool_bool b k prog w E Q h
  · have := List.getElem?_eq_some_iff.mp hj
    simp [isBoolOf, this.2]
  · have := List.getElem?_eq_some_iff.mp (hno m hlt)
    simp [isBoolOf, this.2]
end
end L2

set_option Elab.async false
set_option maxRecDepth 100000
namespace L2
open PySem PySem.Spec PyProof.Rows
/-! ### defs whose body holds a try; defs that are called within an except -/
/-- room, whatever is handled -/
structure RoomX (k : Nat) (A : Around) : Prop where
  dp : A.depth + 3 * k + 5 < recursionLimit
  un : A.units + 16 * k + 200 < cLine
theorem Room.x {k : Nat} {A : Around} (r : Room k A) : RoomX k A := ⟨r.dp, r.un⟩
theorem RoomX.mark {k : Nat} {A : Around} {h : Option Value} (r : RoomX k A) : RoomX k (A.mark h) := ⟨r.dp, r.un⟩
theorem RoomX.mono {j k : Nat} {A : Around} (r : RoomX k A) (h : j ≤ k) : RoomX j A := ⟨by have := r.dp; omega, by have := r.un; omega⟩
theorem RoomX.deeper {k : Nat} {A : Around} (r : RoomX (k + 1) A) (env : Env) : RoomX k (A.deeper env) :=
  ⟨by have := r.dp; show A.depth + 1 + 3 * k + 5 < _; omega, by have := r.un; show A.units + 3 + 16 * k + 200 < _; omega⟩
theorem RoomX.units {k : Nat} {A : Around} (r : RoomX k A) : A.units + 64 < cLine := by have := r.un; omega
structure FnOkX (P : Program) (w : World) (K : PySem.W.Frag) (mg : Str → Option Value) (base : Heap) (k : Nat) (f : Addr) (fd : FuncData) (ps : List Str) (sp : Sp) : Prop where
  len : ∀ vs H Q E, sp vs H Q E → vs.length = ps.length
  run : ∀ (A : Around) (outer : List Env) (s : Shared) (H : Hp) (args : Args) (us : List Value) (vs : List V) (Q : VK) (E : XK), RoomX k A → Env0 P w K mg base A outer s H → BindsTo s fd args (ps.zip us) → Vals vs us → sp vs H Q E →
    codeAny (model P w) A (.call (.ref f) args) (CR CX0 outer P w H s Q E) s
structure GotX (P : Program) (w : World) (K : PySem.W.Frag) (mg : Str → Option Value) (base : Heap) (name : Str) (k : Nat) (ps : List Str) (sp : Sp) : Prop where
  ex : ∃ (f : Addr) (fd : FuncData), FnOkX P w K mg base k f fd ps sp ∧ Binds K fd ps [] ∧ PySem.W.keepIn K (.ref f) = true ∧ mg name = some (.ref f)
abbrev cxX (P : Program) (w : World) (K : PySem.W.Frag) (mg : Str → Option Value) (base : Heap) (N : List Str) (qual : Str) (scope : Scope) (f : Addr) (cd : Value) (A : Around) (outer : List Env) (s : Shared) (H : Hp) (E : XK) : Cx :=
  cxR (cxOf CX0 P w K mg base N qual scope f cd A outer s H E) (A.deeper (envOfC qual scope s.heap.objs.size f cd))
section
variable {P : Program} {w : World} {K : PySem.W.Frag} {mg : Str → Option Value} {base : Heap} {name : Str} {st : Stmt} {ps N : List Str} {k : Nat} {sp : Sp}
theorem IsDef.gotX (D : IsDef K mg name st ps) (S : FnScope N ps (defScope st)) (len : ∀ vs H Q E, sp vs H Q E → vs.length = ps.length)
    (hbody : ∀ (f : Addr) (cdv : Value) (A : Around) (outer : List Env) (s : Shared) (H : Hp) (vs : List V) (Q : VK) (E : XK), RoomX k (A.deeper (envOfC name (defScope st) s.heap.objs.size f cdv)) → sp vs H Q E →
      ∃ t, PSs (cxX P w K mg base N name (defScope st) f cdv A outer s H E) (defBody st) t ∧ t { nx := fun _ H' => Q .non H', rt := Q } (start N vs) H) : GotX P w K mg base name (k + 1) ps sp := by
  obtain ⟨f, fd, F, b, m⟩ := D.ex
  obtain ⟨oc, od, kV, doc, pm, an, cdv, ct, osl, rfl, lk, hcd⟩ := F.ex
  refine ⟨f, _, ⟨len, fun A outer s H args us vs Q E hr e0 hb r hsp => ?_⟩, b, F.kp, m⟩
  have hl := len _ _ _ _ hsp
  have KX : K.In s.heap := e0.mod.kin.keeps fun b o e => (e0.bs b o e).1
  have lim : s.heap.NoLimit := e0.mod.nolimit.keeps fun b o e => (e0.bs b o e).1
  have hkind : ∀ y ∈ ps.zip us, (defScope st).names.lookup y.1 = some .local ∨ ((defScope st).names.lookup y.1 = some .cell ∧ ((cellsFrom (s.heap.objs.size + 1) (defScope st).names []).lookup y.1).isSome = true) := fun ⟨n, v⟩ hy => by
    rcases S.par n (List.of_mem_zip hy).1 with q | q
    · exact .inl q
    · exact .inr ⟨q, PySem.W.cellsFrom_some _ _ _ (.inl q)⟩
  refine codeAny_call_function (by have := hr.dp; omega) (KX _ _ lk) rfl S.co S.gen rfl (PySem.W.codeRec_of KX hcd) (hb _ _ _ _ ?_)
  refine wpAny_newFunctionEnv_cells S.kind hkind fun env he s1 x => ?_
  subst he
  refine ⟨lim.keeps x.toInCall.keep, codeAny_func ?_⟩
  obtain ⟨t, ht, hq⟩ := hbody f cdv A outer s H vs Q E (hr.deeper _) hsp
  have e1 : Env0 P w K mg base { A with handled := none } outer s H := ⟨e0.frames, e0.mod, e0.bs, e0.bsz, e0.funs, e0.frf, e0.hok, e0.bare⟩
  have I0 : Inv (cxOf CX0 P w K mg base N name (defScope st) f cdv { A with handled := none } outer s H E) [] (start N vs) H s1 := inv_start S rfl e1 hl r x
  have I : Inv (cxX P w K mg base N name (defScope st) f cdv A outer s H E) [] (start N vs) H s1 := I0.re (A' := A.deeper (envOfC name (defScope st) s.heap.objs.size f cdv)) rfl
  refine wpAny_mono (ht [] s1 (start N vs) H _ I hq) (fun fl s' hs => ?_) fun e s' hs => False.elim hs
  have fin : ∀ {σ' : St} {H' : Hp} {v : V} {u : Value}, Inv (cxX P w K mg base N name (defScope st) f cdv A outer s H E) [] σ' H' s' → RelV v u → Q v H' → CE outer P w H s Q u s' :=
    fun {σ' H' v u} J rv q => ⟨v, H', J.os, J.bare, J.base, J.hok, rv, q⟩
  cases fl with
  | ret u =>
    obtain ⟨v, σ', H', J, rv, q⟩ := hs
    exact fin J rv q
  | next =>
    obtain ⟨σ', H', J, q⟩ := hs
    exact fin (v := V.non) (u := Value.none) J rfl q
  | brk =>
    obtain ⟨_, _, _, q⟩ := hs
    exact False.elim q
  | cont =>
    obtain ⟨_, _, _, q⟩ := hs
    exact False.elim q
/-- a def whose body begins with a try -/
theorem IsDef.got0 (D : IsDef K mg name st ps) (S : FnScope N ps (defScope st)) (len : ∀ vs H Q E, sp vs H Q E → vs.length = ps.length)
    (hbody : ∀ (f : Addr) (cdv : Value) (A : Around) (outer : List Env) (s : Shared) (H : Hp) (vs : List V) (Q : VK) (E : XK), Room k (A.deeper (envOfC name (defScope st) s.heap.objs.size f cdv)) → sp vs H Q E →
      ∃ t, PSs0 (cxOf CX0 P w K mg base N name (defScope st) f cdv A outer s H E).nox (defBody st) t ∧ t { nx := fun _ H' => Q .non H', rt := Q } (start N vs) H) : Got P w K mg base name (k + 1) ps sp := by
  obtain ⟨f, fd, F, b, m⟩ := D.ex
  obtain ⟨oc, od, kV, doc, pm, an, cdv, ct, osl, rfl, lk, hcd⟩ := F.ex
  refine ⟨f, _, ⟨len, fun A outer s H args us vs Q E hr e0 hb r hsp => ?_⟩, b, F.kp, m⟩
  have hl := len _ _ _ _ hsp
  have KX : K.In s.heap := e0.mod.kin.keeps fun b o e => (e0.bs b o e).1
  have lim : s.heap.NoLimit := e0.mod.nolimit.keeps fun b o e => (e0.bs b o e).1
  have hkind : ∀ y ∈ ps.zip us, (defScope st).names.lookup y.1 = some .local ∨ ((defScope st).names.lookup y.1 = some .cell ∧ ((cellsFrom (s.heap.objs.size + 1) (defScope st).names []).lookup y.1).isSome = true) := fun ⟨n, v⟩ hy => by
    rcases S.par n (List.of_mem_zip hy).1 with q | q
    · exact .inl q
    · exact .inr ⟨q, PySem.W.cellsFrom_some _ _ _ (.inl q)⟩
  refine codeAny_call_function hr.depth (KX _ _ lk) rfl S.co S.gen rfl (PySem.W.codeRec_of KX hcd) (hb _ _ _ _ ?_)
  refine wpAny_newFunctionEnv_cells S.kind hkind fun env he s1 x => ?_
  subst he
  refine ⟨lim.keeps x.toInCall.keep, codeAny_func ?_⟩
  obtain ⟨t, ht, hq⟩ := hbody f cdv A outer s H vs Q E (hr.deeper _) hsp
  have I : Inv (cxOf CX0 P w K mg base N name (defScope st) f cdv A outer s H E) [] (start N vs) H s1 := inv_start S hr.hd e0 hl r x
  refine wpAny_mono (ht s1 (start N vs) H _ (I.wish _) hq) (fun fl s' hs => ?_) fun e s' hs => False.elim hs
  have hs := hs.unwish
  have fin : ∀ {σ' : St} {H' : Hp} {v : V} {u : Value}, Inv (cxOf CX0 P w K mg base N name (defScope st) f cdv A outer s H E) [] σ' H' s' → RelV v u → Q v H' → CE outer P w H s Q u s' :=
    fun {σ' H' v u} J rv q => ⟨v, H', J.os, J.bare, J.base, J.hok, rv, q⟩
  cases fl with
  | ret u =>
    obtain ⟨v, σ', H', J, rv, q⟩ := hs
    exact fin J rv q
  | next =>
    obtain ⟨σ', H', J, q⟩ := hs
    exact fin (v := V.non) (u := Value.none) J rfl q
  | brk =>
    obtain ⟨_, _, _, q⟩ := hs
    exact False.elim q
  | cont =>
    obtain ⟨_, _, _, q⟩ := hs
    exact False.elim q
end
section
variable {X : Cx} {x : Str} {p pos : Pos} {e : Expr} {es : List Expr} {t : TA} {k : Nat} {ps : List Str} {sp : Sp} {E : XK}
/-- a call of a def that may raise, in a body that looks out for it -/
theorem pe_callP (G : GotE X.prog X.w X.K X.mg X.base x k ps sp) (hp : Passes (CX1 X.prog X.w) X E) (hr : Room k X.A) (hg : Gl X x) (ha : PA X (e :: es) t) (hdb : (x == ("__debug__" : Str)) = false := by decide)
    (he : starEach (e :: es) X.env = (false, eval e X.env) :: starEach es X.env := by rfl) (hpl : (backTo pos (starEach es X.env)).any (·.1) = false := by rfl) : PE X (.Call (.Name x p) (e :: es) [] pos) (tCall sp [] E t) := by
  obtain ⟨f, fd, F, b, kp, m⟩ := G.ex
  exact pe_call F hr hg m kp b .nil hp ha hdb he hpl
/-- a call within an except -/
theorem pe_callX (G : GotX X.prog X.w X.K X.mg X.base x k ps sp) (hr : RoomX k X.A) (hg : Gl X x) (ha : PA X (e :: es) t) (hdb : (x == ("__debug__" : Str)) = false := by decide)
    (he : starEach (e :: es) X.env = (false, eval e X.env) :: starEach es X.env := by rfl) (hpl : (backTo pos (starEach es X.env)).any (·.1) = false := by rfl) : PE X (.Call (.Name x p) (e :: es) [] pos) (tCall sp [] E0 t) := by
  obtain ⟨f, fd, F, b, kp, m⟩ := G.ex
  intro pins s σ H Q I h
  refine wpAny_Call_Name_kw (ld_glob I hg m ?_ hdb)
  refine PySem.W.callWith_K (h₀ := X.base) I.ok.mod.kin kp (thn (ha pos pins s σ H _ I h) fun us s1 ⟨vs, H1, I1, r, q⟩ => ⟨I1.kIn, ?_⟩) he hpl
  have q : sp vs H1 Q E0 := by
    have q : sp (vs ++ []) H1 Q E0 := q
    rwa [List.append_nil] at q
  have hl : us.length = ps.length := by rw [← r.length]; exact F.len _ _ _ _ q
  have hb := b s1 us I1.kIn (by rw [List.append_nil]; exact hl)
  rw [List.append_nil] at hb
  refine wpAny_call (codeAny_mono (F.run X.A X.stack s1 H1 ⟨us, []⟩ us vs Q E0 hr I1.env0 hb r q) fun r s' hq => ?_)
  cases r with
  | error e => exact False.elim hq
  | ok fl =>
    cases fl with
    | ret u => exact I1.after hq
    | next => exact False.elim hq
    | brk => exact False.elim hq
    | cont => exact False.elim hq
/-- a class by its name -/
theorem pe_globC {C : Addr} (h : X.mg x = some (.ref C)) (hg : Gl X x) (hd : (x == ("__debug__" : Str)) = false := by decide) : PE X (.Name x pos) (tC (.ref C)) := pe_glob hg h rfl hd
end
end L2

set_option Elab.async false
set_option maxRecDepth 100000
namespace L2
open PySem PySem.Spec PyProof.Rows
theorem _root_.PyProof.Rows.boot_ValueError : bootBuiltins "ValueError" = some (.type "ValueError") := by decide +kernel
/-! ### the six classes of refusals -/
/-- by their names -/
structure Exs (mg : Str → Option Value) (F c0 c1 c2 c3 c4 c5 : Addr) : Prop where
  f : mg "FigureError" = some (.ref F)
  n0 : mg "NoBase" = some (.ref c0)
  n1 : mg "NoFraction" = some (.ref c1)
  n2 : mg "NoWriting" = some (.ref c2)
  n3 : mg "NoNumber" = some (.ref c3)
  n4 : mg "TooLong" = some (.ref c4)
  n5 : mg "NoNote" = some (.ref c5)
/-- how the class C, the j-th of them, stands to the others -/
structure RefX (K : PySem.W.Frag) (F c0 c1 c2 c3 c4 c5 C : Addr) (j : Nat) : Prop where
  up : PySem.W.mroIn K C (.ref F) = some true
  ve : PySem.W.kitOne K (.ref C) (.type "ValueError") = some true
  k0 : PySem.W.kitOne K (.ref C) (.ref c0) = some (decide (j = 0))
  k1 : PySem.W.kitOne K (.ref C) (.ref c1) = some (decide (j = 1))
  k2 : PySem.W.kitOne K (.ref C) (.ref c2) = some (decide (j = 2))
  k3 : PySem.W.kitOne K (.ref C) (.ref c3) = some (decide (j = 3))
  k4 : PySem.W.kitOne K (.ref C) (.ref c4) = some (decide (j = 4))
  k5 : PySem.W.kitOne K (.ref C) (.ref c5) = some (decide (j = 5))
structure Ref (K : PySem.W.Frag) (mg : Str → Option Value) (j : Nat) (C : Addr) : Prop where
  lt : j < 6
  ex : PySem.W.excIn K C veTail veNew = true
  xc : XcOk K C
  all : ∀ F c0 c1 c2 c3 c4 c5, Exs mg F c0 c1 c2 c3 c4 c5 → RefX K F c0 c1 c2 c3 c4 c5 C j
theorem ref_mk {K : PySem.W.Frag} {mg : Str → Option Value} {F c0 c1 c2 c3 c4 c5 C : Addr} {j : Nat} (x : Exs mg F c0 c1 c2 c3 c4 c5) (lt : j < 6) (ex : PySem.W.excIn K C veTail veNew = true) (xc : XcOk K C) (r : RefX K F c0 c1 c2 c3 c4 c5 C j) : Ref K mg j C :=
  ⟨lt, ex, xc, fun F' d0 d1 d2 d3 d4 d5 y => by
    have ef := x.f.symm.trans y.f
    have e0 := x.n0.symm.trans y.n0
    have e1 := x.n1.symm.trans y.n1
    have e2 := x.n2.symm.trans y.n2
    have e3 := x.n3.symm.trans y.n3
    have e4 := x.n4.symm.trans y.n4
    have e5 := x.n5.symm.trans y.n5
    cases ef; cases e0; cases e1; cases e2; cases e3; cases e4; cases e5
    exact r⟩
/-- the j-th refusal is told, and nothing that was there has changed -/
def Raised (K : PySem.W.Frag) (mg : Str → Option Value) (j : Nat) (E : XK) (H : Hp) : Prop := ∀ C H', Ref K mg j C → Same H H' → E (.ref C) none H'
theorem Raised.up {K : PySem.W.Frag} {mg : Str → Option Value} {j : Nat} {E : XK} {H H1 : Hp} (r : Raised K mg j E H) (s : Same H H1) : Raised K mg j E H1 := fun C H' x s' => r C H' x (s.trans s')
def wordOf : Nat → Str
  | 0 => "base"
  | 1 => "fraction"
  | 2 => "writing"
  | 3 => "number"
  | 4 => "long"
  | _ => "note"
/-- where nothing is refused -/
def EF : XK := fun _ _ _ => False
section
variable {X : Cx} {x : Str} {p pos : Pos} {e : Expr} {es : List Expr} {t : TA} {k : Nat} {ps : List Str} {sp : Sp}
end
end L2

set_option Elab.async false
set_option maxRecDepth 100000
set_option maxHeartbeats 2000000
namespace L2
open PySem PySem.Spec PyProof.Rows
/-! ### a comprehension whose element may refuse -/
theorem noteFrame_eq {e : Value} {env env' : Env} (h : env'.frame = env.frame) : noteFrame e env' = noteFrame e env := by
  unfold noteFrame PySem.frameOf
  rw [h]
/-- frames stand where all but the object at C is as it was -/
theorem funFrames_but {h h' B : Heap} {C : Addr} (hs : Heap.SameBut C h h') : ∀ {l : List Env}, C ∉ frs l → h.FunFrames B l → h'.FunFrames B l
  | [], _, _ => trivial
  | env :: rest, hC, hl => by
    obtain ⟨hk, ⟨L, o, hf, hn, ho, hd⟩, hr⟩ := hl
    have hm : frs (env :: rest) = L :: frs rest := by
      unfold frs
      rw [List.filterMap_cons, hf]
    rw [hm] at hC
    have h1 : L ≠ C := fun q => hC (by rw [q]; exact List.mem_cons_self)
    exact ⟨hk, ⟨L, o, hf, hn, (hs.2 L h1).trans ho, hd⟩, funFrames_but hs (fun q => hC (List.mem_cons_of_mem _ q)) hr⟩
/-- an exception within a block, whose names stand at C -/
def RXC (P : Program) (w : World) (A : Around) (env : Env) (outer : List Env) (L : Addr) (H₀ : Hp) (s₀ : Shared) (E : XK) (C : Addr) : Value → Shared → Prop := fun v s => ∃ (a : Addr) (cls : Value) (H' : Hp) (B : Heap),
  v = .ref a ∧ A.frames = some (env :: outer) ∧ s.os = s₀.os ∧ AllBare s.gens ∧ Bx P w outer H₀ s₀.heap H' B ∧ Slots outer s₀.heap s.heap ∧ Stage B (env :: outer) L a cls s.heap ∧ E cls none H' ∧ B.get? C = none ∧ C ∉ frs (env :: outer) ∧ ∃ m, s.heap.Ns C m
/-- noted -/
def RXN (P : Program) (w : World) (A : Around) (env : Env) (outer : List Env) (H₀ : Hp) (s₀ : Shared) (E : XK) (C : Addr) : Value → Shared → Prop := fun v s => ∃ (a : Addr) (cls fl : Value) (H' : Hp) (B : Heap),
  v = .ref a ∧ A.frames = some (env :: outer) ∧ s.os = s₀.os ∧ AllBare s.gens ∧ Bx P w outer H₀ s₀.heap H' B ∧ Slots outer s₀.heap s.heap ∧ Fly B (env :: outer) a cls fl s.heap ∧ E cls none H' ∧ B.get? C = none ∧ C ∉ frs (env :: outer) ∧ ∃ m, s.heap.Ns C m
section
variable {P : Program} {w : World} {M : Model} {A : Around} {env cenv : Env} {outer : List Env} {L C : Addr} {H₀ : Hp} {s₀ s : Shared} {E : XK} {v : Value}
theorem RXC.note {R : Value → Shared → Prop} (hf : env.frame = some L) (hc : cenv.frame = env.frame) (x : RXC P w A env outer L H₀ s₀ E C v s)
    (k : ∀ s', RXN P w A env outer H₀ s₀ E C v s' → R v s') : notedBy M A cenv R v s := by
  obtain ⟨a, cls, H', B, rfl, hfr, os, ba, bx, sl, st, e, hB, hC, m, hn⟩ := x
  have f : s.heap.FunFrames B outer := st.frames.2.2
  unfold notedBy
  rw [noteFrame_eq hc]
  refine st.note hfr hf fun h' hd u => k _ ⟨a, cls, _, H', B, rfl, hfr, os, ba, bx, sl.up f u, hd, e, hB, hC, m, ?_⟩
  obtain ⟨o, es, ep, ho, hd', r⟩ := hn
  obtain ⟨sl', e1⟩ := u C o ho (fun vs z => by rw [hd'] at z; cases z)
  exact ⟨_, es, ep, e1, hd', r⟩
/-- the block's names are let go, and it passes on -/
theorem RXN.pass {h' : Heap} {α : Type} {what : String} {X : Value → Shared → Prop} {Q : α → Shared → Prop} (x : RXN P w A env outer H₀ s₀ E C v s) (hs : Heap.SameBut C s.heap h')
    (k : ∀ s', RX P w A env outer L H₀ s₀ E v s' → X v s') : wpAny M A (PySem.passOn what v cenv : Sem α) Q X { s with heap := h' } := by
  obtain ⟨a, cls, fl, H', B, rfl, hfr, os, ba, bx, sl, ⟨st, nw, ff, oe, oT, vs, ts, T, y⟩, e, hB, hC, m, o, es, ep, ho, hd, r⟩ := x
  have ne : ∀ b ob us, s.heap.get? b = some ob → ob.data = .fields us → b ≠ C := fun b ob us e1 e2 q => by
    rw [q, ho] at e1
    cases e1
    rw [hd] at e2
    cases e2
  have na := ne a oe vs y.oa y.da
  have nT := ne T oT ts y.oT y.dT
  have fly : Fly B (env :: outer) a cls fl h' := ⟨fun b o' e1 => (hs.2 b fun q => by rw [q, hB] at e1; cases e1).trans (st b o' e1), nw, funFrames_but hs hC ff, oe, oT, vs, ts, T,
    ⟨(hs.2 a na).trans y.oa, y.cl, y.nd, y.da, y.en, y.nw, y.ne, (hs.2 T nT).trans y.oT, y.dT, y.fl3⟩⟩
  have sl' : Slots outer s₀.heap h' := fun b ob e1 hb => by
    obtain ⟨x1, e2⟩ := sl b ob e1 hb
    have hbC : b ≠ C := fun q => hC (by
      rw [q] at hb
      unfold frs at hb ⊢
      rw [List.filterMap_cons]
      split
      · exact hb
      · exact List.mem_cons_of_mem _ hb)
    exact ⟨x1, (hs.2 b hbC).trans e2⟩
  unfold PySem.passOn
  refine wpAny_bind (wpAny_field ((hs.2 a na).trans y.oa) y.da y.en ?_)
  rw [if_neg (by simp)]
  refine wpAny_bind (Fly.mark (s := { s with heap := h' }) (fr := cenv.frame) fly fun h2 fly2 u => ?_)
  exact wpAny_throw (k _ ⟨a, cls, H', B, rfl, hfr, os, ba, bx, sl'.up fly.fr.2.2 u, .inl ⟨_, fly2⟩, e⟩)
end
/-- one turn that may refuse -/
theorem compLoop_turnE {prog : Program} {w : World} {A : Around} {R : Result → Shared → Prop} {s : Shared} {elt target iter : Expr} {scope : Scope} {pos : Pos} {it acc : Value} {env : Env} (Ex : Value → Shared → Prop) (hEx : ∀ v s', Ex v s' → notedBy (model prog w) (A.under (.compLoop (.ListComp elt [⟨target, iter, [], 0⟩] scope pos) 0 it acc env)) env (fun e s'' => R (.error e) s'') v s') (I : Nat → Shared → Prop)
    (turn : ∀ n s, I n s → wpAny (model prog w) A (pyNext it) (fun r s₁ => match r with
      | none => R (.ok .next) s₁
      | some v => wpAny (model prog w) A (letOwnedTupleGo target it v) (fun _ s₁' => wpAny (model prog w) A (assign target env v) (fun _ s₂ => wpAny (model prog w) A (eval elt env) (fun x s₃ =>
          wpAny (model prog w) A (call (.builtin "list.append") [acc, x]) (fun _ s₄ => ∃ m, m < n ∧ I m s₄) Ex s₃) Ex s₂) Ex s₁') Ex s₁) Ex s)
    (n : Nat) (h : I n s) : codeAny (model prog w) A (.compLoop (.ListComp elt [⟨target, iter, [], 0⟩] scope pos) 0 it acc env) R s := by
  refine codeAny_loop rfl I (fun n s hI => ?_) n h
  show wpAny _ _ ((compTurn (.ListComp elt [⟨target, iter, [], 0⟩] scope pos) 0 it acc env).onRaise (fun x => do noteFrame x env; theTreesLotGoes x)) _ _ s
  refine wpAny_noted (wpAny_mono (E' := _) (?_ : wpAny _ _ _ _ Ex s) (fun _ _ q => q) hEx)
  rw [compTurn_list1]
  refine wpAny_bind (wpAny_standAt (wpAny_bind (wpAny_mono (turn n s hI) (fun r s₁ h₁ => ?_) fun _ _ h' => h')))
  cases r with
  | none => exact wpAny_pure h₁
  | some v =>
    exact wpAny_bind (wpAny_mono h₁ (fun _ s₁' h₁' => wpAny_bind (wpAny_mono h₁' (fun _ s₂ h₂ => wpAny_bind (wpAny_bind (wpAny_mono h₂ (fun x s₃ h₃ => wpAny_bind (wpAny_mono h₃
      (fun _ s₄ h₄ => wpAny_pure (wpAny_pure ⟨rfl, h₄⟩)) fun _ _ h' => h')) fun _ _ h' => h'))) fun _ _ h' => h')) fun _ _ h' => h')
section
variable {X : Cx} {pins : List (Addr × Obj)} {σ : St} {H2 : Hp} {s2 : Shared} {sc : Scope} {x : Str} {caps : List (Str × Nat)} {fp : List Addr} {C : Addr} {XE : XK}
theorem frs_lt {h B : Heap} {l : List Env} (f : h.FunFrames B l) {b : Addr} (hb : b ∈ frs l) : b < h.objs.size := by
  obtain ⟨_, o, e, _⟩ := f.mem hb
  exact Heap.lt_size e
theorem hide_none {B : Heap} {b : Addr} {l : List Addr} (h : B.get? b = none) : (PySem.W.hideAll B l).get? b = none := by
  cases q : (PySem.W.hideAll B l).get? b with
  | none => rfl
  | some o => rw [PySem.W.of_hideAll _ q] at h; cases h
theorem funFrames_less {h B : Heap} {cs : List Addr} : ∀ {l : List Env}, h.FunFrames B l → h.FunFrames (PySem.W.hideAll B cs) l
  | [], _ => trivial
  | env :: rest, hl => by
    obtain ⟨hk, ⟨L, o, hf, hn, ho, hd⟩, hr⟩ := hl
    exact ⟨hk, ⟨L, o, hf, hide_none hn, ho, hd⟩, funFrames_less hr⟩
/-- what lies behind a callee's exception, seen from the def's start -/
theorem passed_bx {s s' : Shared} {H H' : Hp} {B : Heap} (I : Inv X pins σ H s) (hst : X.stack = X.env :: X.outer) (hex : X.ex = []) (bx : Bx X.prog X.w X.stack H s.heap H' B) (sl : Slots X.stack s.heap s'.heap) :
    Bx X.prog X.w X.outer X.H₀ X.s₀.heap H' B ∧ Slots X.outer X.s₀.heap s'.heap := by
  have nfr : ∀ b o, X.s₀.heap.get? b = some o → b ∉ frs X.outer → b ∉ frs X.stack := fun b o e hb hm => by
    rcases List.mem_cons.mp (I.stkSub b hm) with q | q
    · exact absurd (Heap.lt_size e) (by rw [q]; exact Nat.not_lt.mpr I.ok.above)
    · exact hb q
  have nex : ∀ b : Addr, b ∉ X.ex := fun b z => by rw [hex] at z; cases z
  have sub : ∀ b, b ∈ frs X.outer → b ∈ frs X.stack := fun b hb => by
    rw [hst]
    unfold frs at hb ⊢
    rw [List.filterMap_cons]
    split
    · exact hb
    · exact List.mem_cons_of_mem _ hb
  refine ⟨⟨fun b o e n hb => bx.old b o (I.base.keep b o e n hb (nex b)) (I.base.free b o e n (nex b)) (nfr b o e hb), fun b o e hb => ?_, bx.hok, fun b o e n => ?_, fun b xs q => bx.tups _ _ (I.base.tups _ _ q), fun b o u q => bx.frzs _ _ _ (I.base.frzs _ _ _ q), fun b ps q => ?_⟩, fun b o e hb => ?_⟩
  · obtain ⟨o', e'⟩ := I.base.there b o e (nex b)
    exact bx.thr b o' e' (nfr b o e hb)
  · obtain ⟨o', e'⟩ := I.base.there b o e (nex b)
    exact bx.free b o' e' (I.base.free b o e n (nex b))
  · obtain ⟨m1, q1⟩ := I.base.tbls _ _ q
    obtain ⟨m2, q2⟩ := bx.tbls _ _ q1
    exact ⟨m1 ++ m2, by rw [q2, Array.append_assoc]⟩
  · obtain ⟨sl1, q⟩ := slots_of I hex b o e hb
    obtain ⟨sl2, q2⟩ := sl b _ q (sub b hb)
    exact ⟨sl2, q2⟩
/-- what a callee refuses within the block -/
theorem passB (hst : X.stack = X.env :: X.outer) (hex : X.ex = []) (I : Inv X pins σ H2 s2) (O : CompOk X sc x caps) (f2 : ∀ b ∈ fp, FpOk X pins H2 b) (hfp : ∀ b ∈ fp, b < s2.heap.objs.size) (hC : s2.heap.objs.size ≤ C) :
    Passes (CX1 X.prog X.w) ((cxB X sc C (x :: caps.map (·.1)) s2 H2 fp).wish (RXC X.prog X.w X.A X.env X.outer X.env.locals X.H₀ X.s₀ XE C)) XE := by
  intro pins' σ' H1 sc' v s' J0 y
  have J : Inv (cxB X sc C (x :: caps.map (·.1)) s2 H2 fp) pins' σ' H1 sc' := J0.unwish
  have IX : Inv X pins σ H1 sc' := I.call' (ch := fp) J.os J.base J.hok J.bare fun b hb => ⟨(f2 b hb).2.2.2.1, (f2 b hb).2.1, (f2 b hb).2.2.2.2.1, (f2 b hb).2.2.2.2.2⟩
  obtain ⟨a0, cls0, HX, B0, rfl, os0, ba0, bx0, sl0, fl0, e0⟩ := id y
  obtain ⟨m, hn, _⟩ := J.loc
  have hn : sc'.heap.Ns C m := hn
  have hnC : H1 C = none := J.free
  have lt : ∀ b, b ∈ frs X.stack → b < s2.heap.objs.size := fun b hb => frs_lt I.stack hb
  have nfC : C ∉ frs X.stack := fun hb => absurd (lt C hb) (Nat.not_lt.mpr hC)
  obtain ⟨oC, es, ep, hoC, hdC, rC⟩ := hn
  have hBC := bx0.old C oC hoC hnC nfC
  have hsC := fl0.st C oC hBC
  have hXC := bx0.free C oC hoC hnC
  obtain ⟨bx, sl⟩ := passed_bx (s' := s') IX hst hex bx0 sl0
  have above : ∀ b o, X.s₀.heap.get? b = some o → b ≠ C := fun b o e => Nat.ne_of_lt (Nat.lt_of_lt_of_le (Heap.lt_size e) (Nat.le_trans I.sz hC))
  have one : ∀ b, b ≠ C → b ∉ [C] := fun b hb hm => hb (by simpa using hm)
  have fl1 : Fly B0 (X.env :: X.outer) a0 cls0 .none s'.heap := hst ▸ fl0
  obtain ⟨st1, nw1, ff1, oe, oT, vs, ts, T, t1⟩ := fl1
  refine ⟨a0, cls0, HX, PySem.W.hideAll B0 [C], rfl, hst ▸ I.ok.frames, os0.trans IX.os, ba0, ⟨fun b o e n hb => PySem.W.hideAll_get _ (bx.old b o e n hb) (one b (above b o e)), fun b o e hb => ?_, fun b u e => ?_, bx.free, bx.tups, bx.frzs, bx.tbls⟩, sl,
    .inl ⟨_, ⟨fun b o e => st1 b o (PySem.W.of_hideAll _ e), hide_none nw1, funFrames_less ff1, oe, oT, vs, ts, T, ⟨t1.oa, t1.cl, t1.nd, t1.da, t1.en, hide_none t1.nw, t1.ne, t1.oT, t1.dT, t1.fl3⟩⟩⟩, e0, PySem.W.hideAll_none _ (by simp), hst ▸ nfC, m, oC, es, ep, hsC, hdC, rC⟩
  · obtain ⟨o', e'⟩ := bx.thr b o e hb
    exact ⟨o', PySem.W.hideAll_get _ e' (one b (above b o e))⟩
  · have trk : ∀ c u, HX c = some u → c ≠ C := fun c u e q => by rw [q, hXC] at e; cases e
    refine (bx.hok b u e).stay (fun c v hc q => PySem.W.hideAll_get _ q (one c ?_)) (fun _ q => q) fun _ _ q => q
    rcases hc with rfl | hc
    · exact trk _ _ e
    · exact trk _ _ hc
end
section
variable {X : Cx} {pins : List (Addr × Obj)} {σ : St} {H2 : Hp} {s2 : Shared} {sc : Scope} {x : Str} {caps : List (Str × Nat)} {fp : List Addr} {C : Addr}
/-- the block runs, or its element refuses -/
theorem comp_runE {elt iter : Expr} {px pos : Pos} {te : TE} {J : It} {it : Addr} {tn : Nat → Heap → Prop} {Q : VK} {E : Value → Shared → Prop} {RR : Value → Addr → Result → Shared → Prop} {XE : XK} (hc : X.calm = true) (hst : X.stack = X.env :: X.outer) (hex : X.ex = []) (hfr : X.env.frame = some X.env.locals)
    (I : Inv X pins σ H2 s2) (T : Turn X.prog X.w X.K (.Name x px) J fp it tn) (st : tn 0 s2.heap) (f2 : ∀ b ∈ fp, FpOk X pins H2 b) (O : CompOk X sc x caps)
    (he : ∀ C s0 H0 fp R, Passes (CX1 X.prog X.w) ((cxB X sc C (x :: caps.map (·.1)) s0 H0 fp).wish R) XE → PE ((cxB X sc C (x :: caps.map (·.1)) s0 H0 fp).wish R) elt te)
    (h : ∀ D, H2 D = none → ∃ W : Nat → Nat → Hp → List V → Prop, (∃ m, W 0 m (upd H2 D (.lst [])) []) ∧
      ∀ i m H2 ys, W i m H2 ys → H2 D = some (.lst ys) ∧ ((J.stop i H2 ∧ Q (.ref D) H2) ∨ (J.go i H2 ∧ ys.length < sizeLine ∧ ∀ x H3, J.yld i H2 x H3 →
        te (some x :: capsV caps σ) H3 fun y H4 => H4 D = some (.lst ys) ∧ ∃ m', m' < m ∧ W (i + 1) m' (upd H4 D (.lst (ys ++ [y]))) (ys ++ [y]))))
    (hRR : ∀ D C s' H' m, s2.heap.objs.size ≤ C → H' C = none → Inv X pins σ H' s' → Q (.ref D) H' → s'.heap.Ns C m → RR (.ref D) C (.ok .next) s')
    (hRE : ∀ D C v s', RXN X.prog X.w X.A X.env X.outer X.H₀ X.s₀ XE C v s' → RR (.ref D) C (.error v) s') :
    wpAny (model X.prog X.w) X.A (newList []) (fun acc s₃ => wpAny (model X.prog X.w) X.A (newFunctionEnv sc X.env.globals (clOf sc X.env) [] X.env.qual none .none (some X.env)) (fun cenv s₄ =>
      codeAny (model X.prog X.w) X.A (.compStart (.ListComp elt [⟨.Name x px, iter, [], 0⟩] sc pos) 0 (.ref it) acc { cenv with scope := relabel sc X.env }) (RR acc cenv.locals) s₄) E s₃) E s2 := by
  have hfp : ∀ b ∈ fp, b < s2.heap.objs.size := fun b hb => by
    obtain ⟨o, ho, _⟩ := T.obj 0 _ st b hb
    exact Heap.lt_size ho
  refine wpAny_newObj_type (wpAny_newFunctionEnv O.nocell (by intro y hy; simp at hy) (fun h₁ hns₁ hsb₁ => ?_) O.kind)
  dsimp only at hns₁ hsb₁ ⊢
  generalize hH2 : s2.heap.push { cls := .type "list", dict := none, data := .seq ([] : List Value).toArray } = G2 at hns₁ hsb₁ ⊢
  have hC : G2.objs.size = s2.heap.objs.size + 1 := by rw [← hH2, Heap.size_push]
  have hDC : s2.heap.objs.size ≠ G2.objs.size := by rw [hC]; exact Nat.ne_of_lt (Nat.lt_succ_self _)
  have hCle : s2.heap.objs.size ≤ G2.objs.size := by rw [hC]; exact Nat.le_succ _
  have old : ∀ b o, s2.heap.get? b = some o → h₁.get? b = some o := fun b o e =>
    hsb₁.extBut b o (by rw [hC]; exact Nat.ne_of_lt (Nat.lt_succ_of_lt (Heap.lt_size e))) (Heap.get?_push_of_some _ (hH2 ▸ Heap.get?_push_of_some _ e))
  have hacc : h₁.get? s2.heap.objs.size = some { cls := .type "list", data := .seq #[] } := hsb₁.extBut _ _ hDC (Heap.get?_push_of_some _ (hH2 ▸ Heap.get?_push_size _ rfl))
  have hst₁ : tn 0 h₁ := T.keep 0 _ _ st fun b _ o e => old b o e
  have I4 : Inv (cxB X sc G2.objs.size (x :: caps.map (·.1)) s2 H2 fp) [] (none :: capsV caps σ) (upd H2 s2.heap.objs.size (.lst [])) { s2 with heap := h₁, toks := s2.toks + ([] : List (Str × Value)).length } :=
    cxB_start I O f2 hfp hCle (Nat.le_refl _) hDC.symm rfl rfl old hns₁ hacc
  obtain ⟨W, ⟨m0, w0⟩, turn⟩ := h s2.heap.objs.size (I.hok.fresh (Nat.le_refl _))
  have stat : ∀ {H' : Hp}, (∀ b ∈ fp, H' b = none) → ∀ b ∈ fp, FpOk (cxB X sc G2.objs.size (x :: caps.map (·.1)) s2 H2 fp) [] H' b := fun hn b hb =>
    ⟨hn b hb, ((cxB_ok I O f2 hfp hCle).exf b hb).1, (cxB_ok I O f2 hfp hCle).exfs b hb, .inl hb, ((cxB_ok I O f2 hfp hCle).exf b hb).2, fun p hp => by simp [cxB] at hp⟩
  have fr0 : ∀ b ∈ fp, upd H2 s2.heap.objs.size (.lst []) b = none := fun b hb => by
    rw [upd_ne (Nat.ne_of_lt (hfp b hb))]; exact (f2 b hb).1
  have loop : ∀ s₃ : Shared, s₃ = { s2 with heap := h₁, toks := s2.toks + ([] : List (Str × Value)).length } →
      codeAny (model X.prog X.w) X.A (.compLoop (.ListComp elt [⟨.Name x px, iter, [], 0⟩] sc pos) 0 (.ref it) (.ref s2.heap.objs.size) (compEnvC sc (clOf sc X.env) G2.objs.size X.env))
        (RR (.ref s2.heap.objs.size) G2.objs.size) s₃ := by
    rintro s₃ rfl
    have hp := passB (C := G2.objs.size) (XE := XE) hst hex I O f2 hfp hCle
    refine compLoop_turnE (RXC X.prog X.w X.A X.env X.outer X.env.locals X.H₀ X.s₀ XE G2.objs.size) (fun v s' hx => hx.note (cenv := compEnvC sc (clOf sc X.env) G2.objs.size X.env) hfr rfl fun s'' hn => hRE _ _ _ _ hn) (fun n s' => ∃ i v0 H' ys, Inv (cxB X sc G2.objs.size (x :: caps.map (·.1)) s2 H2 fp) [] (v0 :: capsV caps σ) H' s' ∧ tn i s'.heap ∧ (∀ b ∈ fp, H' b = none) ∧ W i n H' ys) ?_ m0 ⟨0, _, _, _, I4, hst₁, fr0, w0⟩
    rintro n s3 ⟨i, v0, H3, ys, I3, st3, fr3, w3⟩
    obtain ⟨hDl, hw⟩ := turn i n H3 ys w3
    rcases hw with ⟨stop, qn⟩ | ⟨go, hlen, step⟩
    · refine thn (T.done (cxB X sc G2.objs.size (x :: caps.map (·.1)) s2 H2 fp) rfl rfl rfl hc i [] s3 _ H3 _ I3 (stat fr3) st3 stop) fun r s4 ⟨hr, I4'⟩ => ?_
      subst hr
      obtain ⟨m, hn, _⟩ := I4'.loc
      refine hRR _ _ s4 H3 m hCle I4'.free (I.call' (ch := fp) I4'.os I4'.base I4'.hok I4'.bare fun b hb => ⟨(f2 b hb).2.2.2.1, (f2 b hb).2.1, (f2 b hb).2.2.2.2.1, (f2 b hb).2.2.2.2.2⟩) qn hn
    · refine thn (T.item (cxB X sc G2.objs.size (x :: caps.map (·.1)) s2 H2 fp) rfl rfl rfl hc i [] s3 _ H3 _ I3 (stat fr3) st3 go) fun r s4 ⟨u, hr, h4⟩ => ?_
      subst hr
      refine thn h4 fun _ s5 ⟨y, H5, I5, r5, y5, st5, fr5⟩ => ?_
      have I5' := I5.pinned (stat fr5) (T.obj _ _ st5)
      have hgn : PG (cxB X sc G2.objs.size (x :: caps.map (·.1)) s2 H2 fp) (.Name x px) (gName 0) := pg_name O.nd rfl (.inl (lookup_relabel_local O.loc)) (.inr (lookup_relabel_local O.loc))
      refine wpAny_mono (hgn _ s5 _ H5 y u (fun σ' H' => σ' = some y :: capsV caps σ ∧ H' = H5) I5' r5 ⟨rfl, rfl⟩) (fun _ s6 ⟨σ6, H6, I6, e6, e6'⟩ => ?_) (fun _ _ z => z.elim)
      subst e6 e6'
      refine wpAny_mono (he _ _ _ _ _ hp _ s6 _ H6 _ (I6.wish _) (step y H6 y5)) (fun vz s7 ⟨z, H7, I7w, r7, q7, m', hm', w7⟩ => ?_) (fun _ _ z => z)
      have I7 := I7w.unwish
      refine wpAny_mono (mt_append (X := cxB X sc G2.objs.size (x :: caps.map (·.1)) s2 H2 fp) _ s7 _ H7 (.ref s2.heap.objs.size) [z] _ [vz] (fun _ H' => H' = upd H7 s2.heap.objs.size (.lst (ys ++ [z]))) I7 rfl (.cons r7 .nil)
        ⟨_, ys, z, rfl, rfl, q7, hlen, rfl⟩) (fun _ s8 ⟨_, H8, I8, _, e8⟩ => ?_) (fun _ _ z => z.elim)
      subst e8
      refine ⟨m', hm', i + 1, _, _, _, I8.unpinned, T.keep _ _ _ st5 fun b hb o e => (I8.pin (b, o) (List.mem_append_right _ (List.mem_append_right _ (mem_pinsAt hb e)))).1, fun b hb => ?_, w7⟩
      obtain ⟨o, e, d⟩ := T.obj _ _ st5 b hb
      exact (I8.pin (b, o) (List.mem_append_right _ (List.mem_append_right _ (mem_pinsAt hb e)))).2.1
  exact codeAny_compStart_list (loop _ rfl) (T.self _ 0 _ _ _ hst₁ (loop _ rfl))
/-- [elt for x in iter] as a value, where elt may refuse -/
theorem pe_compE {elt iter : Expr} {px pos : Pos} {wi : TI} {te : TE} {XE : XK} (caps : List (Str × Nat)) (hst : X.stack = X.env :: X.outer) (hex : X.ex = []) (hfr : X.env.frame = some X.env.locals) (hxe : ∀ v s', RX X.prog X.w X.A X.env X.outer X.env.locals X.H₀ X.s₀ XE v s' → X.xe v s') (hc : X.calm = true) (hi : PI X (.Name x px) iter wi) (O : CompOk X sc x caps)
    (he : ∀ C s0 H0 fp R, Passes (CX1 X.prog X.w) ((cxB X sc C (x :: caps.map (·.1)) s0 H0 fp).wish R) XE → PE ((cxB X sc C (x :: caps.map (·.1)) s0 H0 fp).wish R) elt te)
    (hs : ∀ x, foldedSetIterable iter X.env x = pure x := by intro _; rfl) : PE X (.ListComp elt [⟨.Name x px, iter, [], 0⟩] sc pos) (tComp caps wi te) := by
  intro pins s σ H Q I h
  rw [eval_ListComp]
  refine wpAny_comprehension_free (use := none) rfl hs (closure_is O.free) O.kind O.names (thn (hi pins s σ H _ I h) fun v s1 h1 => thn h1 fun itv s2 h2 => ?_)
  obtain ⟨it, fp, tn, J, H2, e, I2, T, st2, f2, hR⟩ := h2
  subst e
  refine comp_runE (XE := XE) (RR := fun acc C => compPost (model X.prog X.w) X.A X.xe none (EP X pins σ Q) acc C) hc hst hex hfr I2 T st2 f2 O he hR ?_ ?_
  · intro D C s' H' m hC hn I' q hns
    have hlt : ∀ b, b < s2.heap.objs.size → b ≠ C := fun b hb => Nat.ne_of_lt (Nat.lt_of_lt_of_le hb hC)
    refine ⟨m, hns, fun h' hs' => ⟨.ref D, H', I'.letGo (Nat.le_trans I2.sz hC) hn (hlt _ I2.lt).symm (fun y c hy => ?_) (fun p hp => ?_) hs', rfl, q⟩⟩
    · obtain ⟨_, o, ho, _⟩ := I2.cell y c hy
      exact hlt _ (Heap.lt_size ho)
    · exact hlt _ (Heap.lt_size (I2.pin p hp).1)
  · intro D C v s' hx
    have hx' := hx
    obtain ⟨_, _, _, _, _, _, _, _, _, _, _, _, _, _, _, m, hn⟩ := hx'
    exact ⟨m, hn, fun h' hs' cenv _ => hx.pass (L := X.env.locals) hs' fun s'' z => hxe _ _ z⟩
end
end L2

set_option Elab.async false
set_option maxRecDepth 100000
namespace My
open PySem L2
/-! sums and multiples -/
def Long (T B : Int) : Prop := 1000000000000 < T / B ∨ 2000 < (RF.low T B).2
/-- what is told of a result -/
def Out (K : PySem.W.Frag) (mg : Str → Option Value) (b T B : Int) (H : Hp) (Q : VK) (E : XK) : Prop :=
  (Long T B → Raised K mg 4 E H) ∧ (¬ Long T B → ∀ (w : Int) (a g : List Int) (p la lg : Addr) (H' : Hp), RF.DivIs b (RF.low T B).1 (RF.low T B).2 w a g → NewWr H H' p la lg w a g → Q (.ref p) H')
theorem Out.up {K : PySem.W.Frag} {mg : Str → Option Value} {b T B : Int} {H H1 : Hp} {Q : VK} {E : XK} (o : Out K mg b T B H Q E) (s : Same H H1) : Out K mg b T B H1 Q E :=
  ⟨fun l => (o.1 l).up s, fun l w a g p la lg H' d n => o.2 l w a g p la lg H' d (NewWr.up s n)⟩
def spResultOf (K : PySem.W.Frag) (mg : Str → Option Value) : Sp := fun vs H Q E => ∃ b T B : Int, vs = [.int b, .int T, .int B] ∧ 2 ≤ b ∧ b ≤ 36 ∧ 0 ≤ T ∧ 0 < B ∧ B.natAbs < 2 ^ 8500 ∧ Out K mg b T B H Q E
def spCheckNumberE (K : PySem.W.Frag) (mg : Str → Option Value) : Sp := fun vs H Q E => ∃ n : Int, vs = [.int n] ∧ (0 ≤ n ∧ n ≤ 1000000 → Q .non H) ∧ (¬ (0 ≤ n ∧ n ≤ 1000000) → Raised K mg 3 E H)
/-- top and bottom of a worth -/
abbrev tp (b x : Int) (a g : List Int) : Int := (RF.low (RF.wT b x a g) (RF.wB b a g)).1
abbrev bt (b x : Int) (a g : List Int) : Int := (RF.low (RF.wT b x a g) (RF.wB b a g)).2
/-- a writing that one may reckon with -/
structure Reck (b x : Int) (a g : List Int) : Prop where
  gw : GoodW b x a g
  dv : DivOk (RF.num b a * RF.rM b g + RF.num b g) (RF.wB b a g)
  sm : (bt b x a g).natAbs < 2 ^ 3900
structure Sizes (t q : Int) : Prop where
  t0 : 0 ≤ t
  q0 : 0 < q
  ts : t.natAbs < 2 ^ 3990
  qs : q.natAbs < 2 ^ 3900
def spAdded (K : PySem.W.Frag) (mg : Str → Option Value) : Sp := fun vs H Q E => ∃ (b : Int) (p1 la1 lg1 : Addr) (x1 : Int) (a1 g1 : List Int) (p2 la2 lg2 : Addr) (x2 : Int) (a2 g2 : List Int), vs = [.int b, .ref p1, .ref p2] ∧ 2 ≤ b ∧ b ≤ 36 ∧
  WrAt K H p1 la1 lg1 x1 a1 g1 ∧ Reck b x1 a1 g1 ∧ WrAt K H p2 la2 lg2 x2 a2 g2 ∧ Reck b x2 a2 g2 ∧
  Out K mg b (tp b x1 a1 g1 * bt b x2 a2 g2 + tp b x2 a2 g2 * bt b x1 a1 g1) (bt b x1 a1 g1 * bt b x2 a2 g2) H Q E
def spTimes (K : PySem.W.Frag) (mg : Str → Option Value) : Sp := fun vs H Q E => ∃ (b : Int) (p la lg : Addr) (x : Int) (a g : List Int) (n : Int), vs = [.int b, .ref p, .int n] ∧ 2 ≤ b ∧ b ≤ 36 ∧
  WrAt K H p la lg x a g ∧ Reck b x a g ∧ (0 ≤ n ∧ n ≤ 1000000 → Out K mg b (tp b x a g * n) (bt b x a g) H Q E) ∧ (¬ (0 ≤ n ∧ n ≤ 1000000) → Raised K mg 3 E H)
/-! a fraction n by D, D at most 2000 -/
structure Over (b D n x : Int) (a g : List Int) : Prop where
  dv : RF.DivIs b (RF.low n D).1 (RF.low n D).2 x a g
theorem Over.of {b t q D x : Int} {a g : List Int} (hq : 0 < q) (hD : 0 < D) (h : q ∣ D) (d : RF.DivIs b t q x a g) : Over b D (t * (D / q)) x a g := by
  refine ⟨?_⟩
  rw [← RF.low_over hq hD h]
  exact d.of_low hq
theorem Over.low {b D n x : Int} {a g : List Int} (b2 : 2 ≤ b) (hD : 0 < D) (hn : 0 ≤ n) (y : Over b D n x a g) : RF.low (RF.wT b x a g) (RF.wB b a g) = RF.low n D := by
  have h0 := RF.low_pos (T := n) hD
  have e := y.dv.low b2 h0 (low_nonneg hn)
  rw [e]
  exact RF.low_cross h0 hD (RF.low_mul hD).symm
/-! the law's own words of sums -/
def spWordOf (K : PySem.W.Frag) (mg : Str → Option Value) : Sp := fun vs H Q _ => ∃ (a C : Addr) (j : Nat), vs = [.ref a] ∧ H a = some (.ext (ofCls a (.ref C))) ∧ Ref K mg j C ∧ ∀ H', Same H H' → Q (.str (wordOf j)) H'
abbrev wds (j : Nat) : List Bool := [decide (j = 0), decide (j = 1), decide (j = 2), decide (j = 3), decide (j = 4), decide (j = 5)]
theorem six {R : Nat → Prop} (h0 : R 0) (h1 : R 1) (h2 : R 2) (h3 : R 3) (h4 : R 4) (h5 : R 5) {j : Nat} (h : j < 6) : R j := by
  rcases (show j = 0 ∨ j = 1 ∨ j = 2 ∨ j = 3 ∨ j = 4 ∨ j = 5 by omega) with rfl | rfl | rfl | rfl | rfl | rfl <;> assumption
theorem word_count {j : Nat} (h : j < 6) : PySem.Spec.countIn (.bool true) ((wds j).map PyData.bool) = 1 := six (R := fun j => PySem.Spec.countIn (.bool true) ((wds j).map PyData.bool) = 1) (by decide) (by decide) (by decide) (by decide) (by decide) (by decide) h
theorem word_ix {j : Nat} (h : j < 6) : (wds j)[j]? = some true := six (R := fun j => (wds j)[j]? = some true) rfl rfl rfl rfl rfl rfl h
theorem word_no {j : Nat} (h : j < 6) : ∀ i, i < j → (wds j)[i]? = some (!true) := fun i hi => by
  have : ∀ j : Fin 6, ∀ i : Fin 6, i.val < j.val → (wds j.val)[i.val]? = some (!true) := by decide
  exact this ⟨j, h⟩ ⟨i, by omega⟩ hi
theorem word_at {j : Nat} (h : j < 6) : atI [V.str "base", .str "fraction", .str "writing", .str "number", .str "long", .str "note"] (j : Int) = some (.str (wordOf j)) :=
  atI_nat (six (R := fun j => [V.str "base", .str "fraction", .str "writing", .str "number", .str "long", .str "note"][j]? = some (.str (wordOf j))) rfl rfl rfl rfl rfl rfl h)
theorem slot_set {σ : St} {i n : Nat} {v : V} (h : σ.length = n) (hi : i < n) : (σ.set i (some v))[i]? = some (some v) := by
  rw [List.getElem?_set_self (by omega)]
/-- a result, or the word of it -/
def OutW (b T B : Int) (H : Hp) (Q : VK) : Prop := (Long T B → ∀ H', Same H H' → Q (.str (wordOf 4)) H') ∧ (¬ Long T B → ∀ (w : Int) (a g : List Int) (p la lg : Addr) (H' : Hp), RF.DivIs b (RF.low T B).1 (RF.low T B).2 w a g → NewWr H H' p la lg w a g → Q (.ref p) H')
theorem OutW.up {b T B : Int} {H H1 : Hp} {Q : VK} (o : OutW b T B H Q) (s : Same H H1) : OutW b T B H1 Q :=
  ⟨fun l H' s' => o.1 l H' (s.trans s'), fun l w a g p la lg H' d n => o.2 l w a g p la lg H' d (NewWr.up s n)⟩
/-- what is asked for: times (the other is none) or added -/
def Ask (K : PySem.W.Frag) (b x : Int) (a g : List Int) (v : V) (n : Int) (H : Hp) (Q : VK) : Prop :=
  (v = .non ∧ (0 ≤ n ∧ n ≤ 1000000 → OutW b (tp b x a g * n) (bt b x a g) H Q) ∧ (¬ (0 ≤ n ∧ n ≤ 1000000) → ∀ H', Same H H' → Q (.str (wordOf 3)) H')) ∨
  ∃ (p2 la2 lg2 : Addr) (x2 : Int) (a2 g2 : List Int), v = .ref p2 ∧ WrAt K H p2 la2 lg2 x2 a2 g2 ∧ Reck b x2 a2 g2 ∧ OutW b (tp b x a g * bt b x2 a2 g2 + tp b x2 a2 g2 * bt b x a g) (bt b x a g * bt b x2 a2 g2) H Q
def spTold (K : PySem.W.Frag) (mg : Str → Option Value) : Sp := fun vs H Q _ => ∃ (b : Int) (p1 la1 lg1 : Addr) (x1 : Int) (a1 g1 : List Int) (v : V) (n : Int), vs = [.int b, .ref p1, v, .int n] ∧ 2 ≤ b ∧ b ≤ 36 ∧ WrAt K H p1 la1 lg1 x1 a1 g1 ∧ Reck b x1 a1 g1 ∧ Ask K b x1 a1 g1 v n H Q
def spOne (K : PySem.W.Frag) : Sp := fun vs H Q _ => ∃ (sc : Addr) (ns : List Int) (i b : Int), vs = [.ref sc, .int i, .int b] ∧ SqL K H sc (ns.map V.int) ∧ 0 ≤ i ∧ 2 ≤ b ∧ b ≤ 36 ∧
  ∀ (x : Int) (a g : List Int) (p la lg : Addr) (H' : Hp), Reck b x a g → NewWr H H' p la lg x a g → Q (.ref p) H'
def spLawWorthR (K : PySem.W.Frag) : Sp := fun vs H Q _ => ∃ (b : Int) (p la lg : Addr) (x : Int) (a g : List Int), vs = [.int b, .ref p] ∧ 2 ≤ b ∧ b ≤ 36 ∧ WrAt K H p la lg x a g ∧ GoodW b x a g ∧ DivOk (RF.wT b x a g) (RF.wB b a g) ∧
  ∀ (p' : Addr) (H' : Hp), Same H H' → H p' = none → H' p' = some (.tup [.int (RF.low (RF.wT b x a g) (RF.wB b a g)).1, .int (RF.low (RF.wT b x a g) (RF.wB b a g)).2]) → Q (.ref p') H'
def spDue : Sp := fun vs H Q _ => ∃ b T B : Int, vs = [.int b, .int T, .int B] ∧ 2 ≤ b ∧ b ≤ 36 ∧ 0 ≤ T ∧ 0 < B ∧ B.natAbs < 2 ^ 8500 ∧ OutW b T B H Q
/-- the same text twice, or the same writing -/
def spIsDue (K : PySem.W.Frag) : Sp := fun vs H Q _ => ∃ u v : V, vs = [u, v] ∧ (∀ H', Same H H' → Q (.bl true) H') ∧ ((∃ z : Str, u = .str z ∧ v = .str z) ∨
  ∃ (p la lg p' la' lg' : Addr) (x : Int) (a g : List Int), u = .ref p ∧ v = .ref p' ∧ H p = some (.tup [.int x, .ref la, .ref lg]) ∧ H la = some (.lst (a.map V.int)) ∧ H lg = some (.lst (g.map V.int)) ∧
    H p' = some (.tup [.int x, .ref la', .ref lg']) ∧ H la' = some (.lst (a.map V.int)) ∧ H lg' = some (.lst (g.map V.int)))
def spOwn (K : PySem.W.Frag) : Sp := fun vs H Q _ => ∃ (b : Int) (l : Addr) (y : V) (p1 la1 lg1 : Addr) (x1 : Int) (a1 g1 : List Int) (v : V) (n : Int), vs = [.int b, .ref l, v, .int n] ∧ 2 ≤ b ∧ b ≤ 36 ∧ SqL K H l [.ref p1, y] ∧ WrAt K H p1 la1 lg1 x1 a1 g1 ∧ Reck b x1 a1 g1 ∧
  (v = .non ∨ ∃ (p2 la2 lg2 : Addr) (x2 : Int) (a2 g2 : List Int), v = .ref p2 ∧ WrAt K H p2 la2 lg2 x2 a2 g2 ∧ Reck b x2 a2 g2) ∧ ∀ H', Same H H' → Q (.bl true) H'
/-- a writing whose objects are not D -/
structure WrN (D : Addr) (H : Hp) (p la lg : Addr) (x : Int) (a g : List Int) : Prop where
  t : H p = some (.tup [.int x, .ref la, .ref lg])
  a : H la = some (.lst (a.map V.int))
  g : H lg = some (.lst (g.map V.int))
  np : p ≠ D
  na : la ≠ D
  ng : lg ≠ D
theorem WrN.of {D : Addr} {H H' : Hp} {p la lg : Addr} {x : Int} {a g : List Int} {o : HO} (hD : H D = some o) (n : NewWr H H' p la lg x a g) : WrN D H' p la lg x a g :=
  ⟨n.t, n.a, n.g, fun e => (by have := n.np; rw [e, hD] at this; cases this), fun e => (by have := n.na; rw [e, hD] at this; cases this), fun e => (by have := n.ng; rw [e, hD] at this; cases this)⟩
theorem WrN.same {D : Addr} {H H' : Hp} {p la lg : Addr} {x : Int} {a g : List Int} (w : WrN D H p la lg x a g) (s : Same H H') : WrN D H' p la lg x a g := ⟨s _ _ w.t, s _ _ w.a, s _ _ w.g, w.np, w.na, w.ng⟩
theorem WrN.put {D : Addr} {H : Hp} {p la lg : Addr} {x : Int} {a g : List Int} {o : HO} (w : WrN D H p la lg x a g) : WrN D (upd H D o) p la lg x a g :=
  ⟨by rw [upd_ne w.np]; exact w.t, by rw [upd_ne w.na]; exact w.a, by rw [upd_ne w.ng]; exact w.g, w.np, w.na, w.ng⟩
theorem WrN.wr {K : PySem.W.Frag} {D : Addr} {H : Hp} {p la lg : Addr} {x : Int} {a g : List Int} (w : WrN D H p la lg x a g) : WrAt K H p la lg x a g := ⟨.of w.t, .of w.a, .of w.g⟩
/-- the writings of some fractions, in a list at D -/
structure Wrs (D : Addr) (b : Int) (t q : Nat → Int) (i : Nat) (H : Hp) (ys : List V) : Prop where
  l : H D = some (.lst ys)
  n : ys.length = i
  all : ∀ j, j < i → ∃ p la lg x a g, ys[j]? = some (.ref p) ∧ WrN D H p la lg x a g ∧ RF.DivIs b (t j) (q j) x a g
theorem Wrs.more {D : Addr} {b : Int} {t q : Nat → Int} {i : Nat} {H H' : Hp} {ys : List V} {p la lg : Addr} {x : Int} {a g : List Int} (w : Wrs D b t q i H ys) (n : NewWr H H' p la lg x a g) (d : RF.DivIs b (t i) (q i) x a g) :
    Wrs D b t q (i + 1) (upd H' D (.lst (ys ++ [.ref p]))) (ys ++ [.ref p]) := by
  refine ⟨upd_same, by rw [List.length_append, w.n]; rfl, fun j hj => ?_⟩
  by_cases e : j = i
  · subst e
    refine ⟨p, la, lg, x, a, g, ?_, (WrN.of w.l n).put, d⟩
    rw [List.getElem?_append_right (by rw [w.n]; exact Nat.le_refl _), w.n, Nat.sub_self]; rfl
  · obtain ⟨p', la', lg', x', a', g', e1, w1, d1⟩ := w.all j (by omega)
    refine ⟨p', la', lg', x', a', g', ?_, (w1.same n.sm).put, d1⟩
    rw [List.getElem?_append_left (by rw [w.n]; omega)]
    exact e1
/-- what is due: the word, or the writing -/
inductive DueIs (b T B : Int) (H : Hp) : V → Prop
  | word : Long T B → DueIs b T B H (.str (wordOf 4))
  | wr {p la lg : Addr} {x : Int} {a g : List Int} : ¬ Long T B → RF.DivIs b (RF.low T B).1 (RF.low T B).2 x a g → H p = some (.tup [.int x, .ref la, .ref lg]) → H la = some (.lst (a.map V.int)) → H lg = some (.lst (g.map V.int)) → DueIs b T B H (.ref p)
theorem DueIs.same {b T B : Int} {H H' : Hp} {v : V} (d : DueIs b T B H v) (s : Same H H') : DueIs b T B H' v := by
  cases d with
  | word l => exact .word l
  | wr l d t a g => exact .wr l d (s _ _ t) (s _ _ a) (s _ _ g)
/-- asked again, the same is told -/
def Again (K : PySem.W.Frag) (b x : Int) (a g : List Int) (v : V) (n T B : Int) (H : Hp) : Prop := ∀ (H2 : Hp) (R2 : VK), Same H H2 → (∀ (w : Int) (a g : List Int) (p la lg : Addr) (H' : Hp), RF.DivIs b (RF.low T B).1 (RF.low T B).2 w a g → NewWr H2 H' p la lg w a g → R2 (.ref p) H') → Ask K b x a g v n H2 R2
end My

set_option Elab.async false
set_option maxRecDepth 100000
namespace My
open PySem L2
/-! refusals -/
def BaseOk (b : Int) : Prop := 2 ≤ b ∧ b ≤ 36
def FracOk (t q : Int) : Prop := 0 ≤ t ∧ t ≤ 1000000000000 ∧ 1 ≤ q ∧ q ≤ 2000
def BotOk (q : Int) : Prop := 1 ≤ q ∧ q ≤ 2000
def RingOk (b : Int) (g : List Int) : Prop := g.length ≤ 4000 ∧ RF.Figs b g
section
variable (K : PySem.W.Frag) (mg : Str → Option Value)
def spCheckBaseE : Sp := fun vs H Q E => spCheckBase vs H Q E ∨ ∃ b : Int, vs = [.int b] ∧ ¬ BaseOk b ∧ Raised K mg 0 E H
def spCheckBottomE : Sp := fun vs H Q E => spCheckBottom vs H Q E ∨ ∃ q : Int, vs = [.int q] ∧ ¬ BotOk q ∧ Raised K mg 1 E H
def spCheckFractionE : Sp := fun vs H Q E => spCheckFraction vs H Q E ∨ ∃ t q : Int, vs = [.int t, .int q] ∧ ¬ FracOk t q ∧ Raised K mg 1 E H
def spCheckFiguresE : Sp := fun vs H Q E => spCheckFigures K vs H Q E ∨ ∃ (b : Int) (l : Addr) (ns : List Int), vs = [.int b, .ref l] ∧ SqL K H l (ns.map V.int) ∧ ¬ RingOk b ns ∧ Raised K mg 2 E H
def spCheckWritingE : Sp := fun vs H Q E => spCheckWriting K vs H Q E ∨ ∃ (b : Int) (p la lg : Addr) (x : Int) (a g : List Int), vs = [.int b, .ref p] ∧ WrAt K H p la lg x a g ∧ ¬ GoodW b x a g ∧ Raised K mg 2 E H
/-- refused: the base, or what comes behind it -/
def Ref1 (b : Int) (ok : Prop) (j : Nat) (E : XK) (H : Hp) : Prop := (¬ BaseOk b ∧ Raised K mg 0 E H) ∨ (BaseOk b ∧ ¬ ok ∧ Raised K mg j E H)
def spWrittenE : Sp := fun vs H Q E => spDivided vs H Q E ∨ ∃ b t q : Int, vs = [.int b, .int t, .int q] ∧ Ref1 K mg b (FracOk t q) 1 E H
def spFigureAtE : Sp := fun vs H Q E => spFigureAt vs H Q E ∨ ∃ b t q n : Int, vs = [.int b, .int t, .int q, .int n] ∧ Ref1 K mg b (FracOk t q) 1 E H
def spLengthsE : Sp := fun vs H Q E => spLengths vs H Q E ∨ ∃ b q : Int, vs = [.int b, .int q] ∧ Ref1 K mg b (BotOk q) 1 E H
def spFoldsE : Sp := fun vs H Q E => spFolds K vs H Q E ∨ ∃ (b : Int) (l : Addr) (g : List Int), vs = [.int b, .ref l] ∧ SqL K H l (g.map V.int) ∧ Ref1 K mg b (RingOk b g) 2 E H
def RefW : Sp := fun vs H _ E => ∃ (b : Int) (p la lg : Addr) (x : Int) (a g : List Int), vs = [.int b, .ref p] ∧ WrAt K H p la lg x a g ∧ Ref1 K mg b (GoodW b x a g) 2 E H
def spWorthE : Sp := fun vs H Q E => spWorth K vs H Q E ∨ RefW K mg vs H Q E
def spPlainE : Sp := fun vs H Q E => spPlain K vs H Q E ∨ RefW K mg vs H Q E
def spIsPlainE : Sp := fun vs H Q E => spIsPlain K vs H Q E ∨ RefW K mg vs H Q E
def spShownE : Sp := fun vs H Q E => spShown K vs H Q E ∨ RefW K mg vs H Q E
def spAddedE : Sp := fun vs H Q E => spAdded K mg vs H Q E ∨ ∃ (b : Int) (p1 la1 lg1 : Addr) (x1 : Int) (a1 g1 : List Int) (p2 la2 lg2 : Addr) (x2 : Int) (a2 g2 : List Int), vs = [.int b, .ref p1, .ref p2] ∧ WrAt K H p1 la1 lg1 x1 a1 g1 ∧ WrAt K H p2 la2 lg2 x2 a2 g2 ∧
  (Ref1 K mg b (GoodW b x1 a1 g1) 2 E H ∨ (BaseOk b ∧ Reck b x1 a1 g1 ∧ ¬ GoodW b x2 a2 g2 ∧ Raised K mg 2 E H))
def spTimesE : Sp := fun vs H Q E => spTimes K mg vs H Q E ∨ ∃ (b : Int) (p la lg : Addr) (x : Int) (a g : List Int) (n : Int), vs = [.int b, .ref p, .int n] ∧ WrAt K H p la lg x a g ∧ Ref1 K mg b (GoodW b x a g) 2 E H
end
end My

set_option Elab.async false
set_option maxRecDepth 100000
namespace My
open PySem L2
/-! texts read, or refused -/
section
variable (K : PySem.W.Frag) (mg : Str → Option Value)
abbrev ivs (ds : List Nat) : List V := (RF.ig ds).map V.int
def spFigureReadE : Sp := fun vs H Q E => ∃ b c : Nat, vs = [.int (b : Int), .str ⟨#[c]⟩] ∧ b ≤ 36 ∧ (∀ d, RF.fg b c = some d → Q (.int (d : Int)) H) ∧ (RF.fg b c = none → Raised K mg 5 E H)
def spFiguresReadE : Sp := fun vs H Q E => ∃ (b : Nat) (l : List Nat), vs = [.int (b : Int), .str (txt l)] ∧ b ≤ 36 ∧ l.length ≤ 20000 ∧
  (∀ ds, RF.fgs b l = some ds → l.length ≤ 4000 → ∀ (D : Addr), H D = none → Q (.ref D) (upd H D (.lst (ivs ds)))) ∧ (RF.fgs b l = none ∨ 4000 < l.length → Raised K mg 5 E H)
def spRingReadE : Sp := fun vs H Q E => ∃ (b : Nat) (l : List Nat), vs = [.int (b : Int), .str (txt l)] ∧ b ≤ 36 ∧ l.length ≤ 20000 ∧
  (∀ ds, RF.rdR b l = some ds → ds.length ≤ 4000 → ∀ (D : Addr), H D = none → Q (.ref D) (upd H D (.lst (ivs ds)))) ∧ ((∀ ds, RF.rdR b l = some ds → 4000 < ds.length) → Raised K mg 5 E H)
def spWholeReadE : Sp := fun vs H Q E => ∃ (b : Nat) (l : List Nat), vs = [.int (b : Int), .str (txt l)] ∧ 2 ≤ b ∧ b ≤ 36 ∧ l.length ≤ 20000 ∧
  (∀ n, RF.rdW b l = some n → ∀ H', Same H H' → Q (.int n) H') ∧ (RF.rdW b l = none → Raised K mg 5 E H)
def spReadE : Sp := fun vs H Q E => ∃ (b : Int) (l : List Nat), vs = [.int b, .str (txt l)] ∧ l.length ≤ 20000 ∧ (¬ BaseOk b → Raised K mg 0 E H) ∧
  (BaseOk b → (RF.rd b.toNat l = none → Raised K mg 5 E H) ∧ ∀ n as gs, RF.rd b.toNat l = some (n, as, gs) → ∀ (p la lg : Addr) (H' : Hp), NewWr H H' p la lg n (RF.ig as) (RF.ig gs) → Q (.ref p) H')
def spTold15 : Sp := fun vs H Q _ => ∃ (b : Int) (l : List Nat), vs = [.int b, .str (txt l)] ∧ l.length ≤ 20000 ∧ (¬ BaseOk b → ∀ H', Same H H' → Q (.str (wordOf 0)) H') ∧
  (BaseOk b → (RF.rd b.toNat l = none → ∀ H', Same H H' → Q (.str (wordOf 5)) H') ∧ ∀ n as gs, RF.rd b.toNat l = some (n, as, gs) → ∀ (p la lg : Addr) (H' : Hp), NewWr H H' p la lg n (RF.ig as) (RF.ig gs) → Q (.ref p) H')
def spPlaces : Sp := fun vs H Q _ => ∃ (b : Nat) (l : List Nat), vs = [.int (b : Int), .str (txt l)] ∧ b ≤ 36 ∧ l.length ≤ 20000 ∧ (RF.fgs b l = none → ∀ H', Same H H' → Q .non H') ∧
  (∀ ds, RF.fgs b l = some ds → ∀ (D : Addr), H D = none → Q (.ref D) (upd H D (.lst (ivs ds))))
def spParted : Sp := fun vs H Q _ => ∃ l : List Nat, vs = [.str (txt l)] ∧ l.length ≤ 20000 ∧ (RF.ptd l = none → Q .non H) ∧
  (∀ w a g, RF.ptd l = some (w, a, g) → ∀ (D : Addr), H D = none → Q (.ref D) (upd H D (.lst [.str (txt w), .str (txt a), .str (txt g)])))
def spLawRead : Sp := fun vs H Q _ => ∃ (b : Nat) (l : List Nat), vs = [.int (b : Int), .str (txt l)] ∧ 2 ≤ b ∧ b ≤ 36 ∧ l.length ≤ 20000 ∧ (RF.lrd b l = none → ∀ H', Same H H' → Q .non H') ∧
  (∀ n as gs, RF.lrd b l = some (n, as, gs) → ∀ (p la lg : Addr) (H' : Hp), NewWr H H' p la lg n (RF.ig as) (RF.ig gs) → Q (.ref p) H')
def spDrawnT : Sp := fun vs H Q _ => ∃ (sc : Addr) (ns : List Int) (b : Int), vs = [.ref sc, .int b] ∧ SqL K H sc (ns.map V.int) ∧ BaseOk b ∧ ∀ (z : Str) (H' : Hp), z.length ≤ 100 → Same H H' → Q (.str z) H'
def spLawShown : Sp := fun vs H Q _ => ∃ b n : Int, vs = [.int b, .int n] ∧ BaseOk b ∧ 0 ≤ n ∧ n ≤ 1000000000001 ∧ ∀ z : Str, z.length ≤ 40 → Q (.str z) H
def spOdd : Sp := fun vs H Q _ => ∃ (sc : Addr) (ns : List Int) (b : Int) (z : Str), vs = [.ref sc, .int b, .str z] ∧ SqL K H sc (ns.map V.int) ∧ BaseOk b ∧ z.length ≤ 100 ∧ ∀ (y : Str) (H' : Hp), y.length ≤ 9000 → Same H H' → Q (.str y) H'
end
theorem find_none {c : Nat} (h : RF.fg 36 c = none) : PySem.Txt.find signsT ⟨#[c]⟩ = -1 := find_other fun d hd => RF.fg_none h d hd
theorem find_some {c d : Nat} (h : RF.fg 36 c = some d) : PySem.Txt.find signsT ⟨#[c]⟩ = (d : Int) := by
  obtain ⟨h1, rfl⟩ := RF.fg_some h
  exact find_sign h1
theorem fg_less {b c : Nat} (hb : b ≤ 36) (h : RF.fg 36 c = none) : RF.fg b c = none := by
  cases e : RF.fg b c with
  | none => rfl
  | some d =>
    obtain ⟨h1, h2⟩ := RF.fg_some e
    exact absurd h2 (RF.fg_none h d (by omega))
theorem fg_in {b c d : Nat} (hb : b ≤ 36) (h : RF.fg 36 c = some d) : RF.fg b c = if d < b then some d else none := by
  obtain ⟨h1, rfl⟩ := RF.fg_some h
  split
  · rename_i h2
    exact RF.fg_of hb h2
  · rename_i h2
    cases e : RF.fg b (RF.sgn d) with
    | none => rfl
    | some d' =>
      obtain ⟨h3, h4⟩ := RF.fg_some e
      have := RF.sgn_inj (by omega) h1 h4
      omega
theorem fgs_all {b : Nat} {l : List Nat} (h : ∀ i c : Nat, l[i]? = some c → RF.fg b c ≠ none) : ∃ ds, RF.fgs b l = some ds := by
  cases e : RF.fgs b l with
  | some ds => exact ⟨ds, rfl⟩
  | none =>
    obtain ⟨i, c, h1, h2, _⟩ := RF.fgs_none e
    exact absurd h2 (h i c h1)
theorem fgs_len {b : Nat} {l ds : List Nat} (h : RF.fgs b l = some ds) : ds.length = l.length := by
  obtain ⟨h1, _⟩ := RF.fgs_some h
  rw [h1, List.length_map]
theorem fgs_map {b : Nat} (hb : b ≤ 36) {l ds : List Nat} (h : RF.fgs b l = some ds) : (List.range l.length).map (fun i => V.int (((RF.fg b (l.getD i 0)).getD 0 : Nat) : Int)) = ivs ds := by
  obtain ⟨h1, h2⟩ := RF.fgs_some h
  apply List.ext_getElem
  · simp [RF.ig, fgs_len h]
  · intro i hi1 hi2
    have hi : i < ds.length := by simpa [RF.ig] using hi2
    have hx : l.getD i 0 = RF.sgn ds[i] := by
      rw [h1]
      simp [hi]
    simp only [List.getElem_map, List.getElem_range, hx, RF.fg_of hb (h2 _ (List.getElem_mem hi))]
    simp [RF.ig]
theorem fgs_snoc {b : Nat} (hb : b ≤ 36) {l ds : List Nat} {c d : Nat} (h : RF.fgs b l = some ds) (hd : RF.fg b c = some d) : RF.fgs b (l ++ [c]) = some (ds ++ [d]) := by
  obtain ⟨h1, h2⟩ := RF.fgs_some h
  obtain ⟨h3, h4⟩ := RF.fg_some hd
  have : l ++ [c] = (ds ++ [d]).map RF.sgn := by rw [List.map_append, ← h1, List.map_cons, List.map_nil, h4]
  rw [this]
  refine RF.fgs_of hb fun x hx => ?_
  rcases List.mem_append.mp hx with hx | hx
  · exact h2 x hx
  · have : x = d := by simpa using hx
    omega
theorem ivs_snoc (ds : List Nat) (d : Nat) : ivs (ds ++ [d]) = ivs ds ++ [V.int (d : Int)] := by simp [ivs, RF.ig]
theorem ptd_len {l w a g : List Nat} (h : RF.ptd l = some (w, a, g)) : w.length ≤ l.length ∧ a.length ≤ l.length ∧ g.length ≤ l.length := by
  have c1 : ∀ (c : Nat) (l : List Nat), (RF.cut c l).1.length ≤ l.length ∧ ∀ r, (RF.cut c l).2 = some r → r.length ≤ l.length := fun c l => by
    rcases RF.cut_ex c l with no | ⟨p, m, rfl, hp⟩
    · rw [RF.cut_no no]
      exact ⟨Nat.le_refl _, fun r e => by cases e⟩
    · rw [RF.cut_at hp]
      exact ⟨by simp, fun r e => by
        have := Option.some.inj e
        subst this
        simp
        omega⟩
  unfold RF.ptd at h
  have hw := (c1 46 l).1
  have hr := (c1 46 l).2
  cases e : (RF.cut 46 l).2 with
  | none =>
    rw [e] at h
    cases Option.some.inj h
    exact ⟨hw, by simp, by simp⟩
  | some r =>
    have hr := hr r e
    rw [e] at h
    dsimp only at h
    by_cases h1 : r = []
    · rw [if_pos h1] at h; cases h
    rw [if_neg h1] at h
    by_cases h2 : r.getLast? ≠ some 41
    · rw [if_pos h2] at h
      cases Option.some.inj h
      exact ⟨hw, hr, by simp⟩
    rw [if_neg h2] at h
    have hc := (c1 40 r).1
    have hs := (c1 40 r).2
    cases e2 : (RF.cut 40 r).2 with
    | none => rw [e2] at h; cases h
    | some r2 =>
      have hs := hs r2 e2
      rw [e2] at h
      dsimp only at h
      by_cases h3 : r2.length = 1
      · rw [if_pos h3] at h; cases h
      rw [if_neg h3] at h
      cases Option.some.inj h
      exact ⟨hw, by omega, by rw [List.length_dropLast]; omega⟩
/-- what is read of a part -/
def Row (b : Nat) (H1 : Hp) (D : Addr) (H : Hp) (p : List Nat) (y : V) : Prop :=
  (RF.fgs b p = none ∧ y = .non) ∨ ∃ (ds : List Nat) (a : Addr), RF.fgs b p = some ds ∧ y = .ref a ∧ H a = some (.lst (ivs ds)) ∧ H1 a = none ∧ a ≠ D
structure Rws (b : Nat) (H1 : Hp) (D : Addr) (ps : List (List Nat)) (i : Nat) (H : Hp) (ys : List V) : Prop where
  sm : Same H1 H
  d : H D = some (.lst ys)
  len : ys.length = i
  row : ∀ (j : Nat) (p : List Nat) (y : V), ps[j]? = some p → ys[j]? = some y → Row b H1 D H p y
  ne : ∀ (j k : Nat) (a : Addr), ys[j]? = some (.ref a) → ys[k]? = some (.ref a) → j = k
theorem Rws.more {b : Nat} {H1 H H4 : Hp} {D : Addr} {ps : List (List Nat)} {i : Nat} {ys : List V} {p : List Nat} {y : V} (w : Rws b H1 D ps i H ys) (hD : H1 D = none) (hi : ps[i]? = some p)
    (h : (RF.fgs b p = none ∧ y = .non ∧ Same H H4) ∨ ∃ (ds : List Nat) (a : Addr), RF.fgs b p = some ds ∧ y = .ref a ∧ H a = none ∧ H4 = upd H a (.lst (ivs ds))) :
    H4 D = some (.lst ys) ∧ Rws b H1 D ps (i + 1) (upd H4 D (.lst (ys ++ [y]))) (ys ++ [y]) := by
  have s4 : Same H H4 := by
    rcases h with ⟨_, _, s⟩ | ⟨ds, a, _, _, ha, rfl⟩
    · exact s
    · exact Same.upd ha
  have up : ∀ (a : Addr) o, H a = some o → a ≠ D → upd H4 D (.lst (ys ++ [y])) a = some o := fun a o e n => by
    rw [upd_ne n]; exact s4 _ _ e
  have old : ∀ (j : Nat) (a : Addr), j < i → ys[j]? = some (.ref a) → j < ps.length → ∃ o, H a = some o := fun j a hj e hp => by
    rcases w.row j ps[j] (.ref a) (List.getElem?_eq_getElem hp) e with ⟨_, z⟩ | ⟨ds, a', _, z, e2, _⟩
    · cases z
    · cases z; exact ⟨_, e2⟩
  have hip : i < ps.length := (List.getElem?_eq_some_iff.mp hi).1
  refine ⟨s4 _ _ w.d, fun a o e => ?_, upd_same, by rw [List.length_append, w.len]; rfl, fun j q z hj hz => ?_, fun j k a hj hk => ?_⟩
  · have n : a ≠ D := fun z => by rw [z, hD] at e; cases e
    exact up a o (w.sm _ _ e) n
  · by_cases hji : j < i
    · rw [List.getElem?_append_left (by rw [w.len]; exact hji)] at hz
      rcases w.row j q z hj hz with h1 | ⟨ds, a, h1, h2, h3, h5, h6⟩
      · exact .inl h1
      · exact .inr ⟨ds, a, h1, h2, up _ _ h3 h6, h5, h6⟩
    · rw [List.getElem?_append_right (by rw [w.len]; omega), w.len] at hz
      have e0 : j - i = 0 := by
        cases e : j - i with
        | zero => rfl
        | succ n => rw [e] at hz; simp at hz
      have e1 : j = i := by omega
      subst e1
      rw [e0] at hz
      have hz : y = z := Option.some.inj hz
      subst hz
      have hq : p = q := Option.some.inj (hi.symm.trans hj)
      subst hq
      rcases h with ⟨h1, h2, _⟩ | ⟨ds, a, h1, h2, ha, rfl⟩
      · exact .inl ⟨h1, h2⟩
      · have n : a ≠ D := fun z => by rw [z, w.d] at ha; cases ha
        refine .inr ⟨ds, a, h1, h2, by rw [upd_ne n]; exact upd_same, ?_, n⟩
        cases e : H1 a with
        | none => rfl
        | some o => rw [w.sm _ _ e] at ha; cases ha
  · have last : ∀ (j : Nat), ¬ j < i → (ys ++ [y])[j]? = some (.ref a) → j = i ∧ H a = none := fun j hn hj => by
      rw [List.getElem?_append_right (by rw [w.len]; omega), w.len] at hj
      have e0 : j - i = 0 := by
        cases e : j - i with
        | zero => rfl
        | succ n => rw [e] at hj; simp at hj
      rw [e0] at hj
      have hz : y = .ref a := Option.some.inj hj
      refine ⟨by omega, ?_⟩
      rcases h with ⟨_, h2, _⟩ | ⟨ds, a', _, h2, ha, _⟩
      · rw [h2] at hz; cases hz
      · rw [h2] at hz; cases hz; exact ha
    have left : ∀ (j : Nat), j < i → (ys ++ [y])[j]? = some (.ref a) → ys[j]? = some (.ref a) := fun j hn hj => by
      rw [List.getElem?_append_left (by rw [w.len]; exact hn)] at hj
      exact hj
    by_cases h1 : j < i
    · by_cases h2 : k < i
      · exact w.ne j k a (left j h1 hj) (left k h2 hk)
      · obtain ⟨o, e⟩ := old j a h1 (left j h1 hj) (by omega)
        rw [(last k h2 hk).2] at e; cases e
    · by_cases h2 : k < i
      · obtain ⟨o, e⟩ := old k a h2 (left k h2 hk) (by omega)
        rw [(last j h1 hj).2] at e; cases e
      · rw [(last j h1 hj).1, (last k h2 hk).1]
theorem Rws.all {K : PySem.W.Frag} {b : Nat} {H1 H : Hp} {D : Addr} {p0 p1 p2 : List Nat} {ys : List V} (w : Rws b H1 D [p0, p1, p2] 3 H ys) : ∀ y ∈ ys, y = .non ∨ ∃ l zs, y = .ref l ∧ SqL K H l zs := fun y hy => by
  obtain ⟨j, hj⟩ := List.mem_iff_getElem?.mp hy
  have hl : j < 3 := by rw [← w.len]; exact (List.getElem?_eq_some_iff.mp hj).1
  rcases w.row j ([p0, p1, p2][j]) y (List.getElem?_eq_getElem hl) hj with ⟨_, z⟩ | ⟨ds, a, _, z, h, _⟩
  · exact .inl z
  · exact .inr ⟨a, _, z, SqL.of h⟩
theorem Rws.three {b : Nat} {H1 H : Hp} {D : Addr} {p0 p1 p2 : List Nat} {ys : List V} (w : Rws b H1 D [p0, p1, p2] 3 H ys) :
    ((RF.fgs b p0 = none ∨ RF.fgs b p1 = none ∨ RF.fgs b p2 = none) ∧ (ys.any fun y => decide (y = .non)) = true) ∨
    ∃ (d0 d1 d2 : List Nat) (a0 a1 a2 : Addr), ys = [.ref a0, .ref a1, .ref a2] ∧ RF.fgs b p0 = some d0 ∧ RF.fgs b p1 = some d1 ∧ RF.fgs b p2 = some d2 ∧ H a0 = some (.lst (ivs d0)) ∧ H a1 = some (.lst (ivs d1)) ∧ H a2 = some (.lst (ivs d2)) ∧ H1 a1 = none ∧ H1 a2 = none ∧ a1 ≠ a2 := by
  obtain ⟨y0, y1, y2, rfl⟩ : ∃ y0 y1 y2, ys = [y0, y1, y2] := by
    have := w.len
    match ys, this with
    | [y0, y1, y2], _ => exact ⟨y0, y1, y2, rfl⟩
  have yes : ∀ (y : V), y ∈ [y0, y1, y2] → y = .non → ([y0, y1, y2].any fun y => decide (y = .non)) = true := fun y hy e => List.any_eq_true.mpr ⟨y, hy, by rw [e]; rfl⟩
  rcases w.row 0 p0 y0 rfl rfl with ⟨h, e⟩ | ⟨d0, a0, e0, rfl, h0, n0, _⟩
  · exact .inl ⟨.inl h, yes y0 (by simp) e⟩
  rcases w.row 1 p1 y1 rfl rfl with ⟨h, e⟩ | ⟨d1, a1, e1, rfl, h1, n1, _⟩
  · exact .inl ⟨.inr (.inl h), yes y1 (by simp) e⟩
  rcases w.row 2 p2 y2 rfl rfl with ⟨h, e⟩ | ⟨d2, a2, e2, rfl, h2, n2, _⟩
  · exact .inl ⟨.inr (.inr h), yes y2 (by simp) e⟩
  refine .inr ⟨d0, d1, d2, a0, a1, a2, rfl, e0, e1, e2, h0, h1, h2, n1, n2, fun z => ?_⟩
  subst z
  have := w.ne 1 2 a1 rfl rfl
  omega
theorem txt_of (z : Str) : z = txt z.cps.toList := by cases z; simp
/-- texts in a list -/
def Tx (N : Nat) (v : V) : Prop := ∃ z : Str, v = .str z ∧ z.length ≤ N
theorem tx_at {N n : Nat} {xs : List V} (h : ∀ v ∈ xs, Tx N v) (hn : xs.length = n) {i : Int} (h0 : 0 ≤ i) (h1 : i < n) : ∃ z : Str, atI xs i = some (.str z) ∧ z.length ≤ N := by
  obtain ⟨j, rfl⟩ : ∃ j : Nat, i = (j : Int) := ⟨i.toNat, by omega⟩
  have hj : j < xs.length := by omega
  obtain ⟨z, e, hz⟩ := h xs[j] (List.getElem_mem hj)
  exact ⟨z, by rw [atI_nat (List.getElem?_eq_getElem hj), e], hz⟩
theorem tx_nil {N : Nat} : ∀ v ∈ ([] : List V), Tx N v := fun v hv => by cases hv
theorem tx_cons {N : Nat} {z : Str} {xs : List V} (hz : z.length ≤ N) (h : ∀ v ∈ xs, Tx N v) : ∀ v ∈ V.str z :: xs, Tx N v := fun v hv => by
  rcases List.mem_cons.mp hv with rfl | hv
  · exact ⟨z, rfl, hz⟩
  · exact h v hv
theorem tx_app {N : Nat} {xs ys : List V} (h1 : ∀ v ∈ xs, Tx N v) (h2 : ∀ v ∈ ys, Tx N v) : ∀ v ∈ xs ++ ys, Tx N v := fun v hv => by
  rcases List.mem_append.mp hv with hv | hv
  · exact h1 v hv
  · exact h2 v hv
theorem bad_at {far j : Int} (h : 0 ≤ far) (h0 : 0 ≤ j) (h1 : j < 4) : ∃ bb : Int, atI [V.int 1, .int 37, .int (1 - far), .int (37 + far)] j = some (.int bb) ∧ ¬ BaseOk bb := by
  obtain ⟨i, rfl⟩ : ∃ i : Nat, j = (i : Int) := ⟨j.toNat, by omega⟩
  match i, h1 with
  | 0, _ => exact ⟨1, rfl, fun z => by have := z.1; omega⟩
  | 1, _ => exact ⟨37, rfl, fun z => by have := z.2; omega⟩
  | 2, _ => exact ⟨1 - far, rfl, fun z => by have := z.1; omega⟩
  | 3, _ => exact ⟨37 + far, rfl, fun z => by have := z.2; omega⟩
/-- a list of texts, laid by the def -/
structure Lst (H : Hp) (N n : Nat) (l : Addr) (H' : Hp) : Prop where
  sm : Same H H'
  ex : ∃ L : List V, H' l = some (.lst L) ∧ L.length = n ∧ ∀ v ∈ L, Tx N v
theorem Lst.mk0 {H H1 : Hp} {N n : Nat} {l : Addr} {L : List V} (s : Same H H1) (h : H1 l = none) (e : L.length = n) (x : ∀ v ∈ L, Tx N v) : Lst H N n l (upd H1 l (.lst L)) := ⟨s.trans (Same.upd h), L, upd_same, e, x⟩
theorem str_len (x y : Str) : (x ++ y).length = x.length + y.length := by
  show (x.cps ++ y.cps).size = _
  rw [Array.size_append]; rfl
theorem add_ok {x y : Str} {a b : Nat} (hx : x.length ≤ a) (hy : y.length ≤ b) (h : a + b ≤ 20000) : x.length + y.length ≤ sizeLine := small_text (by omega)
theorem add_le {x y : Str} {a b : Nat} (hx : x.length ≤ a) (hy : y.length ≤ b) : (x ++ y).length ≤ a + b := by rw [str_len]; omega
theorem mul_len (z : Str) {n : Int} (h : 0 ≤ n) : (PySem.Txt.mul z n).length = z.length * n.toNat := by
  have := PyProof.Rows.len_mul z n
  rw [if_neg (by simpa using h)] at this
  have e : ((z.length * n.toNat : Nat) : Int) = (z.length : Int) * n := by
    rw [Int.natCast_mul, Int.toNat_of_nonneg h]
  omega
end My

set_option maxHeartbeats 4000000

/-! the law's own part: the text by places -/
namespace My
open PySem L2
def top (i : Nat) : Stmt := PySem.Challenge.pw_ringfigures_k15_read_or_refused.main.body.getD i (.Pass ⟨0, 0, 0, 0⟩)
abbrev s_check_base : Stmt := top 13
abbrev s_number_of : Stmt := top 15
abbrev s_read : Stmt := top 18
abbrev s_whole_read : Stmt := top 19
abbrev s_ring_read : Stmt := top 20
abbrev s_figures_read : Stmt := top 21
abbrev s_figure_read : Stmt := top 22
abbrev s_law_cell_at : Stmt := top 24
abbrev s_law_draw : Stmt := top 25
abbrev s_law_whole : Stmt := top 26
abbrev s_law_is_writing : Stmt := top 27
abbrev s_law_word_of : Stmt := top 28
abbrev s_law_number : Stmt := top 29
abbrev s_law_places : Stmt := top 30
abbrev s_law_parted : Stmt := top 31
abbrev s_law_read : Stmt := top 32
abbrev s_law_told : Stmt := top 33
abbrev s_law_drawn : Stmt := top 34
abbrev s_law_shown : Stmt := top 35
abbrev s_law_odd : Stmt := top 36
abbrev s_law : Stmt := top 37
structure Txt (K : PySem.W.Frag) (mg : Str → Option Value) : Prop where
  d_check_base : IsDef K mg "check_base" s_check_base ["base"]
  d_number_of : IsDef K mg "number_of" s_number_of ["base", "figures"]
  d_read : IsDef K mg "read" s_read ["base", "text"]
  d_whole_read : IsDef K mg "whole_read" s_whole_read ["base", "text"]
  d_ring_read : IsDef K mg "ring_read" s_ring_read ["base", "text"]
  d_figures_read : IsDef K mg "figures_read" s_figures_read ["base", "text"]
  d_figure_read : IsDef K mg "figure_read" s_figure_read ["base", "sign"]
  d_law_cell_at : IsDef K mg "_law_cell_at" s_law_cell_at ["script", "k"]
  d_law_draw : IsDef K mg "_law_draw" s_law_draw ["cell", "k", "bound"]
  d_law_whole : IsDef K mg "_law_whole" s_law_whole ["found"]
  d_law_is_writing : IsDef K mg "_law_is_writing" s_law_is_writing ["found", "due"]
  d_law_word_of : IsDef K mg "_law_word_of" s_law_word_of ["e"]
  d_law_number : IsDef K mg "_law_number" s_law_number ["base", "figures"]
  d_law_places : IsDef K mg "_law_places" s_law_places ["base", "text"]
  d_law_parted : IsDef K mg "_law_parted" s_law_parted ["text"]
  d_law_read : IsDef K mg "_law_read" s_law_read ["base", "text"]
  d_law_told : IsDef K mg "_law_told" s_law_told ["base", "text"]
  d_law_drawn : IsDef K mg "_law_drawn" s_law_drawn ["script", "base"]
  d_law_shown : IsDef K mg "_law_shown" s_law_shown ["base", "number"]
  d_law_odd : IsDef K mg "_law_odd" s_law_odd ["script", "base", "text"]
  d_law : IsDef K mg "law" s_law ["script"]
  i_GREATEST_BASE : IsInt mg "GREATEST_BASE" 36
  i_GREATEST_WHOLE : IsInt mg "GREATEST_WHOLE" 1000000000000
  i_LEAST_BASE : IsInt mg "LEAST_BASE" 2
  i_MOST_FIGURES : IsInt mg "MOST_FIGURES" 4000
  s_SIGNS : IsStr mg "SIGNS" "0123456789abcdefghijklmnopqrstuvwxyz"
  b_ValueError : mg "ValueError" = none
  b_bool : mg "bool" = none
  b_int : mg "int" = none
  b_isinstance : mg "isinstance" = none
  b_len : mg "len" = none
  b_list : mg "list" = none
  b_range : mg "range" = none
  b_tuple : mg "tuple" = none
  x_all : ∃ F c0 c1 c2 c3 c4 c5, Exs mg F c0 c1 c2 c3 c4 c5 ∧ IsExc K mg "FigureError" F
  x_NoBase : ∃ C, IsExc K mg "NoBase" C ∧ Ref K mg 0 C
  x_NoNote : ∃ C, IsExc K mg "NoNote" C ∧ Ref K mg 5 C
theorem sc_check_base : FnScope ["base"] ["base"] (defScope s_check_base) := ⟨rfl, rfl, rfl, by decide +kernel, rfl, by decide +kernel, by decide +kernel⟩
theorem sc_number_of : FnScope ["base", "figures", "number", "figure"] ["base", "figures"] (defScope s_number_of) := ⟨rfl, rfl, rfl, by decide +kernel, rfl, by decide +kernel, by decide +kernel⟩
theorem sc_read : FnScope ["base", "text", "parts", "whole", "behind", "ahead"] ["base", "text"] (defScope s_read) := ⟨rfl, rfl, rfl, by decide +kernel, rfl, by decide +kernel, by decide +kernel⟩
theorem sc_whole_read : FnScope ["base", "text", "whole"] ["base", "text"] (defScope s_whole_read) := ⟨rfl, rfl, rfl, by decide +kernel, rfl, by decide +kernel, by decide +kernel⟩
theorem sc_ring_read : FnScope ["base", "text"] ["base", "text"] (defScope s_ring_read) := ⟨rfl, rfl, rfl, by decide +kernel, rfl, by decide +kernel, by decide +kernel⟩
theorem sc_figures_read : FnScope ["base", "text"] ["base", "text"] (defScope s_figures_read) := ⟨rfl, rfl, rfl, by decide +kernel, rfl, by decide +kernel, by decide +kernel⟩
theorem sc_figure_read : FnScope ["base", "sign", "figure"] ["base", "sign"] (defScope s_figure_read) := ⟨rfl, rfl, rfl, by decide +kernel, rfl, by decide +kernel, by decide +kernel⟩
theorem sc_law_cell_at : FnScope ["script", "k"] ["script", "k"] (defScope s_law_cell_at) := ⟨rfl, rfl, rfl, by decide +kernel, rfl, by decide +kernel, by decide +kernel⟩
theorem sc_law_draw : FnScope ["cell", "k", "bound", "stir"] ["cell", "k", "bound"] (defScope s_law_draw) := ⟨rfl, rfl, rfl, by decide +kernel, rfl, by decide +kernel, by decide +kernel⟩
theorem sc_law_whole : FnScope ["found"] ["found"] (defScope s_law_whole) := ⟨rfl, rfl, rfl, by decide +kernel, rfl, by decide +kernel, by decide +kernel⟩
theorem sc_law_is_writing : FnScope ["found", "due", "side", "figure"] ["found", "due"] (defScope s_law_is_writing) := ⟨rfl, rfl, rfl, by decide +kernel, rfl, by decide +kernel, by decide +kernel⟩
theorem sc_law_word_of : FnScope ["e", "kinds"] ["e"] (defScope s_law_word_of) := ⟨rfl, rfl, rfl, by decide +kernel, rfl, by decide +kernel, by decide +kernel⟩
theorem sc_law_number : FnScope ["base", "figures", "number", "figure"] ["base", "figures"] (defScope s_law_number) := ⟨rfl, rfl, rfl, by decide +kernel, rfl, by decide +kernel, by decide +kernel⟩
theorem sc_law_places : FnScope ["base", "text", "found", "sign", "place"] ["base", "text"] (defScope s_law_places) := ⟨rfl, rfl, rfl, by decide +kernel, rfl, by decide +kernel, by decide +kernel⟩
theorem sc_law_parted : FnScope ["text", "at", "behind", "start"] ["text"] (defScope s_law_parted) := ⟨rfl, rfl, rfl, by decide +kernel, rfl, by decide +kernel, by decide +kernel⟩
theorem sc_law_read : FnScope ["base", "text", "parts", "rows"] ["base", "text"] (defScope s_law_read) := ⟨rfl, rfl, rfl, by decide +kernel, rfl, by decide +kernel, by decide +kernel⟩
theorem sc_law_told : FnScope ["base", "text", "e"] ["base", "text"] (defScope s_law_told) := ⟨rfl, rfl, rfl, by decide +kernel, rfl, by decide +kernel, by decide +kernel⟩
theorem sc_law_drawn : FnScope ["script", "base", "signs", "parts", "k", "cell", "way", "whole", "some"] ["script", "base"] (defScope s_law_drawn) := ⟨rfl, rfl, rfl, by decide +kernel, rfl, by decide +kernel, by decide +kernel⟩
theorem sc_law_shown : FnScope ["base", "number", "text"] ["base", "number"] (defScope s_law_shown) := ⟨rfl, rfl, rfl, by decide +kernel, rfl, by decide +kernel, by decide +kernel⟩
theorem sc_law_odd : FnScope ["script", "base", "text", "signs", "some", "sign", "at", "way", "odd"] ["script", "base", "text"] (defScope s_law_odd) := ⟨rfl, rfl, rfl, by decide +kernel, rfl, by decide +kernel, by decide +kernel⟩
theorem sc_law : FnScope ["script", "base", "text", "far", "due", "found"] ["script"] (defScope s_law) := ⟨rfl, rfl, rfl, by decide +kernel, rfl, by decide +kernel, by decide +kernel⟩
seal L2.PE L2.PT L2.PW L2.PA L2.PS L2.PSs L2.PI L2.PG
section
variable {P : Program} {w : World} {K : PySem.W.Frag} {mg : Str → Option Value} {base : Heap}
theorem gotE_check_base (T : Txt K mg) : GotE P w K mg base "check_base" 1 ["base"] (spCheckBaseE K mg) := by
  obtain ⟨C_NoBase, X_NoBase, R_NoBase⟩ := T.x_NoBase
  refine T.d_check_base.gotE sc_check_base (fun vs H Q E h => ?_) (fun f cdv A outer s H vs Q E hr h => ?_)
  · rcases h with h | h
    · obtain ⟨b, rfl, _⟩ := h; rfl
    · obtain ⟨b, rfl, _⟩ := h; rfl
  · refine ⟨_, (pss_one (ps_if (PW.pt (pw_or (pt_cmpR op_lt (pv 0) (pe_globI T.i_LEAST_BASE rfl) (nomark _)) (pw_or1 (pt_cmpR op_gt (pv 0) (pe_globI T.i_GREATEST_BASE rfl) (nomark _))))) (pss_one (ps_raise X_NoBase rfl (pa_k pe_str pa_nil))) pss_nil)), ?_⟩
    rcases h with h | h
    · obtain ⟨b, rfl, h2, h36, k⟩ := h
      refine ⟨_, rfl, _, _, rfl, rfl, _, rfl, iteDF (by omega) ?_⟩
      refine ⟨_, rfl, _, _, rfl, rfl, _, rfl, iteDF (by omega) ?_⟩
      exact k
    · obtain ⟨b, rfl, nb, r⟩ := h
      refine ⟨_, rfl, _, _, rfl, rfl, _, rfl, ite2D (fun h0 => ?_) (fun h0 => ?_)⟩
      · exact iteT ⟨(show 1 ≤ sizeLine by decide), r _ _ R_NoBase (Same.refl H)⟩
      refine ⟨_, rfl, _, _, rfl, rfl, _, rfl, ite2D (fun h1 => ?_) (fun h1 => ?_)⟩
      · exact ⟨(show 1 ≤ sizeLine by decide), r _ _ R_NoBase (Same.refl H)⟩
      · exact absurd ⟨by omega, by omega⟩ nb
theorem got_number_of (T : Txt K mg) : Got P w K mg base "number_of" 1 ["base", "figures"] (spNumberOf K) := by
  refine T.d_number_of.got sc_number_of (fun vs H Q E h => ?_) (fun f cdv A outer s H vs Q E hr h => ?_)
  · obtain ⟨b, l, ns, rfl, _⟩ := h; rfl
  · obtain ⟨b, l, ns, rfl, hS, b2, b36, k⟩ := h
    refine ⟨_, (pss_cons (ps_set (i := 2) sc_number_of.nd rfl (Or.inl rfl) pe_int)
      (pss_cons (ps_for PassesOwn.never rfl (pi_list (pv 1)) (pg_name (i := 3) sc_number_of.nd rfl (Or.inl rfl)) (pss_one (ps_set (i := 2) sc_number_of.nd rfl (Or.inl rfl) (pe_op op_add (pe_op op_mul (pv 2) (pv 0)) (pv 3)))))
      (pss_one (ps_ret (pv 2))))), ?_⟩
    refine ⟨_, rfl, l, rfl, ⟨_, hS⟩, for_list (K := K) (a := l) (xs := ns.map V.int) (fun i σ H2 => ∃ v, σ = [some (.int b), some (.ref l), some (.int (RF.num b (ns.take i))), v] ∧ H2 = H) ⟨_, rfl, rfl⟩ (fun i σ H2 _ ⟨_, _, e⟩ => by rw [e]; exact hS) ?_ ?_⟩
    · rintro i y σ H2 hi ⟨v, rfl, rfl⟩
      obtain ⟨n, rfl, hn⟩ := mem_int hi
      refine ⟨_, rfl, _, rfl, _, _, rfl, rfl, .inr ⟨by omega, by omega⟩, _, rfl, _, _, rfl, rfl, ?_⟩
      exact ⟨_, by rw [RF.num_take_succ hn]; rfl, rfl⟩
    · rintro σ H2 ⟨v, rfl, rfl⟩
      refine ⟨_, rfl, ?_⟩
      rw [List.length_map, List.take_length]
      exact k
theorem gotE_figure_read (T : Txt K mg) : GotE P w K mg base "figure_read" 1 ["base", "sign"] (spFigureReadE K mg) := by
  obtain ⟨C_NoNote, X_NoNote, R_NoNote⟩ := T.x_NoNote
  refine T.d_figure_read.gotE sc_figure_read (fun vs H Q E h => ?_) (fun f cdv A outer s H vs Q E hr h => ?_)
  · obtain ⟨b, c, rfl, _⟩ := h; rfl
  · obtain ⟨b, c, rfl, b36, k, r⟩ := h
    refine ⟨_, (pss_cons (ps_set (i := 2) sc_figure_read.nd rfl (Or.inl rfl) (pe_bm PySem.F.plainAttrs_str PySem.F.slot_str_find PySem.F.type_str_find mt_find (pe_globS T.s_SIGNS rfl) (pa_n (pv 1) pa_nil)))
      (pss_cons (ps_if (PW.pt (pw_or (pt_cmpR op_lt (pv 2) pe_int (nomark _)) (pw_or1 (pt_cmpR op_ge (pv 2) (pv 0) (nomark _))))) (pss_one (ps_raise X_NoNote rfl (pa_k pe_str pa_nil))) pss_nil)
      (pss_one (ps_ret (pv 2))))), ?_⟩
    refine ⟨rfl, _, rfl, _, _, rfl, rfl, ?_⟩
    cases e : RF.fg 36 c with
    | none =>
      rw [find_none e]
      exact ⟨_, rfl, _, _, rfl, rfl, _, rfl, iteDT (by decide) (iteT ⟨(show 1 ≤ sizeLine by decide), r (fg_less b36 e) _ _ R_NoNote (Same.refl H)⟩)⟩
    | some d =>
      rw [find_some e]
      refine ⟨_, rfl, _, _, rfl, rfl, _, rfl, iteDF (by omega) ?_⟩
      have q := fg_in b36 e
      refine ⟨_, rfl, _, rfl, _, _, rfl, rfl, _, rfl, ite2D (fun h1 => ?_) (fun h1 => ?_)⟩
      · rw [if_neg (by omega)] at q
        exact ⟨(show 1 ≤ sizeLine by decide), r q _ _ R_NoNote (Same.refl H)⟩
      · rw [if_pos (by omega)] at q
        exact ⟨_, rfl, k _ q⟩
theorem gotE_figures_read (T : Txt K mg) : GotE P w K mg base "figures_read" 2 ["base", "text"] (spFiguresReadE K mg) := by
  obtain ⟨C_NoNote, X_NoNote, R_NoNote⟩ := T.x_NoNote
  refine T.d_figures_read.gotE sc_figures_read (fun vs H Q E h => ?_) (fun f cdv A outer s H vs Q E hr h => ?_)
  · obtain ⟨b, l, rfl, _⟩ := h; rfl
  · obtain ⟨b, l, rfl, b36, hl, k, r⟩ := h
    have tl := txt_len l
    refine ⟨_, (pss_cons (ps_if (pt_cmpR op_gt (pe_callB call_len_str rfl T.b_len PySem.boot_len (pa_n (pv 1) pa_nil)) (pe_globI T.i_MOST_FIGURES rfl) (nomark _)) (pss_one (ps_raise X_NoNote rfl (pa_k pe_str pa_nil))) pss_nil)
      (pss_one (ps_ret (pe_compE [("base", 0)] rfl rfl rfl (fun _ _ h => h) rfl (pi_str (pv 1)) ⟨rfl, by decide +kernel, by decide +kernel, rfl, rfl, rfl, ⟨⟨rfl, Or.inr (Or.inl rfl), Or.inl rfl, Or.inl rfl, rfl⟩, True.intro⟩, by decide +kernel⟩ (fun _ _ _ _ _ hp => (pe_callP (gotE_figure_read T) hp (hr.mono (by decide)) rfl (pa_n (pv 1) (pa_n (pv 0) pa_nil)))))))), ?_⟩
    refine ⟨_, rfl, _, rfl, small_text (by rw [tl]; omega), _, _, rfl, rfl, _, rfl, ite2D (fun h1 => ?_) (fun h1 => ?_)⟩
    · exact ⟨(show 1 ≤ sizeLine by decide), r (.inr (by rw [tl] at h1; omega)) _ _ R_NoNote (Same.refl H)⟩
    refine ⟨_, rfl, _, rfl, fun D hD => ?_⟩
    refine comp_strE (z := txt l) (fun i => V.int (((RF.fg b (l.getD i 0)).getD 0 : Nat) : Int)) (fun i => RF.fg b (l.getD i 0) ≠ none) (small_text (by rw [tl]; omega)) hD (fun i c H2 hc s2 R hR => ?_) (fun ok => ?_)
    · have hc : l[i]? = some c := by simpa using hc
      have e : l.getD i 0 = c := by rw [List.getD_eq_getElem?_getD, hc]; rfl
      rw [e] at hR
      refine ⟨_, rfl, _, rfl, b, c, rfl, b36, fun d hd => ?_, fun hn => ?_⟩
      · rw [hd] at hR
        exact hR (by intro z; cases z)
      · exact (r (.inl (RF.fgs_bad (List.mem_of_getElem? hc) hn))).up s2
    · rw [tl] at ok ⊢
      obtain ⟨ds, e⟩ := fgs_all (b := b) (l := l) fun i c hc hn => by
        have hi : i < l.length := (List.getElem?_eq_some_iff.mp hc).1
        refine ok i hi ?_
        rw [List.getD_eq_getElem?_getD, hc]
        exact hn
      rw [fgs_map b36 e]
      exact k ds e (by rw [tl] at h1; omega) D hD
theorem gotE_whole_read (T : Txt K mg) : GotE P w K mg base "whole_read" 3 ["base", "text"] (spWholeReadE K mg) := by
  obtain ⟨C_NoNote, X_NoNote, R_NoNote⟩ := T.x_NoNote
  refine T.d_whole_read.gotE sc_whole_read (fun vs H Q E h => ?_) (fun f cdv A outer s H vs Q E hr h => ?_)
  · obtain ⟨b, l, rfl, _⟩ := h; rfl
  · obtain ⟨b, l, rfl, b2, b36, hl, k, r⟩ := h
    have s48 : ∀ d : Nat, d < 36 → RF.sgn d = 48 → d = 0 := fun d hd e => RF.sgn_inj hd (by decide) (e.trans (by decide))
    refine ⟨_, (pss_mid (ps_if (pt_cmpR op_eq (pv 1) pe_str (nomark _)) (pss_one (ps_raise X_NoNote rfl (pa_k pe_str pa_nil))) pss_nil)
      (pss_mid (ps_if (PW.pt (pw_and (pt_cmpR op_eq (pe_ix ix_str (pv 1) pe_int px_k) pe_str (nomark _)) (pw_and1 (pt_cmpR op_ne (pv 1) pe_str (nomark _))))) (pss_one (ps_raise X_NoNote rfl (pa_k pe_str pa_nil))) pss_nil)
      (pss_cons (ps_set (i := 2) sc_whole_read.nd rfl (Or.inl rfl) (pe_callG (got_number_of T) (hr.mono (by decide)) rfl (pa_n (pv 0) (pa_c (pe_callE (gotE_figures_read T) (hr.mono (by decide)) rfl (pa_n (pv 0) (pa_n (pv 1) pa_nil))) pa_nil))))
      (pss_mid (ps_if (pt_cmpR op_gt (pv 2) (pe_globI T.i_GREATEST_WHOLE rfl) (nomark _)) (pss_one (ps_raise X_NoNote rfl (pa_k pe_str pa_nil))) pss_nil)
      (pss_one (ps_ret (pv 2))))))), ?_⟩
    refine ⟨fun σ' H' => σ' = [some (.int (b : Int)), some (.str (txt l)), none] ∧ H' = H ∧ l ≠ [], ⟨_, rfl, rfl, _, rfl, ite2D (fun h0 => ?_) (fun h0 => ⟨rfl, rfl, fun z => h0 (by rw [z]; rfl)⟩)⟩, ?_⟩
    · have h0 : l = [] := txt_inj (V.str.inj h0)
      subst h0
      exact ⟨(show 1 ≤ sizeLine by decide), r rfl _ _ R_NoNote (Same.refl H)⟩
    rintro σ' H' ⟨rfl, rfl, ne⟩
    obtain ⟨c, l', rfl⟩ : ∃ c l', l = c :: l' := by
      cases l with
      | nil => exact absurd rfl ne
      | cons c l' => exact ⟨c, l', rfl⟩
    have tl := txt_len (c :: l')
    have hat : atI (txt (c :: l')).cps.toList 0 = some c := atI_nat (j := 0) rfl
    refine ⟨fun σ' H2 => σ' = [some (.int (b : Int)), some (.str (txt (c :: l'))), none] ∧ H2 = H' ∧ (c = 48 → l' = []), ?_, ?_⟩
    · refine ⟨_, rfl, _, _, _, rfl, rfl, small_text (by rw [tl]; omega), hat, rfl, _, rfl, ite2D (fun h0 => ?_) (fun h0 => iteF ⟨rfl, rfl, fun z => absurd (by rw [z]; rfl) h0⟩)⟩
      have h0 : c = 48 := by
        have : [c] = [48] := txt_inj (l := [c]) (m := [48]) (V.str.inj h0)
        simpa using this
      subst h0
      refine ⟨_, rfl, rfl, _, rfl, ite2N (fun h1 => ?_) (fun h1 => ?_)⟩
      · have h1 : l' ≠ [] := fun z => h1 (by rw [z]; rfl)
        refine ⟨(show 1 ≤ sizeLine by decide), r ?_ _ _ R_NoNote (Same.refl H')⟩
        unfold RF.rdW
        cases e : RF.fgs b (48 :: l') with
        | none => rfl
        | some ds =>
          dsimp only
          rw [if_neg]
          rintro ⟨_, z, _⟩
          obtain ⟨e1, e2⟩ := RF.fgs_some e
          cases ds with
          | nil => cases e1
          | cons d ds =>
            rw [List.map_cons] at e1
            have d0 := s48 d (by have := e2 d List.mem_cons_self; omega) (List.cons.inj e1).1.symm
            refine z ⟨?_, by rw [d0]; rfl⟩
            have := congrArg List.length (List.cons.inj e1).2
            rw [List.length_map] at this
            have := List.length_pos_iff.mpr h1
            rw [List.length_cons]
            omega
      · exact ⟨rfl, rfl, fun _ => by
          have : 48 :: l' = [48] := txt_inj (V.str.inj h1)
          simpa using this⟩
    rintro σ' H2 ⟨rfl, rfl, hc⟩
    refine ⟨_, rfl, _, rfl, _, rfl, b, c :: l', rfl, b36, hl, fun ds e h4 D hD => ?_, fun z => r ?_⟩
    · refine ⟨(b : Int), D, RF.ig ds, rfl, SqL.of upd_same, by omega, by omega, ?_⟩
      have e0 : RF.rdW b (c :: l') = if RF.wOk b ds then some (RF.num (b : Int) (RF.ig ds)) else none := by
        unfold RF.rdW
        rw [e]
      obtain ⟨e1, e2⟩ := RF.fgs_some e
      have hds : ds ≠ [] := fun z => by rw [z] at e1; cases e1
      have hno : ¬ (1 < ds.length ∧ ds.head? = some 0) := fun ⟨z1, z2⟩ => by
        cases ds with
        | nil => exact hds rfl
        | cons d ds =>
          have d0 : d = 0 := by simpa using z2
          rw [List.map_cons] at e1
          have hl' := hc (by rw [(List.cons.inj e1).1, d0]; decide)
          have := congrArg List.length (List.cons.inj e1).2
          rw [hl', List.length_map] at this
          rw [List.length_cons] at z1
          simp at this
          omega
      refine ⟨fun σ' H3 => σ' = [some (.int (b : Int)), some (.str (txt (c :: l'))), some (.int (RF.num (b : Int) (RF.ig ds)))] ∧ Same H2 H3 ∧ RF.rdW b (c :: l') = some (RF.num (b : Int) (RF.ig ds)), ⟨_, rfl, _, _, rfl, rfl, _, rfl, ite2D (fun h1 => ?_) (fun h1 => ⟨rfl, Same.upd hD, ?_⟩)⟩, ?_⟩
      · rw [if_neg (fun z => by have := z.2.2; omega)] at e0
        exact ⟨(show 1 ≤ sizeLine by decide), r e0 _ _ R_NoNote (Same.upd hD)⟩
      · rw [if_pos ⟨hds, hno, by omega⟩] at e0
        exact e0
      rintro σ' H3 ⟨rfl, s3, e3⟩
      exact ⟨_, rfl, k _ e3 _ s3⟩
    · unfold RF.rdW
      cases e : RF.fgs b (c :: l') with
      | none => rfl
      | some ds =>
        dsimp only
        rw [if_neg]
        rcases z with z | z
        · rw [z] at e; cases e
        · exact RF.num_big b2 (RF.fgs_some e).2 (by rw [fgs_len e]; exact z)
theorem gotE_ring_read (T : Txt K mg) : GotE P w K mg base "ring_read" 3 ["base", "text"] (spRingReadE K mg) := by
  obtain ⟨C_NoNote, X_NoNote, R_NoNote⟩ := T.x_NoNote
  refine T.d_ring_read.gotE sc_ring_read (fun vs H Q E h => ?_) (fun f cdv A outer s H vs Q E hr h => ?_)
  · obtain ⟨b, l, rfl, _⟩ := h; rfl
  · obtain ⟨b, l, rfl, b36, hl, k, r⟩ := h
    refine ⟨_, (pss_cons (ps_if (PW.pt (pw_or (pt_not (pt_val (pe_bm PySem.F.plainAttrs_str PySem.F.slot_str_endswith PySem.F.type_str_endswith mt_ends (pv 1) (pa_k pe_str pa_nil)))) (pw_or1 (pt_cmpR op_eq (pv 1) pe_str (nomark _))))) (pss_one (ps_raise X_NoNote rfl (pa_k pe_str pa_nil))) pss_nil)
      (pss_one (ps_ret (pe_callE (gotE_figures_read T) (hr.mono (by decide)) rfl (pa_n (pv 0) (pa_s (pe_slice sl_str (pv 1) po_none (po_some (pe_un un_neg pe_int))) pa_nil)))))), ?_⟩
    refine ⟨_, rfl, rfl, _, _, rfl, rfl, ?_⟩
    rcases List.eq_nil_or_concat l with rfl | ⟨q, x, rfl⟩
    · rw [show PySem.Txt.endswith (txt []) (Str.ofString ")") = false from rfl]
      refine ⟨_, rfl, iteT ?_⟩
      exact iteT ⟨(show 1 ≤ sizeLine by decide), r (fun ds e => by cases e) _ _ R_NoNote (Same.refl H)⟩
    rw [List.concat_eq_append] at hl k r ⊢
    have en : PySem.Txt.endswith (txt (q ++ [x])) (Str.ofString ")") = decide (x = 41) := ends_one (c := 41)
    have tl : (txt (q ++ [x])).length = q.length + 1 := by rw [txt_len]; simp
    have hl' : q.length + 1 ≤ 20000 := by simpa using hl
    rw [en]
    by_cases hx : x = 41
    · subst hx
      rw [decide_eq_true rfl]
      refine ⟨_, rfl, iteF ?_⟩
      by_cases hq : q = []
      · subst hq
        exact ⟨_, rfl, rfl, _, rfl, iteDT rfl ⟨(show 1 ≤ sizeLine by decide), r (fun ds e => by cases e) _ _ R_NoNote (Same.refl H)⟩⟩
      · have ne : ¬ V.str (txt (q ++ [41])) = V.str (Str.ofString ")") := fun z => by
          have : q ++ [41] = [41] := txt_inj (V.str.inj z)
          have := congrArg List.length this
          simp at this
          exact hq this
        have ed : RF.rdR b (q ++ [41]) = RF.fgs b q := by
          unfold RF.rdR
          rw [if_pos ⟨by simp, by
            have := List.length_pos_iff.mpr hq
            simp only [List.length_append, List.length_cons, List.length_nil]
            omega⟩, List.dropLast_concat]
        rw [ed] at k r
        refine ⟨_, rfl, rfl, _, rfl, iteDF ne ?_⟩
        refine ⟨_, rfl, _, rfl, _, rfl, _, rfl, _, rfl, small_text (by rw [tl]; omega), ?_⟩
        have es : PySem.Txt.slice (txt (q ++ [41])) none (some (-1)) = txt q := slice_init
        refine ⟨b, q, by rw [es]; rfl, b36, by omega, fun ds e h4 => k ds e (by rw [fgs_len e]; exact h4), fun z => r fun ds e => ?_⟩
        rcases z with z | z
        · rw [z] at e; cases e
        · rw [fgs_len e]; exact z
    · rw [decide_eq_false hx]
      refine ⟨_, rfl, iteT ?_⟩
      refine iteT ⟨(show 1 ≤ sizeLine by decide), r (fun ds e => ?_) _ _ R_NoNote (Same.refl H)⟩
      unfold RF.rdR at e
      rw [if_neg (by rintro ⟨z, _⟩; simp at z; exact hx z)] at e
      cases e
theorem gotE_read (T : Txt K mg) : GotE P w K mg base "read" 4 ["base", "text"] (spReadE K mg) := by
  obtain ⟨C_NoNote, X_NoNote, R_NoNote⟩ := T.x_NoNote
  refine T.d_read.gotE sc_read (fun vs H Q E h => ?_) (fun f cdv A outer s H vs Q E hr h => ?_)
  · obtain ⟨b, l, rfl, _⟩ := h; rfl
  · obtain ⟨b, l, rfl, hl, hb, hg⟩ := h
    refine ⟨_, (pss_cons (ps_expr (pe_callE (gotE_check_base T) (hr.mono (by decide)) rfl (pa_n (pv 0) pa_nil)))
      (pss_cons (ps_set (i := 2) sc_read.nd rfl (Or.inl rfl) (pe_bm PySem.F.plainAttrs_str PySem.F.slot_str_partition PySem.F.type_str_partition mt_partition (pv 1) (pa_k pe_str pa_nil)))
      (pss_cons (ps_set (i := 3) sc_read.nd rfl (Or.inl rfl) (pe_callE (gotE_whole_read T) (hr.mono (by decide)) rfl (pa_n (pv 0) (pa_s (pe_ix ix_tup (pv 2) pe_int px_k) pa_nil))))
      (pss_cons (ps_if (pt_cmpR op_eq (pe_ix ix_tup (pv 2) pe_int px_k) pe_str (nomark _)) (pss_one (ps_ret (pe_tup (pa_n (pv 3) (pa_l (pe_lst pa_nil) (pa_l (pe_lst pa_nil) pa_nil)))))) pss_nil)
      (pss_cons (ps_set (i := 4) sc_read.nd rfl (Or.inl rfl) (pe_bm PySem.F.plainAttrs_str PySem.F.slot_str_partition PySem.F.type_str_partition mt_partition (pe_ix ix_tup (pv 2) pe_int px_k) (pa_k pe_str pa_nil)))
      (pss_cons (ps_set (i := 5) sc_read.nd rfl (Or.inl rfl) (pe_callE (gotE_figures_read T) (hr.mono (by decide)) rfl (pa_n (pv 0) (pa_s (pe_ix ix_tup (pv 4) pe_int px_k) pa_nil))))
      (pss_cons (ps_if (pt_cmpR op_eq (pe_ix ix_tup (pv 4) pe_int px_k) pe_str (nomark _)) (pss_cons (ps_if (pt_cmpR (op_eqL hr.units) (pv 5) (pe_lst pa_nil) (nomark _)) (pss_one (ps_raise X_NoNote rfl (pa_k pe_str pa_nil))) pss_nil)
      (pss_one (ps_ret (pe_tup (pa_n (pv 3) (pa_n (pv 5) (pa_l (pe_lst pa_nil) pa_nil))))))) pss_nil)
      (pss_one (ps_ret (pe_tup (pa_n (pv 3) (pa_n (pv 5) (pa_c (pe_callE (gotE_ring_read T) (hr.mono (by decide)) rfl (pa_n (pv 0) (pa_s (pe_ix ix_tup (pv 4) pe_int px_k) pa_nil))) pa_nil))))))))))))), ?_⟩
    by_cases ob : BaseOk b
    case neg => exact ⟨_, rfl, .inr ⟨_, rfl, ob, hb ob⟩⟩
    obtain ⟨b2, b36⟩ := id ob
    obtain ⟨r, k⟩ := hg ob
    obtain ⟨bn, rfl⟩ : ∃ bn : Nat, b = (bn : Int) := ⟨b.toNat, by omega⟩
    rw [Int.toNat_natCast] at r k
    have tl := txt_len l
    refine ⟨_, rfl, .inl ⟨_, rfl, b2, b36, ?_⟩⟩
    refine ⟨_, rfl, rfl, _, _, rfl, rfl, rfl, small_text (by rw [tl]; omega), fun pp hpp => ?_⟩
    rcases RF.cut_ex 46 l with no | ⟨p, m, rfl, hp⟩
    · have e : PySem.Txt.partition (txt l) (Str.ofString ".") = (txt l, ⟨#[]⟩, ⟨#[]⟩) := part_no (c := 46) no
      rw [RF.rd_no no] at r k
      rw [e]
      refine ⟨_, rfl, _, rfl, pp, _, _, _, rfl, rfl, SqT.of upd_same, rfl, bn, l, rfl, by omega, by omega, hl, fun n en H1 s1 => ?_, fun en => (r (by rw [en])).up (Same.upd hpp)⟩
      rw [en] at k
      have t1 := (Same.upd hpp).trans s1
      have hp1 := s1 _ _ (upd_same (H := H) (a := pp) (o := .tup [.str (txt l), .str ⟨#[]⟩, .str ⟨#[]⟩]))
      refine ⟨_, rfl, pp, _, _, _, rfl, rfl, SqT.of hp1, rfl, rfl, _, rfl, iteDT rfl ?_⟩
      refine ⟨_, rfl, (show 0 ≤ sizeLine by decide), fun l2 h2 => ⟨(show 0 ≤ sizeLine by decide), fun l3 h3 => ⟨(show 3 ≤ sizeLine by decide), fun p hp => ?_⟩⟩⟩
      exact k n [] [] rfl p l2 l3 _ (NewWr.mk2 (a := []) (g := []) t1 h2 h3 hp)
    · have e : PySem.Txt.partition (txt (p ++ 46 :: m)) (Str.ofString ".") = (txt p, ⟨#[46]⟩, txt m) := part_at (c := 46) hp
      rw [e]
      have lp : p.length + (m.length + 1) ≤ 20000 := by simpa using hl
      have tm := txt_len m
      refine ⟨_, rfl, _, rfl, pp, _, _, _, rfl, rfl, SqT.of upd_same, rfl, bn, p, rfl, by omega, by omega, by omega, fun n en H1 s1 => ?_, fun en => (r (by unfold RF.rd; rw [RF.cut_at hp]; dsimp only; rw [en])).up (Same.upd hpp)⟩
      have t1 := (Same.upd hpp).trans s1
      have hp1 := s1 _ _ (upd_same (H := H) (a := pp) (o := .tup [.str (txt p), .str ⟨#[46]⟩, .str (txt m)]))
      refine ⟨_, rfl, pp, _, _, _, rfl, rfl, SqT.of hp1, rfl, rfl, _, rfl, iteDF (by decide) ?_⟩
      refine ⟨_, rfl, pp, _, _, _, rfl, rfl, SqT.of hp1, rfl, rfl, _, _, rfl, rfl, rfl, small_text (by rw [tm]; omega), fun p2 hp2 => ?_⟩
      rcases RF.cut_ex 40 m with no | ⟨q, m2, rfl, hq⟩
      · have e2 : PySem.Txt.partition (txt m) (Str.ofString "(") = (txt m, ⟨#[]⟩, ⟨#[]⟩) := part_no (c := 40) no
        rw [RF.rd_a hp no, en] at r k
        dsimp only at r k
        rw [e2]
        refine ⟨_, rfl, _, rfl, p2, _, _, _, rfl, rfl, SqT.of upd_same, rfl, bn, m, rfl, by omega, by omega, fun ds ed l4 l3 h3 => ?_, fun z => (r ?_).up (t1.trans (Same.upd hp2))⟩
        · have ld := fgs_len ed
          rw [ed] at r k
          dsimp only at r k
          rw [if_neg (by omega)] at r k
          have s3 := Same.upd (o := .lst (ivs ds)) h3
          have hp3 := s3 _ _ (upd_same (H := H1) (a := p2) (o := .tup [.str (txt m), .str ⟨#[]⟩, .str ⟨#[]⟩]))
          refine ⟨_, rfl, p2, _, _, _, rfl, rfl, SqT.of hp3, rfl, rfl, _, rfl, iteDT rfl ?_⟩
          refine ⟨_, rfl, (show 0 ≤ sizeLine by decide), fun l5 h5 => ?_⟩
          have s4 := Same.upd (o := .lst []) h5
          have hl3 := s4 _ _ (upd_same (H := upd H1 p2 (.tup [.str (txt m), .str ⟨#[]⟩, .str ⟨#[]⟩])) (a := l3) (o := .lst (ivs ds)))
          have t4 := (((t1.trans (Same.upd hp2)).trans s3).trans s4)
          refine ⟨l3, l5, RF.ig ds, [], rfl, rfl, SqL.of hl3, SqL.of upd_same, _, rfl, ite2D (fun h0 => ?_) (fun h0 => ?_)⟩
          · have : ds = [] := by simpa [RF.ig] using h0
            exact ⟨(show 1 ≤ sizeLine by decide), r (if_pos this) _ _ R_NoNote t4⟩
          · have hne : ds ≠ [] := fun z => h0 (by rw [z]; rfl)
            refine ⟨_, rfl, _, rfl, (show 0 ≤ sizeLine by decide), fun l6 h6 => ⟨(show 3 ≤ sizeLine by decide), fun p hp => ?_⟩⟩
            exact k n ds [] (if_neg hne) p l3 l6 _ (NewWr.mk1 (g := []) t4 hl3 ((t1.trans (Same.upd hp2)).free h3) h6 hp)
        · cases ed : RF.fgs bn m with
          | none => rfl
          | some ds =>
            rcases z with z | z
            · rw [z] at ed; cases ed
            · dsimp only
              rw [if_pos (by rw [fgs_len ed]; exact z)]
      · have e2 : PySem.Txt.partition (txt (q ++ 40 :: m2)) (Str.ofString "(") = (txt q, ⟨#[40]⟩, txt m2) := part_at (c := 40) hq
        rw [RF.rd_r hp hq, en] at r k
        dsimp only at r k
        rw [e2]
        have lq : q.length + (m2.length + 1) ≤ 20000 := by
          have : (q ++ 40 :: m2).length = q.length + (m2.length + 1) := by simp
          omega
        refine ⟨_, rfl, _, rfl, p2, _, _, _, rfl, rfl, SqT.of upd_same, rfl, bn, q, rfl, by omega, by omega, fun ds ed l4 l3 h3 => ?_, fun z => (r ?_).up (t1.trans (Same.upd hp2))⟩
        · have ld := fgs_len ed
          rw [ed] at r k
          dsimp only at r k
          rw [if_neg (by omega)] at r k
          have s3 := Same.upd (o := .lst (ivs ds)) h3
          have hp3 := s3 _ _ (upd_same (H := H1) (a := p2) (o := .tup [.str (txt q), .str ⟨#[40]⟩, .str (txt m2)]))
          have t3 := (t1.trans (Same.upd hp2)).trans s3
          refine ⟨_, rfl, p2, _, _, _, rfl, rfl, SqT.of hp3, rfl, rfl, _, rfl, iteDF (by decide) ?_⟩
          refine ⟨_, rfl, _, rfl, _, rfl, _, rfl, p2, _, _, _, rfl, rfl, SqT.of hp3, rfl, bn, m2, rfl, by omega, by omega, fun gs eg g4 l5 h5 => ⟨(show 3 ≤ sizeLine by decide), fun p hp => ?_⟩, fun z => (r ?_).up t3⟩
          · rw [eg] at k
            dsimp only at k
            rw [if_neg (by omega)] at k
            exact k n ds gs rfl p l3 l5 _ (NewWr.mk2 (t1.trans (Same.upd hp2)) h3 h5 hp)
          · cases eg : RF.rdR bn m2 with
            | none => rfl
            | some gs =>
              dsimp only
              rw [if_pos (z gs eg)]
        · cases ed : RF.fgs bn q with
          | none => rfl
          | some ds =>
            rcases z with z | z
            · rw [z] at ed; cases ed
            · dsimp only
              rw [if_pos (by rw [fgs_len ed]; exact z)]
theorem got_law_cell_at (T : Txt K mg) : Got P w K mg base "_law_cell_at" 1 ["script", "k"] (spCell K) := by
  refine T.d_law_cell_at.got sc_law_cell_at (fun vs H Q E h => ?_) (fun f cdv A outer s H vs Q E hr h => ?_)
  · obtain ⟨a, ns, k, rfl, _⟩ := h; rfl
  · obtain ⟨a, ns, i, rfl, hS, h0, k⟩ := h
    refine ⟨_, (pss_cons (ps_if (pt_cmpR op_lt (pv 1) (pe_callB call_len_seq rfl T.b_len PySem.boot_len (pa_n (pv 0) pa_nil)) (nomark _)) (pss_one (ps_ret (pe_ix ix_list (pv 0) (pv 1) px_n))) pss_nil)
      (pss_one (ps_ret pe_int))), ?_⟩
    refine ⟨_, rfl, _, rfl, a, _, rfl, .inl hS, _, _, rfl, rfl, _, rfl, ite2D (fun hk => ?_) (fun hk => ?_)⟩
    · rw [List.length_map] at hk
      exact ⟨_, rfl, _, rfl, a, _, _, _, rfl, rfl, hS, atI_int h0 hk, k _ rfl⟩
    · rw [List.length_map] at hk
      exact k 0 (getD_out hk).symm
theorem got_law_draw (T : Txt K mg) : Got P w K mg base "_law_draw" 1 ["cell", "k", "bound"] spDraw := by
  refine T.d_law_draw.got sc_law_draw (fun vs H Q E h => ?_) (fun f cdv A outer s H vs Q E hr h => ?_)
  · obtain ⟨c, i, b, rfl, _⟩ := h; rfl
  · obtain ⟨c, i, b, rfl, hb, k⟩ := h
    refine ⟨_, (pss_cons (ps_set (i := 3) sc_law_draw.nd rfl (Or.inl rfl) (pe_op op_mod (pe_op op_mul (pe_op op_add (pe_op op_add (pe_op op_mod (pv 0) pe_int) (pe_op op_mul pe_int (pv 1))) pe_int) pe_int) pe_int))
      (pss_cons (ps_set (i := 3) sc_law_draw.nd rfl (Or.inl rfl) (pe_op op_mod (pe_op op_mul (pv 3) (pv 3)) pe_int))
      (pss_cons (ps_set (i := 3) sc_law_draw.nd rfl (Or.inl rfl) (pe_op op_mod (pe_op op_mul (pe_op op_add (pv 3) (pe_op op_mul pe_int (pe_op op_add (pv 1) pe_int))) pe_int) pe_int))
      (pss_one (ps_ret (pe_op op_mod (pe_op op_fdiv (pv 3) pe_int) (pv 2))))))), ?_⟩
    refine ⟨_, rfl, _, _, rfl, rfl, (show (0 : Int) < 2147483647 by decide), _, rfl, _, _, rfl, rfl, .inl ⟨by decide, by decide⟩, _, _, rfl, rfl, _, _, rfl, rfl, _, _, rfl, rfl, .inr ⟨by decide, by decide⟩, _, _, rfl, rfl, (show (0 : Int) < 2147483647 by decide), ?_⟩
    refine ⟨_, rfl, _, rfl, _, _, rfl, rfl, cmul_mod _ _, _, _, rfl, rfl, (show (0 : Int) < 2147483629 by decide), ?_⟩
    refine ⟨_, rfl, _, rfl, _, _, rfl, rfl, _, _, rfl, rfl, .inl ⟨by decide, by decide⟩, _, _, rfl, rfl, _, _, rfl, rfl, .inr ⟨by decide, by decide⟩, _, _, rfl, rfl, (show (0 : Int) < 2147483647 by decide), ?_⟩
    exact ⟨_, rfl, _, _, rfl, rfl, ⟨by decide, by decide⟩, _, rfl, _, _, rfl, rfl, hb, k⟩
theorem got_law_whole (T : Txt K mg) : Got P w K mg base "_law_whole" 1 ["found"] spWhole := by
  refine T.d_law_whole.got sc_law_whole (fun vs H Q E h => ?_) (fun f cdv A outer s H vs Q E hr h => ?_)
  · obtain ⟨i, rfl, _⟩ := h; rfl
  · obtain ⟨i, rfl, k⟩ := h
    refine ⟨_, (pss_one (ps_ret (pe_and (pe_callB call_isi rfl T.b_isinstance PyProof.Rows.boot_isinstance (pa_n (pv 0) (pa_n (pe_bltn (v := .ty "int") rfl T.b_int PyProof.Rows.boot_int rfl) pa_nil))) (pe_one (pe_not (pe_callB call_isi rfl T.b_isinstance PyProof.Rows.boot_isinstance (pa_n (pv 0) (pa_n (pe_bltn (v := .ty "bool") rfl T.b_bool PyProof.Rows.boot_bool rfl) pa_nil)))))))), ?_⟩
    refine ⟨_, rfl, _, _, _, _, rfl, .int i, kit_self _ rfl, _, rfl, iteT ?_⟩
    exact ⟨_, rfl, _, _, _, _, rfl, .int i, kit_int_bool, _, rfl, k⟩
theorem got_law_is_writing (T : Txt K mg) : Got P w K mg base "_law_is_writing" 2 ["found", "due"] (spIsWriting K) := by
  refine T.d_law_is_writing.got sc_law_is_writing (fun vs H Q E h => ?_) (fun f cdv A outer s H vs Q E hr h => ?_)
  · obtain ⟨p, la, lg, x, a, g, p', la', lg', x', a', g', rfl, _⟩ := h; rfl
  · obtain ⟨p, la, lg, x, a, g, p', la', lg', x', a', g', rfl, ht, ha, hg, hW, k⟩ := h
    have hT : SqT K H p [.int x, .ref la, .ref lg] := .of ht
    refine ⟨_, (pss_cons (ps_if (PW.pt (pw_or (pt_not (pt_val (pe_callB call_isi rfl T.b_isinstance PyProof.Rows.boot_isinstance (pa_n (pv 0) (pa_n (pe_bltn (v := .ty "tuple") rfl T.b_tuple PyProof.Rows.boot_tuple rfl) pa_nil))))) (pw_or (pt_cmpR op_ne (pe_callB call_len_seq rfl T.b_len PySem.boot_len (pa_n (pv 0) pa_nil)) pe_int (nomark _)) (pw_or1 (pt_not (pt_val (pe_callG (got_law_whole T) (hr.mono (by decide)) rfl (pa_s (pe_ix ix_tup (pv 0) pe_int px_k) pa_nil)))))))) (pss_one (ps_ret pe_bl)) pss_nil)
      (pss_cons (ps_for PassesOwn.never rfl (pi_tup (pe_tup (pa_k pe_int (pa_k pe_int pa_nil)))) (pg_name (i := 2) sc_law_is_writing.nd rfl (Or.inl rfl)) (pss_cons (ps_if (pt_not (pt_val (pe_callB call_isi rfl T.b_isinstance PyProof.Rows.boot_isinstance (pa_s (pe_ix ix_tup (pv 0) (pv 2) px_n) (pa_n (pe_bltn (v := .ty "list") rfl T.b_list PyProof.Rows.boot_list rfl) pa_nil))))) (pss_one (ps_ret pe_bl)) pss_nil)
      (pss_one (ps_for PassesOwn.never rfl (pi_list (pe_ix ix_tup (pv 0) (pv 2) px_n)) (pg_name (i := 3) sc_law_is_writing.nd rfl (Or.inl rfl)) (pss_one (ps_if (pt_not (pt_val (pe_callG (got_law_whole T) (hr.mono (by decide)) rfl (pa_n (pv 3) pa_nil)))) (pss_one (ps_ret pe_bl)) pss_nil))))))
      (pss_one (ps_ret (pe_cmpR (op_eqW hr.units) (pv 0) (pv 1) (nomark _)))))), ?_⟩
    refine ⟨_, rfl, _, _, _, _, rfl, .tup ht, kit_self _ rfl, _, rfl, iteF ?_⟩
    refine ⟨_, rfl, p, _, rfl, .inr hT, rfl, _, rfl, iteNDF rfl ?_⟩
    refine ⟨_, rfl, p, _, _, _, rfl, rfl, hT, rfl, x, rfl, _, rfl, iteF ?_⟩
    refine ⟨(show 2 ≤ sizeLine by decide), fun lt hlt => ⟨lt, rfl, ⟨_, SqT.of upd_same⟩, ?_⟩⟩
    have s1 : Same H (upd H lt (.tup [.int 1, .int 2])) := Same.upd hlt
    refine for_tup (K := K) (a := lt) (xs := [.int 1, .int 2]) (fun i σ H2 => ∃ v3 v4, σ = [some (.ref p), some (.ref p'), v3, v4] ∧ Same (upd H lt (.tup [.int 1, .int 2])) H2) ⟨_, _, rfl, Same.refl _⟩ (fun i σ H2 _ ⟨_, _, _, s2⟩ => s2.tup (SqT.of upd_same)) ?_ ?_
    · rintro i y σ H2 hi ⟨v3, v4, rfl, s2⟩
      have s3 : Same H H2 := s1.trans s2
      have hT2 := s3.tup hT
      obtain ⟨l, z, j, rfl, ej, hl⟩ : ∃ (l : Addr) (z : List Int) (j : Int), y = .int j ∧ atI [V.int x, V.ref la, V.ref lg] j = some (.ref l) ∧ H2 l = some (.lst (z.map V.int)) := by
        match i, hi with
        | 0, hi => exact ⟨la, a, 1, (Option.some.inj hi).symm, rfl, s3 _ _ ha⟩
        | 1, hi => exact ⟨lg, g, 2, (Option.some.inj hi).symm, rfl, s3 _ _ hg⟩
      refine ⟨_, rfl, _, rfl, p, _, _, _, rfl, rfl, hT2, ej, _, _, _, _, rfl, .lst hl, kit_self _ rfl, _, rfl, iteF ?_⟩
      refine ⟨_, rfl, _, rfl, p, _, _, _, rfl, rfl, hT2, ej, l, rfl, ⟨_, SqL.of hl⟩, ?_⟩
      refine for_list (K := K) (a := l) (xs := z.map V.int) (fun i σ H3 => ∃ v, σ = [some (.ref p), some (.ref p'), some (.int j), v] ∧ H3 = H2) ⟨_, rfl, rfl⟩ (fun i σ H3 _ ⟨_, _, e⟩ => by rw [e]; exact SqL.of hl) ?_ ?_
      · rintro i' y' σ' H3 hi' ⟨v, rfl, rfl⟩
        obtain ⟨n, rfl⟩ : ∃ n, y' = V.int n := by
          rw [List.getElem?_map] at hi'
          cases e : z[i']? with
          | none => rw [e] at hi'; cases hi'
          | some n => rw [e] at hi'; exact ⟨n, (Option.some.inj hi').symm⟩
        refine ⟨_, rfl, n, rfl, _, rfl, iteF ?_⟩
        exact ⟨_, rfl, rfl⟩
      · rintro σ' H3 ⟨v, rfl, rfl⟩
        exact ⟨_, _, rfl, s2⟩
    · rintro σ H2 ⟨v3, v4, rfl, s2⟩
      have s3 : Same H H2 := s1.trans s2
      exact ⟨_, rfl, _, rfl, p, la, lg, x, a, g, p', la', lg', x', a', g', rfl, rfl, ⟨s3.tup hT, s3.seq (.of ha), s3.seq (.of hg)⟩, s3.wr hW, k _ s3⟩
theorem gotX_law_word_of (T : Txt K mg) : GotX P w K mg base "_law_word_of" 1 ["e"] (spWordOf K mg) := by
  obtain ⟨F, c0, c1, c2, c3, c4, c5, xs, _⟩ := T.x_all
  have N_NoBase := xs.n0
  have N_NoFraction := xs.n1
  have N_NoWriting := xs.n2
  have N_NoNumber := xs.n3
  have N_TooLong := xs.n4
  have N_NoNote := xs.n5
  refine T.d_law_word_of.gotX sc_law_word_of (fun vs H Q E h => ?_) (fun f cdv A outer s H vs Q E hr h => ?_)
  · obtain ⟨a, C, j, rfl, _⟩ := h; rfl
  · obtain ⟨a, C, j, rfl, hH, R, k⟩ := h
    have r := R.all F c0 c1 c2 c3 c4 c5 xs
    have xc := R.xc
    have lt := R.lt
    have kd : ∀ (l : Addr) (H' : Hp), Same H H' → H' a = some (.ext (ofCls a (.ref C))) := fun l H' s => s _ _ hH
    refine ⟨_, (pss_cons (ps_set (i := 1) sc_law_word_of.nd rfl (Or.inl rfl) (pe_lst (pa_c (pe_callB call_isiE rfl T.b_isinstance PyProof.Rows.boot_isinstance (pa_n (pv 0) (pa_n (pe_globC N_NoBase rfl) pa_nil))) (pa_c (pe_callB call_isiE rfl T.b_isinstance PyProof.Rows.boot_isinstance (pa_n (pv 0) (pa_n (pe_globC N_NoFraction rfl) pa_nil))) (pa_c (pe_callB call_isiE rfl T.b_isinstance PyProof.Rows.boot_isinstance (pa_n (pv 0) (pa_n (pe_globC N_NoWriting rfl) pa_nil))) pa_nil)))))
      (pss_cons (ps_set (i := 1) sc_law_word_of.nd rfl (Or.inl rfl) (pe_op op_cat (pv 1) (pe_lst (pa_c (pe_callB call_isiE rfl T.b_isinstance PyProof.Rows.boot_isinstance (pa_n (pv 0) (pa_n (pe_globC N_NoNumber rfl) pa_nil))) (pa_c (pe_callB call_isiE rfl T.b_isinstance PyProof.Rows.boot_isinstance (pa_n (pv 0) (pa_n (pe_globC N_TooLong rfl) pa_nil))) (pa_c (pe_callB call_isiE rfl T.b_isinstance PyProof.Rows.boot_isinstance (pa_n (pv 0) (pa_n (pe_globC N_NoNote rfl) pa_nil))) pa_nil))))))
      (pss_cons (ps_if (PW.pt (pw_or (pt_cmpR op_ne (pe_bm PySem.F.plainAttrs_list PySem.F.slot_list_count PySem.F.type_list_count mt_countB (pv 1) (pa_k pe_bl pa_nil)) pe_int (nomark _)) (pw_or1 (pt_not (pt_val (pe_callB call_isiE rfl T.b_isinstance PyProof.Rows.boot_isinstance (pa_n (pv 0) (pa_n (pe_bltn (v := .ty "ValueError") rfl T.b_ValueError PyProof.Rows.boot_ValueError rfl) pa_nil)))))))) (pss_one (ps_ret pe_str)) pss_nil)
      (pss_one (ps_ret (pe_ix ix_list (pe_lst (pa_k pe_str (pa_k pe_str (pa_k pe_str (pa_k pe_str (pa_k pe_str (pa_k pe_str pa_nil))))))) (pe_bm PySem.F.plainAttrs_list PySem.F.slot_list_index PySem.F.type_list_index mt_indexB (pv 1) (pa_k pe_bl pa_nil)) px_c)))))), ?_⟩
    refine ⟨_, rfl, a, C, _, _, _, rfl, hH, xc, .inl ⟨_, rfl, rfl⟩, r.k0, ?_⟩
    refine ⟨_, rfl, a, C, _, _, _, rfl, hH, xc, .inl ⟨_, rfl, rfl⟩, r.k1, ?_⟩
    refine ⟨_, rfl, a, C, _, _, _, rfl, hH, xc, .inl ⟨_, rfl, rfl⟩, r.k2, (show 3 ≤ sizeLine by decide), fun l1 h1 => ?_⟩
    have s1 := Same.upd (o := .lst [.bl (decide (j = 0)), .bl (decide (j = 1)), .bl (decide (j = 2))]) h1
    have hH1 := s1 _ _ hH
    refine ⟨_, rfl, _, rfl, a, C, _, _, _, rfl, hH1, xc, .inl ⟨_, rfl, rfl⟩, r.k3, ?_⟩
    refine ⟨_, rfl, a, C, _, _, _, rfl, hH1, xc, .inl ⟨_, rfl, rfl⟩, r.k4, ?_⟩
    refine ⟨_, rfl, a, C, _, _, _, rfl, hH1, xc, .inl ⟨_, rfl, rfl⟩, r.k5, (show 3 ≤ sizeLine by decide), fun l2 h2 => ?_⟩
    have s2 := Same.upd (o := .lst [.bl (decide (j = 3)), .bl (decide (j = 4)), .bl (decide (j = 5))]) h2
    refine ⟨l1, l2, _, _, rfl, rfl, s2 _ _ upd_same, upd_same, (show 6 ≤ sizeLine by decide), fun l3 h3 => ?_⟩
    have s3 := Same.upd (o := .lst (([decide (j = 0), decide (j = 1), decide (j = 2), decide (j = 3), decide (j = 4), decide (j = 5)]).map V.bl)) h3
    have hH3 := s3 _ _ (s2 _ _ hH1)
    have hl3 : upd _ l3 (.lst (([decide (j = 0), decide (j = 1), decide (j = 2), decide (j = 3), decide (j = 4), decide (j = 5)]).map V.bl)) l3 = some _ := upd_same (H := upd (upd H l1 (.lst [.bl (decide (j = 0)), .bl (decide (j = 1)), .bl (decide (j = 2))])) l2 (.lst [.bl (decide (j = 3)), .bl (decide (j = 4)), .bl (decide (j = 5))]))
    refine ⟨_, rfl, .inl ⟨rfl, _, SqL.of hl3⟩, l3, [decide (j = 0), decide (j = 1), decide (j = 2), decide (j = 3), decide (j = 4), decide (j = 5)], true, rfl, rfl, hl3, ?_⟩
    rw [show PySem.Spec.countIn (.bool true) (([decide (j = 0), decide (j = 1), decide (j = 2), decide (j = 3), decide (j = 4), decide (j = 5)]).map PyData.bool) = 1 from ?cnt]
    case cnt => exact word_count lt
    refine ⟨rfl, _, rfl, iteNDF rfl ?_⟩
    refine ⟨_, rfl, a, C, _, _, _, rfl, hH3, xc, .inr ⟨_, rfl, rfl⟩, r.ve, _, rfl, iteF ?_⟩
    refine ⟨(show 6 ≤ sizeLine by decide), fun l4 h4 => ?_⟩
    have s4 := Same.upd (o := .lst [.str "base", .str "fraction", .str "writing", .str "number", .str "long", .str "note"]) h4
    refine ⟨_, rfl, .inl ⟨rfl, _, SqL.of (s4 _ _ hl3)⟩, l3, [decide (j = 0), decide (j = 1), decide (j = 2), decide (j = 3), decide (j = 4), decide (j = 5)], true, j, rfl, rfl, s4 _ _ hl3, word_ix lt, word_no lt, ?_⟩
    refine ⟨l4, _, _, .str (wordOf j), rfl, rfl, SqL.of upd_same, word_at lt, ?_⟩
    exact k _ (((s1.trans s2).trans s3).trans s4)
theorem got_law_number (T : Txt K mg) : Got P w K mg base "_law_number" 1 ["base", "figures"] (spNumberOf K) := by
  refine T.d_law_number.got sc_law_number (fun vs H Q E h => ?_) (fun f cdv A outer s H vs Q E hr h => ?_)
  · obtain ⟨b, l, ns, rfl, _⟩ := h; rfl
  · obtain ⟨b, l, ns, rfl, hS, b2, b36, k⟩ := h
    refine ⟨_, (pss_cons (ps_set (i := 2) sc_law_number.nd rfl (Or.inl rfl) pe_int)
      (pss_cons (ps_for PassesOwn.never rfl (pi_list (pv 1)) (pg_name (i := 3) sc_law_number.nd rfl (Or.inl rfl)) (pss_one (ps_set (i := 2) sc_law_number.nd rfl (Or.inl rfl) (pe_op op_add (pe_op op_mul (pv 2) (pv 0)) (pv 3)))))
      (pss_one (ps_ret (pv 2))))), ?_⟩
    refine ⟨_, rfl, l, rfl, ⟨_, hS⟩, for_list (K := K) (a := l) (xs := ns.map V.int) (fun i σ H2 => ∃ v, σ = [some (.int b), some (.ref l), some (.int (RF.num b (ns.take i))), v] ∧ H2 = H) ⟨_, rfl, rfl⟩ (fun i σ H2 _ ⟨_, _, e⟩ => by rw [e]; exact hS) ?_ ?_⟩
    · rintro i y σ H2 hi ⟨v, rfl, rfl⟩
      obtain ⟨n, rfl, hn⟩ := mem_int hi
      refine ⟨_, rfl, _, rfl, _, _, rfl, rfl, .inr ⟨by omega, by omega⟩, _, rfl, _, _, rfl, rfl, ?_⟩
      exact ⟨_, by rw [RF.num_take_succ hn]; rfl, rfl⟩
    · rintro σ H2 ⟨v, rfl, rfl⟩
      refine ⟨_, rfl, ?_⟩
      rw [List.length_map, List.take_length]
      exact k
theorem got_law_places (T : Txt K mg) : Got P w K mg base "_law_places" 1 ["base", "text"] spPlaces := by
  refine T.d_law_places.got sc_law_places (fun vs H Q E h => ?_) (fun f cdv A outer s H vs Q E hr h => ?_)
  · obtain ⟨b, l, rfl, _⟩ := h; rfl
  · obtain ⟨b, l, rfl, b36, hl, kn, k⟩ := h
    have tl := txt_len l
    refine ⟨_, (pss_cons (ps_set (i := 2) sc_law_places.nd rfl (Or.inl rfl) (pe_lst pa_nil))
      (pss_cons (ps_for PassesOwn.never rfl (pi_str (pv 1)) (pg_name (i := 3) sc_law_places.nd rfl (Or.inl rfl)) (pss_cons (ps_set (i := 4) sc_law_places.nd rfl (Or.inl rfl) (pe_bm PySem.F.plainAttrs_str PySem.F.slot_str_find PySem.F.type_str_find mt_find pe_str (pa_n (pv 3) pa_nil)))
      (pss_cons (ps_if (PW.pt (pw_or (pt_cmpR op_lt (pv 4) pe_int (nomark _)) (pw_or1 (pt_cmpR op_ge (pv 4) (pv 0) (nomark _))))) (pss_one (ps_ret pe_non)) pss_nil)
      (pss_one (ps_expr (pe_bm PySem.F.plainAttrs_list PySem.F.slot_list_append PySem.F.type_list_append mt_append (pv 2) (pa_n (pv 4) pa_nil)))))))
      (pss_one (ps_ret (pv 2))))), ?_⟩
    refine ⟨(show 0 ≤ sizeLine by decide), fun D hD => ?_⟩
    refine ⟨_, rfl, _, rfl, for_str (z := txt l) (fun i σ H2 => ∃ v3 v4 ds, σ = [some (.int (b : Int)), some (.str (txt l)), some (.ref D), v3, v4] ∧ RF.fgs b (l.take i) = some ds ∧ H2 = upd H D (.lst (ivs ds))) ⟨_, _, [], rfl, by rw [List.take_zero]; rfl, rfl⟩ ?_ ?_⟩
    · rintro i c σ H2 hc ⟨v3, v4, ds, rfl, ed, rfl⟩
      have hc : l[i]? = some c := by simpa using hc
      have hi : i < l.length := (List.getElem?_eq_some_iff.mp hc).1
      have ld := fgs_len ed
      rw [List.length_take] at ld
      have et : l.take (i + 1) = l.take i ++ [c] := by rw [List.take_add_one, hc]; rfl
      refine ⟨rfl, _, rfl, _, _, rfl, rfl, ?_⟩
      cases e : RF.fg 36 c with
      | none =>
        rw [find_none e]
        refine ⟨_, rfl, _, _, rfl, rfl, _, rfl, iteDT (by decide) (iteT ?_)⟩
        exact kn (RF.fgs_bad (List.mem_of_getElem? hc) (fg_less b36 e)) _ (Same.upd hD)
      | some d =>
        rw [find_some e]
        have q := fg_in b36 e
        refine ⟨_, rfl, _, _, rfl, rfl, _, rfl, iteDF (by omega) ?_⟩
        refine ⟨_, rfl, _, rfl, _, _, rfl, rfl, _, rfl, ite2D (fun h1 => ?_) (fun h1 => ?_)⟩
        · rw [if_neg (by omega)] at q
          exact kn (RF.fgs_bad (List.mem_of_getElem? hc) q) _ (Same.upd hD)
        · rw [if_pos (by omega)] at q
          refine ⟨_, rfl, .inl ⟨rfl, _, SqL.of upd_same⟩, _, rfl, D, ivs ds, _, rfl, rfl, upd_same, by rw [List.length_map, ig_len]; exact Nat.lt_of_le_of_lt (show ds.length ≤ 20000 by omega) (by decide), ?_⟩
          refine ⟨_, _, ds ++ [d], rfl, by rw [et]; exact fgs_snoc b36 ed q, ?_⟩
          rw [upd_upd, ivs_snoc]
    · rintro σ H2 ⟨v3, v4, ds, rfl, ed, rfl⟩
      rw [tl, List.take_length] at ed
      exact ⟨_, rfl, k ds ed D hD⟩
theorem got_law_parted (T : Txt K mg) : Got P w K mg base "_law_parted" 1 ["text"] spParted := by
  refine T.d_law_parted.got sc_law_parted (fun vs H Q E h => ?_) (fun f cdv A outer s H vs Q E hr h => ?_)
  · obtain ⟨l, rfl, _⟩ := h; rfl
  · obtain ⟨l, rfl, hl, kn, k⟩ := h
    have tl := txt_len l
    refine ⟨_, (pss_cons (ps_if (pt_cmpR op_eq (pe_bm PySem.F.plainAttrs_str PySem.F.slot_str_count PySem.F.type_str_count mt_countS (pv 0) (pa_k pe_str pa_nil)) pe_int (nomark _)) (pss_one (ps_ret (pe_lst (pa_n (pv 0) (pa_k pe_str (pa_k pe_str pa_nil)))))) pss_nil)
      (pss_cons (ps_set (i := 1) sc_law_parted.nd rfl (Or.inl rfl) (pe_bm PySem.F.plainAttrs_str PySem.F.slot_str_find PySem.F.type_str_find mt_find (pv 0) (pa_k pe_str pa_nil)))
      (pss_cons (ps_set (i := 2) sc_law_parted.nd rfl (Or.inl rfl) (pe_slice sl_str (pv 0) (po_some (pe_op op_add (pv 1) pe_int)) po_none))
      (pss_cons (ps_if (pt_cmpR op_eq (pv 2) pe_str (nomark _)) (pss_one (ps_ret pe_non)) pss_nil)
      (pss_cons (ps_if (pt_cmpR op_ne (pe_ix ix_str (pv 2) (pe_un un_neg pe_int) px_u) pe_str (nomark _)) (pss_one (ps_ret (pe_lst (pa_s (pe_slice sl_str (pv 0) po_none (po_some (pv 1))) (pa_n (pv 2) (pa_k pe_str pa_nil)))))) pss_nil)
      (pss_cons (ps_set (i := 3) sc_law_parted.nd rfl (Or.inl rfl) (pe_bm PySem.F.plainAttrs_str PySem.F.slot_str_find PySem.F.type_str_find mt_find (pv 2) (pa_k pe_str pa_nil)))
      (pss_cons (ps_if (PW.pt (pw_or (pt_cmpR op_lt (pv 3) pe_int (nomark _)) (pw_or1 (pt_cmpR op_eq (pv 3) (pe_op op_sub (pe_callB call_len_str rfl T.b_len PySem.boot_len (pa_n (pv 2) pa_nil)) pe_int) (nomark _))))) (pss_one (ps_ret pe_non)) pss_nil)
      (pss_one (ps_ret (pe_lst (pa_s (pe_slice sl_str (pv 0) po_none (po_some (pv 1))) (pa_s (pe_slice sl_str (pv 2) po_none (po_some (pv 3))) (pa_s (pe_slice sl_str (pv 2) (po_some (pe_op op_add (pv 3) pe_int)) (po_some (pe_un un_neg pe_int))) pa_nil))))))))))))), ?_⟩
    refine ⟨_, rfl, rfl, _, _, rfl, rfl, rfl, ?_⟩
    rcases RF.cut_ex 46 l with no | ⟨p, m, rfl, hp⟩
    · refine ⟨_, rfl, iteDT (by rw [show PySem.Txt.count (txt l) (Str.ofString ".") = 0 from count_no (c := 46) no]) ?_⟩
      refine ⟨_, rfl, (show 3 ≤ sizeLine by decide), fun D hD => ?_⟩
      refine k l [] [] ?_ D hD
      unfold RF.ptd
      rw [RF.cut_no no]
    have nz : ¬ PySem.Txt.count (txt (p ++ 46 :: m)) (Str.ofString ".") = 0 := count_at (c := 46) (List.mem_append_right _ List.mem_cons_self)
    have fa : PySem.Txt.find (txt (p ++ 46 :: m)) (Str.ofString ".") = (p.length : Int) := find_at (c := 46) hp
    have lp : p.length + (m.length + 1) ≤ 20000 := by simpa using hl
    have tm := txt_len m
    have tl2 : (txt (p ++ 46 :: m)).length ≤ 20000 := by rw [txt_len]; exact hl
    have sf : PySem.Txt.slice (txt (p ++ 46 :: m)) (some ((p.length : Int) + 1)) none = txt m := by
      have := slice_from (l := p ++ 46 :: m) (k := p.length + 1) (by rw [List.length_append, List.length_cons]; omega)
      rw [show ((p.length + 1 : Nat) : Int) = (p.length : Int) + 1 by omega] at this
      rw [this]
      congr 2
      rw [List.drop_append]
      simp
    have st : PySem.Txt.slice (txt (p ++ 46 :: m)) none (some (p.length : Int)) = txt p := by
      rw [slice_to (l := p ++ 46 :: m) (k := p.length) (by rw [List.length_append]; omega)]
      congr 2
      simp
    have pt : RF.ptd (p ++ 46 :: m) = if m = [] then none else if m.getLast? ≠ some 41 then some (p, m, []) else match (RF.cut 40 m).2 with
        | none => none
        | some r2 => if r2.length = 1 then none else some (p, (RF.cut 40 m).1, r2.dropLast) := by
      unfold RF.ptd
      rw [RF.cut_at hp]
      try rfl
    refine ⟨_, rfl, iteDF (fun z => nz (V.int.inj z)) ?_⟩
    refine ⟨_, rfl, rfl, _, _, rfl, rfl, ?_⟩
    rw [fa]
    refine ⟨_, rfl, _, rfl, _, _, rfl, rfl, _, rfl, _, rfl, small_text tl2, ?_⟩
    rw [sf]
    refine ⟨_, rfl, rfl, _, rfl, ite2D (fun h0 => ?_) (fun h0 => ?_)⟩
    · have h0 : m = [] := txt_inj (V.str.inj h0)
      exact kn (by rw [pt, if_pos h0])
    have h0 : m ≠ [] := fun z => h0 (by rw [z]; rfl)
    rw [if_neg h0] at pt
    obtain ⟨q, x, rfl⟩ : ∃ q x, m = q ++ [x] := by
      rcases List.eq_nil_or_concat m with h | ⟨q, x, h⟩
      · exact absurd h h0
      · exact ⟨q, x, by rw [h, List.concat_eq_append]⟩
    have hat : atI (txt (q ++ [x])).cps.toList (-1) = some x := atI_last q x
    have gl : (q ++ [x]).getLast? = some x := by simp
    rw [gl] at pt
    refine ⟨_, rfl, _, rfl, _, _, _, rfl, rfl, small_text (by rw [tm]; omega), hat, rfl, _, rfl, ite2N (fun h1 => ?_) (fun h1 => ?_)⟩
    · have h1 : x ≠ 41 := fun z => h1 (by rw [z]; rfl)
      rw [if_pos (fun z => h1 (Option.some.inj z))] at pt
      refine ⟨_, rfl, _, rfl, _, rfl, _, rfl, small_text tl2, ?_⟩
      rw [st]
      exact ⟨_, rfl, (show 3 ≤ sizeLine by decide), fun D hD => k _ _ _ pt D hD⟩
    have h1 : x = 41 := by
      have : [x] = [41] := txt_inj (l := [x]) (m := [41]) (V.str.inj h1)
      simpa using this
    subst h1
    rw [if_neg (fun z => z rfl)] at pt
    have lq : (q ++ [41]).length = q.length + 1 := by simp
    refine ⟨_, rfl, rfl, _, _, rfl, rfl, ?_⟩
    rcases RF.cut_ex 40 (q ++ [41]) with no | ⟨u, v, ev, hu⟩
    · rw [show PySem.Txt.find (txt (q ++ [41])) (Str.ofString "(") = -1 from find_no (c := 40) no]
      rw [RF.cut_no no] at pt
      exact ⟨_, rfl, _, _, rfl, rfl, _, rfl, iteDT (by decide) (iteT (kn pt))⟩
    · have hv : v ≠ [] := fun z => by
        rw [z] at ev
        have := congrArg List.getLast? ev
        simp at this
      obtain ⟨v', y, rfl⟩ : ∃ v' y, v = v' ++ [y] := by
        rcases List.eq_nil_or_concat v with h | ⟨v', y, h⟩
        · exact absurd h hv
        · exact ⟨v', y, by rw [h, List.concat_eq_append]⟩
      obtain ⟨rfl, e2⟩ : q = u ++ 40 :: v' ∧ [41] = [y] := by
        have : u ++ 40 :: (v' ++ [y]) = (u ++ 40 :: v') ++ [y] := by simp
        rw [this] at ev
        exact List.append_inj' ev rfl
      have e2 : y = 41 := by simpa using e2.symm
      subst e2
      have ec : RF.cut 40 ((u ++ 40 :: v') ++ [41]) = (u, some (v' ++ [41])) := by
        rw [show (u ++ 40 :: v') ++ [41] = u ++ 40 :: (v' ++ [41]) by simp]
        exact RF.cut_at hu
      rw [ec] at pt
      dsimp only at pt
      have lu : (u ++ 40 :: v').length = u.length + (v'.length + 1) := by simp
      have ff : PySem.Txt.find (txt ((u ++ 40 :: v') ++ [41])) (Str.ofString "(") = (u.length : Int) := by
        rw [show (u ++ 40 :: v') ++ [41] = u ++ 40 :: (v' ++ [41]) by simp]
        exact find_at (c := 40) hu
      have tq := txt_len ((u ++ 40 :: v') ++ [41])
      rw [ff]
      refine ⟨_, rfl, _, _, rfl, rfl, _, rfl, iteDF (by omega) ?_⟩
      refine ⟨_, rfl, _, rfl, _, rfl, small_text (by rw [tq]; omega), _, _, rfl, rfl, rfl, _, rfl, ite2D (fun h2 => ?_) (fun h2 => ?_)⟩
      · have h2 := V.int.inj h2
        rw [tq] at h2
        refine kn ?_
        rw [pt, if_pos]
        simp only [List.length_append, List.length_cons, List.length_nil] at h2 ⊢
        omega
      · have h2 : v' ≠ [] := fun z => h2 (by
          rw [tq, z]
          simp only [List.length_append, List.length_cons, List.length_nil]
          congr 1
          omega)
        rw [if_neg (by
          have := List.length_pos_iff.mpr h2
          rw [List.length_append, List.length_cons, List.length_nil]
          omega), List.dropLast_concat] at pt
        refine ⟨_, rfl, _, rfl, _, rfl, _, rfl, small_text tl2, ?_⟩
        rw [st]
        refine ⟨_, rfl, _, rfl, _, rfl, _, rfl, small_text (by rw [tq]; omega), ?_⟩
        rw [show PySem.Txt.slice (txt ((u ++ 40 :: v') ++ [41])) none (some (u.length : Int)) = txt u by
          rw [slice_to (l := (u ++ 40 :: v') ++ [41]) (k := u.length) (by rw [List.length_append, lu]; omega)]
          congr 2
          simp]
        refine ⟨_, rfl, _, rfl, _, _, rfl, rfl, _, rfl, _, rfl, _, rfl, _, rfl, small_text (by rw [tq]; omega), ?_⟩
        rw [show PySem.Txt.slice (txt ((u ++ 40 :: v') ++ [41])) (some ((u.length : Int) + 1)) (some (-1)) = txt v' by
          have := slice_mid (l := u ++ 40 :: v') (k := u.length + 1) (d := 41) (by rw [lu]; omega)
          rw [show ((u.length + 1 : Nat) : Int) = (u.length : Int) + 1 by omega] at this
          rw [this]
          congr 2
          rw [List.drop_append]
          simp]
        exact ⟨(show 3 ≤ sizeLine by decide), fun D hD => k _ _ _ pt D hD⟩
theorem got_law_read (T : Txt K mg) : Got P w K mg base "_law_read" 2 ["base", "text"] spLawRead := by
  refine T.d_law_read.got sc_law_read (fun vs H Q E h => ?_) (fun f cdv A outer s H vs Q E hr h => ?_)
  · obtain ⟨b, l, rfl, _⟩ := h; rfl
  · obtain ⟨b, l, rfl, b2, b36, hl, kn, k⟩ := h
    refine ⟨_, (pss_cons (ps_set (i := 2) sc_law_read.nd rfl (Or.inl rfl) (pe_callG (got_law_parted T) (hr.mono (by decide)) rfl (pa_n (pv 1) pa_nil)))
      (pss_mid (ps_if (pt_cmpR op_isN (pv 2) pe_non (nomark _)) (pss_one (ps_ret pe_non)) pss_nil)
      (pss_cons (ps_comp (i := 3) [("base", 0)] sc_law_read.nd rfl (Or.inl rfl) rfl (pi_list (pv 2)) ⟨rfl, by decide +kernel, by decide +kernel, rfl, rfl, rfl, ⟨⟨rfl, Or.inr (Or.inl rfl), Or.inl rfl, Or.inl rfl, rfl⟩, True.intro⟩, by decide +kernel⟩ (fun _ _ _ _ => (pe_callG (got_law_places T) (hr.mono (by decide)) rfl (pa_n (pv 1) (pa_n (pv 0) pa_nil)))))
      (pss_mid (ps_if (PW.pt (pw_or (pt_cmpR (op_inN hr.units) pe_non (pv 3) (by rfl)) (pw_or (pt_cmpR (op_eqL hr.units) (pe_ix ix_list (pv 3) pe_int px_k) (pe_lst pa_nil) (nomark _)) (pw_or1 (PW.pt (pw_and (pt_cmpR op_gt (pe_callB call_len_seq rfl T.b_len PySem.boot_len (pa_s (pe_ix ix_list (pv 3) pe_int px_k) pa_nil)) pe_int (nomark _)) (pw_and1 (pt_cmpR op_eq (pe_ix ix_list (pe_ix ix_list (pv 3) pe_int px_k) pe_int px_k) pe_int (nomark _))))))))) (pss_one (ps_ret pe_non)) pss_nil)
      (pss_mid (ps_if (pt_cmpR op_gt (pe_callG (got_law_number T) (hr.mono (by decide)) rfl (pa_n (pv 0) (pa_s (pe_ix ix_list (pv 3) pe_int px_k) pa_nil))) (pe_op op_pow pe_int pe_int) (nomark _)) (pss_one (ps_ret pe_non)) pss_nil)
      (pss_one (ps_ret (pe_tup (pa_c (pe_callG (got_law_number T) (hr.mono (by decide)) rfl (pa_n (pv 0) (pa_s (pe_ix ix_list (pv 3) pe_int px_k) pa_nil))) (pa_s (pe_ix ix_list (pv 3) pe_int px_k) (pa_s (pe_ix ix_list (pv 3) pe_int px_k) pa_nil))))))))))), ?_⟩
    refine ⟨_, rfl, l, rfl, hl, fun e => ?_, fun ww aa gg e lp hlp => ?_⟩
    · exact ⟨fun _ _ => False, ⟨_, rfl, rfl, _, rfl, iteDT rfl (kn (by unfold RF.lrd; rw [e]) H (Same.refl H))⟩, fun _ _ z => z.elim⟩
    obtain ⟨l0, l1, l2⟩ := ptd_len e
    have el : RF.lrd b l = match RF.fgs b ww, RF.fgs b aa, RF.fgs b gg with
        | some ws, some as, some gs => if RF.wOk b ws then some (RF.num (b : Int) (RF.ig ws), as, gs) else none
        | _, _, _ => none := by
      unfold RF.lrd
      rw [e]
      try rfl
    have s1 := Same.upd (o := .lst [.str (txt ww), .str (txt aa), .str (txt gg)]) hlp
    refine ⟨fun σ' H' => σ' = [some (.int (b : Int)), some (.str (txt l)), some (.ref lp), none] ∧ H' = upd H lp (.lst [.str (txt ww), .str (txt aa), .str (txt gg)]), ⟨_, rfl, rfl, _, rfl, iteDF (by intro z; cases z) ⟨rfl, rfl⟩⟩, ?_⟩
    rintro σ' H' ⟨rfl, rfl⟩
    refine ⟨_, rfl, lp, rfl, ⟨_, SqL.of upd_same⟩, fun D hD => ?_⟩
    refine comp_listG (K := K) (a := lp) (xs := [.str (txt ww), .str (txt aa), .str (txt gg)]) (fun i H2 ys => Rws b (upd H lp (.lst [.str (txt ww), .str (txt aa), .str (txt gg)])) D [ww, aa, gg] i H2 ys) (show 3 ≤ sizeLine by decide) ?_ ?_ ?_ ?_
    · exact ⟨Same.upd hD, upd_same, rfl, fun j p y _ hy => by simp at hy, fun j k a hj _ => by simp at hj⟩
    · exact fun i H2 ys r => ⟨r.d, r.len, r.sm.seq (SqL.of upd_same)⟩
    · rintro i x H2 ys R hx r kR
      obtain ⟨p, hp, rfl, hlen⟩ : ∃ p, [ww, aa, gg][i]? = some p ∧ x = .str (txt p) ∧ p.length ≤ 20000 := by
        match i, hx with
        | 0, hx => exact ⟨ww, rfl, (Option.some.inj hx).symm, by omega⟩
        | 1, hx => exact ⟨aa, rfl, (Option.some.inj hx).symm, by omega⟩
        | 2, hx => exact ⟨gg, rfl, (Option.some.inj hx).symm, by omega⟩
      refine ⟨_, rfl, _, rfl, b, p, rfl, b36, hlen, fun en H4 s4 => ?_, fun ds ed a ha => ?_⟩
      · obtain ⟨h1, h2⟩ := r.more hD hp (.inl ⟨en, rfl, s4⟩)
        exact kR _ _ h1 h2
      · obtain ⟨h1, h2⟩ := r.more hD hp (.inr ⟨ds, a, ed, rfl, ha, rfl⟩)
        exact kR _ _ h1 h2
    rintro H3 ys r
    have s3 := s1.trans r.sm
    refine ⟨fun σ' H' => σ' = [some (.int (b : Int)), some (.str (txt l)), some (.ref lp), some (.ref D)] ∧ Same H H' ∧ ∃ (d0 d1 d2 : List Nat) (a0 a1 a2 : Addr), H' D = some (.lst [.ref a0, .ref a1, .ref a2]) ∧ RF.lrd b l = (if RF.wOk b d0 then some (RF.num (b : Int) (RF.ig d0), d1, d2) else none) ∧
      H' a0 = some (.lst (ivs d0)) ∧ H' a1 = some (.lst (ivs d1)) ∧ H' a2 = some (.lst (ivs d2)) ∧ H a1 = none ∧ H a2 = none ∧ a1 ≠ a2 ∧ d0 ≠ [] ∧ ¬ (1 < d0.length ∧ d0.head? = some 0), ?_, ?_⟩
    · refine ⟨_, rfl, D, ys, rfl, rfl, SqL.of r.d, r.all, ?_⟩
      rcases r.three with ⟨hn, ha⟩ | ⟨d0, d1, d2, a0, a1, a2, rfl, e0, e1, e2, h0, h1, h2, n1, n2, ne⟩
      · rw [ha]
        refine ⟨_, rfl, iteT (iteT (kn ?_ _ s3))⟩
        rw [el]
        rcases hn with z | z | z
        · rw [z]
        · rw [z]; cases RF.fgs b ww <;> rfl
        · rw [z]; cases RF.fgs b ww <;> cases RF.fgs b aa <;> rfl
      rw [e0, e1, e2] at el
      dsimp only at el
      have hd := r.d
      refine ⟨_, rfl, iteF ?_⟩
      refine ⟨_, rfl, D, _, _, _, rfl, rfl, SqL.of hd, rfl, (show 0 ≤ sizeLine by decide), fun l5 h5 => ?_⟩
      have s5 := Same.upd (o := .lst []) h5
      have t5 := s3.trans s5
      refine ⟨a0, l5, RF.ig d0, [], rfl, rfl, SqL.of (s5 _ _ h0), SqL.of upd_same, _, rfl, ite2D (fun z => ?_) (fun z => ?_)⟩
      · have z : d0 = [] := by simpa [RF.ig] using z
        exact iteT (kn (by rw [el, if_neg (fun y => y.1 z)]) _ t5)
      have z : d0 ≠ [] := fun y => z (by rw [y]; rfl)
      refine ⟨_, rfl, D, _, _, _, rfl, rfl, SqL.of (s5 _ _ hd), rfl, a0, _, rfl, .inl (SqL.of (s5 _ _ h0)), _, _, rfl, rfl, _, rfl, ite2D (fun y => ?_) (fun y => ?_)⟩
      · have y : 1 < d0.length := by
          rw [List.length_map, ig_len] at y
          omega
        obtain ⟨c, d', rfl⟩ : ∃ c d', d0 = c :: d' := by
          cases d0 with
          | nil => exact absurd rfl z
          | cons c d' => exact ⟨c, d', rfl⟩
        have hat : atI (ivs (c :: d')) 0 = some (.int (c : Int)) := atI_nat (j := 0) rfl
        refine ⟨_, rfl, D, _, _, _, rfl, rfl, SqL.of (s5 _ _ hd), rfl, a0, _, _, _, rfl, rfl, SqL.of (s5 _ _ h0), hat, rfl, _, rfl, ite2D (fun x => ?_) (fun x => ?_)⟩
        · have x : c = 0 := by have := V.int.inj x; omega
          exact kn (by rw [el, if_neg (fun q => q.2.1 ⟨y, by rw [x]; rfl⟩)]) _ t5
        · exact ⟨rfl, t5, c :: d', d1, d2, a0, a1, a2, s5 _ _ hd, el, s5 _ _ h0, s5 _ _ h1, s5 _ _ h2, s1.free n1, s1.free n2, ne, z, fun q => x (by
            have : c = 0 := by simpa using q.2
            rw [this]; rfl)⟩
      · exact iteF ⟨rfl, t5, d0, d1, d2, a0, a1, a2, s5 _ _ hd, el, s5 _ _ h0, s5 _ _ h1, s5 _ _ h2, s1.free n1, s1.free n2, ne, z, fun q => y (by
          rw [List.length_map, ig_len]
          have := q.1
          omega)⟩
    rintro σ' H4 ⟨rfl, s4, d0, d1, d2, a0, a1, a2, hd, el, h0, h1, h2, n1, n2, ne, z, nz⟩
    have nb : ∀ R : VK, R (.int (RF.num (b : Int) (RF.ig d0))) H4 → spNumberOf K [.int (b : Int), .ref a0] H4 R E := fun R hR => ⟨(b : Int), a0, RF.ig d0, rfl, SqL.of h0, by omega, by omega, hR⟩
    refine ⟨fun σ' H' => σ' = [some (.int (b : Int)), some (.str (txt l)), some (.ref lp), some (.ref D)] ∧ H' = H4 ∧ RF.wOk b d0, ?_, ?_⟩
    · refine ⟨_, rfl, _, rfl, D, _, _, _, rfl, rfl, SqL.of hd, rfl, (b : Int), a0, RF.ig d0, rfl, SqL.of h0, by omega, by omega, ?_⟩
      refine ⟨_, _, rfl, rfl, ⟨by decide, by decide, by decide⟩, _, _, rfl, rfl, _, rfl, ite2D (fun y => ?_) (fun y => ?_)⟩
      · rw [pow12] at y
        exact kn (by rw [el, if_neg (fun q => by have := q.2.2; omega)]) _ s4
      · rw [pow12] at y
        exact ⟨rfl, rfl, z, nz, by omega⟩
    rintro σ' H' ⟨rfl, rfl, ok⟩
    rw [if_pos ok] at el
    refine ⟨_, rfl, _, rfl, D, _, _, _, rfl, rfl, SqL.of hd, rfl, (b : Int), a0, RF.ig d0, rfl, SqL.of h0, by omega, by omega, ?_⟩
    refine ⟨_, rfl, D, _, _, _, rfl, rfl, SqL.of hd, rfl, _, rfl, D, _, _, _, rfl, rfl, SqL.of hd, rfl, (show 3 ≤ sizeLine by decide), fun p hp => ?_⟩
    have sp := Same.upd (o := .tup [.int (RF.num (b : Int) (RF.ig d0)), .ref a1, .ref a2]) hp
    exact k _ _ _ el p a1 a2 _ ⟨s4.trans sp, upd_same, sp _ _ h1, sp _ _ h2, s4.free hp, n1, n2, ne⟩
theorem got_law_told (T : Txt K mg) : Got P w K mg base "_law_told" 5 ["base", "text"] spTold15 := by
  obtain ⟨F, c0, c1, c2, c3, c4, c5, xs, X_FigureError⟩ := T.x_all
  refine T.d_law_told.got0 sc_law_told (fun vs H Q E h => ?_) (fun f cdv A outer s H vs Q E hr h => ?_)
  · obtain ⟨b, l, rfl, _⟩ := h; rfl
  · obtain ⟨b, l, rfl, hl, h0, h5⟩ := h
    refine ⟨_, (pss0_one (ps_try (i := 2) rfl rfl X_FigureError rfl sc_law_told.nd rfl rfl (fun _ _ hp => (pss_one (ps_ret (pe_callP (gotE_read T) hp (hr.mono (by decide)) rfl (pa_n (pv 0) (pa_n (pv 1) pa_nil)))))) (fun _ => (pss_one (ps_ret (pe_callX (gotX_law_word_of T) ((hr.x.mono (by decide)).mark) rfl (pa_n (pv 2) pa_nil))))))), ?_⟩
    refine ⟨fun cls _ H' => ∃ C j, cls = .ref C ∧ Ref K mg j C ∧ ∀ H2, Same H' H2 → Q (.str (wordOf j)) H2, ?_, ?_⟩
    · refine ⟨_, rfl, _, rfl, b, l, rfl, hl, fun nb C H' R s' => ⟨C, 0, rfl, R, fun H2 s2 => h0 nb H2 (s'.trans s2)⟩, fun ob => ⟨fun e C H' R s' => ⟨C, 5, rfl, R, fun H2 s2 => (h5 ob).1 e H2 (s'.trans s2)⟩, (h5 ob).2⟩⟩
    · rintro cls H' ⟨C, j, rfl, R, k⟩
      refine ⟨C, rfl, R.ex, (R.all F c0 c1 c2 c3 c4 c5 xs).up, fun a σ' hσ ha => ?_⟩
      refine ⟨_, slot_set (n := 3) hσ (by decide), a, C, j, rfl, upd_same, R, fun H2 s2 => ?_⟩
      exact k H2 ((Same.upd ha).trans s2)
theorem got_law_drawn (T : Txt K mg) : Got P w K mg base "_law_drawn" 2 ["script", "base"] (spDrawnT K) := by
  refine T.d_law_drawn.got sc_law_drawn (fun vs H Q E h => ?_) (fun f cdv A outer s H vs Q E hr h => ?_)
  · obtain ⟨sc, ns, b, rfl, _⟩ := h; rfl
  · obtain ⟨sc, ns, b, rfl, hS, ⟨b2, b36⟩, k⟩ := h
    refine ⟨_, (pss_cons (ps_set (i := 2) sc_law_drawn.nd rfl (Or.inr rfl) pe_str)
      (pss_cons (ps_set (i := 3) sc_law_drawn.nd rfl (Or.inl rfl) (pe_lst pa_nil))
      (pss_cons (ps_for PassesOwn.never rfl (pi_range1 rfl T.b_range (pa_k pe_int pa_nil)) (pg_name (i := 4) sc_law_drawn.nd rfl (Or.inl rfl)) (pss_cons (ps_set (i := 5) sc_law_drawn.nd rfl (Or.inr rfl) (pe_callG (got_law_cell_at T) (hr.mono (by decide)) rfl (pa_n (pv 0) (pa_b (pe_op op_add pe_int (pv 4)) pa_nil))))
      (pss_one (ps_expr (pe_bm PySem.F.plainAttrs_list PySem.F.slot_list_append PySem.F.type_list_append mt_append (pv 3) (pa_c (pe_bm PySem.F.plainAttrs_str PySem.F.slot_str_join PySem.F.type_str_join mt_join pe_str (pa_cons (pe_comp [("base", 1), ("signs", 2), ("cell", 5)] rfl (pi_range1 rfl T.b_range (pa_b (pe_op op_add pe_int (pe_op op_mod (pv 5) pe_int)) pa_nil)) ⟨rfl, by decide +kernel, by decide +kernel, rfl, rfl, rfl, ⟨⟨rfl, Or.inr (Or.inl rfl), Or.inl rfl, Or.inl rfl, rfl⟩, ⟨⟨rfl, Or.inr (Or.inl rfl), Or.inl rfl, Or.inl rfl, rfl⟩, ⟨⟨rfl, Or.inr (Or.inl rfl), Or.inl rfl, Or.inl rfl, rfl⟩, True.intro⟩⟩⟩, by decide +kernel⟩ (fun _ _ _ _ => (pe_ix ix_str (pv 2) (pe_callG (got_law_draw T) (hr.mono (by decide)) rfl (pa_n (pv 3) (pa_n (pv 0) (pa_n (pv 1) pa_nil)))) px_c))) pa_nil)) pa_nil))))))
      (pss_cons (ps_set (i := 6) sc_law_drawn.nd rfl (Or.inl rfl) (pe_op op_mod (pe_callG (got_law_cell_at T) (hr.mono (by decide)) rfl (pa_n (pv 0) (pa_k pe_int pa_nil))) pe_int))
      (pss_cons (ps_set (i := 7) sc_law_drawn.nd rfl (Or.inl rfl) (pe_ix ix_list (pv 3) pe_int px_k))
      (pss_mid (ps_while PassesOwn.never (PW.pt (pw_and (pt_cmpR op_gt (pe_callB call_len_str rfl T.b_len PySem.boot_len (pa_n (pv 7) pa_nil)) pe_int (nomark _)) (pw_and1 (pt_cmpR op_eq (pe_ix ix_str (pv 7) pe_int px_k) pe_str (nomark _))))) (pss_one (ps_set (i := 7) sc_law_drawn.nd rfl (Or.inl rfl) (pe_slice sl_str (pv 7) (po_some pe_int) po_none))))
      (pss_cons (ps_set (i := 8) sc_law_drawn.nd rfl (Or.inl rfl) (pe_lst (pa_n (pv 7) (pa_b (pe_op op_add_str (pe_op op_add_str (pv 7) pe_str) (pe_ix ix_list (pv 3) pe_int px_k)) (pa_b (pe_op op_add_str (pe_op op_add_str (pe_op op_add_str (pe_op op_add_str (pe_op op_add_str (pv 7) pe_str) (pe_ix ix_list (pv 3) pe_int px_k)) pe_str) (pe_ix ix_list (pv 3) pe_int px_k)) pe_str) pa_nil)))))
      (pss_cons (ps_set (i := 8) sc_law_drawn.nd rfl (Or.inl rfl) (pe_op op_cat (pv 8) (pe_lst (pa_b (pe_op op_add_str (pe_op op_add_str (pe_op op_add_str (pv 7) pe_str) (pe_ix ix_list (pv 3) pe_int px_k)) pe_str) (pa_b (pe_op op_add_str (pe_op op_add_str (pe_ix ix_list (pv 3) pe_int px_k) pe_str) (pe_ix ix_list (pv 3) pe_int px_k)) pa_nil)))))
      (pss_one (ps_ret (pe_ix ix_list (pv 8) (pv 6) px_n))))))))))), ?_⟩
    refine ⟨(show 0 ≤ sizeLine by decide), fun lp hlp => ?_⟩
    refine ⟨3, rfl, by decide, by decide, ?_⟩
    refine for_range (lo := 0) (n := (3 : Int).toNat) (fun i σ H2 => ∃ (v4 v5 : Option V) (zs : List Str), σ = [some (.ref sc), some (.int b), some (.str signsT), some (.ref lp), v4, v5, none, none, none] ∧ zs.length = i ∧ (∀ z ∈ zs, Str.length z ≤ 5) ∧ H2 lp = some (.lst (zs.map V.str)) ∧ Same H H2) ⟨_, _, [], rfl, rfl, (fun z hz => by cases hz), upd_same, Same.upd hlp⟩ ?_ ?_
    · rintro i σ H2 hi ⟨v4, v5, zs, rfl, hzl, hz5, hl, s2⟩
      refine ⟨_, rfl, _, rfl, _, _, rfl, rfl, sc, ns, _, rfl, s2.seq hS, by omega, fun c hc => ?_⟩
      have c0 : 0 ≤ c % 5 := Int.emod_nonneg _ (by decide)
      have c5 : c % 5 < 5 := Int.emod_lt_of_pos _ (by decide)
      refine ⟨_, rfl, .inl ⟨rfl, _, SqL.of hl⟩, rfl, _, rfl, _, _, rfl, rfl, (show (0 : Int) < 5 by decide), _, _, rfl, rfl, _, rfl, by omega, by omega, fun D hD => ?_⟩
      refine comp_range (lo := 0) (n := (1 + c % 5).toNat) (fun j => V.str ⟨#[RF.sgn (drawF c (0 + (j : Int)) b).toNat]⟩) (small_text (by omega)) hD ?_ ?_
      · intro j H3 hj s3 R hR
        have bd := drawF_bd c (0 + (j : Int)) (b := b) (by omega)
        have hat : atI signsT.cps.toList (drawF c (0 + (j : Int)) b) = some (RF.sgn (drawF c (0 + (j : Int)) b).toNat) := by
          have := signs_at (d := (drawF c (0 + (j : Int)) b).toNat) (by omega)
          rw [Int.toNat_of_nonneg bd.1] at this
          exact this
        exact ⟨_, rfl, _, rfl, _, rfl, _, rfl, c, _, b, rfl, by omega, _, _, _, rfl, rfl, small_text (by rw [signs_len]; decide), hat, hR⟩
      have e : (List.range (1 + c % 5).toNat).map (fun (j : Nat) => V.str ⟨#[RF.sgn (drawF c (0 + (j : Int)) b).toNat]⟩) = (((List.range (1 + c % 5).toNat).map fun (j : Nat) => RF.sgn (drawF c (0 + (j : Int)) b).toNat).map fun c => (⟨#[c]⟩ : Str)).map V.str := by
        rw [List.map_map, List.map_map]; rfl
      rw [e]
      generalize hw : (List.range (1 + c % 5).toNat).map (fun (j : Nat) => RF.sgn (drawF c (0 + (j : Int)) b).toNat) = ws
      have wl : ws.length ≤ 5 := by
        rw [← hw, List.length_map, List.length_range]
        omega
      refine ⟨_, D, ws.map fun c => (⟨#[c]⟩ : Str), rfl, rfl, SqL.of upd_same, joinOk_signs (by omega), ?_⟩
      have e2 : PySem.Txt.join (Str.ofString "") (ws.map fun c => (⟨#[c]⟩ : Str)) = txt ws := join_signs _
      rw [e2]
      have s3 := Same.upd (o := .lst ((ws.map fun c => (⟨#[c]⟩ : Str)).map V.str)) hD
      refine ⟨lp, _, _, rfl, rfl, s3 _ _ hl, by rw [List.length_map, hzl]; exact Nat.lt_of_lt_of_le hi (by decide), ?_⟩
      refine ⟨_, _, zs ++ [txt ws], rfl, by rw [List.length_append, hzl]; rfl, fun z hz => ?_, by rw [upd_same, List.map_append]; rfl, (s2.trans s3).upd2 hlp⟩
      rcases List.mem_append.mp hz with hz | hz
      · exact hz5 z hz
      · have : z = txt ws := by simpa using hz
        rw [this, txt_len]; exact wl
    rintro σ H2 ⟨v4, v5, zs, rfl, hzl, hz5, hl, s2⟩
    obtain ⟨z0, z1, z2, rfl⟩ : ∃ z0 z1 z2, zs = [z0, z1, z2] := by
      match zs, hzl with
      | [z0, z1, z2], _ => exact ⟨z0, z1, z2, rfl⟩
    have q0 := hz5 z0 (by simp)
    have q1 := hz5 z1 (by simp)
    have q2 := hz5 z2 (by simp)
    refine ⟨_, rfl, sc, ns, _, rfl, s2.seq hS, by decide, fun c hc => ?_⟩
    have c0 : 0 ≤ c % 5 := Int.emod_nonneg _ (by decide)
    have c5 : c % 5 < 5 := Int.emod_lt_of_pos _ (by decide)
    refine ⟨_, _, rfl, rfl, (show (0 : Int) < 5 by decide), ?_⟩
    refine ⟨_, rfl, lp, _, _, _, rfl, rfl, SqL.of hl, rfl, ?_⟩
    refine ⟨fun σ H3 => ∃ y : Str, y.length ≤ 5 ∧ σ = [some (.ref sc), some (.int b), some (.str signsT), some (.ref lp), v4, v5, some (.int (c % 5)), some (.str y), none] ∧ H3 = H2, ?_, ?_⟩
    · refine ⟨fun m σ H3 => ∃ y : Str, m = y.length ∧ y.length ≤ 5 ∧ σ = [some (.ref sc), some (.int b), some (.str signsT), some (.ref lp), v4, v5, some (.int (c % 5)), some (.str y), none] ∧ H3 = H2, ⟨_, z0, rfl, q0, rfl, rfl⟩, ?_⟩
      rintro m σ H3 ⟨y, rfl, y5, rfl, rfl⟩
      refine ⟨_, rfl, _, rfl, small_text (by omega), _, _, rfl, rfl, _, rfl, ite2D (fun h1 => ?_) (fun h1 => iteF ⟨y, y5, rfl, rfl⟩)⟩
      have h1 : 1 < y.length := by omega
      obtain ⟨a, ha1, ha⟩ := cps_at (z := y) (i := 0) (by omega)
      refine ⟨_, rfl, _, _, _, rfl, rfl, small_text (by omega), atI_nat (j := 0) ha, rfl, _, rfl, ite2D (fun h2 => ?_) (fun h2 => ⟨y, y5, rfl, rfl⟩)⟩
      refine ⟨fun σ' H4 => ∃ y' : Str, y'.length < y.length ∧ σ' = [some (.ref sc), some (.int b), some (.str signsT), some (.ref lp), v4, v5, some (.int (c % 5)), some (.str y'), none] ∧ H4 = H3, ?_, ?_⟩
      · rintro σ' H4 ⟨y', hy', rfl, rfl⟩
        exact ⟨_, hy', y', rfl, by omega, rfl, rfl⟩
      · refine ⟨_, rfl, _, rfl, _, rfl, small_text (by omega), ?_⟩
        refine ⟨_, ?_, rfl, rfl⟩
        have e := slice_from (l := y.cps.toList) (k := 1) (by show 1 ≤ y.cps.toList.length; rw [Array.length_toList]; exact Nat.le_of_lt h1)
        have e2 : PySem.Txt.slice y (some 1) none = txt (y.cps.toList.drop 1) := (congrArg (fun z => PySem.Txt.slice z (some 1) none) (txt_of y)).trans e
        rw [e2, txt_len, List.length_drop, Array.length_toList]
        show y.length - 1 < y.length
        omega
    rintro σ H3 ⟨y, y5, rfl, rfl⟩
    have pt : (Str.ofString ".").length ≤ 1 := by decide +kernel
    have po : (Str.ofString "(").length ≤ 1 := by decide +kernel
    have pc : (Str.ofString ")").length ≤ 1 := by decide +kernel
    have pp : (Str.ofString ".(").length ≤ 2 := by decide +kernel
    refine ⟨_, rfl, ?_⟩
    refine ⟨_, rfl, _, _, rfl, rfl, add_ok y5 pt (by decide), _, rfl, lp, _, _, _, rfl, rfl, SqL.of hl, rfl, _, _, rfl, rfl, add_ok (add_le y5 pt) q1 (by decide), ?_⟩
    refine ⟨_, rfl, _, _, rfl, rfl, add_ok y5 pt (by decide), _, rfl, lp, _, _, _, rfl, rfl, SqL.of hl, rfl, _, _, rfl, rfl, add_ok (add_le y5 pt) q1 (by decide), _, _, rfl, rfl, add_ok (add_le (add_le y5 pt) q1) po (by decide),
      _, rfl, lp, _, _, _, rfl, rfl, SqL.of hl, rfl, _, _, rfl, rfl, add_ok (add_le (add_le (add_le y5 pt) q1) po) q2 (by decide), _, _, rfl, rfl, add_ok (add_le (add_le (add_le (add_le y5 pt) q1) po) q2) pc (by decide), ?_⟩
    refine ⟨(show 3 ≤ sizeLine by decide), fun l4 h4 => ?_⟩
    have x1 : ∀ v ∈ [V.str y, V.str (y ++ Str.ofString "." ++ z1), V.str (y ++ Str.ofString "." ++ z1 ++ Str.ofString "(" ++ z2 ++ Str.ofString ")")], Tx 100 v :=
      tx_cons (by omega) (tx_cons (Nat.le_trans (add_le (add_le y5 pt) q1) (by decide)) (tx_cons (Nat.le_trans (add_le (add_le (add_le (add_le (add_le y5 pt) q1) po) q2) pc) (by decide)) tx_nil))
    have s4 := Same.upd (o := .lst [V.str y, V.str (y ++ Str.ofString "." ++ z1), V.str (y ++ Str.ofString "." ++ z1 ++ Str.ofString "(" ++ z2 ++ Str.ofString ")")]) h4
    have hl4 := s4 _ _ hl
    refine ⟨_, rfl, _, rfl, _, _, rfl, rfl, add_ok y5 pp (by decide), _, rfl, lp, _, _, _, rfl, rfl, SqL.of hl4, rfl, _, _, rfl, rfl, add_ok (add_le y5 pp) q2 (by decide), _, _, rfl, rfl, add_ok (add_le (add_le y5 pp) q2) pc (by decide), ?_⟩
    refine ⟨_, rfl, lp, _, _, _, rfl, rfl, SqL.of hl4, rfl, _, _, rfl, rfl, add_ok q0 pt (by decide), _, rfl, lp, _, _, _, rfl, rfl, SqL.of hl4, rfl, _, _, rfl, rfl, add_ok (add_le q0 pt) q1 (by decide), (show 2 ≤ sizeLine by decide), fun l5 h5 => ?_⟩
    have x2 : ∀ v ∈ [V.str (y ++ Str.ofString ".(" ++ z2 ++ Str.ofString ")"), V.str (z0 ++ Str.ofString "." ++ z1)], Tx 100 v :=
      tx_cons (Nat.le_trans (add_le (add_le (add_le y5 pp) q2) pc) (by decide)) (tx_cons (Nat.le_trans (add_le (add_le q0 pt) q1) (by decide)) tx_nil)
    have s5 := Same.upd (o := .lst [V.str (y ++ Str.ofString ".(" ++ z2 ++ Str.ofString ")"), V.str (z0 ++ Str.ofString "." ++ z1)]) h5
    refine ⟨l4, l5, _, _, rfl, rfl, s5 _ _ upd_same, upd_same, (show 5 ≤ sizeLine by decide), fun l6 h6 => ?_⟩
    obtain ⟨z, hat, hz⟩ := tx_at (n := 5) (tx_app x1 x2) rfl c0 (by omega)
    refine ⟨_, rfl, _, rfl, l6, _, _, _, rfl, rfl, SqL.of upd_same, hat, ?_⟩
    exact k z _ hz (((s2.trans s4).trans s5).trans (Same.upd h6))
theorem got_law_shown (T : Txt K mg) : Got P w K mg base "_law_shown" 1 ["base", "number"] spLawShown := by
  refine T.d_law_shown.got sc_law_shown (fun vs H Q E h => ?_) (fun f cdv A outer s H vs Q E hr h => ?_)
  · obtain ⟨b, n, rfl, _⟩ := h; rfl
  · obtain ⟨b, n, rfl, ⟨b2, b36⟩, n0, n1, k⟩ := h
    refine ⟨_, (pss_cons (ps_set (i := 2) sc_law_shown.nd rfl (Or.inl rfl) pe_str)
      (pss_cons (ps_while PassesOwn.never (pt_cmpR op_gt (pv 1) pe_int (nomark _)) (pss_cons (ps_set (i := 2) sc_law_shown.nd rfl (Or.inl rfl) (pe_op op_add_str (pe_ix ix_str pe_str (pe_op op_mod (pv 1) (pv 0)) px_b) (pv 2)))
      (pss_one (ps_set (i := 1) sc_law_shown.nd rfl (Or.inl rfl) (pe_op op_fdiv (pv 1) (pv 0))))))
      (pss_one (ps_ret (pv 2))))), ?_⟩
    refine ⟨fun m σ H2 => ∃ (r : Int) (z : Str), m = r.toNat ∧ 0 ≤ r ∧ r * 2 ^ z.length ≤ 1000000000001 ∧ z.length ≤ 40 ∧ σ = [some (.int b), some (.int r), some (.str z)] ∧ H2 = H, ⟨_, n, ⟨#[]⟩, rfl, n0, by show n * 2 ^ 0 ≤ _; omega, by decide, rfl, rfl⟩, ?_⟩
    rintro m σ H2 ⟨r, z, rfl, r0, hr1, hz, rfl, rfl⟩
    refine ⟨_, rfl, _, _, rfl, rfl, _, rfl, ite2D (fun h0 => ?_) (fun h0 => ?_)⟩
    · have p0 : (0 : Int) < 2 ^ z.length := Int.pow_pos (by decide)
      have hz2 : z.length < 40 := by
        by_cases hc : z.length < 40
        · exact hc
        · exfalso
          have e : z.length = 40 := by omega
          rw [e] at hr1
          omega
      have hm : 0 ≤ r % b ∧ r % b < b := ⟨Int.emod_nonneg _ (by omega), Int.emod_lt_of_pos _ (by omega)⟩
      have hd : r / b < r := Int.ediv_lt_self_of_pos_of_ne_one (by omega) (by omega)
      have hd0 : 0 ≤ r / b := Int.ediv_nonneg r0 (by omega)
      have hd2 : r / b * 2 ≤ r := by
        have h1 := Int.mul_ediv_self_le (x := r) (k := b) (by omega)
        have h2 : r / b * 2 ≤ r / b * b := Int.mul_le_mul_of_nonneg_left b2 hd0
        rw [Int.mul_comm b] at h1
        omega
      obtain ⟨j, hj⟩ : ∃ j : Nat, r % b = (j : Int) := ⟨(r % b).toNat, by omega⟩
      have hat : atI signsT.cps.toList (r % b) = some (RF.sgn j) := by rw [hj]; exact signs_at (by omega)
      refine ⟨fun σ' H3 => ∃ z' : Str, z'.length = z.length + 1 ∧ σ' = [some (.int b), some (.int (r / b)), some (.str z')] ∧ H3 = H2, ?_, ?_⟩
      · rintro σ' H3 ⟨z', hz', rfl, rfl⟩
        refine ⟨_, ?_, r / b, z', rfl, hd0, ?_, by omega, rfl, rfl⟩
        · omega
        · rw [hz', Int.pow_succ, Int.mul_comm (2 ^ z.length) 2, ← Int.mul_assoc]
          exact Int.le_trans (Int.mul_le_mul_of_nonneg_right hd2 (Int.le_of_lt p0)) hr1
      · refine ⟨_, rfl, _, rfl, _, _, rfl, rfl, (show (0 : Int) < b by omega), _, _, _, rfl, rfl, small_text (by rw [signs_len]; decide), hat, _, rfl, _, _, rfl, rfl, add_ok (a := 1) (b := 40) (Nat.le_refl 1) hz (by decide), ?_⟩
        refine ⟨_, rfl, _, rfl, _, _, rfl, rfl, ⟨by omega, by omega⟩, ?_⟩
        exact ⟨_, (str_len _ _).trans (Nat.add_comm _ _), rfl, rfl⟩
    · exact ⟨_, rfl, k z hz⟩
theorem got_law_odd (T : Txt K mg) : Got P w K mg base "_law_odd" 2 ["script", "base", "text"] (spOdd K) := by
  refine T.d_law_odd.got sc_law_odd (fun vs H Q E h => ?_) (fun f cdv A outer s H vs Q E hr h => ?_)
  · obtain ⟨sc, ns, b, z, rfl, _⟩ := h; rfl
  · obtain ⟨sc, ns, b, t, rfl, hS, ⟨b2, b36⟩, tl, k⟩ := h
    have sl : ∀ lo hi, (PySem.Txt.slice t lo hi).length ≤ 100 := fun lo hi => Nat.le_trans (PySem.Txt.slice_le t lo hi) tl
    have st : t.length ≤ sizeLine := small_text (by omega)
    have sg : ∀ i : Int, 0 ≤ i → i < 36 → atI signsT.cps.toList i = some (RF.sgn i.toNat) := fun i h0 h1 => by
      have := signs_at (d := i.toNat) (by omega)
      rw [Int.toNat_of_nonneg h0] at this
      exact this
    have ss : signsT.length ≤ sizeLine := small_text (by rw [signs_len]; decide)
    have o1 : (Str.ofString "1").length ≤ 1 := by decide +kernel
    have mo : ∀ n : Int, 0 ≤ n → n ≤ 4001 → MulOk (Str.ofString "1") n := fun n h0 h1 => PyProof.Rows.mulOk_of 1 4001 o1 h1 (by omega) (by decide) (by decide)
    have ml : ∀ n : Int, 0 ≤ n → n ≤ 4001 → (PySem.Txt.mul (Str.ofString "1") n).length ≤ 4001 := fun n h0 h1 => by
      rw [mul_len _ h0]
      exact Nat.le_trans (Nat.mul_le_mul_right _ o1) (by omega)
    have w2 : (Str.ofString "1.").length ≤ 2 := by decide +kernel
    have w3 : (Str.ofString "1.(").length ≤ 3 := by decide +kernel
    have po : (Str.ofString "(").length ≤ 1 := by decide +kernel
    have pc : (Str.ofString ")").length ≤ 1 := by decide +kernel
    have p1 : (Str.ofString ".1").length ≤ 2 := by decide +kernel
    refine ⟨_, (pss_mid (ps_set (i := 3) sc_law_odd.nd rfl (Or.inl rfl) pe_str)
      (pss_mid (ps_set (i := 4) sc_law_odd.nd rfl (Or.inl rfl) (pe_lst (pa_k pe_str (pa_k pe_str (pa_k pe_str (pa_k pe_str (pa_k pe_str (pa_k pe_str (pa_k pe_str (pa_k pe_str (pa_k pe_str (pa_k pe_str (pa_k pe_str pa_nil)))))))))))))
      (pss_mid (ps_set (i := 4) sc_law_odd.nd rfl (Or.inl rfl) (pe_op op_cat (pv 4) (pe_lst (pa_k pe_str (pa_k pe_str (pa_s (pe_ix ix_str (pv 3) (pe_op op_mod (pv 1) pe_int) px_b) (pa_s (pe_ix ix_str (pv 3) (pe_op op_sub (pv 1) pe_int) px_b) (pa_k pe_str pa_nil))))))))
      (pss_mid (ps_set (i := 5) sc_law_odd.nd rfl (Or.inl rfl) (pe_ix ix_list (pv 4) (pe_op op_mod (pe_callG (got_law_cell_at T) (hr.mono (by decide)) rfl (pa_n (pv 0) (pa_k pe_int pa_nil))) pe_int) px_b))
      (pss_mid (ps_set (i := 6) sc_law_odd.nd rfl (Or.inl rfl) (pe_op op_mod (pe_callG (got_law_cell_at T) (hr.mono (by decide)) rfl (pa_n (pv 0) (pa_k pe_int pa_nil))) (pe_op op_add (pe_callB call_len_str rfl T.b_len PySem.boot_len (pa_n (pv 2) pa_nil)) pe_int)))
      (pss_mid (ps_set (i := 7) sc_law_odd.nd rfl (Or.inl rfl) (pe_op op_mod (pe_callG (got_law_cell_at T) (hr.mono (by decide)) rfl (pa_n (pv 0) (pa_k pe_int pa_nil))) pe_int))
      (pss_mid (ps_if (pt_cmpR op_eq (pv 7) pe_int (nomark _)) (pss_one (ps_ret (pe_op op_add_str (pe_op op_add_str (pe_slice sl_str (pv 2) po_none (po_some (pv 6))) (pv 5)) (pe_slice sl_str (pv 2) (po_some (pv 6)) po_none)))) pss_nil)
      (pss_mid (ps_if (pt_cmpR op_eq (pv 7) pe_int (nomark _)) (pss_one (ps_ret (pe_op op_add_str (pe_slice sl_str (pv 2) po_none (po_some (pv 6))) (pe_slice sl_str (pv 2) (po_some (pe_op op_add (pv 6) pe_int)) po_none)))) pss_nil)
      (pss_mid (ps_if (pt_cmpR op_eq (pv 7) pe_int (nomark _)) (pss_one (ps_ret (pe_op op_add_str (pe_op op_add_str (pe_slice sl_str (pv 2) po_none (po_some (pv 6))) (pv 5)) (pe_slice sl_str (pv 2) (po_some (pe_op op_add (pv 6) pe_int)) po_none)))) pss_nil)
      (pss_mid (ps_set (i := 8) sc_law_odd.nd rfl (Or.inl rfl) (pe_lst (pa_k pe_str (pa_k pe_str (pa_k pe_str (pa_k pe_str (pa_k pe_str (pa_k pe_str (pa_k pe_str (pa_k pe_str (pa_k pe_str (pa_k pe_str (pa_k pe_str (pa_k pe_str pa_nil))))))))))))))
      (pss_mid (ps_set (i := 8) sc_law_odd.nd rfl (Or.inl rfl) (pe_op op_cat (pv 8) (pe_lst (pa_k pe_str (pa_k pe_str (pa_k pe_str (pa_k pe_str pa_nil)))))))
      (pss_mid (ps_set (i := 8) sc_law_odd.nd rfl (Or.inl rfl) (pe_op op_cat (pv 8) (pe_lst (pa_b (pe_op op_mulS pe_str pe_int) (pa_k pe_str (pa_k pe_str (pa_k pe_str (pa_k pe_str (pa_k pe_str (pa_b (pe_op op_add_str pe_str (pe_op op_mulS pe_str pe_int)) (pa_b (pe_op op_add_str (pe_op op_add_str pe_str (pe_op op_mulS pe_str pe_int)) pe_str) pa_nil)))))))))))
      (pss_mid (ps_set (i := 8) sc_law_odd.nd rfl (Or.inl rfl) (pe_op op_cat (pv 8) (pe_lst (pa_b (pe_op op_add_str pe_str (pe_op op_mulS pe_str pe_int)) (pa_b (pe_op op_add_str (pe_op op_add_str (pe_op op_add_str (pe_op op_add_str pe_str (pe_op op_mulS pe_str pe_int)) pe_str) (pe_op op_mulS pe_str pe_int)) pe_str) pa_nil)))))
      (pss_mid (ps_set (i := 8) sc_law_odd.nd rfl (Or.inl rfl) (pe_op op_cat (pv 8) (pe_lst (pa_c (pe_callG (got_law_shown T) (hr.mono (by decide)) rfl (pa_n (pv 1) (pa_b (pe_op op_pow pe_int pe_int) pa_nil))) (pa_b (pe_op op_add_str (pe_callG (got_law_shown T) (hr.mono (by decide)) rfl (pa_n (pv 1) (pa_b (pe_op op_add (pe_op op_pow pe_int pe_int) pe_int) pa_nil))) pe_str) pa_nil)))))
      (pss_one (ps_ret (pe_ix ix_list (pv 8) (pe_op op_mod (pe_callG (got_law_cell_at T) (hr.mono (by decide)) rfl (pa_n (pv 0) (pa_k pe_int pa_nil))) pe_int) px_b))))))))))))))))), ?_⟩
    refine ⟨fun σ H1 => σ = [some (.ref sc), some (.int b), some (.str t), some (.str signsT), none, none, none, none, none] ∧ H1 = H, ⟨rfl, rfl⟩, ?_⟩
    rintro σ H1 ⟨rfl, rfl⟩
    refine ⟨fun σ H2 => ∃ l, σ = [some (.ref sc), some (.int b), some (.str t), some (.str signsT), some (.ref l), none, none, none, none] ∧ Lst H1 1 11 l H2, ⟨(show 11 ≤ sizeLine by decide), fun l4 h4 => ⟨l4, rfl, .mk0 (Same.refl _) h4 rfl (tx_cons (by decide +kernel) (tx_cons (by decide +kernel) (tx_cons (by decide +kernel) (tx_cons (by decide +kernel) (tx_cons (by decide +kernel) (tx_cons (by decide +kernel) (tx_cons (by decide +kernel) (tx_cons (by decide +kernel) (tx_cons (by decide +kernel) (tx_cons (by decide +kernel) (tx_cons (by decide +kernel) tx_nil)))))))))))⟩⟩, ?_⟩
    rintro σ H2 ⟨l4, rfl, ⟨s2, L, hL, nL, xL⟩⟩
    refine ⟨fun σ H2 => ∃ l, σ = [some (.ref sc), some (.int b), some (.str t), some (.str signsT), some (.ref l), none, none, none, none] ∧ Lst H1 1 16 l H2, ?_, ?_⟩
    · have m0 : 0 ≤ b % 36 := Int.emod_nonneg _ (by decide)
      have m1 : b % 36 < 36 := Int.emod_lt_of_pos _ (by decide)
      refine ⟨_, rfl, _, rfl, _, rfl, _, _, rfl, rfl, (show (0 : Int) < 36 by decide), _, _, _, rfl, rfl, ss, sg _ m0 m1, _, rfl, _, rfl, _, _, rfl, rfl, _, _, _, rfl, rfl, ss, sg _ (show 0 ≤ b - 1 by omega) (by omega), (show 5 ≤ sizeLine by decide), fun l5 h5 => ?_⟩
      refine ⟨l4, l5, _, _, rfl, rfl, Same.upd h5 _ _ hL, upd_same, by rw [nL]; exact (show 16 ≤ sizeLine by decide), fun l6 h6 => ⟨l6, rfl, .mk0 (s2.trans (Same.upd h5)) h6 (by rw [List.length_append, nL]; rfl) (tx_app xL ?_)⟩⟩
      exact tx_cons (by decide +kernel) (tx_cons (by decide +kernel) (tx_cons (Nat.le_refl 1) (tx_cons (Nat.le_refl 1) (tx_cons (by decide +kernel) tx_nil))))
    clear hL nL xL s2 L
    rintro σ H2 ⟨l4, rfl, ⟨s2, L, hL, nL, xL⟩⟩
    refine ⟨fun σ H3 => ∃ y : Str, y.length ≤ 1 ∧ σ = [some (.ref sc), some (.int b), some (.str t), some (.str signsT), some (.ref l4), some (.str y), none, none, none] ∧ H3 = H2, ?_, ?_⟩
    · refine ⟨_, rfl, _, rfl, sc, ns, _, rfl, s2.seq hS, by decide, fun c hc => ?_⟩
      obtain ⟨y, hat, hy⟩ := tx_at xL nL (i := c % 16) (Int.emod_nonneg _ (by decide)) (Int.emod_lt_of_pos _ (by decide))
      exact ⟨_, _, rfl, rfl, (show (0 : Int) < 16 by decide), l4, _, _, _, rfl, rfl, SqL.of hL, hat, y, hy, rfl, rfl⟩
    rintro σ H3 ⟨y, hy, rfl, rfl⟩
    refine ⟨fun σ H2 => ∃ a : Int, σ = [some (.ref sc), some (.int b), some (.str t), some (.str signsT), some (.ref l4), some (.str y), some (.int a), none, none] ∧ H2 = H3, ?_, ?_⟩
    · refine ⟨_, rfl, sc, ns, _, rfl, s2.seq hS, by decide, fun c hc => ?_⟩
      exact ⟨_, rfl, _, rfl, st, _, _, rfl, rfl, _, _, rfl, rfl, (show (0 : Int) < (t.length : Int) + 1 by omega), _, rfl, rfl⟩
    rintro σ H2 ⟨a, rfl, rfl⟩
    refine ⟨fun σ H3 => ∃ wy : Int, σ = [some (.ref sc), some (.int b), some (.str t), some (.str signsT), some (.ref l4), some (.str y), some (.int a), some (.int wy), none] ∧ H3 = H2, ?_, ?_⟩
    · refine ⟨_, rfl, sc, ns, _, rfl, s2.seq hS, by decide, fun c hc => ?_⟩
      exact ⟨_, _, rfl, rfl, (show (0 : Int) < 4 by decide), _, rfl, rfl⟩
    rintro σ H3 ⟨wy, rfl, rfl⟩
    refine ⟨fun σ Ha => σ = [some (.ref sc), some (.int b), some (.str t), some (.str signsT), some (.ref l4), some (.str y), some (.int a), some (.int wy), none] ∧ Ha = H3, ⟨_, rfl, rfl, _, rfl, ite2D (fun _ => ⟨_, rfl, _, rfl, _, rfl, _, rfl, st, _, rfl, _, _, rfl, rfl, add_ok (sl _ _) hy (by decide), _, rfl, _, rfl, _, rfl, _, rfl, st, _, _, rfl, rfl, add_ok (add_le (sl _ _) hy) (sl _ _) (by decide), k _ _ (Nat.le_trans (add_le (add_le (sl _ _) hy) (sl _ _)) (by decide)) s2⟩) (fun _ => ⟨rfl, rfl⟩)⟩, ?_⟩
    rintro σ Ha ⟨rfl, rfl⟩
    refine ⟨fun σ Hb => σ = [some (.ref sc), some (.int b), some (.str t), some (.str signsT), some (.ref l4), some (.str y), some (.int a), some (.int wy), none] ∧ Hb = Ha, ⟨_, rfl, rfl, _, rfl, ite2D (fun _ => ⟨_, rfl, _, rfl, _, rfl, _, rfl, st, _, rfl, _, rfl, _, _, rfl, rfl, _, rfl, _, rfl, st, _, _, rfl, rfl, add_ok (sl _ _) (sl _ _) (by decide), k _ _ (Nat.le_trans (add_le (sl _ _) (sl _ _)) (by decide)) s2⟩) (fun _ => ⟨rfl, rfl⟩)⟩, ?_⟩
    rintro σ Hb ⟨rfl, rfl⟩
    refine ⟨fun σ Hc => σ = [some (.ref sc), some (.int b), some (.str t), some (.str signsT), some (.ref l4), some (.str y), some (.int a), some (.int wy), none] ∧ Hc = Hb, ⟨_, rfl, rfl, _, rfl, ite2D (fun _ => ⟨_, rfl, _, rfl, _, rfl, _, rfl, st, _, rfl, _, _, rfl, rfl, add_ok (sl _ _) hy (by decide), _, rfl, _, rfl, _, _, rfl, rfl, _, rfl, _, rfl, st, _, _, rfl, rfl, add_ok (add_le (sl _ _) hy) (sl _ _) (by decide), k _ _ (Nat.le_trans (add_le (add_le (sl _ _) hy) (sl _ _)) (by decide)) s2⟩) (fun _ => ⟨rfl, rfl⟩)⟩, ?_⟩
    rintro σ Hc ⟨rfl, rfl⟩
    clear hL nL xL L
    refine ⟨fun σ H4 => ∃ l, σ = [some (.ref sc), some (.int b), some (.str t), some (.str signsT), some (.ref l4), some (.str y), some (.int a), some (.int wy), some (.ref l)] ∧ Lst H1 9000 12 l H4, ⟨(show 12 ≤ sizeLine by decide), fun l8 h8 => ⟨l8, rfl, .mk0 s2 h8 rfl (tx_cons (by decide +kernel) (tx_cons (by decide +kernel) (tx_cons (by decide +kernel) (tx_cons (by decide +kernel) (tx_cons (by decide +kernel) (tx_cons (by decide +kernel) (tx_cons (by decide +kernel) (tx_cons (by decide +kernel) (tx_cons (by decide +kernel) (tx_cons (by decide +kernel) (tx_cons (by decide +kernel) (tx_cons (by decide +kernel) tx_nil))))))))))))⟩⟩, ?_⟩
    rintro σ H4 ⟨l8, rfl, ⟨s4, L, hL, nL, xL⟩⟩
    refine ⟨fun σ H5 => ∃ l, σ = [some (.ref sc), some (.int b), some (.str t), some (.str signsT), some (.ref l4), some (.str y), some (.int a), some (.int wy), some (.ref l)] ∧ Lst H1 9000 16 l H5, ?_, ?_⟩
    · refine ⟨_, rfl, (show 4 ≤ sizeLine by decide), fun l5 h5 => ?_⟩
      refine ⟨l8, l5, _, _, rfl, rfl, Same.upd h5 _ _ hL, upd_same, by rw [nL]; exact (show 16 ≤ sizeLine by decide), fun l6 h6 => ⟨l6, rfl, .mk0 (s4.trans (Same.upd h5)) h6 (by rw [List.length_append, nL]; rfl) (tx_app xL ?_)⟩⟩
      exact (tx_cons (by decide +kernel) (tx_cons (by decide +kernel) (tx_cons (by decide +kernel) (tx_cons (by decide +kernel) tx_nil))))
    clear hL nL xL s4 L
    rintro σ H5 ⟨l8, rfl, ⟨s4, L, hL, nL, xL⟩⟩
    refine ⟨fun σ H5 => ∃ l, σ = [some (.ref sc), some (.int b), some (.str t), some (.str signsT), some (.ref l4), some (.str y), some (.int a), some (.int wy), some (.ref l)] ∧ Lst H1 9000 24 l H5, ?_, ?_⟩
    · refine ⟨_, rfl, _, _, rfl, rfl, mo 60 (by decide) (by decide), _, _, rfl, rfl, mo 4001 (by decide) (by decide), _, _, rfl, rfl, add_ok w2 (ml 4001 (by decide) (by decide)) (by decide), _, _, rfl, rfl, mo 4001 (by decide) (by decide), _, _, rfl, rfl, add_ok w3 (ml 4001 (by decide) (by decide)) (by decide), _, _, rfl, rfl, add_ok (add_le w3 (ml 4001 (by decide) (by decide))) pc (by decide), (show 8 ≤ sizeLine by decide), fun l5 h5 => ?_⟩
      refine ⟨l8, l5, _, _, rfl, rfl, Same.upd h5 _ _ hL, upd_same, by rw [nL]; exact (show 24 ≤ sizeLine by decide), fun l6 h6 => ⟨l6, rfl, .mk0 (s4.trans (Same.upd h5)) h6 (by rw [List.length_append, nL]; rfl) (tx_app xL ?_)⟩⟩
      exact tx_cons (Nat.le_trans (ml 60 (by decide) (by decide)) (by decide)) (tx_cons (by decide +kernel) (tx_cons (by decide +kernel) (tx_cons (by decide +kernel) (tx_cons (by decide +kernel) (tx_cons (by decide +kernel) (tx_cons (Nat.le_trans (add_le w2 (ml 4001 (by decide) (by decide))) (by decide)) (tx_cons (Nat.le_trans (add_le (add_le w3 (ml 4001 (by decide) (by decide))) pc) (by decide)) tx_nil)))))))
    clear hL nL xL s4 L
    rintro σ H5 ⟨l8, rfl, ⟨s4, L, hL, nL, xL⟩⟩
    refine ⟨fun σ H5 => ∃ l, σ = [some (.ref sc), some (.int b), some (.str t), some (.str signsT), some (.ref l4), some (.str y), some (.int a), some (.int wy), some (.ref l)] ∧ Lst H1 9000 26 l H5, ?_, ?_⟩
    · refine ⟨_, rfl, _, _, rfl, rfl, mo 4000 (by decide) (by decide), _, _, rfl, rfl, add_ok w2 (ml 4000 (by decide) (by decide)) (by decide), _, _, rfl, rfl, mo 4000 (by decide) (by decide), _, _, rfl, rfl, add_ok w2 (ml 4000 (by decide) (by decide)) (by decide), _, _, rfl, rfl, add_ok (add_le w2 (ml 4000 (by decide) (by decide))) po (by decide), _, _, rfl, rfl, mo 4000 (by decide) (by decide), _, _, rfl, rfl, add_ok (add_le (add_le w2 (ml 4000 (by decide) (by decide))) po) (ml 4000 (by decide) (by decide)) (by decide), _, _, rfl, rfl, add_ok (add_le (add_le (add_le w2 (ml 4000 (by decide) (by decide))) po) (ml 4000 (by decide) (by decide))) pc (by decide), (show 2 ≤ sizeLine by decide), fun l5 h5 => ?_⟩
      refine ⟨l8, l5, _, _, rfl, rfl, Same.upd h5 _ _ hL, upd_same, by rw [nL]; exact (show 26 ≤ sizeLine by decide), fun l6 h6 => ⟨l6, rfl, .mk0 (s4.trans (Same.upd h5)) h6 (by rw [List.length_append, nL]; rfl) (tx_app xL ?_)⟩⟩
      exact tx_cons (Nat.le_trans (add_le w2 (ml 4000 (by decide) (by decide))) (by decide)) (tx_cons (Nat.le_trans (add_le (add_le (add_le (add_le w2 (ml 4000 (by decide) (by decide))) po) (ml 4000 (by decide) (by decide))) pc) (by decide)) tx_nil)
    clear hL nL xL s4 L
    rintro σ H5 ⟨l8, rfl, ⟨s4, L, hL, nL, xL⟩⟩
    refine ⟨fun σ H6 => ∃ l, σ = [some (.ref sc), some (.int b), some (.str t), some (.str signsT), some (.ref l4), some (.str y), some (.int a), some (.int wy), some (.ref l)] ∧ Lst H1 9000 28 l H6, ?_, ?_⟩
    · refine ⟨_, rfl, _, rfl, _, _, rfl, rfl, ⟨by decide, by decide, by decide⟩, b, _, rfl, ⟨b2, b36⟩, by decide, by decide, fun u hu => ?_⟩
      refine ⟨_, rfl, _, _, rfl, rfl, ⟨by decide, by decide, by decide⟩, _, _, rfl, rfl, b, _, rfl, ⟨b2, b36⟩, by decide, by decide, fun v hv => ?_⟩
      refine ⟨_, _, rfl, rfl, add_ok hv p1 (by decide), (show 2 ≤ sizeLine by decide), fun l5 h5 => ?_⟩
      refine ⟨l8, l5, _, _, rfl, rfl, Same.upd h5 _ _ hL, upd_same, by rw [nL]; exact (show 28 ≤ sizeLine by decide), fun l6 h6 => ⟨l6, rfl, .mk0 (s4.trans (Same.upd h5)) h6 (by rw [List.length_append, nL]; rfl) (tx_app xL ?_)⟩⟩
      exact tx_cons (by omega) (tx_cons (Nat.le_trans (add_le hv p1) (by decide)) tx_nil)
    clear hL nL xL s4 L
    rintro σ H6 ⟨l8, rfl, ⟨s4, L, hL, nL, xL⟩⟩
    refine ⟨_, rfl, _, rfl, sc, ns, _, rfl, s4.seq hS, by decide, fun c hc => ?_⟩
    obtain ⟨u, hat, hu⟩ := tx_at xL nL (i := c % 28) (Int.emod_nonneg _ (by decide)) (Int.emod_lt_of_pos _ (by decide))
    exact ⟨_, _, rfl, rfl, (show (0 : Int) < 28 by decide), l8, _, _, _, rfl, rfl, SqL.of hL, hat, k u _ hu s4⟩
theorem ok_law (T : Txt K mg) {f : Addr} {fd : FuncData} (F : Fun K "law" "law" s_law f fd) : FnOk P w K mg base CX0 6 f fd ["script"] (spLaw K) := by
  refine F.ok sc_law (fun vs H Q E h => ?_) (fun cdv A outer s H vs Q E hr h => ?_)
  · obtain ⟨a, ns, rfl, _⟩ := h; rfl
  · obtain ⟨sc, ns, rfl, hS, hlen, k⟩ := h
    refine ⟨_, (pss_cons (ps_set (i := 1) sc_law.nd rfl (Or.inl rfl) (pe_op op_add pe_int (pe_op op_mod (pe_callG (got_law_cell_at T) (hr.mono (by decide)) rfl (pa_n (pv 0) (pa_k pe_int pa_nil))) pe_int)))
      (pss_cons (ps_set (i := 2) sc_law.nd rfl (Or.inl rfl) (pe_callG (got_law_drawn T) (hr.mono (by decide)) rfl (pa_n (pv 0) (pa_n (pv 1) pa_nil))))
      (pss_mid (ps_if (pt_cmpR op_eq (pe_op op_mod (pe_callG (got_law_cell_at T) (hr.mono (by decide)) rfl (pa_n (pv 0) (pa_k pe_int pa_nil))) pe_int) pe_int (nomark _)) (pss_one (ps_set (i := 2) sc_law.nd rfl (Or.inl rfl) (pe_callG (got_law_odd T) (hr.mono (by decide)) rfl (pa_n (pv 0) (pa_n (pv 1) (pa_n (pv 2) pa_nil)))))) pss_nil)
      (pss_cons (ps_if (pt_cmpR op_eq (pe_op op_mod (pe_callG (got_law_cell_at T) (hr.mono (by decide)) rfl (pa_n (pv 0) (pa_k pe_int pa_nil))) pe_int) pe_int (nomark _)) (pss_cons (ps_set (i := 3) sc_law.nd rfl (Or.inl rfl) (pe_op op_mod (pe_callG (got_law_cell_at T) (hr.mono (by decide)) rfl (pa_n (pv 0) (pa_k pe_int pa_nil))) (pe_op op_pow pe_int pe_int)))
      (pss_one (ps_ret (pe_cmpR op_eq (pe_callG (got_law_told T) (hr.mono (by decide)) rfl (pa_s (pe_ix ix_list (pe_lst (pa_k pe_int (pa_k pe_int (pa_b (pe_op op_sub pe_int (pv 3)) (pa_b (pe_op op_add pe_int (pv 3)) pa_nil))))) (pe_op op_mod (pe_op op_fdiv (pe_callG (got_law_cell_at T) (hr.mono (by decide)) rfl (pa_n (pv 0) (pa_k pe_int pa_nil))) pe_int) pe_int) px_b) (pa_n (pv 2) pa_nil))) pe_str (nomark _))))) pss_nil)
      (pss_cons (ps_set (i := 4) sc_law.nd rfl (Or.inl rfl) (pe_callG (got_law_read T) (hr.mono (by decide)) rfl (pa_n (pv 1) (pa_n (pv 2) pa_nil))))
      (pss_cons (ps_set (i := 5) sc_law.nd rfl (Or.inl rfl) (pe_callG (got_law_told T) (hr.mono (by decide)) rfl (pa_n (pv 1) (pa_n (pv 2) pa_nil))))
      (pss_cons (ps_if (PW.pt (pw_or (pt_cmpR op_isN (pv 4) pe_non (nomark _)) (pw_or (pt_cmpR op_gt (pe_callB call_len_seq rfl T.b_len PySem.boot_len (pa_s (pe_ix ix_tup (pv 4) pe_int px_k) pa_nil)) pe_int (nomark _)) (pw_or1 (pt_cmpR op_gt (pe_callB call_len_seq rfl T.b_len PySem.boot_len (pa_s (pe_ix ix_tup (pv 4) pe_int px_k) pa_nil)) pe_int (nomark _)))))) (pss_one (ps_ret (pe_cmpR op_eq (pv 5) pe_str (nomark _)))) pss_nil)
      (pss_one (ps_ret (pe_callG (got_law_is_writing T) (hr.mono (by decide)) rfl (pa_n (pv 5) (pa_n (pv 4) pa_nil)))))))))))), ?_⟩
    refine ⟨_, rfl, sc, ns, _, rfl, hS, by decide, fun z0 _ => ⟨_, _, rfl, rfl, (show (0 : Int) < 35 by decide), _, _, rfl, rfl, ?_⟩⟩
    obtain ⟨b, hb, b2, b36⟩ : ∃ b : Int, b = 2 + z0 % 35 ∧ 2 ≤ b ∧ b ≤ 36 := ⟨_, rfl, by omega, by omega⟩
    refine ⟨_, rfl, _, rfl, sc, ns, b, by subst hb; rfl, hS, ⟨b2, b36⟩, fun t0 H1 ht0 s1 => ?_⟩
    refine ⟨fun σ' H' => ∃ l : List Nat, l.length ≤ 20000 ∧ Same H H' ∧ σ' = [some (.ref sc), some (.int b), some (.str (txt l)), none, none, none], ?_, ?_⟩
    · refine ⟨_, rfl, sc, ns, _, rfl, s1.seq hS, by decide, fun z _ => ⟨_, _, rfl, rfl, (show (0 : Int) < 2 by decide), rfl, _, rfl, ite2D (fun _ => ?_) (fun _ => ?_)⟩⟩
      · refine ⟨_, rfl, _, rfl, _, rfl, sc, ns, b, t0, by subst hb; rfl, s1.seq hS, ⟨b2, b36⟩, ht0, fun y H2 hy s2 => ?_⟩
        obtain ⟨l, rfl⟩ : ∃ l, y = txt l := ⟨_, txt_of y⟩
        exact ⟨l, by rw [txt_len] at hy; omega, s1.trans s2, by subst hb; rfl⟩
      · obtain ⟨l, rfl⟩ : ∃ l, t0 = txt l := ⟨_, txt_of t0⟩
        exact ⟨l, by rw [txt_len] at ht0; omega, s1, by subst hb; rfl⟩
    clear ht0 s1 H1 t0 hb
    rintro σ' H1 ⟨l, hl, s1, rfl⟩
    refine ⟨_, rfl, sc, ns, _, rfl, s1.seq hS, by decide, fun z9 _ => ⟨_, _, rfl, rfl, (show (0 : Int) < 9 by decide), rfl, _, rfl, ite2D (fun _ => ?_) (fun _ => ?_)⟩⟩
    · refine ⟨_, rfl, sc, ns, _, rfl, s1.seq hS, by decide, fun z _ => ⟨_, _, rfl, rfl, ⟨by decide, by decide, by decide⟩, _, _, rfl, rfl, (show (0 : Int) < 10 ^ (20 : Int).toNat by decide), ?_⟩⟩
      obtain ⟨far, hfar, f0⟩ : ∃ far : Int, far = z % 10 ^ (20 : Int).toNat ∧ 0 ≤ far := ⟨_, rfl, Int.emod_nonneg _ (by decide)⟩
      refine ⟨_, rfl, _, _, rfl, rfl, _, rfl, _, _, rfl, rfl, (show 4 ≤ sizeLine by decide), fun l3 h3 => ?_⟩
      refine ⟨_, rfl, sc, ns, _, rfl, (s1.trans (Same.upd h3)).seq hS, by decide, fun z' _ => ⟨_, _, rfl, rfl, ⟨by decide, by decide⟩, _, _, rfl, rfl, (show (0 : Int) < 4 by decide), ?_⟩⟩
      obtain ⟨bb, hat, nb⟩ := bad_at f0 (j := z' / 9 % 4) (Int.emod_nonneg _ (by decide)) (Int.emod_lt_of_pos _ (by decide))
      refine ⟨l3, _, _, _, rfl, rfl, SqL.of upd_same, by subst hfar; exact hat, _, rfl, bb, l, rfl, hl, fun _ H' s' => ?_, fun ob => absurd ob nb⟩
      refine ⟨rfl, ?_⟩
      rw [decide_eq_true (show V.str (wordOf 0) = V.str (Str.ofString "base") from rfl)]
      exact k _
    obtain ⟨bn, rfl⟩ : ∃ bn : Nat, b = (bn : Int) := ⟨b.toNat, by omega⟩
    have rl : RF.rd bn l = RF.short (RF.lrd bn l) := RF.rd_law (by omega) l
    have ob : BaseOk (bn : Int) := ⟨b2, b36⟩
    refine ⟨_, rfl, _, rfl, bn, l, rfl, by omega, by omega, hl, fun e H2 s2 => ?_, fun n as gs e p la lg H2 n2 => ?_⟩
    · rw [e] at rl
      refine ⟨_, rfl, _, rfl, (bn : Int), l, rfl, hl, fun nb => absurd ob nb, fun _ => ⟨fun _ H3 s3 => ?_, fun n as gs er => ?_⟩⟩
      · refine ⟨_, rfl, rfl, _, rfl, iteDT rfl (iteT ?_)⟩
        refine ⟨_, rfl, rfl, ?_⟩
        rw [decide_eq_true (show V.str (wordOf 5) = V.str (Str.ofString "note") from rfl)]
        exact k _
      · rw [Int.toNat_natCast, rl] at er
        cases er
    · rw [e] at rl
      by_cases hs : 4000 < as.length ∨ 4000 < gs.length
      · rw [show RF.short (some (n, as, gs)) = none from if_pos hs] at rl
        refine ⟨_, rfl, _, rfl, (bn : Int), l, rfl, hl, fun nb => absurd ob nb, fun _ => ⟨fun _ H3 s3 => ?_, fun n' as' gs' er => ?_⟩⟩
        · refine ⟨_, rfl, rfl, _, rfl, iteDF (by intro z; cases z) ?_⟩
          refine ⟨_, rfl, p, _, _, _, rfl, rfl, SqT.of (s3 _ _ n2.t), rfl, la, _, rfl, .inl (SqL.of (s3 _ _ n2.a)), _, _, rfl, rfl, _, rfl, ite2D (fun _ => iteT ?_) (fun h1 => ?_)⟩
          · refine ⟨_, rfl, rfl, ?_⟩
            rw [decide_eq_true (show V.str (wordOf 5) = V.str (Str.ofString "note") from rfl)]
            exact k _
          · refine ⟨_, rfl, p, _, _, _, rfl, rfl, SqT.of (s3 _ _ n2.t), rfl, lg, _, rfl, .inl (SqL.of (s3 _ _ n2.g)), _, _, rfl, rfl, _, rfl, iteDT ?_ ?_⟩
            · rw [List.length_map, ig_len] at h1 ⊢
              omega
            · refine ⟨_, rfl, rfl, ?_⟩
              rw [decide_eq_true (show V.str (wordOf 5) = V.str (Str.ofString "note") from rfl)]
              exact k _
        · rw [Int.toNat_natCast, rl] at er
          cases er
      · rw [show RF.short (some (n, as, gs)) = some (n, as, gs) from if_neg hs] at rl
        refine ⟨_, rfl, _, rfl, (bn : Int), l, rfl, hl, fun nb => absurd ob nb, fun _ => ⟨fun er => ?_, fun n' as' gs' er p' la' lg' H3 n3 => ?_⟩⟩
        · rw [Int.toNat_natCast, rl] at er
          cases er
        · rw [Int.toNat_natCast, rl] at er
          cases er
          have s3 := n3.sm
          refine ⟨_, rfl, rfl, _, rfl, iteDF (by intro z; cases z) ?_⟩
          refine ⟨_, rfl, p, _, _, _, rfl, rfl, SqT.of (s3 _ _ n2.t), rfl, la, _, rfl, .inl (SqL.of (s3 _ _ n2.a)), _, _, rfl, rfl, _, rfl, iteDF ?_ ?_⟩
          · rw [List.length_map, ig_len]
            omega
          refine ⟨_, rfl, p, _, _, _, rfl, rfl, SqT.of (s3 _ _ n2.t), rfl, lg, _, rfl, .inl (SqL.of (s3 _ _ n2.g)), _, _, rfl, rfl, _, rfl, iteDF ?_ ?_⟩
          · rw [List.length_map, ig_len]
            omega
          refine ⟨_, rfl, _, rfl, p', la', lg', n, RF.ig as, RF.ig gs, p, la, lg, n, RF.ig as, RF.ig gs, rfl, n3.t, n3.a, n3.g, s3.wr n2.wr, fun H4 s4 => ?_⟩
          rw [decide_eq_true ⟨rfl, rfl, rfl⟩]
          exact k _
end
theorem txt_mk {K : PySem.W.Frag} {h : Heap} {mg : Str → Option Value} (X : K.In h) (G : h.Ns mainGlobals mg)
    {f_check_base : Addr} {od_check_base an_check_base : Option Addr} {sl_check_base : Array (Option Value)} {oc_check_base kV_check_base dc_check_base pm_check_base cd_check_base ct_check_base : Value}
    (a_check_base : PySem.W.nsIn K mainGlobals "check_base" = some (some (.ref f_check_base))) (l_check_base : K.lookup f_check_base = some ⟨oc_check_base, od_check_base, .func (PySem.W.fnOf "check_base" "check_base" (defArgs s_check_base) (defBody s_check_base) (defScope s_check_base) .none kV_check_base dc_check_base pm_check_base an_check_base cd_check_base ct_check_base), sl_check_base⟩) (c_check_base : PySem.W.codeIn K cd_check_base "check_base" = true) (k_check_base : PySem.W.keepIn K (.ref f_check_base) = true)
    {f_number_of : Addr} {od_number_of an_number_of : Option Addr} {sl_number_of : Array (Option Value)} {oc_number_of kV_number_of dc_number_of pm_number_of cd_number_of ct_number_of : Value}
    (a_number_of : PySem.W.nsIn K mainGlobals "number_of" = some (some (.ref f_number_of))) (l_number_of : K.lookup f_number_of = some ⟨oc_number_of, od_number_of, .func (PySem.W.fnOf "number_of" "number_of" (defArgs s_number_of) (defBody s_number_of) (defScope s_number_of) .none kV_number_of dc_number_of pm_number_of an_number_of cd_number_of ct_number_of), sl_number_of⟩) (c_number_of : PySem.W.codeIn K cd_number_of "number_of" = true) (k_number_of : PySem.W.keepIn K (.ref f_number_of) = true)
    {f_read : Addr} {od_read an_read : Option Addr} {sl_read : Array (Option Value)} {oc_read kV_read dc_read pm_read cd_read ct_read : Value}
    (a_read : PySem.W.nsIn K mainGlobals "read" = some (some (.ref f_read))) (l_read : K.lookup f_read = some ⟨oc_read, od_read, .func (PySem.W.fnOf "read" "read" (defArgs s_read) (defBody s_read) (defScope s_read) .none kV_read dc_read pm_read an_read cd_read ct_read), sl_read⟩) (c_read : PySem.W.codeIn K cd_read "read" = true) (k_read : PySem.W.keepIn K (.ref f_read) = true)
    {f_whole_read : Addr} {od_whole_read an_whole_read : Option Addr} {sl_whole_read : Array (Option Value)} {oc_whole_read kV_whole_read dc_whole_read pm_whole_read cd_whole_read ct_whole_read : Value}
    (a_whole_read : PySem.W.nsIn K mainGlobals "whole_read" = some (some (.ref f_whole_read))) (l_whole_read : K.lookup f_whole_read = some ⟨oc_whole_read, od_whole_read, .func (PySem.W.fnOf "whole_read" "whole_read" (defArgs s_whole_read) (defBody s_whole_read) (defScope s_whole_read) .none kV_whole_read dc_whole_read pm_whole_read an_whole_read cd_whole_read ct_whole_read), sl_whole_read⟩) (c_whole_read : PySem.W.codeIn K cd_whole_read "whole_read" = true) (k_whole_read : PySem.W.keepIn K (.ref f_whole_read) = true)
    {f_ring_read : Addr} {od_ring_read an_ring_read : Option Addr} {sl_ring_read : Array (Option Value)} {oc_ring_read kV_ring_read dc_ring_read pm_ring_read cd_ring_read ct_ring_read : Value}
    (a_ring_read : PySem.W.nsIn K mainGlobals "ring_read" = some (some (.ref f_ring_read))) (l_ring_read : K.lookup f_ring_read = some ⟨oc_ring_read, od_ring_read, .func (PySem.W.fnOf "ring_read" "ring_read" (defArgs s_ring_read) (defBody s_ring_read) (defScope s_ring_read) .none kV_ring_read dc_ring_read pm_ring_read an_ring_read cd_ring_read ct_ring_read), sl_ring_read⟩) (c_ring_read : PySem.W.codeIn K cd_ring_read "ring_read" = true) (k_ring_read : PySem.W.keepIn K (.ref f_ring_read) = true)
    {f_figures_read : Addr} {od_figures_read an_figures_read : Option Addr} {sl_figures_read : Array (Option Value)} {oc_figures_read kV_figures_read dc_figures_read pm_figures_read cd_figures_read ct_figures_read : Value}
    (a_figures_read : PySem.W.nsIn K mainGlobals "figures_read" = some (some (.ref f_figures_read))) (l_figures_read : K.lookup f_figures_read = some ⟨oc_figures_read, od_figures_read, .func (PySem.W.fnOf "figures_read" "figures_read" (defArgs s_figures_read) (defBody s_figures_read) (defScope s_figures_read) .none kV_figures_read dc_figures_read pm_figures_read an_figures_read cd_figures_read ct_figures_read), sl_figures_read⟩) (c_figures_read : PySem.W.codeIn K cd_figures_read "figures_read" = true) (k_figures_read : PySem.W.keepIn K (.ref f_figures_read) = true)
    {f_figure_read : Addr} {od_figure_read an_figure_read : Option Addr} {sl_figure_read : Array (Option Value)} {oc_figure_read kV_figure_read dc_figure_read pm_figure_read cd_figure_read ct_figure_read : Value}
    (a_figure_read : PySem.W.nsIn K mainGlobals "figure_read" = some (some (.ref f_figure_read))) (l_figure_read : K.lookup f_figure_read = some ⟨oc_figure_read, od_figure_read, .func (PySem.W.fnOf "figure_read" "figure_read" (defArgs s_figure_read) (defBody s_figure_read) (defScope s_figure_read) .none kV_figure_read dc_figure_read pm_figure_read an_figure_read cd_figure_read ct_figure_read), sl_figure_read⟩) (c_figure_read : PySem.W.codeIn K cd_figure_read "figure_read" = true) (k_figure_read : PySem.W.keepIn K (.ref f_figure_read) = true)
    {f_law_cell_at : Addr} {od_law_cell_at an_law_cell_at : Option Addr} {sl_law_cell_at : Array (Option Value)} {oc_law_cell_at kV_law_cell_at dc_law_cell_at pm_law_cell_at cd_law_cell_at ct_law_cell_at : Value}
    (a_law_cell_at : PySem.W.nsIn K mainGlobals "_law_cell_at" = some (some (.ref f_law_cell_at))) (l_law_cell_at : K.lookup f_law_cell_at = some ⟨oc_law_cell_at, od_law_cell_at, .func (PySem.W.fnOf "_law_cell_at" "_law_cell_at" (defArgs s_law_cell_at) (defBody s_law_cell_at) (defScope s_law_cell_at) .none kV_law_cell_at dc_law_cell_at pm_law_cell_at an_law_cell_at cd_law_cell_at ct_law_cell_at), sl_law_cell_at⟩) (c_law_cell_at : PySem.W.codeIn K cd_law_cell_at "_law_cell_at" = true) (k_law_cell_at : PySem.W.keepIn K (.ref f_law_cell_at) = true)
    {f_law_draw : Addr} {od_law_draw an_law_draw : Option Addr} {sl_law_draw : Array (Option Value)} {oc_law_draw kV_law_draw dc_law_draw pm_law_draw cd_law_draw ct_law_draw : Value}
    (a_law_draw : PySem.W.nsIn K mainGlobals "_law_draw" = some (some (.ref f_law_draw))) (l_law_draw : K.lookup f_law_draw = some ⟨oc_law_draw, od_law_draw, .func (PySem.W.fnOf "_law_draw" "_law_draw" (defArgs s_law_draw) (defBody s_law_draw) (defScope s_law_draw) .none kV_law_draw dc_law_draw pm_law_draw an_law_draw cd_law_draw ct_law_draw), sl_law_draw⟩) (c_law_draw : PySem.W.codeIn K cd_law_draw "_law_draw" = true) (k_law_draw : PySem.W.keepIn K (.ref f_law_draw) = true)
    {f_law_whole : Addr} {od_law_whole an_law_whole : Option Addr} {sl_law_whole : Array (Option Value)} {oc_law_whole kV_law_whole dc_law_whole pm_law_whole cd_law_whole ct_law_whole : Value}
    (a_law_whole : PySem.W.nsIn K mainGlobals "_law_whole" = some (some (.ref f_law_whole))) (l_law_whole : K.lookup f_law_whole = some ⟨oc_law_whole, od_law_whole, .func (PySem.W.fnOf "_law_whole" "_law_whole" (defArgs s_law_whole) (defBody s_law_whole) (defScope s_law_whole) .none kV_law_whole dc_law_whole pm_law_whole an_law_whole cd_law_whole ct_law_whole), sl_law_whole⟩) (c_law_whole : PySem.W.codeIn K cd_law_whole "_law_whole" = true) (k_law_whole : PySem.W.keepIn K (.ref f_law_whole) = true)
    {f_law_is_writing : Addr} {od_law_is_writing an_law_is_writing : Option Addr} {sl_law_is_writing : Array (Option Value)} {oc_law_is_writing kV_law_is_writing dc_law_is_writing pm_law_is_writing cd_law_is_writing ct_law_is_writing : Value}
    (a_law_is_writing : PySem.W.nsIn K mainGlobals "_law_is_writing" = some (some (.ref f_law_is_writing))) (l_law_is_writing : K.lookup f_law_is_writing = some ⟨oc_law_is_writing, od_law_is_writing, .func (PySem.W.fnOf "_law_is_writing" "_law_is_writing" (defArgs s_law_is_writing) (defBody s_law_is_writing) (defScope s_law_is_writing) .none kV_law_is_writing dc_law_is_writing pm_law_is_writing an_law_is_writing cd_law_is_writing ct_law_is_writing), sl_law_is_writing⟩) (c_law_is_writing : PySem.W.codeIn K cd_law_is_writing "_law_is_writing" = true) (k_law_is_writing : PySem.W.keepIn K (.ref f_law_is_writing) = true)
    {f_law_word_of : Addr} {od_law_word_of an_law_word_of : Option Addr} {sl_law_word_of : Array (Option Value)} {oc_law_word_of kV_law_word_of dc_law_word_of pm_law_word_of cd_law_word_of ct_law_word_of : Value}
    (a_law_word_of : PySem.W.nsIn K mainGlobals "_law_word_of" = some (some (.ref f_law_word_of))) (l_law_word_of : K.lookup f_law_word_of = some ⟨oc_law_word_of, od_law_word_of, .func (PySem.W.fnOf "_law_word_of" "_law_word_of" (defArgs s_law_word_of) (defBody s_law_word_of) (defScope s_law_word_of) .none kV_law_word_of dc_law_word_of pm_law_word_of an_law_word_of cd_law_word_of ct_law_word_of), sl_law_word_of⟩) (c_law_word_of : PySem.W.codeIn K cd_law_word_of "_law_word_of" = true) (k_law_word_of : PySem.W.keepIn K (.ref f_law_word_of) = true)
    {f_law_number : Addr} {od_law_number an_law_number : Option Addr} {sl_law_number : Array (Option Value)} {oc_law_number kV_law_number dc_law_number pm_law_number cd_law_number ct_law_number : Value}
    (a_law_number : PySem.W.nsIn K mainGlobals "_law_number" = some (some (.ref f_law_number))) (l_law_number : K.lookup f_law_number = some ⟨oc_law_number, od_law_number, .func (PySem.W.fnOf "_law_number" "_law_number" (defArgs s_law_number) (defBody s_law_number) (defScope s_law_number) .none kV_law_number dc_law_number pm_law_number an_law_number cd_law_number ct_law_number), sl_law_number⟩) (c_law_number : PySem.W.codeIn K cd_law_number "_law_number" = true) (k_law_number : PySem.W.keepIn K (.ref f_law_number) = true)
    {f_law_places : Addr} {od_law_places an_law_places : Option Addr} {sl_law_places : Array (Option Value)} {oc_law_places kV_law_places dc_law_places pm_law_places cd_law_places ct_law_places : Value}
    (a_law_places : PySem.W.nsIn K mainGlobals "_law_places" = some (some (.ref f_law_places))) (l_law_places : K.lookup f_law_places = some ⟨oc_law_places, od_law_places, .func (PySem.W.fnOf "_law_places" "_law_places" (defArgs s_law_places) (defBody s_law_places) (defScope s_law_places) .none kV_law_places dc_law_places pm_law_places an_law_places cd_law_places ct_law_places), sl_law_places⟩) (c_law_places : PySem.W.codeIn K cd_law_places "_law_places" = true) (k_law_places : PySem.W.keepIn K (.ref f_law_places) = true)
    {f_law_parted : Addr} {od_law_parted an_law_parted : Option Addr} {sl_law_parted : Array (Option Value)} {oc_law_parted kV_law_parted dc_law_parted pm_law_parted cd_law_parted ct_law_parted : Value}
    (a_law_parted : PySem.W.nsIn K mainGlobals "_law_parted" = some (some (.ref f_law_parted))) (l_law_parted : K.lookup f_law_parted = some ⟨oc_law_parted, od_law_parted, .func (PySem.W.fnOf "_law_parted" "_law_parted" (defArgs s_law_parted) (defBody s_law_parted) (defScope s_law_parted) .none kV_law_parted dc_law_parted pm_law_parted an_law_parted cd_law_parted ct_law_parted), sl_law_parted⟩) (c_law_parted : PySem.W.codeIn K cd_law_parted "_law_parted" = true) (k_law_parted : PySem.W.keepIn K (.ref f_law_parted) = true)
    {f_law_read : Addr} {od_law_read an_law_read : Option Addr} {sl_law_read : Array (Option Value)} {oc_law_read kV_law_read dc_law_read pm_law_read cd_law_read ct_law_read : Value}
    (a_law_read : PySem.W.nsIn K mainGlobals "_law_read" = some (some (.ref f_law_read))) (l_law_read : K.lookup f_law_read = some ⟨oc_law_read, od_law_read, .func (PySem.W.fnOf "_law_read" "_law_read" (defArgs s_law_read) (defBody s_law_read) (defScope s_law_read) .none kV_law_read dc_law_read pm_law_read an_law_read cd_law_read ct_law_read), sl_law_read⟩) (c_law_read : PySem.W.codeIn K cd_law_read "_law_read" = true) (k_law_read : PySem.W.keepIn K (.ref f_law_read) = true)
    {f_law_told : Addr} {od_law_told an_law_told : Option Addr} {sl_law_told : Array (Option Value)} {oc_law_told kV_law_told dc_law_told pm_law_told cd_law_told ct_law_told : Value}
    (a_law_told : PySem.W.nsIn K mainGlobals "_law_told" = some (some (.ref f_law_told))) (l_law_told : K.lookup f_law_told = some ⟨oc_law_told, od_law_told, .func (PySem.W.fnOf "_law_told" "_law_told" (defArgs s_law_told) (defBody s_law_told) (defScope s_law_told) .none kV_law_told dc_law_told pm_law_told an_law_told cd_law_told ct_law_told), sl_law_told⟩) (c_law_told : PySem.W.codeIn K cd_law_told "_law_told" = true) (k_law_told : PySem.W.keepIn K (.ref f_law_told) = true)
    {f_law_drawn : Addr} {od_law_drawn an_law_drawn : Option Addr} {sl_law_drawn : Array (Option Value)} {oc_law_drawn kV_law_drawn dc_law_drawn pm_law_drawn cd_law_drawn ct_law_drawn : Value}
    (a_law_drawn : PySem.W.nsIn K mainGlobals "_law_drawn" = some (some (.ref f_law_drawn))) (l_law_drawn : K.lookup f_law_drawn = some ⟨oc_law_drawn, od_law_drawn, .func (PySem.W.fnOf "_law_drawn" "_law_drawn" (defArgs s_law_drawn) (defBody s_law_drawn) (defScope s_law_drawn) .none kV_law_drawn dc_law_drawn pm_law_drawn an_law_drawn cd_law_drawn ct_law_drawn), sl_law_drawn⟩) (c_law_drawn : PySem.W.codeIn K cd_law_drawn "_law_drawn" = true) (k_law_drawn : PySem.W.keepIn K (.ref f_law_drawn) = true)
    {f_law_shown : Addr} {od_law_shown an_law_shown : Option Addr} {sl_law_shown : Array (Option Value)} {oc_law_shown kV_law_shown dc_law_shown pm_law_shown cd_law_shown ct_law_shown : Value}
    (a_law_shown : PySem.W.nsIn K mainGlobals "_law_shown" = some (some (.ref f_law_shown))) (l_law_shown : K.lookup f_law_shown = some ⟨oc_law_shown, od_law_shown, .func (PySem.W.fnOf "_law_shown" "_law_shown" (defArgs s_law_shown) (defBody s_law_shown) (defScope s_law_shown) .none kV_law_shown dc_law_shown pm_law_shown an_law_shown cd_law_shown ct_law_shown), sl_law_shown⟩) (c_law_shown : PySem.W.codeIn K cd_law_shown "_law_shown" = true) (k_law_shown : PySem.W.keepIn K (.ref f_law_shown) = true)
    {f_law_odd : Addr} {od_law_odd an_law_odd : Option Addr} {sl_law_odd : Array (Option Value)} {oc_law_odd kV_law_odd dc_law_odd pm_law_odd cd_law_odd ct_law_odd : Value}
    (a_law_odd : PySem.W.nsIn K mainGlobals "_law_odd" = some (some (.ref f_law_odd))) (l_law_odd : K.lookup f_law_odd = some ⟨oc_law_odd, od_law_odd, .func (PySem.W.fnOf "_law_odd" "_law_odd" (defArgs s_law_odd) (defBody s_law_odd) (defScope s_law_odd) .none kV_law_odd dc_law_odd pm_law_odd an_law_odd cd_law_odd ct_law_odd), sl_law_odd⟩) (c_law_odd : PySem.W.codeIn K cd_law_odd "_law_odd" = true) (k_law_odd : PySem.W.keepIn K (.ref f_law_odd) = true)
    {f_law : Addr} {od_law an_law : Option Addr} {sl_law : Array (Option Value)} {oc_law kV_law dc_law pm_law cd_law ct_law : Value}
    (a_law : PySem.W.nsIn K mainGlobals "law" = some (some (.ref f_law))) (l_law : K.lookup f_law = some ⟨oc_law, od_law, .func (PySem.W.fnOf "law" "law" (defArgs s_law) (defBody s_law) (defScope s_law) .none kV_law dc_law pm_law an_law cd_law ct_law), sl_law⟩) (c_law : PySem.W.codeIn K cd_law "law" = true) (k_law : PySem.W.keepIn K (.ref f_law) = true)
    {t_GREATEST_BASE : Tok} (i_GREATEST_BASE : PySem.W.nsIn K mainGlobals "GREATEST_BASE" = some (some (.int 36 t_GREATEST_BASE)))
    {t_GREATEST_WHOLE : Tok} (i_GREATEST_WHOLE : PySem.W.nsIn K mainGlobals "GREATEST_WHOLE" = some (some (.int 1000000000000 t_GREATEST_WHOLE)))
    {t_LEAST_BASE : Tok} (i_LEAST_BASE : PySem.W.nsIn K mainGlobals "LEAST_BASE" = some (some (.int 2 t_LEAST_BASE)))
    {t_MOST_FIGURES : Tok} (i_MOST_FIGURES : PySem.W.nsIn K mainGlobals "MOST_FIGURES" = some (some (.int 4000 t_MOST_FIGURES)))
    {t_SIGNS : Tok} (s_SIGNS : PySem.W.nsIn K mainGlobals "SIGNS" = some (some (.str "0123456789abcdefghijklmnopqrstuvwxyz" t_SIGNS)))
    (b_ValueError : PySem.W.nsIn K mainGlobals "ValueError" = some none)
    (b_bool : PySem.W.nsIn K mainGlobals "bool" = some none)
    (b_int : PySem.W.nsIn K mainGlobals "int" = some none)
    (b_isinstance : PySem.W.nsIn K mainGlobals "isinstance" = some none)
    (b_len : PySem.W.nsIn K mainGlobals "len" = some none)
    (b_list : PySem.W.nsIn K mainGlobals "list" = some none)
    (b_range : PySem.W.nsIn K mainGlobals "range" = some none)
    (b_tuple : PySem.W.nsIn K mainGlobals "tuple" = some none)
    {c_FigureError : Addr} (m_FigureError : PySem.W.nsIn K mainGlobals "FigureError" = some (some (.ref c_FigureError)))
    {c_NoBase : Addr} (m_NoBase : PySem.W.nsIn K mainGlobals "NoBase" = some (some (.ref c_NoBase)))
    {c_NoFraction : Addr} (m_NoFraction : PySem.W.nsIn K mainGlobals "NoFraction" = some (some (.ref c_NoFraction)))
    {c_NoWriting : Addr} (m_NoWriting : PySem.W.nsIn K mainGlobals "NoWriting" = some (some (.ref c_NoWriting)))
    {c_NoNumber : Addr} (m_NoNumber : PySem.W.nsIn K mainGlobals "NoNumber" = some (some (.ref c_NoNumber)))
    {c_TooLong : Addr} (m_TooLong : PySem.W.nsIn K mainGlobals "TooLong" = some (some (.ref c_TooLong)))
    {c_NoNote : Addr} (m_NoNote : PySem.W.nsIn K mainGlobals "NoNote" = some (some (.ref c_NoNote)))
    (e_FigureError : PySem.W.excIn K c_FigureError veTail veNew = true)
    (e_NoBase : PySem.W.excIn K c_NoBase veTail veNew = true) (xc_NoBase : XcOk K c_NoBase)
    (r_NoBase : RefX K c_FigureError c_NoBase c_NoFraction c_NoWriting c_NoNumber c_TooLong c_NoNote c_NoBase 0)
    (e_NoNote : PySem.W.excIn K c_NoNote veTail veNew = true) (xc_NoNote : XcOk K c_NoNote)
    (r_NoNote : RefX K c_FigureError c_NoBase c_NoFraction c_NoWriting c_NoNumber c_TooLong c_NoNote c_NoNote 5) :
    Txt K mg :=
  ⟨⟨f_check_base, _, fun_mk (st := s_check_base) l_check_base c_check_base k_check_base, (fun_mk (st := s_check_base) l_check_base c_check_base k_check_base).binds (ps := ["base"]) fun _ _ _ _ _ _ us hl => match us, hl with | [_], _ => rfl, PySem.W.mg_of X G a_check_base⟩,
   ⟨f_number_of, _, fun_mk (st := s_number_of) l_number_of c_number_of k_number_of, (fun_mk (st := s_number_of) l_number_of c_number_of k_number_of).binds (ps := ["base", "figures"]) fun _ _ _ _ _ _ us hl => match us, hl with | [_, _], _ => rfl, PySem.W.mg_of X G a_number_of⟩,
   ⟨f_read, _, fun_mk (st := s_read) l_read c_read k_read, (fun_mk (st := s_read) l_read c_read k_read).binds (ps := ["base", "text"]) fun _ _ _ _ _ _ us hl => match us, hl with | [_, _], _ => rfl, PySem.W.mg_of X G a_read⟩,
   ⟨f_whole_read, _, fun_mk (st := s_whole_read) l_whole_read c_whole_read k_whole_read, (fun_mk (st := s_whole_read) l_whole_read c_whole_read k_whole_read).binds (ps := ["base", "text"]) fun _ _ _ _ _ _ us hl => match us, hl with | [_, _], _ => rfl, PySem.W.mg_of X G a_whole_read⟩,
   ⟨f_ring_read, _, fun_mk (st := s_ring_read) l_ring_read c_ring_read k_ring_read, (fun_mk (st := s_ring_read) l_ring_read c_ring_read k_ring_read).binds (ps := ["base", "text"]) fun _ _ _ _ _ _ us hl => match us, hl with | [_, _], _ => rfl, PySem.W.mg_of X G a_ring_read⟩,
   ⟨f_figures_read, _, fun_mk (st := s_figures_read) l_figures_read c_figures_read k_figures_read, (fun_mk (st := s_figures_read) l_figures_read c_figures_read k_figures_read).binds (ps := ["base", "text"]) fun _ _ _ _ _ _ us hl => match us, hl with | [_, _], _ => rfl, PySem.W.mg_of X G a_figures_read⟩,
   ⟨f_figure_read, _, fun_mk (st := s_figure_read) l_figure_read c_figure_read k_figure_read, (fun_mk (st := s_figure_read) l_figure_read c_figure_read k_figure_read).binds (ps := ["base", "sign"]) fun _ _ _ _ _ _ us hl => match us, hl with | [_, _], _ => rfl, PySem.W.mg_of X G a_figure_read⟩,
   ⟨f_law_cell_at, _, fun_mk (st := s_law_cell_at) l_law_cell_at c_law_cell_at k_law_cell_at, (fun_mk (st := s_law_cell_at) l_law_cell_at c_law_cell_at k_law_cell_at).binds (ps := ["script", "k"]) fun _ _ _ _ _ _ us hl => match us, hl with | [_, _], _ => rfl, PySem.W.mg_of X G a_law_cell_at⟩,
   ⟨f_law_draw, _, fun_mk (st := s_law_draw) l_law_draw c_law_draw k_law_draw, (fun_mk (st := s_law_draw) l_law_draw c_law_draw k_law_draw).binds (ps := ["cell", "k", "bound"]) fun _ _ _ _ _ _ us hl => match us, hl with | [_, _, _], _ => rfl, PySem.W.mg_of X G a_law_draw⟩,
   ⟨f_law_whole, _, fun_mk (st := s_law_whole) l_law_whole c_law_whole k_law_whole, (fun_mk (st := s_law_whole) l_law_whole c_law_whole k_law_whole).binds (ps := ["found"]) fun _ _ _ _ _ _ us hl => match us, hl with | [_], _ => rfl, PySem.W.mg_of X G a_law_whole⟩,
   ⟨f_law_is_writing, _, fun_mk (st := s_law_is_writing) l_law_is_writing c_law_is_writing k_law_is_writing, (fun_mk (st := s_law_is_writing) l_law_is_writing c_law_is_writing k_law_is_writing).binds (ps := ["found", "due"]) fun _ _ _ _ _ _ us hl => match us, hl with | [_, _], _ => rfl, PySem.W.mg_of X G a_law_is_writing⟩,
   ⟨f_law_word_of, _, fun_mk (st := s_law_word_of) l_law_word_of c_law_word_of k_law_word_of, (fun_mk (st := s_law_word_of) l_law_word_of c_law_word_of k_law_word_of).binds (ps := ["e"]) fun _ _ _ _ _ _ us hl => match us, hl with | [_], _ => rfl, PySem.W.mg_of X G a_law_word_of⟩,
   ⟨f_law_number, _, fun_mk (st := s_law_number) l_law_number c_law_number k_law_number, (fun_mk (st := s_law_number) l_law_number c_law_number k_law_number).binds (ps := ["base", "figures"]) fun _ _ _ _ _ _ us hl => match us, hl with | [_, _], _ => rfl, PySem.W.mg_of X G a_law_number⟩,
   ⟨f_law_places, _, fun_mk (st := s_law_places) l_law_places c_law_places k_law_places, (fun_mk (st := s_law_places) l_law_places c_law_places k_law_places).binds (ps := ["base", "text"]) fun _ _ _ _ _ _ us hl => match us, hl with | [_, _], _ => rfl, PySem.W.mg_of X G a_law_places⟩,
   ⟨f_law_parted, _, fun_mk (st := s_law_parted) l_law_parted c_law_parted k_law_parted, (fun_mk (st := s_law_parted) l_law_parted c_law_parted k_law_parted).binds (ps := ["text"]) fun _ _ _ _ _ _ us hl => match us, hl with | [_], _ => rfl, PySem.W.mg_of X G a_law_parted⟩,
   ⟨f_law_read, _, fun_mk (st := s_law_read) l_law_read c_law_read k_law_read, (fun_mk (st := s_law_read) l_law_read c_law_read k_law_read).binds (ps := ["base", "text"]) fun _ _ _ _ _ _ us hl => match us, hl with | [_, _], _ => rfl, PySem.W.mg_of X G a_law_read⟩,
   ⟨f_law_told, _, fun_mk (st := s_law_told) l_law_told c_law_told k_law_told, (fun_mk (st := s_law_told) l_law_told c_law_told k_law_told).binds (ps := ["base", "text"]) fun _ _ _ _ _ _ us hl => match us, hl with | [_, _], _ => rfl, PySem.W.mg_of X G a_law_told⟩,
   ⟨f_law_drawn, _, fun_mk (st := s_law_drawn) l_law_drawn c_law_drawn k_law_drawn, (fun_mk (st := s_law_drawn) l_law_drawn c_law_drawn k_law_drawn).binds (ps := ["script", "base"]) fun _ _ _ _ _ _ us hl => match us, hl with | [_, _], _ => rfl, PySem.W.mg_of X G a_law_drawn⟩,
   ⟨f_law_shown, _, fun_mk (st := s_law_shown) l_law_shown c_law_shown k_law_shown, (fun_mk (st := s_law_shown) l_law_shown c_law_shown k_law_shown).binds (ps := ["base", "number"]) fun _ _ _ _ _ _ us hl => match us, hl with | [_, _], _ => rfl, PySem.W.mg_of X G a_law_shown⟩,
   ⟨f_law_odd, _, fun_mk (st := s_law_odd) l_law_odd c_law_odd k_law_odd, (fun_mk (st := s_law_odd) l_law_odd c_law_odd k_law_odd).binds (ps := ["script", "base", "text"]) fun _ _ _ _ _ _ us hl => match us, hl with | [_, _, _], _ => rfl, PySem.W.mg_of X G a_law_odd⟩,
   ⟨f_law, _, fun_mk (st := s_law) l_law c_law k_law, (fun_mk (st := s_law) l_law c_law k_law).binds (ps := ["script"]) fun _ _ _ _ _ _ us hl => match us, hl with | [_], _ => rfl, PySem.W.mg_of X G a_law⟩,
   ⟨t_GREATEST_BASE, PySem.W.mg_of X G i_GREATEST_BASE⟩,
   ⟨t_GREATEST_WHOLE, PySem.W.mg_of X G i_GREATEST_WHOLE⟩,
   ⟨t_LEAST_BASE, PySem.W.mg_of X G i_LEAST_BASE⟩,
   ⟨t_MOST_FIGURES, PySem.W.mg_of X G i_MOST_FIGURES⟩,
   ⟨t_SIGNS, PySem.W.mg_of X G s_SIGNS⟩,
   PySem.W.mg_none_of X G b_ValueError,
   PySem.W.mg_none_of X G b_bool,
   PySem.W.mg_none_of X G b_int,
   PySem.W.mg_none_of X G b_isinstance,
   PySem.W.mg_none_of X G b_len,
   PySem.W.mg_none_of X G b_list,
   PySem.W.mg_none_of X G b_range,
   PySem.W.mg_none_of X G b_tuple,
   ⟨_, _, _, _, _, _, _, (⟨PySem.W.mg_of X G m_FigureError, PySem.W.mg_of X G m_NoBase, PySem.W.mg_of X G m_NoFraction, PySem.W.mg_of X G m_NoWriting, PySem.W.mg_of X G m_NoNumber, PySem.W.mg_of X G m_TooLong, PySem.W.mg_of X G m_NoNote⟩ : Exs mg c_FigureError c_NoBase c_NoFraction c_NoWriting c_NoNumber c_TooLong c_NoNote), ⟨PySem.W.mg_of X G m_FigureError, e_FigureError⟩⟩,
   ⟨c_NoBase, ⟨PySem.W.mg_of X G m_NoBase, e_NoBase⟩, ref_mk (⟨PySem.W.mg_of X G m_FigureError, PySem.W.mg_of X G m_NoBase, PySem.W.mg_of X G m_NoFraction, PySem.W.mg_of X G m_NoWriting, PySem.W.mg_of X G m_NoNumber, PySem.W.mg_of X G m_TooLong, PySem.W.mg_of X G m_NoNote⟩ : Exs mg c_FigureError c_NoBase c_NoFraction c_NoWriting c_NoNumber c_TooLong c_NoNote) (by decide) e_NoBase xc_NoBase r_NoBase⟩,
   ⟨c_NoNote, ⟨PySem.W.mg_of X G m_NoNote, e_NoNote⟩, ref_mk (⟨PySem.W.mg_of X G m_FigureError, PySem.W.mg_of X G m_NoBase, PySem.W.mg_of X G m_NoFraction, PySem.W.mg_of X G m_NoWriting, PySem.W.mg_of X G m_NoNumber, PySem.W.mg_of X G m_TooLong, PySem.W.mg_of X G m_NoNote⟩ : Exs mg c_FigureError c_NoBase c_NoFraction c_NoWriting c_NoNumber c_TooLong c_NoNote) (by decide) e_NoNote xc_NoNote r_NoNote⟩⟩
theorem all_mk {l : PySem.W.OpenLaw} {w : World} {K : PySem.W.Frag} {h : Heap} {mg : Str → Option Value} {fa : Addr} (X : K.In h) (G : h.Ns mainGlobals mg) (hfa : mg "law" = some (.ref fa)) (T : Txt K mg) :
    ∃ fd : FuncData, (∀ (s : Shared) (v : Value), BindsTo s fd ⟨[v], []⟩ [("script", v)]) ∧ ∀ base : Heap, K.In base → base.Ns mainGlobals mg → FnOk l.prog w K mg base CX0 6 fa fd ["script"] (spLaw K) := by
  have D := T.d_law
  obtain ⟨f, fd, F, b, m⟩ := D.ex
  have e := hfa.symm.trans m
  cases e
  refine ⟨fd, fun s v => ?_, fun base _ _ => ok_law T F⟩
  obtain ⟨oc, od, kV, doc, pm, an, cdv, ct, osl, rfl, lk, hcd⟩ := F.ex
  exact .of_eq rfl
theorem walk {l : PySem.W.OpenLaw} {q : Program} {loose : List Str} {XP : (Str → Option Value) → Heap → Prop} {YP : World → Heap → Prop} {d : DefRec} {K : Params → PySem.W.Frag} (hn : l.most = some 63) (hdf : d.params.defaults = [])
    (hY : ∀ (w : World) (h : Heap), YP w h → (K w.params).In h)
    (F : ∀ (w : World) (mg : Str → Option Value) (fa : Addr) (h : Heap), (K w.params).In h → h.Ns mainGlobals mg → mg d.name = some (.ref fa) →
      ∃ fd : FuncData, (∀ (s : Shared) (u : Value), BindsTo s fd ⟨[u], []⟩ [("script", u)]) ∧ ∀ base : Heap, (K w.params).In base → base.Ns mainGlobals mg → FnOk l.prog w (K w.params) mg base CX0 6 fa fd ["script"] (spLaw (K w.params))) :
    PySem.W.WalkO q loose XP YP l.row.toRowW d [] (fun f vs => PySem.call f vs) :=
  L2.walk_of (n := 63) (k := 6) (x := "script") (CX := fun _ => CX0) (sp := fun w => spLaw (K w.params)) hn (by decide) hdf ⟨rfl, by decide, by decide⟩ hY F (fun _ _ a ns hl _ hS => ⟨a, ns, rfl, hS, hl, fun _ => rfl⟩) fun _ _ _ _ _ z => z
end My
open PySem PySem.W PyProof.Rows
set_option maxRecDepth 100000 in
set_option maxHeartbeats 0 in
theorem PySem.Challenge.cw_ringfigures_k15_read_or_refused_holds : PySem.Challenge.rw_ringfigures_k15_read_or_refused.Holds := by
  w_on; o_law; k_head; (case hw => w_witness2)
  k_fill
  refine My.walk (l := PySem.Challenge.rw_ringfigures_k15_read_or_refused) rfl rfl (fun w h Y => PySem.W.kIn_of Y) ?F
  case F =>
    intro w mg fa h KX G hmg
    refine My.all_mk KX G hmg ?T
    refine' My.txt_mk KX G ?a_check_base ?l_check_base ?c_check_base ?k_check_base ?a_number_of ?l_number_of ?c_number_of ?k_number_of ?a_read ?l_read ?c_read ?k_read ?a_whole_read ?l_whole_read ?c_whole_read ?k_whole_read ?a_ring_read ?l_ring_read ?c_ring_read ?k_ring_read ?a_figures_read ?l_figures_read ?c_figures_read ?k_figures_read ?a_figure_read ?l_figure_read ?c_figure_read ?k_figure_read ?a_law_cell_at ?l_law_cell_at ?c_law_cell_at ?k_law_cell_at ?a_law_draw ?l_law_draw ?c_law_draw ?k_law_draw ?a_law_whole ?l_law_whole ?c_law_whole ?k_law_whole ?a_law_is_writing ?l_law_is_writing ?c_law_is_writing ?k_law_is_writing ?a_law_word_of ?l_law_word_of ?c_law_word_of ?k_law_word_of ?a_law_number ?l_law_number ?c_law_number ?k_law_number ?a_law_places ?l_law_places ?c_law_places ?k_law_places ?a_law_parted ?l_law_parted ?c_law_parted ?k_law_parted ?a_law_read ?l_law_read ?c_law_read ?k_law_read ?a_law_told ?l_law_told ?c_law_told ?k_law_told ?a_law_drawn ?l_law_drawn ?c_law_drawn ?k_law_drawn ?a_law_shown ?l_law_shown ?c_law_shown ?k_law_shown ?a_law_odd ?l_law_odd ?c_law_odd ?k_law_odd ?a_law ?l_law ?c_law ?k_law ?i_GREATEST_BASE ?i_GREATEST_WHOLE ?i_LEAST_BASE ?i_MOST_FIGURES ?s_SIGNS ?b_ValueError ?b_bool ?b_int ?b_isinstance ?b_len ?b_list ?b_range ?b_tuple ?m_FigureError ?m_NoBase ?m_NoFraction ?m_NoWriting ?m_NoNumber ?m_TooLong ?m_NoNote ?e_FigureError ?e_NoBase ?xc_NoBase ?r_NoBase ?e_NoNote ?xc_NoNote ?r_NoNote
    (case a_check_base => k_is)
    (case l_check_base => k_is)
    (case c_check_base => k_is)
    (case k_check_base => k_is)
    (case a_number_of => k_is)
    (case l_number_of => k_is)
    (case c_number_of => k_is)
    (case k_number_of => k_is)
    (case a_read => k_is)
    (case l_read => k_is)
    (case c_read => k_is)
    (case k_read => k_is)
    (case a_whole_read => k_is)
    (case l_whole_read => k_is)
    (case c_whole_read => k_is)
    (case k_whole_read => k_is)
    (case a_ring_read => k_is)
    (case l_ring_read => k_is)
    (case c_ring_read => k_is)
    (case k_ring_read => k_is)
    (case a_figures_read => k_is)
    (case l_figures_read => k_is)
    (case c_figures_read => k_is)
    (case k_figures_read => k_is)
    (case a_figure_read => k_is)
    (case l_figure_read => k_is)
    (case c_figure_read => k_is)
    (case k_figure_read => k_is)
    (case a_law_cell_at => k_is)
    (case l_law_cell_at => k_is)
    (case c_law_cell_at => k_is)
    (case k_law_cell_at => k_is)
    (case a_law_draw => k_is)
    (case l_law_draw => k_is)
    (case c_law_draw => k_is)
    (case k_law_draw => k_is)
    (case a_law_whole => k_is)
    (case l_law_whole => k_is)
    (case c_law_whole => k_is)
    (case k_law_whole => k_is)
    (case a_law_is_writing => k_is)
    (case l_law_is_writing => k_is)
    (case c_law_is_writing => k_is)
    (case k_law_is_writing => k_is)
    (case a_law_word_of => k_is)
    (case l_law_word_of => k_is)
    (case c_law_word_of => k_is)
    (case k_law_word_of => k_is)
    (case a_law_number => k_is)
    (case l_law_number => k_is)
    (case c_law_number => k_is)
    (case k_law_number => k_is)
    (case a_law_places => k_is)
    (case l_law_places => k_is)
    (case c_law_places => k_is)
    (case k_law_places => k_is)
    (case a_law_parted => k_is)
    (case l_law_parted => k_is)
    (case c_law_parted => k_is)
    (case k_law_parted => k_is)
    (case a_law_read => k_is)
    (case l_law_read => k_is)
    (case c_law_read => k_is)
    (case k_law_read => k_is)
    (case a_law_told => k_is)
    (case l_law_told => k_is)
    (case c_law_told => k_is)
    (case k_law_told => k_is)
    (case a_law_drawn => k_is)
    (case l_law_drawn => k_is)
    (case c_law_drawn => k_is)
    (case k_law_drawn => k_is)
    (case a_law_shown => k_is)
    (case l_law_shown => k_is)
    (case c_law_shown => k_is)
    (case k_law_shown => k_is)
    (case a_law_odd => k_is)
    (case l_law_odd => k_is)
    (case c_law_odd => k_is)
    (case k_law_odd => k_is)
    (case a_law => k_is)
    (case l_law => k_is)
    (case c_law => k_is)
    (case k_law => k_is)
    (case i_GREATEST_BASE => k_is)
    (case i_GREATEST_WHOLE => k_is)
    (case i_LEAST_BASE => k_is)
    (case i_MOST_FIGURES => k_is)
    (case s_SIGNS => k_is)
    (case b_ValueError => k_is)
    (case b_bool => k_is)
    (case b_int => k_is)
    (case b_isinstance => k_is)
    (case b_len => k_is)
    (case b_list => k_is)
    (case b_range => k_is)
    (case b_tuple => k_is)
    (case m_FigureError => k_is)
    (case m_NoBase => k_is)
    (case m_NoFraction => k_is)
    (case m_NoWriting => k_is)
    (case m_NoNumber => k_is)
    (case m_TooLong => k_is)
    (case m_NoNote => k_is)
    (case e_FigureError => k_exc)
    (case e_NoBase => k_exc)
    (case xc_NoBase => exact ⟨by k_is, by k_is, by k_is, by k_is, by k_is, by k_is, by k_is, ⟨_, by k_is⟩⟩)
    (case r_NoBase => exact ⟨by k_is, by kit_is, by kit_is, by kit_is, by kit_is, by kit_is, by kit_is, by kit_is⟩)
    (case e_NoNote => k_exc)
    (case xc_NoNote => exact ⟨by k_is, by k_is, by k_is, by k_is, by k_is, by k_is, by k_is, ⟨_, by k_is⟩⟩)
    (case r_NoNote => exact ⟨by k_is, by kit_is, by kit_is, by kit_is, by kit_is, by kit_is, by kit_is, by kit_is⟩)
#print axioms PySem.Challenge.cw_ringfigures_k15_read_or_refused_holds
