import PyProof.Rows.All
import Wide.All
import OpenK.AllK
import Wide.FinOn
import Lean
import PyProof.EqAt
import PyProof.EqKinds
import PyProof.TupleCall
import PySem.Challenge.RW_ringfigures_k04_plain_writings
set_option Elab.async false
set_option linter.all false
set_option maxRecDepth 100000
/-! THE HAND LAYER, for ints, bools, texts, own classes, LISTS and tuples (index, slices, in, append, pop ..), calls, loops. Paste it whole ahead of your own text; what your proof does not reach may be deleted. -/
namespace L2
open PySem PySem.Spec PyProof.Rows

/-- a key: an int or a str -/
abbrev Key := Sum Int Str
def keyIs : Key → Value → Bool
  | .inl k, v => Value.isInt k v
  | .inr x, v => Value.isStrOf x v
def keyH (w : World) : Key → Int
  | .inl k => hashInt k
  | .inr x => hashStr w x
theorem keyIs_shape : ∀ {k : Key} {v : Value}, keyIs k v = true → (∃ i t, k = Sum.inl i ∧ v = Value.int i t) ∨ (∃ x t, k = Sum.inr x ∧ v = Value.str x t)
  | .inl i, v, h => by
    obtain ⟨t, e⟩ := Value.isInt_shape (k := i) (v := v) h
    exact .inl ⟨i, t, rfl, e⟩
  | .inr x, v, h => by
    obtain ⟨t, e⟩ := Value.isStrOf_shape (x := x) (v := v) h
    exact .inr ⟨x, t, rfl, e⟩
theorem keyIs_int (i : Int) (t : Tok) : keyIs (.inl i) (.int i t) = true := by simp [keyIs, Value.isInt]
theorem keyIs_str (x : Str) (t : Tok) : keyIs (.inr x) (.str x t) = true := by simp [keyIs, Value.isStrOf]
theorem key_ll (a b : Int) : decide ((Sum.inl a : Key) = Sum.inl b) = (a == b) := by
  by_cases e : a = b
  · subst e; simp
  · have h : ¬ (Sum.inl a : Key) = Sum.inl b := fun q => e (Sum.inl.inj q)
    rw [decide_eq_false h]
    exact (beq_eq_false_iff_ne.mpr e).symm
theorem key_rr (a b : Str) : decide ((Sum.inr a : Key) = Sum.inr b) = decide (a = b) := by
  by_cases e : a = b
  · subst e; simp
  · have h : ¬ (Sum.inr a : Key) = Sum.inr b := fun q => e (Sum.inr.inj q)
    rw [decide_eq_false h, decide_eq_false e]
theorem key_lr (a : Int) (b : Str) : decide ((Sum.inl a : Key) = Sum.inr b) = false := decide_eq_false (fun q => nomatch q)
theorem key_rl (a : Str) (b : Int) : decide ((Sum.inr a : Key) = Sum.inl b) = false := decide_eq_false (fun q => nomatch q)

def mixKind (prog : Program) (w : World) : PySem.KeyKind prog w Key where
  is := keyIs
  hash := keyH w
  inj := fun v a b ha hb => by
    rcases keyIs_shape ha with ⟨i, t, rfl, rfl⟩ | ⟨x, t, rfl, rfl⟩
    · rcases keyIs_shape hb with ⟨j, u, rfl, e⟩ | ⟨y, u, rfl, e⟩
      · injection e with e1 _; rw [e1]
      · exact nomatch e
    · rcases keyIs_shape hb with ⟨j, u, rfl, e⟩ | ⟨y, u, rfl, e⟩
      · exact nomatch e
      · injection e with e1 _; rw [e1]
  byValue := fun k v h => by
    rcases keyIs_shape h with ⟨i, t, rfl, rfl⟩ | ⟨x, t, rfl, rfl⟩ <;> rfl
  pyHash := fun hv h => by
    rcases keyIs_shape hv with ⟨i, t, rfl, rfl⟩ | ⟨x, t, rfl, rfl⟩
    · exact wpAny_pyHash_int h
    · exact wpAny_pyHash_str h
  eqBool := fun hu hv h => by
    rcases keyIs_shape hu with ⟨i, t, rfl, rfl⟩ | ⟨x, t, rfl, rfl⟩
    · rcases keyIs_shape hv with ⟨j, u, rfl, rfl⟩ | ⟨y, u, rfl, rfl⟩
      · rw [key_ll] at h; exact wpAny_eqBool_int h
      · rw [key_lr] at h; exact SeqAt.EqAt.int_str i t y u _ _ _ _ h
    · rcases keyIs_shape hv with ⟨j, u, rfl, rfl⟩ | ⟨y, u, rfl, rfl⟩
      · rw [key_rl] at h; exact SeqAt.EqAt.str_int x t j u _ _ _ _ h
      · rw [key_rr] at h; exact wpAny_eqBool_str h
  «strs» := fun k x t v h => by
    rcases keyIs_shape h with ⟨i, u, rfl, e⟩ | ⟨y, u, rfl, e⟩
    · exact nomatch e
    · injection e with e1 _
      subst e1
      cases v <;> rfl

theorem mixKind_is (prog : Program) (w : World) (k : Key) (v : Value) : (mixKind prog w).is k v = keyIs k v := rfl
theorem mixKind_int (prog : Program) (w : World) (i : Int) (t : Tok) : (mixKind prog w).is (.inl i) (.int i t) = true := keyIs_int i t
theorem mixKind_str (prog : Program) (w : World) (x : Str) (t : Tok) : (mixKind prog w).is (.inr x) (.str x t) = true := keyIs_str x t
end L2

namespace L2
open PySem PySem.Spec PyProof.Rows

/-- a value, without the heap -/
inductive V where
  | non | bl (b : Bool) | int (i : Int) | str (x : Str) | byt (b : Array UInt8) | flt (b : UInt64) | ref (a : Addr) | ty (n : String)
  deriving DecidableEq

def RelV : V → Value → Prop
  | .non, u => u = Value.none
  | .bl b, u => u = Value.bool b
  | .int i, u => ∃ t, u = Value.int i t
  | .str x, u => ∃ t, u = Value.str x t
  | .byt b, u => ∃ t, u = Value.bytes b t
  | .flt b, u => ∃ t, u = Value.float b t
  | .ref a, u => u = Value.ref a
  | .ty n, u => u = Value.type n

abbrev Vals : List V → List Value → Prop := Paired RelV
theorem Vals.length {xs : List V} {us : List Value} (r : Vals xs us) : xs.length = us.length := Paired.length r
theorem Vals.get : ∀ {xs : List V} {us : List Value} {i : Nat} {x : V}, Vals xs us → xs[i]? = some x → ∃ u, us[i]? = some u ∧ RelV x u
  | _, _, _, _, .nil, e => by simp at e
  | _, _, 0, _, .cons r _, e => by simp at e; subst e; exact ⟨_, rfl, r⟩
  | _, _, i + 1, x, .cons _ t, e => by
    obtain ⟨u, h1, h2⟩ := Vals.get (i := i) (x := x) t (by simpa using e)
    exact ⟨u, by simpa using h1, h2⟩
theorem Vals.set {x : V} {u : Value} (r : RelV x u) : ∀ {xs : List V} {us : List Value} (i : Nat), Vals xs us → Vals (xs.set i x) (us.set i u)
  | _, _, _, .nil => .nil
  | _, _, 0, .cons _ t => .cons r t
  | _, _, i + 1, .cons q t => .cons q (Vals.set r i t)
theorem Vals.append : ∀ {xs ys : List V} {us ws : List Value}, Vals xs us → Vals ys ws → Vals (xs ++ ys) (us ++ ws)
  | _, _, _, _, .nil, s => s
  | _, _, _, _, .cons r t, s => .cons r (Vals.append t s)
theorem Vals.take : ∀ {xs : List V} {us : List Value} (n : Nat), Vals xs us → Vals (xs.take n) (us.take n)
  | _, _, 0, _ => .nil
  | _, _, _ + 1, .nil => .nil
  | _, _, n + 1, .cons r t => .cons r (Vals.take n t)
theorem Vals.drop : ∀ {xs : List V} {us : List Value} (n : Nat), Vals xs us → Vals (xs.drop n) (us.drop n)
  | _, _, 0, r => r
  | _, _, _ + 1, .nil => .nil
  | _, _, n + 1, .cons _ t => Vals.drop n t
theorem Vals.none_of : ∀ {xs : List V} {us : List Value} {i : Nat}, Vals xs us → xs[i]? = none → us[i]? = none := fun {xs us i} r e => by
  have h1 := r.length
  have h2 : xs.length ≤ i := List.getElem?_eq_none_iff.mp e
  exact List.getElem?_eq_none_iff.mpr (by omega)

def RelO : Option V → Option Value → Prop
  | some v, some u => RelV v u
  | none, none => True
  | _, _ => False
def KV {κ : Type} : List (κ × V) → List (κ × Value) → Prop := Paired fun (p : κ × V) (q : κ × Value) => p.1 = q.1 ∧ RelV p.2 q.2

/-- a key of a dict (00_mix): an int or a text -/
def kV : Key → V
  | .inl i => .int i
  | .inr x => .str x

/-- what stands at a tracked address -/
inductive HO where
  /-- a list -/
  | lst (xs : List V)
  /-- a tuple (never changes) -/
  | tup (xs : List V)
  /-- a dict whose keys are ints and texts; one whose keys are tuples of ints and texts (the empty one is both) -/
  | dK (kvs : List (Key × V)) | dT (kvs : List (List Key × V))
  /-- a set of ints: its members, its size -/
  | set (S : Int → Bool) (n : Nat)
  /-- an instance of the class at C, its dict at dx, its attributes -/
  | ins (C dx : Addr) (fs : List (Str × V))
  /-- the dict of the instance at x -/
  | own (x : Addr)
  /-- the dict of an exception -/
  | xd (fs : List (Str × V))
  /-- a bound method, f of x -/
  | met (f x : Addr)
  /-- a range object lo, lo + 1, .. below hi -/
  | rng (lo hi : Int)
  /-- a thing that is known to the object (the script; a dict while a loop walks it): read, never written while it is so -/
  | frz (o : Obj) (u : HO)
  /-- a code object's table -/
  | tbl (ps : Array Value)
  /-- any other thing, by what is true of its one object (a def of one's own: SetO a S n := HO.ext fun h => ..) -/
  | ext (φ : Heap → Prop)

abbrev Hp := Addr → Option HO
def upd (H : Hp) (a : Addr) (o : HO) : Hp := fun b => if b = a then some o else H b
theorem upd_same {H : Hp} {a : Addr} {o : HO} : upd H a o a = some o := by unfold upd; rw [if_pos rfl]
theorem upd_ne {H : Hp} {a b : Addr} {o : HO} (h : b ≠ a) : upd H a o b = H b := by unfold upd; rw [if_neg h]
theorem upd_upd {H : Hp} {a : Addr} {o u : HO} : upd (upd H a o) a u = upd H a u := by
  funext b; unfold upd; split <;> rfl
/-- two objects of different content stand apart -/
theorem ne_of {H : Hp} {a b : Addr} {o u : HO} (h : H a = some o) (h' : H b = some u) (d : o ≠ u) : a ≠ b := by
  intro e; subst e; rw [h] at h'; exact d (Option.some.inj h')
theorem ne_of_none {H : Hp} {a b : Addr} {o : HO} (h : H a = some o) (h' : H b = none) : a ≠ b := by
  intro e; subst e; rw [h] at h'; cases h'

section
variable (P : Program) (w : World)
def ObjOk (H : Hp) (h : Heap) (a : Addr) : HO → Prop
  | .lst xs => xs.length ≤ sizeLine ∧ ∃ (its : List Value) (n : Nat), Vals xs its ∧ h.get? a = some { cls := .type "list", data := .seq its.toArray n }
  | .tup xs => xs.length ≤ sizeLine ∧ ∃ its : List Value, Vals xs its ∧ IsTup h a its.toArray
  | .dK kvs => kvs.length ≤ sizeLine ∧ (a == sysModules) = false ∧ ∃ vs, KV kvs vs ∧ h.DictOf (mixKind P w) a vs
  | .dT kvs => kvs.length ≤ sizeLine ∧ (a == sysModules) = false ∧ ∃ xs : List (List Key × Addr × Value),
      Paired (fun (p : List Key × V) (q : List Key × Addr × Value) => p.1 = q.1 ∧ H q.2.1 = some (.tup (p.1.map kV)) ∧ RelV p.2 q.2.2) kvs xs ∧
      ∃ o es ep, h.get? a = some o ∧ o.ExactDict ∧ o.data = .dict es ep ∧ es.toList = xs.map (entryOfKey (tupleKind (mixKind P w))) ∧ (xs.map (·.1)).Nodup
  | .set S n => h.SetOf (intKind P w) a S n
  | .ins C dx fs => H dx = some (.own a) ∧ fs.length ≤ 1000 ∧ dx ≠ a ∧ h.get? a = some (PySem.W.instObj C dx) ∧
      ∃ mA, h.Ns1 dx mA ∧ (∀ f, RelO (fs.lookup f) (mA f)) ∧ PySem.Within mA (fs.map (·.1))
  | .own _ => ∃ o, h.get? a = some o
  | .xd fs => ∃ mA, h.Ns1 a mA ∧ ∀ f, RelO (fs.lookup f) (mA f)
  | .rng lo hi => ∃ t u v, h.get? a = some { cls := .type "range", data := .fields #[.int lo t, .int hi u, .int 1 v] }
  | .frz o u => h.get? a = some o ∧ ObjOk H h a u
  | .tbl ps => h.get? a = some { cls := .none, data := .fields ps }
  | .met f x => h.get? a = some (PySem.W.methodObj (.ref f) (.ref x))
  | .ext φ => φ h ∧ (∃ o, h.get? a = some o) ∧ ∀ h1 h2 : Heap, φ h1 → (∀ o, h1.get? a = some o → h2.get? a = some o) → φ h2
/-- the abstract heap is held -/
def HOk (H : Hp) (h : Heap) : Prop := ∀ a o, H a = some o → ObjOk P w H h a o
end

section
variable {P : Program} {w : World} {H H' : Hp} {h h' : Heap} {a : Addr} {o : HO}
theorem ObjOk.lt (x : ObjOk P w H h a o) : a < h.objs.size := by
  cases o with
  | lst xs => obtain ⟨_, _, _, _, e⟩ := x; exact Heap.lt_size e
  | tup xs => obtain ⟨_, _, _, p⟩ := x; exact p.lt
  | dK kvs => obtain ⟨_, _, _, _, o, _, _, e, _⟩ := x; exact Heap.lt_size e
  | dT kvs => obtain ⟨_, _, _, _, o, _, _, e, _⟩ := x; exact Heap.lt_size e
  | set S n => obtain ⟨o, _, _, _, e, _⟩ := x; exact Heap.lt_size e
  | ins C dx fs => obtain ⟨_, _, _, e, _⟩ := x; exact Heap.lt_size e
  | own y => obtain ⟨_, e⟩ := x; exact Heap.lt_size e
  | xd fs => obtain ⟨_, ⟨_, _, _, e, _⟩, _⟩ := x; exact Heap.lt_size e
  | rng lo hi => obtain ⟨_, _, _, e⟩ := x; exact Heap.lt_size e
  | frz ob u => obtain ⟨e, _⟩ := x; exact Heap.lt_size e
  | tbl ps => exact Heap.lt_size (show h.get? a = some _ from x)
  | met f y => exact Heap.lt_size (show h.get? a = some _ from x)
  | ext φ => obtain ⟨_, ⟨_, e⟩, _⟩ := x; exact Heap.lt_size e
theorem Paired.mapP {α β : Type} {F G : α → β → Prop} : ∀ {l₁ : List α} {l₂ : List β}, Paired F l₁ l₂ → (∀ a b, F a b → G a b) → Paired G l₁ l₂
  | _, _, .nil, _ => .nil
  | _, _, .cons r t, f => .cons (f _ _ r) (Paired.mapP t f)
theorem Paired.imp' {α β : Type} {F G : α → β → Prop} (f : ∀ a b, F a b → G a b) {l₁ : List α} {l₂ : List β} (r : Paired F l₁ l₂) : Paired G l₁ l₂ := Paired.mapP r f
/-- what an object's description leans on: its own object, its own dict, the tuples -/
theorem ObjOk.stay (x : ObjOk P w H h a o) (k : ∀ b u, (b = a ∨ H b = some (.own a)) → h.get? b = some u → h'.get? b = some u)
    (ho : ∀ b, H b = some (.own a) → H' b = some (.own a)) (ht : ∀ b xs, H b = some (.tup xs) → H' b = some (.tup xs)) : ObjOk P w H' h' a o := by
  induction o with
  | lst xs => obtain ⟨z, its, n, r, e⟩ := x; exact ⟨z, its, n, r, k _ _ (.inl rfl) e⟩
  | tup xs => obtain ⟨z, its, r, ob, e, c⟩ := x; exact ⟨z, its, r, ob, k _ _ (.inl rfl) e, c⟩
  | dK kvs => obtain ⟨z, y, vs, r, ob, es, ep, e, c⟩ := x; exact ⟨z, y, vs, r, ob, es, ep, k _ _ (.inl rfl) e, c⟩
  | dT kvs =>
    obtain ⟨z, y, xs, r, ob, es, ep, e, c⟩ := x
    exact ⟨z, y, xs, Paired.mapP r fun p q z => ⟨z.1, ht _ _ z.2.1, z.2.2⟩, ob, es, ep, k _ _ (.inl rfl) e, c⟩
  | set S n => obtain ⟨ob, es, ep, t, e, c⟩ := x; exact ⟨ob, es, ep, t, k _ _ (.inl rfl) e, c⟩
  | ins C dx fs =>
    obtain ⟨d, z, ne, e, mA, ⟨od, es, ep, e2, c⟩, r⟩ := x
    exact ⟨ho _ d, z, ne, k _ _ (.inl rfl) e, mA, ⟨od, es, ep, k _ _ (.inr d) e2, c⟩, r⟩
  | own y => obtain ⟨ob, e⟩ := x; exact ⟨ob, k _ _ (.inl rfl) e⟩
  | xd fs => obtain ⟨mA, ⟨od, es, ep, e, c⟩, r⟩ := x; exact ⟨mA, ⟨od, es, ep, k _ _ (.inl rfl) e, c⟩, r⟩
  | rng lo hi => obtain ⟨t, u, v, e⟩ := x; exact ⟨t, u, v, k _ _ (.inl rfl) e⟩
  | frz ob u ih => obtain ⟨e, q⟩ := x; exact ⟨k _ _ (.inl rfl) e, ih q⟩
  | tbl ps =>
    have e : h.get? a = some { cls := .none, data := .fields ps } := x
    show h'.get? a = some { cls := .none, data := .fields ps }
    exact k a _ (.inl rfl) e
  | met f y =>
    have e : h.get? a = some (PySem.W.methodObj (.ref f) (.ref y)) := x
    show h'.get? a = some (PySem.W.methodObj (.ref f) (.ref y))
    exact k a _ (.inl rfl) e
  | ext φ => obtain ⟨p, ⟨o, e⟩, st⟩ := x; exact ⟨st _ _ p fun o q => k _ _ (.inl rfl) q, ⟨o, k _ _ (.inl rfl) e⟩, st⟩
theorem HOk.lt (x : HOk P w H h) (e : H a = some o) : a < h.objs.size := (x a o e).lt
theorem HOk.fresh (x : HOk P w H h) (e : h.objs.size ≤ a) : H a = none := by
  cases q : H a with
  | none => rfl
  | some u => exact absurd (Nat.lt_of_lt_of_le (x.lt q) e) (Nat.lt_irrefl _)
/-- every object of the heap is kept -/
theorem HOk.kept (x : HOk P w H h) (k : ∀ b u, h.get? b = some u → h'.get? b = some u) : HOk P w H h' := fun a o e =>
  (x a o e).stay (fun b u _ q => k b u q) (fun _ q => q) fun _ _ q => q
/-- a new object is laid and tracked -/
theorem HOk.laid (x : HOk P w H h) (k : ∀ b u, h.get? b = some u → h'.get? b = some u) (hp : h.objs.size ≤ a) (new : ObjOk P w (upd H a o) h' a o) : HOk P w (upd H a o) h' := fun b u e => by
  have hn := x.fresh hp
  by_cases hb : b = a
  · subst hb; rw [upd_same] at e; cases e; exact new
  · rw [upd_ne hb] at e
    exact (x b u e).stay (fun c v _ q => k c v q) (fun c q => by rw [upd_ne (ne_of_none q hn)]; exact q) fun c xs q => by rw [upd_ne (ne_of_none q hn)]; exact q
end

/-- what may be read as u: it is u, or a known u -/
def Rd (H : Hp) (a : Addr) (u : HO) : Prop := H a = some u ∨ ∃ o, H a = some (.frz o u)
theorem Rd.of {H : Hp} {a : Addr} {u : HO} (h : H a = some u) : Rd H a u := .inl h
theorem Rd.ok {P : Program} {w : World} {H : Hp} {h : Heap} {a : Addr} {u : HO} (r : Rd H a u) (x : HOk P w H h) : ObjOk P w H h a u := by
  rcases r with r | ⟨o, r⟩
  · exact x a u r
  · obtain ⟨_, q⟩ := x a _ r
    exact q
/-- what may be written -/
def Mut : Option HO → Prop
  | some (.lst _) => True
  | some (.dK _) => True
  | some (.dT _) => True
  | some (.set _ _) => True
  | some (.ins _ _ _) => True
  | some (.ext _) => True
  | _ => False
section
variable {P : Program} {w : World} {H : Hp} {h h' : Heap} {x e : Addr} {o' : HO}
/-- the object at e is changed: x itself, or the dict of the instance x -/
theorem HOk.write (ok : HOk P w H h) (mu : Mut (H x)) (he : e = x ∨ H e = some (.own x)) (k : ∀ b u, b ≠ e → h.get? b = some u → h'.get? b = some u) (heo : ∃ u, h'.get? e = some u)
    (new : ObjOk P w (upd H x o') h' x o') : HOk P w (upd H x o') h' := fun b u q => by
  have nown : ∀ c y, H c = some (.own y) → c ≠ x := fun c y r z => by subst z; rw [r] at mu; exact mu
  have ntup : ∀ c xs, H c = some (.tup xs) → c ≠ x := fun c xs r z => by subst z; rw [r] at mu; exact mu
  by_cases hb : b = x
  · subst hb; rw [upd_same] at q; cases q; exact new
  · rw [upd_ne hb] at q
    by_cases hbe : b = e
    · have q' : H b = some (.own x) := by
        rcases he with z | z
        · exact absurd (hbe.trans z) hb
        · rw [hbe]; exact z
      rw [q] at q'; cases q'
      obtain ⟨v, hv⟩ := heo
      exact ⟨v, by rw [hbe]; exact hv⟩
    · refine (ok b u q).stay (fun c v hc r => k c v ?_ r) (fun c r => by rw [upd_ne (nown c b r)]; exact r) fun c xs r => by rw [upd_ne (ntup c xs r)]; exact r
      rcases hc with rfl | hc
      · exact hbe
      · rintro rfl
        rcases he with z | z
        · exact nown c b hc z
        · rw [hc] at z; cases z; exact hb rfl
end

/-! ### kept unless tracked; of the frames at fs (the callers') the slots may change (an exception that passes writes there); of the records at ex (iterators) nothing is said -/
structure Un (fs ex : List Addr) (H H' : Hp) (h h' : Heap) : Prop where
  keep : ∀ b o, h.get? b = some o → H b = none → b ∉ fs → b ∉ ex → h'.get? b = some o
  slot : ∀ b o, h.get? b = some o → H b = none → b ∈ fs → b ∉ ex → ∃ sl, h'.get? b = some { o with slots := sl }
  free : ∀ b o, h.get? b = some o → H b = none → b ∉ ex → H' b = none
  there : ∀ b o, h.get? b = some o → b ∉ ex → ∃ o', h'.get? b = some o'
  tups : ∀ b xs, H b = some (.tup xs) → H' b = some (.tup xs)
  frzs : ∀ b o u, H b = some (.frz o u) → H' b = some (.frz o u)
  tbls : ∀ b ps, H b = some (.tbl ps) → ∃ more, H' b = some (.tbl (ps ++ more))
section
variable {fs fs' ex ex' : List Addr} {H H1 H2 : Hp} {h h1 h2 h' : Heap} {a x e : Addr} {o : HO}
theorem Un.any (u : Un fs ex H H1 h h1) {b : Addr} {ob : Obj} (q : h.get? b = some ob) (n : H b = none) (hx : b ∉ ex) : ∃ sl, h1.get? b = some { ob with slots := sl } := by
  by_cases hb : b ∈ fs
  · exact u.slot b ob q n hb hx
  · exact ⟨ob.slots, u.keep b ob q n hb hx⟩
theorem Un.trans (a : Un fs ex H H1 h h1) (b : Un fs ex H1 H2 h1 h2) : Un fs ex H H2 h h2 where
  keep := fun c ob q n hc hx => b.keep c ob (a.keep c ob q n hc hx) (a.free c ob q n hx) hc hx
  slot := fun c ob q n hc hx => by
    obtain ⟨sl, e1⟩ := a.slot c ob q n hc hx
    obtain ⟨sl', e2⟩ := b.slot c _ e1 (a.free c ob q n hx) hc hx
    exact ⟨sl', e2⟩
  free := fun c ob q n hx => by
    obtain ⟨o', e1⟩ := a.there c ob q hx
    exact b.free c o' e1 (a.free c ob q n hx) hx
  there := fun c ob q hx => by
    obtain ⟨o', e1⟩ := a.there c ob q hx
    exact b.there c o' e1 hx
  tups := fun c xs q => b.tups c xs (a.tups c xs q)
  frzs := fun c ob xs q => b.frzs c ob xs (a.frzs c ob xs q)
  tbls := fun c ps q => by
    obtain ⟨m1, e1⟩ := a.tbls c ps q
    obtain ⟨m2, e2⟩ := b.tbls c _ e1
    exact ⟨m1 ++ m2, by rw [e2, Array.append_assoc]⟩
theorem Un.kept (k : ∀ b u, h.get? b = some u → h'.get? b = some u) : Un fs ex H H h h' :=
  ⟨fun b ob q _ _ _ => k b ob q, fun b ob q _ _ _ => ⟨ob.slots, k b ob q⟩, fun _ _ _ n _ => n, fun b ob q _ => ⟨ob, k b ob q⟩, fun _ _ q => q, fun _ _ _ q => q, fun _ ps q => ⟨#[], by rw [q]; simp⟩⟩
theorem Un.refl : Un fs ex H H h h := Un.kept fun _ _ q => q
theorem Un.laid (k : ∀ b u, h.get? b = some u → h'.get? b = some u) (hp : h.objs.size ≤ a) (hn : H a = none) : Un fs ex H (upd H a o) h h' where
  keep := fun b u q _ _ _ => k b u q
  slot := fun b u q _ _ _ => ⟨u.slots, k b u q⟩
  free := fun b u q n _ => by rw [upd_ne (Nat.ne_of_lt (Nat.lt_of_lt_of_le (Heap.lt_size q) hp))]; exact n
  there := fun b u q _ => ⟨u, k b u q⟩
  tups := fun b xs q => by rw [upd_ne (ne_of_none q hn)]; exact q
  frzs := fun b u xs q => by rw [upd_ne (ne_of_none q hn)]; exact q
  tbls := fun b ps q => ⟨#[], by rw [upd_ne (ne_of_none q hn), q]; simp⟩
theorem Un.write (mu : Mut (H x)) (he : e = x ∨ H e = some (.own x)) (k : ∀ b u, b ≠ e → h.get? b = some u → h'.get? b = some u) (heo : ∃ u, h'.get? e = some u) : Un fs ex H (upd H x o) h h' := by
  have hx : ∀ b, H b = none → b ≠ x := fun b n z => by subst z; rw [n] at mu; exact mu
  have hb : ∀ b, H b = none → b ≠ e := fun b n z => by
    subst z
    rcases he with r | r
    · exact hx b n r
    · rw [n] at r; cases r
  have hm : ∀ b u, H b = some u → ¬ Mut (some u) → b ≠ x := fun b u q nm z => by subst z; rw [q] at mu; exact nm mu
  refine ⟨fun b u q n _ _ => k b u (hb b n) q, fun b u q n _ _ => ⟨u.slots, k b u (hb b n) q⟩, fun b u q n _ => by rw [upd_ne (hx b n)]; exact n, fun b u q _ => ?_,
    fun b xs q => by rw [upd_ne (hm b _ q fun z => z)]; exact q, fun b u xs q => by rw [upd_ne (hm b _ q fun z => z)]; exact q, fun b ps q => ⟨#[], by rw [upd_ne (hm b _ q fun z => z), q]; simp⟩⟩
  by_cases hbe : b = e
  · subst hbe; exact heo
  · exact ⟨u, k b u hbe q⟩
theorem Un.mono (u : Un fs ex H H1 h h1) (hs : ∀ b ∈ fs, b ∈ fs') (hx : ∀ b ∈ ex, b ∈ ex') : Un fs' ex' H H1 h h1 :=
  ⟨fun b ob q n hb he => u.keep b ob q n (fun z => hb (hs b z)) fun z => he (hx b z), fun _ _ q n _ he => u.any q n fun z => he (hx _ z), fun b ob q n he => u.free b ob q n fun z => he (hx b z), fun b ob q he => u.there b ob q fun z => he (hx b z), u.tups, u.frzs, u.tbls⟩
end

/-! ### the heap without what is tracked -/
def trk (h : Heap) (H : Hp) : List Addr := (List.range h.objs.size).filter fun a => (H a).isSome
def hidT (h : Heap) (H : Hp) : Heap := PySem.W.hideAll h (trk h H)
theorem hidT_size (h : Heap) (H : Hp) : (hidT h H).objs.size = h.objs.size := PySem.W.hideAll_size _ _
theorem hidT_get {h : Heap} {H : Hp} {b : Addr} {o : Obj} (e : h.get? b = some o) (n : H b = none) : (hidT h H).get? b = some o :=
  PySem.W.hideAll_get _ e fun hm => by
    have q : (H b).isSome = true := (List.mem_filter.mp hm).2
    rw [n] at q; simp at q
theorem of_hidT {h : Heap} {H : Hp} {b : Addr} {o : Obj} (e : (hidT h H).get? b = some o) : h.get? b = some o ∧ H b = none := by
  have e' : h.get? b = some o := PySem.W.of_hideAll (trk h H) e
  refine ⟨e', ?_⟩
  cases q : H b with
  | none => rfl
  | some x =>
    have hm : b ∈ trk h H := List.mem_filter.mpr ⟨List.mem_range.mpr (Heap.lt_size e'), by simp [q]⟩
    have z : (hidT h H).get? b = none := PySem.W.hideAll_none (trk h H) hm
    rw [z] at e; cases e

/-! ### OpenK's ledger, filled with every new object but one -/
def allNews (g h : Heap) (L : Addr) : List (Addr × Obj) := (List.range h.objs.size).filterMap fun a => if a = L ∨ (g.get? a).isSome = true then none else (h.get? a).map fun o => (a, o)
theorem mem_allNews {g h : Heap} {L a : Addr} {o : Obj} (h1 : a ≠ L) (h2 : g.get? a = none) (h3 : h.get? a = some o) : (a, o) ∈ allNews g h L :=
  List.mem_filterMap.mpr ⟨a, List.mem_range.mpr (Heap.lt_size h3), by simp [h1, h2, h3]⟩
theorem of_mem_allNews {g h : Heap} {L : Addr} {p : Addr × Obj} (hp : p ∈ allNews g h L) : p.1 ≠ L ∧ g.get? p.1 = none ∧ h.get? p.1 = some p.2 := by
  obtain ⟨b, _, e⟩ := List.mem_filterMap.mp hp
  split at e
  · cases e
  · rename_i hn
    cases q : h.get? b with
    | none => rw [q] at e; simp at e
    | some u =>
      rw [q] at e
      simp only [Option.map_some, Option.some.injEq] at e
      subst e
      refine ⟨fun z => hn (.inl z), ?_, q⟩
      show g.get? b = none
      cases r : g.get? b with
      | none => rfl
      | some v => exact (hn (.inr (by simp [r]))).elim
def rest (g h : Heap) (L d : Addr) : List (Addr × Obj) := (allNews g h L).filter fun p => decide (p.1 ≠ d)
theorem rest_ne {g h : Heap} {L d : Addr} : ∀ p ∈ rest g h L d, p.1 ≠ d := fun p hp => of_decide_eq_true (List.mem_filter.mp hp).2
theorem mem_rest {g h : Heap} {L d a : Addr} {o : Obj} (h1 : a ≠ L) (h2 : g.get? a = none) (h3 : h.get? a = some o) (h4 : a ≠ d) : (a, o) ∈ rest g h L d :=
  List.mem_filter.mpr ⟨mem_allNews h1 h2 h3, decide_eq_true h4⟩
theorem news_all {g h : Heap} {L : Addr} : News g L h (allNews g h L) := fun p hp => let ⟨a, b, c⟩ := of_mem_allNews hp; ⟨c, a, b⟩
theorem news_at {g h : Heap} {L d : Addr} {o : Obj} (h1 : d ≠ L) (h2 : g.get? d = none) (h3 : h.get? d = some o) : News g L h ((d, o) :: rest g h L d) := fun p hp => by
  rcases List.mem_cons.mp hp with rfl | hp
  · exact ⟨h3, h1, h2⟩
  · exact news_all p (List.mem_filter.mp hp).1
/-- behind a rule that changed d alone: all else but the frame is kept -/
theorem kept_of_news {g h h' : Heap} {L d : Addr} {m : Str → Option Value} (k : ∀ b o, g.get? b = some o → h.get? b = some o) (F : Fr g L h' m) (N : News g L h' (rest g h L d)) :
    ∀ b o, b ≠ L → b ≠ d → h.get? b = some o → h'.get? b = some o := fun b o h1 h2 e => by
  cases q : g.get? b with
  | some u =>
    have := k b u q
    rw [e] at this; cases this
    exact F.keep b _ q
  | none => exact (N (b, o) (mem_rest h1 q e h2)).1
end L2

namespace L2
open PySem PySem.Spec PyProof.Rows

/-- the module's facts, over the base: the heap at the law's entry without what is tracked there -/
structure Mod (K : PySem.W.Frag) (mg : Str → Option Value) (base : Heap) : Prop where
  kin : K.In base
  glob : base.Ns mainGlobals mg
  blt : ∃ mb, base.Ns builtinsNs mb ∧ ∀ x : Str, x ≠ "__name__" → mb x = bootBuiltins x
  nolimit : base.NoLimit

/-- the context: a def's body (or a comprehension's block) running. base: fixed through the whole law; s₀, H₀: the entry; outer: the frames whose slots others may change (a def's callers); stack: all frames that run;
   ex: iterators that were made ahead of the entry and are walked here (a comprehension's); fn: the names whose cells were made at the entry (a def: all; a comprehension's block: its own); calm: not within an except suite; pn: pins that every state bears; xe: what is wanted of an exception that leaves the code -/
structure Cx where
  prog : Program
  w : World
  K : PySem.W.Frag
  mg : Str → Option Value
  base : Heap
  A : Around
  N : List Str
  s₀ : Shared
  H₀ : Hp
  env : Env
  outer : List Env
  stack : List Env
  ex : List Addr
  fn : Str → Bool
  calm : Bool
  pn : List (Addr × Obj)
  xe : Value → Shared → Prop
/-- the callers' frames -/
def frs (l : List Env) : List Addr := l.filterMap (·.frame)
abbrev Cx.fs (X : Cx) : List Addr := frs X.outer

def Vis (sc : Scope) (x : Str) : Prop := sc.names.lookup x = some .local ∨ sc.names.lookup x = some .cell ∨ sc.names.lookup x = some .free
def Loc (sc : Scope) (x : Str) : Prop := sc.names.lookup x = some .local ∨ sc.names.lookup x = some .cell
def Look (env : Env) (h : Heap) (m : Str → Option Value) (x : Str) (u : Value) : Prop :=
  (env.kindOf x = some .local ∧ m x = some u) ∨ ((env.kindOf x = some .cell ∨ env.kindOf x = some .free) ∧ ∃ c, env.cells.lookup x = some c ∧ h.IsCell c (some u))

structure Cx.Ok (X : Cx) : Prop where
  mod : Mod X.K X.mg X.base
  kind : X.env.scope.kind = .function
  glob : X.env.globals = mainGlobals
  blt : X.env.builtins = builtinsNs
  above : X.s₀.heap.objs.size ≤ X.env.locals
  inj : ∀ x y c, X.env.cells.lookup x = some c → X.env.cells.lookup y = some c → x = y
  has : ∀ x, (X.env.kindOf x = some .cell ∨ X.env.kindOf x = some .free) → ∃ c, X.env.cells.lookup x = some c
  cab : ∀ x c, X.fn x = true → X.env.cells.lookup x = some c → X.s₀.heap.objs.size ≤ c
  hd : X.calm = true → X.A.handled = none
  frames : X.A.frames = some X.stack
  stk : X.stack = X.outer ∨ (X.stack = X.env :: X.outer ∧ X.env.frame = some X.env.locals)
  exf : ∀ b ∈ X.ex, b ≠ X.env.locals ∧ ∀ x c, X.env.cells.lookup x = some c → c ≠ b
  bs : ∀ b o, X.base.get? b = some o → X.s₀.heap.get? b = some o ∧ X.H₀ b = none
  bsz : X.base.objs.size ≤ X.s₀.heap.objs.size
  noex : ∀ b o, X.base.get? b = some o → b ∉ X.ex
  exfs : ∀ b ∈ X.ex, b ∉ X.fs
  funs : X.s₀.heap.FunFrames X.base X.outer
  frf : ∀ b ∈ X.fs, X.H₀ b = none

structure Inv (X : Cx) (pins : List (Addr × Obj)) (σ : List (Option V)) (H : Hp) (s : Shared) : Prop where
  ok : X.Ok
  os : s.os = X.s₀.os
  bare : AllBare s.gens
  base : Un X.fs X.ex X.H₀ H X.s₀.heap s.heap
  loc : ∃ m, s.heap.Ns X.env.locals m ∧ ∀ (i : Nat) (x : Str) (v : V), X.N[i]? = some x → σ[i]? = some (some v) → Vis X.env.scope x → ∃ u, RelV v u ∧ Look X.env s.heap m x u
  cell : ∀ x c, X.env.cells.lookup x = some c → ∃ v, s.heap.IsCell c v
  free : H X.env.locals = none
  freeC : ∀ x c, X.env.cells.lookup x = some c → H c = none
  pin : ∀ p ∈ X.pn ++ pins, s.heap.get? p.1 = some p.2 ∧ H p.1 = none ∧ p.1 ≠ X.env.locals ∧ p.1 ∉ X.fs ∧ ∀ v, p.2.data ≠ .cell v
  hok : HOk X.prog X.w H s.heap
  len : σ.length = X.N.length

section
variable {X : Cx} {pins : List (Addr × Obj)} {σ : List (Option V)} {H H' : Hp} {s : Shared} {h' : Heap}

theorem Cx.Ok.nofr (ok : X.Ok) {b : Addr} {o : Obj} (e : X.base.get? b = some o) : b ∉ X.fs := fun hb => by
  have := (ok.funs.mem hb).1
  rw [e] at this; cases this
theorem Inv.bs (I : Inv X pins σ H s) : ∀ b o, X.base.get? b = some o → s.heap.get? b = some o ∧ H b = none := fun b o e =>
  ⟨I.base.keep b o (I.ok.bs b o e).1 (I.ok.bs b o e).2 (I.ok.nofr e) (I.ok.noex b o e), I.base.free b o (I.ok.bs b o e).1 (I.ok.bs b o e).2 (I.ok.noex b o e)⟩
theorem Inv.bk (I : Inv X pins σ H s) : ∀ b o, X.base.get? b = some o → s.heap.get? b = some o := fun b o e => (I.bs b o e).1
theorem Inv.mod (I : Inv X pins σ H s) : Mod X.K X.mg X.base := I.ok.mod
theorem Inv.kIn (I : Inv X pins σ H s) : X.K.In s.heap := I.ok.mod.kin.keeps I.bk
theorem Inv.nolimit (I : Inv X pins σ H s) : s.heap.NoLimit := I.ok.mod.nolimit.keeps I.bk
/-- the frame over the base: for OpenK's rules (K.In X.base is I.mod.kin) -/
theorem Inv.fr (I : Inv X pins σ H s) : ∃ m, Fr X.base X.env.locals s.heap m :=
  let ⟨m, hn, _⟩ := I.loc
  ⟨m, hn, I.bk, Nat.le_trans I.ok.bsz I.ok.above⟩
theorem Inv.lt (I : Inv X pins σ H s) : X.env.locals < s.heap.objs.size := let ⟨_, hn, _⟩ := I.loc; hn.lt
theorem Inv.sz (I : Inv X pins σ H s) : X.s₀.heap.objs.size ≤ s.heap.objs.size := Nat.le_trans I.ok.above (Nat.le_of_lt I.lt)
theorem Inv.nofs (I : Inv X pins σ H s) {a : Addr} (h : s.heap.objs.size ≤ a) : a ∉ X.fs := fun hb => by
  obtain ⟨_, o, ho, _⟩ := I.ok.funs.mem hb
  exact absurd (Nat.lt_of_lt_of_le (Heap.lt_size ho) (Nat.le_trans I.sz h)) (Nat.lt_irrefl _)
theorem Inv.cne (I : Inv X pins σ H s) : ∀ x c, X.env.cells.lookup x = some c → c ≠ X.env.locals := fun x c e z => by
  obtain ⟨v, o, ho, hd⟩ := I.cell x c e
  obtain ⟨m, ⟨o', es, ep, ho', hd', _⟩, _⟩ := I.loc
  rw [z, ho'] at ho; cases ho; rw [hd'] at hd; cases hd
theorem Inv.funs (I : Inv X pins σ H s) : s.heap.FunFrames X.base X.outer := by
  have all : ∀ (l : List Env), (∀ b ∈ frs l, b ∈ X.fs) → X.s₀.heap.FunFrames X.base l → s.heap.FunFrames X.base l := by
    intro l
    induction l with
    | nil => intro _ _; trivial
    | cons env r ih =>
      intro hs hl
      obtain ⟨hk, ⟨L, o, hf, hn, ho, hd⟩, hr⟩ := hl
      have hL : L ∈ X.fs := hs L (by unfold frs; rw [List.filterMap_cons, hf]; exact List.mem_cons_self)
      obtain ⟨sl, e⟩ := I.base.slot L o ho (I.ok.frf L hL) hL fun z => I.ok.exfs L z hL
      exact ⟨hk, ⟨L, _, hf, hn, e, hd⟩, ih (fun b hb => hs b (by unfold frs; rw [List.filterMap_cons, hf]; exact List.mem_cons_of_mem _ hb)) hr⟩
  exact all X.outer (fun _ hb => hb) I.ok.funs

/-- the frames that run, for a call -/
theorem Inv.stack (I : Inv X pins σ H s) : s.heap.FunFrames X.base X.stack := by
  rcases I.ok.stk with e | ⟨e, hf⟩
  · rw [e]; exact I.funs
  · rw [e]
    obtain ⟨m, hn, _⟩ := I.loc
    refine .cons (by rw [I.ok.kind]; decide) hf hn ?_ I.funs
    exact Heap.get?_none_of_le (Nat.le_trans I.ok.bsz I.ok.above)
theorem Inv.stkSub (I : Inv X pins σ H s) : ∀ b ∈ frs X.stack, b ∈ X.env.locals :: X.fs := fun b hb => by
  rcases I.ok.stk with e | ⟨e, hf⟩
  · rw [e] at hb; exact List.mem_cons_of_mem _ hb
  · rw [e] at hb
    unfold frs at hb
    rw [List.filterMap_cons, hf] at hb
    exact hb
theorem Inv.stkFree (I : Inv X pins σ H s) : ∀ b ∈ frs X.stack, H b = none := fun b hb => by
  rcases List.mem_cons.mp (I.stkSub b hb) with e | hb
  · rw [e]; exact I.free
  · obtain ⟨_, o, ho, _⟩ := I.ok.funs.mem hb
    exact I.base.free b o ho (I.ok.frf b hb) fun z => I.ok.exfs b z hb

/-- THE STEP: the untracked objects but the frame and the records at ch are kept (the callers' frames up to slots), the frame's map is kept, the new abstract heap is held -/
theorem Inv.step {g' : Array GenState} {t' : Nat} {d' : Drawn} {ch : List Addr} (I : Inv X pins σ H s)
    (hch : ∀ b ∈ ch, (b ∈ X.ex ∨ X.s₀.heap.objs.size ≤ b) ∧ b ≠ X.env.locals ∧ (∀ x c, X.env.cells.lookup x = some c → c ≠ b) ∧ ∀ p ∈ X.pn ++ pins, p.1 ≠ b)
    (keep : ∀ b o, b ≠ X.env.locals → b ∉ X.fs → b ∉ ch → s.heap.get? b = some o → H b = none → h'.get? b = some o)
    (slot : ∀ b o, b ≠ X.env.locals → b ∈ X.fs → b ∉ ch → s.heap.get? b = some o → H b = none → ∃ sl, h'.get? b = some { o with slots := sl }) (free : ∀ b o, b ∉ ch → s.heap.get? b = some o → H b = none → H' b = none)
    (there : ∀ b o, b ∉ ch → s.heap.get? b = some o → ∃ o', h'.get? b = some o')
    (tups : ∀ b xs, H b = some (.tup xs) → H' b = some (.tup xs)) (frzs : ∀ b o u, H b = some (.frz o u) → H' b = some (.frz o u)) (tbls : ∀ b ps, H b = some (.tbl ps) → ∃ more, H' b = some (.tbl (ps ++ more)))
    (ns : ∀ m, s.heap.Ns X.env.locals m → h'.Ns X.env.locals m) (hok : HOk X.prog X.w H' h') (hg : AllBare g') :
    Inv X pins σ H' { s with heap := h', gens := g', drawn := d', toks := t' } := by
  have neL : ∀ b o, X.s₀.heap.get? b = some o → b ≠ X.env.locals := fun b o e => Nat.ne_of_lt (Nat.lt_of_lt_of_le (Heap.lt_size e) I.ok.above)
  have neC : ∀ b o, X.s₀.heap.get? b = some o → b ∉ X.ex → b ∉ ch := fun b o e hx hb => by
    rcases (hch b hb).1 with z | z
    · exact hx z
    · exact absurd (Nat.lt_of_lt_of_le (Heap.lt_size e) z) (Nat.lt_irrefl _)
  have cellK : ∀ x c, X.env.cells.lookup x = some c → ∀ v, s.heap.IsCell c v → h'.IsCell c v := fun x c e v ⟨o, ho, hd⟩ => by
    have nch : c ∉ ch := fun z => (hch c z).2.2.1 x c e rfl
    by_cases hc : c ∈ X.fs
    · obtain ⟨sl, q⟩ := slot c o (I.cne x c e) hc nch ho (I.freeC x c e)
      exact ⟨_, q, hd⟩
    · exact ⟨o, keep c o (I.cne x c e) hc nch ho (I.freeC x c e), hd⟩
  refine ⟨I.ok, I.os, hg, ⟨fun b o e n hb hx => ?_, fun b o e n hb hx => ?_, fun b o e n hx => ?_, fun b o e hx => ?_, fun b xs e => tups b xs (I.base.tups b xs e), fun b o xs e => frzs b o xs (I.base.frzs b o xs e), fun b ps e => ?_⟩, ?_, fun x c e => ?_, ?_, fun x c e => ?_, fun p hp => ?_, hok, I.len⟩
  · exact keep b o (neL b o e) hb (neC b o e hx) (I.base.keep b o e n hb hx) (I.base.free b o e n hx)
  · obtain ⟨sl, e1⟩ := I.base.slot b o e n hb hx
    obtain ⟨sl', e2⟩ := slot b _ (neL b o e) hb (neC b o e hx) e1 (I.base.free b o e n hx)
    exact ⟨sl', e2⟩
  · obtain ⟨o', e1⟩ := I.base.there b o e hx
    exact free b o' (neC b o e hx) e1 (I.base.free b o e n hx)
  · obtain ⟨o', e1⟩ := I.base.there b o e hx
    exact there b o' (neC b o e hx) e1
  · obtain ⟨m1, e1⟩ := I.base.tbls b ps e
    obtain ⟨m2, e2⟩ := tbls b _ e1
    exact ⟨m1 ++ m2, by rw [e2, Array.append_assoc]⟩
  · obtain ⟨m, hn, hl⟩ := I.loc
    refine ⟨m, ns m hn, fun i x v e1 e2 e3 => ?_⟩
    obtain ⟨u, r, l⟩ := hl i x v e1 e2 e3
    refine ⟨u, r, ?_⟩
    rcases l with l | ⟨k, c, e, z⟩
    · exact .inl l
    · exact .inr ⟨k, c, e, cellK x c e _ z⟩
  · obtain ⟨v, z⟩ := I.cell x c e
    exact ⟨v, cellK x c e v z⟩
  · obtain ⟨m, ⟨o, _, _, ho, _⟩, _⟩ := I.loc
    exact free _ o (fun z => (hch _ z).2.1 rfl) ho I.free
  · obtain ⟨v, o, ho, hd⟩ := I.cell x c e
    exact free c o (fun z => (hch c z).2.2.1 x c e rfl) ho (I.freeC x c e)
  · obtain ⟨e, n, ne, nf, d⟩ := I.pin p hp
    have nch : p.1 ∉ ch := fun z => (hch p.1 z).2.2.2 p hp rfl
    exact ⟨keep p.1 p.2 ne nf nch e n, free p.1 p.2 nch e n, ne, nf, d⟩
/-- .. where the frame's own object is kept too -/
theorem Inv.un {t' : Nat} (I : Inv X pins σ H s) (u : Un X.fs [] H H' s.heap h') (hok : HOk X.prog X.w H' h') : Inv X pins σ H' { s with heap := h', toks := t' } := by
  obtain ⟨m, ⟨o, es, ep, ho, r⟩, _⟩ := id I.loc
  obtain ⟨sl, hL⟩ := u.any ho I.free (by simp)
  exact I.step (g' := s.gens) (d' := s.drawn) (ch := []) (fun _ z => nomatch z) (fun b o _ hb _ e n => u.keep b o e n hb (by simp)) (fun b o _ hb _ e n => u.slot b o e n hb (by simp)) (fun b o _ e n => u.free b o e n (by simp)) (fun b o _ e => u.there b o e (by simp)) u.tups u.frzs u.tbls (fun m' hm => by
    obtain ⟨o', es', ep', ho', r'⟩ := hm
    rw [ho] at ho'; cases ho'
    exact ⟨_, es', ep', hL, r'⟩) hok I.bare
/-- behind a call (or a comprehension's block): the slots of this frame may have changed too, the records at ch may have turned -/
theorem Inv.call {g' : Array GenState} {t' : Nat} {d' : Drawn} {ch : List Addr} (I : Inv X pins σ H s) (u : Un (frs X.stack) ch H H' s.heap h') (hok : HOk X.prog X.w H' h') (hg : AllBare g')
    (hch : ∀ b ∈ ch, (b ∈ X.ex ∨ X.s₀.heap.objs.size ≤ b) ∧ b ≠ X.env.locals ∧ (∀ x c, X.env.cells.lookup x = some c → c ≠ b) ∧ ∀ p ∈ X.pn ++ pins, p.1 ≠ b) :
    Inv X pins σ H' { s with heap := h', gens := g', drawn := d', toks := t' } := by
  obtain ⟨m, ⟨o, es, ep, ho, r⟩, _⟩ := id I.loc
  obtain ⟨sl, hL⟩ := u.any ho I.free fun z => (hch _ z).2.1 rfl
  exact I.step (ch := ch) hch (fun b o hL hb hc e n => u.keep b o e n (fun z => (List.mem_cons.mp (I.stkSub b z)).elim hL hb) hc) (fun b o _ _ hc e n => u.any e n hc) (fun b o hc e n => u.free b o e n hc) (fun b o hc e => u.there b o e hc) u.tups u.frzs u.tbls (fun m' hm => by
    obtain ⟨o', es', ep', ho', r'⟩ := hm
    rw [ho] at ho'; cases ho'
    exact ⟨_, es', ep', hL, r'⟩) hok hg
/-- an untracked record of ours (an iterator) has turned -/
theorem Inv.turned {t' : Nat} {it : Addr} (I : Inv X pins σ H s) (k : ∀ b o, b ≠ it → s.heap.get? b = some o → h'.get? b = some o) (hn : H it = none) (hL : it ≠ X.env.locals)
    (h1 : it ∈ X.ex ∨ X.s₀.heap.objs.size ≤ it) (h2 : ∀ x c, X.env.cells.lookup x = some c → c ≠ it) (h3 : ∀ p ∈ X.pn ++ pins, p.1 ≠ it) : Inv X pins σ H { s with heap := h', toks := t' } := by
  have nit : ∀ b u, H b = some u → b ≠ it := fun b u e z => by rw [z, hn] at e; cases e
  refine I.step (g' := s.gens) (d' := s.drawn) (ch := [it]) (fun b hb => ?_) (fun b o _ _ hc e _ => k b o (fun z => hc (by simp [z])) e) (fun b o _ _ hc e _ => ⟨o.slots, k b o (fun z => hc (by simp [z])) e⟩) (fun _ _ _ _ n => n)
    (fun b o hc e => ⟨o, k b o (fun z => hc (by simp [z])) e⟩) (fun _ _ e => e) (fun _ _ _ e => e) (fun b ps e => ⟨#[], by rw [e]; simp⟩) (fun m hm => ?_) (fun b u e => ?_) I.bare
  · have e : b = it := by simpa using hb
    subst e
    exact ⟨h1, hL, h2, h3⟩
  · obtain ⟨o, es, ep, ho, r⟩ := hm
    exact ⟨o, es, ep, k _ o (Ne.symm hL) ho, r⟩
  · refine (I.hok b u e).stay (fun c v hc q => k c v ?_ q) (fun _ q => q) fun _ _ q => q
    rcases hc with z | z
    · rw [z]; exact nit b u e
    · exact nit c _ z
theorem Inv.tok (I : Inv X pins σ H s) (t : Nat) : Inv X pins σ H { s with toks := t } := I.un (h' := s.heap) (t' := t) Un.refl I.hok
/-- all objects kept -/
theorem Inv.kept {t' : Nat} (I : Inv X pins σ H s) (k : ∀ b u, s.heap.get? b = some u → h'.get? b = some u) : Inv X pins σ H { s with heap := h', toks := t' } := I.un (Un.kept k) (I.hok.kept k)
/-- a new object laid and tracked -/
theorem Inv.laid {a : Addr} {o : HO} {t' : Nat} (I : Inv X pins σ H s) (k : ∀ b u, s.heap.get? b = some u → h'.get? b = some u) (hp : s.heap.objs.size ≤ a) (new : ObjOk X.prog X.w (upd H a o) h' a o) :
    Inv X pins σ (upd H a o) { s with heap := h', toks := t' } := I.un (Un.laid k hp (I.hok.fresh hp)) (I.hok.laid k hp new)
/-- an object written -/
theorem Inv.write {x e : Addr} {o : HO} {t' : Nat} (I : Inv X pins σ H s) (mu : Mut (H x)) (he : e = x ∨ H e = some (.own x)) (k : ∀ b u, b ≠ e → s.heap.get? b = some u → h'.get? b = some u) (heo : ∃ u, h'.get? e = some u)
    (new : ObjOk X.prog X.w (upd H x o) h' x o) : Inv X pins σ (upd H x o) { s with heap := h', toks := t' } := I.un (Un.write mu he k heo) (I.hok.write mu he k heo new)
/-- forgetting slots, pins -/
theorem Inv.weak {σ' : List (Option V)} (I : Inv X pins σ H s) (hl : σ'.length = σ.length) (w : ∀ (i : Nat) v, σ'[i]? = some (some v) → σ[i]? = some (some v)) : Inv X pins σ' H s :=
  ⟨I.ok, I.os, I.bare, I.base, let ⟨m, hn, hl'⟩ := I.loc; ⟨m, hn, fun i x v e1 e2 e3 => hl' i x v e1 (w i v e2) e3⟩, I.cell, I.free, I.freeC, I.pin, I.hok, hl.trans I.len⟩
theorem Inv.pins_of {pins' : List (Addr × Obj)} (I : Inv X pins σ H s) (h : ∀ p ∈ pins', s.heap.get? p.1 = some p.2 ∧ H p.1 = none ∧ p.1 ≠ X.env.locals ∧ p.1 ∉ X.fs ∧ ∀ v, p.2.data ≠ .cell v) : Inv X pins' σ H s :=
  ⟨I.ok, I.os, I.bare, I.base, I.loc, I.cell, I.free, I.freeC, fun p hp => (List.mem_append.mp hp).elim (fun z => I.pin p (List.mem_append_left _ z)) (h p), I.hok, I.len⟩

theorem nodup_ix {N : List Str} (hN : N.Nodup) {i j : Nat} {x : Str} (a : N[i]? = some x) (b : N[j]? = some x) : i = j := by
  obtain ⟨h1, e1⟩ := List.getElem?_eq_some_iff.mp a
  obtain ⟨h2, e2⟩ := List.getElem?_eq_some_iff.mp b
  exact (List.getElem_inj hN).mp (e1.trans e2.symm)

/-- a name is stored; what changed -/
theorem store_ok2 {M : Model} {A : Around} {E : Value → Shared → Prop} {i : Nat} {x : Str} {v : V} {u : Value} {Q : Unit → Shared → Prop} (I : Inv X pins σ H s) (hN : X.N.Nodup) (hi : X.N[i]? = some x) (hx : Loc X.env.scope x) (r : RelV v u)
    (h : ∀ s', Inv X pins (σ.set i (some v)) H s' → (∃ a, Heap.SameBut a s.heap s'.heap ∧ (a = X.env.locals ∨ X.env.cells.lookup x = some a)) → Q () s') (hf : X.fn x = true ∨ X.env.scope.names.lookup x = some .local := by first | exact .inl rfl | exact .inr rfl | assumption) : wpAny M A (storeName X.env x u) Q E s := by
  obtain ⟨m, hn, hl⟩ := id I.loc
  have hcls : (X.env.scope.kind == .class || (X.env.scope.kind == .module && X.env.locals != X.env.globals)) = false := by rw [I.ok.kind]; rfl
  have hiσ : i < σ.length := by rw [I.len]; exact (List.getElem?_eq_some_iff.mp hi).1
  have cne := I.cne
  have tracked : ∀ {a : Addr} {h' : Heap}, (∃ o, s.heap.get? a = some o ∧ H a = none) → Heap.SameBut a s.heap h' → HOk X.prog X.w H h' := fun {a h'} ha hs b ob e => by
    obtain ⟨_, _, hfree⟩ := ha
    refine (I.hok b ob e).stay (fun c w' hc q => (hs.2 c ?_).trans q) (fun _ q => q) fun _ _ q => q
    rintro rfl
    rcases hc with rfl | hc
    · rw [hfree] at e; cases e
    · rw [hfree] at hc; cases hc
  rcases hx with hk | hk
  · refine wpAny_storeName_local hk hn (fun h' hn' hs => ?_) hcls
    obtain ⟨oL, _, _, hoL, _⟩ := id hn
    refine h _ ⟨I.ok, I.os, I.bare, ⟨fun b o e n hb hx => ?_, fun b o e n hb hx => ?_, I.base.free, fun b o e hx => ?_, I.base.tups, I.base.frzs, I.base.tbls⟩, ⟨_, hn', fun j y v' e1 e2 e3 => ?_⟩, fun y c e => ?_, I.free, I.freeC, fun p hp => ?_, tracked ⟨oL, hoL, I.free⟩ hs, by simpa using I.len⟩ ⟨_, hs, .inl rfl⟩
    · exact (hs.2 b (Nat.ne_of_lt (Nat.lt_of_lt_of_le (Heap.lt_size e) I.ok.above))).trans (I.base.keep b o e n hb hx)
    · obtain ⟨sl, e1⟩ := I.base.slot b o e n hb hx
      exact ⟨sl, (hs.2 b (Nat.ne_of_lt (Nat.lt_of_lt_of_le (Heap.lt_size e) I.ok.above))).trans e1⟩
    · obtain ⟨o', e1⟩ := I.base.there b o e hx
      exact ⟨o', (hs.2 b (Nat.ne_of_lt (Nat.lt_of_lt_of_le (Heap.lt_size e) I.ok.above))).trans e1⟩
    · by_cases hj : j = i
      · subst hj
        rw [hi] at e1; cases e1
        rw [List.getElem?_set_self hiσ] at e2
        cases e2
        exact ⟨u, r, .inl ⟨hk, by simp⟩⟩
      · rw [List.getElem?_set_ne (Ne.symm hj)] at e2
        obtain ⟨u', r', q⟩ := hl j y v' e1 e2 e3
        refine ⟨u', r', ?_⟩
        rcases q with ⟨k, e⟩ | ⟨k, c, e, z⟩
        · refine .inl ⟨k, ?_⟩
          have : y ≠ x := fun e => hj (nodup_ix hN e1 (e ▸ hi))
          simp [this, e]
        · exact .inr ⟨k, c, e, z.sameBut hs (cne y c e)⟩
    · obtain ⟨w', z⟩ := I.cell y c e
      exact ⟨w', z.sameBut hs (cne y c e)⟩
    · obtain ⟨e, n, ne, nf, d⟩ := I.pin p hp
      exact ⟨(hs.2 p.1 ne).trans e, n, ne, nf, d⟩
  · have hfn : X.fn x = true := by
      rcases hf with z | z
      · exact z
      · rw [z] at hk; cases hk
    obtain ⟨c, hc⟩ := I.ok.has x (.inl hk)
    obtain ⟨w', z⟩ := I.cell x c hc
    refine wpAny_storeName_cell I.ok.kind hk hc z (fun h' hc' hs => ?_)
    obtain ⟨oc, hoc, hocd⟩ := id z
    refine h { s with heap := h' } ⟨I.ok, I.os, I.bare, ⟨fun b o e n hb hx => ?_, fun b o e n hb hx => ?_, I.base.free, fun b o e hx => ?_, I.base.tups, I.base.frzs, I.base.tbls⟩, ⟨m, hn.sameBut hs (Ne.symm (cne x c hc)), fun j y v' e1 e2 e3 => ?_⟩, fun y c' e => ?_, I.free, I.freeC, fun p hp => ?_, tracked ⟨oc, hoc, I.freeC x c hc⟩ hs, by simpa using I.len⟩ ⟨c, hs, .inr hc⟩
    · exact (hs.2 b (Nat.ne_of_lt (Nat.lt_of_lt_of_le (Heap.lt_size e) (I.ok.cab x c hfn hc)))).trans (I.base.keep b o e n hb hx)
    · obtain ⟨sl, e1⟩ := I.base.slot b o e n hb hx
      exact ⟨sl, (hs.2 b (Nat.ne_of_lt (Nat.lt_of_lt_of_le (Heap.lt_size e) (I.ok.cab x c hfn hc)))).trans e1⟩
    · obtain ⟨o', e1⟩ := I.base.there b o e hx
      exact ⟨o', (hs.2 b (Nat.ne_of_lt (Nat.lt_of_lt_of_le (Heap.lt_size e) (I.ok.cab x c hfn hc)))).trans e1⟩
    · by_cases hj : j = i
      · subst hj
        rw [hi] at e1; cases e1
        rw [List.getElem?_set_self hiσ] at e2
        cases e2
        exact ⟨u, r, .inr ⟨.inl hk, c, hc, hc'⟩⟩
      · rw [List.getElem?_set_ne (Ne.symm hj)] at e2
        obtain ⟨u', r', q⟩ := hl j y v' e1 e2 e3
        refine ⟨u', r', ?_⟩
        rcases q with q | ⟨k, c', e, z'⟩
        · exact .inl q
        · refine .inr ⟨k, c', e, z'.sameBut hs ?_⟩
          rintro rfl
          exact hj (nodup_ix hN e1 (I.ok.inj _ _ _ e hc ▸ hi))
    · by_cases hcc : c' = c
      · subst hcc; exact ⟨_, hc'⟩
      · obtain ⟨w2, z2⟩ := I.cell y c' e
        exact ⟨w2, z2.sameBut hs hcc⟩
    · obtain ⟨e, n, ne, nf, d⟩ := I.pin p hp
      refine ⟨(hs.2 p.1 ?_).trans e, n, ne, nf, d⟩
      intro q
      rw [q, hoc] at e
      have q' : oc = p.2 := Option.some.inj e
      exact d w' (by rw [← q']; exact hocd)
theorem store_ok {M : Model} {A : Around} {E : Value → Shared → Prop} {i : Nat} {x : Str} {v : V} {u : Value} {Q : Unit → Shared → Prop} (I : Inv X pins σ H s) (hN : X.N.Nodup) (hi : X.N[i]? = some x) (hx : Loc X.env.scope x) (r : RelV v u)
    (h : ∀ s', Inv X pins (σ.set i (some v)) H s' → Q () s') (hf : X.fn x = true ∨ X.env.scope.names.lookup x = some .local := by first | exact .inl rfl | exact .inr rfl | assumption) : wpAny M A (storeName X.env x u) Q E s :=
  store_ok2 I hN hi hx r (fun s' I' _ => h s' I') hf
/-- behind a call or a block, the state as it is -/
theorem Inv.call' {s' : Shared} {ch : List Addr} (I : Inv X pins σ H s) (ho : s'.os = s.os) (u : Un (frs X.stack) ch H H' s.heap s'.heap) (hok : HOk X.prog X.w H' s'.heap) (hg : AllBare s'.gens)
    (hch : ∀ b ∈ ch, (b ∈ X.ex ∨ X.s₀.heap.objs.size ≤ b) ∧ b ≠ X.env.locals ∧ (∀ x c, X.env.cells.lookup x = some c → c ≠ b) ∧ ∀ p ∈ X.pn ++ pins, p.1 ≠ b) : Inv X pins σ H' s' := by
  obtain ⟨h', g', d', t', o'⟩ := s'
  have e : o' = s.os := ho
  subst e
  exact I.call (g' := g') (t' := t') (d' := d') u hok hg hch
end

/-! ### the judgements -/
/-- an exception: its class, its own dict's address (where it has one), the abstract heap behind it -/
abbrev XK := Value → Option Addr → Hp → Prop
abbrev St := List (Option V)
abbrev VK := V → Hp → Prop
/-- an expression's reading; a test's; an argument list's -/
abbrev TE := St → Hp → VK → Prop
abbrev TT := St → Hp → (Bool → Hp → Prop) → Prop
abbrev TA := St → Hp → (List V → Hp → Prop) → Prop
/-- what is wanted behind a statement -/
structure Ends where
  nx : St → Hp → Prop
  rt : VK
  bk : St → Hp → Prop := fun _ _ => False
  ct : St → Hp → Prop := fun _ _ => False
abbrev TS := Ends → St → Hp → Prop

def EP (X : Cx) (pins : List (Addr × Obj)) (σ : St) (Q : VK) (u : Value) (s' : Shared) : Prop := ∃ v H', Inv X pins σ H' s' ∧ RelV v u ∧ Q v H'
def TP (X : Cx) (pins : List (Addr × Obj)) (σ : St) (Q : Bool → Hp → Prop) (b : Bool) (s' : Shared) : Prop := ∃ H', Inv X pins σ H' s' ∧ Q b H'
def AP (X : Cx) (pins : List (Addr × Obj)) (σ : St) (Q : List V → Hp → Prop) (us : List Value) (s' : Shared) : Prop := ∃ vs H', Inv X pins σ H' s' ∧ Vals vs us ∧ Q vs H'
def SP (X : Cx) (pins : List (Addr × Obj)) (D : Ends) (f : Flow) (s' : Shared) : Prop :=
  match f with
  | .next => ∃ σ' H', Inv X pins σ' H' s' ∧ D.nx σ' H'
  | .brk => ∃ σ' H', Inv X pins σ' H' s' ∧ D.bk σ' H'
  | .cont => ∃ σ' H', Inv X pins σ' H' s' ∧ D.ct σ' H'
  | .ret u => ∃ v σ' H', Inv X pins σ' H' s' ∧ RelV v u ∧ D.rt v H'

def PE (X : Cx) (e : Expr) (t : TE) : Prop :=
  ∀ (pins : List (Addr × Obj)) (s : Shared) (σ : St) (H : Hp) (Q : VK), Inv X pins σ H s → t σ H Q → wpAny (model X.prog X.w) X.A (eval e X.env) (EP X pins σ Q) X.xe s
def PT (X : Cx) (e : Expr) (t : TT) : Prop :=
  ∀ (pins : List (Addr × Obj)) (s : Shared) (σ : St) (H : Hp) (Q : Bool → Hp → Prop), Inv X pins σ H s → t σ H Q → wpAny (model X.prog X.w) X.A (isTrue e X.env (eval e X.env)) (TP X pins σ Q) X.xe s
/-- a test whatever its 'whole' is (and, or) -/
def PW (X : Cx) (e : Expr) (t : TT) : Prop :=
  ∀ (whole : Sem Value) (pins : List (Addr × Obj)) (s : Shared) (σ : St) (H : Hp) (Q : Bool → Hp → Prop), Inv X pins σ H s → t σ H Q → wpAny (model X.prog X.w) X.A (isTrue e X.env whole) (TP X pins σ Q) X.xe s
theorem PW.pt {X : Cx} {e : Expr} {t : TT} (h : PW X e t) : PT X e t := h _
/-- an argument list (no star), from the left -/
def PA (X : Cx) (es : List Expr) (t : TA) : Prop :=
  ∀ (pos : Pos) (pins : List (Addr × Obj)) (s : Shared) (σ : St) (H : Hp) (Q : List V → Hp → Prop), Inv X pins σ H s → t σ H Q → wpAny (model X.prog X.w) X.A (spliced (backTo pos (starEach es X.env))) (AP X pins σ Q) X.xe s
def PS (X : Cx) (st : Stmt) (t : TS) : Prop :=
  ∀ (pins : List (Addr × Obj)) (s : Shared) (σ : St) (H : Hp) (D : Ends), Inv X pins σ H s → t D σ H → wpAny (model X.prog X.w) X.A (exec st X.env) (SP X pins D) X.xe s
def PSs (X : Cx) (st : List Stmt) (t : TS) : Prop :=
  ∀ (pins : List (Addr × Obj)) (s : Shared) (σ : St) (H : Hp) (D : Ends), Inv X pins σ H s → t D σ H → wpAny (model X.prog X.w) X.A (execs st X.env) (SP X pins D) X.xe s
/-- weaken the end -/
theorem thn {α : Type} {t : Sem α} {Q Q' : α → Shared → Prop} {M : Model} {A : Around} {E : Value → Shared → Prop} {s : Shared} (h : wpAny M A t Q E s) (hQ : ∀ a s, Q a s → Q' a s) : wpAny M A t Q' E s := wpAny_mono h hQ fun _ _ x => x
end L2

namespace L2
open PySem PySem.Spec PyProof.Rows
section
variable {X : Cx}

/-- two expressions in a row -/
theorem bin {a b : Expr} {ta tb : TE} (ha : PE X a ta) (hb : PE X b tb) {pins : List (Addr × Obj)} {s : Shared} {σ : St} {H : Hp} {R : V → V → Hp → Prop} (I : Inv X pins σ H s) (h : ta σ H fun x H1 => tb σ H1 fun y H2 => R x y H2)
    {α : Type} {Q : α → Shared → Prop} {f : Value → Value → Sem α}
    (hf : ∀ v u s2 x y H2, Inv X pins σ H2 s2 → RelV x v → RelV y u → R x y H2 → wpAny (model X.prog X.w) X.A (f v u) Q X.xe s2) :
    wpAny (model X.prog X.w) X.A (eval a X.env) (fun v s₁ => wpAny (model X.prog X.w) X.A (eval b X.env) (fun u s₂ => wpAny (model X.prog X.w) X.A (f v u) Q X.xe s₂) X.xe s₁) X.xe s := by
  refine thn (ha pins s σ H _ I h) fun v s1 ⟨x, H1, I1, r1, q1⟩ => ?_
  refine thn (hb pins s1 σ H1 _ I1 q1) fun u s2 ⟨y, H2, I2, r2, q2⟩ => ?_
  exact hf v u s2 x y H2 I2 r1 r2 q2

/-! ### names and constants -/
def tVar (i : Nat) : TE := fun σ H Q => ∃ v, σ[i]? = some (some v) ∧ Q v H
def tC (v : V) : TE := fun _ H Q => Q v H
theorem pe_var {i : Nat} {x : Str} {pos : Pos} (hN : X.N[i]? = some x) (hv : Vis X.env.scope x) (hd : (x == ("__debug__" : Str)) = false := by decide) (hcd : (x == ("__classdict__" : Str)) = false := by decide) : PE X (.Name x pos) (tVar i) := by
  intro pins s σ H Q I h
  obtain ⟨v, e, h⟩ := h
  obtain ⟨m, hn, hl⟩ := I.loc
  obtain ⟨u, r, l⟩ := hl i x v hN e hv
  have fin : EP X pins σ Q u s := ⟨v, H, I, r, h⟩
  rcases l with ⟨hk, hm⟩ | ⟨hk, c, hc, hcell⟩
  · exact wpAny_Name (wpAny_loadName_local I.ok.kind hk hn hm fin) hd
  · rcases hk with hk | hk
    · exact wpAny_Name (wpAny_loadName_cell I.ok.kind hk hc hcell fin) hd
    · exact wpAny_Name (wpAny_loadName_free I.ok.kind hk hc hcell fin hcd) hd
theorem pe_int {i j pos} : PE X (.Constant (.int i) j pos) (tC (.int i)) := fun _ _ _ H _ I h => wpAny_Constant_int ⟨.int i, H, I.tok _, ⟨_, rfl⟩, h⟩
theorem pe_bl {b j pos} : PE X (.Constant (.bool b) j pos) (tC (.bl b)) := fun _ _ _ H _ I h => Constant_bool ⟨.bl b, H, I, rfl, h⟩
theorem pe_non {j pos} : PE X (.Constant .none j pos) (tC .non) := fun _ _ _ H _ I h => Constant_none ⟨.non, H, I, rfl, h⟩
theorem pe_str {x j pos} : PE X (.Constant (.str x) j pos) (tC (.str x)) := fun _ _ _ H _ I h => Calls.Constant_str ⟨.str x, H, I.tok _, ⟨_, rfl⟩, h⟩

/-- a global name of the def -/
def Gl (X : Cx) (x : Str) : Prop := X.env.kindOf x = some .globalImplicit
theorem ld_glob {E : Value → Shared → Prop} {pins : List (Addr × Obj)} {s : Shared} {σ : St} {H : Hp} {x : Str} {u : Value} {pos : Pos} {Q : Value → Shared → Prop} (I : Inv X pins σ H s) (hg : Gl X x) (hm : X.mg x = some u) (h : Q u s)
    (hd : (x == ("__debug__" : Str)) = false := by decide) : wpAny (model X.prog X.w) X.A (eval (.Name x pos) X.env) Q E s :=
  Calls.Name_function_global I.ok.kind hg (Calls.loadGlobal_global (by rw [I.ok.glob]; exact I.mod.glob.keeps I.bk) hm h) hd
theorem ld_blt {E : Value → Shared → Prop} {pins : List (Addr × Obj)} {s : Shared} {σ : St} {H : Hp} {x : Str} {u : Value} {pos : Pos} {Q : Value → Shared → Prop} (I : Inv X pins σ H s) (hg : Gl X x) (hm : X.mg x = none) (hv : bootBuiltins x = some u) (h : Q u s)
    (hn : x ≠ "__name__" := by decide) (hd : (x == ("__debug__" : Str)) = false := by decide) : wpAny (model X.prog X.w) X.A (eval (.Name x pos) X.env) Q E s := by
  obtain ⟨mb, h1, h2⟩ := I.mod.blt
  exact Calls.Name_function_global I.ok.kind hg (Calls.loadGlobal_builtin (by rw [I.ok.glob]; exact I.mod.glob.keeps I.bk) hm (by rw [I.ok.blt]; exact h1.keeps I.bk) ((h2 x hn).trans hv) h) hd
/-- a module's constant, a class, a function, as a value -/
theorem pe_glob {x : Str} {v : V} {u : Value} {pos : Pos} (hg : Gl X x) (hm : X.mg x = some u) (r : RelV v u) (hd : (x == ("__debug__" : Str)) = false := by decide) : PE X (.Name x pos) (tC v) :=
  fun _ _ _ H _ I h => ld_glob I hg hm ⟨v, H, I, r, h⟩ hd
theorem pe_bltn {x : Str} {v : V} {u : Value} {pos : Pos} (hg : Gl X x) (hm : X.mg x = none) (hv : bootBuiltins x = some u) (r : RelV v u) (hn : x ≠ "__name__" := by decide) (hd : (x == ("__debug__" : Str)) = false := by decide) : PE X (.Name x pos) (tC v) :=
  fun _ _ _ H _ I h => ld_blt I hg hm hv ⟨v, H, I, r, h⟩ hn hd

/-! ### arithmetic -/
/-- two ints -/
def t2I (ta tb : TE) (k : Int → Int → Hp → Prop) : St → Hp → Prop := fun σ H => ta σ H fun x H1 => tb σ H1 fun y H2 => ∃ i j, x = .int i ∧ y = .int j ∧ k i j H2
def tAdd (ta tb : TE) : TE := fun σ H Q => t2I ta tb (fun i j H2 => Q (.int (i + j)) H2) σ H
def tSub (ta tb : TE) : TE := fun σ H Q => t2I ta tb (fun i j H2 => Q (.int (i - j)) H2) σ H
/-- the left factor below 2^64 -/
def tMul (ta tb : TE) : TE := fun σ H Q => t2I ta tb (fun i j H2 => (-(2 ^ 64) < i ∧ i < 2 ^ 64) ∧ Q (.int (i * j)) H2) σ H
variable {a b : Expr} {ta tb : TE} {pos : Pos}
theorem pe_add (ha : PE X a ta) (hb : PE X b tb) : PE X (.BinOp a .Add b pos) (tAdd ta tb) := by
  intro pins s σ H Q I h
  refine wpAny_BinOp (bin ha hb I h fun v u s2 x y H2 I2 rx ry q => ?_)
  obtain ⟨i, j, rfl, rfl, q⟩ := q
  obtain ⟨t, rfl⟩ := rx
  obtain ⟨t', rfl⟩ := ry
  exact add_int ⟨.int _, H2, I2.tok _, ⟨_, rfl⟩, q⟩
theorem pe_sub (ha : PE X a ta) (hb : PE X b tb) : PE X (.BinOp a .Sub b pos) (tSub ta tb) := by
  intro pins s σ H Q I h
  refine wpAny_BinOp (bin ha hb I h fun v u s2 x y H2 I2 rx ry q => ?_)
  obtain ⟨i, j, rfl, rfl, q⟩ := q
  obtain ⟨t, rfl⟩ := rx
  obtain ⟨t', rfl⟩ := ry
  exact sub_int ⟨.int _, H2, I2.tok _, ⟨_, rfl⟩, q⟩
theorem pe_mul (ha : PE X a ta) (hb : PE X b tb) : PE X (.BinOp a .Mult b pos) (tMul ta tb) := by
  intro pins s σ H Q I h
  refine wpAny_BinOp (bin ha hb I h fun v u s2 x y H2 I2 rx ry q => ?_)
  obtain ⟨i, j, rfl, rfl, ⟨q1, q2⟩, q⟩ := q
  obtain ⟨t, rfl⟩ := rx
  obtain ⟨t', rfl⟩ := ry
  exact mul_int ⟨.int _, H2, I2.tok _, ⟨_, rfl⟩, q⟩ (.of_left (intBits_le_64 q1 q2))

/-! ### comparisons -/
def PC (X : Cx) (op : CmpOp) (a b : Expr) (t : TE) : Prop :=
  ∀ (pins : List (Addr × Obj)) (s : Shared) (σ : St) (H : Hp) (Q : VK), Inv X pins σ H s → t σ H Q →
    wpAny (model X.prog X.w) X.A (eval a X.env) (fun v s₁ => wpAny (model X.prog X.w) X.A (eval b X.env) (fun u s₂ => wpAny (model X.prog X.w) X.A (compareOp op v u) (EP X pins σ Q) X.xe s₂) X.xe s₁) X.xe s
theorem nobehind (b : Expr) {op : CmpOp} (h : op ≠ .In) (h2 : op ≠ .NotIn) : behindInMarks op b = false := by
  have e1 : (op == CmpOp.In) = false := by cases op <;> first | rfl | exact absurd rfl h
  have e2 : (op == CmpOp.NotIn) = false := by cases op <;> first | rfl | exact absurd rfl h2
  cases b <;> simp [behindInMarks, e1, e2]
def tCmp (p : Int → Int → Bool) (ta tb : TE) : TE := fun σ H Q => t2I ta tb (fun i j H2 => Q (.bl (p i j)) H2) σ H
abbrev tLt : TE → TE → TE := tCmp fun i j => decide (i < j)
abbrev tLe : TE → TE → TE := tCmp fun i j => decide (i ≤ j)
abbrev tGt : TE → TE → TE := tCmp fun i j => decide (j < i)
abbrev tGe : TE → TE → TE := tCmp fun i j => decide (j ≤ i)
abbrev tEqI : TE → TE → TE := tCmp fun i j => decide (i = j)
abbrev tNeI : TE → TE → TE := tCmp fun i j => !decide (i = j)
/-- a comparison of two ints, by its rule -/
theorem pc_int {op : CmpOp} {p : Int → Int → Bool} (ha : PE X a ta) (hb : PE X b tb)
    (rule : ∀ (i j : Int) (t u : Tok) (Q : Value → Shared → Prop) (s : Shared), Q (.bool (p i j)) s → wpAny (model X.prog X.w) X.A (compareOp op (.int i t) (.int j u)) Q X.xe s) : PC X op a b (tCmp p ta tb) := by
  intro pins s σ H Q I h
  refine bin ha hb I h fun v u s2 x y H2 I2 rx ry q => ?_
  obtain ⟨i, j, rfl, rfl, q⟩ := q
  obtain ⟨t, rfl⟩ := rx
  obtain ⟨t', rfl⟩ := ry
  exact rule i j t t' _ s2 ⟨.bl _, H2, I2, rfl, q⟩
theorem pc_lt (ha : PE X a ta) (hb : PE X b tb) : PC X .Lt a b (tLt ta tb) := pc_int ha hb fun _ _ _ _ _ _ h => lt_int h
theorem pc_le (ha : PE X a ta) (hb : PE X b tb) : PC X .LtE a b (tLe ta tb) := pc_int ha hb fun _ _ _ _ _ _ h => le_int h
theorem pc_gt (ha : PE X a ta) (hb : PE X b tb) : PC X .Gt a b (tGt ta tb) := pc_int ha hb fun _ _ _ _ _ _ h => gt_int h
theorem pc_ge (ha : PE X a ta) (hb : PE X b tb) : PC X .GtE a b (tGe ta tb) := pc_int ha hb fun _ _ _ _ _ _ h => ge_int h
theorem pc_eqI (ha : PE X a ta) (hb : PE X b tb) : PC X .Eq a b (tEqI ta tb) := pc_int ha hb fun _ _ _ _ _ _ h => eq_int (by rw [Bool.beq_eq_decide_eq]; exact h)
theorem pc_neI (ha : PE X a ta) (hb : PE X b tb) : PC X .NotEq a b (tNeI ta tb) := pc_int ha hb fun _ _ _ _ _ _ h => ne_int (by rw [bne, Bool.beq_eq_decide_eq]; exact h)
/-- is None -/
def tIsN (ta : TE) : TE := fun σ H Q => ta σ H fun x H1 => Q (.bl (decide (x = .non))) H1
def tNotN (ta : TE) : TE := fun σ H Q => ta σ H fun x H1 => Q (.bl (!decide (x = .non))) H1
theorem RelV.none_iff {x : V} {v : Value} (r : RelV x v) : (v == Value.none) = decide (x = .non) := by
  cases x with
  | non => cases r; rfl
  | bl _ => cases r; rfl
  | int _ => obtain ⟨t, rfl⟩ := r; rfl
  | str _ => obtain ⟨t, rfl⟩ := r; rfl
  | byt _ => obtain ⟨t, rfl⟩ := r; rfl
  | flt _ => obtain ⟨t, rfl⟩ := r; rfl
  | ref _ => cases r; rfl
  | ty _ => cases r; rfl
theorem pc_isN {j pos'} (ha : PE X a ta) : PC X .Is a (.Constant .none j pos') (tIsN ta) := by
  intro pins s σ H Q I h
  refine thn (ha pins s σ H _ I h) fun v s1 ⟨x, H1, I1, r1, q1⟩ => ?_
  exact Constant_none (is_none_gen ⟨.bl _, H1, I1, by rw [r1.none_iff]; rfl, q1⟩)
theorem pc_notN {j pos'} (ha : PE X a ta) : PC X .IsNot a (.Constant .none j pos') (tNotN ta) := by
  intro pins s σ H Q I h
  refine thn (ha pins s σ H _ I h) fun v s1 ⟨x, H1, I1, r1, q1⟩ => ?_
  exact Constant_none (isnot_none_gen ⟨.bl _, H1, I1, by rw [r1.none_iff]; rfl, q1⟩)
/-- a comparison as a value, as a test -/
def tB (t : TE) : TT := fun σ H Q => t σ H fun x H1 => ∃ c, x = .bl c ∧ Q c H1
theorem pe_cmp {op : CmpOp} {t : TE} (h : PC X op a b t) (h1 : behindInMarks op b = false := by first | exact nobehind _ (by decide) (by decide) | rfl) : PE X (.Compare a [op] [b] pos) t := fun pins s σ H Q I hw => wpAny_Compare1 (h pins s σ H Q I hw) h1
theorem pt_cmp {op : CmpOp} {t : TE} (h : PC X op a b t) (h1 : behindInMarks op b = false := by first | exact nobehind _ (by decide) (by decide) | rfl) : PT X (.Compare a [op] [b] pos) (tB t) := by
  intro pins s σ H Q I hw
  refine wpAny_isTrue_Compare1 (thn (h pins s σ H _ I hw) fun v s1 h1 => thn h1 fun u s2 h2 => thn h2 fun c s3 ⟨x, H1, I1, r1, q1⟩ => ?_) h1
  obtain ⟨d, rfl, q⟩ := q1
  cases r1
  exact wpAny_truthy_bool ⟨H1, I1, q⟩
/-- an expression whose value is a bool, as a test -/
theorem pt_val {e : Expr} {t : TE} (h : PE X e t) (he : ∀ whole, isTrue e X.env whole = (do let v ← whole; standAt e.pos; holding [v] (truthy v)) := by intro _; rfl) : PT X e (tB t) := by
  intro pins s σ H Q I hw
  refine isTrue_plain (thn (h pins s σ H _ I hw) fun v s1 ⟨x, H1, I1, r1, q1⟩ => ?_) (he _)
  obtain ⟨d, rfl, q⟩ := q1
  cases r1
  exact wpAny_truthy_bool ⟨H1, I1, q⟩

/-! ### and, or, not -/
variable {tA tB' : TT} {rest : List Expr}
def tAnd (t u : TT) : TT := fun σ H Q => t σ H fun c H1 => if c = true then u σ H1 Q else Q false H1
def tOr (t u : TT) : TT := fun σ H Q => t σ H fun c H1 => if c = true then Q true H1 else u σ H1 Q
def tNot (t : TT) : TT := fun σ H Q => t σ H fun c H1 => Q (!c) H1
theorem pw_and1 (ha : PT X a tA) : PW X (.BoolOp .And [a] pos) tA := by
  intro wh pins s σ H Q I h
  refine isTrue_and (thn (ha pins s σ H Q I h) fun c s1 e => ?_)
  cases c with
  | true => exact isTrue_and_nil e
  | false => exact e
theorem pw_or1 (ha : PT X a tA) : PW X (.BoolOp .Or [a] pos) tA := by
  intro wh pins s σ H Q I h
  refine isTrue_or (thn (ha pins s σ H Q I h) fun c s1 e => ?_)
  cases c with
  | false => exact isTrue_or_nil e
  | true => exact e
theorem pw_and (ha : PT X a tA) (hb : PW X (.BoolOp .And (b :: rest) pos) tB') : PW X (.BoolOp .And (a :: b :: rest) pos) (tAnd tA tB') := by
  intro wh pins s σ H Q I h
  refine isTrue_and (thn (ha pins s σ H _ I h) fun c s1 ⟨H1, I1, q1⟩ => ?_)
  cases c with
  | true => exact hb wh pins s1 σ H1 Q I1 q1
  | false => exact ⟨H1, I1, q1⟩
theorem pw_or (ha : PT X a tA) (hb : PW X (.BoolOp .Or (b :: rest) pos) tB') : PW X (.BoolOp .Or (a :: b :: rest) pos) (tOr tA tB') := by
  intro wh pins s σ H Q I h
  refine isTrue_or (thn (ha pins s σ H _ I h) fun c s1 ⟨H1, I1, q1⟩ => ?_)
  cases c with
  | true => exact ⟨H1, I1, q1⟩
  | false => exact hb wh pins s1 σ H1 Q I1 q1
theorem pt_not (ha : PT X a tA) : PT X (.UnaryOp .Not a pos) (tNot tA) := by
  intro pins s σ H Q I h
  exact isTrue_not (ha pins s σ H (fun c H1 => Q (!c) H1) I h)
/-- .. as values (bools) -/
def tAndV (ta tb : TE) : TE := fun σ H Q => ta σ H fun x H1 => ∃ c, x = .bl c ∧ if c = true then tb σ H1 Q else Q (.bl false) H1
def tOrV (ta tb : TE) : TE := fun σ H Q => ta σ H fun x H1 => ∃ c, x = .bl c ∧ if c = true then Q (.bl true) H1 else tb σ H1 Q
def tNotV (ta : TE) : TE := fun σ H Q => ta σ H fun x H1 => ∃ c, x = .bl c ∧ Q (.bl (!c)) H1
theorem pe_one {op} {t : TE} (h : PE X a t) : PE X (.BoolOp op [a] pos) t := fun pins s σ H Q I hw => BoolOp_one (h pins s σ H Q I hw)
theorem pe_and (ha : PE X a ta) (hb : PE X (.BoolOp .And (b :: rest) pos) tb) : PE X (.BoolOp .And (a :: b :: rest) pos) (tAndV ta tb) := by
  intro pins s σ H Q I h
  refine BoolOp_and (thn (ha pins s σ H _ I h) fun v s1 ⟨x, H1, I1, r1, q1⟩ => ?_)
  obtain ⟨c, rfl, q1⟩ := q1
  cases r1
  refine wpAny_truthy_bool ?_
  cases c with
  | true => exact hb pins s1 σ H1 Q I1 q1
  | false => exact ⟨.bl false, H1, I1, rfl, q1⟩
theorem pe_or (ha : PE X a ta) (hb : PE X (.BoolOp .Or (b :: rest) pos) tb) : PE X (.BoolOp .Or (a :: b :: rest) pos) (tOrV ta tb) := by
  intro pins s σ H Q I h
  refine BoolOp_or (thn (ha pins s σ H _ I h) fun v s1 ⟨x, H1, I1, r1, q1⟩ => ?_)
  obtain ⟨c, rfl, q1⟩ := q1
  cases r1
  refine wpAny_truthy_bool ?_
  cases c with
  | false => exact hb pins s1 σ H1 Q I1 q1
  | true => exact ⟨.bl true, H1, I1, rfl, q1⟩
theorem pe_not (ha : PE X a ta) : PE X (.UnaryOp .Not a pos) (tNotV ta) := by
  intro pins s σ H Q I h
  refine UnaryOp_ (thn (ha pins s σ H _ I h) fun v s1 ⟨x, H1, I1, r1, q1⟩ => ?_)
  obtain ⟨c, rfl, q1⟩ := q1
  cases r1
  exact not_of (wpAny_truthy_bool ⟨.bl (!c), H1, I1, rfl, q1⟩)
/-- a if t else b -/
def tIf (t : TT) (ta tb : TE) : TE := fun σ H Q => t σ H fun c H1 => if c = true then ta σ H1 Q else tb σ H1 Q
theorem pe_ifExp {c : Expr} (hc : PT X c tA) (ha : PE X a ta) (hb : PE X b tb) : PE X (.IfExp c a b pos) (tIf tA ta tb) := by
  intro pins s σ H Q I h
  refine wpAny_IfExp (thn (hc pins s σ H _ I h) fun d s1 ⟨H1, I1, q1⟩ => ?_)
  cases d with
  | true => exact ha pins s1 σ H1 Q I1 q1
  | false => exact hb pins s1 σ H1 Q I1 q1
end
end L2

namespace L2
open PySem PySem.Spec PyProof.Rows

/-! ### a list, a tuple that is read: tracked, frozen, or an object of the module -/
def SqL (K : PySem.W.Frag) (H : Hp) (a : Addr) (xs : List V) : Prop :=
  Rd H a (.lst xs) ∨
    ∃ (o : Obj) (its : Array Value) (n : Nat), K.lookup a = some o ∧ o.cls = .type "list" ∧ o.dict = none ∧ o.data = .seq its n ∧ its.size ≤ sizeLine ∧ Vals xs its.toList
def SqT (K : PySem.W.Frag) (H : Hp) (a : Addr) (xs : List V) : Prop :=
  Rd H a (.tup xs) ∨
    ∃ (o : Obj) (its : Array Value) (n : Nat), K.lookup a = some o ∧ o.cls = .type "tuple" ∧ o.data = .seq its n ∧ its.size ≤ sizeLine ∧ Vals xs its.toList
def absV : Value → Option V
  | .none => some .non
  | .bool b => some (.bl b)
  | .int i _ => some (.int i)
  | .str x _ => some (.str x)
  | .bytes b _ => some (.byt b)
  | .float b _ => some (.flt b)
  | .ref a => some (.ref a)
  | .type n => some (.ty n)
  | _ => none
theorem RelV.abs {x : V} {u : Value} (r : RelV x u) : absV u = some x := by
  cases x with
  | non => cases r; rfl
  | bl _ => cases r; rfl
  | int _ => obtain ⟨t, rfl⟩ := r; rfl
  | str _ => obtain ⟨t, rfl⟩ := r; rfl
  | byt _ => obtain ⟨t, rfl⟩ := r; rfl
  | flt _ => obtain ⟨t, rfl⟩ := r; rfl
  | ref _ => cases r; rfl
  | ty _ => cases r; rfl
theorem RelV.inj {x y : V} {u : Value} (r : RelV x u) (q : RelV y u) : x = y := Option.some.inj (r.abs.symm.trans q.abs)
theorem Vals.inj : ∀ {xs ys : List V} {us : List Value}, Vals xs us → Vals ys us → xs = ys
  | _, _, _, .nil, .nil => rfl
  | _, _, _, .cons r t, .cons r' t' => by rw [r.inj r', Vals.inj t t']
section
variable {X : Cx} {pins : List (Addr × Obj)} {σ : St} {H : Hp} {s : Shared} {a : Addr} {xs ys : List V}
theorem SqL.of {K : PySem.W.Frag} (h : H a = some (.lst xs)) : SqL K H a xs := .inl (.inl h)
theorem SqT.of {K : PySem.W.Frag} (h : H a = some (.tup xs)) : SqT K H a xs := .inl (.inl h)
theorem Inv.list (I : Inv X pins σ H s) (h : SqL X.K H a xs) : ∃ its : List Value, Vals xs its ∧ PlainL s.heap a its.toArray ∧ xs.length ≤ sizeLine := by
  rcases h with h | ⟨o, its, n, hk, hc, hd, hs, hz, r⟩
  · obtain ⟨z, its, n, r, e⟩ := h.ok I.hok
    exact ⟨its, r, ⟨_, n, e, rfl, rfl, rfl⟩, z⟩
  · refine ⟨its.toList, r, ⟨o, n, I.kIn a o hk, hc, hd, by simpa using hs⟩, ?_⟩
    have e := r.length
    simp only [Array.length_toList] at e
    omega
theorem Inv.tuple (I : Inv X pins σ H s) (h : SqT X.K H a xs) : ∃ its : List Value, Vals xs its ∧ IsTup s.heap a its.toArray ∧ xs.length ≤ sizeLine := by
  rcases h with h | ⟨o, its, n, hk, hc, hs, hz, r⟩
  · obtain ⟨z, its, r, p⟩ := h.ok I.hok
    exact ⟨its, r, p, z⟩
  · refine ⟨its.toList, r, ⟨o, I.kIn a o hk, hc, n, by simpa using hs⟩, ?_⟩
    have e := r.length
    simp only [Array.length_toList] at e
    omega
theorem Inv.list_inj (I : Inv X pins σ H s) (h : SqL X.K H a xs) (h' : SqL X.K H a ys) : xs = ys := by
  obtain ⟨its, r, ⟨o, n, e, _, _, d⟩, _⟩ := I.list h
  obtain ⟨its', r', ⟨o', n', e', _, _, d'⟩, _⟩ := I.list h'
  rw [e] at e'; cases e'
  rw [d] at d'
  injection d' with d1 _
  have : its = its' := by simpa using congrArg Array.toList d1
  subst this
  exact r.inj r'
theorem Inv.tuple_inj (I : Inv X pins σ H s) (h : SqT X.K H a xs) (h' : SqT X.K H a ys) : xs = ys := by
  obtain ⟨its, r, ⟨o, e, _, n, d⟩, _⟩ := I.tuple h
  obtain ⟨its', r', ⟨o', e', _, n', d'⟩, _⟩ := I.tuple h'
  rw [e] at e'; cases e'
  rw [d] at d'
  injection d' with d1 _
  have : its = its' := by simpa using congrArg Array.toList d1
  subst this
  exact r.inj r'
end

/-! ### another wish about exceptions -/
abbrev Cx.wish (X : Cx) (E : Value → Shared → Prop) : Cx := { X with xe := E }
/-- no exception leaves -/
abbrev Cx.nox (X : Cx) : Cx := X.wish fun _ _ => False
theorem Cx.Ok.wish {X : Cx} (ok : X.Ok) (E : Value → Shared → Prop) : (X.wish E).Ok :=
  ⟨ok.mod, ok.kind, ok.glob, ok.blt, ok.above, ok.inj, ok.has, ok.cab, ok.hd, ok.frames, ok.stk, ok.exf, ok.bs, ok.bsz, ok.noex, ok.exfs, ok.funs, ok.frf⟩
theorem Cx.Ok.unwish {X : Cx} {E : Value → Shared → Prop} (ok : (X.wish E).Ok) : X.Ok :=
  ⟨ok.mod, ok.kind, ok.glob, ok.blt, ok.above, ok.inj, ok.has, ok.cab, ok.hd, ok.frames, ok.stk, ok.exf, ok.bs, ok.bsz, ok.noex, ok.exfs, ok.funs, ok.frf⟩
section
variable {X : Cx} {pins : List (Addr × Obj)} {σ : St} {H : Hp} {s : Shared} {E : Value → Shared → Prop}
theorem Inv.wish (I : Inv X pins σ H s) (E : Value → Shared → Prop) : Inv (X.wish E) pins σ H s := ⟨I.ok.wish E, I.os, I.bare, I.base, I.loc, I.cell, I.free, I.freeC, I.pin, I.hok, I.len⟩
theorem Inv.unwish (I : Inv (X.wish E) pins σ H s) : Inv X pins σ H s := ⟨I.ok.unwish, I.os, I.bare, I.base, I.loc, I.cell, I.free, I.freeC, I.pin, I.hok, I.len⟩
theorem SP.unwish {D : Ends} {f : Flow} {s' : Shared} (h : SP (X.wish E) pins D f s') : SP X pins D f s' := by
  cases f with
  | next => obtain ⟨σ', H', I, q⟩ := h; exact ⟨σ', H', I.unwish, q⟩
  | brk => obtain ⟨σ', H', I, q⟩ := h; exact ⟨σ', H', I.unwish, q⟩
  | cont => obtain ⟨σ', H', I, q⟩ := h; exact ⟨σ', H', I.unwish, q⟩
  | ret u => obtain ⟨v, σ', H', I, r, q⟩ := h; exact ⟨v, σ', H', I.unwish, r, q⟩
theorem PE.nox {e : Expr} {t : TE} (h : PE X.nox e t) : PE X e t := fun pins s σ H Q I hw =>
  wpAny_mono (h pins s σ H Q (I.wish _) hw) (fun _ _ ⟨v, H', I', r, q⟩ => ⟨v, H', I'.unwish, r, q⟩) fun _ _ z => False.elim z
theorem PT.nox {e : Expr} {t : TT} (h : PT X.nox e t) : PT X e t := fun pins s σ H Q I hw =>
  wpAny_mono (h pins s σ H Q (I.wish _) hw) (fun _ _ ⟨H', I', q⟩ => ⟨H', I'.unwish, q⟩) fun _ _ z => False.elim z
theorem PSs.nox {st : List Stmt} {t : TS} (h : PSs X.nox st t) : PSs X st t := fun pins s σ H D I hw =>
  wpAny_mono (h pins s σ H D (I.wish _) hw) (fun _ _ q => q.unwish) fun _ _ z => False.elim z
end

/-! ### blocks and small statements -/
section
variable {X : Cx} {st : Stmt} {rest : List Stmt} {t u : TS} {e : Expr} {te : TE} {pos : Pos}
def tNext : TS := fun D σ H => D.nx σ H
def tSeq (t u : TS) : TS := fun D σ H => t { D with nx := u D } σ H
theorem pss_nil : PSs X [] tNext := fun _ _ σ H _ I h => wpAny_execs_nil ⟨σ, H, I, h⟩
theorem pss_cons (h1 : PS X st t) (h2 : PSs X rest u) : PSs X (st :: rest) (tSeq t u) := by
  intro pins s σ H D I h
  refine wpAny_execs_cons (thn (h1 pins s σ H { D with nx := u D } I h) fun f s1 q => ?_)
  cases f with
  | next =>
    obtain ⟨σ', H', I', q⟩ := q
    exact h2 pins s1 σ' H' D I' q
  | ret v => exact q
  | brk => exact q
  | cont => exact q
theorem pss_one (h1 : PS X st t) : PSs X [st] t := by
  intro pins s σ H D I h
  refine wpAny_execs_cons (thn (h1 pins s σ H D I h) fun f s1 q => ?_)
  cases f with
  | next => exact wpAny_execs_nil q
  | ret v => exact q
  | brk => exact q
  | cont => exact q
def tBreak : TS := fun D σ H => D.bk σ H
def tCont : TS := fun D σ H => D.ct σ H
theorem ps_pass : PS X (.Pass pos) tNext := fun _ _ σ H _ I h => wpAny_Pass ⟨σ, H, I, h⟩
theorem ps_break : PS X (.Break pos) tBreak := fun _ _ σ H _ I h => wpAny_Break ⟨σ, H, I, h⟩
theorem ps_continue : PS X (.Continue pos) tCont := fun _ _ σ H _ I h => wpAny_Continue ⟨σ, H, I, h⟩
/-- in a def's body nothing is shown -/
theorem Inv.quiet {pins : List (Addr × Obj)} {σ : St} {H : Hp} {s : Shared} (I : Inv X pins σ H s) : interactive X.env = false := by simp [interactive, I.ok.kind]
/-- a docstring -/
theorem ps_doc {x j pos pos'} : PS X (.Expr (.Constant (.str x) j pos) pos') tNext := fun _ s σ H _ I h => wpAny_Expr (Calls.Constant_str (show SP X _ _ .next { s with toks := s.toks + 1 } from ⟨σ, H, I.tok _, h⟩)) I.quiet
/-- an expression whose value is dropped -/
def tDrop (te : TE) : TS := fun D σ H => te σ H fun _ H1 => D.nx σ H1
theorem ps_expr (he : PE X e te) (hs : swapsWith e none pos.line X.env = pure false := by rfl) : PS X (.Expr e pos) (tDrop te) := by
  intro pins s σ H D I h
  exact wpAny_Expr_any (thn (he pins s σ H _ I h) fun v s1 ⟨x, H1, I1, r1, q1⟩ => ⟨σ, H1, I1, q1⟩) I.quiet hs
def tRet (te : TE) : TS := fun D σ H => te σ H D.rt
theorem ps_ret (he : PE X e te) : PS X (.Return (some e) pos) (tRet te) := by
  intro pins s σ H D I h
  exact wpAny_Return_some (thn (he pins s σ H _ I h) fun v s1 ⟨x, H1, I1, r1, q1⟩ => ⟨x, σ, H1, I1, r1, q1⟩)
def tRetN : TS := fun D _ H => D.rt .non H
theorem ps_retN : PS X (.Return none pos) tRetN := fun _ _ σ H _ I h => wpAny_Return_none ⟨.non, σ, H, I, rfl, h⟩
def tIfS (c : TT) (t u : TS) : TS := fun D σ H => c σ H fun b H1 => if b = true then t D σ H1 else u D σ H1
theorem ps_if {c : Expr} {a b : List Stmt} {tc : TT} (hc : PT X c tc) (ha : PSs X a t) (hb : PSs X b u) : PS X (.If c a b pos) (tIfS tc t u) := by
  intro pins s σ H D I h
  refine wpAny_If (thn (hc pins s σ H _ I h) fun d s1 ⟨H1, I1, q1⟩ => ?_)
  cases d with
  | true => exact ha pins s1 σ H1 D I1 q1
  | false => exact hb pins s1 σ H1 D I1 q1
/-- code that the proof never comes to -/
def tNever : TS := fun _ _ _ => False
theorem ps_never : PS X st tNever := fun _ _ _ _ _ _ h => h.elim
theorem pss_never {sts : List Stmt} : PSs X sts tNever := fun _ _ _ _ _ _ h => h.elim
end

/-! ### targets -/
abbrev TG := V → St → Hp → (St → Hp → Prop) → Prop
abbrev TGs := List V → St → Hp → (St → Hp → Prop) → Prop
def PG (X : Cx) (target : Expr) (t : TG) : Prop :=
  ∀ (pins : List (Addr × Obj)) (s : Shared) (σ : St) (H : Hp) (v : V) (u : Value) (Q : St → Hp → Prop), Inv X pins σ H s → RelV v u → t v σ H Q →
    wpAny (model X.prog X.w) X.A (assign target X.env u) (fun _ s' => ∃ σ' H', Inv X pins σ' H' s' ∧ Q σ' H') X.xe s
/-- several targets, one after another -/
def PGs (X : Cx) (ts : List Expr) (t : TGs) : Prop :=
  ∀ (pins : List (Addr × Obj)) (s : Shared) (σ : St) (H : Hp) (vs : List V) (us : List Value) (Q : St → Hp → Prop), Inv X pins σ H s → Vals vs us → t vs σ H Q →
    wpAny (model X.prog X.w) X.A (assignInOrder ((assignEach ts X.env).map (·.2)) us) (fun _ s' => ∃ σ' H', Inv X pins σ' H' s' ∧ Q σ' H') X.xe s
/-- o[i] = v, by values -/
abbrev TSet := V → V → V → Hp → (Hp → Prop) → Prop
def PSet (X : Cx) (t : TSet) : Prop :=
  ∀ (pins : List (Addr × Obj)) (s : Shared) (σ : St) (H : Hp) (o i v : V) (ov iv u : Value) (Q : Hp → Prop), Inv X pins σ H s → RelV o ov → RelV i iv → RelV v u → t o i v H Q →
    wpAny (model X.prog X.w) X.A (setItem ov iv u) (fun _ s' => ∃ H', Inv X pins σ H' s' ∧ Q H') X.xe s
/-- a op= b, by values -/
abbrev TIp := V → V → Hp → VK → Prop
def PIp (X : Cx) (op : Operator) (t : TIp) : Prop :=
  ∀ (pins : List (Addr × Obj)) (s : Shared) (σ : St) (H : Hp) (x y : V) (v u : Value) (Q : VK), Inv X pins σ H s → RelV x v → RelV y u → t x y H Q →
    wpAny (model X.prog X.w) X.A (inplaceOp op v u) (EP X pins σ Q) X.xe s
section
variable {X : Cx} {pos : Pos}
def gName (i : Nat) : TG := fun v σ H Q => Q (σ.set i (some v)) H
theorem pg_name {i : Nat} {x : Str} (hN : X.N.Nodup) (hi : X.N[i]? = some x) (hx : Loc X.env.scope x) (hf : X.fn x = true ∨ X.env.scope.names.lookup x = some .local := by first | exact .inl rfl | exact .inr rfl | assumption) : PG X (.Name x pos) (gName i) := by
  intro pins s σ H v u Q I r h
  exact wpAny_assign_Name (store_ok I hN hi hx r (fun s' I' => ⟨_, H, I', h⟩) hf)
def gNil : TGs := fun vs σ H Q => vs = [] ∧ Q σ H
def gCons (t : TG) (u : TGs) : TGs := fun vs σ H Q => ∃ v r, vs = v :: r ∧ t v σ H fun σ' H' => u r σ' H' Q
theorem pgs_nil : PGs X [] gNil := by
  intro pins s σ H vs us Q I r h
  obtain ⟨e, h⟩ := h
  subst e
  cases r
  exact assignInOrder_nil ⟨σ, H, I, h⟩
theorem pgs_cons {e : Expr} {es : List Expr} {t : TG} {u : TGs} (h1 : PG X e t) (h2 : PGs X es u)
    (hs : (assignEach (e :: es) X.env).map (·.2) = assign e X.env :: (assignEach es X.env).map (·.2) := by rfl) : PGs X (e :: es) (gCons t u) := by
  intro pins s σ H vs us Q I r h
  obtain ⟨v, vr, e1, h⟩ := h
  subst e1
  cases r with
  | cons r rr =>
    rw [hs]
    refine assignInOrder_cons (thn (h1 pins s σ H _ _ _ I r h) fun _ s1 ⟨σ1, H1, I1, q1⟩ => ?_)
    exact h2 pins s1 σ1 H1 _ _ Q I1 rr q1
/-- (a, b, ..) = a tuple of that length -/
def gTup (K : PySem.W.Frag) (n : Nat) (t : TGs) : TG := fun v σ H Q => ∃ a xs, v = .ref a ∧ SqT K H a xs ∧ xs.length = n ∧ t xs σ H Q
theorem pg_tup {es : List Expr} {k : Nat} {t : TGs} {n : Nat} (hc : X.calm = true) (h : PGs X es t)
    (hn : (assignEach es X.env).length = n := by rfl) (hst : (assignEach es X.env).findIdx? (·.1) = none := by rfl) : PG X (.Tuple es k pos) (gTup X.K n t) := by
  intro pins s σ H v u Q I r hw
  obtain ⟨a, xs, e1, hq, hl, hw⟩ := hw
  subst e1
  cases r
  obtain ⟨its, rv, ht, hz⟩ := I.tuple hq
  refine assign_Tuple_tuple (I.ok.hd hc) ht (by simp [hn, ← hl, rv.length]) hst fun h' hx => ?_
  have I1 : Inv X pins σ H { s with heap := h' } := I.kept (t' := s.toks) fun b o e => hx b o (Nat.ne_of_lt (Heap.lt_size e)) e
  exact h pins _ σ H xs _ Q I1 (by simpa using rv) hw
/-- o[i] = .. -/
def gSub (to ti : TE) (t : TSet) : TG := fun v σ H Q => to σ H fun o H1 => ti σ H1 fun i H2 => t o i v H2 fun H3 => Q σ H3
theorem pg_sub {o i : Expr} {to ti : TE} {t : TSet} (ho : PE X o to) (hi : PE X i ti) (hs : PSet X t)
    (ha : ∀ v, assign (.Subscript o i pos) X.env v = (do
      let ov ← holding [v] (eval o X.env)
      let iv ← holding [v, ov] (eval i X.env)
      standAt pos
      holding [v, ov, iv] (setItem ov iv v)
      release [v, ov, iv] []) := by intro _; rfl) : PG X (.Subscript o i pos) (gSub to ti t) := by
  intro pins s σ H v u Q I r h
  rw [ha]
  refine wpAny_bind (wpAny_holding (thn (ho pins s σ H _ I h) fun ov s1 ⟨x, H1, I1, r1, q1⟩ => ?_))
  refine wpAny_bind (wpAny_holding (thn (hi pins s1 σ H1 _ I1 q1) fun iv s2 ⟨y, H2, I2, r2, q2⟩ => ?_))
  refine wpAny_bind (wpAny_standAt (wpAny_bind (wpAny_holding (thn (hs pins s2 σ H2 x y v ov iv u _ I2 r1 r2 r q2) fun _ s3 ⟨H3, I3, q3⟩ => ?_))))
  exact wpAny_release ⟨σ, H3, I3, q3⟩
/-- target = value -/
def tAsg (te : TE) (g : TG) : TS := fun D σ H => te σ H fun x H1 => g x σ H1 D.nx
theorem ps_asg {tg e : Expr} {te : TE} {g : TG} (he : PE X e te) (hg : PG X tg g) (hs : swapsWithSole [tg] e pos.line X.env = pure false := by rfl) (hw : swappedStores [tg] e X.env = pure none := by rfl)
    (h1 : (assignEach [tg] X.env).map (·.2) = [assign tg X.env] := by rfl) : PS X (.Assign [tg] e pos) (tAsg te g) := by
  intro pins s σ H D I h
  refine wpAny_Assign_stores (thn (he pins s σ H _ I h) fun v s1 ⟨x, H1, I1, r1, q1⟩ => ?_) hs hw
  rw [h1]
  exact thn (hg pins s1 σ H1 x v _ I1 r1 q1) fun _ s2 q => q
/-- name = value -/
theorem ps_set {i : Nat} {x : Str} {e : Expr} {te : TE} {pos' : Pos} (hN : X.N.Nodup) (hi : X.N[i]? = some x) (hx : Loc X.env.scope x) (he : PE X e te) (hs : swapsWith e (some (.Name x pos')) pos.line X.env = pure false := by rfl) (hf : X.fn x = true ∨ X.env.scope.names.lookup x = some .local := by first | exact .inl rfl | exact .inr rfl | assumption) :
    PS X (.Assign [.Name x pos'] e pos) (tAsg te (gName i)) := by
  intro pins s σ H D I h
  refine wpAny_Assign_Name (thn (he pins s σ H _ I h) fun v s1 ⟨y, H1, I1, r1, q1⟩ => ?_) hs
  exact store_ok I1 hN hi hx r1 (fun s2 I2 => ⟨_, H1, I2, q1⟩) hf
/-- a, b = x, y with plain local names: stored from the right; the pair itself is not tracked (the opening rows as in PyProof/Rows/TupAssign.lean:23) -/
def tPar (i j : Nat) (ta : TA) : TS := fun D σ H => ta σ H fun vs H1 => ∃ v w, vs = [v, w] ∧ D.nx ((σ.set i (some v)).set j (some w)) H1
theorem ps_par {i j : Nat} {x y : Str} {a b : Expr} {ta : TA} {px py pt : Pos} {kt k2 pt2} (hc : X.calm = true) (hN : X.N.Nodup) (hi : X.N[i]? = some x) (hj : X.N[j]? = some y) (hij : i ≠ j)
    (hx : X.env.scope.names.lookup x = some .local) (hy : X.env.scope.names.lookup y = some .local) (ha : PA X [a, b] ta)
    (hw : swappedStores [.Tuple [.Name x px, .Name y py] kt pt] (.Tuple [a, b] k2 pt2) X.env = pure (some [x, y]))
    (hs : swapsWithSole [.Tuple [.Name x px, .Name y py] kt pt] (.Tuple [a, b] k2 pt2) pos.line X.env = pure false := by rfl) :
    PS X (.Assign [.Tuple [.Name x px, .Name y py] kt pt] (.Tuple [a, b] k2 pt2) pos) (tPar i j ta) := by
  intro pins s σ H D I h
  rw [exec_Assign_arm]
  refine wpAny_bind (wpAny_standAt ?_)
  rw [hs]
  refine wpAny_bind (wpAny_pure ?_)
  rw [if_neg (by decide)]
  refine wpAny_bind (Tuple_ (thn (ha _ pins s σ H _ I h) fun us s1 ⟨vs, H1, I1, r1, q1⟩ => ?_))
  obtain ⟨v, w, e1, q1⟩ := q1
  subst e1
  obtain ⟨u1, u2, rfl, rv, rw'⟩ : ∃ u1 u2, us = [u1, u2] ∧ RelV v u1 ∧ RelV w u2 := by
    cases r1 with
    | cons p q =>
      cases q with
      | cons p' q' =>
        cases q'
        exact ⟨_, _, rfl, p, p'⟩
  refine wpAny_newObj_type ?_ (by show 2 ≤ sizeLine; decide)
  have I2 : Inv X pins σ H1 { s1 with heap := s1.heap.push { cls := .type "tuple", data := .seq [u1, u2].toArray } } := I1.kept (t' := s1.toks) fun b o e => Heap.get?_push_of_some _ e
  rw [hw]
  refine wpAny_bind (wpAny_pure ?_)
  show wpAny (model X.prog X.w) X.A (do rule "assign.swapped-stores"; let items ← unpackItems (.ref s1.heap.objs.size) 2 none; assignInOrder [fun v => bindName X.env y v, fun v => bindName X.env x v] items.reverse; pure Flow.next) _ _ _
  refine wpAny_bind (wpAny_rule (wpAny_bind (unpackItems_tuple (items := #[u1, u2]) (I.ok.hd hc) (IsTup.new s1.heap _) fun h' hx' => ?_)))
  have I3 := I2.kept (h' := h') (t' := s1.toks) fun b o e => hx' b o (Nat.ne_of_lt (Heap.lt_size e)) e
  show wpAny _ _ (assignInOrder [fun v => bindName X.env y v, fun v => bindName X.env x v] [u2, u1] >>= fun _ => pure Flow.next) _ _ _
  refine wpAny_bind (assignInOrder_cons (wpAny_bindName (store_ok I3 hN hj (.inl hy) rw' (fun s2 I4 => ?_) (.inr hy))))
  refine assignInOrder_cons (wpAny_bindName (store_ok I4 hN hi (.inl hx) rv (fun s3 I5 => assignInOrder_nil (wpAny_pure ?_)) (.inr hx)))
  rw [List.set_comm _ _ (Ne.symm hij)] at I5
  exact ⟨_, H1, I5, q1⟩
/-- name op= e -/
def tAug (i : Nat) (te : TE) (ti : TIp) : TS := fun D σ H => ∃ x, σ[i]? = some (some x) ∧ te σ H fun y H1 => ti x y H1 fun z H2 => D.nx (σ.set i (some z)) H2
theorem ps_aug {i : Nat} {x : Str} {e : Expr} {te : TE} {op : Operator} {ti : TIp} {pos' : Pos} (hN : X.N.Nodup) (hi : X.N[i]? = some x) (hx : Loc X.env.scope x) (he : PE X e te) (ho : PIp X op ti) (hf : X.fn x = true ∨ X.env.scope.names.lookup x = some .local := by first | exact .inl rfl | exact .inr rfl | assumption) :
    PS X (.AugAssign (.Name x pos') op e pos) (tAug i te ti) := by
  intro pins s σ H D I h
  obtain ⟨v, e1, h⟩ := h
  obtain ⟨m, hn, hl⟩ := I.loc
  have vis : Vis X.env.scope x := by rcases hx with k | k; exact .inl k; exact .inr (.inl k)
  obtain ⟨u, r, l⟩ := hl i x v hi e1 vis
  refine wpAny_AugAssign_Name ?_
  have go : wpAny (model X.prog X.w) X.A (eval e X.env) (fun w s₂ => wpAny (model X.prog X.w) X.A (inplaceOp op u w) (fun r s₃ => wpAny (model X.prog X.w) X.A (storeName X.env x r) (fun _ => SP X pins D .next) X.xe s₃) X.xe s₂) X.xe s := by
    refine thn (he pins s σ H _ I h) fun w s1 ⟨y, H1, I1, r1, q1⟩ => ?_
    refine thn (ho pins s1 σ H1 v y u w _ I1 r r1 q1) fun z s2 ⟨zv, H2, I2, r2, q2⟩ => ?_
    exact store_ok I2 hN hi hx r2 (fun s3 I3 => ⟨_, H2, I3, q2⟩) hf
  rcases l with ⟨hk, hm⟩ | ⟨hk, c, hc, hcell⟩
  · exact wpAny_loadName_local I.ok.kind hk hn hm go
  · rcases hk with hk | hk
    · exact wpAny_loadName_cell I.ok.kind hk hc hcell go
    · rcases hx with k | k
      · have : X.env.scope.names.lookup x = some .free := hk
        rw [k] at this; cases this
      · have : X.env.scope.names.lookup x = some .free := hk
        rw [k] at this; cases this
/-- o[i] op= e -/
def tAugS (to ti te : TE) (tget : V → V → Hp → VK → Prop) (tip : TIp) (tset : TSet) : TS := fun D σ H => to σ H fun o H1 => ti σ H1 fun i H2 => tget o i H2 fun x H3 => te σ H3 fun y H4 => tip x y H4 fun z H5 => tset o i z H5 fun H6 => D.nx σ H6
/-- o[i], by values -/
def PGet (X : Cx) (t : V → V → Hp → VK → Prop) : Prop :=
  ∀ (pins : List (Addr × Obj)) (s : Shared) (σ : St) (H : Hp) (o i : V) (ov iv : Value) (Q : VK), Inv X pins σ H s → RelV o ov → RelV i iv → t o i H Q →
    wpAny (model X.prog X.w) X.A (getItem ov iv) (EP X pins σ Q) X.xe s
theorem ps_augS {o i e : Expr} {to ti te : TE} {tget : V → V → Hp → VK → Prop} {tip : TIp} {tset : TSet} {op : Operator} {tpos : Pos} (ho : PE X o to) (hi : PE X i ti) (hg : PGet X tget) (he : PE X e te) (hp : PIp X op tip) (hs : PSet X tset)
    (ha : ∀ ov iv new, augStore i ov iv new = (do holding [new, ov, iv] (setItem ov iv new); release [new, ov, iv] []; pure .next) := by intros; rfl) : PS X (.AugAssign (.Subscript o i tpos) op e pos) (tAugS to ti te tget tip tset) := by
  intro pins s σ H D I h
  refine wpAny_AugAssign_SubscriptAny (thn (ho pins s σ H _ I h) fun ov s1 ⟨x1, H1, I1, r1, q1⟩ => ?_) ha
  refine thn (hi pins s1 σ H1 _ I1 q1) fun iv s2 ⟨x2, H2, I2, r2, q2⟩ => ?_
  refine thn (hg pins s2 σ H2 x1 x2 ov iv _ I2 r1 r2 q2) fun old s3 ⟨x3, H3, I3, r3, q3⟩ => ?_
  refine thn (he pins s3 σ H3 _ I3 q3) fun v s4 ⟨x4, H4, I4, r4, q4⟩ => ?_
  refine thn (hp pins s4 σ H4 x3 x4 old v _ I4 r3 r4 q4) fun new s5 ⟨x5, H5, I5, r5, q5⟩ => ?_
  exact thn (hs pins s5 σ H5 x1 x2 x5 ov iv new _ I5 r1 r2 r5 q5) fun _ s6 ⟨H6, I6, q6⟩ => ⟨σ, H6, I6, q6⟩
/-- ints -/
def ipI (f : Int → Int → Int) : TIp := fun x y H Q => ∃ i j, x = .int i ∧ y = .int j ∧ Q (.int (f i j)) H
theorem ip_add : PIp X .Add (ipI fun i j => i + j) := by
  intro pins s σ H x y v u Q I r1 r2 h
  obtain ⟨i, j, e1, e2, q⟩ := h
  subst e1; subst e2
  obtain ⟨t, rfl⟩ := r1
  obtain ⟨t', rfl⟩ := r2
  exact iadd_int ⟨.int _, H, I.tok _, ⟨_, rfl⟩, q⟩
theorem ip_sub : PIp X .Sub (ipI fun i j => i - j) := by
  intro pins s σ H x y v u Q I r1 r2 h
  obtain ⟨i, j, e1, e2, q⟩ := h
  subst e1; subst e2
  obtain ⟨t, rfl⟩ := r1
  obtain ⟨t', rfl⟩ := r2
  exact isub_int ⟨.int _, H, I.tok _, ⟨_, rfl⟩, q⟩
end

/-! ### while -/
section
variable {X : Cx} {pos : Pos}
/-- the invariant W with its measure -/
def tWhile (c : TT) (tb : TS) : TS := fun D σ H => ∃ W : Nat → St → Hp → Prop, (∃ m, W m σ H) ∧ ∀ m σ H, W m σ H →
  c σ H fun b H1 => if b = true then ∃ N : St → Hp → Prop, (∀ σ' H', N σ' H' → ∃ m', m' < m ∧ W m' σ' H') ∧ tb { D with nx := N, ct := N, bk := D.nx } σ H1 else D.nx σ H1
theorem ps_while {c : Expr} {body : List Stmt} {tc : TT} {tb : TS} (hp : PassesOwn (model X.prog X.w) X.A X.env X.xe) (hc : PT X c tc) (hb : PSs X body tb) : PS X (.While c body [] pos) (tWhile tc tb) := by
  intro pins s σ H D I h
  obtain ⟨W, ⟨m0, w0⟩, turn⟩ := h
  refine wpAny_While (codeAny_whileLoop (fun n s' => ∃ σ' H', Inv X pins σ' H' s' ∧ W n σ' H') ?_ m0 ⟨σ, H, I, w0⟩)
  rintro n s1 ⟨σ1, H1, I1, w1⟩
  refine wpAny_passesOwn hp (thn (hc pins s1 σ1 H1 _ I1 (turn n σ1 H1 w1)) fun b s2 ⟨H2, I2, q2⟩ => ?_)
  cases b with
  | true =>
    obtain ⟨N, hN, q2⟩ := q2
    rw [if_pos rfl]
    refine wpAny_passesOwn hp (thn (hb pins s2 σ1 H2 _ I2 q2) fun f s3 q3 => ?_)
    cases f with
    | next =>
      obtain ⟨σ3, H3, I3, n3⟩ := q3
      obtain ⟨m', hm, w3⟩ := hN σ3 H3 n3
      exact ⟨m', hm, σ3, H3, I3, w3⟩
    | cont =>
      obtain ⟨σ3, H3, I3, n3⟩ := q3
      obtain ⟨m', hm, w3⟩ := hN σ3 H3 n3
      exact ⟨m', hm, σ3, H3, I3, w3⟩
    | brk => exact q3
    | ret v => exact q3
  | false =>
    rw [if_neg Bool.false_ne_true]
    exact wpAny_execs_nil ⟨σ1, H2, I2, q2⟩
end

/-! ### what a loop or a comprehension walks -/
/-- at turn i: it yields x (the heap may grow), or it stops -/
structure It where
  go : Nat → Hp → Prop
  yld : Nat → Hp → V → Hp → Prop
  stop : Nat → Hp → Prop
/-- the iterator's own objects may turn: they are not the frame's, not pinned, younger than the entry (or a comprehension's own) -/
def FpOk (X : Cx) (pins : List (Addr × Obj)) (H : Hp) (b : Addr) : Prop :=
  H b = none ∧ b ≠ X.env.locals ∧ b ∉ X.fs ∧ (b ∈ X.ex ∨ X.s₀.heap.objs.size ≤ b) ∧ (∀ x c, X.env.cells.lookup x = some c → c ≠ b) ∧ ∀ p ∈ X.pn ++ pins, p.1 ≠ b
theorem Inv.fpOk {X : Cx} {pins : List (Addr × Obj)} {σ : St} {H H' : Hp} {s : Shared} {b : Addr} (I : Inv X pins σ H s) (hb : s.heap.objs.size ≤ b) (hn : H' b = none) : FpOk X pins H' b := by
  refine ⟨hn, Nat.ne_of_gt (Nat.lt_of_lt_of_le I.lt hb), I.nofs hb, .inr (Nat.le_trans I.sz hb), fun x c e z => ?_, fun p hp z => ?_⟩
  · obtain ⟨v, q⟩ := I.cell x c e
    exact absurd (Nat.lt_of_lt_of_le q.lt (by rw [z]; exact hb)) (Nat.lt_irrefl _)
  · exact absurd (Nat.lt_of_lt_of_le (Heap.lt_size (I.pin p hp).1) (by rw [z]; exact hb)) (Nat.lt_irrefl _)
structure Turn (P : Program) (w : World) (K : PySem.W.Frag) (tg : Expr) (J : It) (fp : List Addr) (it : Addr) (tn : Nat → Heap → Prop) : Prop where
  mem : it ∈ fp
  obj : ∀ i h, tn i h → ∀ b ∈ fp, ∃ o, h.get? b = some o ∧ ∀ v, o.data ≠ .cell v
  keep : ∀ i h h', tn i h → (∀ b ∈ fp, ∀ o, h.get? b = some o → h'.get? b = some o) → tn i h'
  item : ∀ (X : Cx), X.prog = P → X.w = w → X.K = K → X.calm = true → ∀ (i : Nat) (pins : List (Addr × Obj)) (s : Shared) (σ : St) (H : Hp) (E : Value → Shared → Prop), Inv X pins σ H s → (∀ b ∈ fp, FpOk X pins H b) → tn i s.heap → J.go i H →
    wpAny (model P w) X.A (pyNext (.ref it)) (fun r s1 => ∃ u, r = some u ∧
      wpAny (model P w) X.A (letOwnedTupleGo tg (.ref it) u) (fun _ s2 => ∃ x H', Inv X pins σ H' s2 ∧ RelV x u ∧ J.yld i H x H' ∧ tn (i + 1) s2.heap ∧ ∀ b ∈ fp, H' b = none) E s1) E s
  done : ∀ (X : Cx), X.prog = P → X.w = w → X.K = K → X.calm = true → ∀ (i : Nat) (pins : List (Addr × Obj)) (s : Shared) (σ : St) (H : Hp) (E : Value → Shared → Prop), Inv X pins σ H s → (∀ b ∈ fp, FpOk X pins H b) → tn i s.heap → J.stop i H →
    wpAny (model P w) X.A (pyNext (.ref it)) (fun r s1 => r = none ∧ Inv X pins σ H s1) E s
  self : ∀ (A : Around) (i : Nat) (s : Shared) (Q : Value → Shared → Prop) (E : Value → Shared → Prop), tn i s.heap → Q (.ref it) s → wpAny (model P w) A (pyIter (.ref it)) Q E s
abbrev TI := St → Hp → (It → Hp → Prop) → Prop
/-- an iterator has come -/
def PIE (X : Cx) (pins : List (Addr × Obj)) (σ : St) (tg : Expr) (R : It → Hp → Prop) (itv : Value) (s2 : Shared) : Prop :=
  ∃ (it : Addr) (fp : List Addr) (tn : Nat → Heap → Prop) (J : It) (H' : Hp), itv = .ref it ∧ Inv X pins σ H' s2 ∧ Turn X.prog X.w X.K tg J fp it tn ∧ tn 0 s2.heap ∧ (∀ b ∈ fp, FpOk X pins H' b) ∧ R J H'
def PI (X : Cx) (tg iter : Expr) (wi : TI) : Prop :=
  ∀ (pins : List (Addr × Obj)) (s : Shared) (σ : St) (H : Hp) (R : It → Hp → Prop), Inv X pins σ H s → wi σ H R →
    wpAny (model X.prog X.w) X.A (eval iter X.env) (fun v s1 => wpAny (model X.prog X.w) X.A (pyIter v) (PIE X pins σ tg R) X.xe s1) X.xe s

/-- the step ahead of the store is nothing for an iterator that keeps no tuple -/
theorem go_of {M : Model} {A : Around} {E : Value → Shared → Prop} {s : Shared} {tg : Expr} {it : Addr} {u : Value} {o : Obj} {n : String} {vs : Array Value} {Q : Unit → Shared → Prop} (ho : s.heap.get? it = some o) (hc : o.cls = .type n) (hd : o.data = .fields vs)
    (hn : ["enumerate", "zip", "dict_itemiterator", "dict_reverseitemiterator", "odict_iterator", "itertools.zip_longest", "itertools.pairwise"].contains n = false) (hQ : Q () s) : wpAny M A (letOwnedTupleGo tg (.ref it) u) Q E s := by
  unfold letOwnedTupleGo
  cases tg <;> first
    | exact wpAny_pure hQ
    | (cases u <;> first
        | exact wpAny_pure hQ
        | (refine wpAny_bind (wpAny_load ho ?_)
           rw [hc, hd]
           show wpAny M A (if (["enumerate", "zip", "dict_itemiterator", "dict_reverseitemiterator", "odict_iterator", "itertools.zip_longest", "itertools.pairwise"].contains n && vs[0]? == some (rawInt _)) = true then _ else _) Q E s
           rw [if_neg (by intro h; rw [hn, Bool.false_and] at h; cases h)]
           exact wpAny_pure hQ))

/-- the list at a, as it stands at each turn (a loop may append to it) -/
def Itl (K : PySem.W.Frag) (a : Addr) : It :=
  ⟨fun i H => ∃ xs x, SqL K H a xs ∧ xs[i]? = some x, fun i H x H' => H' = H ∧ ∀ xs, SqL K H a xs → xs[i]? = some x, fun i H => ∃ xs, SqL K H a xs ∧ xs.length ≤ i⟩
def Itt (K : PySem.W.Frag) (a : Addr) : It :=
  ⟨fun i H => ∃ xs x, SqT K H a xs ∧ xs[i]? = some x, fun i H x H' => H' = H ∧ ∀ xs, SqT K H a xs → xs[i]? = some x, fun i H => ∃ xs, SqT K H a xs ∧ xs.length ≤ i⟩
/-- lo, lo + 1, .. (n of them) -/
def Itr (lo : Int) (n : Nat) : It := ⟨fun i _ => i < n, fun i H x H' => H' = H ∧ x = .int (lo + i), fun i _ => n ≤ i⟩
theorem turn_list {P : Program} {w : World} {K : PySem.W.Frag} {tg : Expr} (a it : Addr) : Turn P w K tg (Itl K a) [it] it (fun i h => h.IsListIter it a i) where
  mem := by simp
  obj := fun i h st b hb => by
    have e : b = it := by simpa using hb
    subst e
    obtain ⟨o, e, c, d⟩ := st
    exact ⟨o, e, fun v z => by rw [d] at z; cases z⟩
  keep := fun i h h' st k => st.at fun o e => k it (by simp) o e
  item := by
    intro X hP hw hK hc i pins s σ H E I hf st hg
    subst hP hw hK
    obtain ⟨xs, x, hq, hx⟩ := hg
    obtain ⟨its, rv, p, hz⟩ := I.list hq
    obtain ⟨u, hu, ru⟩ := rv.get hx
    obtain ⟨f0, f1, f2, f3, f4, f5⟩ := hf it (by simp)
    refine wpAny_pyNext_list_item st p.isList (x := u) (by simpa using hu) fun h' st' sb => ?_
    have I1 : Inv X pins σ H { s with heap := h' } := I.turned (t' := s.toks) (fun b o hb e => (sb.2 b hb).trans e) f0 f1 f3 f4 f5
    obtain ⟨o, e, c, d⟩ := id st'
    exact ⟨u, rfl, go_of (s := { s with heap := h' }) e c d (by decide) ⟨x, H, I1, ru, ⟨rfl, fun ys hy => by rw [I.list_inj hy hq]; exact hx⟩, st', fun b hb => (hf b hb).1⟩⟩
  done := by
    intro X hP hw hK hc i pins s σ H E I hf st hg
    subst hP hw hK
    obtain ⟨xs, hq, hx⟩ := hg
    obtain ⟨its, rv, p, hz⟩ := I.list hq
    obtain ⟨f0, f1, f2, f3, f4, f5⟩ := hf it (by simp)
    have hl := rv.length
    exact wpAny_pyNext_list_end (I.ok.hd hc) st p.isList (by simp; omega) fun h' eb => ⟨rfl, I.turned (t' := s.toks) (fun b o hb e => eb b o hb e) f0 f1 f3 f4 f5⟩
  self := fun _ _ _ _ _ st h => wpAny_pyIter_listiter st h
theorem turn_tuple {P : Program} {w : World} {K : PySem.W.Frag} {tg : Expr} (a it : Addr) : Turn P w K tg (Itt K a) [it] it (fun i h => h.IsTupleIter it a i) where
  mem := by simp
  obj := fun i h st b hb => by
    have e : b = it := by simpa using hb
    subst e
    obtain ⟨o, e, c, d⟩ := st
    exact ⟨o, e, fun v z => by rw [d] at z; cases z⟩
  keep := fun i h h' st k => st.at fun o e => k it (by simp) o e
  item := by
    intro X hP hw hK hc i pins s σ H E I hf st hg
    subst hP hw hK
    obtain ⟨xs, x, hq, hx⟩ := hg
    obtain ⟨its, rv, p, hz⟩ := I.tuple hq
    obtain ⟨u, hu, ru⟩ := rv.get hx
    obtain ⟨f0, f1, f2, f3, f4, f5⟩ := hf it (by simp)
    refine wpAny_pyNext_tuple_item st (show s.heap.IsTuple a its.toArray from p) (x := u) (by simpa using hu) fun h' st' sb => ?_
    have I1 : Inv X pins σ H { s with heap := h' } := I.turned (t' := s.toks) (fun b o hb e => (sb.2 b hb).trans e) f0 f1 f3 f4 f5
    obtain ⟨o, e, c, d⟩ := id st'
    exact ⟨u, rfl, go_of (s := { s with heap := h' }) e c d (by decide) ⟨x, H, I1, ru, ⟨rfl, fun ys hy => by rw [I.tuple_inj hy hq]; exact hx⟩, st', fun b hb => (hf b hb).1⟩⟩
  done := by
    intro X hP hw hK hc i pins s σ H E I hf st hg
    subst hP hw hK
    obtain ⟨xs, hq, hx⟩ := hg
    obtain ⟨its, rv, p, hz⟩ := I.tuple hq
    obtain ⟨f0, f1, f2, f3, f4, f5⟩ := hf it (by simp)
    have hl := rv.length
    exact wpAny_pyNext_tuple_end (I.ok.hd hc) st (show s.heap.IsTuple a its.toArray from p) (by simp; omega) fun h' eb => ⟨rfl, I.turned (t' := s.toks) (fun b o hb e => eb b o hb e) f0 f1 f3 f4 f5⟩
  self := fun _ _ _ _ _ st h => wpAny_pyIter_tupleiter st h
theorem turn_range {P : Program} {w : World} {K : PySem.W.Frag} {tg : Expr} (it : Addr) (lo : Int) (n : Nat) : Turn P w K tg (Itr lo n) [it] it (fun i h => IsRangeIter h it (lo + (i : Nat) * 1) ((n : Int) - (i : Nat)) 1) where
  mem := by simp
  obj := fun i h st b hb => by
    have e : b = it := by simpa using hb
    subst e
    exact ⟨_, st, fun v z => by
      have z' : Data.fields _ = Data.cell v := z
      cases z'⟩
  keep := fun i h h' st k => k it (by simp) _ st
  item := by
    intro X hP hw hK hc i pins s σ H E I hf st hg
    subst hP hw hK
    obtain ⟨f0, f1, f2, f3, f4, f5⟩ := hf it (by simp)
    have W := Walks.range (prog := X.prog) (w := X.w) (I.ok.hd hc) it lo 1 n
    refine W.item i s _ _ hg st fun v h' tk hv st' kk => ?_
    obtain ⟨t, rfl⟩ := hv
    have I1 : Inv X pins σ H { s with heap := h', toks := tk } := I.turned (fun b o hb e => kk b o (by simpa using hb) e) f0 f1 f3 f4 f5
    refine ⟨_, rfl, go_of (s := { s with heap := h', toks := tk }) (n := "range_iterator") st' rfl rfl (by decide) ⟨.int (lo + i), H, I1, ⟨t, ?_⟩, ⟨rfl, rfl⟩, st', fun b hb => (hf b hb).1⟩⟩
    rw [Int.mul_one]
  done := by
    intro X hP hw hK hc i pins s σ H E I hf st hg
    subst hP hw hK
    obtain ⟨f0, f1, f2, f3, f4, f5⟩ := hf it (by simp)
    exact wpAny_pyNext_range_end (I.ok.hd hc) st (by have : n ≤ i := hg; omega) fun h' eb => ⟨rfl, I.turned (t' := s.toks) (fun b o hb e => eb b o hb e) f0 f1 f3 f4 f5⟩
  self := fun _ _ _ _ _ st h => wpAny_pyIter_rangeiter st h
end L2

namespace L2
open PySem PySem.Spec PyProof.Rows
section
variable {X : Cx} {tg : Expr}
def iList (K : PySem.W.Frag) (tl : TE) : TI := fun σ H R => tl σ H fun x H1 => ∃ a, x = .ref a ∧ (∃ xs, SqL K H1 a xs) ∧ R (Itl K a) H1
def iTup (K : PySem.W.Frag) (tl : TE) : TI := fun σ H R => tl σ H fun x H1 => ∃ a, x = .ref a ∧ (∃ xs, SqT K H1 a xs) ∧ R (Itt K a) H1
theorem pi_list {l : Expr} {tl : TE} (hl : PE X l tl) : PI X tg l (iList X.K tl) := by
  intro pins s σ H R I h
  refine thn (hl pins s σ H _ I h) fun v s1 ⟨x, H1, I1, r1, q1⟩ => ?_
  obtain ⟨a, e, ⟨xs, hq⟩, q⟩ := q1
  subst e
  cases r1
  obtain ⟨its, rv, p, hz⟩ := I1.list hq
  refine wpAny_pyIter_list p.isList ?_
  refine ⟨s1.heap.objs.size, [s1.heap.objs.size], _, _, H1, rfl, I1.kept (t' := s1.toks) fun b o e => Heap.get?_push_of_some _ e, turn_list a _, ⟨_, Heap.get?_push_size _ rfl, rfl, rfl⟩, fun b hb => ?_, q⟩
  have e : b = s1.heap.objs.size := by simpa using hb
  subst e
  exact I1.fpOk (Nat.le_refl _) (I1.hok.fresh (Nat.le_refl _))
theorem pi_tup {l : Expr} {tl : TE} (hl : PE X l tl) : PI X tg l (iTup X.K tl) := by
  intro pins s σ H R I h
  refine thn (hl pins s σ H _ I h) fun v s1 ⟨x, H1, I1, r1, q1⟩ => ?_
  obtain ⟨a, e, ⟨xs, hq⟩, q⟩ := q1
  subst e
  cases r1
  obtain ⟨its, rv, p, hz⟩ := I1.tuple hq
  refine wpAny_pyIter_tuple (show s1.heap.IsTuple a its.toArray from p) ?_
  refine ⟨s1.heap.objs.size, [s1.heap.objs.size], _, _, H1, rfl, I1.kept (t' := s1.toks) fun b o e => Heap.get?_push_of_some _ e, turn_tuple a _, ⟨_, Heap.get?_push_size _ rfl, rfl, rfl⟩, fun b hb => ?_, q⟩
  have e : b = s1.heap.objs.size := by simpa using hb
  subst e
  exact I1.fpOk (Nat.le_refl _) (I1.hok.fresh (Nat.le_refl _))
/-- a range object just made, walked -/
theorem range_it {pins : List (Addr × Obj)} {σ : St} {H : Hp} {s : Shared} {R : It → Hp → Prop} {E : Value → Shared → Prop} {lo hi : Int} {t u v : Tok} {tk : Nat} (I : Inv X pins σ H s) (h1 : -(2 ^ 62) ≤ lo) (h2 : lo < 2 ^ 62) (h3 : -(2 ^ 62) ≤ hi) (h4 : hi < 2 ^ 62)
    (q : R (Itr lo (hi - lo).toNat) H) : wpAny (model X.prog X.w) X.A (pyIter (.ref s.heap.objs.size)) (PIE X pins σ tg R) E { s with heap := s.heap.push { cls := .type "range", data := .fields #[.int lo t, .int hi u, .int 1 v] }, toks := tk } := by
  refine wpAny_pyIter_range (IsRange.new ..) (small_one h1 h2 h3 h4) ?_
  have I1 : Inv X pins σ H { s with heap := s.heap.push { cls := .type "range", data := .fields #[.int lo t, .int hi u, .int 1 v] }, toks := tk } := I.kept fun b o e => Heap.get?_push_of_some _ e
  refine ⟨(s.heap.push { cls := .type "range", data := .fields #[.int lo t, .int hi u, .int 1 v] }).objs.size, [(s.heap.push { cls := .type "range", data := .fields #[.int lo t, .int hi u, .int 1 v] }).objs.size], _, _, H, rfl,
    I1.kept (t' := tk) fun b o e => Heap.get?_push_of_some _ e, turn_range _ lo (hi - lo).toNat, ?_, fun b hb => ?_, q⟩
  · have e1 : lo + ((0 : Nat) : Int) * 1 = lo := by simp
    have e2 : (((hi - lo).toNat : Nat) : Int) - ((0 : Nat) : Int) = Builtin.Range.rangeSize lo hi 1 := by rw [rangeSize_one]; split <;> omega
    show IsRangeIter _ _ (lo + ((0 : Nat) : Int) * 1) ((((hi - lo).toNat : Nat) : Int) - ((0 : Nat) : Int)) 1
    rw [e1, e2]
    exact Heap.get?_push_size _ rfl
  · have e : b = (s.heap.push { cls := .type "range", data := .fields #[.int lo t, .int hi u, .int 1 v] }).objs.size := by simpa using hb
    subst e
    exact I1.fpOk (Nat.le_refl _) (I1.hok.fresh (Nat.le_refl _))
def iRng1 (ta : TA) : TI := fun σ H R => ta σ H fun vs H1 => ∃ j : Int, vs = [.int j] ∧ -(2 ^ 62) ≤ j ∧ j < 2 ^ 62 ∧ R (Itr 0 j.toNat) H1
def iRng2 (ta : TA) : TI := fun σ H R => ta σ H fun vs H1 => ∃ i j : Int, vs = [.int i, .int j] ∧ (-(2 ^ 62) ≤ i ∧ i < 2 ^ 62 ∧ -(2 ^ 62) ≤ j ∧ j < 2 ^ 62) ∧ R (Itr i (j - i).toNat) H1
theorem pi_range1 {a : Expr} {ta : TA} {p pos : Pos} (hg : Gl X "range") (hm : X.mg "range" = none) (ha : PA X [a] ta) (hs : starEach [a] X.env = [(false, eval a X.env)] := by rfl) : PI X tg (.Call (.Name "range" p) [a] [] pos) (iRng1 ta) := by
  intro pins s σ H R I h
  refine Call_ (ld_blt I hg hm boot_range (PyProof.Rows.callWith_type1 (thn (ha pos pins s σ H _ I h) fun us s1 ⟨vs, H1, I1, r1, q1⟩ => ?_) hs rfl))
  obtain ⟨j, e, q1, q2, q⟩ := q1
  subst e
  cases r1 with
  | cons r rr =>
    cases rr
    obtain ⟨t, rfl⟩ := r
    exact call_range_1 (range_it I1 (by omega) (by omega) q1 q2 (by simpa using q))
theorem pi_range2 {a b : Expr} {ta : TA} {p pos : Pos} (hg : Gl X "range") (hm : X.mg "range" = none) (ha : PA X [a, b] ta) (hs : starEach [a, b] X.env = [(false, eval a X.env), (false, eval b X.env)] := by rfl) (hs2 : starEach [b] X.env = [(false, eval b X.env)] := by rfl) :
    PI X tg (.Call (.Name "range" p) [a, b] [] pos) (iRng2 ta) := by
  intro pins s σ H R I h
  refine Call_ (ld_blt I hg hm boot_range (PyProof.Rows.callWith_type1 (thn (ha pos pins s σ H _ I h) fun us s1 ⟨vs, H1, I1, r1, q1⟩ => ?_) (by rw [hs, hs2]) (by rw [hs2]; rfl)))
  obtain ⟨i, j, e, ⟨q1, q2, q3, q4⟩, q⟩ := q1
  subst e
  cases r1 with
  | cons r rr =>
    cases rr with
    | cons r' rr =>
      cases rr
      obtain ⟨t, rfl⟩ := r
      obtain ⟨t', rfl⟩ := r'
      exact call_range_2 (range_it I1 q1 q2 q3 q4 q)

/-! ### for -/
/-- W: the invariant by the turn and a measure; N: what the body is to reach -/
def tFor (wi : TI) (g : TG) (tb : TS) : TS := fun D σ H => wi σ H fun J H1 => ∃ W : Nat → Nat → St → Hp → Prop, (∃ m, W 0 m σ H1) ∧ ∀ i m σ H, W i m σ H →
  (J.stop i H ∧ D.nx σ H) ∨ (J.go i H ∧ ∃ N : St → Hp → Prop, (∀ σ' H', N σ' H' → ∃ m', m' < m ∧ W (i + 1) m' σ' H') ∧ ∀ x H', J.yld i H x H' → g x σ H' fun σ2 H2 => tb { D with nx := N, ct := N, bk := D.nx } σ2 H2)
/-- the records at fp as they stand -/
def pinsAt (fp : List Addr) (h : Heap) : List (Addr × Obj) := fp.filterMap fun b => (h.get? b).map fun o => (b, o)
theorem mem_pinsAt {fp : List Addr} {h : Heap} {b : Addr} {o : Obj} (hb : b ∈ fp) (e : h.get? b = some o) : (b, o) ∈ pinsAt fp h := List.mem_filterMap.mpr ⟨b, hb, by rw [e]; rfl⟩
theorem of_pinsAt {fp : List Addr} {h : Heap} {p : Addr × Obj} (hp : p ∈ pinsAt fp h) : p.1 ∈ fp ∧ h.get? p.1 = some p.2 := by
  obtain ⟨b, hb, e⟩ := List.mem_filterMap.mp hp
  cases q : h.get? b with
  | none => rw [q] at e; cases e
  | some o =>
    rw [q] at e
    have e' : (b, o) = p := Option.some.inj e
    subst e'
    exact ⟨hb, q⟩
theorem Inv.pinned {pins : List (Addr × Obj)} {σ : St} {H : Hp} {s : Shared} {fp : List Addr} (I : Inv X pins σ H s) (hf : ∀ b ∈ fp, FpOk X pins H b) (ho : ∀ b ∈ fp, ∃ o, s.heap.get? b = some o ∧ ∀ v, o.data ≠ .cell v) : Inv X (pins ++ pinsAt fp s.heap) σ H s :=
  I.pins_of fun p hp => (List.mem_append.mp hp).elim (fun z => I.pin p (List.mem_append_right _ z)) fun z => by
    obtain ⟨hb, e⟩ := of_pinsAt z
    obtain ⟨f0, f1, f2, _⟩ := hf p.1 hb
    obtain ⟨o, e', d⟩ := ho p.1 hb
    rw [e] at e'; cases e'
    exact ⟨e, f0, f1, f2, d⟩
theorem Inv.unpinned {pins pl : List (Addr × Obj)} {σ : St} {H : Hp} {s : Shared} (I : Inv X (pins ++ pl) σ H s) : Inv X pins σ H s := I.pins_of fun p hp => I.pin p (List.mem_append_right _ (List.mem_append_left _ hp))
theorem ps_for {iter : Expr} {body : List Stmt} {wi : TI} {g : TG} {tb : TS} {pos : Pos} (hp : PassesOwn (model X.prog X.w) X.A X.env X.xe) (hc : X.calm = true) (hi : PI X tg iter wi) (hg : PG X tg g) (hb : PSs X body tb)
    (hs : ∀ x, foldedSetIterable iter X.env x = pure x := by intro _; rfl) : PS X (.For tg iter body [] pos) (tFor wi g tb) := by
  intro pins s σ H D I h
  refine wpAny_For (thn (hi pins s σ H _ I h) fun v s1 h1 => thn h1 fun itv s2 h2 => ?_) hs
  obtain ⟨it, fp, tn, J, H2, e, I2, T, st2, f2, W, ⟨m0, w0⟩, turn⟩ := h2
  subst e
  -- what stays true of the iterator's objects through the loop
  have stat : ∀ {H' : Hp}, (∀ b ∈ fp, H' b = none) → ∀ b ∈ fp, FpOk X pins H' b := fun hn b hb => ⟨hn b hb, (f2 b hb).2⟩
  refine codeAny_forLoop_any (fun n s' => ∃ i σ' H', Inv X pins σ' H' s' ∧ tn i s'.heap ∧ (∀ b ∈ fp, H' b = none) ∧ W i n σ' H') ?_ m0 ⟨0, σ, H2, I2, st2, fun b hb => (f2 b hb).1, w0⟩
  rintro n s3 ⟨i, σ3, H3, I3, st3, fr3, w3⟩
  rcases turn i n σ3 H3 w3 with ⟨stop, qn⟩ | ⟨go, N, hN, step⟩
  · refine wpAny_passesOwn hp (thn (T.done X rfl rfl rfl hc i pins s3 σ3 H3 X.xe I3 (stat fr3) st3 stop) fun r s4 ⟨hr, I4⟩ => ?_)
    subst hr
    exact wpAny_execs_nil ⟨σ3, H3, I4, qn⟩
  · refine wpAny_passesOwn hp (thn (T.item X rfl rfl rfl hc i pins s3 σ3 H3 X.xe I3 (stat fr3) st3 go) fun r s4 ⟨u, hr, h4⟩ => ?_)
    subst hr
    refine wpAny_passesOwn hp (thn h4 fun _ s5 ⟨x, H5, I5, r5, y5, st5, fr5⟩ => ?_)
    have I5' := I5.pinned (stat fr5) (T.obj _ _ st5)
    refine wpAny_passesOwn hp (thn (hg _ s5 σ3 H5 x u _ I5' r5 (step x H5 y5)) fun _ s6 ⟨σ6, H6, I6, q6⟩ => ?_)
    refine wpAny_passesOwn hp (thn (hb _ s6 σ6 H6 _ I6 q6) fun f s7 q7 => ?_)
    have again : ∀ {σ7 : St} {H7 : Hp}, Inv X (pins ++ pinsAt fp s5.heap) σ7 H7 s7 → N σ7 H7 → ∃ m, m < n ∧ ∃ i σ' H', Inv X pins σ' H' s7 ∧ tn i s7.heap ∧ (∀ b ∈ fp, H' b = none) ∧ W i m σ' H' := fun {σ7 H7} I7 n7 => by
      obtain ⟨m', hm, w7⟩ := hN σ7 H7 n7
      refine ⟨m', hm, i + 1, σ7, H7, I7.unpinned, T.keep _ _ _ st5 fun b hb o e => (I7.pin (b, o) (List.mem_append_right _ (List.mem_append_right _ (mem_pinsAt hb e)))).1, fun b hb => ?_, w7⟩
      obtain ⟨o, e, d⟩ := T.obj _ _ st5 b hb
      exact (I7.pin (b, o) (List.mem_append_right _ (List.mem_append_right _ (mem_pinsAt hb e)))).2.1
    cases f with
    | next => obtain ⟨σ7, H7, I7, n7⟩ := q7; exact again I7 n7
    | cont => obtain ⟨σ7, H7, I7, n7⟩ := q7; exact again I7 n7
    | brk => obtain ⟨σ7, H7, I7, q7⟩ := q7; exact ⟨σ7, H7, I7.unpinned, q7⟩
    | ret v => obtain ⟨x7, σ7, H7, I7, r7, q7⟩ := q7; exact ⟨x7, σ7, H7, I7.unpinned, r7, q7⟩
end

/-! ### the forms one uses -/
/-- over a list that the body leaves as it is -/
theorem for_list {K : PySem.W.Frag} {a : Addr} {xs : List V} {g : TG} {tb : TS} {D : Ends} {σ : St} {H : Hp} (Pv : Nat → St → Hp → Prop) (h0 : Pv 0 σ H) (hl : ∀ i σ H, i ≤ xs.length → Pv i σ H → SqL K H a xs)
    (hs : ∀ i x σ H, xs[i]? = some x → Pv i σ H → g x σ H fun σ2 H2 => tb { D with nx := Pv (i + 1), ct := Pv (i + 1), bk := D.nx } σ2 H2) (hd : ∀ σ H, Pv xs.length σ H → D.nx σ H) :
    ∃ W : Nat → Nat → St → Hp → Prop, (∃ m, W 0 m σ H) ∧ ∀ i m σ H, W i m σ H →
      ((Itl K a).stop i H ∧ D.nx σ H) ∨ ((Itl K a).go i H ∧ ∃ N : St → Hp → Prop, (∀ σ' H', N σ' H' → ∃ m', m' < m ∧ W (i + 1) m' σ' H') ∧ ∀ x H', (Itl K a).yld i H x H' → g x σ H' fun σ2 H2 => tb { D with nx := N, ct := N, bk := D.nx } σ2 H2) := by
  refine ⟨fun i m σ H => m = xs.length - i ∧ i ≤ xs.length ∧ Pv i σ H, ⟨xs.length, by simp, Nat.zero_le _, h0⟩, ?_⟩
  rintro i m σ H ⟨rfl, hi, p⟩
  have q := hl i σ H hi p
  by_cases hlt : i < xs.length
  · refine .inr ⟨⟨xs, xs[i], q, by simp [hlt]⟩, Pv (i + 1), fun σ' H' p' => ⟨xs.length - (i + 1), by omega, rfl, hlt, p'⟩, fun x H' y => ?_⟩
    obtain ⟨e, y⟩ := y
    subst e
    exact hs i x σ _ (y xs q) p
  · have e : i = xs.length := by omega
    subst e
    exact .inl ⟨⟨xs, q, Nat.le_refl _⟩, hd σ H p⟩
theorem for_tup {K : PySem.W.Frag} {a : Addr} {xs : List V} {g : TG} {tb : TS} {D : Ends} {σ : St} {H : Hp} (Pv : Nat → St → Hp → Prop) (h0 : Pv 0 σ H) (hl : ∀ i σ H, i ≤ xs.length → Pv i σ H → SqT K H a xs)
    (hs : ∀ i x σ H, xs[i]? = some x → Pv i σ H → g x σ H fun σ2 H2 => tb { D with nx := Pv (i + 1), ct := Pv (i + 1), bk := D.nx } σ2 H2) (hd : ∀ σ H, Pv xs.length σ H → D.nx σ H) :
    ∃ W : Nat → Nat → St → Hp → Prop, (∃ m, W 0 m σ H) ∧ ∀ i m σ H, W i m σ H →
      ((Itt K a).stop i H ∧ D.nx σ H) ∨ ((Itt K a).go i H ∧ ∃ N : St → Hp → Prop, (∀ σ' H', N σ' H' → ∃ m', m' < m ∧ W (i + 1) m' σ' H') ∧ ∀ x H', (Itt K a).yld i H x H' → g x σ H' fun σ2 H2 => tb { D with nx := N, ct := N, bk := D.nx } σ2 H2) := by
  refine ⟨fun i m σ H => m = xs.length - i ∧ i ≤ xs.length ∧ Pv i σ H, ⟨xs.length, by simp, Nat.zero_le _, h0⟩, ?_⟩
  rintro i m σ H ⟨rfl, hi, p⟩
  have q := hl i σ H hi p
  by_cases hlt : i < xs.length
  · refine .inr ⟨⟨xs, xs[i], q, by simp [hlt]⟩, Pv (i + 1), fun σ' H' p' => ⟨xs.length - (i + 1), by omega, rfl, hlt, p'⟩, fun x H' y => ?_⟩
    obtain ⟨e, y⟩ := y
    subst e
    exact hs i x σ _ (y xs q) p
  · have e : i = xs.length := by omega
    subst e
    exact .inl ⟨⟨xs, q, Nat.le_refl _⟩, hd σ H p⟩
theorem for_range {lo : Int} {n : Nat} {g : TG} {tb : TS} {D : Ends} {σ : St} {H : Hp} (Pv : Nat → St → Hp → Prop) (h0 : Pv 0 σ H)
    (hs : ∀ i σ H, i < n → Pv i σ H → g (.int (lo + i)) σ H fun σ2 H2 => tb { D with nx := Pv (i + 1), ct := Pv (i + 1), bk := D.nx } σ2 H2) (hd : ∀ σ H, Pv n σ H → D.nx σ H) :
    ∃ W : Nat → Nat → St → Hp → Prop, (∃ m, W 0 m σ H) ∧ ∀ i m σ H, W i m σ H →
      ((Itr lo n).stop i H ∧ D.nx σ H) ∨ ((Itr lo n).go i H ∧ ∃ N : St → Hp → Prop, (∀ σ' H', N σ' H' → ∃ m', m' < m ∧ W (i + 1) m' σ' H') ∧ ∀ x H', (Itr lo n).yld i H x H' → g x σ H' fun σ2 H2 => tb { D with nx := N, ct := N, bk := D.nx } σ2 H2) := by
  refine ⟨fun i m σ H => m = n - i ∧ i ≤ n ∧ Pv i σ H, ⟨n, by simp, Nat.zero_le _, h0⟩, ?_⟩
  rintro i m σ H ⟨rfl, hi, p⟩
  by_cases hlt : i < n
  · refine .inr ⟨hlt, Pv (i + 1), fun σ' H' p' => ⟨n - (i + 1), by omega, rfl, hlt, p'⟩, fun x H' y => ?_⟩
    obtain ⟨e, y⟩ := y
    subst e y
    exact hs i σ _ hlt p
  · have e : i = n := by omega
    subst e
    exact .inl ⟨Nat.le_refl _, hd σ H p⟩
/-- while, by a word and a measure of the state -/
theorem while_by {c : TT} {tb : TS} {D : Ends} {σ : St} {H : Hp} (Pv : St → Hp → Prop) (μ : St → Hp → Nat) (h0 : Pv σ H)
    (hs : ∀ σ H, Pv σ H → c σ H fun b H1 => if b = true then tb { D with nx := fun σ' H' => Pv σ' H' ∧ μ σ' H' < μ σ H, ct := fun σ' H' => Pv σ' H' ∧ μ σ' H' < μ σ H, bk := D.nx } σ H1 else D.nx σ H1)
    (mono : ∀ σ H Q Q', (∀ b H1, Q b H1 → Q' b H1) → c σ H Q → c σ H Q') : tWhile c tb D σ H := by
  refine ⟨fun m σ H => m = μ σ H ∧ Pv σ H, ⟨_, rfl, h0⟩, ?_⟩
  rintro m σ H ⟨rfl, p⟩
  refine mono σ H _ _ (fun b H1 q => ?_) (hs σ H p)
  cases b with
  | true => exact ⟨_, fun σ' H' ⟨p', l⟩ => ⟨_, l, rfl, p'⟩, q⟩
  | false => exact q
end L2

namespace L2
open PySem PySem.Spec PyProof.Rows

abbrev R2 := V → V → Hp → VK → Prop
/-- a two-place operation on values: f is binaryOp op, inplaceOp op or compareOp op -/
def OpR (X : Cx) (f : Value → Value → Sem Value) (r : R2) : Prop :=
  ∀ (pins : List (Addr × Obj)) (s : Shared) (σ : St) (H : Hp) (x y : V) (v u : Value) (Q : VK), Inv X pins σ H s → RelV x v → RelV y u → r x y H Q →
    wpAny (model X.prog X.w) X.A (f v u) (EP X pins σ Q) X.xe s
/-- a one-place operation -/
def UnR (X : Cx) (f : Value → Sem Value) (r : V → Hp → VK → Prop) : Prop :=
  ∀ (pins : List (Addr × Obj)) (s : Shared) (σ : St) (H : Hp) (x : V) (v : Value) (Q : VK), Inv X pins σ H s → RelV x v → r x H Q →
    wpAny (model X.prog X.w) X.A (f v) (EP X pins σ Q) X.xe s
/-- a call of a value that is known (a builtin, a type) with values -/
def CallR (X : Cx) (f : Value) (r : List V → Hp → VK → Prop) : Prop :=
  ∀ (pins : List (Addr × Obj)) (s : Shared) (σ : St) (H : Hp) (xs : List V) (us : List Value) (Q : VK), Inv X pins σ H s → Vals xs us → r xs H Q →
    wpAny (model X.prog X.w) X.A (call f us) (EP X pins σ Q) X.xe s
/-- a value's truth -/
def TruR (X : Cx) (r : V → Hp → (Bool → Hp → Prop) → Prop) : Prop :=
  ∀ (pins : List (Addr × Obj)) (s : Shared) (σ : St) (H : Hp) (x : V) (v : Value) (Q : Bool → Hp → Prop), Inv X pins σ H s → RelV x v → r x H Q →
    wpAny (model X.prog X.w) X.A (truthy v) (TP X pins σ Q) X.xe s

def tOp (r : R2) (ta tb : TE) : TE := fun σ H Q => ta σ H fun x H1 => tb σ H1 fun y H2 => r x y H2 Q
def tUn (r : V → Hp → VK → Prop) (ta : TE) : TE := fun σ H Q => ta σ H fun x H1 => r x H1 Q
/-- ints in, under C, and a value out -/
def rI (C : Int → Int → Prop) (g : Int → Int → V) : R2 := fun x y H Q => ∃ i j, x = .int i ∧ y = .int j ∧ C i j ∧ Q (g i j) H
def rI0 (g : Int → Int → V) : R2 := fun x y H Q => ∃ i j, x = .int i ∧ y = .int j ∧ Q (g i j) H
def rU (g : Int → V) : V → Hp → VK → Prop := fun x H Q => ∃ i, x = .int i ∧ Q (g i) H

section
variable {X : Cx} {a b c : Expr} {ta tb tc : TE} {pos : Pos}

theorem binT (ha : PE X a ta) (hb : PE X b tb) {pins : List (Addr × Obj)} {s : Shared} {σ : St} {H : Hp} {R : V → V → Hp → Prop} (I : Inv X pins σ H s)
    (h : ta σ H fun x H1 => tb σ H1 fun y H2 => R x y H2) {Q : Value → Shared → Prop} {f : Value → Value → Sem Value}
    (hf : ∀ v u s2 x y H2, Inv X pins σ H2 s2 → RelV x v → RelV y u → R x y H2 → wpAny (model X.prog X.w) X.A (f v u) Q X.xe s2) :
    wpAny (model X.prog X.w) X.A (eval a X.env) (fun v s₁ => wpAny (model X.prog X.w) X.A (eval b X.env) (fun u s₂ => wpAny (model X.prog X.w) X.A (f v u) Q X.xe s₂) X.xe s₁) X.xe s := by
  refine thn (ha pins s σ H _ I h) fun v s1 ⟨x, H1, I1, r1, q1⟩ => ?_
  refine thn (hb pins s1 σ H1 _ I1 q1) fun u s2 ⟨y, H2, I2, r2, q2⟩ => ?_
  exact hf v u s2 x y H2 I2 r1 r2 q2

theorem pe_op {op : Operator} {r : R2} (ho : OpR X (binaryOp op) r) (ha : PE X a ta) (hb : PE X b tb) : PE X (.BinOp a op b pos) (tOp r ta tb) := by
  intro pins s σ H Q I h
  exact wpAny_BinOp (binT ha hb I h fun v u s2 x y H2 I2 rx ry q => ho pins s2 σ H2 x y v u Q I2 rx ry q)
theorem pe_un {op : UnaryOp} {r : V → Hp → VK → Prop} (ho : UnR X (unaryOp op) r) (ha : PE X a ta) : PE X (.UnaryOp op a pos) (tUn r ta) := by
  intro pins s σ H Q I h
  exact UnaryOp_ (thn (ha pins s σ H _ I h) fun v s1 ⟨x, H1, I1, r1, q1⟩ => ho pins s1 σ H1 x v Q I1 r1 q1)
/-- a op= e at a name: the name's slot i -/
theorem augR {op : Operator} {r : R2} (ho : OpR X (inplaceOp op) r) {pins : List (Addr × Obj)} {s : Shared} {σ : St} {H : Hp} {x y : V} {v u : Value} {Q : VK} (I : Inv X pins σ H s)
    (rx : RelV x v) (ry : RelV y u) (q : r x y H Q) : wpAny (model X.prog X.w) X.A (inplaceOp op v u) (EP X pins σ Q) X.xe s := ho pins s σ H x y v u Q I rx ry q

/-! ### ints -/
theorem opI {f : Value → Value → Sem Value} {C : Int → Int → Prop} {g : Int → Int → Int}
    (rule : ∀ (i j : Int) (t u : Tok) (s : Shared) (Q : Value → Shared → Prop) (E : Value → Shared → Prop), C i j → Q (.int (g i j) s.toks) { s with toks := s.toks + 1 } → wpAny (model X.prog X.w) X.A (f (.int i t) (.int j u)) Q E s) :
    OpR X f (rI C fun i j => .int (g i j)) := by
  intro pins s σ H x y v u Q I rx ry h
  obtain ⟨i, j, rfl, rfl, hc, q⟩ := h
  obtain ⟨t, rfl⟩ := rx
  obtain ⟨t', rfl⟩ := ry
  exact rule i j t t' s _ _ hc ⟨.int (g i j), H, I.tok _, ⟨_, rfl⟩, q⟩
theorem opI0 {f : Value → Value → Sem Value} {g : Int → Int → Int}
    (rule : ∀ (i j : Int) (t u : Tok) (s : Shared) (Q : Value → Shared → Prop) (E : Value → Shared → Prop), Q (.int (g i j) s.toks) { s with toks := s.toks + 1 } → wpAny (model X.prog X.w) X.A (f (.int i t) (.int j u)) Q E s) :
    OpR X f (rI0 fun i j => .int (g i j)) := by
  intro pins s σ H x y v u Q I rx ry h
  obtain ⟨i, j, rfl, rfl, q⟩ := h
  obtain ⟨t, rfl⟩ := rx
  obtain ⟨t', rfl⟩ := ry
  exact rule i j t t' s _ _ ⟨.int (g i j), H, I.tok _, ⟨_, rfl⟩, q⟩
theorem opB0 {f : Value → Value → Sem Value} {g : Int → Int → Bool}
    (rule : ∀ (i j : Int) (t u : Tok) (s : Shared) (Q : Value → Shared → Prop) (E : Value → Shared → Prop), Q (.bool (g i j)) s → wpAny (model X.prog X.w) X.A (f (.int i t) (.int j u)) Q E s) :
    OpR X f (rI0 fun i j => .bl (g i j)) := by
  intro pins s σ H x y v u Q I rx ry h
  obtain ⟨i, j, rfl, rfl, q⟩ := h
  obtain ⟨t, rfl⟩ := rx
  obtain ⟨t', rfl⟩ := ry
  exact rule i j t t' s _ _ ⟨.bl (g i j), H, I, rfl, q⟩

def CDiv (i j : Int) : Prop := 0 < j ∧ j < 1073741824
def CDivN (i j : Int) : Prop := j ≠ 0 ∧ j.natAbs < 1073741824
def CPow (i j : Int) : Prop := 0 ≤ j ∧ j ≤ 1000000 ∧ i.natAbs < 2 ^ 64
def CMul (i j : Int) : Prop := (-(2 ^ 64) < i ∧ i < 2 ^ 64) ∨ (-(2 ^ 64) < j ∧ j < 2 ^ 64)
theorem CMul.ok {i j : Int} (h : CMul i j) : IntMulOk i j := by
  rcases h with ⟨h1, h2⟩ | ⟨h1, h2⟩
  · exact .of_left (intBits_le_64 h1 h2)
  · exact .of_right (intBits_le_64 h1 h2)
theorem two_pow_nn (k : Nat) : (0 : Int) ≤ 2 ^ k := by
  rw [two_pow_cast]
  exact Int.natCast_nonneg _

theorem op_add : OpR X (binaryOp .Add) (rI0 fun i j => .int (i + j)) := opI0 fun _ _ _ _ _ _ _ q => add_int q
theorem op_sub : OpR X (binaryOp .Sub) (rI0 fun i j => .int (i - j)) := opI0 fun _ _ _ _ _ _ _ q => sub_int q
theorem op_mul : OpR X (binaryOp .Mult) (rI CMul fun i j => .int (i * j)) := opI fun _ _ _ _ _ _ _ hc q => mul_int q hc.ok
/-- // by a positive divisor -/
theorem op_fdiv : OpR X (binaryOp .FloorDiv) (rI CDiv fun i j => .int (i / j)) := opI fun i j _ _ _ _ _ hc q => by
  have h1 : (0 : Int) < j := hc.1
  have h2 : j < 1073741824 := hc.2
  exact floordiv_int (by omega) (by rw [Int.fdiv_eq_ediv_of_nonneg i (by omega)]; exact q) (.inl (PyProof.noPylong_small (by omega)))
theorem op_fdivN : OpR X (binaryOp .FloorDiv) (rI CDivN fun i j => .int (i.fdiv j)) := opI fun _ _ _ _ _ _ _ hc q => floordiv_int hc.1 q (.inl (PyProof.noPylong_small hc.2))
/-- % by a positive divisor of any size -/
theorem op_mod : OpR X (binaryOp .Mod) (rI (fun _ j => 0 < j) fun i j => .int (i % j)) := opI fun i j _ _ _ _ _ hc q => by
  have h1 : (0 : Int) < j := hc
  exact mod_int' (by omega) (by rw [Int.fmod_eq_emod_of_nonneg i (by omega)]; exact q)
theorem op_modN : OpR X (binaryOp .Mod) (rI (fun _ j => j ≠ 0) fun i j => .int (i.fmod j)) := opI fun _ _ _ _ _ _ _ hc q => mod_int' hc q
theorem op_pow : OpR X (binaryOp .Pow) (rI CPow fun i j => .int (i ^ j.toNat)) := opI fun _ _ _ _ _ _ _ hc q => pow_int_small hc.1 hc.2.1 hc.2.2 q
theorem op_shl : OpR X (binaryOp .LShift) (rI CPow fun i j => .int (i * 2 ^ j.toNat)) := opI fun _ _ _ _ _ _ _ hc q => lshift_int_small hc.1 hc.2.1 hc.2.2 q
theorem op_shr : OpR X (binaryOp .RShift) (rI (fun _ j => 0 ≤ j) fun i j => .int (i / 2 ^ j.toNat)) := opI fun i j _ _ _ _ _ hc q =>
  rshift_int hc (by rw [Int.fdiv_eq_ediv_of_nonneg i (two_pow_nn _)]; exact q)
theorem op_and : OpR X (binaryOp .BitAnd) (rI0 fun i j => .int (Builtin.bitAnd i j)) := opI0 fun _ _ _ _ _ _ _ q => and_int q
theorem op_or : OpR X (binaryOp .BitOr) (rI0 fun i j => .int (Builtin.bitOr i j)) := opI0 fun _ _ _ _ _ _ _ q => or_int q
theorem op_xor : OpR X (binaryOp .BitXor) (rI0 fun i j => .int (Builtin.bitXor i j)) := opI0 fun _ _ _ _ _ _ _ q => xor_int q

theorem iop_add : OpR X (inplaceOp .Add) (rI0 fun i j => .int (i + j)) := opI0 fun _ _ _ _ _ _ _ q => iadd_int q
theorem iop_sub : OpR X (inplaceOp .Sub) (rI0 fun i j => .int (i - j)) := opI0 fun _ _ _ _ _ _ _ q => isub_int q
theorem iop_mul : OpR X (inplaceOp .Mult) (rI CMul fun i j => .int (i * j)) := opI fun _ _ _ _ _ _ _ hc q => imul_int q hc.ok
theorem iop_fdiv : OpR X (inplaceOp .FloorDiv) (rI CDiv fun i j => .int (i / j)) := opI fun i j _ _ _ _ _ hc q => by
  have h1 : (0 : Int) < j := hc.1
  have h2 : j < 1073741824 := hc.2
  exact ifloordiv_int (by omega) (by rw [Int.fdiv_eq_ediv_of_nonneg i (by omega)]; exact q) (.inl (PyProof.noPylong_small (by omega)))
theorem iop_mod : OpR X (inplaceOp .Mod) (rI (fun _ j => 0 < j) fun i j => .int (i % j)) := opI fun i j _ _ _ _ _ hc q => by
  have h1 : (0 : Int) < j := hc
  exact imod_int (by omega) (by rw [Int.fmod_eq_emod_of_nonneg i (by omega)]; exact q)
theorem iop_shl : OpR X (inplaceOp .LShift) (rI CPow fun i j => .int (i * 2 ^ j.toNat)) := opI fun _ _ _ _ _ _ _ hc q => ilshift_int_small hc.1 hc.2.1 hc.2.2 q
theorem iop_shr : OpR X (inplaceOp .RShift) (rI (fun _ j => 0 ≤ j) fun i j => .int (i / 2 ^ j.toNat)) := opI fun i j _ _ _ _ _ hc q =>
  irshift_int hc (by rw [Int.fdiv_eq_ediv_of_nonneg i (two_pow_nn _)]; exact q)
theorem iop_and : OpR X (inplaceOp .BitAnd) (rI0 fun i j => .int (Builtin.bitAnd i j)) := opI0 fun _ _ _ _ _ _ _ q => iand_int q
theorem iop_or : OpR X (inplaceOp .BitOr) (rI0 fun i j => .int (Builtin.bitOr i j)) := opI0 fun _ _ _ _ _ _ _ q => ior_int q
theorem iop_xor : OpR X (inplaceOp .BitXor) (rI0 fun i j => .int (Builtin.bitXor i j)) := opI0 fun _ _ _ _ _ _ _ q => ixor_int q

theorem unI {f : Value → Sem Value} {g : Int → Int}
    (rule : ∀ (i : Int) (t : Tok) (s : Shared) (Q : Value → Shared → Prop) (E : Value → Shared → Prop), Q (.int (g i) s.toks) { s with toks := s.toks + 1 } → wpAny (model X.prog X.w) X.A (f (.int i t)) Q E s) :
    UnR X f (rU fun i => .int (g i)) := by
  intro pins s σ H x v Q I rx h
  obtain ⟨i, rfl, q⟩ := h
  obtain ⟨t, rfl⟩ := rx
  exact rule i t s _ _ ⟨.int (g i), H, I.tok _, ⟨_, rfl⟩, q⟩
theorem un_neg : UnR X (unaryOp .USub) (rU fun i => .int (-i)) := unI fun _ _ _ _ _ q => neg_int q
theorem un_inv : UnR X (unaryOp .Invert) (rU fun i => .int (Builtin.bitNot i)) := unI fun _ _ _ _ _ q => invert_int q

/-! ### bools among ints: n += (a < b) -/
theorem op_add_ib : OpR X (binaryOp .Add) (fun x y H Q => ∃ i k, x = .int i ∧ y = .bl k ∧ Q (.int (i + b2i k)) H) := by
  intro pins s σ H x y v u Q I rx ry h
  obtain ⟨i, k, rfl, rfl, q⟩ := h
  obtain ⟨t, rfl⟩ := rx
  cases ry
  exact add_int_bool ⟨.int (i + b2i k), H, I.tok _, ⟨_, rfl⟩, q⟩
end

/-! ### comparisons -/
/-- the scalars that == tells apart as data does -/
def scal : V → V → Bool
  | .non, .non => true | .non, .int _ => true | .int _, .non => true | .non, .bl _ => true | .bl _, .non => true | .non, .str _ => true | .str _, .non => true
  | .int _, .int _ => true | .bl _, .bl _ => true | .str _, .str _ => true | .byt _, .byt _ => true
  | .int _, .str _ => true | .str _, .int _ => true | .bl _, .str _ => true | .str _, .bl _ => true
  | _, _ => false
def rEq : R2 := fun x y H Q => scal x y = true ∧ Q (.bl (decide (x = y))) H
def rNe : R2 := fun x y H Q => scal x y = true ∧ Q (.bl (!decide (x = y))) H

theorem dec_int {i j : Int} : decide (V.int i = V.int j) = (i == j) := by
  rw [Bool.eq_iff_iff]
  simp
theorem dec_bl {i j : Bool} : decide (V.bl i = V.bl j) = (i == j) := by
  rw [Bool.eq_iff_iff]
  simp
theorem dec_str {i j : Str} : decide (V.str i = V.str j) = (i == j) := by
  rw [Bool.eq_iff_iff]
  simp
theorem dec_byt {i j : Array UInt8} : decide (V.byt i = V.byt j) = (i.toList == j.toList) := by
  rw [Bool.eq_iff_iff]
  cases i
  cases j
  simp

section
variable {X : Cx} {a b c : Expr} {ta tb tc : TE} {pos : Pos}
theorem fin_bl {pins : List (Addr × Obj)} {σ : St} {H : Hp} {s : Shared} {Q : VK} {k k' : Bool} (I : Inv X pins σ H s) (q : Q (.bl k) H) (e : k = k') : EP X pins σ Q (.bool k') s := by
  subst e
  exact ⟨.bl k, H, I, rfl, q⟩
theorem op_eq : OpR X (compareOp .Eq) rEq := by
  intro pins s σ H x y v u Q I rx ry h
  obtain ⟨hs, q⟩ := h
  cases x with
  | non =>
    cases rx
    cases y with
    | non => cases ry; exact PySem.EqNone.eq_none_none (fin_bl I q (by simp))
    | bl j => cases ry; exact PySem.EqNone.eq_none_bool (fin_bl I q (by simp))
    | int j => obtain ⟨t', rfl⟩ := ry; exact PySem.EqNone.eq_none_int (fin_bl I q (by simp))
    | str j => obtain ⟨t', rfl⟩ := ry; exact PySem.EqNone.eq_none_str (fin_bl I q (by simp))
    | _ => exact absurd (show false = true from hs) Bool.false_ne_true
  | bl i =>
    cases rx
    cases y with
    | non => cases ry; exact PySem.EqNone.eq_bool_none (fin_bl I q (by simp))
    | bl j => cases ry; exact eq_bool (fin_bl I q dec_bl)
    | str j => obtain ⟨t', rfl⟩ := ry; exact PySem.EqMixed.eq_bool_str (fin_bl I q (by simp))
    | _ => exact absurd (show false = true from hs) Bool.false_ne_true
  | int i =>
    obtain ⟨t, rfl⟩ := rx
    cases y with
    | non => cases ry; exact PySem.EqNone.eq_int_none (fin_bl I q (by simp))
    | int j => obtain ⟨t', rfl⟩ := ry; exact eq_int (fin_bl I q dec_int)
    | str j => obtain ⟨t', rfl⟩ := ry; exact PySem.EqMixed.eq_int_str (fin_bl I q (by simp))
    | _ => exact absurd (show false = true from hs) Bool.false_ne_true
  | str i =>
    obtain ⟨t, rfl⟩ := rx
    cases y with
    | non => cases ry; exact PySem.EqNone.eq_str_none (fin_bl I q (by simp))
    | bl j => cases ry; exact PySem.EqMixed.eq_str_bool (fin_bl I q (by simp))
    | int j => obtain ⟨t', rfl⟩ := ry; exact PySem.EqMixed.eq_str_int (fin_bl I q (by simp))
    | str j => obtain ⟨t', rfl⟩ := ry; exact eq_str (fin_bl I q dec_str)
    | _ => exact absurd (show false = true from hs) Bool.false_ne_true
  | byt i =>
    obtain ⟨t, rfl⟩ := rx
    cases y with
    | byt j => obtain ⟨t', rfl⟩ := ry; exact PySem.W.eq_bytes (fin_bl I q dec_byt)
    | _ => exact absurd (show false = true from hs) Bool.false_ne_true
  | _ => cases y <;> exact absurd (show false = true from hs) Bool.false_ne_true
theorem op_ne : OpR X (compareOp .NotEq) rNe := by
  intro pins s σ H x y v u Q I rx ry h
  obtain ⟨hs, q⟩ := h
  cases x with
  | non =>
    cases rx
    cases y with
    | non => cases ry; exact PySem.EqNone.ne_none_none (fin_bl I q (by simp))
    | bl j => cases ry; exact PySem.EqNone.ne_none_bool (fin_bl I q (by simp))
    | int j => obtain ⟨t', rfl⟩ := ry; exact PySem.EqNone.ne_none_int (fin_bl I q (by simp))
    | str j => obtain ⟨t', rfl⟩ := ry; exact PySem.EqNone.ne_none_str (fin_bl I q (by simp))
    | _ => exact absurd (show false = true from hs) Bool.false_ne_true
  | bl i =>
    cases rx
    cases y with
    | non => cases ry; exact PySem.EqNone.ne_bool_none (fin_bl I q (by simp))
    | bl j => cases ry; exact ne_bool (fin_bl I q (congrArg not dec_bl))
    | str j => obtain ⟨t', rfl⟩ := ry; exact PySem.EqMixed.ne_bool_str (fin_bl I q (by simp))
    | _ => exact absurd (show false = true from hs) Bool.false_ne_true
  | int i =>
    obtain ⟨t, rfl⟩ := rx
    cases y with
    | non => cases ry; exact PySem.EqNone.ne_int_none (fin_bl I q (by simp))
    | int j => obtain ⟨t', rfl⟩ := ry; exact ne_int (fin_bl I q (congrArg not dec_int))
    | str j => obtain ⟨t', rfl⟩ := ry; exact PySem.EqMixed.ne_int_str (fin_bl I q (by simp))
    | _ => exact absurd (show false = true from hs) Bool.false_ne_true
  | str i =>
    obtain ⟨t, rfl⟩ := rx
    cases y with
    | non => cases ry; exact PySem.EqNone.ne_str_none (fin_bl I q (by simp))
    | bl j => cases ry; exact PySem.EqMixed.ne_str_bool (fin_bl I q (by simp))
    | int j => obtain ⟨t', rfl⟩ := ry; exact PySem.EqMixed.ne_str_int (fin_bl I q (by simp))
    | str j => obtain ⟨t', rfl⟩ := ry; exact ne_str (fin_bl I q (congrArg not dec_str))
    | _ => exact absurd (show false = true from hs) Bool.false_ne_true
  | byt i =>
    obtain ⟨t, rfl⟩ := rx
    cases y with
    | byt j => obtain ⟨t', rfl⟩ := ry; exact PySem.W.ne_bytes (fin_bl I q (congrArg not dec_byt))
    | _ => exact absurd (show false = true from hs) Bool.false_ne_true
  | _ => cases y <;> exact absurd (show false = true from hs) Bool.false_ne_true

theorem op_lt : OpR X (compareOp .Lt) (rI0 fun i j => .bl (decide (i < j))) := opB0 fun _ _ _ _ _ _ _ q => lt_int q
theorem op_le : OpR X (compareOp .LtE) (rI0 fun i j => .bl (decide (i ≤ j))) := opB0 fun _ _ _ _ _ _ _ q => le_int q
theorem op_gt : OpR X (compareOp .Gt) (rI0 fun i j => .bl (decide (j < i))) := opB0 fun _ _ _ _ _ _ _ q => gt_int q
theorem op_ge : OpR X (compareOp .GtE) (rI0 fun i j => .bl (decide (j ≤ i))) := opB0 fun _ _ _ _ _ _ _ q => ge_int q
theorem op_lt_str : OpR X (compareOp .Lt) (fun x y H Q => ∃ i j, x = .str i ∧ y = .str j ∧ Q (.bl (decide (i.cps.toList < j.cps.toList))) H) := by
  intro pins s σ H x y v u Q I rx ry h
  obtain ⟨i, j, rfl, rfl, q⟩ := h
  obtain ⟨t, rfl⟩ := rx
  obtain ⟨t', rfl⟩ := ry
  exact lt_str (fin_bl I q rfl)
/-- the one string within the other -/
theorem op_in_str : OpR X (compareOp .In) (fun x y H Q => ∃ i j, x = .str i ∧ y = .str j ∧ Q (.bl (!(Builtin.Str.occurrences j i 0 j.length 1).isEmpty)) H) := by
  intro pins s σ H x y v u Q I rx ry h
  obtain ⟨i, j, rfl, rfl, q⟩ := h
  obtain ⟨t, rfl⟩ := rx
  obtain ⟨t', rfl⟩ := ry
  exact in_str (fin_bl I q rfl)

/-- is None, is not None: the right side a value none -/
theorem op_isN : OpR X (compareOp .Is) (fun x y H Q => y = .non ∧ Q (.bl (decide (x = .non))) H) := by
  intro pins s σ H x y v u Q I rx ry h
  obtain ⟨rfl, q⟩ := h
  cases ry
  refine is_none_gen (fin_bl I q ?_)
  cases x <;> first
    | (cases rx; rfl)
    | (obtain ⟨t, rfl⟩ := rx; rfl)
theorem op_notN : OpR X (compareOp .IsNot) (fun x y H Q => y = .non ∧ Q (.bl (!decide (x = .non))) H) := by
  intro pins s σ H x y v u Q I rx ry h
  obtain ⟨rfl, q⟩ := h
  cases ry
  refine isnot_none_gen (fin_bl I q ?_)
  cases x <;> first
    | (cases rx; rfl)
    | (obtain ⟨t, rfl⟩ := rx; rfl)

theorem op_notin_str : OpR X (compareOp .NotIn) (fun x y H Q => ∃ i j, x = .str i ∧ y = .str j ∧ Q (.bl (!(!(Builtin.Str.occurrences j i 0 j.length 1).isEmpty))) H) := by
  intro pins s σ H x y v u Q I rx ry h
  obtain ⟨i, j, rfl, rfl, q⟩ := h
  obtain ⟨t, rfl⟩ := rx
  obtain ⟨t', rfl⟩ := ry
  exact notIn_str (fin_bl I q rfl)
/-- is, is not of two objects that are tracked lists or instances -/
def isObj : HO → Bool
  | .lst _ => true
  | .ins _ _ _ => true
  | _ => false
theorem obj_there {pins : List (Addr × Obj)} {s : Shared} {σ : St} {H : Hp} {a : Addr} {o : HO} (I : Inv X pins σ H s) (h : H a = some o) (p : isObj o = true) : ∃ ob, s.heap.get? a = some ob ∧ ob.cls ≠ .type "tuple" := by
  cases o with
  | lst xs =>
    obtain ⟨_, its, n, _, e⟩ : xs.length ≤ sizeLine ∧ ∃ (its : List Value) (n : Nat), Vals xs its ∧ s.heap.get? a = some { cls := .type "list", data := .seq its.toArray n } := I.hok a _ h
    exact ⟨_, e, (by show Value.type "list" ≠ .type "tuple"; decide +kernel)⟩
  | ins C dx fs =>
    have x := I.hok a _ h
    obtain ⟨_, _, _, e, _⟩ := x
    exact ⟨_, e, (by show Value.ref C ≠ .type "tuple"; exact fun z => by cases z)⟩
  | _ => exact absurd (show false = true from p) Bool.false_ne_true
theorem op_is_ref : OpR X (compareOp .Is) (fun x y H Q => ∃ a b oa ob, x = .ref a ∧ y = .ref b ∧ H a = some oa ∧ isObj oa = true ∧ H b = some ob ∧ isObj ob = true ∧ Q (.bl (decide (a = b))) H) := by
  intro pins s σ H x y v u Q I rx ry h
  obtain ⟨a, b, oa, ob, rfl, rfl, ha, pa, hb, pb, q⟩ := h
  cases rx
  cases ry
  obtain ⟨o1, e1, n1⟩ := obj_there I ha pa
  obtain ⟨o2, e2, _⟩ := obj_there I hb pb
  by_cases z : a = b
  · subst z
    exact wpAny_is_ref_self (fin_bl I q (by simp))
  · exact wpAny_is_ref_other z e1 e2 n1 (fin_bl I q (by simp [z]))
theorem op_isnot_ref : OpR X (compareOp .IsNot) (fun x y H Q => ∃ a b oa ob, x = .ref a ∧ y = .ref b ∧ H a = some oa ∧ isObj oa = true ∧ H b = some ob ∧ isObj ob = true ∧ Q (.bl (!decide (a = b))) H) := by
  intro pins s σ H x y v u Q I rx ry h
  obtain ⟨a, b, oa, ob, rfl, rfl, ha, pa, hb, pb, q⟩ := h
  cases rx
  cases ry
  obtain ⟨o1, e1, n1⟩ := obj_there I ha pa
  obtain ⟨o2, e2, _⟩ := obj_there I hb pb
  by_cases z : a = b
  · subst z
    exact wpAny_isNot_ref_self (fin_bl I q (by simp))
  · exact wpAny_isNot_ref_other z e1 e2 n1 (fin_bl I q (by simp [z]))

/-- two rules for one operation: by cases -/
theorem OpR.or {f : Value → Value → Sem Value} {r r' : R2} (h : OpR X f r) (h' : OpR X f r') : OpR X f (fun x y H Q => r x y H Q ∨ r' x y H Q) := by
  intro pins s σ H x y v u Q I rx ry q
  rcases q with q | q
  · exact h pins s σ H x y v u Q I rx ry q
  · exact h' pins s σ H x y v u Q I rx ry q

theorem nomark (b : Expr) {op : CmpOp} (h : op ≠ .In := by decide) (h2 : op ≠ .NotIn := by decide) : behindInMarks op b = false := by
  have e1 : (op == CmpOp.In) = false := by cases op <;> first | rfl | exact absurd rfl h
  have e2 : (op == CmpOp.NotIn) = false := by cases op <;> first | rfl | exact absurd rfl h2
  cases b <;> simp [behindInMarks, e1, e2]
/-- a comparison as a value; hm: nomark b, or (for in, not in) by with_unfolding_all rfl -/
theorem pe_cmpR {op : CmpOp} {r : R2} (ho : OpR X (compareOp op) r) (ha : PE X a ta) (hb : PE X b tb) (hm : behindInMarks op b = false) : PE X (.Compare a [op] [b] pos) (tOp r ta tb) := by
  intro pins s σ H Q I h
  exact wpAny_Compare1 (binT ha hb I h fun v u s2 x y H2 I2 rx ry q => ho pins s2 σ H2 x y v u Q I2 rx ry q) hm
/-- a reading of a value as a test -/
def tTest (t : TE) : TT := fun σ H Q => t σ H fun x H' => ∃ k, x = .bl k ∧ Q k H'
theorem pt_cmpR {op : CmpOp} {r : R2} (ho : OpR X (compareOp op) r) (ha : PE X a ta) (hb : PE X b tb) (hm : behindInMarks op b = false) : PT X (.Compare a [op] [b] pos) (tTest (tOp r ta tb)) := by
  intro pins s σ H Q I h
  refine wpAny_isTrue_Compare1 (thn (ha pins s σ H _ I h) fun v s1 ⟨x, H1, I1, r1, q1⟩ => thn (hb pins s1 σ H1 _ I1 q1) fun u s2 ⟨y, H2, I2, r2, q2⟩ =>
    thn (ho pins s2 σ H2 x y v u _ I2 r1 r2 q2) fun c s3 ⟨z, H3, I3, r3, k, e, q3⟩ => ?_) hm
  subst e
  cases r3
  exact wpAny_truthy_bool ⟨H3, I3, q3⟩
/-- a op1 b op2 c -/
def tChain (r r' : R2) (ta tb tc : TE) : TE := fun σ H Q => ta σ H fun x H1 => tb σ H1 fun y H2 => r x y H2 fun z H3 => ∃ k, z = .bl k ∧
  (if k = true then tc σ H3 fun w' H4 => r' y w' H4 Q else Q (.bl false) H3)
theorem pe_chain {op op' : CmpOp} {r r' : R2} (ho : OpR X (compareOp op) r) (ho' : OpR X (compareOp op') r') (ha : PE X a ta) (hb : PE X b tb) (hc : PE X c tc)
    (hm : lastMarks [op, op'] [b, c] = false := by with_unfolding_all rfl) : PE X (.Compare a [op, op'] [b, c] pos) (tChain r r' ta tb tc) := by
  intro pins s σ H Q I h
  refine Compare_chain (thn (ha pins s σ H _ I h) fun v s1 ⟨x, H1, I1, r1, q1⟩ => chain_link (thn (hb pins s1 σ H1 _ I1 q1) fun u s2 ⟨y, H2, I2, r2, q2⟩ =>
    thn (ho pins s2 σ H2 x y v u _ I2 r1 r2 q2) fun d s3 ⟨z, H3, I3, r3, k, e, q3⟩ => ?_)) hm
  subst e
  cases r3
  refine wpAny_truthy_bool ?_
  cases k with
  | false => exact ite_ff ⟨.bl false, H3, I3, rfl, q3⟩
  | true => exact ite_tt (chain_last (thn (hc pins s3 σ H3 _ I3 q3) fun w' s4 ⟨z', H4, I4, r4, q4⟩ => ho' pins s4 σ H4 y z' u w' Q I4 r2 r4 q4))
theorem pt_chain {op op' : CmpOp} {r r' : R2} (ho : OpR X (compareOp op) r) (ho' : OpR X (compareOp op') r') (ha : PE X a ta) (hb : PE X b tb) (hc : PE X c tc)
    (hm : lastMarks [op, op'] [b, c] = false := by with_unfolding_all rfl) : PT X (.Compare a [op, op'] [b, c] pos) (tTest (tChain r r' ta tb tc)) := by
  intro pins s σ H Q I h
  refine isTrue_chain (thn (ha pins s σ H _ I h) fun v s1 ⟨x, H1, I1, r1, q1⟩ => test_link (thn (hb pins s1 σ H1 _ I1 q1) fun u s2 ⟨y, H2, I2, r2, q2⟩ =>
    thn (ho pins s2 σ H2 x y v u _ I2 r1 r2 q2) fun d s3 ⟨z, H3, I3, r3, k, e, q3⟩ => ?_)) hm
  subst e
  cases r3
  refine wpAny_truthy_bool ?_
  cases k with
  | false =>
    obtain ⟨k', e', q'⟩ := q3
    cases e'
    exact ite_ff ⟨H3, I3, q'⟩
  | true =>
    refine ite_tt (test_last (thn (hc pins s3 σ H3 _ I3 q3) fun w' s4 ⟨z', H4, I4, r4, q4⟩ => thn (ho' pins s4 σ H4 y z' u w' _ I4 r2 r4 q4) fun d' s5 ⟨z2, H5, I5, r5, k2, e2, q5⟩ => ?_))
    subst e2
    cases r5
    exact wpAny_truthy_bool ⟨H5, I5, q5⟩

/-! ### truth -/
/-- a value's truth by the abstract heap -/
def TruV (K : PySem.W.Frag) (x : V) (H : Hp) (k : Bool) : Prop :=
  match x with
  | .non => k = false
  | .bl b => k = b
  | .int i => k = (i != 0)
  | .str y => y.length ≤ sizeLine ∧ k = ((y.length : Int) != 0)
  | .byt y => y.size ≤ sizeLine ∧ k = ((y.size : Int) != 0)
  | .ref p => (∃ xs, SqL K H p xs ∧ k = !xs.isEmpty) ∨ (∃ xs, SqT K H p xs ∧ k = !xs.isEmpty) ∨ ∃ kvs, H p = some (.dK kvs) ∧ k = !kvs.isEmpty
  | _ => False
theorem isEmpty_kv {κ : Type} {kvs : List (κ × V)} {vs : List (κ × Value)} (r : KV kvs vs) : (!vs.isEmpty) = !kvs.isEmpty := by
  cases r <;> rfl
theorem isEmpty_of {xs : List V} {its : List Value} (r : Vals xs its) : (!its.toArray.isEmpty) = !xs.isEmpty := by
  cases r <;> simp
theorem line63 : (sizeLine : Nat) < 2 ^ 63 := by rw [sizeLine_eq]; decide
theorem tru_ok : TruR X (fun x H Q => ∃ k, TruV X.K x H k ∧ Q k H) := by
  intro pins s σ H x v Q I rx h
  obtain ⟨k, e, q⟩ := h
  have hl := line63
  have hs : sizeLine = 16777216 := sizeLine_eq
  cases x with
  | non =>
    cases rx
    have e' : k = false := e
    subst e'
    exact truthy_none ⟨H, I, q⟩
  | bl b =>
    cases rx
    have e' : k = b := e
    subst e'
    exact wpAny_truthy_bool ⟨H, I, q⟩
  | int i =>
    obtain ⟨t, rfl⟩ := rx
    have e' : k = (i != 0) := e
    subst e'
    exact PySem.P.truthy_int ⟨H, I, q⟩
  | str y =>
    obtain ⟨t, rfl⟩ := rx
    obtain ⟨hy, e'⟩ : y.length ≤ sizeLine ∧ k = ((y.length : Int) != 0) := e
    subst e'
    exact PySem.P.truthy_str (by omega) ⟨H, I.tok _, q⟩
  | byt y =>
    obtain ⟨t, rfl⟩ := rx
    obtain ⟨hy, e'⟩ : y.size ≤ sizeLine ∧ k = ((y.size : Int) != 0) := e
    subst e'
    exact PySem.W.truthy_bytes (by omega) ⟨H, I.tok _, q⟩
  | ref p =>
    cases rx
    have e' : (∃ xs, SqL X.K H p xs ∧ k = !xs.isEmpty) ∨ (∃ xs, SqT X.K H p xs ∧ k = !xs.isEmpty) ∨ ∃ kvs, H p = some (.dK kvs) ∧ k = !kvs.isEmpty := e
    rcases e' with ⟨xs, hx, e'⟩ | ⟨xs, hx, e'⟩ | ⟨kvs, hx, e'⟩
    · subst e'
      obtain ⟨its, r, pl, hz⟩ := I.list hx
      have hlen := r.length
      exact wpAny_truthy_list pl.isList (by simp only [List.size_toArray]; omega) ⟨H, I.tok _, by rw [isEmpty_of r]; exact q⟩
    · subst e'
      obtain ⟨its, r, pl, hz⟩ := I.tuple hx
      have hlen := r.length
      exact truthy_tuple pl (by simp only [List.size_toArray]; omega) ⟨H, I.tok _, by rw [isEmpty_of r]; exact q⟩
    · subst e'
      obtain ⟨hz, hS, vs, r, m⟩ : kvs.length ≤ sizeLine ∧ (p == sysModules) = false ∧ ∃ vs, KV kvs vs ∧ s.heap.DictOf (mixKind X.prog X.w) p vs := I.hok p _ hx
      have hlen : kvs.length = vs.length := Paired.length r
      exact wpAny_truthy_dict hS m (by omega) ⟨H, I.tok _, by rw [isEmpty_kv r]; exact q⟩
  | _ => exact (show False from e).elim
/-- any expression whose test is its value's truth (a name, a call, a subscript, a field ..: he by fun _ => rfl) -/
theorem pt_truth (ha : PE X a ta) (he : ∀ whole, isTrue a X.env whole = (do let v ← whole; standAt a.pos; holding [v] (truthy v))) :
    PT X a (fun σ H Q => ta σ H fun x H' => ∃ k, TruV X.K x H' k ∧ Q k H') := by
  intro pins s σ H Q I h
  exact isTrue_plain (thn (ha pins s σ H _ I h) fun v s1 ⟨x, H1, I1, r1, q1⟩ => tru_ok pins s1 σ H1 x v Q I1 r1 q1) (he _)

/-! ### strs and bytes -/
theorem pe_byt {x : List UInt8} {k : Nat} : PE X (.Constant (.bytes x) k pos) (fun _ H Q => Q (.byt x.toArray) H) := fun _ _ _ H _ I h => PySem.W.Constant_bytes ⟨.byt x.toArray, H, I.tok _, ⟨_, rfl⟩, h⟩
theorem op_add_str : OpR X (binaryOp .Add) (fun x y H Q => ∃ i j, x = .str i ∧ y = .str j ∧ i.length + j.length ≤ sizeLine ∧ Q (.str (i ++ j)) H) := by
  intro pins s σ H x y v u Q I rx ry h
  obtain ⟨i, j, rfl, rfl, hz, q⟩ := h
  obtain ⟨t, rfl⟩ := rx
  obtain ⟨t', rfl⟩ := ry
  exact add_str (fun t' tk => ⟨.str (i ++ j), H, I.tok _, ⟨_, rfl⟩, q⟩) hz
theorem iop_add_str : OpR X (inplaceOp .Add) (fun x y H Q => ∃ i j, x = .str i ∧ y = .str j ∧ i.length + j.length ≤ sizeLine ∧ Q (.str (i ++ j)) H) := by
  intro pins s σ H x y v u Q I rx ry h
  obtain ⟨i, j, rfl, rfl, hz, q⟩ := h
  obtain ⟨t, rfl⟩ := rx
  obtain ⟨t', rfl⟩ := ry
  exact iadd_str (fun t' tk => ⟨.str (i ++ j), H, I.tok _, ⟨_, rfl⟩, q⟩) hz
theorem op_add_byt : OpR X (binaryOp .Add) (fun x y H Q => ∃ i j, x = .byt i ∧ y = .byt j ∧ i.size + j.size ≤ 16777216 ∧ Q (.byt (i ++ j)) H) := by
  intro pins s σ H x y v u Q I rx ry h
  obtain ⟨i, j, rfl, rfl, hz, q⟩ := h
  obtain ⟨t, rfl⟩ := rx
  obtain ⟨t', rfl⟩ := ry
  exact PySem.W.KBy.add_bytes hz (fun t' tk => ⟨.byt (i ++ j), H, I.tok _, ⟨_, rfl⟩, q⟩)

def PlainIxT (b : Expr) : Prop := ∀ o i, subscripted b false o i = operate [o, i] (getItem o i)
/-- s[i], 0 ≤ i < len -/
theorem pe_item_str (ha : PE X a ta) (hb : PE X b tb) (hs : PlainIxT b) :
    PE X (.Subscript a b pos) (tOp (fun x y H Q => ∃ z i c, x = .str z ∧ y = .int i ∧ 0 ≤ i ∧ i < 2 ^ 63 ∧ i < z.length ∧ z.cps[i.toNat]? = some c ∧ Q (.str ⟨#[c]⟩) H) ta tb) := by
  intro pins s σ H Q I h
  refine Subscript_ (binT ha hb I h fun v u s2 x y H2 I2 rx ry q => ?_)
  obtain ⟨z, i, c, rfl, rfl, h0, h63, h1, hc, q⟩ := q
  obtain ⟨t, rfl⟩ := rx
  obtain ⟨t', rfl⟩ := ry
  have e : seqIndex? i z.length = some i.toNat := PySem.StrLaws.seqIndex_nonneg h0 h1
  exact tail_any (typeIs_str s2 z t) slot_str_getitem.lookup (getItem_str (c := c) (by
    have e1 : decide (i < -(2 ^ 63 : Int)) = false := decide_eq_false (by omega)
    have e2 : decide (i ≥ 2 ^ 63) = false := decide_eq_false (by omega)
    rw [e1, e2] <;> rfl) (by rw [e]; exact hc) ⟨.str ⟨#[c]⟩, H2, I2.tok _, ⟨_, rfl⟩, q⟩) (hs _ _)
/-- b[i], 0 ≤ i < len -/
theorem pe_item_byt (ha : PE X a ta) (hb : PE X b tb) (hs : PlainIxT b) :
    PE X (.Subscript a b pos) (tOp (fun x y H Q => ∃ (z : List UInt8) (i : Int), x = .byt z.toArray ∧ y = .int i ∧ z.length ≤ sizeLine ∧ 0 ≤ i ∧ i < z.length ∧ Q (.int ((z.getD i.toNat 0).toNat : Nat)) H) ta tb) := by
  intro pins s σ H Q I h
  refine Subscript_ (binT ha hb I h fun v u s2 x y H2 I2 rx ry q => ?_)
  obtain ⟨z, i, rfl, rfl, hz, h0, h1, q⟩ := q
  obtain ⟨t, rfl⟩ := rx
  obtain ⟨t', rfl⟩ := ry
  have hl : sizeLine = 16777216 := sizeLine_eq
  exact tail_any (PySem.W.typeIs_bytes s2 z.toArray t) PySem.W.FB.slot_bytes_getitem.lookup (PySem.W.getItem_bytes (by omega) h0 h1 ⟨.int ((z.getD i.toNat 0).toNat : Nat), H2, I2.tok _, ⟨_, rfl⟩, q⟩) (hs _ _)

/-! ### scalar builtins, by CallR -/
theorem vals1 {x : V} {us : List Value} (r : Vals [x] us) : ∃ u, us = [u] ∧ RelV x u := by
  cases r with
  | cons r1 r2 => cases r2; exact ⟨_, rfl, r1⟩
theorem vals2 {x y : V} {us : List Value} (r : Vals [x, y] us) : ∃ u w', us = [u, w'] ∧ RelV x u ∧ RelV y w' := by
  cases r with
  | cons r1 r2 =>
    cases r2 with
    | cons r3 r4 => cases r4; exact ⟨_, _, rfl, r1, r3⟩
theorem call_abs : CallR X (.builtin "abs") (fun xs H Q => ∃ i, xs = [.int i] ∧ Q (.int (if i < 0 then -i else i)) H) := by
  intro pins s σ H xs us Q I r h
  obtain ⟨i, rfl, q⟩ := h
  obtain ⟨u, rfl, t, rfl⟩ := vals1 r
  exact call_abs_int fun u tk => ⟨.int (if i < 0 then -i else i), H, I.tok _, ⟨_, rfl⟩, q⟩
theorem call_max2 (hc : X.calm = true) : CallR X (.builtin "max") (fun xs H Q => ∃ i j, xs = [.int i, .int j] ∧ Q (.int (if j > i then j else i)) H) := by
  intro pins s σ H xs us Q I r h
  obtain ⟨i, j, rfl, q⟩ := h
  obtain ⟨u, w', rfl, ⟨t, rfl⟩, ⟨t', rfl⟩⟩ := vals2 r
  refine max_two_ints (I.ok.hd hc) fun h' tk k => ⟨_, H, I.kept k, ?_, q⟩
  by_cases hj : j > i
  · rw [if_pos hj, if_pos hj]; exact ⟨_, rfl⟩
  · rw [if_neg hj, if_neg hj]; exact ⟨_, rfl⟩
theorem call_min2 (hc : X.calm = true) : CallR X (.builtin "min") (fun xs H Q => ∃ i j, xs = [.int i, .int j] ∧ Q (.int (if j < i then j else i)) H) := by
  intro pins s σ H xs us Q I r h
  obtain ⟨i, j, rfl, q⟩ := h
  obtain ⟨u, w', rfl, ⟨t, rfl⟩, ⟨t', rfl⟩⟩ := vals2 r
  refine min_two_ints (I.ok.hd hc) fun h' tk k => ⟨_, H, I.kept k, ?_, q⟩
  by_cases hj : j < i
  · rw [if_pos hj, if_pos hj]; exact ⟨_, rfl⟩
  · rw [if_neg hj, if_neg hj]; exact ⟨_, rfl⟩
theorem call_int1 : CallR X (.type "int") (fun xs H Q => (∃ i, xs = [.int i] ∧ Q (.int i) H) ∨ ∃ k, xs = [.bl k] ∧ Q (.int (if k then 1 else 0)) H) := by
  intro pins s σ H xs us Q I r h
  rcases h with ⟨i, rfl, q⟩ | ⟨k, rfl, q⟩
  · obtain ⟨u, rfl, t, rfl⟩ := vals1 r
    exact call_int_int ⟨.int i, H, I, ⟨_, rfl⟩, q⟩
  · obtain ⟨u, rfl, r1⟩ := vals1 r
    cases r1
    exact call_int_bool ⟨.int (if k then 1 else 0), H, I.tok _, ⟨_, rfl⟩, q⟩
theorem call_bool1 : CallR X (.type "bool") (fun xs H Q => (∃ i, xs = [.int i] ∧ Q (.bl (i != 0)) H) ∨ ∃ k, xs = [.bl k] ∧ Q (.bl k) H) := by
  intro pins s σ H xs us Q I r h
  rcases h with ⟨i, rfl, q⟩ | ⟨k, rfl, q⟩
  · obtain ⟨u, rfl, t, rfl⟩ := vals1 r
    exact call_bool_int ⟨.bl (i != 0), H, I, rfl, q⟩
  · obtain ⟨u, rfl, r1⟩ := vals1 r
    cases r1
    exact call_bool_bool ⟨.bl k, H, I, rfl, q⟩
theorem call_str_int : CallR X (.type "str") (fun xs H Q => ∃ i, xs = [.int i] ∧ i.natAbs.log2 < 1920 ∧ Q (.str (toString i)) H) := by
  intro pins s σ H xs us Q I r h
  obtain ⟨i, rfl, hz, q⟩ := h
  obtain ⟨u, rfl, t, rfl⟩ := vals1 r
  exact PySem.P.str_of_int hz ⟨.str _, H, I.tok _, ⟨_, rfl⟩, q⟩
theorem call_ord : CallR X (.builtin "ord") (fun xs H Q => ∃ x, xs = [.str x] ∧ x.length = 1 ∧ Q (.int (x.cps.getD 0 0 : Nat)) H) := by
  intro pins s σ H xs us Q I r h
  obtain ⟨x, rfl, hz, q⟩ := h
  obtain ⟨u, rfl, t, rfl⟩ := vals1 r
  exact ord_of_one hz ⟨.int _, H, I.tok _, ⟨_, rfl⟩, q⟩
theorem call_chr : CallR X (.builtin "chr") (fun xs H Q => ∃ i, xs = [.int i] ∧ 0 ≤ i ∧ i ≤ 1114111 ∧ Q (.str ⟨#[i.toNat]⟩) H) := by
  intro pins s σ H xs us Q I r h
  obtain ⟨i, rfl, h0, h1, q⟩ := h
  obtain ⟨u, rfl, t, rfl⟩ := vals1 r
  exact chr_of_range h0 h1 ⟨.str _, H, I.tok _, ⟨_, rfl⟩, q⟩
/-- len of a str, a bytes, a list, a tuple -/
def LenV (K : PySem.W.Frag) (x : V) (H : Hp) (n : Nat) : Prop :=
  match x with
  | .str y => y.length ≤ sizeLine ∧ n = y.length
  | .byt y => y.size ≤ sizeLine ∧ n = y.size
  | .ref p => (∃ xs, SqL K H p xs ∧ n = xs.length) ∨ ∃ xs, SqT K H p xs ∧ n = xs.length
  | _ => False
theorem call_len : CallR X (.builtin "len") (fun xs H Q => ∃ x n, xs = [x] ∧ LenV X.K x H n ∧ Q (.int n) H) := by
  intro pins s σ H xs us Q I r h
  obtain ⟨x, n, rfl, e, q⟩ := h
  obtain ⟨u, rfl, rx⟩ := vals1 r
  have hl := line63
  have hs : sizeLine = 16777216 := sizeLine_eq
  cases x with
  | str y =>
    obtain ⟨t, rfl⟩ := rx
    obtain ⟨hy, e'⟩ : y.length ≤ sizeLine ∧ n = y.length := e
    subst e'
    exact len_str (by omega) ⟨.int _, H, I.tok _, ⟨_, rfl⟩, q⟩
  | byt y =>
    obtain ⟨t, rfl⟩ := rx
    obtain ⟨hy, e'⟩ : y.size ≤ sizeLine ∧ n = y.size := e
    subst e'
    exact PySem.W.len_bytes (by omega) ⟨.int _, H, I.tok _, ⟨_, rfl⟩, q⟩
  | ref p =>
    cases rx
    have e' : (∃ xs, SqL X.K H p xs ∧ n = xs.length) ∨ ∃ xs, SqT X.K H p xs ∧ n = xs.length := e
    rcases e' with ⟨xs, hx, e'⟩ | ⟨xs, hx, e'⟩
    · subst e'
      obtain ⟨its, r', pl, hz⟩ := I.list hx
      have hlen := r'.length
      exact Calls.call_len_list pl.isList (by simp only [List.size_toArray]; omega) ⟨.int xs.length, H, I.tok _, ⟨_, by simp only [List.size_toArray]; rw [hlen]⟩, q⟩
    · subst e'
      obtain ⟨its, r', pl, hz⟩ := I.tuple hx
      have hlen := r'.length
      exact len_tuple pl (by simp only [List.size_toArray]; omega) ⟨.int xs.length, H, I.tok _, ⟨_, by simp only [List.size_toArray]; rw [hlen]⟩, q⟩
  | _ => exact (show False from e).elim
/-- divmod: a new tuple -/
theorem call_divmod : CallR X (.builtin "divmod") (fun xs H Q => ∃ i j, xs = [.int i, .int j] ∧ CDiv i j ∧ ∀ p, H p = none → Q (.ref p) (upd H p (.tup [.int (i / j), .int (i % j)]))) := by
  intro pins s σ H xs us Q I r h
  obtain ⟨i, j, rfl, ⟨h1, h2⟩, q⟩ := h
  obtain ⟨u, w', rfl, ⟨t, rfl⟩, ⟨t', rfl⟩⟩ := vals2 r
  refine divmod_int (by omega) ?_ (.inl (PyProof.noPylong_small (by omega)))
  rw [Int.fdiv_eq_ediv_of_nonneg i (by omega), Int.fmod_eq_emod_of_nonneg i (by omega)]
  have hn : H s.heap.objs.size = none := I.hok.fresh (Nat.le_refl _)
  refine ⟨.ref s.heap.objs.size, _, ?_, rfl, q _ hn⟩
  refine I.laid (fun b o e => Heap.get?_push_of_some _ e) (Nat.le_refl _) ⟨by simp only [List.length_cons, List.length_nil]; rw [sizeLine_eq]; decide, [.int (i / j) s.toks, .int (i % j) (s.toks + 1)], .cons ⟨_, rfl⟩ (.cons ⟨_, rfl⟩ .nil), ?_⟩
  exact ⟨_, Heap.get?_push_size s.heap rfl, rfl, 0, rfl⟩
end
end L2

namespace L2
open PySem PySem.Spec PyProof.Rows

/-! ### an instance, its attributes a map -/
structure ObjM (h : Heap) (x dx C : Addr) (mA : Str → Option Value) : Prop where
  obj : h.get? x = some (PySem.W.instObj C dx)
  ns : h.Ns1 dx mA
  ne : dx ≠ x

theorem lookIn_ns {h : Heap} {dx : Addr} {mA : Str → Option Value} (n : h.Ns1 dx mA) : ∃ od, h.get? dx = some od ∧ ∀ name, PySem.W.lookIn name od = some (mA name) := by
  obtain ⟨o, es, ep, ho, hd, hk, _, hm⟩ := n
  refine ⟨o, ho, fun name => ?_⟩
  have e := hm name
  unfold nsFind findBy at e
  rw [← Array.find?_toList] at e
  unfold PySem.W.lookIn
  rw [hd]
  dsimp only
  split
  · rename_i y q
    rw [q] at e
    exact congrArg some e
  · rename_i q
    rw [q] at e
    have a : es.toList.any (·.refKey) = false := by
      rw [List.any_eq_false]
      intro y hy
      obtain ⟨z, t, hkey⟩ := hk y (Array.mem_toList_iff.mp hy)
      simp [DictEntry.refKey, hkey]
    have a' : ¬ es.toList.any (·.refKey) = true := by rw [a]; exact Bool.false_ne_true
    rw [if_neg a']
    exact congrArg some e

theorem ObjM.look {h : Heap} {x dx C : Addr} {mA : Str → Option Value} (I : ObjM h x dx C mA) : ∃ od, PySem.W.InstAt h x (PySem.W.instObj C dx) C (some od) ∧ ∀ name, PySem.W.lookIn name od = some (mA name) :=
  let ⟨od, ho, hl⟩ := lookIn_ns I.ns
  ⟨od, ⟨I.obj, rfl, rfl, ho⟩, hl⟩

section
variable {prog : Program} {w : World} {A : Around} {E : Value → Shared → Prop} {s : Shared} {K : PySem.W.Frag} {x dx C f : Addr} {mA : Str → Option Value} {name : Str} {v : Value}

theorem get_map {expr : Bool} {Q : Value → Shared → Prop} (X : K.In s.heap) (I : ObjM s.heap x dx C mA) (hg : PySem.W.plainGet K C name = true) (hh : PySem.W.hasDictIn K C = true)
    (ha : PySem.W.findIn K (.ref C) name = some none) (hv : mA name = some v) (hv' : PySem.W.handedIn v = true) (h : Q v { s with toks := s.toks + 1 }) :
    wpAny (model prog w) A (getAttr (.ref x) name expr) Q E s := by
  obtain ⟨od, J, hl⟩ := I.look
  exact PySem.W.get_value X J (PySem.W.plainGet_of hg).1 (PySem.W.findObj_own hh ha rfl (by rw [hl, hv])) hv' h

theorem get_const {expr : Bool} {a : Value} {Q : Value → Shared → Prop} (X : K.In s.heap) (I : ObjM s.heap x dx C mA) (hg : PySem.W.plainGet K C name = true) (hh : PySem.W.hasDictIn K C = true)
    (ha : PySem.W.findIn K (.ref C) name = some (some a)) (hn : PySem.W.specialIn K a "__get__" = some none) (hc : PySem.W.copiedNames.contains name = false) (hv : mA name = none) (hv' : PySem.W.handedIn a = true)
    (h : Q a { s with toks := s.toks + 1 }) : wpAny (model prog w) A (getAttr (.ref x) name expr) Q E s := by
  obtain ⟨od, J, hl⟩ := I.look
  exact PySem.W.get_value X J (PySem.W.plainGet_of hg).1 (PySem.W.findObj_cls hh ha hn hv' hc (by rw [hl, hv])) hv' h

theorem get_meth {pl : Sem Bool} {Q : Value × List Value → Shared → Prop} (X : K.In s.heap) (I : ObjM s.heap x dx C mA) (hg : PySem.W.plainGet K C name = true)
    (hf : PySem.W.findIn K (.ref C) name = some (some (.ref f))) (ht : PySem.W.isFn K (.ref f) = true) (hv : mA name = none) (h : Q (.ref f, [.ref x]) s) :
    wpAny (model prog w) A (getMethod (.ref x) name pl) Q E s := by
  obtain ⟨od, J, hl⟩ := I.look
  exact PySem.W.method_fn X J (PySem.W.plainGet_of hg).1 (PySem.W.plainGet_of hg).2 hf (beq_iff_eq.mp ht) (by show (PySem.W.lookIn name od).map (·.isSome) = some false; rw [hl, hv]; rfl) h

theorem set_map {ns : List Str} {Q : Unit → Shared → Prop} (X : K.In s.heap) (I : ObjM s.heap x dx C mA)
    (hs : PySem.W.findIn K (.ref C) "__setattr__" = some (some (.builtin "object.__setattr__"))) (hp : PySem.W.plainOver K C = true) (ht : PySem.W.takerIn K C name = some none) (hh : PySem.W.hasDictIn K C = true)
    (hw : PySem.Within mA ns) (hsz : ns.length ≤ sizeLine)
    (h : ∀ h', ObjM h' x dx C (fun y => if y = name then some v else mA y) → Heap.SameBut dx s.heap h' → Q () { s with heap := h', toks := s.toks + 2 }) :
    wpAny (model prog w) A (setAttr (.ref x) name v) Q E s := by
  obtain ⟨od, J, hl⟩ := I.look
  refine PySem.W.set_plain X J hs (PySem.W.osa_open (s := { s with toks := s.toks + 1 }) (r := none) X J hp ht fun b => ?_)
  obtain ⟨cd, hc, hd'⟩ := PySem.W.any_some hh
  have hx : s.heap.get? x = some ⟨.ref C, some dx, .plain, #[]⟩ := I.obj
  refine wpAny_bind (wpAny_pure (wpAny_bind (wpAny_bind (wpAny_loadPart hx (wpAny_bind (PySem.W.Looks.here (s := { s with toks := s.toks + 1 }) (PySem.W.looks_clsIn X hc) ?_))))))
  rw [hd']
  refine wpAny_pure (a := some dx) (wpAny_bind (wpAny_pure (wpAny_bind ?_)))
  refine wpAny_nsSet1 (s := { s with toks := s.toks + 1 }) I.ns fun h' hn2 hs2 => ?_
  obtain ⟨oD, esD, epD, hoD, hdD, hcD⟩ := hn2.count (PySem.Within.cons name v hw)
  refine wpAny_bind (wpAny_lookBehind hoD (by rw [hdD]; exact pastItsLine_dict (Nat.le_trans hcD (by rw [List.length_cons]; omega))) ?_)
  exact wpAny_pure (h _ ⟨(hs2.2 _ (Ne.symm I.ne)).trans I.obj, hn2, I.ne⟩ hs2)

/-- C(..): the dict at the heap's end, the instance behind it; then its __init__ -/
theorem make_map {R : Result → Shared → Prop} {vs : List Value} {kw : List (Str × Value)} (X : K.In s.heap) (hm : PySem.W.makesIn K C = true)
    (hi : PySem.W.findIn K (.ref C) "__init__" = some (some (.ref f))) (hf : PySem.W.typeIn K (.ref f) = some (.type "function"))
    (h : codeAny (model prog w) (A.under (.builtin "type.__call__" ⟨.ref C :: vs, kw⟩)) (.call (.ref f) ⟨.ref (s.heap.objs.size + 1) :: vs, kw⟩) (PySem.W.InitBack (s.heap.objs.size + 1) R)
      { s with heap := (s.heap.push PySem.W.emptyDict).push (PySem.W.instObj C s.heap.objs.size) }) :
    codeAny (model prog w) A (.call (.ref C) ⟨vs, kw⟩) R s := by
  obtain ⟨hh, g, d, t, os⟩ := s
  exact PySem.W.make_core (PySem.W.makes_of X hm) (PySem.W.looks_findIn X hi) (fun self => PySem.W.bind_fn X self hf) (.inl rfl) h
/-- C() where there is no __init__ but object's -/
theorem make_map0 {R : Result → Shared → Prop} (X : K.In s.heap) (hm : PySem.W.makesIn K C = true)
    (hi : PySem.W.findIn K (.ref C) "__init__" = some (some (.builtin "object.__init__")))
    (hb : ∀ self, PySem.W.Looks (model prog w) s.heap (bindSpecial (.builtin "object.__init__") self) (.builtin "object.__init__", [self]))
    (h : codeAny (model prog w) (A.under (.builtin "type.__call__" ⟨[.ref C], []⟩)) (.call (.builtin "object.__init__") ⟨[.ref (s.heap.objs.size + 1)], []⟩) (PySem.W.InitBack (s.heap.objs.size + 1) R)
      { s with heap := (s.heap.push PySem.W.emptyDict).push (PySem.W.instObj C s.heap.objs.size) }) :
    codeAny (model prog w) A (.call (.ref C) ⟨[], []⟩) R s := by
  obtain ⟨hh, g, d, t, os⟩ := s
  exact PySem.W.make_core (PySem.W.makes_of X hm) (PySem.W.looks_findIn X hi) hb (.inr ⟨rfl, rfl⟩) h
end

/-! ### the attributes as a list of pairs -/
def putF (f : Str) (v : V) : List (Str × V) → List (Str × V)
  | [] => [(f, v)]
  | (g, x) :: r => if g = f then (g, v) :: r else (g, x) :: putF f v r
theorem lookup_putF (f g : Str) (v : V) : ∀ fs : List (Str × V), (putF f v fs).lookup g = if g = f then some v else fs.lookup g
  | [] => by
    show List.lookup g [(f, v)] = _
    by_cases h : g = f
    · have hb : (g == f) = true := beq_iff_eq.mpr h
      simp only [List.lookup, hb, if_pos h]
    · have hb : (g == f) = false := beq_eq_false_iff_ne.mpr h
      simp only [List.lookup, hb, if_neg h]
  | (k, x) :: r => by
    have ih := lookup_putF f g v r
    rw [show putF f v ((k, x) :: r) = (if k = f then (k, v) :: r else (k, x) :: putF f v r) from rfl]
    by_cases hk : k = f
    · rw [if_pos hk]
      by_cases h : g = k
      · have hb : (g == k) = true := beq_iff_eq.mpr h
        simp only [List.lookup, hb, if_pos (h.trans hk)]
      · have hb : (g == k) = false := beq_eq_false_iff_ne.mpr h
        simp only [List.lookup, hb, if_neg (fun e : g = f => h (e.trans hk.symm))]
    · rw [if_neg hk]
      by_cases h : g = k
      · have hb : (g == k) = true := beq_iff_eq.mpr h
        simp only [List.lookup, hb, if_neg (fun e : g = f => hk (h.symm.trans e))]
      · have hb : (g == k) = false := beq_eq_false_iff_ne.mpr h
        simp only [List.lookup, hb]
        exact ih
theorem keys_putF (f : Str) (v : V) : ∀ fs : List (Str × V), f ∈ (putF f v fs).map (·.1) ∧ ∀ g, g ∈ fs.map (·.1) → g ∈ (putF f v fs).map (·.1)
  | [] => ⟨by simp [putF], fun g h => by simp at h⟩
  | (k, x) :: r => by
    obtain ⟨i1, i2⟩ := keys_putF f v r
    rw [show putF f v ((k, x) :: r) = (if k = f then (k, v) :: r else (k, x) :: putF f v r) from rfl]
    by_cases hk : k = f
    · rw [if_pos hk]
      subst hk
      exact ⟨by simp, fun g h => by simpa using h⟩
    · rw [if_neg hk]
      refine ⟨?_, fun g h => ?_⟩
      · rw [List.map_cons]
        exact List.mem_cons_of_mem _ i1
      · rw [List.map_cons] at h ⊢
        rcases List.mem_cons.mp h with e | e
        · exact List.mem_cons.mpr (.inl e)
        · exact List.mem_cons_of_mem _ (i2 g e)
theorem length_putF (f : Str) (v : V) : ∀ fs : List (Str × V), (putF f v fs).length ≤ fs.length + 1
  | [] => by simp [putF]
  | (k, x) :: r => by
    have ih := length_putF f v r
    rw [show putF f v ((k, x) :: r) = (if k = f then (k, v) :: r else (k, x) :: putF f v r) from rfl]
    by_cases hk : k = f
    · rw [if_pos hk, List.length_cons, List.length_cons]; omega
    · rw [if_neg hk, List.length_cons, List.length_cons]; omega

theorem RelO.some_of {v : V} {o : Option Value} (r : RelO (some v) o) : ∃ u, o = some u ∧ RelV v u := by
  cases o with
  | none => exact (show False from r).elim
  | some u => exact ⟨u, rfl, r⟩
theorem RelO.none_of {o : Option Value} (r : RelO none o) : o = none := by
  cases o with
  | none => rfl
  | some u => exact (show False from r).elim
theorem handed_of {v : V} {u : Value} (r : RelV v u) : PySem.W.handedIn u = true := by
  cases v with
  | non => cases (show u = Value.none from r); rfl
  | bl b => cases (show u = Value.bool b from r); rfl
  | int i => obtain ⟨t, e⟩ := (show ∃ t, u = Value.int i t from r); cases e; rfl
  | str x => obtain ⟨t, e⟩ := (show ∃ t, u = Value.str x t from r); cases e; rfl
  | byt b => obtain ⟨t, e⟩ := (show ∃ t, u = Value.bytes b t from r); cases e; rfl
  | flt b => obtain ⟨t, e⟩ := (show ∃ t, u = Value.float b t from r); cases e; rfl
  | ref a => cases (show u = Value.ref a from r); rfl
  | ty n => cases (show u = Value.type n from r); rfl

section
variable {P : Program} {w : World} {H H' : Hp} {h h' : Heap} {a C dx : Addr} {fs fs' : List (Str × V)}
theorem ins_get (hok : HOk P w H h) (e : H a = some (.ins C dx fs)) : ∃ mA, ObjM h a dx C mA ∧ (∀ f, RelO (fs.lookup f) (mA f)) ∧ PySem.Within mA (fs.map (·.1)) ∧ fs.length ≤ 1000 ∧ H dx = some (.own a) := by
  obtain ⟨d, z, ne, ob, mA, n, r, q⟩ := (show ObjOk P w H h a (.ins C dx fs) from hok a _ e)
  exact ⟨mA, ⟨ob, n, ne⟩, r, q, z, d⟩
end

/-! ### what of the text a class must have -/
structure Cls (K : PySem.W.Frag) (C : Addr) : Prop where
  pg : PySem.W.plainGet K C Str.empty = true
  hd : PySem.W.hasDictIn K C = true
  po : PySem.W.plainOver K C = true
  sa : PySem.W.findIn K (.ref C) "__setattr__" = some (some (.builtin "object.__setattr__"))
theorem Cls.get {K : PySem.W.Frag} {C : Addr} (c : Cls K C) (f : Str) : PySem.W.plainGet K C f = true := c.pg
/-- no class of it has the name -/
def NoAttr (K : PySem.W.Frag) (C : Addr) (f : Str) : Prop := PySem.W.findIn K (.ref C) f = some none
theorem NoAttr.taker {K : PySem.W.Frag} {C : Addr} {f : Str} (n : NoAttr K C f) : PySem.W.takerIn K C f = some none := by
  unfold PySem.W.takerIn
  rw [show PySem.W.findIn K (.ref C) f = some none from n]
  rfl
/-- a constant of the class -/
structure Con (K : PySem.W.Frag) (C : Addr) (f : Str) (v : V) (u : Value) : Prop where
  at_ : PySem.W.findIn K (.ref C) f = some (some u)
  rel : RelV v u
  get : PySem.W.specialIn K u "__get__" = some none
  cp : PySem.W.copiedNames.contains f = false
/-- a method: a plain def of the class or of one above it -/
structure Meth (K : PySem.W.Frag) (C : Addr) (m : Str) (f : Addr) : Prop where
  at_ : PySem.W.findIn K (.ref C) m = some (some (.ref f))
  fn : PySem.W.isFn K (.ref f) = true
  kp : PySem.W.keepIn K (.ref f) = true

section
variable {X : Cx} {pins : List (Addr × Obj)} {σ : St} {H : Hp} {s : Shared} {a C dx : Addr} {fs : List (Str × V)} {f : Str} {v : V} {A : Around} {E : Value → Shared → Prop}

theorem getattr_ok {b : Bool} {Q : Value → Shared → Prop} (I : Inv X pins σ H s) (e : H a = some (.ins C dx fs)) (c : Cls X.K C) (n : NoAttr X.K C f) (l : fs.lookup f = some v)
    (h : ∀ u s', Inv X pins σ H s' → RelV v u → Q u s') : wpAny (model X.prog X.w) A (getAttr (.ref a) f b) Q E s := by
  obtain ⟨mA, O, r, _, _, _⟩ := ins_get I.hok e
  obtain ⟨u, hu, ru⟩ := RelO.some_of (v := v) (o := mA f) (by rw [← l]; exact r f)
  exact get_map I.kIn O (c.get f) c.hd n hu (handed_of ru) (h u _ (I.tok _) ru)

theorem getcon_ok {b : Bool} {u : Value} {Q : Value → Shared → Prop} (I : Inv X pins σ H s) (e : H a = some (.ins C dx fs)) (c : Cls X.K C) (k : Con X.K C f v u) (l : fs.lookup f = none)
    (h : ∀ s', Inv X pins σ H s' → Q u s') : wpAny (model X.prog X.w) A (getAttr (.ref a) f b) Q E s := by
  obtain ⟨mA, O, r, _, _, _⟩ := ins_get I.hok e
  have hn : mA f = none := RelO.none_of (by rw [← l]; exact r f)
  exact get_const I.kIn O (c.get f) c.hd k.at_ k.get k.cp hn (handed_of k.rel) (h _ (I.tok _))

theorem getmeth_ok {m : Str} {g : Addr} {pl : Sem Bool} {Q : Value × List Value → Shared → Prop} (I : Inv X pins σ H s) (e : H a = some (.ins C dx fs)) (c : Cls X.K C) (k : Meth X.K C m g) (l : fs.lookup m = none)
    (h : Q (.ref g, [.ref a]) s) : wpAny (model X.prog X.w) A (getMethod (.ref a) m pl) Q E s := by
  obtain ⟨mA, O, r, _, _, _⟩ := ins_get I.hok e
  have hn : mA m = none := RelO.none_of (by rw [← l]; exact r m)
  exact get_meth I.kIn O (c.get m) k.at_ k.fn hn h

theorem setattr_ok {y : V} {u : Value} {Q : Unit → Shared → Prop} (I : Inv X pins σ H s) (e : H a = some (.ins C dx fs)) (c : Cls X.K C) (n : NoAttr X.K C f) (hl : fs.length < 1000) (ry : RelV y u)
    (h : ∀ s', Inv X pins σ (upd H a (.ins C dx (putF f y fs))) s' → Q () s') : wpAny (model X.prog X.w) A (setAttr (.ref a) f u) Q E s := by
  obtain ⟨mA, O, r, wi, _, ho⟩ := ins_get I.hok e
  have hz : (fs.map (·.1)).length ≤ sizeLine := by rw [List.length_map, sizeLine_eq]; omega
  refine set_map I.kIn O c.sa c.po n.taker c.hd wi hz fun h' O' sb => h _ ?_
  have hd : ∃ o, h'.get? dx = some o := let ⟨o, _, _, e', _⟩ := O'.ns; ⟨o, e'⟩
  refine I.write (x := a) (e := dx) (by rw [e]; exact True.intro) (.inr ho) (fun b q hb z => (sb.2 b hb).trans z) hd ?_
  refine ⟨by rw [upd_ne O.ne]; exact ho, ?_, O.ne, O'.obj, _, O'.ns, fun g => ?_, fun g hg => ?_⟩
  · have := length_putF f y fs; omega
  · show RelO ((putF f y fs).lookup g) (if g = f then some u else mA g)
    rw [lookup_putF]
    by_cases q : g = f
    · rw [if_pos q, if_pos q]; exact ry
    · rw [if_neg q, if_neg q]; exact r g
  · by_cases q : g = f
    · rw [q]; exact (keys_putF f y fs).1
    · refine (keys_putF f y fs).2 g (wi g fun z => hg ?_)
      show (if g = f then some u else mA g) = none
      rw [if_neg q]; exact z

/-- a new instance, tracked, without attributes -/
theorem Inv.made (I : Inv X pins σ H s) : Inv X pins σ (upd (upd H s.heap.objs.size (.own (s.heap.objs.size + 1))) (s.heap.objs.size + 1) (.ins C s.heap.objs.size []))
    { s with heap := (s.heap.push PySem.W.emptyDict).push (PySem.W.instObj C s.heap.objs.size) } := by
  have e1 : (s.heap.push PySem.W.emptyDict).get? s.heap.objs.size = some PySem.W.emptyDict := Heap.get?_push_size s.heap rfl
  have e2 : ((s.heap.push PySem.W.emptyDict).push (PySem.W.instObj C s.heap.objs.size)).get? (s.heap.objs.size + 1) = some (PySem.W.instObj C s.heap.objs.size) := by
    have := Heap.get?_push_size (s.heap.push PySem.W.emptyDict) (o := PySem.W.instObj C s.heap.objs.size) rfl
    rwa [Heap.size_push] at this
  have e3 : (s.heap.push PySem.W.emptyDict).Ns s.heap.objs.size (fun _ => none) := ⟨PySem.W.emptyDict, #[], _, e1, rfl, (fun e he => absurd he (by simp)), fun _ => rfl⟩
  have I1 := I.laid (a := s.heap.objs.size) (o := .own (s.heap.objs.size + 1)) (h' := s.heap.push PySem.W.emptyDict) (t' := s.toks) (fun b u q => Heap.get?_push_of_some _ q) (Nat.le_refl _) ⟨_, e1⟩
  refine I1.laid (a := s.heap.objs.size + 1) (o := .ins C s.heap.objs.size []) (t' := s.toks) (fun b u q => Heap.get?_push_of_some _ q) (Nat.le_of_eq (Heap.size_push _ _)) ?_
  have ne : s.heap.objs.size ≠ s.heap.objs.size + 1 := Nat.ne_of_lt (Nat.lt_succ_self _)
  refine ⟨by rw [upd_ne ne, upd_same], Nat.zero_le _, ne, e2, fun _ => none, (Heap.Ns1.of_empty e3).at fun o q => Heap.get?_push_of_some _ q, fun _ => True.intro, fun y hy => absurd rfl hy⟩

/-- e.f where nothing but the object is asked: through attributeBase (super) and the last hold -/
theorem attr_of {prog : Program} {w : World} {env : Env} {e : Expr} {f : Str} {pos : Pos} {s : Shared} {Q : Value → Shared → Prop} (hb : attributeBase e f env (eval e env) = eval e env)
    (h : wpAny (model prog w) A (eval e env) (fun o s₁ => wpAny (model prog w) A (getAttr o f true) Q E s₁) E s) : wpAny (model prog w) A (eval (.Attribute e f pos) env) Q E s :=
  Attribute_any_ h (by rw [arm_eval_Attribute, hb])
end

/-! ### readings and rules -/
/-- e.f, an attribute of the instance -/
def tFld (K : PySem.W.Frag) (ta : TE) (f : Str) : TE := fun σ H Q => ta σ H fun x H1 => ∃ a C dx fs v, x = .ref a ∧ H1 a = some (.ins C dx fs) ∧ Cls K C ∧ NoAttr K C f ∧ fs.lookup f = some v ∧ Q v H1
/-- e.f, a constant of the class -/
def tCon (K : PySem.W.Frag) (ta : TE) (f : Str) : TE := fun σ H Q => ta σ H fun x H1 => ∃ a C dx fs v u, x = .ref a ∧ H1 a = some (.ins C dx fs) ∧ Cls K C ∧ Con K C f v u ∧ fs.lookup f = none ∧ Q v H1
/-- e.f = value -/
def sFld (K : PySem.W.Frag) (ta tv : TE) (f : Str) : TS := fun D σ H => tv σ H fun y H1 => ta σ H1 fun x H2 => ∃ a C dx fs, x = .ref a ∧ H2 a = some (.ins C dx fs) ∧ Cls K C ∧ NoAttr K C f ∧ fs.length < 1000 ∧
  D.nx σ (upd H2 a (.ins C dx (putF f y fs)))
/-- an augmented operator on two values -/
def InOp (X : Cx) (op : Operator) (rd : V → V → Hp → VK → Prop) : Prop :=
  ∀ (pins : List (Addr × Obj)) (s : Shared) (σ : St) (H : Hp) (x y : V) (u v : Value) (Q : VK), Inv X pins σ H s → RelV x u → RelV y v → rd x y H Q → wpAny (model X.prog X.w) X.A (inplaceOp op u v) (EP X pins σ Q) X.xe s
/-- e.f op= value -/
def sFldAug (K : PySem.W.Frag) (ta tv : TE) (rd : V → V → Hp → VK → Prop) (f : Str) : TS := fun D σ H => ta σ H fun x H1 => ∃ a C dx fs v, x = .ref a ∧ H1 a = some (.ins C dx fs) ∧ Cls K C ∧ NoAttr K C f ∧ fs.lookup f = some v ∧
  tv σ H1 fun y H2 => rd v y H2 fun z H3 => ∃ dx' fs', H3 a = some (.ins C dx' fs') ∧ fs'.length < 1000 ∧ D.nx σ (upd H3 a (.ins C dx' (putF f z fs')))

section
variable {X : Cx} {o e value : Expr} {f : Str} {pos pos' tpos : Pos} {ta tv : TE}
theorem pe_fld (he : PE X e ta) (hb : attributeBase e f X.env (eval e X.env) = eval e X.env) : PE X (.Attribute e f pos) (tFld X.K ta f) := by
  intro pins s σ H Q I h
  refine attr_of hb (thn (he pins s σ H _ I h) fun u s1 ⟨x, H1, I1, rx, a, C, dx, fs, v, ex, ea, c, n, l, q⟩ => ?_)
  subst ex
  obtain rfl : u = Value.ref a := rx
  exact getattr_ok I1 ea c n l fun u' s2 I2 ru => ⟨v, H1, I2, ru, q⟩
theorem pe_con (he : PE X e ta) (hb : attributeBase e f X.env (eval e X.env) = eval e X.env) : PE X (.Attribute e f pos) (tCon X.K ta f) := by
  intro pins s σ H Q I h
  refine attr_of hb (thn (he pins s σ H _ I h) fun u s1 ⟨x, H1, I1, rx, a, C, dx, fs, v, u0, ex, ea, c, k, l, q⟩ => ?_)
  subst ex
  obtain rfl : u = Value.ref a := rx
  exact getcon_ok I1 ea c k l fun s2 I2 => ⟨v, H1, I2, k.rel, q⟩
theorem ps_fld (ha : PE X o ta) (hv : PE X value tv) (hs : swapsWith value (some (.Attribute o f pos')) pos.line X.env = pure false) : PS X (.Assign [.Attribute o f pos'] value pos) (sFld X.K ta tv f) := by
  intro pins s σ H D I h
  refine plainObj_wpAny_Assign_Attribute (thn (hv pins s σ H _ I h) fun u s1 ⟨y, H1, I1, ry, q⟩ => thn (ha pins s1 σ H1 _ I1 q) fun ov s2 ⟨x, H2, I2, rx, a, C, dx, fs, ex, ea, c, n, l, q2⟩ => ?_) hs
  subst ex
  obtain rfl : ov = Value.ref a := rx
  exact setattr_ok I2 ea c n l ry fun s3 I3 => ⟨σ, _, I3, q2⟩
theorem ps_fldaug {op : Operator} {rd : V → V → Hp → VK → Prop} (ha : PE X o ta) (hv : PE X value tv) (hop : InOp X op rd) : PS X (.AugAssign (.Attribute o f tpos) op value pos) (sFldAug X.K ta tv rd f) := by
  intro pins s σ H D I h
  refine wpAny_AugAssign_AttributeAny (thn (ha pins s σ H _ I h) fun ov s1 ⟨x, H1, I1, rx, a, C, dx, fs, v, ex, ea, c, n, l, q⟩ => ?_)
  subst ex
  obtain rfl : ov = Value.ref a := rx
  refine getattr_ok I1 ea c n l fun u s2 I2 ru => thn (hv pins s2 σ H1 _ I2 q) fun w3 s3 ⟨y, H2, I3, ry, q3⟩ => thn (hop pins s3 σ H2 v y u w3 _ I3 ru ry q3) fun w4 s4 ⟨z, H3, I4, rz, dx', fs', ea', l', q4⟩ => ?_
  exact setattr_ok I4 ea' c n l' rz fun s5 I5 => ⟨σ, _, I5, q4⟩
def rAdd : V → V → Hp → VK → Prop := fun x y H Q => ∃ i j, x = .int i ∧ y = .int j ∧ Q (.int (i + j)) H
def rSub : V → V → Hp → VK → Prop := fun x y H Q => ∃ i j, x = .int i ∧ y = .int j ∧ Q (.int (i - j)) H
theorem in_add : InOp X .Add rAdd := by
  rintro pins s σ H x y u v Q I rx ry ⟨i, j, rfl, rfl, q⟩
  obtain ⟨t, rfl⟩ := (show ∃ t, u = Value.int i t from rx)
  obtain ⟨t', rfl⟩ := (show ∃ t', v = Value.int j t' from ry)
  exact PyProof.Rows.iadd_int ⟨.int (i + j), H, I.tok _, ⟨_, rfl⟩, q⟩
theorem in_sub : InOp X .Sub rSub := by
  rintro pins s σ H x y u v Q I rx ry ⟨i, j, rfl, rfl, q⟩
  obtain ⟨t, rfl⟩ := (show ∃ t, u = Value.int i t from rx)
  obtain ⟨t', rfl⟩ := (show ∃ t', v = Value.int j t' from ry)
  exact PyProof.Rows.isub_int ⟨.int (i - j), H, I.tok _, ⟨_, rfl⟩, q⟩

/-- what is between an instance and its method: the tree of a method call -/
theorem methcall_of {pl : Sem Bool} {m : Str} {apos : Pos} {args : List Expr} {pins : List (Addr × Obj)} {s : Shared} {σ : St} {H : Hp} {Q : Value → Shared → Prop} {te : TE} (he : PE X e te) (I : Inv X pins σ H s)
    (h : te σ H fun x H1 => ∃ a C dx fs g, x = .ref a ∧ H1 a = some (.ins C dx fs) ∧ Cls X.K C ∧ Meth X.K C m g ∧ fs.lookup m = none ∧
      ∀ s1, Inv X pins σ H1 s1 → wpAny (model X.prog X.w) X.A (callWith pos (.ref g) [.ref a] (backTo pos (starEach args X.env)) (backToKw pos (keywordEach [] X.env))) Q X.xe s1)
    (ht : eval (.Call (.Attribute e m apos) args [] pos) X.env = (do
      let ov ← eval e X.env
      standAt apos.atName
      let (f, first) ← holding [ov] (getMethod ov m pl)
      callWith pos f first (backTo pos (starEach args X.env)) (backToKw pos (keywordEach [] X.env)))) :
    wpAny (model X.prog X.w) X.A (eval (.Call (.Attribute e m apos) args [] pos) X.env) Q X.xe s := by
  refine PySem.W.methodCall_KW (pl := pl) (thn (he pins s σ H _ I h) fun u s1 ⟨x, H1, I1, rx, a, C, dx, fs, g, ex, ea, c, k, l, q⟩ => ?_) ht
  subst ex
  obtain rfl : u = Value.ref a := rx
  exact getmeth_ok I1 ea c k l (q s1 I1)
end

/-! ### isinstance -/
section
variable {X : Cx} {pins : List (Addr × Obj)} {σ : St} {H : Hp} {s : Shared} {A : Around} {E : Value → Shared → Prop} {Q : Value → Shared → Prop} {c : Value} {b : Bool}
/-- the type of a value, as the fragment's deciders take it; for an instance its class -/
inductive TyOf (K : PySem.W.Frag) (H : Hp) : V → Value → Prop where
  | non : TyOf K H .non (.type "NoneType")
  | bl (x : Bool) : TyOf K H (.bl x) (.type "bool")
  | int (i : Int) : TyOf K H (.int i) (.type "int")
  | str (x : Str) : TyOf K H (.str x) (.type "str")
  | flt (x : UInt64) : TyOf K H (.flt x) (.type "float")
  | lst {a : Addr} {xs : List V} (e : H a = some (.lst xs)) : TyOf K H (.ref a) (.type "list")
  | frz {a : Addr} {o : Obj} {xs : List V} (e : H a = some (.frz o (.lst xs))) : TyOf K H (.ref a) (.type "list")
  | tup {a : Addr} {xs : List V} (e : H a = some (.tup xs)) : TyOf K H (.ref a) (.type "tuple")
  | dK {a : Addr} {kvs : List (Key × V)} (e : H a = some (.dK kvs)) : TyOf K H (.ref a) (.type "dict")
  | dT {a : Addr} {kvs : List (List Key × V)} (e : H a = some (.dT kvs)) : TyOf K H (.ref a) (.type "dict")
  | ins {a C dx : Addr} {fs : List (Str × V)} (e : H a = some (.ins C dx fs)) (cl : Cls K C) (ha : PySem.W.findIn K (.ref C) "__class__" = some (some (.builtin "object.__class__")))
      (hn : PySem.W.specialIn K (.builtin "object.__class__") "__get__" = some (some (.builtin "getset_descriptor.__get__"))) (htk : PySem.W.takesIn K (.builtin "object.__class__") = some true)
      (hm : PySem.W.mroIn K C (.type "object") = some true) : TyOf K H (.ref a) (.ref C)
/-- isinstance(x, c) for one class c, a built-in or an own one: kitOne's answer -/
theorem isinst_ok {x : V} {u t : Value} (I : Inv X pins σ H s) (rx : RelV x u) (ty : TyOf X.K H x t) (e : PySem.W.kitOne X.K t c = some b) (h : ∀ tk, Q (.bool b) { s with toks := tk }) :
    wpAny (model X.prog X.w) A (call (.builtin "isinstance") [u, c]) Q E s := by
  cases ty with
  | non => cases (show u = Value.none from rx); exact PySem.W.kia_one PySem.W.kitx_none I.kIn True.intro e (fun z => nomatch z) h
  | bl y => cases (show u = Value.bool y from rx); exact PySem.W.kia_one PySem.W.kitx_bool I.kIn True.intro e (fun z => nomatch z) h
  | int i => obtain ⟨t, q⟩ := (show ∃ t, u = Value.int i t from rx); cases q; exact PySem.W.kia_one PySem.W.kitx_int I.kIn True.intro e (fun z => nomatch z) h
  | str y => obtain ⟨t, q⟩ := (show ∃ t, u = Value.str y t from rx); cases q; exact PySem.W.kia_one PySem.W.kitx_str I.kIn True.intro e (fun z => nomatch z) h
  | flt y => obtain ⟨t, q⟩ := (show ∃ t, u = Value.float y t from rx); cases q; exact PySem.W.kia_one PySem.W.kitx_float I.kIn True.intro e (fun z => nomatch z) h
  | @lst a xs ea =>
    cases (show u = Value.ref a from rx)
    obtain ⟨_, _, n, _, h1⟩ := (show ObjOk X.prog X.w H s.heap a (.lst xs) from I.hok a _ ea)
    exact PySem.W.kia_one PySem.W.kitx_list I.kIn ⟨_, h1, rfl⟩ e (fun z => nomatch z) h
  | @frz a ob xs ea =>
    cases (show u = Value.ref a from rx)
    obtain ⟨_, _, _, n, _, h1⟩ := (show ObjOk X.prog X.w H s.heap a (.frz ob (.lst xs)) from I.hok a _ ea)
    exact PySem.W.kia_one PySem.W.kitx_list I.kIn ⟨_, h1, rfl⟩ e (fun z => nomatch z) h
  | @tup a xs ea =>
    cases (show u = Value.ref a from rx)
    obtain ⟨_, _, _, p⟩ := (show ObjOk X.prog X.w H s.heap a (.tup xs) from I.hok a _ ea)
    obtain ⟨o, h1, h2, _⟩ := p
    exact PySem.W.kia_one PySem.W.kitx_tuple I.kIn ⟨o, h1, h2⟩ e (fun z => nomatch z) h
  | @dK a kvs ea =>
    cases (show u = Value.ref a from rx)
    obtain ⟨_, _, vs, _, p⟩ := (show ObjOk X.prog X.w H s.heap a (.dK kvs) from I.hok a _ ea)
    obtain ⟨o, es, ep, h1, h2, _⟩ := p
    exact PySem.W.kia_one PySem.W.kitx_dict I.kIn ⟨o, h1, h2.1⟩ e (fun z => nomatch z) h
  | @dT a kvs ea =>
    cases (show u = Value.ref a from rx)
    obtain ⟨_, _, xs, _, o, es, ep, h1, h2, _⟩ := (show ObjOk X.prog X.w H s.heap a (.dT kvs) from I.hok a _ ea)
    exact PySem.W.kia_one PySem.W.kitx_dict I.kIn ⟨o, h1, h2.1⟩ e (fun z => nomatch z) h
  | @ins a C dx fs ea cl ha hn htk hm =>
    cases (show u = Value.ref a from rx)
    obtain ⟨mA, O, _⟩ := ins_get I.hok ea
    obtain ⟨od, J, _⟩ := O.look
    exact PySem.W.kia_one (PySem.W.kitx_own (cl.get _) cl.hd ha hn htk hm) I.kIn J e (fun z => nomatch z) h
end
end L2

namespace L2
open PySem PySem.Spec PyProof.Rows

/-! ### room -/
structure Room (k : Nat) (A : Around) : Prop where
  hd : A.handled = none
  dp : A.depth + 3 * k + 5 < recursionLimit
  un : A.units + 16 * k + 200 < cLine
theorem Room.mono {j k : Nat} {A : Around} (r : Room k A) (h : j ≤ k) : Room j A := ⟨r.hd, by have := r.dp; omega, by have := r.un; omega⟩
theorem Room.deeper {k : Nat} {A : Around} (r : Room (k + 1) A) (env : Env) : Room k (A.deeper env) :=
  ⟨r.hd, by have := r.dp; show A.depth + 1 + 3 * k + 5 < _; omega, by have := r.un; show A.units + 3 + 16 * k + 200 < _; omega⟩
theorem Room.in1 {k : Nat} {A : Around} (r : Room (k + 1) A) : Room k A.in1 :=
  ⟨r.hd, by have := r.dp; show A.depth + 3 * k + 5 < _; omega, by have := r.un; show A.units + 1 + 16 * k + 200 < _; omega⟩
theorem make_depth {A : Around} {C : Addr} {us : List Value} {kw : List (Str × Value)} : (A.under (.builtin "type.__call__" ⟨.ref C :: us, kw⟩)).depth = A.depth + 1 := by
  first | rfl | simp [Around.under, Code.weight, Code.isCreation, Code.isGuard, Code.isCaller, Code.frames, Code.isFrame, guardIds]
theorem make_units {A : Around} {C : Addr} {us : List Value} {kw : List (Str × Value)} : (A.under (.builtin "type.__call__" ⟨.ref C :: us, kw⟩)).units = A.units + 1 := by
  first | rfl | simp [Around.under, Code.cUnits, Code.frames, Code.isFrame]
theorem Room.make {k : Nat} {A : Around} (r : Room (k + 1) A) (C : Addr) (us : List Value) (kw : List (Str × Value)) : Room k (A.under (.builtin "type.__call__" ⟨.ref C :: us, kw⟩)) :=
  ⟨r.hd, by have := r.dp; rw [make_depth]; omega, by have := r.un; rw [make_units]; omega⟩
theorem Room.depth {k : Nat} {A : Around} (r : Room k A) : A.depth < recursionLimit := by have := r.dp; omega
theorem Room.units {k : Nat} {A : Around} (r : Room k A) : A.units + 64 < cLine := by have := r.un; omega
theorem Room.units0 {k : Nat} {A : Around} (r : Room k A) : A.units < cLine := by have := r.un; omega

/-! ### argument lists and displays -/
def tNil : TA := fun _ H Q => Q [] H
def tCons (ta : TE) (tr : TA) : TA := fun σ H Q => ta σ H fun x H1 => tr σ H1 fun xs H2 => Q (x :: xs) H2
section
variable {X : Cx} {e : Expr} {es : List Expr} {te : TE} {t : TA} {pos : Pos}
theorem pa_nil : PA X [] tNil := fun _ _ _ _ H Q I h => Calls.spliced_nil ⟨[], H, I, .nil, h⟩
theorem pa_cons (ha : PE X e te) (hr : PA X es t) (hs : starEach (e :: es) X.env = (false, eval e X.env) :: starEach es X.env := by rfl) : PA X (e :: es) (tCons te t) := by
  intro pos pins s σ H Q I h
  rw [hs]
  show wpAny _ _ (spliced ((false, eval e X.env) :: backTo pos (starEach es X.env))) _ _ s
  refine Calls.spliced_cons (thn (ha pins s σ H _ I h) fun u s1 ⟨x, H1, I1, r1, q1⟩ => ?_)
  exact thn (hr pos pins s1 σ H1 _ I1 q1) fun us s2 ⟨xs, H2, I2, r2, q2⟩ => ⟨x :: xs, H2, I2, .cons r1 r2, q2⟩

/-- a tuple, a list of written items -/
def tTup (t : TA) : TE := fun σ H Q => t σ H fun xs H1 => xs.length ≤ sizeLine ∧ ∀ p, H1 p = none → Q (.ref p) (upd H1 p (.tup xs))
def tLst (t : TA) : TE := fun σ H Q => t σ H fun xs H1 => xs.length ≤ sizeLine ∧ ∀ p, H1 p = none → Q (.ref p) (upd H1 p (.lst xs))
theorem pe_tup {x1} (h : PA X es t) : PE X (.Tuple es x1 pos) (tTup t) := by
  intro pins s σ H Q I hq
  refine wpAny_Tuple_spliced (thn (h pos pins s σ H _ I hq) fun us s1 ⟨xs, H1, I1, r, z, q⟩ => ⟨by rw [← r.length]; exact z, ?_⟩)
  have hf : H1 s1.heap.objs.size = none := I1.hok.fresh (Nat.le_refl _)
  refine ⟨.ref s1.heap.objs.size, upd H1 s1.heap.objs.size (.tup xs), I1.laid (t' := s1.toks) (fun b u e => Heap.get?_push_of_some _ e) (Nat.le_refl _) ?_, rfl, q _ hf⟩
  exact ⟨z, us, r, ⟨_, Heap.get?_push_size _ rfl, rfl, _, rfl⟩⟩
theorem pe_lst (h : PA X es t) : PE X (.List es pos) (tLst t) := by
  intro pins s σ H Q I hq
  refine wpAny_List_spliced (thn (h pos pins s σ H _ I hq) fun us s1 ⟨xs, H1, I1, r, z, q⟩ => ⟨by rw [← r.length]; exact z, ?_⟩)
  have hf : H1 s1.heap.objs.size = none := I1.hok.fresh (Nat.le_refl _)
  refine ⟨.ref s1.heap.objs.size, upd H1 s1.heap.objs.size (.lst xs), I1.laid (t' := s1.toks) (fun b u e => Heap.get?_push_of_some _ e) (Nat.le_refl _) ?_, rfl, q _ hf⟩
  exact ⟨z, us, 0, r, Heap.get?_push_size _ rfl⟩
end

/-! ### what a def promises -/
/-- a def's promise: the bound arguments in the parameters' order, the heap, the wanted end, the wanted exception -/
abbrev Sp := List V → Hp → VK → XK → Prop
/-- how an exception lies behind a call (file 08 gives it): the callers' frames, abstract heap and state ahead of the call, the wish, the exception, the state -/
abbrev CXT := List Env → Hp → Shared → XK → Value → Shared → Prop

/-- the state at a call -/
structure Env0 (P : Program) (w : World) (K : PySem.W.Frag) (mg : Str → Option Value) (base : Heap) (A : Around) (outer : List Env) (s : Shared) (H : Hp) : Prop where
  frames : A.frames = some outer
  mod : Mod K mg base
  bs : ∀ b o, base.get? b = some o → s.heap.get? b = some o ∧ H b = none
  bsz : base.objs.size ≤ s.heap.objs.size
  funs : s.heap.FunFrames base outer
  frf : ∀ b ∈ frs outer, H b = none
  hok : HOk P w H s.heap
  bare : AllBare s.gens
/-- a call's end -/
def CE (outer : List Env) (P : Program) (w : World) (H : Hp) (s : Shared) (Q : VK) (u : Value) (s' : Shared) : Prop :=
  ∃ v H', s'.os = s.os ∧ AllBare s'.gens ∧ Un (frs outer) [] H H' s.heap s'.heap ∧ HOk P w H' s'.heap ∧ RelV v u ∧ Q v H'
def CR (CX : CXT) (outer : List Env) (P : Program) (w : World) (H : Hp) (s : Shared) (Q : VK) (E : XK) (r : Result) (s' : Shared) : Prop :=
  match r with
  | .ok (.ret u) => CE outer P w H s Q u s'
  | .ok _ => False
  | .error e => CX outer H s E e s'
structure FnOk (P : Program) (w : World) (K : PySem.W.Frag) (mg : Str → Option Value) (base : Heap) (CX : CXT) (k : Nat) (f : Addr) (fd : FuncData) (ps : List Str) (sp : Sp) : Prop where
  len : ∀ vs H Q E, sp vs H Q E → vs.length = ps.length
  run : ∀ (A : Around) (outer : List Env) (s : Shared) (H : Hp) (args : Args) (us : List Value) (vs : List V) (Q : VK) (E : XK), Room k A → Env0 P w K mg base A outer s H → BindsTo s fd args (ps.zip us) → Vals vs us → sp vs H Q E →
    codeAny (model P w) A (.call (.ref f) args) (CR CX outer P w H s Q E) s
theorem FnOk.mono {P : Program} {w : World} {K : PySem.W.Frag} {mg : Str → Option Value} {base : Heap} {CX : CXT} {j k : Nat} {f : Addr} {fd : FuncData} {ps : List Str} {sp : Sp} (F : FnOk P w K mg base CX j f fd ps sp) (h : j ≤ k) :
    FnOk P w K mg base CX k f fd ps sp := ⟨F.len, fun A outer s H args us vs Q E hr => F.run A outer s H args us vs Q E (hr.mono h)⟩
/-- a weaker promise -/
theorem FnOk.imp {P : Program} {w : World} {K : PySem.W.Frag} {mg : Str → Option Value} {base : Heap} {CX : CXT} {k : Nat} {f : Addr} {fd : FuncData} {ps : List Str} {sp sp' : Sp} (F : FnOk P w K mg base CX k f fd ps sp)
    (h : ∀ vs H Q E, sp' vs H Q E → sp vs H Q E) : FnOk P w K mg base CX k f fd ps sp' :=
  ⟨fun vs H Q E q => F.len vs H Q E (h _ _ _ _ q), fun A outer s H args us vs Q E hr he hb hv hs => F.run A outer s H args us vs Q E hr he hb hv (h _ _ _ _ hs)⟩

theorem Env0.make {P : Program} {w : World} {K : PySem.W.Frag} {mg : Str → Option Value} {base : Heap} {A : Around} {outer : List Env} {s : Shared} {H : Hp} (e : Env0 P w K mg base A outer s H) (C : Addr) (us : List Value) (kw : List (Str × Value)) :
    Env0 P w K mg base (A.under (.builtin "type.__call__" ⟨.ref C :: us, kw⟩)) outer s H := ⟨by first | exact e.frames | (simpa [Around.under, Code.envs, Code.isFrame, pushEnvs] using e.frames), e.mod, e.bs, e.bsz, e.funs, e.frf, e.hok, e.bare⟩
theorem Env0.in1 {P : Program} {w : World} {K : PySem.W.Frag} {mg : Str → Option Value} {base : Heap} {A : Around} {outer : List Env} {s : Shared} {H : Hp} (e : Env0 P w K mg base A outer s H) :
    Env0 P w K mg base A.in1 outer s H := ⟨e.frames, e.mod, e.bs, e.bsz, e.funs, e.frf, e.hok, e.bare⟩

section
variable {X : Cx} {pins : List (Addr × Obj)} {σ : St} {H : Hp} {s s' : Shared}
/-- from a body: what a callee wants -/
theorem Inv.env0 (I : Inv X pins σ H s) : Env0 X.prog X.w X.K X.mg X.base X.A X.stack s H :=
  ⟨I.ok.frames, I.ok.mod, I.bs, Nat.le_trans I.ok.bsz I.sz, I.stack, I.stkFree, I.hok, I.bare⟩
/-- behind a call -/
theorem Inv.after {Q : VK} {u : Value} (I : Inv X pins σ H s) (h : CE X.stack X.prog X.w H s Q u s') : EP X pins σ Q u s' := by
  obtain ⟨v, H', os, bare, un, hok, r, q⟩ := h
  obtain ⟨hh, g, d, t, os'⟩ := s'
  obtain rfl : os' = s.os := os
  exact ⟨v, H', I.call (h' := hh) (g' := g) (d' := d) (t' := t) (ch := []) un hok bare (fun b z => absurd z (by simp)), r, q⟩
end

/-! ### calls -/
/-- f(..): the written arguments, then the defaults dvs; E: what is wanted of an exception -/
def tCall (sp : Sp) (dvs : List V) (E : XK) (t : TA) : TE := fun σ H Q => t σ H fun vs H1 => sp (vs ++ dvs) H1 Q E
/-- o.m(..) of an instance of the class at C -/
def tMeth (C : Addr) (m : Str) (sp : Sp) (dvs : List V) (E : XK) (ta : TE) (t : TA) : TE := fun σ H Q => ta σ H fun x H1 => ∃ a dx fs, x = .ref a ∧ H1 a = some (.ins C dx fs) ∧ fs.lookup m = none ∧
  t σ H1 fun vs H2 => sp (x :: (vs ++ dvs)) H2 Q E
/-- C(..): a new instance and its dict, then __init__ -/
def tMake (C : Addr) (sp : Sp) (dvs : List V) (E : XK) (t : TA) : TE := fun σ H Q => t σ H fun vs H1 => ∀ x dx, H1 x = none → H1 dx = none → dx ≠ x →
  sp (.ref x :: (vs ++ dvs)) (upd (upd H1 dx (.own x)) x (.ins C dx [])) (fun v H2 => v = .non ∧ Q (.ref x) H2) E

/-- how the parameters are bound: us the positional arguments, kw the keywords' values by name, ds the defaults that fill up -/
def Binds (K : PySem.W.Frag) (fd : FuncData) (ps : List Str) (ds : List Value) : Prop :=
  ∀ (s : Shared) (us : List Value), K.In s.heap → (us ++ ds).length = ps.length → BindsTo s fd ⟨us, []⟩ (ps.zip (us ++ ds))
/-- every parameter is given -/
theorem Binds.all {K : PySem.W.Frag} {fd : FuncData} {ps : List Str} (h : ∀ us : List Value, us.length = ps.length → bindArgs fd ⟨us, []⟩ = pure (ps.zip us)) : Binds K fd ps [] := fun s us _ hl => by
  rw [List.append_nil] at hl ⊢
  exact .of_eq (h us hl)

/-- an exception of a callee reaches what this body wants of exceptions -/
def Passes (CX : CXT) (X : Cx) (E : XK) : Prop := ∀ (pins : List (Addr × Obj)) (σ : St) (H : Hp) (s : Shared) (e : Value) (s' : Shared), Inv X pins σ H s → CX X.stack H s E e s' → X.xe e s'

section
variable {X : Cx} {CX : CXT} {k : Nat} {f C : Addr} {fd : FuncData} {ps : List Str} {sp : Sp} {dvs : List V} {ds : List Value} {E : XK} {x m : Str} {p pos apos : Pos} {e o : Expr} {es : List Expr} {ta : TE} {t : TA}

/-- the callee runs -/
theorem run_fn {pins : List (Addr × Obj)} {σ : St} {H : Hp} {s : Shared} {Q : VK} {us : List Value} {vs : List V} (F : FnOk X.prog X.w X.K X.mg X.base CX k f fd ps sp) (hr : Room k X.A) (hb : Binds X.K fd ps ds) (hd : Vals dvs ds) (hx : Passes CX X E)
    (I : Inv X pins σ H s) (r : Vals vs us) (h : sp (vs ++ dvs) H Q E) : wpAny (model X.prog X.w) X.A (call (.ref f) us) (EP X pins σ Q) X.xe s := by
  have r2 : Vals (vs ++ dvs) (us ++ ds) := r.append hd
  have hl : (us ++ ds).length = ps.length := by rw [← r2.length]; exact F.len _ _ _ _ h
  refine wpAny_call (codeAny_mono (F.run X.A X.stack s H ⟨us, []⟩ (us ++ ds) (vs ++ dvs) Q E hr I.env0 (hb s us I.kIn hl) r2 h) fun r s' hq => ?_)
  cases r with
  | error e => exact hx pins σ H s e s' I hq
  | ok fl =>
    cases fl with
    | ret u => exact I.after hq
    | next => exact False.elim hq
    | brk => exact False.elim hq
    | cont => exact False.elim hq

theorem pe_call (F : FnOk X.prog X.w X.K X.mg X.base CX k f fd ps sp) (hr : Room k X.A) (hg : Gl X x) (hm : X.mg x = some (.ref f)) (hk : PySem.W.keepIn X.K (.ref f) = true) (hb : Binds X.K fd ps ds) (hd : Vals dvs ds) (hx : Passes CX X E)
    (ha : PA X (e :: es) t) (hdb : (x == ("__debug__" : Str)) = false := by decide) (he : starEach (e :: es) X.env = (false, eval e X.env) :: starEach es X.env := by rfl) (hpl : (backTo pos (starEach es X.env)).any (·.1) = false := by rfl) :
    PE X (.Call (.Name x p) (e :: es) [] pos) (tCall sp dvs E t) := by
  intro pins s σ H Q I h
  refine wpAny_Call_Name_kw (ld_glob I hg hm ?_ hdb)
  refine PySem.W.callWith_K (h₀ := X.base) I.ok.mod.kin hk (thn (ha pos pins s σ H _ I h) fun us s1 ⟨vs, H1, I1, r, q⟩ => ⟨I1.kIn, ?_⟩) he hpl
  exact run_fn F hr hb hd hx I1 r q
theorem pe_call0 (F : FnOk X.prog X.w X.K X.mg X.base CX k f fd ps sp) (hr : Room k X.A) (hg : Gl X x) (hm : X.mg x = some (.ref f)) (hk : PySem.W.keepIn X.K (.ref f) = true) (hb : Binds X.K fd ps ds) (hd : Vals dvs ds) (hx : Passes CX X E)
    (hdb : (x == ("__debug__" : Str)) = false := by decide) : PE X (.Call (.Name x p) [] [] pos) (tCall sp dvs E tNil) := by
  intro pins s σ H Q I h
  refine wpAny_Call_Name_kw (ld_glob I hg hm ?_ hdb)
  exact PySem.W.callWith_K0 I.kIn hk (run_fn (us := []) F hr hb hd hx I .nil h)

/-- o.m(e, ..) -/
theorem pe_meth {pl : Sem Bool} (he : PE X o ta) (c : Cls X.K C) (hm : Meth X.K C m f) (F : FnOk X.prog X.w X.K X.mg X.base CX k f fd ps sp) (hr : Room k X.A) (hb : Binds X.K fd ps ds) (hd : Vals dvs ds) (hx : Passes CX X E) (ha : PA X (e :: es) t)
    (hst : starEach (e :: es) X.env = (false, eval e X.env) :: starEach es X.env := by rfl) (hpl : (backTo pos (starEach es X.env)).any (·.1) = false := by rfl)
    (ht : eval (.Call (.Attribute o m apos) (e :: es) [] pos) X.env = (do
      let ov ← eval o X.env
      standAt apos.atName
      let (f, first) ← holding [ov] (getMethod ov m pl)
      callWith pos f first (backTo pos (starEach (e :: es) X.env)) (backToKw pos (keywordEach [] X.env))) := by rfl) :
    PE X (.Call (.Attribute o m apos) (e :: es) [] pos) (tMeth C m sp dvs E ta t) := by
  intro pins s σ H Q I h
  refine PySem.W.methodCall_KW (pl := pl) (thn (he pins s σ H _ I h) fun u s1 ⟨x, H1, I1, rx, a, dx, fs, ex, ea, l, q⟩ => ?_) ht
  subst ex
  obtain rfl : u = Value.ref a := rx
  refine getmeth_ok I1 ea c hm l ?_
  refine PySem.W.callWith_K (first := [.ref a]) (h₀ := X.base) I.ok.mod.kin hm.kp (thn (ha pos pins s1 σ H1 _ I1 q) fun us s2 ⟨vs, H2, I2, r, q2⟩ => ⟨I2.kIn, ?_⟩) hst hpl
  exact run_fn (us := .ref a :: us) (vs := .ref a :: vs) F hr hb hd hx I2 (.cons rfl r) q2
/-- o.m() -/
theorem pe_meth0 {pl : Sem Bool} (he : PE X o ta) (c : Cls X.K C) (hm : Meth X.K C m f) (F : FnOk X.prog X.w X.K X.mg X.base CX k f fd ps sp) (hr : Room k X.A) (hb : Binds X.K fd ps ds) (hd : Vals dvs ds) (hx : Passes CX X E)
    (ht : eval (.Call (.Attribute o m apos) [] [] pos) X.env = (do
      let ov ← eval o X.env
      standAt apos.atName
      let (f, first) ← holding [ov] (getMethod ov m pl)
      callWith pos f first (backTo pos (starEach [] X.env)) (backToKw pos (keywordEach [] X.env))) := by rfl) :
    PE X (.Call (.Attribute o m apos) [] [] pos) (tMeth C m sp dvs E ta tNil) := by
  intro pins s σ H Q I h
  refine PySem.W.methodCall_KW (pl := pl) (thn (he pins s σ H _ I h) fun u s1 ⟨x, H1, I1, rx, a, dx, fs, ex, ea, l, q⟩ => ?_) ht
  subst ex
  obtain rfl : u = Value.ref a := rx
  refine getmeth_ok I1 ea c hm l ?_
  exact PySem.W.callWith_K0 (first := [.ref a]) I1.kIn hm.kp (run_fn (us := [.ref a]) (vs := [.ref a]) F hr hb hd hx I1 (.cons rfl .nil) q)

/-- what a class must have to be made -/
structure Mk (K : PySem.W.Frag) (C f : Addr) : Prop where
  makes : PySem.W.makesIn K C = true
  init : PySem.W.findIn K (.ref C) "__init__" = some (some (.ref f))
  fn : PySem.W.isFn K (.ref f) = true
  kp : PySem.W.keepIn K (.ref C) = true

theorem run_make {pins : List (Addr × Obj)} {σ : St} {H : Hp} {s : Shared} {Q : VK} {us : List Value} {vs : List V} (M : Mk X.K C f) (F : FnOk X.prog X.w X.K X.mg X.base CX k f fd ps sp) (hr : Room (k + 1) X.A) (hb : Binds X.K fd ps ds) (hd : Vals dvs ds)
    (hx : Passes CX X E) (I : Inv X pins σ H s) (r : Vals vs us)
    (h : ∀ x dx, H x = none → H dx = none → dx ≠ x → sp (.ref x :: (vs ++ dvs)) (upd (upd H dx (.own x)) x (.ins C dx [])) (fun v H2 => v = .non ∧ Q (.ref x) H2) E) :
    wpAny (model X.prog X.w) X.A (call (.ref C) us) (EP X pins σ Q) X.xe s := by
  have hq := h (s.heap.objs.size + 1) s.heap.objs.size (I.hok.fresh (Nat.le_succ _)) (I.hok.fresh (Nat.le_refl _)) (Nat.ne_of_lt (Nat.lt_succ_self _))
  have I2 := Inv.made (C := C) I
  have r2 : Vals (V.ref (s.heap.objs.size + 1) :: (vs ++ dvs)) (Value.ref (s.heap.objs.size + 1) :: (us ++ ds)) := .cons rfl (r.append hd)
  have hl : (Value.ref (s.heap.objs.size + 1) :: us ++ ds).length = ps.length := by
    have e := r2.length
    rw [F.len _ _ _ _ hq] at e
    exact e.symm
  refine wpAny_call (make_map (f := f) I.kIn M.makes M.init (beq_iff_eq.mp M.fn) (codeAny_mono (F.run _ X.stack _ _ ⟨Value.ref (s.heap.objs.size + 1) :: us, []⟩ (Value.ref (s.heap.objs.size + 1) :: (us ++ ds)) _ _ E (hr.make C us [])
    (I2.env0.make C us []) (hb _ (Value.ref (s.heap.objs.size + 1) :: us) I2.kIn hl) r2 hq) fun r s' hq' => ?_))
  cases r with
  | error e => exact hx pins σ _ _ e s' I2 hq'
  | ok fl =>
    cases fl with
    | ret u =>
      obtain ⟨v, H', I3, rv, ev, q3⟩ := I2.after hq'
      subst ev
      exact ⟨rv, ⟨V.ref (s.heap.objs.size + 1), H', I3, rfl, q3⟩⟩
    | next => exact False.elim hq'
    | brk => exact False.elim hq'
    | cont => exact False.elim hq'
theorem pe_make (M : Mk X.K C f) (F : FnOk X.prog X.w X.K X.mg X.base CX k f fd ps sp) (hr : Room (k + 1) X.A) (hg : Gl X x) (hm : X.mg x = some (.ref C)) (hb : Binds X.K fd ps ds) (hd : Vals dvs ds) (hx : Passes CX X E)
    (ha : PA X (e :: es) t) (hdb : (x == ("__debug__" : Str)) = false := by decide) (he : starEach (e :: es) X.env = (false, eval e X.env) :: starEach es X.env := by rfl) (hpl : (backTo pos (starEach es X.env)).any (·.1) = false := by rfl) :
    PE X (.Call (.Name x p) (e :: es) [] pos) (tMake C sp dvs E t) := by
  intro pins s σ H Q I h
  refine wpAny_Call_Name_kw (ld_glob I hg hm ?_ hdb)
  refine PySem.W.callWith_K (h₀ := X.base) I.ok.mod.kin M.kp (thn (ha pos pins s σ H _ I h) fun us s1 ⟨vs, H1, I1, r, q⟩ => ⟨I1.kIn, ?_⟩) he hpl
  exact run_make M F hr hb hd hx I1 r q
theorem pe_make0 (M : Mk X.K C f) (F : FnOk X.prog X.w X.K X.mg X.base CX k f fd ps sp) (hr : Room (k + 1) X.A) (hg : Gl X x) (hm : X.mg x = some (.ref C)) (hb : Binds X.K fd ps ds) (hd : Vals dvs ds) (hx : Passes CX X E)
    (hdb : (x == ("__debug__" : Str)) = false := by decide) : PE X (.Call (.Name x p) [] [] pos) (tMake C sp dvs E tNil) := by
  intro pins s σ H Q I h
  refine wpAny_Call_Name_kw (ld_glob I hg hm ?_ hdb)
  exact PySem.W.callWith_K0 I.kIn M.kp (run_make (us := []) M F hr hb hd hx I .nil h)
end

/-! ### keywords -/
/-- the values of the keywords, from the left -/
def PK (X : Cx) (kws : List Keyword) (t : TA) : Prop :=
  ∀ (pos : Pos) (pins : List (Addr × Obj)) (s : Shared) (σ : St) (H : Hp) (Q : List V → Hp → Prop), Inv X pins σ H s → t σ H Q → wpAny (model X.prog X.w) X.A (evalAll ((backToKw pos (keywordEach kws X.env)).map (·.2))) (AP X pins σ Q) X.xe s
section
variable {X : Cx} {CX : CXT} {k : Nat} {f C : Addr} {fd : FuncData} {ps ks : List Str} {sp : Sp} {E : XK} {x m : Str} {p pos apos kpos : Pos} {e o : Expr} {es : List Expr} {kws : List Keyword} {te ta : TE} {t tk : TA} {nm : Option Str}
theorem pk_nil : PK X [] tNil := fun _ _ _ _ H Q I h => wpAny_evalAll_nil ⟨[], H, I, .nil, h⟩
theorem pk_cons (ha : PE X e te) (hr : PK X kws t) : PK X (⟨nm, e, kpos⟩ :: kws) (tCons te t) := by
  intro pos pins s σ H Q I h
  show wpAny _ _ (evalAll ((do let v ← eval e X.env; standAt pos; pure v) :: (backToKw pos (keywordEach kws X.env)).map (·.2))) _ _ s
  refine wpAny_evalAll_cons (wpAny_bind (thn (ha pins s σ H _ I h) fun u s1 ⟨x, H1, I1, r1, q1⟩ => wpAny_bind (wpAny_standAt (wpAny_pure ?_))))
  exact thn (hr pos pins s1 σ H1 _ I1 q1) fun us s2 ⟨xs, H2, I2, r2, q2⟩ => ⟨x :: xs, H2, I2, .cons r1 r2, q2⟩

/-- how a call with keywords binds: g puts the positional values us and the keywords' values ws (names ks) in the parameters' order, defaults among them -/
structure KBinds (K : PySem.W.Frag) (fd : FuncData) (ps ks : List Str) (g : List Value → List Value → List Value) (gV : List V → List V → List V) : Prop where
  to : ∀ (s : Shared) (us ws : List Value), K.In s.heap → (g us ws).length = ps.length → BindsTo s fd ⟨us, ks.zip ws⟩ (ps.zip (g us ws))
  rel : ∀ {vs : List V} {us : List Value} {zs : List V} {ws : List Value}, Vals vs us → Vals zs ws → Vals (gV vs zs) (g us ws)
def tCallK (sp : Sp) (gV : List V → List V → List V) (E : XK) (t tk : TA) : TE := fun σ H Q => t σ H fun vs H1 => tk σ H1 fun zs H2 => sp (gV vs zs) H2 Q E
variable {g : List Value → List Value → List Value} {gV : List V → List V → List V}
theorem run_fnk {pins : List (Addr × Obj)} {σ : St} {H : Hp} {s : Shared} {Q : VK} {us ws : List Value} {vs zs : List V} (F : FnOk X.prog X.w X.K X.mg X.base CX k f fd ps sp) (hr : Room k X.A) (hb : KBinds X.K fd ps ks g gV) (hx : Passes CX X E)
    (I : Inv X pins σ H s) (r : Vals vs us) (rz : Vals zs ws) (h : sp (gV vs zs) H Q E) : wpAny (model X.prog X.w) X.A (call (.ref f) us (ks.zip ws)) (EP X pins σ Q) X.xe s := by
  have r2 := hb.rel r rz
  have hl : (g us ws).length = ps.length := by rw [← r2.length]; exact F.len _ _ _ _ h
  refine wpAny_call (codeAny_mono (F.run X.A X.stack s H ⟨us, ks.zip ws⟩ (g us ws) (gV vs zs) Q E hr I.env0 (hb.to s us ws I.kIn hl) r2 h) fun r s' hq => ?_)
  cases r with
  | error e => exact hx pins σ H s e s' I hq
  | ok fl =>
    cases fl with
    | ret u => exact I.after hq
    | next => exact False.elim hq
    | brk => exact False.elim hq
    | cont => exact False.elim hq
/-- f(e, .., k = v, ..) -/
theorem pe_callK (F : FnOk X.prog X.w X.K X.mg X.base CX k f fd ps sp) (hr : Room k X.A) (hg : Gl X x) (hm : X.mg x = some (.ref f)) (hk : PySem.W.keepIn X.K (.ref f) = true) (hb : KBinds X.K fd ps ks g gV) (hx : Passes CX X E)
    (ha : PA X (e :: es) t) (hkw : PK X kws tk) (hall : (backToKw pos (keywordEach kws X.env)).all (·.1.isSome) = true := by rfl) (hks : (backToKw pos (keywordEach kws X.env)).filterMap (·.1) = ks := by rfl)
    (hdb : (x == ("__debug__" : Str)) = false := by decide) (he : starEach (e :: es) X.env = (false, eval e X.env) :: starEach es X.env := by rfl)
    (hpl : ((backTo pos (starEach (e :: es) X.env)).any (·.1) || (backToKw pos (keywordEach kws X.env)).any (·.1.isNone)) = false := by rfl) :
    PE X (.Call (.Name x p) (e :: es) kws pos) (tCallK sp gV E t tk) := by
  intro pins s σ H Q I h
  refine wpAny_Call_Name_kw (ld_glob I hg hm ?_ hdb)
  refine PySem.W.callWith_KW (h₀ := X.base) I.ok.mod.kin hk hall (thn (ha pos pins s σ H _ I h) fun us s1 ⟨vs, H1, I1, r, q⟩ => ?_) hpl he
  refine thn (hkw pos pins s1 σ H1 _ I1 q) fun ws s2 ⟨zs, H2, I2, rz, q2⟩ => ⟨I2.kIn, ?_⟩
  rw [hks]
  exact run_fnk F hr hb hx I2 r rz q2
end

/-! ### a def's body keeps its promise -/
/-- names: the parameters first -/
structure FnScope (N P : List Str) (sc : Scope) : Prop where
  kind : sc.kind = .function
  co : sc.isCoroutine = false
  gen : sc.isGenerator = false
  nd : N.Nodup
  pre : N.take P.length = P
  par : ∀ x ∈ P, sc.names.lookup x = some .local ∨ sc.names.lookup x = some .cell
  nofree : ∀ y ∈ sc.names, y.2 ≠ .free

theorem bindL_out {kindOf : Str → Option NameKind} {x : Str} : ∀ {binds : List (Str × Value)} {m : Str → Option Value}, (∀ v, (x, v) ∉ binds) → bindL kindOf binds m x = m x
  | [], _, _ => rfl
  | (n, v) :: r, m, h => by
    unfold bindL
    rw [bindL_out fun w hw => h w (List.mem_cons_of_mem _ hw)]
    split
    · have : x ≠ n := by rintro rfl; exact h v List.mem_cons_self
      simp [this]
    · rfl
theorem bindC_out {kindOf : Str → Option NameKind} {x : Str} : ∀ {binds : List (Str × Value)} {m : Str → Option Value}, (∀ v, (x, v) ∉ binds) → bindC kindOf binds m x = m x
  | [], _, _ => rfl
  | (n, v) :: r, m, h => by
    unfold bindC
    rw [bindC_out fun w hw => h w (List.mem_cons_of_mem _ hw)]
    split
    · rfl
    · have : x ≠ n := by rintro rfl; exact h v List.mem_cons_self
      simp [this]
theorem bindL_get {kindOf : Str → Option NameKind} {x : Str} {v : Value} : ∀ {P : List Str} {vs : List Value} {i : Nat} {m : Str → Option Value}, P.Nodup → P[i]? = some x → vs[i]? = some v → kindOf x = some .local →
    bindL kindOf (P.zip vs) m x = some v
  | [], _, _, _, _, h, _, _ => by simp at h
  | _ :: _, [], _, _, _, _, h, _ => by simp at h
  | p :: P, w :: vs, 0, m, nd, h1, h2, hk => by
    simp at h1 h2; subst h1; subst h2
    show bindL kindOf ((p, w) :: P.zip vs) m p = _
    unfold bindL
    rw [bindL_out fun v hv => (List.nodup_cons.mp nd).1 (List.of_mem_zip hv).1, if_pos hk]
    simp
  | p :: P, w :: vs, i + 1, m, nd, h1, h2, hk => by
    show bindL kindOf ((p, w) :: P.zip vs) m x = _
    unfold bindL
    exact bindL_get (i := i) (List.nodup_cons.mp nd).2 (by simpa using h1) (by simpa using h2) hk
theorem bindC_get {kindOf : Str → Option NameKind} {x : Str} {v : Value} : ∀ {P : List Str} {vs : List Value} {i : Nat} {m : Str → Option Value}, P.Nodup → P[i]? = some x → vs[i]? = some v → kindOf x ≠ some .local →
    bindC kindOf (P.zip vs) m x = some v
  | [], _, _, _, _, h, _, _ => by simp at h
  | _ :: _, [], _, _, _, _, h, _ => by simp at h
  | p :: P, w :: vs, 0, m, nd, h1, h2, hk => by
    simp at h1 h2; subst h1; subst h2
    show bindC kindOf ((p, w) :: P.zip vs) m p = _
    unfold bindC
    rw [bindC_out fun v hv => (List.nodup_cons.mp nd).1 (List.of_mem_zip hv).1, if_neg hk]
    simp
  | p :: P, w :: vs, i + 1, m, nd, h1, h2, hk => by
    show bindC kindOf ((p, w) :: P.zip vs) m x = _
    unfold bindC
    exact bindC_get (i := i) (List.nodup_cons.mp nd).2 (by simpa using h1) (by simpa using h2) hk

/-- the names' values at the entry -/
def start (N : List Str) (vs : List V) : St := vs.map some ++ List.replicate (N.length - vs.length) none

/-- the context of a def's body, at its entry; an exception leaves the frame, then lies as CX says -/
def cxOf (CX : CXT) (P : Program) (w : World) (K : PySem.W.Frag) (mg : Str → Option Value) (base : Heap) (N : List Str) (qual : Str) (scope : Scope) (f : Addr) (cd : Value) (A : Around) (outer : List Env) (s : Shared) (H : Hp) (E : XK) : Cx where
  prog := P
  w := w
  K := K
  mg := mg
  base := base
  A := A.deeper (envOfC qual scope s.heap.objs.size f cd)
  N := N
  s₀ := s
  H₀ := H
  env := envOfC qual scope s.heap.objs.size f cd
  outer := outer
  stack := envOfC qual scope s.heap.objs.size f cd :: outer
  ex := []
  calm := true
  fn := fun _ => true
  pn := []
  xe := fun e s' => wpAny (model P w) (A.deeper (envOfC qual scope s.heap.objs.size f cd)) (leaving (envOfC qual scope s.heap.objs.size f cd) e) (fun _ s'' => CX outer H s E e s'') (fun e' s'' => CX outer H s E e' s'') s'

theorem cell_has {sc : Scope} {n : Nat} {x : Str} (h : sc.names.lookup x = some .cell) : ∃ c, (cellsFrom n sc.names []).lookup x = some c := by
  have q := PySem.W.cellsFrom_some sc.names n [] (.inl h)
  exact Option.isSome_iff_exists.mp q

theorem inv_start {CX : CXT} {P : Program} {w : World} {K : PySem.W.Frag} {mg : Str → Option Value} {base : Heap} {N ps : List Str} {qual : Str} {scope : Scope} {f : Addr} {cd : Value} {A : Around} {outer : List Env} {s s1 : Shared} {H : Hp} {E : XK} {us : List Value} {vs : List V}
    (S : FnScope N ps scope) (hd : A.handled = none) (e0 : Env0 P w K mg base A outer s H) (hl : vs.length = ps.length) (r : Vals vs us)
    (x : InCallC s s.heap.objs.size (bindL (envOfC qual scope s.heap.objs.size f cd).kindOf (ps.zip us) fun _ => none) (cellsFrom (s.heap.objs.size + 1) scope.names []) (bindC (envOfC qual scope s.heap.objs.size f cd).kindOf (ps.zip us) fun _ => none) s1) :
    Inv (cxOf CX P w K mg base N qual scope f cd A outer s H E) [] (start N vs) H s1 := by
  have hpl : ps.length ≤ N.length := by have := congrArg List.length S.pre; rw [List.length_take] at this; omega
  obtain ⟨h1, tk, rfl, hk⟩ := x.done
  have noA : ∀ b : Addr, b ∉ (cxOf CX P w K mg base N qual scope f cd A outer s H E).ex := fun b z => absurd (show b ∈ ([] : List Addr) from z) (by simp)
  refine ⟨⟨e0.mod, S.kind, rfl, rfl, Nat.le_refl _, fun y z c h1 h2 => ?_, fun y hy => ?_, fun y c _ h => ?_, fun _ => hd, Around.frames_deeper e0.frames, .inr ⟨rfl, rfl⟩, fun b z => absurd z (noA b), e0.bs, e0.bsz, fun b _ _ => noA b, fun b z => absurd z (noA b), e0.funs, e0.frf⟩,
    rfl, e0.bare, Un.kept hk, ⟨_, x.toInCall.ns, fun i y v h1 h2 h3 => ?_⟩, fun y c h => ⟨_, x.cell y c h⟩, e0.hok.fresh (Nat.le_refl _), fun y c h => ?_, fun p hp => absurd (show p ∈ ([] : List (Addr × Obj)) from hp) (by simp), e0.hok.kept hk, ?_⟩
  · exact name_of_addr x.apart (PySem.mem_of_lookup h1) (PySem.mem_of_lookup h2)
  · have hy : scope.names.lookup y = some .cell ∨ scope.names.lookup y = some .free := hy
    rcases hy with hy | hy
    · exact cell_has hy
    · exact absurd rfl (S.nofree _ (PySem.mem_of_lookup hy))
  · exact Nat.le_of_lt (x.above y c (PySem.mem_of_lookup h))
  · have hi : i < vs.length := by
      unfold start at h2
      by_cases hi : i < vs.length
      · exact hi
      · rw [List.getElem?_append_right (by simpa using hi)] at h2
        rw [List.getElem?_replicate] at h2
        split at h2 <;> cases h2
    have ha : vs[i]? = some v := by
      unfold start at h2
      rw [List.getElem?_append_left (by simpa using hi), List.getElem?_map] at h2
      cases e : vs[i]? with
      | none => rw [e] at h2; cases h2
      | some a => rw [e] at h2; cases h2; rfl
    obtain ⟨u, hu, rv⟩ := r.get ha
    have hp : ps[i]? = some y := by
      rw [← S.pre, List.getElem?_take_of_lt (by omega)]; exact h1
    have ndP : ps.Nodup := by rw [← S.pre]; exact S.nd.sublist (List.take_sublist _ _)
    refine ⟨u, rv, ?_⟩
    rcases S.par y (List.mem_of_getElem? hp) with k | k
    · exact .inl ⟨k, bindL_get ndP hp hu k⟩
    · obtain ⟨c, e⟩ := cell_has (n := s.heap.objs.size + 1) k
      refine .inr ⟨.inl k, c, e, ?_⟩
      have q := x.cell y c e
      rw [bindC_get ndP hp hu (by show scope.names.lookup y ≠ _; rw [k]; decide)] at q
      exact q
  · exact e0.hok.fresh (Nat.le_of_lt (x.above y c (PySem.mem_of_lookup h)))
  · unfold start
    show _ = N.length
    rw [List.length_append, List.length_map, List.length_replicate]
    omega

/-- THE RULE: a def (or a method) of the text, by its body. The body's reading t is chosen for each entry; it is run at the parameters' values -/
theorem fn_of {CX : CXT} {P : Program} {w : World} {K : PySem.W.Frag} {mg : Str → Option Value} {base : Heap} {k : Nat} {f : Addr} {name qual : Str} {params : Arguments} {body : List Stmt} {scope : Scope} {dV kV doc pm cdv ct oc : Value} {an od : Option Addr}
    {osl : Array (Option Value)} {N ps : List Str} {sp : Sp} (lk : K.lookup f = some ⟨oc, od, .func (PySem.W.fnOf name qual params body scope dV kV doc pm an cdv ct), osl⟩) (hcd : PySem.W.codeIn K cdv qual = true) (S : FnScope N ps scope)
    (len : ∀ vs H Q E, sp vs H Q E → vs.length = ps.length)
    (hbody : ∀ (A : Around) (outer : List Env) (s : Shared) (H : Hp) (vs : List V) (Q : VK) (E : XK), Room k (A.deeper (envOfC qual scope s.heap.objs.size f cdv)) → sp vs H Q E →
      ∃ t, PSs (cxOf CX P w K mg base N qual scope f cdv A outer s H E) body t ∧ t { nx := fun _ H' => Q .non H', rt := Q } (start N vs) H) :
    FnOk P w K mg base CX (k + 1) f (PySem.W.fnOf name qual params body scope dV kV doc pm an cdv ct) ps sp := by
  refine ⟨len, fun A outer s H args us vs Q E hr e0 hb r hsp => ?_⟩
  have hl := len _ _ _ _ hsp
  have KX : K.In s.heap := e0.mod.kin.keeps fun b o e => (e0.bs b o e).1
  have lim : s.heap.NoLimit := e0.mod.nolimit.keeps fun b o e => (e0.bs b o e).1
  have hkind : ∀ y ∈ ps.zip us, scope.names.lookup y.1 = some .local ∨ (scope.names.lookup y.1 = some .cell ∧ ((cellsFrom (s.heap.objs.size + 1) scope.names []).lookup y.1).isSome = true) := fun ⟨n, v⟩ hy => by
    rcases S.par n (List.of_mem_zip hy).1 with q | q
    · exact .inl q
    · exact .inr ⟨q, PySem.W.cellsFrom_some _ _ _ (.inl q)⟩
  refine codeAny_call_function hr.depth (KX _ _ lk) rfl S.co S.gen rfl (PySem.W.codeRec_of KX hcd) (hb _ _ _ _ ?_)
  refine wpAny_newFunctionEnv_cells S.kind hkind fun env he s1 x => ?_
  subst he
  refine ⟨lim.keeps x.toInCall.keep, codeAny_func ?_⟩
  obtain ⟨t, ht, hq⟩ := hbody A outer s H vs Q E (hr.deeper _) hsp
  have I : Inv (cxOf CX P w K mg base N qual scope f cdv A outer s H E) [] (start N vs) H s1 := inv_start S hr.hd e0 hl r x
  refine wpAny_mono (ht [] s1 (start N vs) H _ I hq) (fun fl s' hs => ?_) fun e s' hs => hs
  have fin : ∀ {σ' : St} {H' : Hp} {v : V} {u : Value}, Inv (cxOf CX P w K mg base N qual scope f cdv A outer s H E) [] σ' H' s' → RelV v u → Q v H' → CE outer P w H s Q u s' :=
    fun {σ' H' v u} J rv q => ⟨v, H', J.os, J.bare, J.base, J.hok, rv, q⟩
  cases fl with
  | ret u =>
    obtain ⟨v, σ', H', J, rv, q⟩ := hs
    exact fin J rv q
  | next =>
    obtain ⟨σ', H', J, q⟩ := hs
    exact fin (v := V.non) (u := Value.none) J rfl q
  | brk =>
    obtain ⟨_, _, _, q⟩ := hs
    exact False.elim q
  | cont =>
    obtain ⟨_, _, _, q⟩ := hs
    exact False.elim q
end L2

namespace L2
open PySem PySem.Spec PyProof.Rows
section
variable {X : Cx} {x : Str} {p pos : Pos} {e : Expr} {es : List Expr} {t : TA} {id T : String} {r : List V → Hp → VK → Prop}

def tCB (r : List V → Hp → VK → Prop) (t : TA) : TE := fun σ H Q => t σ H fun vs H1 => r vs H1 Q
/-- f(e, ..), f a built-in function -/
theorem pe_callB (hc : CallR X (.builtin id) r) (hg : Gl X x) (hm : X.mg x = none) (hv : bootBuiltins x = some (.builtin id)) (ha : PA X (e :: es) t) (hn : x ≠ "__name__" := by decide) (hdb : (x == ("__debug__" : Str)) = false := by decide)
    (he : starEach (e :: es) X.env = (false, eval e X.env) :: starEach es X.env := by rfl) (hpl : (backTo pos (starEach es X.env)).any (·.1) = false := by rfl) : PE X (.Call (.Name x p) (e :: es) [] pos) (tCB r t) := by
  intro pins s σ H Q I h
  refine wpAny_Call_Name_kw (ld_blt I hg hm hv ?_ hn hdb)
  exact PyProof.Rows.callWith_builtin1 (thn (ha pos pins s σ H _ I h) fun us s1 ⟨vs, H1, I1, r1, q1⟩ => hc pins s1 σ H1 vs us Q I1 r1 q1) he hpl
/-- T(e, ..), T a built-in type -/
theorem pe_callTy (hc : CallR X (.type T) r) (hg : Gl X x) (hm : X.mg x = none) (hv : bootBuiltins x = some (.type T)) (ha : PA X (e :: es) t) (hn : x ≠ "__name__" := by decide) (hdb : (x == ("__debug__" : Str)) = false := by decide)
    (he : starEach (e :: es) X.env = (false, eval e X.env) :: starEach es X.env := by rfl) (hpl : (backTo pos (starEach es X.env)).any (·.1) = false := by rfl) : PE X (.Call (.Name x p) (e :: es) [] pos) (tCB r t) := by
  intro pins s σ H Q I h
  refine wpAny_Call_Name_kw (ld_blt I hg hm hv ?_ hn hdb)
  exact PyProof.Rows.callWith_type1 (thn (ha pos pins s σ H _ I h) fun us s1 ⟨vs, H1, I1, r1, q1⟩ => hc pins s1 σ H1 vs us Q I1 r1 q1) he hpl
/-- T() -/
theorem pe_callTy0 (hc : CallR X (.type T) r) (hg : Gl X x) (hm : X.mg x = none) (hv : bootBuiltins x = some (.type T)) (hn : x ≠ "__name__" := by decide) (hdb : (x == ("__debug__" : Str)) = false := by decide) :
    PE X (.Call (.Name x p) [] [] pos) (tCB r tNil) := by
  intro pins s σ H Q I h
  refine wpAny_Call_Name_kw (ld_blt I hg hm hv ?_ hn hdb)
  exact PyProof.Rows.callWith_type0 (hc pins s σ H [] [] Q I .nil h)
end
end L2

namespace HT
open PySem PyProof.Rows

/-- t < u of tuples of ints -/
def lexLt : List Int → List Int → Bool
  | [], [] => false
  | [], _ :: _ => true
  | _ :: _, [] => false
  | x :: xs, y :: ys => if x = y then lexLt xs ys else decide (x < y)
theorem lexLt_cons (x y : Int) (xs ys : List Int) : lexLt (x :: xs) (y :: ys) = if x = y then lexLt xs ys else decide (x < y) := rfl
theorem lexLt_nil_nil : lexLt [] [] = false := rfl
theorem lexLt_nil_cons (y : Int) (ys : List Int) : lexLt [] (y :: ys) = true := rfl
theorem lexLt_cons_nil (x : Int) (xs : List Int) : lexLt (x :: xs) [] = false := rfl

theorem eqAt_int (A : Around) (s : Shared) (a : Int) (t : Tok) (c : Int) (u : Tok) : ∃ e, SeqAt.EqAt A s (.int a t) (.int c u) e ∧ (e = true ↔ a = c) :=
  ⟨(a == c), SeqAt.EqAt.int_int a t c u, by simp⟩
theorem rcLt_int (A : Around) (s : Shared) (a : Int) (t : Tok) (c : Int) (u : Tok) (prog : Program) (w : World) (E : Value → Shared → Prop) (Q : Value → Shared → Prop) (h : Q (.bool (decide (a < c))) s) :
    wpAny (model prog w) A (richCompare .Lt (.int a t) (.int c u)) Q E s :=
  (PyProof.Rows.lt_int h : wpAny (model prog w) A (compareOp .Lt (.int a t) (.int c u)) Q E s)

section
open PySem.SeqAt
open PySem.AutoSeq1 (wpAny_loadPart')
open PySem.MeetsSeq PySem.MeetsSeq2 PySem.MeetsSeq3

theorem tuple_lt_ints (l b : Addr) (items items2 : Array Value) (n n2 : Nat) (dd dd2 : Option Addr) (sl sl2 : Array (Option Value)) (ns ms : List Int) (hi : IntsAre items.toList ns) (hj : IntsAre items2.toList ms) :
    Meets (Builtin.«tuple.__lt__» ⟨[.ref l, .ref b], []⟩)
      (fun _ R s => s.heap.get? l = some { cls := .type "tuple", dict := dd, data := .seq items n, slots := sl } ∧ s.heap.get? b = some { cls := .type "tuple", dict := dd2, data := .seq items2 n2, slots := sl2 } ∧
        R (.ok (.ret (.bool (lexLt ns ms)))) s) :=
  .of_wp fun prog w A R s h => by
    obtain ⟨hp, g, d, tk, os⟩ := s; obtain ⟨hl, hb, h⟩ := h
    have f2 := AutoSeq1.sub_tuple_tuple
    have z1 : items.size = ns.length := by rw [← hi.length]; simp
    have z2 : items2.size = ms.length := by rw [← hj.length]; simp
    wp_walk using wpAny_loadPart' hl, wpAny_loadPart' hb, wpAny_forIn_list _ (fun rest b s' => b.1 = none ∧ s' = ⟨hp, g, d, tk, os⟩ ∧ ∃ (vs ws : List Value) (ns' ms' : List Int), rest = vs.zip ws ∧
      IntsAre vs ns' ∧ IntsAre ws ms' ∧ ns'.length + items2.size = ms'.length + items.size ∧ R (.ok (.ret (.bool (lexLt ns' ms')))) ⟨hp, g, d, tk, os⟩) _
    case turn =>
      rintro ⟨y, x⟩ rest b s' ⟨hb', rfl, vs, ws, ns', ms', hz, hvi, hwi, hlen, hR⟩
      cases hvi with
      | nil => rw [List.zip_nil_left] at hz; cases hz
      | cons a t hvi' =>
        cases hwi with
        | nil => rw [List.zip_nil_right] at hz; cases hz
        | cons c u hwi' =>
          rw [List.zip_cons_cons] at hz
          injection hz with hyx hrest
          injection hyx with hy hx
          subst hy hx
          rw [lexLt_cons] at hR
          simp only [List.length_cons] at hlen
          obtain ⟨e, he, hiff⟩ := eqAt_int A.in1 ⟨hp, g, d, tk, os⟩ a t c u
          refine wpAny_bind (he prog w _ _ ?_)
          cases e with
          | true =>
            rw [if_pos (hiff.mp rfl)] at hR
            wp_walk
            exact ⟨rfl, rfl, _, _, _, _, hrest, hvi', hwi', by omega, hR⟩
          | false =>
            rw [if_neg (fun q => absurd (hiff.mpr q) Bool.false_ne_true)] at hR
            have hri := rcLt_int A.in1 ⟨hp, g, d, tk, os⟩ a t c u prog w
            wp_walk using hri
            exact ⟨_, rfl, by simpa using hR⟩
    case fin =>
      rintro ⟨b1, b2⟩ s' ⟨hb', rfl, vs, ws, ns', ms', hz, hvi, hwi, hlen, hR⟩
      simp only at hb'
      subst hb'
      have hv : lexLt ns' ms' = decide (items.size < items2.size) := by
        cases hvi with
        | nil =>
          cases hwi with
          | nil =>
            simp only [List.length_nil] at hlen
            rw [lexLt_nil_nil]
            exact (decide_eq_false (by omega)).symm
          | cons c u hw =>
            simp only [List.length_nil, List.length_cons] at hlen
            rw [lexLt_nil_cons]
            exact (decide_eq_true (by omega)).symm
        | cons a t hv =>
          cases hwi with
          | nil =>
            simp only [List.length_nil, List.length_cons] at hlen
            rw [lexLt_cons_nil]
            exact (decide_eq_false (by omega)).symm
          | cons c u hw =>
            rw [List.zip_cons_cons] at hz
            cases hz
      rw [hv] at hR
      wp_walk
      exact ⟨_, rfl, by simpa [Builtin.Tuple.tupleCompareSizes] using hR⟩
    case h =>
      exact ⟨rfl, rfl, items.toList, items2.toList, ns, ms, rfl, hi, hj, by omega, h⟩
end

section
variable {prog : Program} {w : World} {A : Around} {E : Value → Shared → Prop} {s : Shared}

theorem lt_tupInts {l b : Addr} {items items2 : Array Value} {ns ms : List Int} {Q : Value → Shared → Prop} (hl : IsTup s.heap l items) (hb : IsTup s.heap b items2) (hi : IntsAre items.toList ns) (hj : IntsAre items2.toList ms)
    (hu : A.units < cLine) (h : Q (.bool (lexLt ns ms)) s) : wpAny (model prog w) A (compareOp .Lt (.ref l) (.ref b)) Q E s := by
  obtain ⟨⟨cls, dd, data, sl⟩, ho, hc, n, hd⟩ := id hl
  obtain ⟨⟨cls2, dd2, data2, sl2⟩, ho2, hc2, n2, hd2⟩ := id hb
  simp only at hc hd hc2 hd2
  subst hc hd hc2 hd2
  exact richCompare_meets_room (op := .Lt) ⟨_, ho, rfl⟩ ⟨_, ho2, rfl⟩ PySem.F.slot_tuple_lt PySem.F.entry_tuple_lt (PySem.F.args_tuple_lt_2 _ _) (tuple_lt_ints l b items items2 n n2 dd dd2 sl sl2 ns ms hi hj)
    ⟨ho, ho2, show Value.bool (lexLt ns ms) ≠ Value.notImplemented ∧ Q (.bool (lexLt ns ms)) s from ⟨(fun x => nomatch x), h⟩⟩ hu

/-- t + u, t not empty -/
theorem cat_tup {t b : Addr} {vs ws : List Value} {Q : Value → Shared → Prop} (ht : IsTup s.heap t vs.toArray) (hb : IsTup s.heap b ws.toArray) (hv : vs ≠ [])
    (h1 : ws = [] → Q (.ref t) s) (h2 : ws ≠ [] → Q (.ref s.heap.objs.size) { s with heap := s.heap.push { cls := .type "tuple", data := .seq (vs ++ ws).toArray } })
    (hsz : vs.length + ws.length ≤ sizeLine) : wpAny (model prog w) A (binaryOp .Add (.ref t) (.ref b)) Q E s := by
  obtain ⟨⟨cls, dd, data, sl⟩, ho, hc, n, hd⟩ := id ht
  obtain ⟨⟨cls2, dd2, data2, sl2⟩, ho2, hc2, n2, hd2⟩ := id hb
  simp only at hc hd hc2 hd2
  subst hc hd hc2 hd2
  have e : vs.toArray ++ ws.toArray = (vs ++ ws).toArray := by simp
  by_cases hw : ws = []
  · exact concat_meets ⟨_, ho, rfl⟩ ⟨_, ho2, rfl⟩ noFill_tuple_add seq_tuple_add PySem.F.slot_tuple_add PySem.F.entry_tuple_add (PySem.F.args_tuple_add_2 _ _)
      (tuple_addW1 t b vs.toArray ws.toArray n n2 dd dd2 sl sl2 (by simpa using hv) (by simp [hw])) ⟨ho, ho2, h1 hw⟩
  · refine concat_meets ⟨_, ho, rfl⟩ ⟨_, ho2, rfl⟩ noFill_tuple_add seq_tuple_add PySem.F.slot_tuple_add PySem.F.entry_tuple_add (PySem.F.args_tuple_add_2 _ _)
      (tuple_addW2 t b vs.toArray ws.toArray n n2 dd dd2 sl sl2 (by simpa using hv) (by simpa using hw) (by rw [List.size_toArray, List.size_toArray]; exact hsz)) ⟨ho, ho2, ?_⟩
    rw [e]
    exact h2 hw

/-! ### t[a:b], not the whole -/
/-- a slice's bound as a place among n (d where it is left out) -/
def sIx (n d : Nat) : Option Int → Nat
  | none => d
  | some v => if v < 0 then (v + (n : Int)).toNat else min v.toNat n
theorem sIx_none (n d : Nat) : sIx n d none = d := rfl
theorem sIx_nat (n d k : Nat) : sIx n d (some (k : Int)) = min k n := by
  show (if (k : Int) < 0 then ((k : Int) + (n : Int)).toNat else min (k : Int).toNat n) = min k n
  rw [if_neg (by omega), Int.toNat_natCast]
theorem sIx_le (n d : Nat) (hd : d ≤ n) (o : Option Int) : sIx n d o ≤ n := by
  cases o with
  | none => exact hd
  | some v =>
    show (if v < 0 then (v + (n : Int)).toNat else min v.toNat n) ≤ n
    by_cases hv : v < 0
    · rw [if_pos hv]; omega
    · rw [if_neg hv]; exact Nat.min_le_right _ _
theorem clip_eq (v : Int) (n d : Nat) : (if v < 0 then max (v + (n : Int)) 0 else min v (n : Int)) = ((sIx n d (some v) : Nat) : Int) := by
  show (if v < 0 then max (v + (n : Int)) 0 else min v (n : Int)) = (((if v < 0 then (v + (n : Int)).toNat else min v.toNat n) : Nat) : Int)
  by_cases hv : v < 0
  · simp only [if_pos hv]; omega
  · simp only [if_neg hv]; omega
theorem adjust_gen (lo hi : Option Int) (n : Nat) : Builtin.Slice.sliceAdjust lo hi 1 (n : Int) = (((sIx n 0 lo : Nat) : Int), ((sIx n n hi : Nat) : Int)) := by
  have h1 : ¬ ((1 : Int) < 0) := by omega
  unfold Builtin.Slice.sliceAdjust
  simp only [h1, if_false]
  refine Prod.ext ?_ ?_
  · cases lo with
    | none => rfl
    | some v => exact clip_eq v n 0
  · cases hi with
    | none => rfl
    | some v => exact clip_eq v n n
theorem places_gen (i j : Nat) : Builtin.Slice.slicePlaces (i : Int) (j : Int) 1 = j - i := by
  unfold Builtin.Slice.slicePlaces
  have h1 : (1 : Int) > 0 := by omega
  simp only [h1, if_true, Int.ediv_one]
  split <;> omega
theorem slicePart_ {v : Value} {o : Option Int} {Q : Option Int → Shared → Prop} (p : IsPart v o) (h : Q o s) : wpAny (model prog w) A (Builtin.Slice.slicePartIndex v) Q E s := by
  cases p with
  | none => exact slicePart_none h
  | int i t => exact slicePart_int h
theorem sliceApplied_gen {sl : Addr} {vl vu : Value} {lo hi : Option Int} {n : Nat} {Q : Int × Int × Nat → Shared → Prop} (hs : s.heap.IsSliceOf sl vl vu .none) (pl : IsPart vl lo) (pu : IsPart vu hi)
    (h : Q (((sIx n 0 lo : Nat) : Int), 1, sIx n n hi - sIx n 0 lo) s) : wpAny (model prog w) A (Builtin.Slice.sliceApplied (.ref sl) (pure (n : Int))) Q E s := by
  obtain ⟨os, hos, hcs, hds⟩ := id hs
  unfold Builtin.Slice.sliceApplied Builtin.Slice.sliceFields
  refine wpAny_bind (wpAny_bind (wpAny_field hos hds (x := vl) rfl (wpAny_bind (wpAny_field hos hds (x := vu) rfl (wpAny_bind (wpAny_field hos hds (x := .none) rfl (wpAny_pure ?_)))))))
  refine wpAny_bind (slicePart_none ?_)
  show wpAny _ _ (if ((1 : Int) == 0) = true then _ else _) _ _ s
  rw [if_neg (by decide)]
  refine wpAny_bind (slicePart_ pl (wpAny_bind (slicePart_ pu (wpAny_bind (wpAny_pure ?_)))))
  show wpAny _ _ (match Builtin.Slice.sliceAdjust lo hi 1 (n : Int) with | (lo, hi) => pure (lo, (1 : Int), Builtin.Slice.slicePlaces lo hi 1)) _ _ s
  rw [adjust_gen lo hi n]
  show wpAny _ _ (pure (((sIx n 0 lo : Nat) : Int), (1 : Int), Builtin.Slice.slicePlaces ((sIx n 0 lo : Nat) : Int) ((sIx n n hi : Nat) : Int) 1)) _ _ s
  rw [places_gen]
  exact wpAny_pure h
theorem pick_gen (xs : Array Value) (i k : Nat) : ((List.range k).filterMap fun (m : Nat) => xs[((i : Int) + (m : Int) * 1).toNat]?).toArray = ((xs.toList.drop i).take k).toArray := by
  have e : (fun (m : Nat) => xs[((i : Int) + (m : Int) * 1).toNat]?) = fun m => xs[i + m]? := by
    funext m
    have : ((i : Int) + (m : Int) * 1).toNat = i + m := by omega
    rw [this]
  rw [e]
  have := pick_run xs i k
  rw [List.filterMap_map] at this
  have e2 : ((fun x => xs[x]?) ∘ fun x => i + x) = fun m => xs[i + m]? := rfl
  rw [e2] at this
  rw [this]

theorem getItem_tuple_cut {t sl : Addr} {items : Array Value} {vl vu : Value} {lo hi : Option Int} {Q : Value → Shared → Prop} (ht : IsTup s.heap t items) (hs : s.heap.IsSliceOf sl vl vu .none) (pl : IsPart vl lo) (pu : IsPart vu hi)
    (hw : ¬ (sIx items.size 0 lo = 0 ∧ sIx items.size items.size hi = items.size))
    (h : Q (.ref s.heap.objs.size) { s with heap := s.heap.push { cls := .type "tuple", data := .seq ((items.toList.drop (sIx items.size 0 lo)).take (sIx items.size items.size hi - sIx items.size 0 lo)).toArray } })
    (hsz : items.size ≤ sizeLine) : wpAny (model prog w) A (getItem (.ref t) (.ref sl)) Q E s := by
  have htake : sizeOk (.seq ((items.toList.drop (sIx items.size 0 lo)).take (sIx items.size items.size hi - sIx items.size 0 lo)).toArray) := by
    show ((items.toList.drop (sIx items.size 0 lo)).take (sIx items.size items.size hi - sIx items.size 0 lo)).toArray.size ≤ sizeLine
    rw [List.size_toArray, List.length_take, List.length_drop, Array.length_toList]
    omega
  have hj : sIx items.size items.size hi ≤ items.size := sIx_le _ _ (Nat.le_refl _) hi
  obtain ⟨os, hos, hcs, hds⟩ := id hs
  have hTs : s.TypeIs (.ref sl) "slice" := ⟨os, hos, hcs⟩
  unfold getItem
  try with_reducible refine wpAny_holding ?_
  first | refine wpAny_bind (wpAny_pure ?_) | skip
  refine wpAny_bind (wpAny_sequenceKey ht.typeIs (by decide) ?_)
  refine wpAny_bind (wpAny_callSpecial?_slot (name := Str.ofString "__getitem__") ht.typeIs PyProof.Rows.slot_tuple_getitem
    (wpAny_call_entry PyProof.Rows.slot_tuple_getitem ht.typeIs entry_tuple_getitem ?_ (args_tuple_getitem _ _)))
  show wpAny _ _ (Builtin.Tuple.tupleItemsOf (.ref t) >>= _) _ _ s
  refine wpAny_bind (tupleItemsOf_ ht ?_)
  refine wpAny_bind (wpAny_typeOf hTs ?_)
  rw [if_pos (by decide)]
  refine wpAny_bind (sliceApplied_gen hs pl pu ?_)
  have hno : ¬ ((((sIx items.size 0 lo : Nat) : Int) == 0 && (1 : Int) == 1 && (sIx items.size items.size hi - sIx items.size 0 lo) == items.size) = true) := by
    intro q
    rw [Bool.and_eq_true, Bool.and_eq_true] at q
    have q1 : ((sIx items.size 0 lo : Nat) : Int) = 0 := eq_of_beq q.1.1
    have q2 : sIx items.size items.size hi - sIx items.size 0 lo = items.size := eq_of_beq q.2
    exact hw ⟨by omega, by omega⟩
  show wpAny _ _ (if (((sIx items.size 0 lo : Nat) : Int) == 0 && (1 : Int) == 1 && (sIx items.size items.size hi - sIx items.size 0 lo) == items.size) = true then _ else _) _ _ s
  rw [if_neg hno, pick_gen]
  first
    | exact wpAny_bind (m := Builtin.Tuple.tupleExact _) (wpAny_newObj_type (wpAny_pure ⟨_, rfl, wpAny_pure h⟩) htake)
    | exact wpAny_bind (m := Builtin.Tuple.tupleExact _) (wpAny_newObj_type (wpAny_bind (wpAny_pure (wpAny_pure ⟨_, rfl, wpAny_pure h⟩))) htake)
    | exact wpAny_bind (wpAny_bind (m := Builtin.Tuple.tupleExact _) (wpAny_newObj_type (wpAny_pure (wpAny_pure ⟨_, rfl, wpAny_pure h⟩)) htake))
    | exact wpAny_bind (wpAny_bind (m := Builtin.Tuple.tupleExact _) (wpAny_newObj_type (wpAny_pure ⟨_, rfl, wpAny_pure h⟩) htake))
end
end HT

namespace L2
open PySem PySem.Spec PyProof.Rows

/-! ### the parts of a slice -/
abbrev TO := St → Hp → (Option Int → Hp → Prop) → Prop
/-- a slice's part (left out, or an int) -/
def PO (X : Cx) (e : Option Expr) (t : TO) : Prop :=
  ∀ (pins : List (Addr × Obj)) (s : Shared) (σ : St) (H : Hp) (Q : Option Int → Hp → Prop), Inv X pins σ H s → t σ H Q →
    wpAny (model X.prog X.w) X.A (evalPart e X.env) (fun u s' => ∃ o H', Inv X pins σ H' s' ∧ IsPart u o ∧ Q o H') X.xe s
def tNoPart : TO := fun _ H Q => Q none H
def tPart (t : TE) : TO := fun σ H Q => t σ H fun x H1 => ∃ i, x = .int i ∧ Q (some i) H1

theorem intsAre_of {ns : List Int} : ∀ {us : List Value}, Vals (ns.map V.int) us → IntsAre us ns := by
  induction ns with
  | nil => intro us r; rw [List.map_nil] at r; cases r; exact .nil
  | cons n ns ih =>
    intro us r
    rw [List.map_cons] at r
    cases r with
    | cons r1 r2 =>
      obtain ⟨t, e⟩ := r1
      subst e
      exact .cons n t (ih r2)

section
variable {X : Cx} {e : Expr} {te : TE} {lo hi : Option Expr} {tl th : TO} {pos p2 : Pos}

theorem po_none : PO X none tNoPart := by
  intro pins s σ H Q I h
  rw [evalPart_none]
  exact wpAny_pure ⟨none, H, I, .none, h⟩
theorem po_some (h : PE X e te) : PO X (some e) (tPart te) := by
  intro pins s σ H Q I hw
  rw [evalPart_some]
  refine thn (h pins s σ H _ I hw) fun u s1 ⟨x, H1, I1, r1, q1⟩ => ?_
  obtain ⟨i, rfl, q⟩ := q1
  obtain ⟨t, rfl⟩ := r1
  exact ⟨some i, H1, I1, .int i t, q⟩

/-- what a slice of a value is, by values: the slice object stands at sl -/
def SlR (X : Cx) (r : V → Option Int → Option Int → Hp → VK → Prop) : Prop :=
  ∀ (pins : List (Addr × Obj)) (s : Shared) (σ : St) (H : Hp) (x : V) (v vl vu : Value) (lo hi : Option Int) (sl : Addr) (Q : VK), Inv X pins σ H s → RelV x v → s.heap.IsSliceOf sl vl vu .none → IsPart vl lo → IsPart vu hi → r x lo hi H Q →
    ∃ T id, typeLookup (.type T) "__getitem__" = pure (some (.builtin id)) ∧ s.TypeIs v T ∧ wpAny (model X.prog X.w) X.A (getItem v (.ref sl)) (EP X pins σ Q) X.xe s
theorem SlR.or {r r' : V → Option Int → Option Int → Hp → VK → Prop} (h : SlR X r) (h' : SlR X r') : SlR X (fun x lo hi H Q => r x lo hi H Q ∨ r' x lo hi H Q) := by
  intro pins s σ H x v vl vu lo hi sl Q I rx hs pl pu q
  rcases q with q | q
  · exact h pins s σ H x v vl vu lo hi sl Q I rx hs pl pu q
  · exact h' pins s σ H x v vl vu lo hi sl Q I rx hs pl pu q
def tSl (r : V → Option Int → Option Int → Hp → VK → Prop) (te : TE) (tl th : TO) : TE := fun σ H Q => te σ H fun x H1 => tl σ H1 fun l H2 => th σ H2 fun u H3 => r x l u H3 Q
/-- a[lo:hi], any a -/
theorem pe_slice {r : V → Option Int → Option Int → Hp → VK → Prop} (hr : SlR X r) (he : PE X e te) (hl : PO X lo tl) (hu : PO X hi th) : PE X (.Subscript e (.Slice lo hi none p2) pos) (tSl r te tl th) := by
  intro pins s σ H Q I h
  refine Subscript_ (thn (he pins s σ H _ I h) fun v s1 ⟨x, H1, I1, r1, q1⟩ => ?_)
  refine wpAny_Slice (thn (hl pins s1 σ H1 _ I1 q1) fun vl s2 ⟨l, H2, I2, pl, q2⟩ => thn (hu pins s2 σ H2 _ I2 q2) fun vu s3 ⟨u, H3, I3, pu, q3⟩ => ?_)
  rw [evalPart_none]
  refine wpAny_pure ?_
  have I4 : Inv X pins σ H3 { s3 with heap := s3.heap.push { cls := .type "slice", data := .fields #[vl, vu, .none] } } := I3.kept (t' := s3.toks) fun b ob q => Heap.get?_push_of_some _ q
  obtain ⟨T, id, hT, ht, hg⟩ := hr pins { s3 with heap := s3.heap.push { cls := .type "slice", data := .fields #[vl, vu, .none] } } σ H3 x v vl vu l u s3.heap.objs.size Q I4 r1 (Heap.IsSliceOf.new ..) pl pu q3
  show wpAny (model X.prog X.w) X.A (subscriptTail e (.Slice lo hi none p2) v (.ref s3.heap.objs.size)) (EP X pins σ Q) X.xe { s3 with heap := s3.heap.push { cls := .type "slice", data := .fields #[vl, vu, .none] } }
  exact tail_any (ops := [.ref s3.heap.objs.size, v]) ht hT hg (by with_unfolding_all rfl)

/-- the items of xs[lo:hi] -/
def cutV (xs : List V) (lo hi : Option Int) : List V := (xs.drop (HT.sIx xs.length 0 lo)).take (HT.sIx xs.length xs.length hi - HT.sIx xs.length 0 lo)
theorem cutV_length (xs : List V) (lo hi : Option Int) : (cutV xs lo hi).length ≤ xs.length := by
  unfold cutV
  rw [List.length_take, List.length_drop]
  omega
/-- t[lo:hi], not the whole of it (the whole would be t itself) -/
def rSlT (K : PySem.W.Frag) : V → Option Int → Option Int → Hp → VK → Prop := fun x lo hi H Q => ∃ a xs, x = .ref a ∧ SqT K H a xs ∧
  ¬ (HT.sIx xs.length 0 lo = 0 ∧ HT.sIx xs.length xs.length hi = xs.length) ∧ ∀ p, H p = none → Q (.ref p) (upd H p (.tup (cutV xs lo hi)))
theorem sl_tup : SlR X (rSlT X.K) := by
  intro pins s σ H x v vl vu lo hi sl Q I rx hs pl pu h
  obtain ⟨a, xs, rfl, hx, hw, q⟩ := h
  cases rx
  obtain ⟨its, r, ht, hz⟩ := I.tuple hx
  have hlen : its.toArray.size = xs.length := by rw [List.size_toArray]; exact r.length.symm
  refine ⟨"tuple", _, PyProof.Rows.slot_tuple_getitem.lookup, ht.typeIs, ?_⟩
  refine HT.getItem_tuple_cut ht hs pl pu (by rw [hlen]; exact hw) ?_ (by rw [hlen]; exact hz)
  rw [hlen]
  refine ⟨.ref s.heap.objs.size, _, I.laid (t' := s.toks) (o := .tup (cutV xs lo hi)) (fun b ob q => Heap.get?_push_of_some _ q) (Nat.le_refl _) ?_, rfl, q _ (I.hok.fresh (Nat.le_refl _))⟩
  exact ⟨Nat.le_trans (cutV_length xs lo hi) hz, _, (r.drop (HT.sIx xs.length 0 lo)).take (HT.sIx xs.length xs.length hi - HT.sIx xs.length 0 lo), IsTup.new _ _⟩

/-! ### t < u, t + u -/
def rLtT (K : PySem.W.Frag) : R2 := fun x y H Q => ∃ a b ns ms, x = .ref a ∧ y = .ref b ∧ SqT K H a (ns.map V.int) ∧ SqT K H b (ms.map V.int) ∧ Q (.bl (HT.lexLt ns ms)) H
theorem op_ltT (hu : X.A.units < cLine) : OpR X (compareOp .Lt) (rLtT X.K) := by
  intro pins s σ H x y v u Q I rx ry h
  obtain ⟨a, b, ns, ms, rfl, rfl, ha, hb, q⟩ := h
  cases rx
  cases ry
  obtain ⟨its, r1, p1, _⟩ := I.tuple ha
  obtain ⟨its2, r2, p2, _⟩ := I.tuple hb
  have i1 : IntsAre its.toArray.toList ns := intsAre_of r1
  have i2 : IntsAre its2.toArray.toList ms := intsAre_of r2
  exact HT.lt_tupInts p1 p2 i1 i2 hu ⟨.bl (HT.lexLt ns ms), H, I, rfl, q⟩
/-- t + u, t not empty: u empty gives t itself -/
def rCatT (K : PySem.W.Frag) : R2 := fun x y H Q => ∃ a b xs ys, x = .ref a ∧ y = .ref b ∧ SqT K H a xs ∧ SqT K H b ys ∧ xs ≠ [] ∧ xs.length + ys.length ≤ sizeLine ∧
  (ys = [] → Q (.ref a) H) ∧ (ys ≠ [] → ∀ p, H p = none → Q (.ref p) (upd H p (.tup (xs ++ ys))))
theorem Vals.nil_iff {xs : List V} {us : List Value} (r : Vals xs us) : us = [] ↔ xs = [] := by
  cases r with
  | nil => simp
  | cons _ _ => simp
theorem op_catT : OpR X (binaryOp .Add) (rCatT X.K) := by
  intro pins s σ H x y v u Q I rx ry h
  obtain ⟨a, b, xs, ys, rfl, rfl, ha, hb, hx, hz, q1, q2⟩ := h
  cases rx
  cases ry
  obtain ⟨its, r1, p1, _⟩ := I.tuple ha
  obtain ⟨its2, r2, p2, _⟩ := I.tuple hb
  refine HT.cat_tup p1 p2 (fun z => hx (r1.nil_iff.mp z)) (fun z => ⟨.ref a, H, I, rfl, q1 (r2.nil_iff.mp z)⟩) (fun z => ?_) (by rw [← r1.length, ← r2.length]; exact hz)
  refine ⟨.ref s.heap.objs.size, _, I.laid (t' := s.toks) (o := .tup (xs ++ ys)) (fun b ob q => Heap.get?_push_of_some _ q) (Nat.le_refl _) ?_, rfl, q2 (fun w => z (r2.nil_iff.mpr w)) _ (I.hok.fresh (Nat.le_refl _))⟩
  exact ⟨by rw [List.length_append]; exact hz, _, r1.append r2, IsTup.new _ _⟩
/-- tuple(t) -/
theorem call_tupleT : CallR X (.type "tuple") (fun xs H Q => ∃ a ys, xs = [.ref a] ∧ SqT X.K H a ys ∧ Q (.ref a) H) := by
  intro pins s σ H xs us Q I r h
  obtain ⟨a, ys, rfl, ha, q⟩ := h
  obtain ⟨u, rfl, ru⟩ := vals1 r
  cases ru
  obtain ⟨its, _, p1, _⟩ := I.tuple ha
  exact call_tuple_same (items := its.toArray) p1 ⟨.ref a, H, I, rfl, q⟩
end
end L2

namespace L2
open PySem PySem.Spec PyProof.Rows

/-! ### places -/
/-- the place that an index of any sign means -/
def ixN (n : Nat) (i : Int) : Option Nat := if 0 ≤ i then (if i < n then some i.toNat else none) else if -(n : Int) ≤ i then some (i + n).toNat else none
def atI {α : Type} (xs : List α) (i : Int) : Option α := (ixN xs.length i).bind fun j => xs[j]?
theorem ixN_seq {n : Nat} {i : Int} {j : Nat} (h : ixN n i = some j) : seqIndex? i n = some j ∧ j < n ∧ -(n : Int) ≤ i ∧ i < n := by
  unfold ixN at h
  by_cases h0 : 0 ≤ i
  · rw [if_pos h0] at h
    by_cases h1 : i < n
    · rw [if_pos h1] at h
      have e : i.toNat = j := Option.some.inj h
      exact ⟨by rw [seqIndex_of h0 h1, e], by omega, by omega, h1⟩
    · rw [if_neg h1] at h; cases h
  · rw [if_neg h0] at h
    by_cases h1 : -(n : Int) ≤ i
    · rw [if_pos h1] at h
      have e : (i + n).toNat = j := Option.some.inj h
      exact ⟨by rw [seqIndex_neg (by omega) h1, e], by omega, h1, by omega⟩
    · rw [if_neg h1] at h; cases h
theorem atI_get {α : Type} {xs : List α} {i : Int} {v : α} (h : atI xs i = some v) : ∃ j, seqIndex? i xs.length = some j ∧ xs[j]? = some v ∧ j < xs.length ∧ -(xs.length : Int) ≤ i ∧ i < xs.length := by
  unfold atI at h
  cases e : ixN xs.length i with
  | none => rw [e] at h; cases h
  | some j =>
    rw [e] at h
    obtain ⟨h1, h2, h3, h4⟩ := ixN_seq e
    exact ⟨j, h1, h, h2, h3, h4⟩
theorem atI_nat {α : Type} {xs : List α} {j : Nat} {v : α} (h : xs[j]? = some v) : atI xs (j : Int) = some v := by
  have hj : j < xs.length := (List.getElem?_eq_some_iff.mp h).1
  have e : ixN xs.length (j : Int) = some j := by
    unfold ixN
    rw [if_pos (by omega), if_pos (by omega)]; simp
  unfold atI; rw [e]; exact h
theorem atI_last {α : Type} (xs : List α) (v : α) : atI (xs ++ [v]) (-1) = some v := by
  have hl : (xs ++ [v]).length = xs.length + 1 := by simp
  have e : ixN (xs ++ [v]).length (-1) = some xs.length := by
    unfold ixN
    rw [hl, if_neg (by decide), if_pos (by omega)]
    congr 1
    omega
  unfold atI
  rw [e]
  show (xs ++ [v])[xs.length]? = some v
  simp

/-! ### what may be subscripted -/
/-- what stands as an index of a plain subscript -/
def PlainIx (b : Expr) : Prop := ∀ o i, subscripted b false o i = operate [o, i] (getItem o i)
/-- a subscript by values -/
def IxR (X : Cx) (r : R2) : Prop :=
  ∀ (value slice : Expr) (pins : List (Addr × Obj)) (s : Shared) (σ : St) (H : Hp) (x y : V) (v u : Value) (Q : VK), Inv X pins σ H s → RelV x v → RelV y u → r x y H Q →
    subscripted slice false v u = operate [v, u] (getItem v u) → wpAny (model X.prog X.w) X.A (subscriptTail value slice v u) (EP X pins σ Q) X.xe s
/-- a call of a builtin's method by values: the receiver, the arguments -/
def MtR (X : Cx) (id : String) (r : V → List V → Hp → VK → Prop) : Prop :=
  ∀ (pins : List (Addr × Obj)) (s : Shared) (σ : St) (H : Hp) (x : V) (xs : List V) (v : Value) (us : List Value) (Q : VK), Inv X pins σ H s → RelV x v → Vals xs us → r x xs H Q →
    wpAny (model X.prog X.w) X.A (call (.builtin id) (v :: us)) (EP X pins σ Q) X.xe s
section
variable {X : Cx} {a b : Expr} {ta tb : TE} {pos : Pos}
theorem IxR.or {r r' : R2} (h : IxR X r) (h' : IxR X r') : IxR X (fun x y H Q => r x y H Q ∨ r' x y H Q) := by
  intro value slice pins s σ H x y v u Q I rx ry q hs
  rcases q with q | q
  · exact h value slice pins s σ H x y v u Q I rx ry q hs
  · exact h' value slice pins s σ H x y v u Q I rx ry q hs
theorem MtR.or {id : String} {r r' : V → List V → Hp → VK → Prop} (h : MtR X id r) (h' : MtR X id r') : MtR X id (fun x xs H Q => r x xs H Q ∨ r' x xs H Q) := by
  intro pins s σ H x xs v us Q I rx rs q
  rcases q with q | q
  · exact h pins s σ H x xs v us Q I rx rs q
  · exact h' pins s σ H x xs v us Q I rx rs q
/-- a[b] -/
theorem pe_ix {r : R2} (hr : IxR X r) (ha : PE X a ta) (hb : PE X b tb) (hs : PlainIx b) : PE X (.Subscript a b pos) (tOp r ta tb) := by
  intro pins s σ H Q I h
  exact Subscript_ (binT ha hb I h fun v u s2 x y H2 I2 rx ry q => hr a b pins s2 σ H2 x y v u Q I2 rx ry q (hs _ _))

def rIxL (K : PySem.W.Frag) : R2 := fun x y H Q => ∃ p xs i v, x = .ref p ∧ y = .int i ∧ SqL K H p xs ∧ atI xs i = some v ∧ Q v H
def rIxT (K : PySem.W.Frag) : R2 := fun x y H Q => ∃ p xs i v, x = .ref p ∧ y = .int i ∧ SqT K H p xs ∧ atI xs i = some v ∧ Q v H
def rIxS : R2 := fun x y H Q => ∃ z i c, x = .str z ∧ y = .int i ∧ z.length ≤ sizeLine ∧ atI z.cps.toList i = some c ∧ Q (.str ⟨#[c]⟩) H
theorem ix_list : IxR X (rIxL X.K) := by
  intro value slice pins s σ H x y v u Q I rx ry h hs
  obtain ⟨p, xs, i, z, rfl, rfl, hq, he, q⟩ := h
  cases rx
  obtain ⟨t, rfl⟩ := ry
  obtain ⟨its, r, pl, hz⟩ := I.list hq
  obtain ⟨j, h1, h2, h3, h4, h5⟩ := atI_get he
  obtain ⟨w, ew, rw'⟩ := r.get h2
  have hl := r.length
  have hn := line63
  have fin : EP X pins σ Q w s := ⟨z, H, I, rw', q⟩
  by_cases h0 : 0 ≤ i
  · have hj : i.toNat = j := by
      rw [seqIndex_of h0 h5] at h1
      exact Option.some.inj h1
    exact item_listR pl.isList h0 (by omega) (by rw [hj]; simpa using ew) fin hs
  · have hj : (i + (its.toArray.size : Int)).toNat = j := by
      rw [seqIndex_neg (by omega) h4] at h1
      rw [List.size_toArray, ← hl]
      exact Option.some.inj h1
    exact subscriptTail_builtinR (x := w) pl.isList.typeIs slot_list_getitem.lookup
      (wpAny_getItem_list_neg (Q := fun r s' => r = w ∧ EP X pins σ Q r s') pl.isList (by omega) (by rw [List.size_toArray] <;> omega) (by omega) (by rw [hj]; simpa using ew) ⟨rfl, fin⟩) hs
theorem ix_tup : IxR X (rIxT X.K) := by
  intro value slice pins s σ H x y v u Q I rx ry h hs
  obtain ⟨p, xs, i, z, rfl, rfl, hq, he, q⟩ := h
  cases rx
  obtain ⟨t, rfl⟩ := ry
  obtain ⟨its, r, pl, hz⟩ := I.tuple hq
  obtain ⟨j, h1, h2, h3, h4, h5⟩ := atI_get he
  obtain ⟨w, ew, rw'⟩ := r.get h2
  have hl := r.length
  have hn := line63
  have fin : EP X pins σ Q w s := ⟨z, H, I, rw', q⟩
  exact subscriptTail_builtinR (x := w) pl.typeIs slot_tuple_getitem.lookup
    (getItem_tuple (j := j) (Q := fun r s' => r = w ∧ EP X pins σ Q r s') pl (by omega) (by omega) (by rw [List.size_toArray, ← hl]; exact h1) (by simpa using ew) ⟨rfl, fin⟩) hs
theorem ix_str : IxR X rIxS := by
  intro value slice pins s σ H x y v u Q I rx ry h hs
  obtain ⟨z, i, c, rfl, rfl, hz, he, q⟩ := h
  obtain ⟨t, rfl⟩ := rx
  obtain ⟨t', rfl⟩ := ry
  obtain ⟨j, h1, h2, h3, h4, h5⟩ := atI_get he
  have hl : z.cps.toList.length = z.length := by simp [Str.length]
  rw [hl] at h1 h4 h5
  have hn := line63
  exact tail_any (typeIs_str s z t) slot_str_getitem.lookup (getItem_str (c := c) (by
    have e1 : decide (i < -(2 ^ 63 : Int)) = false := decide_eq_false (by omega)
    have e2 : decide (i ≥ 2 ^ 63) = false := decide_eq_false (by omega)
    rw [e1, e2, Bool.or_false]) (by rw [h1]; simpa using h2) ⟨.str ⟨#[c]⟩, H, I.tok _, ⟨_, rfl⟩, q⟩) hs
/-- list, tuple or str -/
def rIx (K : PySem.W.Frag) : R2 := fun x y H Q => rIxL K x y H Q ∨ rIxT K x y H Q ∨ rIxS x y H Q
theorem ix_seq : IxR X (rIx X.K) := ix_list.or (ix_tup.or ix_str)

/-! ### xs[i] = v, any sign -/
/-- the list's object behind a store -/
theorem mapSeq_set (its : List Value) (n j : Nat) (u : Value) : Obj.mapSeq (·.setIfInBounds j u) { cls := .type "list", data := .seq its.toArray n } = { cls := .type "list", data := .seq (its.set j u).toArray n } := by
  simp [Obj.mapSeq]
theorem Inv.lst {pins : List (Addr × Obj)} {σ : St} {H : Hp} {s : Shared} {p : Addr} {xs : List V} (I : Inv X pins σ H s) (h : H p = some (.lst xs)) :
    ∃ (its : List Value) (n : Nat), Vals xs its ∧ s.heap.get? p = some { cls := .type "list", data := .seq its.toArray n } ∧ xs.length ≤ sizeLine := by
  obtain ⟨z, its, n, r, e⟩ := I.hok p _ h
  exact ⟨its, n, r, e, z⟩
/-- the list at p is written by an update of its object -/
theorem Inv.lstUpd {pins : List (Addr × Obj)} {σ : St} {H : Hp} {s : Shared} {p : Addr} {xs ys : List V} {its its' : List Value} {n n' : Nat} {f : Obj → Obj} (I : Inv X pins σ H s) (h : H p = some (.lst xs))
    (ho : s.heap.get? p = some { cls := .type "list", data := .seq its.toArray n }) (hf : f { cls := .type "list", data := .seq its.toArray n } = { cls := .type "list", data := .seq its'.toArray n' }) (r : Vals ys its') (hz : ys.length ≤ sizeLine) (t : Nat) :
    Inv X pins σ (upd H p (.lst ys)) { s with heap := s.heap.update p f, toks := t } := by
  have e : (s.heap.update p f).get? p = some { cls := .type "list", data := .seq its'.toArray n' } := by
    rw [Heap.get?_update_self f ho (by rw [hf] <;> rfl), hf]
  refine I.write (x := p) (e := p) (by rw [h]; trivial) (.inl rfl) (fun b u hb q => (Heap.get?_update_other _ _ (Ne.symm hb)).trans q) ⟨_, e⟩ ?_
  exact ⟨hz, its', n', r, e⟩
def rSetL : V → V → V → Hp → (Hp → Prop) → Prop := fun o i v H Q => ∃ p xs k j, o = .ref p ∧ i = .int k ∧ H p = some (.lst xs) ∧ ixN xs.length k = some j ∧ Q (upd H p (.lst (xs.set j v)))
theorem set_list : PSet X rSetL := by
  intro pins s σ H o i v ov iv u Q I ro ri rv h
  obtain ⟨p, xs, k, j, rfl, rfl, hp, hj, q⟩ := h
  cases ro
  obtain ⟨t, rfl⟩ := ri
  obtain ⟨its, n, r, ho, hz⟩ := I.lst hp
  obtain ⟨h1, h2, h3, h4⟩ := ixN_seq hj
  have hl := r.length
  have hn := line63
  have I' : Inv X pins σ (upd H p (.lst (xs.set j v))) { s with heap := s.heap.update p (Obj.mapSeq (·.setIfInBounds j u)) } :=
    I.lstUpd hp ho (mapSeq_set its n j u) (r.set rv j) (by rw [List.length_set]; exact hz) s.toks
  by_cases h0 : 0 ≤ k
  · have hk : k.toNat = j := by
      rw [seqIndex_of h0 h4] at h1
      exact Option.some.inj h1
    exact PySem.W.ki_setAt ho h0 (by omega) (by rw [List.size_toArray, ← hl]; exact h4) (by rw [hk]; exact ⟨_, I', q⟩)
  · have hk : (k + (its.toArray.size : Int)).toNat = j := by
      rw [seqIndex_neg (by omega) h3] at h1
      rw [List.size_toArray, ← hl]
      exact Option.some.inj h1
    exact PySem.W.ki_setBack ho (by omega) (by rw [List.size_toArray, ← hl]; exact h3) (by omega) (by rw [hk]; exact ⟨_, I', q⟩)

/-! ### slices -/
theorem slice_bounds (lo hi : Option Int) (n : Nat) : (sliceBounds lo hi none n).1 = ((HT.sIx n 0 lo : Nat) : Int) ∧ (sliceBounds lo hi none n).2.1 = ((HT.sIx n n hi : Nat) : Int) ∧ (sliceBounds lo hi none n).2.2 = 1 := by
  refine ⟨?_, ?_, rfl⟩
  · cases lo with
    | none => simp [sliceBounds, HT.sIx]
    | some i =>
      simp only [sliceBounds, HT.sIx, Option.getD_none, show (1 : Int) > 0 by decide, if_true]
      by_cases h : i < 0
      · simp only [h, if_true] <;> omega
      · simp only [h, if_false] <;> omega
  · cases hi with
    | none => simp [sliceBounds, HT.sIx]
    | some i =>
      simp only [sliceBounds, HT.sIx, Option.getD_none, show (1 : Int) > 0 by decide, if_true]
      by_cases h : i < 0
      · simp only [h, if_true] <;> omega
      · simp only [h, if_false] <;> omega
theorem slicePick_cut (its : List Value) (lo hi : Option Int) : slicePick its.toArray lo hi none = ((its.drop (HT.sIx its.length 0 lo)).take (HT.sIx its.length its.length hi - HT.sIx its.length 0 lo)).toArray := by
  obtain ⟨h1, h2, h3⟩ := slice_bounds lo hi its.toArray.size
  unfold slicePick
  rw [h1, h2, h3]
  simp only [sliceRange_one, pick_run, List.size_toArray] <;> rfl
/-- xs[lo:hi] of a list: a new list -/
def rSlL (K : PySem.W.Frag) : V → Option Int → Option Int → Hp → VK → Prop := fun x lo hi H Q => ∃ a xs, x = .ref a ∧ SqL K H a xs ∧ ∀ p, H p = none → Q (.ref p) (upd H p (.lst (cutV xs lo hi)))
theorem sl_list : SlR X (rSlL X.K) := by
  intro pins s σ H x v vl vu lo hi sl Q I rx hs pl pu h
  obtain ⟨a, xs, rfl, hx, q⟩ := h
  cases rx
  obtain ⟨its, r, ht, hz⟩ := I.list hx
  have hlen := r.length
  refine ⟨"list", _, slot_list_getitem.lookup, ht.isList.typeIs, ?_⟩
  refine wpAny_getItem_list_slice ht.isList hs pl pu .none (by simp) ?_ (by rw [List.size_toArray] <;> omega)
  rw [slicePick_cut, ← hlen]
  refine ⟨.ref s.heap.objs.size, _, I.laid (t' := s.toks) (o := .lst (cutV xs lo hi)) (fun b ob q => Heap.get?_push_of_some _ q) (Nat.le_refl _) ?_, rfl, q _ (I.hok.fresh (Nat.le_refl _))⟩
  exact ⟨Nat.le_trans (cutV_length xs lo hi) hz, _, 0, (r.drop (HT.sIx xs.length 0 lo)).take (HT.sIx xs.length xs.length hi - HT.sIx xs.length 0 lo), Heap.get?_push_size _ rfl⟩

/-! ### in, not in: flat items -/
def flatV : V → Bool
  | .non => true
  | .bl _ => true
  | .int _ => true
  | .str _ => true
  | _ => false
/-- == of flat values -/
def eqV : V → V → Bool
  | .non, .non => true
  | .bl a, .bl b => a == b
  | .bl a, .int b => (if a then 1 else 0) == b
  | .int a, .bl b => a == (if b then 1 else 0)
  | .int a, .int b => a == b
  | .str a, .str b => a == b
  | _, _ => false
theorem eqAt_V {A : Around} {s : Shared} {y x : V} {u v : Value} (ry : RelV y u) (rx : RelV x v) (fy : flatV y = true) (fx : flatV x = true) : SeqAt.EqAt A s u v (eqV y x) := by
  cases y with
  | non =>
    cases ry
    cases x with
    | non => cases rx; exact SeqAt.EqAt.same _
    | bl b => cases rx; exact SeqAt.EqAt.none_bool b
    | int b => obtain ⟨t, rfl⟩ := rx; exact SeqAt.EqAt.none_int b t
    | str b => obtain ⟨t, rfl⟩ := rx; exact SeqAt.EqAt.none_str b t
    | _ => exact absurd (show false = true from fx) Bool.false_ne_true
  | bl a =>
    cases ry
    cases x with
    | non => cases rx; exact SeqAt.EqAt.bool_none a
    | bl b => cases rx; exact SeqAt.EqAt.bool_bool a b
    | int b => obtain ⟨t, rfl⟩ := rx; exact SeqAt.EqAt.bool_int a b t
    | str b => obtain ⟨t, rfl⟩ := rx; exact SeqAt.EqAt.bool_str a b t
    | _ => exact absurd (show false = true from fx) Bool.false_ne_true
  | int a =>
    obtain ⟨t', rfl⟩ := ry
    cases x with
    | non => cases rx; exact SeqAt.EqAt.int_none a t'
    | bl b => cases rx; exact SeqAt.EqAt.int_bool a t' b
    | int b => obtain ⟨t, rfl⟩ := rx; exact SeqAt.EqAt.int_int a t' b t
    | str b => obtain ⟨t, rfl⟩ := rx; exact SeqAt.EqAt.int_str a t' b t
    | _ => exact absurd (show false = true from fx) Bool.false_ne_true
  | str a =>
    obtain ⟨t', rfl⟩ := ry
    cases x with
    | non => cases rx; exact SeqAt.EqAt.str_none a t'
    | bl b => cases rx; exact SeqAt.EqAt.str_bool a t' b
    | int b => obtain ⟨t, rfl⟩ := rx; exact SeqAt.EqAt.str_int a t' b t
    | str b => obtain ⟨t, rfl⟩ := rx; exact SeqAt.EqAt.str_str a t' b t
    | _ => exact absurd (show false = true from fx) Bool.false_ne_true
  | _ => exact absurd (show false = true from fy) Bool.false_ne_true
/-- the items' answers, read off the values (a value's own answer does not lean on its token) -/
def eqU (x : V) (u : Value) : Bool := match u with
  | .none => eqV .non x
  | .bool b => eqV (.bl b) x
  | .int i _ => eqV (.int i) x
  | .str z _ => eqV (.str z) x
  | _ => false
theorem eqU_of {x y : V} {u : Value} (r : RelV y u) (f : flatV y = true) : eqU x u = eqV y x := by
  cases y with
  | non => cases r; rfl
  | bl b => cases r; rfl
  | int i => obtain ⟨t, rfl⟩ := r; rfl
  | str z => obtain ⟨t, rfl⟩ := r; rfl
  | _ => exact absurd (show false = true from f) Bool.false_ne_true
theorem any_eqU {x : V} : ∀ {xs : List V} {us : List Value}, Vals xs us → xs.all flatV = true → us.any (eqU x) = xs.any fun y => eqV y x
  | _, _, .nil, _ => rfl
  | y :: xs, u :: us, .cons r t, f => by
    rw [List.all_cons, Bool.and_eq_true] at f
    rw [List.any_cons, List.any_cons, eqU_of r f.1, any_eqU t f.2]
theorem mem_eqAt {A : Around} {s : Shared} {x : V} {v : Value} (rx : RelV x v) (fx : flatV x = true) : ∀ {xs : List V} {us : List Value}, Vals xs us → xs.all flatV = true → ∀ u ∈ us, SeqAt.EqAt A s u v (eqU x u)
  | _, _, .nil, _ => fun u hu => by cases hu
  | y :: xs, u :: us, .cons r t, f => fun u' hu => by
    rw [List.all_cons, Bool.and_eq_true] at f
    rcases List.mem_cons.mp hu with rfl | hu
    · rw [eqU_of r f.1]; exact eqAt_V r rx f.1 fx
    · exact mem_eqAt rx fx t f.2 u' hu
def inV (x : V) (xs : List V) : Bool := xs.any fun y => eqV y x
/-- x in a list or tuple of flat items -/
def rIn (K : PySem.W.Frag) (neg : Bool) : R2 := fun x y H Q => ∃ p xs, y = .ref p ∧ (SqL K H p xs ∨ SqT K H p xs) ∧ flatV x = true ∧ xs.all flatV = true ∧ Q (.bl (if neg then !inV x xs else inV x xs)) H
theorem op_in_seq : OpR X (compareOp .In) (rIn X.K false) := by
  intro pins s σ H x y v u Q I rx ry h
  obtain ⟨p, xs, rfl, hq, fx, fs, q⟩ := h
  cases ry
  rcases hq with hq | hq
  · obtain ⟨its, r, pl, hz⟩ := I.list hq
    refine SeqAt.in_listAt (eqU x) pl.isList (fun w hw => mem_eqAt rx fx r fs w (by simpa using hw)) ⟨.bl _, H, I, rfl, ?_⟩
    rw [show its.toArray.any (eqU x) = its.any (eqU x) by simp, any_eqU r fs]
    exact q
  · obtain ⟨its, r, pl, hz⟩ := I.tuple hq
    refine SeqAt.in_tupleAt (eqU x) pl (fun w hw => mem_eqAt rx fx r fs w (by simpa using hw)) ⟨.bl _, H, I, rfl, ?_⟩
    rw [show its.toArray.any (eqU x) = its.any (eqU x) by simp, any_eqU r fs]
    exact q
theorem op_notIn_seq : OpR X (compareOp .NotIn) (rIn X.K true) := by
  intro pins s σ H x y v u Q I rx ry h
  obtain ⟨p, xs, rfl, hq, fx, fs, q⟩ := h
  cases ry
  rcases hq with hq | hq
  · obtain ⟨its, r, pl, hz⟩ := I.list hq
    refine SeqAt.notIn_listAt (eqU x) pl.isList (fun w hw => mem_eqAt rx fx r fs w (by simpa using hw)) ⟨.bl _, H, I, rfl, ?_⟩
    rw [show its.toArray.any (eqU x) = its.any (eqU x) by simp, any_eqU r fs]
    exact q
  · obtain ⟨its, r, pl, hz⟩ := I.tuple hq
    refine SeqAt.notIn_tupleAt (eqU x) pl (fun w hw => mem_eqAt rx fx r fs w (by simpa using hw)) ⟨.bl _, H, I, rfl, ?_⟩
    rw [show its.toArray.any (eqU x) = its.any (eqU x) by simp, any_eqU r fs]
    exact q
theorem op_notIn_str : OpR X (compareOp .NotIn) (fun x y H Q => ∃ i j, x = .str i ∧ y = .str j ∧ Q (.bl (!(!(Builtin.Str.occurrences j i 0 j.length 1).isEmpty))) H) := by
  intro pins s σ H x y v u Q I rx ry h
  obtain ⟨i, j, rfl, rfl, q⟩ := h
  obtain ⟨t, rfl⟩ := rx
  obtain ⟨t', rfl⟩ := ry
  exact notIn_str ⟨.bl _, H, I, rfl, q⟩

/-! ### len, list(x), tuple(x) of any list or tuple that is read -/
theorem call_len_seq : CallR X (.builtin "len") (fun xs H Q => ∃ p ys, xs = [.ref p] ∧ (SqL X.K H p ys ∨ SqT X.K H p ys) ∧ Q (.int ys.length) H) := by
  intro pins s σ H xs us Q I r h
  obtain ⟨p, ys, rfl, hq, q⟩ := h
  obtain ⟨u, rfl, rx⟩ := vals1 r
  cases rx
  have hn := line63
  rcases hq with hq | hq
  · obtain ⟨its, r', pl, hz⟩ := I.list hq
    have hlen := r'.length
    exact Calls.call_len_list pl.isList (by simp only [List.size_toArray] <;> omega) ⟨.int ys.length, H, I.tok _, ⟨s.toks + 1, by rw [List.size_toArray, hlen]⟩, q⟩
  · obtain ⟨its, r', pl, hz⟩ := I.tuple hq
    have hlen := r'.length
    exact len_tuple pl (by simp only [List.size_toArray] <;> omega) ⟨.int ys.length, H, I.tok _, ⟨s.toks + 1, by rw [List.size_toArray, hlen]⟩, q⟩
theorem call_len_str : CallR X (.builtin "len") (fun xs H Q => ∃ z, xs = [.str z] ∧ z.length ≤ sizeLine ∧ Q (.int z.length) H) := by
  intro pins s σ H xs us Q I r h
  obtain ⟨z, rfl, hz, q⟩ := h
  obtain ⟨u, rfl, t, rfl⟩ := vals1 r
  have hn := line63
  exact len_str (by omega) ⟨.int z.length, H, I.tok _, ⟨_, rfl⟩, q⟩
theorem CallR.or {f : Value} {r r' : List V → Hp → VK → Prop} (h : CallR X f r) (h' : CallR X f r') : CallR X f (fun xs H Q => r xs H Q ∨ r' xs H Q) := by
  intro pins s σ H xs us Q I rs q
  rcases q with q | q
  · exact h pins s σ H xs us Q I rs q
  · exact h' pins s σ H xs us Q I rs q
theorem call_list_of : CallR X (.type "list") (fun xs H Q => ∃ p ys, xs = [.ref p] ∧ (SqL X.K H p ys ∨ SqT X.K H p ys) ∧ ∀ l, H l = none → Q (.ref l) (upd H l (.lst ys))) := by
  intro pins s σ H xs us Q I r h
  obtain ⟨p, ys, rfl, hq, q⟩ := h
  obtain ⟨u, rfl, rx⟩ := vals1 r
  cases rx
  have fin : ∀ (its : List Value), Vals ys its → ys.length ≤ sizeLine → ∀ (h' : Heap) (c' : Nat), (∀ b o', s.heap.get? b = some o' → h'.get? b = some o') →
      h'.get? s.heap.objs.size = some { cls := .type "list", dict := none, data := .seq its.toArray c', slots := #[] } → EP X pins σ Q (.ref s.heap.objs.size) { s with heap := h' } := fun its r' hz h' c' kp e =>
    ⟨.ref s.heap.objs.size, _, I.laid (t' := s.toks) kp (Nat.le_refl _) (show ObjOk X.prog X.w _ h' _ (.lst ys) from ⟨hz, its, c', r', e⟩), rfl, q _ (I.hok.fresh (Nat.le_refl _))⟩
  rcases hq with hq | hq
  · obtain ⟨its, r', pl, hz⟩ := I.list hq
    have hlen := r'.length
    obtain ⟨o, ho, hc, n, hd⟩ := pl.isList
    exact call_list_seq p (.inl rfl) ho hc hd (fun h' c' kp e => fin its r' hz h' c' kp e) (by simp only [List.size_toArray] <;> omega)
  · obtain ⟨its, r', pl, hz⟩ := I.tuple hq
    have hlen := r'.length
    obtain ⟨o, ho, hc, n, hd⟩ := pl
    exact call_list_seq p (.inr rfl) ho hc hd (fun h' c' kp e => fin its r' hz h' c' kp e) (by simp only [List.size_toArray] <;> omega)
theorem call_tuple_of : CallR X (.type "tuple") (fun xs H Q => ∃ p ys, xs = [.ref p] ∧ ((SqL X.K H p ys ∧ ∀ l, H l = none → Q (.ref l) (upd H l (.tup ys))) ∨ (SqT X.K H p ys ∧ Q (.ref p) H))) := by
  intro pins s σ H xs us Q I r h
  obtain ⟨p, ys, rfl, h⟩ := h
  obtain ⟨u, rfl, rx⟩ := vals1 r
  cases rx
  rcases h with ⟨hq, q⟩ | ⟨hq, q⟩
  · obtain ⟨its, r', pl, hz⟩ := I.list hq
    have hlen := r'.length
    refine call_tuple_list pl.isList (fun h' kp => ?_) (by simp only [List.size_toArray] <;> omega)
    have I1 : Inv X pins σ H { s with heap := h' } := I.kept (t' := s.toks) kp
    have I2 : Inv X pins σ (upd H h'.objs.size (.tup ys)) { s with heap := h'.push { cls := .type "tuple", data := .seq its.toArray } } :=
      I1.laid (t' := s.toks) (fun b o e => Heap.get?_push_of_some _ e) (Nat.le_refl _) (show ObjOk X.prog X.w _ _ _ (.tup ys) from ⟨hz, its, r', IsTup.new _ _⟩)
    exact ⟨.ref h'.objs.size, _, I2, rfl, q _ (I1.hok.fresh (Nat.le_refl _))⟩
  · obtain ⟨its, r', pl, hz⟩ := I.tuple hq
    exact call_tuple_same pl ⟨.ref p, H, I, rfl, q⟩

/-! ### the call of a builtin's method: o.m(..) -/
/-- the value is of that builtin type -/
def tyV (K : PySem.W.Frag) (T : String) (x : V) (H : Hp) : Prop := match x with
  | .str _ => T = "str"
  | .int _ => T = "int"
  | .ref p => (T = "list" ∧ ∃ xs, SqL K H p xs) ∨ (T = "tuple" ∧ ∃ o, K.lookup p = some o ∧ o.cls = .type "tuple" ∧ o.dict = none) ∨
      (T = "dict" ∧ ((∃ kvs, H p = some (.dK kvs)) ∨ ∃ kvs, H p = some (.dT kvs))) ∨ (T = "set" ∧ ∃ S n, H p = some (.set S n))
  | _ => False
theorem tyV_is {pins : List (Addr × Obj)} {σ : St} {H : Hp} {s : Shared} {T : String} {x : V} {v : Value} (I : Inv X pins σ H s) (r : RelV x v) (ty : tyV X.K T x H) :
    s.TypeIs v T ∧ ∀ a, v = .ref a → ∃ ob, s.heap.get? a = some ob ∧ ob.dict = none := by
  cases x with
  | str z =>
    obtain ⟨t, rfl⟩ := r
    cases (show T = "str" from ty)
    exact ⟨typeIs_str s z t, fun _ e => nomatch e⟩
  | int i =>
    obtain ⟨t, rfl⟩ := r
    cases (show T = "int" from ty)
    exact ⟨typeIs_int s i t, fun _ e => nomatch e⟩
  | ref p =>
    cases r
    rcases ty with ⟨rfl, xs, hq⟩ | ⟨rfl, o, hk, hc, hd⟩ | ⟨rfl, hk⟩ | ⟨rfl, S, n, hk⟩
    · obtain ⟨its, _, pl, _⟩ := I.list hq
      refine ⟨pl.isList.typeIs, fun a e => ?_⟩
      cases e
      obtain ⟨o, n, e, c, hd, _⟩ := pl
      exact ⟨o, e, hd⟩
    · refine ⟨⟨o, I.kIn p o hk, hc⟩, fun a e => ?_⟩
      cases e
      exact ⟨o, I.kIn _ o hk, hd⟩
    · have z : ∃ o, s.heap.get? p = some o ∧ o.ExactDict := by
        rcases hk with ⟨kvs, hk⟩ | ⟨kvs, hk⟩
        · obtain ⟨_, _, _, _, o, _, _, e, ex, _⟩ := I.hok p _ hk
          exact ⟨o, e, ex⟩
        · obtain ⟨_, _, _, _, o, _, _, e, ex, _⟩ := I.hok p _ hk
          exact ⟨o, e, ex⟩
      obtain ⟨o, e, ex⟩ := z
      refine ⟨⟨o, e, ex.1⟩, fun a e2 => ?_⟩
      cases e2
      exact ⟨o, e, ex.2.1⟩
    · obtain ⟨o, _, _, _, e, ex, _⟩ := I.hok p _ hk
      refine ⟨⟨o, e, ex.1⟩, fun a e2 => ?_⟩
      cases e2
      exact ⟨o, e, ex.2.1⟩
  | _ => exact False.elim ty
def tBM0 (K : PySem.W.Frag) (T : String) (r : V → List V → Hp → VK → Prop) (to : TE) : TE := fun σ H Q => to σ H fun x H1 => tyV K T x H1 ∧ r x [] H1 Q
def tBM (K : PySem.W.Frag) (T : String) (r : V → List V → Hp → VK → Prop) (to : TE) (t : TA) : TE := fun σ H Q => to σ H fun x H1 => tyV K T x H1 ∧ t σ H1 fun xs H2 => r x xs H2 Q
variable {o e : Expr} {es : List Expr} {to : TE} {t : TA} {name : Str} {apos cpos : Pos} {T id : String} {r : V → List V → Hp → VK → Prop}
theorem pe_bm0 (pa : PlainAttrs T) (slot : Slot T name id) (hty : typeOf (.builtin id) = pure (.type "method_descriptor")) (hm : MtR X id r) (ho : PE X o to)
    (hbase : attributeBase o name X.env (eval o X.env) = eval o X.env := by rfl) (hline : (apos.endLine == cpos.line) = true := by rfl) : PE X (.Call (.Attribute o name apos) [] [] cpos) (tBM0 X.K T r to) := by
  intro pins s σ H Q I h
  refine wpAny_Call_method0_late hbase hline (thn (ho pins s σ H _ I h) fun v s1 ⟨x, H1, I1, r1, ty, q1⟩ => ?_)
  obtain ⟨h1, h2⟩ := tyV_is I1 r1 ty
  exact ⟨T, id, pa, slot, hty, h1, h2, Calls.callWith_builtin rfl (PySem.evalArgs_none (hm pins s1 σ H1 x [] v [] Q I1 r1 .nil q1))⟩
theorem pe_bm (pa : PlainAttrs T) (slot : Slot T name id) (hty : typeOf (.builtin id) = pure (.type "method_descriptor")) (hm : MtR X id r) (ho : PE X o to) (ha : PA X (e :: es) t)
    (hbase : attributeBase o name X.env (eval o X.env) = eval o X.env := by rfl)
    (hfew : ((backTo cpos (starEach (e :: es) X.env)).all (fun x => !x.1) && (backToKw cpos (keywordEach [] X.env)).all (fun x => x.1.isSome)
      && decide ((e :: es).length + ([] : List Keyword).length + (if ([] : List Keyword).isEmpty then 0 else 1) < 30)) = true := by rfl)
    (hline : (apos.endLine == cpos.line) = true := by rfl) (hs : starEach (e :: es) X.env = (false, eval e X.env) :: starEach es X.env := by rfl) (hplain : (backTo cpos (starEach es X.env)).any (·.1) = false := by rfl) :
    PE X (.Call (.Attribute o name apos) (e :: es) [] cpos) (tBM X.K T r to t) := by
  intro pins s σ H Q I h
  refine wpAny_Call_method_late hbase hfew hline rfl (thn (ho pins s σ H _ I h) fun v s1 ⟨x, H1, I1, r1, ty, q1⟩ => ?_)
  obtain ⟨h1, h2⟩ := tyV_is I1 r1 ty
  refine ⟨T, id, pa, slot, hty, h1, h2, ?_⟩
  have hA := ha cpos pins s1 σ H1 _ I1 q1
  rw [hs] at hA ⊢
  refine Calls.callWith_builtin (by show (false || (backTo cpos (starEach es X.env)).any (·.1)) = false; rw [hplain] <;> rfl) (Calls.evalArgs_plain ?_)
  exact thn hA fun us s2 ⟨vs, H2, I2, r2, q2⟩ => hm pins s2 σ H2 x vs v us Q I2 r1 r2 q2
/- xs.append(e), list.index on a module's tuple .. are MtR facts of 06m -/
end
end L2

namespace L2
open PySem PySem.Spec PyProof.Rows

def MtM (X : Cx) (id : String) (r : V → List V → Hp → VK → Prop) : Prop :=
  ∀ (pins : List (Addr × Obj)) (s : Shared) (σ : St) (H : Hp) (x : V) (xs : List V) (v : Value) (us : List Value) (Q : VK), Inv X pins σ H s → RelV x v → Vals xs us → r x xs H Q →
    wpAny (model X.prog X.w) X.A (call (.builtin id) (v :: us)) (EP X pins σ Q) X.xe s

/-! ### lists of values -/
theorem Vals.one : ∀ {x : V} {us : List Value}, Vals [x] us → ∃ u, us = [u] ∧ RelV x u
  | _, _, .cons r .nil => ⟨_, rfl, r⟩
theorem Vals.two : ∀ {x y : V} {us : List Value}, Vals [x, y] us → ∃ u v, us = [u, v] ∧ RelV x u ∧ RelV y v
  | _, _, _, .cons r (.cons q .nil) => ⟨_, _, rfl, r, q⟩
theorem Vals.zero : ∀ {us : List Value}, Vals [] us → us = []
  | _, .nil => rfl
theorem Vals.dropLast {xs : List V} {us : List Value} (h : Vals xs us) : Vals xs.dropLast us.dropLast := by
  induction h with
  | nil => exact .nil
  | cons r t ih =>
    cases t with
    | nil => exact .nil
    | cons q t' => exact .cons r ih
theorem Vals.eraseIdx : ∀ {xs : List V} {us : List Value} (i : Nat), Vals xs us → Vals (xs.eraseIdx i) (us.eraseIdx i)
  | _, _, _, .nil => .nil
  | _, _, 0, .cons _ t => t
  | _, _, i + 1, .cons r t => .cons r (Vals.eraseIdx i t)
theorem Vals.reverse {xs : List V} {us : List Value} (h : Vals xs us) : Vals xs.reverse us.reverse := by
  induction h with
  | nil => exact .nil
  | cons r t ih => rw [List.reverse_cons, List.reverse_cons]; exact Vals.append ih (.cons r .nil)
theorem Vals.rep {xs : List V} {us : List Value} (h : Vals xs us) : ∀ k : Nat, Vals (List.replicate k xs).flatten (List.replicate k us).flatten
  | 0 => .nil
  | k + 1 => by
    rw [List.replicate_succ, List.replicate_succ, List.flatten_cons, List.flatten_cons]
    exact Vals.append h (Vals.rep h k)
theorem erase_last {α : Type} (l : List α) : l.eraseIdx (l.length - 1) = l.dropLast := by
  induction l with
  | nil => rfl
  | cons a r ih =>
    cases r with
    | nil => rfl
    | cons b r =>
      have e : (a :: b :: r).length - 1 = ((b :: r).length - 1) + 1 := by
        have h1 : (a :: b :: r).length = r.length + 2 := rfl
        have h2 : (b :: r).length = r.length + 1 := rfl
        omega
      rw [e, List.eraseIdx_cons_succ, ih]
      all_goals rfl
theorem len_erase {α : Type} : ∀ (l : List α) (i : Nat), (l.eraseIdx i).length ≤ l.length
  | [], _ => Nat.le_refl _
  | _ :: _, 0 => Nat.le_succ _
  | _ :: r, i + 1 => Nat.succ_le_succ (len_erase r i)
theorem foldl_rep (its : List Value) : ∀ (k : Nat) (acc : List Value),
    List.foldl (fun x1 x2 => x1 ++ x2) acc.toArray (List.replicate k its.toArray) = (acc ++ (List.replicate k its).flatten).toArray
  | 0, acc => by simp
  | k + 1, acc => by
    have e : acc.toArray ++ its.toArray = (acc ++ its).toArray := by simp
    have e2 : (acc ++ its) ++ (List.replicate k its).flatten = acc ++ (List.replicate (k + 1) its).flatten := by
      rw [List.replicate_succ, List.flatten_cons, List.append_assoc]
    rw [← e2, ← foldl_rep its k (acc ++ its), ← e, List.replicate_succ, List.foldl_cons]

section
variable {X : Cx} {pins : List (Addr × Obj)} {σ : St} {H : Hp} {s : Shared} {l b : Addr} {xs ys zs : List V}

/-! ### the two steps: a tracked list is rewritten, a new list is laid -/
theorem Inv.lset {its its' : List Value} {n : Nat} {f : Array Value → Array Value} {t' : Nat} (I : Inv X pins σ H s) (hH : H l = some (.lst xs))
    (e : s.heap.get? l = some { cls := .type "list", data := .seq its.toArray n }) (hf : f its.toArray = its'.toArray) (hv : Vals ys its') (hz : ys.length ≤ sizeLine) :
    Inv X pins σ (upd H l (.lst ys)) { s with heap := s.heap.update l (Obj.mapSeq f), toks := t' } := by
  have q := PySem.IsL.update e f
  rw [hf] at q
  refine I.write (x := l) (e := l) (by rw [hH]; exact trivial) (.inl rfl) (fun b' u hb hu => (Heap.get?_update_other s.heap (Obj.mapSeq f) (Ne.symm hb)).trans hu) ⟨_, q⟩ ?_
  exact ⟨hz, its', _, hv, q⟩
theorem Inv.lnew {its : List Value} {t' : Nat} (I : Inv X pins σ H s) (hv : Vals ys its) (hz : ys.length ≤ sizeLine) :
    Inv X pins σ (upd H s.heap.objs.size (.lst ys)) { s with heap := s.heap.push { cls := .type "list", data := .seq its.toArray }, toks := t' } :=
  I.laid (fun _ _ q => Heap.get?_push_of_some _ q) (Nat.le_refl _) ⟨hz, its, 0, hv, Heap.get?_push_size _ rfl⟩
theorem Inv.fresh (I : Inv X pins σ H s) : H s.heap.objs.size = none := I.hok.fresh (Nat.le_refl _)
theorem Inv.lstM (I : Inv X pins σ H s) (hH : H l = some (.lst xs)) : xs.length ≤ sizeLine ∧ ∃ (its : List Value) (n : Nat), Vals xs its ∧ xs.length = its.length ∧ s.heap.get? l = some { cls := .type "list", data := .seq its.toArray n } := by
  obtain ⟨z, its, n, r, e⟩ := I.hok l _ hH
  exact ⟨z, its, n, r, r.length, e⟩

theorem notLongL {n : Nat} (h : n ≤ sizeLine) : Builtin.List.listTooLong n = false := by
  unfold Builtin.List.listTooLong
  exact decide_eq_false (by omega)
end

section
variable {X : Cx}

/-! ### methods -/
def rAppend : V → List V → Hp → VK → Prop := fun x vs H Q => ∃ l xs y, x = .ref l ∧ vs = [y] ∧ H l = some (.lst xs) ∧ xs.length < sizeLine ∧ Q .non (upd H l (.lst (xs ++ [y])))
theorem mt_append : MtM X "list.append" rAppend := by
  intro pins s σ H x vs v us Q I rx rv h
  obtain ⟨l, xs, y, rfl, rfl, hH, hz, q⟩ := h
  cases rx
  obtain ⟨u, rfl, ru⟩ := rv.one
  obtain ⟨z, its, n, r, hl, e⟩ := I.lstM hH
  refine call_meets F.slot_list_append ⟨_, e, rfl⟩ F.entry_list_append (F.args_list_append_2 _ _) (PySem.list_append l its.toArray n u (by rw [List.size_toArray]; omega)) ⟨e, ?_⟩
  refine ⟨.non, _, I.lset (its' := its ++ [u]) hH e (by simp) (r.append (.cons ru .nil)) ?_, rfl, q⟩
  rw [List.length_append, List.length_singleton]
  omega

def rExtend : V → List V → Hp → VK → Prop := fun x vs H Q => ∃ l b xs zs, x = .ref l ∧ vs = [.ref b] ∧ H l = some (.lst xs) ∧ H b = some (.lst zs) ∧ xs.length + zs.length ≤ sizeLine ∧ Q .non (upd H l (.lst (xs ++ zs)))
theorem mt_extend : MtM X "list.extend" rExtend := by
  intro pins s σ H x vs v us Q I rx rv h
  obtain ⟨l, b, xs, zs, rfl, rfl, hH, hB, hz, q⟩ := h
  cases rx
  obtain ⟨u, rfl, ru⟩ := rv.one
  cases ru
  obtain ⟨z, its, n, r, hl, e⟩ := I.lstM hH
  obtain ⟨z2, its2, n2, r2, hl2, e2⟩ := I.lstM hB
  have hsz : its.toArray.size + its2.toArray.size ≤ sizeLine := by rw [List.size_toArray, List.size_toArray]; omega
  have hlong : ¬ (!its.toArray.isEmpty && Builtin.List.listTooLong (its.toArray.size + its2.toArray.size)) = true := by
    rw [notLongL hsz, Bool.and_false]
    exact Bool.false_ne_true
  refine call_meets F.slot_list_extend ⟨_, e, rfl⟩ F.entry_list_extend (F.args_list_extend_2 _ _)
    (AutoSeq1.list_extend_list_list_0 l its.toArray n b its2.toArray n2 hlong (by rw [List.size_toArray]; omega) (by omega)) ⟨e, e2, ?_⟩
  refine ⟨.non, _, I.lset (its' := its ++ its2) hH e (by simp) (r.append r2) ?_, rfl, q⟩
  rw [List.length_append]
  omega

def rPop : V → List V → Hp → VK → Prop := fun x vs H Q => ∃ l xs y, x = .ref l ∧ vs = [] ∧ H l = some (.lst xs) ∧ xs[xs.length - 1]? = some y ∧ Q y (upd H l (.lst xs.dropLast))
theorem mt_pop : MtM X "list.pop" rPop := by
  intro pins s σ H x vs v us Q I rx rv h
  obtain ⟨l, xs, y, rfl, rfl, hH, hy, q⟩ := h
  cases rx
  have hus := rv.zero
  subst hus
  obtain ⟨z, its, n, r, hl, e⟩ := I.lstM hH
  obtain ⟨u, hu, ru⟩ := r.get hy
  have hy' : its.toArray[its.toArray.size - 1]? = some u := by
    show its.toArray[its.length - 1]? = some u
    rw [← Array.getElem?_toList, ← hl]
    exact hu
  refine call_meets F.slot_list_pop ⟨_, e, rfl⟩ F.entry_list_pop (F.args_list_pop_1 _) (MeetsSeq.list_pop_last l its.toArray n u hy' (by rw [List.size_toArray]; omega)) ⟨e, ?_⟩
  refine ⟨y, _, I.lset (its' := its.dropLast) hH e ?_ r.dropLast ?_, ru, q⟩
  · show its.toArray.eraseIdxIfInBounds (its.toArray.size - 1) = its.dropLast.toArray
    rw [List.size_toArray, List.eraseIdxIfInBounds_toArray, erase_last]
  · rw [List.length_dropLast]
    omega

def rPopAt : V → List V → Hp → VK → Prop := fun x vs H Q => ∃ l xs i k y, x = .ref l ∧ vs = [.int i] ∧ H l = some (.lst xs) ∧ -(2 ^ 63) ≤ i ∧ i < 2 ^ 63 ∧ seqIndex? i xs.length = some k ∧ xs[k]? = some y ∧ Q y (upd H l (.lst (xs.eraseIdx k)))
theorem mt_popAt : MtM X "list.pop" rPopAt := by
  intro pins s σ H x vs v us Q I rx rv h
  obtain ⟨l, xs, i, k, y, rfl, rfl, hH, h1, h2, hk, hy, q⟩ := h
  cases rx
  obtain ⟨u, rfl, ru⟩ := rv.one
  obtain ⟨t, rfl⟩ := ru
  obtain ⟨z, its, n, r, hl, e⟩ := I.lstM hH
  obtain ⟨w, hw, rw'⟩ := r.get hy
  refine call_meets F.slot_list_pop ⟨_, e, rfl⟩ F.entry_list_pop (F.args_list_pop_2 _ _)
    (MeetsSeq.list_pop_at l its.toArray n i t k w (fitsIndex_both h1 h2) (by rw [List.size_toArray, ← hl]; exact hk) (by rw [← Array.getElem?_toList]; exact hw) (by rw [List.size_toArray]; omega)) ⟨e, ?_⟩
  refine ⟨y, _, I.lset (its' := its.eraseIdx k) hH e ?_ (r.eraseIdx k) ?_, rw', q⟩
  · show its.toArray.eraseIdxIfInBounds k = (its.eraseIdx k).toArray
    rw [List.eraseIdxIfInBounds_toArray]
  · have := len_erase xs k
    omega

def rReverse : V → List V → Hp → VK → Prop := fun x vs H Q => ∃ l xs, x = .ref l ∧ vs = [] ∧ H l = some (.lst xs) ∧ Q .non (upd H l (.lst xs.reverse))
theorem mt_reverse : MtM X "list.reverse" rReverse := by
  intro pins s σ H x vs v us Q I rx rv h
  obtain ⟨l, xs, rfl, rfl, hH, q⟩ := h
  cases rx
  have hus := rv.zero
  subst hus
  obtain ⟨z, its, n, r, hl, e⟩ := I.lstM hH
  refine call_meets F.slot_list_reverse ⟨_, e, rfl⟩ F.entry_list_reverse (F.args_list_reverse_1 _) (AutoSeq1.list_reverse_list_0 l its.toArray n (by rw [List.size_toArray]; omega)) ⟨e, ?_⟩
  refine ⟨.non, _, I.lset (its' := its.reverse) hH e (by simp) r.reverse ?_, rfl, q⟩
  rw [List.length_reverse]
  omega

def rClear : V → List V → Hp → VK → Prop := fun x vs H Q => ∃ l xs, x = .ref l ∧ vs = [] ∧ H l = some (.lst xs) ∧ Q .non (upd H l (.lst []))
theorem mt_clear : MtM X "list.clear" rClear := by
  intro pins s σ H x vs v us Q I rx rv h
  obtain ⟨l, xs, rfl, rfl, hH, q⟩ := h
  cases rx
  have hus := rv.zero
  subst hus
  obtain ⟨z, its, n, r, hl, e⟩ := I.lstM hH
  refine call_meets F.slot_list_clear ⟨_, e, rfl⟩ F.entry_list_clear (F.args_list_clear_1 _) (AutoSeq1.list_clear_list_0 l its.toArray n (by rw [List.size_toArray]; omega)) ⟨e, ?_⟩
  exact ⟨.non, _, I.lset (its' := []) (ys := []) hH e rfl .nil (Nat.zero_le _), rfl, q⟩

/-! ### list + list, list += list, list * int -/
def rCat : R2 := fun x y H Q => ∃ l b xs zs, x = .ref l ∧ y = .ref b ∧ H l = some (.lst xs) ∧ H b = some (.lst zs) ∧ xs.length + zs.length ≤ sizeLine ∧ ∀ p, H p = none → Q (.ref p) (upd H p (.lst (xs ++ zs)))
theorem op_cat : OpR X (binaryOp .Add) rCat := by
  intro pins s σ H x y v u Q I rx ry h
  obtain ⟨l, b, xs, zs, rfl, rfl, hH, hB, hz, q⟩ := h
  cases rx
  cases ry
  obtain ⟨z, its, n, r, hl, e⟩ := I.lstM hH
  obtain ⟨z2, its2, n2, r2, hl2, e2⟩ := I.lstM hB
  refine PySem.P.add_list e e2 ?_ (by rw [List.size_toArray, List.size_toArray]; omega)
  have ea : its.toArray ++ its2.toArray = (its ++ its2).toArray := by simp
  rw [ea]
  exact ⟨.ref _, _, I.lnew (t' := s.toks) (r.append r2) (by rw [List.length_append]; omega), rfl, q _ I.fresh⟩
/-- a list times an int (a negative one is nothing) -/
def rRep : R2 := fun x y H Q => ∃ l k xs, x = .ref l ∧ y = .int k ∧ H l = some (.lst xs) ∧ -(2 ^ 63) ≤ k ∧ k < 2 ^ 63 ∧ xs.length * k.toNat ≤ sizeLine ∧
  ∀ p, H p = none → Q (.ref p) (upd H p (.lst (List.replicate k.toNat xs).flatten))
theorem len_rep {α : Type} (xs : List α) (k : Nat) : (List.replicate k xs).flatten.length = k * xs.length := by
  induction k with
  | zero => simp
  | succ k ih => rw [List.replicate_succ, List.flatten_cons, List.length_append, ih, Nat.succ_mul, Nat.add_comm]
theorem op_rep : OpR X (binaryOp .Mult) rRep := by
  intro pins s σ H x y v u Q I rx ry h
  obtain ⟨l, k, xs, rfl, rfl, hH, h1, h2, hz, q⟩ := h
  cases rx
  obtain ⟨t, rfl⟩ := ry
  obtain ⟨z, its, n, r, hl, e⟩ := I.lstM hH
  have hlen : its.toArray.size * k.toNat ≤ sizeLine := by rw [List.size_toArray, ← hl]; exact hz
  have hcap : ¬ its.toArray.size * k.toNat > (2 ^ 63 - 1) / 8 := by
    have : (sizeLine : Nat) ≤ (2 ^ 63 - 1) / 8 := by decide
    omega
  have hfit : ¬ (!Builtin.List.listFitsIndex k) = true := by
    rw [fitsIndex_both h1 h2]
    exact Bool.false_ne_true
  have hlong : ¬ Builtin.List.listTooLong (its.toArray.size * k.toNat) = true := by
    rw [notLongL hlen]
    exact Bool.false_ne_true
  have hnew : List.foldl (fun x1 x2 => x1 ++ x2) #[] (List.replicate (if its.toArray.isEmpty = true then 0 else k.toNat) its.toArray) = (List.replicate k.toNat its).flatten.toArray := by
    have f0 : ∀ m : Nat, List.foldl (fun x1 x2 => x1 ++ x2) #[] (List.replicate m its.toArray) = (List.replicate m its).flatten.toArray := fun m => by
      have := foldl_rep its m []
      rw [List.nil_append] at this
      exact this
    rw [f0]
    cases its with
    | nil => simp
    | cons a r' => rw [if_neg (by simp)]
  refine wpAny_binaryOp_repeat_ref (T := "list") (U := "int") (by decide) ⟨_, e, rfl⟩ (fun s' => typeIs_int s' k t) noFill_list_mul F.fills_int_mul F.slot_int_rmul repeat_list F.slot_int_index.lookup
    (call_meets F.slot_int_rmul (typeIs_int s k t) F.entry_int_rmul (F.args_int_rmul_2 _ _) (int___rmul___int_list k t l its.toArray n)
      ⟨e, rfl, ⟨_, e, rfl⟩, call_meets F.slot_list_mul ⟨_, e, rfl⟩ F.entry_list_mul (F.args_list_mul_2 _ _) (AutoListH.list___mul___list_int_3 l its.toArray n k t hfit hcap hlong) ⟨e, ?_⟩⟩)
  rw [hnew]
  exact ⟨.ref _, _, I.lnew (t' := s.toks) (r.rep k.toNat) (by rw [len_rep, Nat.mul_comm]; exact hz), rfl, q _ I.fresh⟩

/-! ### del xs[i] -/
theorem del_list {pins : List (Addr × Obj)} {s : Shared} {σ : St} {H : Hp} {l : Addr} {xs : List V} {i : Int} {t : Tok} {k : Nat} {Q : Unit → Shared → Prop} (I : Inv X pins σ H s) (hH : H l = some (.lst xs))
    (h1 : -(2 ^ 63) ≤ i) (h2 : i < 2 ^ 63) (hk : seqIndex? i xs.length = some k) (h : ∀ s', Inv X pins σ (upd H l (.lst (xs.eraseIdx k))) s' → Q () s') :
    wpAny (model X.prog X.w) X.A (delItem (.ref l) (.int i t)) Q X.xe s := by
  obtain ⟨z, its, n, r, hl, e⟩ := I.lstM hH
  refine PySem.P.delItem_list (k := k) e (fitsIndex_both h1 h2) (by rw [List.size_toArray, ← hl]; exact hk) (h _ ?_) (by rw [List.size_toArray]; omega)
  refine I.lset (its' := its.eraseIdx k) (t' := s.toks) hH e ?_ (r.eraseIdx k) ?_
  · show its.toArray.eraseIdxIfInBounds k = (its.eraseIdx k).toArray
    rw [List.eraseIdxIfInBounds_toArray]
  · have := len_erase xs k
    omega
end

/-! ### xs[a:b] = ys -/
section
variable {prog : Program} {w : World} {A : Around} {E : Value → Shared → Prop} {s : Shared}
theorem splice_eq (its its2 : List Value) (a c : Nat) : its.toArray.extract 0 a ++ its2.toArray ++ its.toArray.extract c its.toArray.size = (its.take a ++ its2 ++ its.drop c).toArray := by
  apply Array.toList_inj.mp
  first
    | (simp
       exact List.take_of_length_le (by simp))
    | simp [List.take_of_length_le]
    | simp
theorem bounds_run {a c n : Nat} (hac : a ≤ c) (hc : c ≤ n) : sliceBounds (some (a : Int)) (some (c : Int)) none n = ((a : Int), (c : Int), 1) := by
  simp only [sliceBounds, Option.getD_none]
  have h1 : ¬ ((a : Int) < 0) := by omega
  have h2 : ¬ ((c : Int) < 0) := by omega
  simp only [h1, h2, if_false, show (1 : Int) > 0 by decide, if_true]
  congr 1
  · omega
  · congr 1; omega
set_option maxRecDepth 100000 in
/-- list.__setitem__ with a slice of step one and another list -/
theorem setItem_slice {l b sl : Addr} {items new : Array Value} {n n2 : Nat} {vl vu : Value} {a c : Nat} {Q : Unit → Shared → Prop}
    (e : s.heap.get? l = some { cls := .type "list", data := .seq items n }) (e2 : s.heap.get? b = some { cls := .type "list", data := .seq new n2 }) (hne : l ≠ b)
    (hs : s.heap.IsSliceOf sl vl vu .none) (pl : IsPart vl (some (a : Int))) (pu : IsPart vu (some (c : Int))) (hac : a ≤ c) (hc : c ≤ items.size)
    (hsz : items.size + new.size ≤ sizeLine) (h : Q () { s with heap := s.heap.update l (Obj.mapSeq fun xs => xs.extract 0 a ++ new ++ xs.extract c xs.size) }) :
    wpAny (model prog w) A (setItem (.ref l) (.ref sl) (.ref b)) Q E s := by
  have hl : s.heap.IsList l items := PySem.IsL.isList e
  have hb : s.heap.IsList b new := PySem.IsL.isList e2
  obtain ⟨os, hos, hcs, hds⟩ := id hs
  have hTs : s.TypeIs (.ref sl) "slice" := ⟨os, hos, hcs⟩
  have hstep : ¬ ((rawPart none == rawInt 0) = true) := Bool.false_ne_true
  have hsame : Builtin.List.listSameRef (.ref l) (.ref b) = false := by
    unfold Builtin.List.listSameRef
    exact beq_eq_false_iff_ne.mpr hne
  have hmax : (max (a : Int) (c : Int)).toNat = c := by omega
  have hz' : ((fun xs : Array Value => xs.extract 0 a ++ new ++ xs.extract c xs.size) items).size ≤ sizeLine + 1 := by
    simp only [Array.size_append, Array.size_extract]
    omega
  unfold setItem
  try with_reducible refine wpAny_holding ?_
  first | refine wpAny_bind (wpAny_pure ?_) | skip
  refine wpAny_bind (wpAny_sequenceKey hl.typeIs (by decide) ?_)
  refine wpAny_bind (wpAny_callSpecial?_slot (name := Str.ofString "__setitem__") hl.typeIs slot_list_setitem
    (wpAny_call_entry slot_list_setitem hl.typeIs entry_list_setitem ?_ (args_list_setitem _ _ _)))
  show wpAny _ _ (Builtin.List.listSubscript? (.ref sl) >>= _) _ _ s
  refine wpAny_bind ?_
  unfold Builtin.List.listSubscript?
  refine wpAny_bind (wpAny_specialOf hTs slice_no_index ?_)
  simp only [Option.isNone_none, if_true]
  refine wpAny_pure ?_
  show wpAny _ _ (typeOf (.ref sl) >>= _) _ _ s
  refine wpAny_bind (wpAny_typeOf hTs ?_)
  first
    | rw [if_neg (by decide)]
    | refine PySem.W.KFB.if_not (by decide) ?_
  rw [listSliceParts_eq]
  refine wpAny_bind (wpAny_bind (wpAny_field hos hds (x := .none) rfl (wpAny_bind (wpAny_listPart .none ?_))))
  rw [if_neg hstep]
  refine wpAny_bind (wpAny_field hos hds (x := vl) rfl (wpAny_bind (wpAny_listPart pl ?_)))
  refine wpAny_bind (wpAny_field hos hds (x := vu) rfl (wpAny_bind (wpAny_listPart pu (wpAny_pure ?_))))
  first
    | simp only [hsame, Bool.false_eq_true, if_false]
    | refine PySem.W.KFB.if_not hsame ?_
    | (dsimp only
       rw [if_neg (by rw [hsame]; exact Bool.false_ne_true)])
  refine wpAny_bind (m := Builtin.List.listAllItems (.ref b) "must assign iterable to extended slice") ?_
  unfold Builtin.List.listAllItems
  refine wpAny_bind (wpAny_typeOf hb.typeIs ?_)
  first
    | refine PySem.W.KFB.if_so (by decide) ?_
    | rw [if_pos (by decide)]
    | simp only [beq_self_eq_true, Bool.true_or, if_true]
  unfold Builtin.List.listItems
  refine wpAny_bind (wpAny_seqItems e2 rfl (wpAny_pure ?_))
  refine wpAny_bind (wpAny_bind (wpAny_seqItems e rfl (wpAny_pure ?_)))
  refine wpAny_bind (wpAny_of_eq ((sliceIndices_raw (some (a : Int)) (some (c : Int)) none items.size (by simp)).trans (congrArg (pure : Int × Int × Int → Sem (Int × Int × Int)) (bounds_run hac hc))) ?_)
  show wpAny _ _ (if ((1 : Int) == 1) = true then _ else _) _ _ s
  rw [if_pos (by decide)]
  refine wpAny_bind (wpAny_rule ?_)
  first
    | simp only [notLongL hsz, Bool.false_eq_true, if_false]
    | refine PySem.W.KFB.if_not (notLongL hsz) ?_
  first | refine wpAny_bind (wpAny_pure ?_) | skip
  show wpAny _ _ (updateSeq l (fun xs => xs.extract 0 ((a : Int)).toNat ++ new ++ xs.extract (max (a : Int) (c : Int)).toNat xs.size) >>= _) _ _ s
  rw [hmax, Int.toNat_natCast]
  refine wpAny_bind (wpAny_updateSeq (hz := Nat.le_trans (Nat.le_add_right _ _) hsz) (_hz' := hz') e rfl ?_)
  refine wpAny_bind (wpAny_letGo ?_)
  first
    | exact wpAny_bind (wpAny_pure (wpAny_pure ⟨.none, rfl, wpAny_pure h⟩))
    | exact wpAny_pure ⟨.none, rfl, wpAny_pure h⟩
end

section
variable {X : Cx}
/-- xs[a:c] = ys of another list, at the value level: sl is the slice object that was just made -/
theorem set_slice {pins : List (Addr × Obj)} {s : Shared} {σ : St} {H : Hp} {l b sl : Addr} {xs ys : List V} {a c : Int} {vl vu : Value} {Q : Unit → Shared → Prop} (I : Inv X pins σ H s)
    (hH : H l = some (.lst xs)) (hB : H b = some (.lst ys)) (hne : l ≠ b) (hs : s.heap.IsSliceOf sl vl vu .none) (ra : RelV (.int a) vl) (rc : RelV (.int c) vu) (h0 : 0 ≤ a) (hac : a ≤ c) (hc : c ≤ xs.length)
    (hz : xs.length + ys.length ≤ sizeLine) (h : ∀ s', Inv X pins σ (upd H l (.lst (xs.take a.toNat ++ ys ++ xs.drop c.toNat))) s' → Q () s') :
    wpAny (model X.prog X.w) X.A (setItem (.ref l) (.ref sl) (.ref b)) Q X.xe s := by
  obtain ⟨ta, rfl⟩ := ra
  obtain ⟨tc, rfl⟩ := rc
  obtain ⟨z, its, n, r, hl, e⟩ := I.lstM hH
  obtain ⟨z2, its2, n2, r2, hl2, e2⟩ := I.lstM hB
  obtain ⟨a', rfl⟩ := Int.eq_ofNat_of_zero_le h0
  obtain ⟨c', rfl⟩ := Int.eq_ofNat_of_zero_le (Int.le_trans h0 hac)
  simp only [Int.toNat_natCast] at h
  refine setItem_slice (a := a') (c := c') e e2 hne hs (.int _ _) (.int _ _) (by omega) (by rw [List.size_toArray]; omega) (by rw [List.size_toArray, List.size_toArray]; omega) (h _ ?_)
  refine I.lset (its' := its.take a' ++ its2 ++ its.drop c') (t' := s.toks) hH e ?_ (Vals.append (Vals.append (r.take _) r2) (r.drop _)) ?_
  · exact splice_eq its its2 a' c'
  · rw [List.length_append, List.length_append, List.length_take, List.length_drop]
    omega
end
end L2

namespace L2
open PySem PySem.Spec PyProof.Rows

/-! ### lists of pairs as tables -/
section
variable {κ : Type} [DecidableEq κ]
def valV (kvs : List (κ × V)) (k : κ) : Option V := (kvs.find? fun kv => decide (kv.1 = k)).map (·.2)
/-- in its place, or at the end -/
def putK (kvs : List (κ × V)) (k : κ) (v : V) : List (κ × V) :=
  if (kvs.any fun kv => decide (kv.1 = k)) = true then kvs.map (fun kv => if kv.1 = k then (kv.1, v) else kv) else kvs ++ [(k, v)]
def dropK (kvs : List (κ × V)) (k : κ) : List (κ × V) := kvs.filter fun kv => decide (kv.1 ≠ k)

theorem valV_nil {k : κ} : valV ([] : List (κ × V)) k = none := rfl
theorem valV_pos {p : κ × V} {r : List (κ × V)} {k : κ} (e : p.1 = k) : valV (p :: r) k = some p.2 := by simp [valV, List.find?_cons, e]
theorem valV_neg {p : κ × V} {r : List (κ × V)} {k : κ} (e : ¬ p.1 = k) : valV (p :: r) k = valV r k := by simp [valV, List.find?_cons, e]
theorem valV_any (k : κ) : ∀ kvs : List (κ × V), (kvs.any fun kv => decide (kv.1 = k)) = (valV kvs k).isSome
  | [] => rfl
  | p :: r => by
    rw [List.any_cons]
    by_cases e : p.1 = k
    · simp only [valV_pos e, decide_eq_true e, Bool.true_or, Option.isSome_some]
    · rw [valV_neg e, decide_eq_false e, Bool.false_or]; exact valV_any k r
theorem valV_map (k j : κ) (y : V) : ∀ kvs : List (κ × V), valV (kvs.map fun kv => if kv.1 = k then (kv.1, y) else kv) j = (valV kvs j).map fun x => if j = k then y else x
  | [] => rfl
  | p :: r => by
    have ih := valV_map k j y r
    rw [List.map_cons]
    by_cases h : p.1 = k
    · rw [if_pos h]
      by_cases e : p.1 = j
      · rw [valV_pos (p := (p.1, y)) e, valV_pos e, Option.map_some, if_pos (e.symm.trans h)]
      · rw [valV_neg (p := (p.1, y)) e, valV_neg e, ih]
    · rw [if_neg h]
      by_cases e : p.1 = j
      · rw [valV_pos (p := p) e, valV_pos e, Option.map_some, if_neg (fun z => h (e.trans z))]
      · rw [valV_neg (p := p) e, valV_neg e, ih]
theorem valV_snoc (k j : κ) (y : V) : ∀ kvs : List (κ × V), valV kvs k = none → valV (kvs ++ [(k, y)]) j = if j = k then some y else valV kvs j
  | [], _ => by
    by_cases e : k = j
    · rw [if_pos e.symm]; exact valV_pos (p := (k, y)) e
    · rw [if_neg (fun z => e z.symm)]; exact valV_neg (p := (k, y)) e
  | p :: r, hn => by
    rw [List.cons_append]
    have hk : ¬ p.1 = k := fun z => by rw [valV_pos z] at hn; cases hn
    rw [valV_neg hk] at hn
    have ih := valV_snoc k j y r hn
    by_cases e : p.1 = j
    · rw [valV_pos e, valV_pos e, if_neg (fun z => hk (e.trans z))]
    · rw [valV_neg e, valV_neg e, ih]
theorem valV_put (kvs : List (κ × V)) (k j : κ) (y : V) : valV (putK kvs k y) j = if j = k then some y else valV kvs j := by
  unfold putK
  by_cases a : (kvs.any fun kv => decide (kv.1 = k)) = true
  · rw [if_pos a, valV_map]
    rw [valV_any] at a
    by_cases e : j = k
    · obtain ⟨x, hx⟩ := Option.isSome_iff_exists.mp a
      rw [if_pos e, e, hx, Option.map_some, if_pos rfl]
    · rw [if_neg e]
      cases valV kvs j with
      | none => rfl
      | some x => rw [Option.map_some, if_neg e]
  · rw [if_neg a]
    refine valV_snoc k j y kvs ?_
    rw [valV_any] at a
    cases q : valV kvs k with
    | none => rfl
    | some x => rw [q] at a; exact (a rfl).elim
theorem length_putK (kvs : List (κ × V)) (k : κ) (v : V) : (putK kvs k v).length ≤ kvs.length + 1 := by
  unfold putK
  split
  · rw [List.length_map]; omega
  · rw [List.length_append, List.length_cons, List.length_nil]; omega
theorem putK_new {kvs : List (κ × V)} {k : κ} (v : V) (h : valV kvs k = none) : putK kvs k v = kvs ++ [(k, v)] := by
  unfold putK
  rw [valV_any, h]
  exact if_neg (by decide)

theorem RelO.isSome_eq {o : Option V} {u : Option Value} (r : RelO o u) : o.isSome = u.isSome := by
  cases o with
  | none => cases u with
    | none => rfl
    | some _ => exact (show False from r).elim
  | some _ => cases u with
    | none => exact (show False from r).elim
    | some _ => rfl
theorem RelO.getD {o : Option V} {u : Option Value} {d : V} {d' : Value} (r : RelO o u) (rd : RelV d d') : RelV (o.getD d) (u.getD d') := by
  cases o with
  | none => cases u with
    | none => exact rd
    | some _ => exact (show False from r).elim
  | some _ => cases u with
    | none => exact (show False from r).elim
    | some _ => exact r

/-- raw tables of the same keys -/
theorem KV.val {kvs : List (κ × V)} {vs : List (κ × Value)} (r : KV kvs vs) (k : κ) : RelO (valV kvs k) (valueAt vs k) := by
  unfold KV at r
  induction r with
  | nil => exact True.intro
  | @cons p q ps qs h t ih =>
    obtain ⟨h1, h2⟩ := h
    by_cases e : p.1 = k
    · have e' : q.1 = k := h1.symm.trans e
      have b : valueAt (q :: qs) k = some q.2 := by simp [valueAt, List.find?_cons, e']
      rw [valV_pos e, b]; exact h2
    · have e' : ¬ q.1 = k := fun z => e (h1.trans z)
      have b : valueAt (q :: qs) k = valueAt qs k := by simp [valueAt, List.find?_cons, e']
      rw [valV_neg e, b]; exact ih
theorem KV.any {kvs : List (κ × V)} {vs : List (κ × Value)} (r : KV kvs vs) (k : κ) : (kvs.any fun kv => decide (kv.1 = k)) = vs.any fun kv => decide (kv.1 = k) := by
  unfold KV at r
  induction r with
  | nil => rfl
  | cons h t ih => rw [List.any_cons, List.any_cons, ih, h.1]
theorem KV.repl {kvs : List (κ × V)} {vs : List (κ × Value)} (r : KV kvs vs) (k : κ) {y : V} {u : Value} (ry : RelV y u) :
    KV (kvs.map fun kv => if kv.1 = k then (kv.1, y) else kv) (vs.map fun kv => if kv.1 = k then (kv.1, u) else kv) := by
  unfold KV at r ⊢
  induction r with
  | nil => exact .nil
  | @cons p q ps qs h t ih =>
    rw [List.map_cons, List.map_cons]
    refine .cons ?_ ih
    obtain ⟨h1, h2⟩ := h
    by_cases e : p.1 = k
    · rw [if_pos e, if_pos (h1.symm.trans e)]; exact ⟨h1, ry⟩
    · rw [if_neg e, if_neg (fun z => e (h1.trans z))]; exact ⟨h1, h2⟩
theorem KV.put {kvs : List (κ × V)} {vs : List (κ × Value)} (r : KV kvs vs) (k : κ) {y : V} {u : Value} (ry : RelV y u) : KV (putK kvs k y) (stored vs k u) := by
  unfold putK stored
  rw [r.any k]
  by_cases e : (vs.any fun kv => decide (kv.1 = k)) = true
  · rw [if_pos e, if_pos e]; exact r.repl k ry
  · rw [if_neg e, if_neg e]; exact Paired.snoc r ⟨rfl, ry⟩
theorem KV.drop {kvs : List (κ × V)} {vs : List (κ × Value)} (r : KV kvs vs) (k : κ) : KV (dropK kvs k) (without vs k) := by
  unfold KV at r ⊢
  unfold dropK without
  induction r with
  | nil => exact .nil
  | @cons p q ps qs h t ih =>
    obtain ⟨h1, h2⟩ := h
    rw [List.filter_cons, List.filter_cons]
    by_cases e : p.1 = k
    · have a : ¬ decide (p.1 ≠ k) = true := by simp [e]
      have b : ¬ decide (q.1 ≠ k) = true := by simp [h1.symm.trans e]
      rw [if_neg a, if_neg b]; exact ih
    · have e' : ¬ q.1 = k := fun z => e (h1.trans z)
      have a : decide (p.1 ≠ k) = true := by simp [e]
      have b : decide (q.1 ≠ k) = true := by simp [e']
      rw [if_pos a, if_pos b]; exact .cons ⟨h1, h2⟩ ih
theorem KV.keys {kvs : List (κ × V)} {vs : List (κ × Value)} (r : KV kvs vs) : kvs.map (·.1) = vs.map (·.1) := by
  unfold KV at r
  induction r with
  | nil => rfl
  | cons h t ih => rw [List.map_cons, List.map_cons, ih, h.1]
theorem KV.length {kvs : List (κ × V)} {vs : List (κ × Value)} (r : KV kvs vs) : kvs.length = vs.length := Paired.length r
theorem dropK_le (kvs : List (κ × V)) (k : κ) : (dropK kvs k).length ≤ kvs.length := List.length_filter_le _ _
end


/-! ### a tracked dict, its keys ints and texts or tuples of these -/
theorem kV_is {P : Program} {w : World} {k : Key} {u : Value} (r : RelV (kV k) u) : (mixKind P w).is k u = true := by
  cases k with
  | inl i => obtain ⟨t, e⟩ := (show ∃ t, u = Value.int i t from r); subst e; exact mixKind_int P w i t
  | inr x => obtain ⟨t, e⟩ := (show ∃ t, u = Value.str x t from r); subst e; exact mixKind_str P w x t
theorem kV_inj {a b : Key} (e : kV a = kV b) : a = b := by
  cases a with
  | inl i => cases b with
    | inl j => have e' : V.int i = V.int j := e; injection e' with e'; rw [e']
    | inr y => exact nomatch (show V.int i = V.str y from e)
  | inr x => cases b with
    | inl j => exact nomatch (show V.str x = V.int j from e)
    | inr y => have e' : V.str x = V.str y := e; injection e' with e'; rw [e']
theorem kVs_inj : ∀ {a b : List Key}, a.map kV = b.map kV → a = b
  | [], [], _ => rfl
  | [], _ :: _, e => by simp at e
  | _ :: _, [], e => by simp at e
  | x :: xs, y :: ys, e => by
    rw [List.map_cons, List.map_cons] at e
    injection e with e1 e2
    rw [kV_inj e1, kVs_inj e2]
theorem items_are {P : Program} {w : World} : ∀ {ks : List Key} {us : List Value}, Vals (ks.map kV) us → ItemsAre (mixKind P w) ks us
  | [], _, r => by rw [List.map_nil] at r; cases r; exact .nil
  | k :: ks, _, r => by
    rw [List.map_cons] at r
    cases r with
    | cons h t => exact .cons (kV_is h) (items_are t)

/-- raw entries of a dict with tuple keys -/
abbrev KT (H : Hp) : List (List Key × V) → List (List Key × Addr × Value) → Prop := Paired fun p q => p.1 = q.1 ∧ H q.2.1 = some (.tup (p.1.map kV)) ∧ RelV p.2 q.2.2
theorem KT.val {H : Hp} {kvs : List (List Key × V)} {xs : List (List Key × Addr × Value)} (r : KT H kvs xs) (k : List Key) : RelO (valV kvs k) ((atKey xs k).map (·.2)) := by
  induction r with
  | nil => exact True.intro
  | @cons p q ps qs h t ih =>
    obtain ⟨h1, _, h2⟩ := h
    by_cases e : p.1 = k
    · have e' : q.1 = k := h1.symm.trans e
      have b : atKey (q :: qs) k = some q.2 := by simp [atKey, List.find?_cons, e']
      rw [valV_pos e, b]; exact h2
    · have e' : ¬ q.1 = k := fun z => e (h1.trans z)
      have b : atKey (q :: qs) k = atKey qs k := by simp [atKey, List.find?_cons, e']
      rw [valV_neg e, b]; exact ih
theorem KT.repl {H : Hp} {kvs : List (List Key × V)} {xs : List (List Key × Addr × Value)} (r : KT H kvs xs) (k : List Key) {y : V} {u : Value} (ry : RelV y u) :
    KT H (kvs.map fun kv => if kv.1 = k then (kv.1, y) else kv) (xs.map (putAt k u)) := by
  induction r with
  | nil => exact .nil
  | @cons p q ps qs h t ih =>
    rw [List.map_cons, List.map_cons]
    refine .cons ?_ ih
    obtain ⟨h1, h2, h3⟩ := h
    unfold putAt
    by_cases e : p.1 = k
    · rw [if_pos e, if_pos (h1.symm.trans e)]; exact ⟨h1, h2, ry⟩
    · rw [if_neg e, if_neg (fun z => e (h1.trans z))]; exact ⟨h1, h2, h3⟩
theorem KT.put {H : Hp} {kvs : List (List Key × V)} {xs : List (List Key × Addr × Value)} (r : KT H kvs xs) (k : List Key) {b : Addr} {y : V} {u : Value} (hb : H b = some (.tup (k.map kV))) (ry : RelV y u) :
    KT H (putK kvs k y) (storedH xs k b u) := by
  have e : (kvs.any fun kv => decide (kv.1 = k)) = (atKey xs k).isSome := by
    rw [valV_any, (r.val k).isSome_eq, Option.isSome_map]
  unfold putK storedH
  rw [e]
  by_cases q : (atKey xs k).isSome = true
  · rw [if_pos q, if_pos q]; exact r.repl k ry
  · rw [if_neg q, if_neg q]; exact Paired.snoc r ⟨rfl, hb, ry⟩
theorem KT.keeps {H H' : Hp} {kvs : List (List Key × V)} {xs : List (List Key × Addr × Value)} (r : KT H kvs xs) (ht : ∀ b ys, H b = some (.tup ys) → H' b = some (.tup ys)) : KT H' kvs xs :=
  Paired.mapP r fun _ _ z => ⟨z.1, ht _ _ z.2.1, z.2.2⟩

section
variable {P : Program} {w : World} {H : Hp} {h : Heap} {a : Addr}
theorem rd_of {u : HO} (ok : HOk P w H h) (e : Rd H a u) : ObjOk P w H h a u := e.ok ok
theorem dk_rd {kvs : List (Key × V)} (ok : HOk P w H h) (e : Rd H a (.dK kvs)) : kvs.length ≤ sizeLine ∧ (a == sysModules) = false ∧ ∃ vs, KV kvs vs ∧ h.DictOf (mixKind P w) a vs :=
  show ObjOk P w H h a (.dK kvs) from rd_of ok e
theorem dk_of {kvs : List (Key × V)} (ok : HOk P w H h) (e : H a = some (.dK kvs)) : kvs.length ≤ sizeLine ∧ (a == sysModules) = false ∧ ∃ vs, KV kvs vs ∧ h.DictOf (mixKind P w) a vs := dk_rd ok (.inl e)
/-- a tracked tuple of ints and texts is a key -/
theorem key_of {ks : List Key} (ok : HOk P w H h) (e : H a = some (.tup (ks.map kV))) : (tupleKind (mixKind P w)).is h ks a := by
  obtain ⟨_, its, r, o, h1, h2, n, h3⟩ := (show ObjOk P w H h a (.tup (ks.map kV)) from ok a _ e)
  exact ⟨o, its.toArray, n, h1, h2, h3, by simpa using items_are r⟩
theorem dt_rd {kvs : List (List Key × V)} (ok : HOk P w H h) (e : Rd H a (.dT kvs)) : kvs.length ≤ sizeLine ∧ (a == sysModules) = false ∧
    ∃ xs, KT H kvs xs ∧ h.DictOfH (tupleKind (mixKind P w)) a xs := by
  obtain ⟨z, y, xs, r, o, es, ep, h1, h2, h3, h4, h5⟩ := (show ObjOk P w H h a (.dT kvs) from rd_of ok e)
  refine ⟨z, y, xs, r, o, es, ep, h1, h2, h3, h4, fun x hx => ?_, h5⟩
  have all : ∀ {l : List (List Key × V)} {m : List (List Key × Addr × Value)}, KT H l m → ∀ x ∈ m, (tupleKind (mixKind P w)).is h x.1 x.2.1 := by
    intro l m q
    induction q with
    | nil => intro x hx; exact nomatch hx
    | @cons p q ps qs hq t ih =>
      intro x hx
      rcases List.mem_cons.mp hx with e | hx
      · subst e
        exact key_of ok (by rw [← hq.1]; exact hq.2.1)
      · exact ih x hx
  exact all r x hx
theorem dt_of {kvs : List (List Key × V)} (ok : HOk P w H h) (e : H a = some (.dT kvs)) : kvs.length ≤ sizeLine ∧ (a == sysModules) = false ∧
    ∃ xs, KT H kvs xs ∧ h.DictOfH (tupleKind (mixKind P w)) a xs := dt_rd ok (.inl e)
end

/-- what the dict at a holds at the key y -/
def DGet (H : Hp) (a : Addr) (y : V) (r : Option V) : Prop :=
  (∃ kvs k, Rd H a (.dK kvs) ∧ y = kV k ∧ r = valV kvs k) ∨ ∃ kvs k b, Rd H a (.dT kvs) ∧ y = .ref b ∧ H b = some (.tup (k.map kV)) ∧ r = valV kvs k
/-- the heap behind a[y] = v -/
def DPut (H : Hp) (a : Addr) (y v : V) (H' : Hp) : Prop :=
  (∃ kvs k, H a = some (.dK kvs) ∧ y = kV k ∧ kvs.length < sizeLine ∧ H' = upd H a (.dK (putK kvs k v))) ∨
  ∃ kvs k b, H a = some (.dT kvs) ∧ y = .ref b ∧ H b = some (.tup (k.map kV)) ∧ kvs.length < sizeLine ∧ H' = upd H a (.dT (putK kvs k v))
theorem DGet.k {H : Hp} {a : Addr} {kvs : List (Key × V)} {k : Key} (e : H a = some (.dK kvs)) : DGet H a (kV k) (valV kvs k) := .inl ⟨kvs, k, .inl e, rfl, rfl⟩
theorem DGet.t {H : Hp} {a b : Addr} {kvs : List (List Key × V)} {k : List Key} (e : H a = some (.dT kvs)) (eb : H b = some (.tup (k.map kV))) : DGet H a (.ref b) (valV kvs k) := .inr ⟨kvs, k, b, .inl e, rfl, eb, rfl⟩
theorem DPut.k {H : Hp} {a : Addr} {kvs : List (Key × V)} {k : Key} {v : V} (e : H a = some (.dK kvs)) (hl : kvs.length < sizeLine) : DPut H a (kV k) v (upd H a (.dK (putK kvs k v))) := .inl ⟨kvs, k, e, rfl, hl, rfl⟩
theorem DPut.t {H : Hp} {a b : Addr} {kvs : List (List Key × V)} {k : List Key} {v : V} (e : H a = some (.dT kvs)) (eb : H b = some (.tup (k.map kV))) (hl : kvs.length < sizeLine) :
    DPut H a (.ref b) v (upd H a (.dT (putK kvs k v))) := .inr ⟨kvs, k, b, e, rfl, eb, hl, rfl⟩


section
variable {X : Cx} {pins : List (Addr × Obj)} {σ : St} {H : Hp} {s : Shared} {a : Addr} {y v : V} {u r : Value} {o : Option V} {A : Around} {E : Value → Shared → Prop}

theorem Inv.big (I : Inv X pins σ H s) : sysModules < s.heap.objs.size := by
  have h : mainGlobals < s.heap.objs.size := (I.mod.glob.keeps I.bk).lt
  exact Nat.lt_trans (by decide) h

/-- d[y], there -/
theorem d_getItem {Q : Value → Shared → Prop} (hu : A.units + 1 < cLine) (I : Inv X pins σ H s) (g : DGet H a y (some v)) (ry : RelV y u) (h : ∀ w' s', Inv X pins σ H s' → RelV v w' → Q w' s') :
    wpAny (model X.prog X.w) A (getItem (.ref a) u) Q E s := by
  rcases g with ⟨kvs, k, e, ey, l⟩ | ⟨kvs, k, b, e, ey, eb, l⟩
  · subst ey
    obtain ⟨z, hd, vs, rel, dd⟩ := dk_rd I.hok e
    obtain ⟨w', hw, rw'⟩ := RelO.some_of (v := v) (o := valueAt vs k) (by rw [l]; exact rel.val k)
    exact wpAny_getItem_of (kV_is ry) dd.mapOf hw (h w' _ (I.tok _) rw')
  · subst ey
    cases (show u = Value.ref b from ry)
    obtain ⟨z, hd, xs, rel, dd⟩ := dt_rd I.hok e
    obtain ⟨w', hw, rw'⟩ := RelO.some_of (v := v) (o := (atKey xs k).map (·.2)) (by rw [l]; exact rel.val k)
    obtain ⟨p, hp, hp2⟩ := Option.map_eq_some_iff.mp hw
    refine wpAny_getItem_heap (tupleKind_room_in1 hu) (key_of I.hok eb) dd hp ?_
    rw [hp2]
    exact h w' _ (I.tok _) rw'
/-- y in d -/
theorem d_in {Q : Value → Shared → Prop} (hu : A.units + 1 < cLine) (I : Inv X pins σ H s) (g : DGet H a y o) (ry : RelV y u) (h : ∀ s', Inv X pins σ H s' → Q (.bool o.isSome) s') :
    wpAny (model X.prog X.w) A (compareOp .In u (.ref a)) Q E s := by
  rcases g with ⟨kvs, k, e, ey, l⟩ | ⟨kvs, k, b, e, ey, eb, l⟩
  · subst ey
    obtain ⟨z, hd, vs, rel, dd⟩ := dk_rd I.hok e
    refine wpAny_in_of (kV_is ry) hd dd.mapOf ?_
    rw [← (rel.val k).isSome_eq, ← l]
    exact h _ (I.tok _)
  · subst ey
    cases (show u = Value.ref b from ry)
    obtain ⟨z, hd, xs, rel, dd⟩ := dt_rd I.hok e
    refine wpAny_in_heap (tupleKind_room_in1 hu) (key_of I.hok eb) hd dd ?_
    have q := (rel.val k).isSome_eq
    rw [Option.isSome_map] at q
    rw [← q, ← l]
    exact h _ (I.tok _)
theorem d_notIn {Q : Value → Shared → Prop} (hu : A.units + 1 < cLine) (I : Inv X pins σ H s) (g : DGet H a y o) (ry : RelV y u) (h : ∀ s', Inv X pins σ H s' → Q (.bool (!o.isSome)) s') :
    wpAny (model X.prog X.w) A (compareOp .NotIn u (.ref a)) Q E s := by
  rcases g with ⟨kvs, k, e, ey, l⟩ | ⟨kvs, k, b, e, ey, eb, l⟩
  · subst ey
    obtain ⟨z, hd, vs, rel, dd⟩ := dk_rd I.hok e
    refine wpAny_notIn_of (kV_is ry) hd dd.mapOf ?_
    rw [← (rel.val k).isSome_eq, ← l]
    exact h _ (I.tok _)
  · subst ey
    cases (show u = Value.ref b from ry)
    obtain ⟨z, hd, xs, rel, dd⟩ := dt_rd I.hok e
    refine wpAny_notIn_heap (tupleKind_room_in1 hu) (key_of I.hok eb) hd dd ?_
    have q := (rel.val k).isSome_eq
    rw [Option.isSome_map] at q
    rw [← q, ← l]
    exact h _ (I.tok _)
/-- a dict's object is replaced -/
theorem d_write {h' : Heap} {t' : Nat} {ob : HO} (I : Inv X pins σ H s) (mu : Mut (H a)) (hs : Heap.SameBut a s.heap h') (he : ∃ q, h'.get? a = some q) (new : ObjOk X.prog X.w (upd H a ob) h' a ob) :
    Inv X pins σ (upd H a ob) { s with heap := h', toks := t' } :=
  I.write (x := a) (e := a) mu (.inl rfl) (fun b q hb z => (hs.2 b hb).trans z) he new
theorem dk_new {P : Program} {w : World} {H' : Hp} {h' : Heap} {kvs : List (Key × V)} {vs : List (Key × Value)} (z : kvs.length ≤ sizeLine) (hd : (a == sysModules) = false) (rel : KV kvs vs) (dd : h'.DictOf (mixKind P w) a vs) :
    ObjOk P w H' h' a (.dK kvs) := ⟨z, hd, vs, rel, dd⟩
/-- d[y] = v -/
theorem d_setItem {H' : Hp} {Q : Unit → Shared → Prop} (hu : A.units + 1 < cLine) (I : Inv X pins σ H s) (g : DPut H a y v H') (ry : RelV y u) (rv : RelV v r) (h : ∀ s', Inv X pins σ H' s' → Q () s') :
    wpAny (model X.prog X.w) A (setItem (.ref a) u r) Q E s := by
  rcases g with ⟨kvs, k, e, ey, l, eH⟩ | ⟨kvs, k, b, e, ey, eb, l, eH⟩
  · subst ey eH
    obtain ⟨z, hd, vs, rel, dd⟩ := dk_of I.hok e
    have hz : vs.length ≤ sizeLine := by rw [← rel.length]; exact z
    have hl : (putK kvs k v).length ≤ sizeLine := by have := length_putK kvs k v; omega
    refine wpAny_setItem_pairs (hsz := hz) (kV_is ry) dd fun h' dd' hs => h _ ?_
    have he : ∃ q, h'.get? a = some q := let ⟨q, _, _, hq, _⟩ := dd'; ⟨q, hq⟩
    exact d_write I (by rw [e]; exact True.intro) hs he (dk_new hl hd (rel.put k rv) dd')
  · subst ey eH
    cases (show u = Value.ref b from ry)
    obtain ⟨z, hd, xs, rel, dd⟩ := dt_of I.hok e
    have hz : xs.length ≤ sizeLine := by rw [← Paired.length rel]; exact z
    have hl : (putK kvs k v).length ≤ sizeLine := by have := length_putK kvs k v; omega
    refine wpAny_setItem_heap (hsz := hz) (tupleKind_room_in1 hu) (key_of I.hok eb) dd fun h' dd' hs => h _ ?_
    obtain ⟨q, es, ep, hq, h2, h3, h4, _, h5⟩ := dd'
    refine d_write I (by rw [e]; exact True.intro) hs ⟨q, hq⟩ ⟨hl, hd, _, (rel.put k eb rv).keeps fun c ys ec => ?_, q, es, ep, hq, h2, h3, h4, h5⟩
    rw [upd_ne (ne_of ec e (fun z => nomatch z))]
    exact ec
end

section
variable {X : Cx} {pins : List (Addr × Obj)} {σ : St} {H : Hp} {s : Shared} {a : Addr} {kvs : List (Key × V)} {k : Key} {u : Value} {A : Around} {E : Value → Shared → Prop}
/-- del d[k] -/
theorem d_delItem {Q : Unit → Shared → Prop} (I : Inv X pins σ H s) (e : H a = some (.dK kvs)) (ry : RelV (kV k) u) (l : (valV kvs k).isSome = true) (h : ∀ s', Inv X pins σ (upd H a (.dK (dropK kvs k))) s' → Q () s') :
    wpAny (model X.prog X.w) A (delItem (.ref a) u) Q E s := by
  obtain ⟨z, hd, vs, rel, dd⟩ := dk_of I.hok e
  refine wpAny_delItem_slot dd.typeIs (by decide) PySem.F.slot_dict_delitem
    (call_meetsIn PySem.F.slot_dict_delitem dd.typeIs PySem.F.entry_dict_delitem (PySem.F.args_dict_delitem_2 _ _) (meets_dict_delitem_pairs (mixKind X.prog X.w) a (kV_is ry)) ⟨vs, dd, by rw [← rel.length]; exact z, by rw [← (rel.val k).isSome_eq]; exact l, fun h' dd' hs => h _ ?_⟩)
  have he : ∃ q, h'.get? a = some q := let ⟨q, _, _, hq, _⟩ := dd'; ⟨q, hq⟩
  exact d_write I (by rw [e]; exact True.intro) hs he (dk_new (Nat.le_trans (dropK_le kvs k) z) hd (rel.drop k) dd')
/-- d.pop(k[, x]), there -/
theorem d_pop {v : V} {more : List Value} {Q : Value → Shared → Prop} (I : Inv X pins σ H s) (e : H a = some (.dK kvs)) (ry : RelV (kV k) u) (l : valV kvs k = some v) (hm : more = [] ∨ ∃ x, more = [x])
    (h : ∀ w' s', Inv X pins σ (upd H a (.dK (dropK kvs k))) s' → RelV v w' → Q w' s') : wpAny (model X.prog X.w) A (call (.builtin "dict.pop") (.ref a :: u :: more)) Q E s := by
  obtain ⟨z, hd, vs, rel, dd⟩ := dk_of I.hok e
  obtain ⟨w', hw, rw'⟩ := RelO.some_of (v := v) (o := valueAt vs k) (by rw [← l]; exact rel.val k)
  have hp : (keyPart u).isSome = true := by
    cases k with
    | inl i => obtain ⟨t, q⟩ := (show ∃ t, u = Value.int i t from ry); subst q; rfl
    | inr x => obtain ⟨t, q⟩ := (show ∃ t, u = Value.str x t from ry); subst q; rfl
  have ha : argsOk "dict.pop" ⟨.ref a :: u :: more, []⟩ := by
    rcases hm with q | ⟨x, q⟩
    · subst q; exact PySem.F.args_dict_pop_2 _ _
    · subst q; exact PySem.F.args_dict_pop_3 _ _ _
  refine call_meetsIn PySem.F.slot_dict_pop dd.typeIs PySem.F.entry_dict_pop ha (meets_dict_pop_there (mixKind X.prog X.w) a (kV_is ry) more hm hp)
    ⟨vs, w', dd, by rw [← rel.length]; exact z, hw, fun h' dd' hs => h w' _ ?_ rw'⟩
  have he : ∃ q, h'.get? a = some q := let ⟨q, _, _, hq, _⟩ := dd'; ⟨q, hq⟩
  exact d_write I (by rw [e]; exact True.intro) hs he (dk_new (Nat.le_trans (dropK_le kvs k) z) hd (rel.drop k) dd')
/-- d.pop(k, x), not there -/
theorem d_popD {r : Value} {Q : Value → Shared → Prop} (I : Inv X pins σ H s) (e : H a = some (.dK kvs)) (ry : RelV (kV k) u) (l : valV kvs k = none) (h : ∀ s', Inv X pins σ H s' → Q r s') :
    wpAny (model X.prog X.w) A (call (.builtin "dict.pop") [.ref a, u, r]) Q E s := by
  obtain ⟨z, hd, vs, rel, dd⟩ := dk_of I.hok e
  have hn : valueAt vs k = none := RelO.none_of (by rw [← l]; exact rel.val k)
  have hp : (keyPart u).isSome = true := by
    cases k with
    | inl i => obtain ⟨t, q⟩ := (show ∃ t, u = Value.int i t from ry); subst q; rfl
    | inr x => obtain ⟨t, q⟩ := (show ∃ t, u = Value.str x t from ry); subst q; rfl
  exact call_meetsIn PySem.F.slot_dict_pop dd.typeIs PySem.F.entry_dict_pop (PySem.F.args_dict_pop_3 _ _ _) (meets_dict_pop_default (mixKind X.prog X.w) a (kV_is ry) hd hp r) ⟨vs, dd, hn, h _ (I.tok _)⟩
/-- d.clear() -/
theorem d_clear {Q : Value → Shared → Prop} (I : Inv X pins σ H s) (e : H a = some (.dK kvs)) (h : ∀ s', Inv X pins σ (upd H a (.dK [])) s' → Q .none s') : wpAny (model X.prog X.w) A (call (.builtin "dict.clear") [.ref a]) Q E s := by
  obtain ⟨z, hd, vs, rel, dd⟩ := dk_of I.hok e
  refine call_meetsIn PySem.F.slot_dict_clear dd.typeIs PySem.F.entry_dict_clear (PySem.F.args_dict_clear_1 _) (meets_dict_clear (mixKind X.prog X.w) a) ⟨vs, dd, by rw [← rel.length]; exact z, fun h' dd' hs => h _ ?_⟩
  have he : ∃ q, h'.get? a = some q := let ⟨q, _, _, hq, _⟩ := dd'; ⟨q, hq⟩
  exact d_write (t' := s.toks) I (by rw [e]; exact True.intro) hs he (dk_new (Nat.zero_le _) hd .nil dd')
/-- len(d) -/
theorem d_len {Q : Value → Shared → Prop} (I : Inv X pins σ H s) (e : Rd H a (.dK kvs)) (h : ∀ t s', Inv X pins σ H s' → Q (.int kvs.length t) s') : wpAny (model X.prog X.w) A (call (.builtin "len") [.ref a]) Q E s := by
  obtain ⟨z, hd, vs, rel, dd⟩ := dk_rd I.hok e
  refine call_len_dict hd dd (by rw [← rel.length]; rw [sizeLine_eq] at z; omega) ?_
  rw [← rel.length]
  exact h _ _ (I.tok _)
/-- if d -/
theorem d_truth {Q : Bool → Shared → Prop} (I : Inv X pins σ H s) (e : Rd H a (.dK kvs)) (h : ∀ s', Inv X pins σ H s' → Q (!kvs.isEmpty) s') : wpAny (model X.prog X.w) A (truthy (.ref a)) Q E s := by
  obtain ⟨z, hd, vs, rel, dd⟩ := dk_rd I.hok e
  refine wpAny_truthy_dict hd dd (by rw [← rel.length]; rw [sizeLine_eq] at z; omega) ?_
  have q : kvs.isEmpty = vs.isEmpty := by cases rel <;> rfl
  rw [← q]
  exact h _ (I.tok _)
end


/-! ### readings and rules -/
/-- the element of a subscription, not a slice -/
def NoSl (i : Expr) : Prop := ∀ ov iv, subscripted i false ov iv = operate [ov, iv] (getItem ov iv)
theorem subD_of {prog : Program} {w : World} {A : Around} {E : Value → Shared → Prop} {s : Shared} {env : Env} {value slice : Expr} {pos : Pos} {T id : String} {Q : Value → Shared → Prop}
    (hl : typeLookup (.type T) "__getitem__" = pure (some (.builtin id))) (hs : NoSl slice)
    (h : wpAny (model prog w) A (eval value env) (fun o s₁ => wpAny (model prog w) A (eval slice env) (fun i s₂ => s₂.TypeIs o T ∧ wpAny (model prog w) A (getItem o i) Q E s₂) E s₁) E s) :
    wpAny (model prog w) A (eval (.Subscript value slice pos) env) Q E s := by
  refine Subscript_ (wpAny_mono h (fun o s₁ h₁ => wpAny_mono h₁ (fun i s₂ h₂ => ?_) fun _ _ x => x) fun _ _ x => x)
  obtain ⟨hT, h₂⟩ := h₂
  unfold subscriptTail
  refine wpAny_bind ?_
  rw [getitemInPython_of_ne hT.not_modules]
  refine wpAny_bind (wpAny_specialOf hT hl ?_)
  have fin : wpAny (model prog w) A (subscripted slice false o i) (fun r s₃ => wpAny (model prog w) A (letTemporaryGo value o r >>= fun _ => pure r) Q E s₃) E s₂ := by
    rw [hs o i]
    exact wpAny_operating (wpAny_mono h₂ (fun r s₃ h₃ => wpAny_bind (wpAny_letTemporaryGo (wpAny_pure h₃))) fun _ _ x => x)
  first
    | exact wpAny_pure (wpAny_bind fin)
    | exact wpAny_bind (wpAny_pure (wpAny_bind fin))
    | exact wpAny_bind fin

theorem dict_typeIs {X : Cx} {pins : List (Addr × Obj)} {σ : St} {H : Hp} {s : Shared} {a : Addr} {y : V} {o : Option V} (I : Inv X pins σ H s) (g : DGet H a y o) : s.TypeIs (.ref a) "dict" := by
  rcases g with ⟨kvs, k, e, _, _⟩ | ⟨kvs, k, b, e, _, _, _⟩
  · obtain ⟨_, _, vs, _, dd⟩ := dk_rd I.hok e
    exact dd.typeIs
  · obtain ⟨_, _, xs, _, dd⟩ := dt_rd I.hok e
    exact dd.typeIs
theorem dict_noDict {X : Cx} {pins : List (Addr × Obj)} {σ : St} {H : Hp} {s : Shared} {a : Addr} {y : V} {o : Option V} (I : Inv X pins σ H s) (g : DGet H a y o) :
    ∀ b, Value.ref a = .ref b → ∃ ob, s.heap.get? b = some ob ∧ ob.dict = none := fun b q => by
  cases q
  rcases g with ⟨kvs, k, e, _, _⟩ | ⟨kvs, k, b, e, _, _, _⟩
  · obtain ⟨_, _, vs, _, ob, _, _, h1, h2, _⟩ := dk_rd I.hok e
    exact ⟨ob, h1, h2.2.1⟩
  · obtain ⟨_, _, xs, _, ob, _, _, h1, h2, _⟩ := dt_rd I.hok e
    exact ⟨ob, h1, h2.2.1⟩

/-- d[y] -/
def tDGet (td ty : TE) : TE := fun σ H Q => td σ H fun x H1 => ty σ H1 fun y H2 => ∃ a v, x = .ref a ∧ DGet H2 a y (some v) ∧ Q v H2
/-- y in d, y not in d -/
def tDIn (ty td : TE) : TE := fun σ H Q => ty σ H fun y H1 => td σ H1 fun x H2 => ∃ a o, x = .ref a ∧ DGet H2 a y o ∧ Q (.bl o.isSome) H2
def tDNotIn (ty td : TE) : TE := fun σ H Q => ty σ H fun y H1 => td σ H1 fun x H2 => ∃ a o, x = .ref a ∧ DGet H2 a y o ∧ Q (.bl (!o.isSome)) H2
/-- d[y] = v -/
def sDPut (td ty tv : TE) : TS := fun D σ H => tv σ H fun v H1 => td σ H1 fun x H2 => ty σ H2 fun y H3 => ∃ a H4, x = .ref a ∧ DPut H3 a y v H4 ∧ D.nx σ H4
/-- d[y] op= v -/
def sDAug (td ty tv : TE) (rd : V → V → Hp → VK → Prop) : TS := fun D σ H => td σ H fun x H1 => ty σ H1 fun y H2 => ∃ a v, x = .ref a ∧ DGet H2 a y (some v) ∧
  tv σ H2 fun y2 H3 => rd v y2 H3 fun z H4 => ∃ H5, DPut H4 a y z H5 ∧ D.nx σ H5
/-- del d[y] -/
def sDDel (td ty : TE) : TS := fun D σ H => td σ H fun x H1 => ty σ H1 fun y H2 => ∃ a kvs k, x = .ref a ∧ H2 a = some (.dK kvs) ∧ y = kV k ∧ (valV kvs k).isSome = true ∧ D.nx σ (upd H2 a (.dK (dropK kvs k)))

section
variable {X : Cx} {o i e value : Expr} {pos pos' tpos : Pos} {td ty tv : TE}
theorem pe_dget (hu : X.A.units + 1 < cLine) (ho : PE X o td) (hi : PE X i ty) (hs : NoSl i) : PE X (.Subscript o i pos) (tDGet td ty) := by
  intro pins s σ H Q I h
  refine subD_of PySem.F.slot_dict_getitem.lookup hs (thn (ho pins s σ H _ I h) fun u s1 ⟨x, H1, I1, rx, q1⟩ => thn (hi pins s1 σ H1 _ I1 q1) fun iv s2 ⟨y, H2, I2, ry, a, v, ex, g, q2⟩ => ?_)
  subst ex
  obtain rfl : u = Value.ref a := rx
  exact ⟨dict_typeIs I2 g, d_getItem hu I2 g ry fun w' s3 I3 rw' => ⟨v, H2, I3, rw', q2⟩⟩
theorem pc_din (hu : X.A.units + 1 < cLine) (hi : PE X i ty) (ho : PE X o td) : PC X .In i o (tDIn ty td) := by
  intro pins s σ H Q I h
  refine thn (hi pins s σ H _ I h) fun iv s1 ⟨y, H1, I1, ry, q1⟩ => thn (ho pins s1 σ H1 _ I1 q1) fun u s2 ⟨x, H2, I2, rx, a, ov, ex, g, q2⟩ => ?_
  subst ex
  obtain rfl : u = Value.ref a := rx
  exact d_in hu I2 g ry fun s3 I3 => ⟨.bl ov.isSome, H2, I3, rfl, q2⟩
theorem pc_dnotin (hu : X.A.units + 1 < cLine) (hi : PE X i ty) (ho : PE X o td) : PC X .NotIn i o (tDNotIn ty td) := by
  intro pins s σ H Q I h
  refine thn (hi pins s σ H _ I h) fun iv s1 ⟨y, H1, I1, ry, q1⟩ => thn (ho pins s1 σ H1 _ I1 q1) fun u s2 ⟨x, H2, I2, rx, a, ov, ex, g, q2⟩ => ?_
  subst ex
  obtain rfl : u = Value.ref a := rx
  exact d_notIn hu I2 g ry fun s3 I3 => ⟨.bl (!ov.isSome), H2, I3, rfl, q2⟩
theorem ps_dput (hu : X.A.units + 1 < cLine) (ho : PE X o td) (hi : PE X i ty) (hv : PE X value tv) (hs : swapsWith value (some (.Subscript o i pos')) pos.line X.env = pure false) :
    PS X (.Assign [.Subscript o i pos'] value pos) (sDPut td ty tv) := by
  intro pins s σ H D I h
  refine wpAny_Assign_Subscript (thn (hv pins s σ H _ I h) fun r s1 ⟨v, H1, I1, rv, q1⟩ => thn (ho pins s1 σ H1 _ I1 q1) fun u s2 ⟨x, H2, I2, rx, q2⟩ => thn (hi pins s2 σ H2 _ I2 q2) fun iv s3 ⟨y, H3, I3, ry, a, H4, ex, g, q3⟩ => ?_) hs
  subst ex
  obtain rfl : u = Value.ref a := rx
  exact d_setItem hu I3 g ry rv fun s4 I4 => ⟨σ, H4, I4, q3⟩
theorem ps_daug {op : Operator} {rd : V → V → Hp → VK → Prop} (hu : X.A.units + 1 < cLine) (ho : PE X o td) (hi : PE X i ty) (hv : PE X value tv) (hop : InOp X op rd)
    (ha : ∀ ov iv new, augStore i ov iv new = (do holding [new, ov, iv] (setItem ov iv new); release [new, ov, iv] []; pure .next)) : PS X (.AugAssign (.Subscript o i tpos) op value pos) (sDAug td ty tv rd) := by
  intro pins s σ H D I h
  refine wpAny_AugAssign_SubscriptAny (thn (ho pins s σ H _ I h) fun u s1 ⟨x, H1, I1, rx, q1⟩ => thn (hi pins s1 σ H1 _ I1 q1) fun iv s2 ⟨y, H2, I2, ry, a, v, ex, g, q2⟩ => ?_) ha
  subst ex
  obtain rfl : u = Value.ref a := rx
  refine d_getItem hu I2 g ry fun w' s3 I3 rw' => thn (hv pins s3 σ H2 _ I3 q2) fun w2 s4 ⟨y2, H3, I4, ry2, q3⟩ => thn (hop pins s4 σ H3 v y2 w' w2 _ I4 rw' ry2 q3) fun w3 s5 ⟨z, H4, I5, rz, H5, g5, q4⟩ => ?_
  exact d_setItem hu I5 g5 ry rz fun s6 I6 => ⟨σ, H5, I6, q4⟩
theorem ps_ddel (ho : PE X o td) (hi : PE X i ty) : PS X (.Delete [.Subscript o i tpos] pos) (sDDel td ty) := by
  intro pins s σ H D I h
  refine wpAny_Delete (wpAny_deleteEach_cons (wpAny_delete_Subscript (thn (ho pins s σ H _ I h) fun u s1 ⟨x, H1, I1, rx, q1⟩ => thn (hi pins s1 σ H1 _ I1 q1) fun iv s2 ⟨y, H2, I2, ry, a, kvs, k, ex, e, ey, l, q2⟩ => ?_)))
  subst ex ey
  obtain rfl : u = Value.ref a := rx
  exact d_delItem I2 e ry l fun s3 I3 => wpAny_deleteEach_nil ⟨σ, _, I3, q2⟩
end


/-! ### displays -/
theorem dk_empty {P : Program} {w : World} {H : Hp} (h : Heap) (hb : sysModules < h.objs.size) : ObjOk P w H (h.push { cls := .type "dict", data := .dict #[] }) h.objs.size (.dK []) :=
  ⟨Nat.zero_le _, beq_eq_false_iff_ne.mpr (Ne.symm (Nat.ne_of_lt hb)), [], .nil, Heap.DictOf.new h⟩
theorem dt_empty {P : Program} {w : World} {H : Hp} (h : Heap) (hb : sysModules < h.objs.size) : ObjOk P w H (h.push { cls := .type "dict", data := .dict #[] }) h.objs.size (.dT []) :=
  ⟨Nat.zero_le _, beq_eq_false_iff_ne.mpr (Ne.symm (Nat.ne_of_lt hb)), [], .nil, _, #[], 0, Heap.get?_push_size _ rfl, ⟨rfl, rfl, rfl⟩, rfl, rfl, List.nodup_nil⟩
/-- {}, to be a dict of the kind that is wanted -/
def tDNewK : TE := fun _ H Q => ∀ p, H p = none → Q (.ref p) (upd H p (.dK []))
def tDNewT : TE := fun _ H Q => ∀ p, H p = none → Q (.ref p) (upd H p (.dT []))
section
variable {X : Cx} {pos : Pos}
theorem pe_dnewK : PE X (.Dict [] [] pos) tDNewK := fun pins s σ H Q I h =>
  wpAny_Dict_empty ⟨.ref s.heap.objs.size, _, I.laid (a := s.heap.objs.size) (o := .dK []) (t' := s.toks) (fun _ _ q => Heap.get?_push_of_some _ q) (Nat.le_refl _) (dk_empty s.heap I.big), rfl, h _ (I.hok.fresh (Nat.le_refl _))⟩
theorem pe_dnewT : PE X (.Dict [] [] pos) tDNewT := fun pins s σ H Q I h =>
  wpAny_Dict_empty ⟨.ref s.heap.objs.size, _, I.laid (a := s.heap.objs.size) (o := .dT []) (t' := s.toks) (fun _ _ q => Heap.get?_push_of_some _ q) (Nat.le_refl _) (dt_empty s.heap I.big), rfl, h _ (I.hok.fresh (Nat.le_refl _))⟩
end

/-- the pairs of a display, from the left -/
def tPairs : List (TE × TE) → St → Hp → (List (V × V) → Hp → Prop) → Prop
  | [], _, H, Q => Q [] H
  | (tk, tv) :: r, σ, H, Q => tk σ H fun x H1 => tv σ H1 fun y H2 => tPairs r σ H2 fun ps H3 => Q ((x, y) :: ps) H3
abbrev VV : List (V × V) → List (Value × Value) → Prop := Paired fun p q => RelV p.1 q.1 ∧ RelV p.2 q.2
def PPs (X : Cx) (pos : Pos) (keys : List (Option Expr)) (values : List Expr) (trs : List (TE × TE)) : Prop :=
  ∀ (pins : List (Addr × Obj)) (s : Shared) (σ : St) (H : Hp) (Q : List (V × V) → Hp → Prop), Inv X pins σ H s → tPairs trs σ H Q →
    wpAny (model X.prog X.w) X.A (evalPairs (pairTrees keys values X.env pos)) (fun vs s' => ∃ ps H', Inv X pins σ H' s' ∧ VV ps vs ∧ Q ps H') X.xe s
theorem pps_nil {X : Cx} {pos : Pos} : PPs X pos [] [] [] := fun pins s σ H Q I h => pairTrees_nil_walk ⟨[], H, I, .nil, h⟩
theorem pps_cons {X : Cx} {pos : Pos} {k v : Expr} {ks : List (Option Expr)} {vs : List Expr} {tk tv : TE} {trs : List (TE × TE)} (hk : PE X k tk) (hv : PE X v tv) (hr : PPs X pos ks vs trs) :
    PPs X pos (some k :: ks) (v :: vs) ((tk, tv) :: trs) := fun pins s σ H Q I h =>
  pairTrees_cons_walk (thn (hk pins s σ H _ I h) fun u s1 ⟨x, H1, I1, rx, q1⟩ => thn (hv pins s1 σ H1 _ I1 q1) fun w2 s2 ⟨y, H2, I2, ry, q2⟩ =>
    thn (hr pins s2 σ H2 _ I2 q2) fun ws s3 ⟨ps, H3, I3, rel, q3⟩ => ⟨(x, y) :: ps, H3, I3, .cons ⟨rx, ry⟩ rel, q3⟩)

def mergeK (kvs more : List (Key × V)) : List (Key × V) := more.foldl (fun acc kv => putK acc kv.1 kv.2) kvs
theorem KV.merge : ∀ {more : List (Key × V)} {rs : List (Key × Value)} {kvs : List (Key × V)} {vs : List (Key × Value)}, KV more rs → KV kvs vs → KV (mergeK kvs more) (merged vs rs) := by
  intro more rs kvs vs r
  unfold KV at r
  induction r generalizing kvs vs with
  | nil => intro q; exact q
  | @cons p q ps qs h t ih =>
    intro r0
    have e : KV (putK kvs p.1 p.2) (stored vs q.1 q.2) := by
      have := r0.put p.1 h.2
      rw [← h.1]; exact this
    exact ih e
theorem length_mergeK : ∀ (more kvs : List (Key × V)), (mergeK kvs more).length ≤ kvs.length + more.length
  | [], kvs => by show kvs.length ≤ kvs.length + 0; omega
  | p :: r, kvs => by
    have h1 := length_mergeK r (putK kvs p.1 p.2)
    have h2 := length_putK kvs p.1 p.2
    show (mergeK (putK kvs p.1 p.2) r).length ≤ _
    rw [List.length_cons]; omega
theorem carries_of {P : Program} {w : World} : ∀ {kvs : List (Key × V)} {ws : List (Value × Value)}, VV (kvs.map fun kv => (kV kv.1, kv.2)) ws → ∃ rs, Carries (mixKind P w) ws rs ∧ KV kvs rs
  | [], _, r => by rw [List.map_nil] at r; cases r; exact ⟨[], True.intro, .nil⟩
  | p :: kvs, _, r => by
    rw [List.map_cons] at r
    cases r with
    | @cons a b as bs h t =>
      obtain ⟨rs, c, q⟩ := carries_of (P := P) (w := w) t
      obtain ⟨b1, b2⟩ := b
      exact ⟨(p.1, b2) :: rs, ⟨kV_is h.1, rfl, c⟩, .cons ⟨rfl, h.2⟩ q⟩
/-- {k: v, ..} with keys ints and texts; the new dict stands empty while the pairs are made -/
def tDisp (trs : List (TE × TE)) : TE := fun σ H Q => ∀ p, H p = none → tPairs trs σ (upd H p (.dK [])) fun ps H2 => H2 p = some (.dK []) ∧ ∃ kvs : List (Key × V), ps = kvs.map (fun kv => (kV kv.1, kv.2)) ∧ kvs.length ≤ 15 ∧ Q (.ref p) (upd H2 p (.dK (mergeK [] kvs)))
theorem pe_disp {X : Cx} {pos : Pos} {keys : List (Option Expr)} {values : List Expr} {trs : List (TE × TE)} (h : PPs X pos keys values trs) (hall : keys.all (·.isSome) = true) (hl : keys.length = values.length) (h0 : keys ≠ [])
    (h15 : keys.length ≤ 15) : PE X (.Dict keys values pos) (tDisp trs) := by
  intro pins s σ H Q I q
  have hn := I.hok.fresh (Nat.le_refl s.heap.objs.size)
  have I1 := I.laid (a := s.heap.objs.size) (o := .dK []) (h' := s.heap.push { cls := .type "dict", data := .dict #[] }) (t' := s.toks) (fun _ _ q => Heap.get?_push_of_some _ q) (Nat.le_refl _) (dk_empty s.heap I.big)
  refine wpAny_Dict_walk (knd := mixKind X.prog X.w) hall hl h0 h15 (thn (h pins _ σ _ _ I1 (q _ hn)) fun ws s2 ⟨ps, H2, I2, rel, e, kvs, ep, lk, q2⟩ => ?_)
  subst ep
  obtain ⟨rs, c, rk⟩ := carries_of (P := X.prog) (w := X.w) rel
  obtain ⟨z, hd, vs0, r0, dd⟩ := dk_of I2.hok e
  cases r0
  refine ⟨rs, c, dd, fun h' dd' hs => ⟨.ref s.heap.objs.size, _, ?_, rfl, q2⟩⟩
  have hz : (mergeK [] kvs).length ≤ sizeLine := by
    have h1 := length_mergeK kvs []
    rw [List.length_nil] at h1
    rw [sizeLine_eq]; omega
  have he : ∃ q, h'.get? s.heap.objs.size = some q := let ⟨q, _, _, hq, _⟩ := dd'; ⟨q, hq⟩
  exact d_write I2 (by rw [e]; exact True.intro) hs he (dk_new hz hd (rk.merge .nil) dd')


/-! ### methods -/
/-- a method call o.m(e) of a built-in, with one argument: what must be seen of the text -/
structure M1 (X : Cx) (o : Expr) (m : Str) (apos : Pos) (e : Expr) (cpos : Pos) : Prop where
  base : attributeBase o m X.env (eval o X.env) = eval o X.env
  few : ((backTo cpos (starEach [e] X.env)).all (fun x => !x.1) && (backToKw cpos (keywordEach [] X.env)).all (fun x => x.1.isSome)
    && decide (([e] : List Expr).length + ([] : List Keyword).length + (if ([] : List Keyword).isEmpty then 0 else 1) < 30)) = true
  line : (apos.endLine == cpos.line) = true
  trees : backTo cpos (starEach [e] X.env) = [(false, eval e X.env)]
structure M2 (X : Cx) (o : Expr) (m : Str) (apos : Pos) (e f : Expr) (cpos : Pos) : Prop where
  base : attributeBase o m X.env (eval o X.env) = eval o X.env
  few : ((backTo cpos (starEach [e, f] X.env)).all (fun x => !x.1) && (backToKw cpos (keywordEach [] X.env)).all (fun x => x.1.isSome)
    && decide (([e, f] : List Expr).length + ([] : List Keyword).length + (if ([] : List Keyword).isEmpty then 0 else 1) < 30)) = true
  line : (apos.endLine == cpos.line) = true
  trees : backTo cpos (starEach [e, f] X.env) = [(false, eval e X.env), (false, eval f X.env)]

/-- a is a dict, whatever its keys -/
def IsD (H : Hp) (a : Addr) : Prop := (∃ kvs, Rd H a (.dK kvs)) ∨ ∃ kvs, Rd H a (.dT kvs)
theorem isD_at {X : Cx} {pins : List (Addr × Obj)} {σ : St} {H : Hp} {s : Shared} {a : Addr} (I : Inv X pins σ H s) (d : IsD H a) :
    s.TypeIs (.ref a) "dict" ∧ (∀ b, Value.ref a = .ref b → ∃ ob, s.heap.get? b = some ob ∧ ob.dict = none) ∧ (a == sysModules) = false := by
  rcases d with ⟨kvs, e⟩ | ⟨kvs, e⟩
  · obtain ⟨_, hd, vs, _, dd⟩ := dk_rd I.hok e
    refine ⟨dd.typeIs, fun b q => ?_, hd⟩
    cases q
    obtain ⟨ob, _, _, h1, h2, _⟩ := dd
    exact ⟨ob, h1, h2.2.1⟩
  · obtain ⟨_, hd, xs, _, dd⟩ := dt_rd I.hok e
    refine ⟨dd.typeIs, fun b q => ?_, hd⟩
    cases q
    obtain ⟨ob, _, _, h1, h2, _⟩ := dd
    exact ⟨ob, h1, h2.2.1⟩

section
variable {X : Cx} {pins : List (Addr × Obj)} {σ : St} {H : Hp} {s : Shared} {a : Addr} {y d : V} {u r : Value} {o : Option V} {A : Around} {E : Value → Shared → Prop}
/-- d.get(y) -/
theorem d_get1 {Q : Value → Shared → Prop} (hu : A.units + 1 < cLine) (I : Inv X pins σ H s) (g : DGet H a y o) (ry : RelV y u) (h : ∀ w' s', Inv X pins σ H s' → RelV (o.getD .non) w' → Q w' s') :
    wpAny (model X.prog X.w) A (call (.builtin "dict.get") [.ref a, u]) Q E s := by
  rcases g with ⟨kvs, k, e, ey, l⟩ | ⟨kvs, k, b, e, ey, eb, l⟩
  · subst ey
    obtain ⟨z, hd, vs, rel, dd⟩ := dk_rd I.hok e
    refine call_meetsIn PySem.F.slot_dict_get dd.typeIs PySem.F.entry_dict_get (PySem.F.args_dict_get_2 _ _) (meets_dict_get (mixKind X.prog X.w) a (kV_is ry) hd) ⟨_, dd.mapOf, h _ _ (I.tok _) ?_⟩
    rw [l]
    exact (rel.val k).getD rfl
  · subst ey
    cases (show u = Value.ref b from ry)
    obtain ⟨z, hd, xs, rel, dd⟩ := dt_rd I.hok e
    refine call_meetsIn PySem.F.slot_dict_get dd.typeIs PySem.F.entry_dict_get (PySem.F.args_dict_get_2 _ _) (meetsH_dict_get (tupleKind (mixKind X.prog X.w)) a b hd) ⟨tupleKind_room_in1 hu, k, xs, key_of I.hok eb, dd, h _ _ (I.tok _) ?_⟩
    rw [l]
    exact (rel.val k).getD rfl
/-- d.get(y, x) -/
theorem d_get2 {Q : Value → Shared → Prop} (hu : A.units + 1 < cLine) (I : Inv X pins σ H s) (g : DGet H a y o) (ry : RelV y u) (rd : RelV d r) (h : ∀ w' s', Inv X pins σ H s' → RelV (o.getD d) w' → Q w' s') :
    wpAny (model X.prog X.w) A (call (.builtin "dict.get") [.ref a, u, r]) Q E s := by
  rcases g with ⟨kvs, k, e, ey, l⟩ | ⟨kvs, k, b, e, ey, eb, l⟩
  · subst ey
    obtain ⟨z, hd, vs, rel, dd⟩ := dk_rd I.hok e
    refine call_meetsIn PySem.F.slot_dict_get dd.typeIs PySem.F.entry_dict_get (PySem.F.args_dict_get_3 _ _ _) (meets_dict_get_default (mixKind X.prog X.w) a (kV_is ry) hd r) ⟨_, dd.mapOf, h _ _ (I.tok _) ?_⟩
    rw [l]
    exact (rel.val k).getD rd
  · subst ey
    cases (show u = Value.ref b from ry)
    obtain ⟨z, hd, xs, rel, dd⟩ := dt_rd I.hok e
    refine call_meetsIn PySem.F.slot_dict_get dd.typeIs PySem.F.entry_dict_get (PySem.F.args_dict_get_3 _ _ _) (meetsH_dict_get_default (tupleKind (mixKind X.prog X.w)) a b hd r) ⟨tupleKind_room_in1 hu, k, xs, key_of I.hok eb, dd, h _ _ (I.tok _) ?_⟩
    rw [l]
    exact (rel.val k).getD rd
end

def tDGet1 (td ty : TE) : TE := fun σ H Q => td σ H fun x H1 => ∃ a, x = .ref a ∧ IsD H1 a ∧ ty σ H1 fun y H2 => ∃ o, DGet H2 a y o ∧ Q (o.getD .non) H2
def tDGet2 (td ty tx : TE) : TE := fun σ H Q => td σ H fun x H1 => ∃ a, x = .ref a ∧ IsD H1 a ∧ ty σ H1 fun y H2 => tx σ H2 fun z H3 => ∃ o, DGet H3 a y o ∧ Q (o.getD z) H3
/-- d.pop(k): there; d.pop(k, x): there or not -/
def tDPop1 (td ty : TE) : TE := fun σ H Q => td σ H fun x H1 => ∃ a, x = .ref a ∧ IsD H1 a ∧ ty σ H1 fun y H2 => ∃ kvs k v, H2 a = some (.dK kvs) ∧ y = kV k ∧ valV kvs k = some v ∧ Q v (upd H2 a (.dK (dropK kvs k)))
def tDPop2 (td ty tx : TE) : TE := fun σ H Q => td σ H fun x H1 => ∃ a, x = .ref a ∧ IsD H1 a ∧ ty σ H1 fun y H2 => tx σ H2 fun z H3 => ∃ kvs k, H3 a = some (.dK kvs) ∧ y = kV k ∧
  (∀ v, valV kvs k = some v → Q v (upd H3 a (.dK (dropK kvs k)))) ∧ (valV kvs k = none → Q z H3)
section
variable {X : Cx} {o e f : Expr} {apos cpos : Pos} {td ty tx : TE}
theorem pe_dget1 (hu : X.A.units + 1 < cLine) (ho : PE X o td) (he : PE X e ty) (m : M1 X o "get" apos e cpos) : PE X (.Call (.Attribute o "get" apos) [e] [] cpos) (tDGet1 td ty) := by
  intro pins s σ H Q I h
  refine wpAny_Call_method m.base m.few m.line PySem.F.plainAttrs_dict PySem.F.slot_dict_get PySem.F.type_dict_get (thn (ho pins s σ H _ I h) fun u s1 ⟨x, H1, I1, rx, a, ex, d, q1⟩ => ?_)
  subst ex
  obtain rfl : u = Value.ref a := rx
  obtain ⟨t1, t2, _⟩ := isD_at I1 d
  refine ⟨t1, t2, ?_⟩
  rw [m.trees]
  refine Calls.callWith_builtin rfl (Calls.evalArgs_plain (Calls.spliced_cons (thn (he pins s1 σ H1 _ I1 q1) fun iv s2 ⟨y, H2, I2, ry, ov, g, q2⟩ => Calls.spliced_nil ?_)))
  exact d_get1 hu I2 g ry fun w' s3 I3 rw' => ⟨_, H2, I3, rw', q2⟩
theorem pe_dget2 (hu : X.A.units + 1 < cLine) (ho : PE X o td) (he : PE X e ty) (hf : PE X f tx) (m : M2 X o "get" apos e f cpos) : PE X (.Call (.Attribute o "get" apos) [e, f] [] cpos) (tDGet2 td ty tx) := by
  intro pins s σ H Q I h
  refine wpAny_Call_method m.base m.few m.line PySem.F.plainAttrs_dict PySem.F.slot_dict_get PySem.F.type_dict_get (thn (ho pins s σ H _ I h) fun u s1 ⟨x, H1, I1, rx, a, ex, d, q1⟩ => ?_)
  subst ex
  obtain rfl : u = Value.ref a := rx
  obtain ⟨t1, t2, _⟩ := isD_at I1 d
  refine ⟨t1, t2, ?_⟩
  rw [m.trees]
  refine Calls.callWith_builtin rfl (Calls.evalArgs_plain (Calls.spliced_cons (thn (he pins s1 σ H1 _ I1 q1) fun iv s2 ⟨y, H2, I2, ry, q2⟩ =>
    Calls.spliced_cons (thn (hf pins s2 σ H2 _ I2 q2) fun fv s3 ⟨z, H3, I3, rz, ov, g, q3⟩ => Calls.spliced_nil ?_))))
  exact d_get2 hu I3 g ry rz fun w' s4 I4 rw' => ⟨_, H3, I4, rw', q3⟩
theorem pe_dpop1 (ho : PE X o td) (he : PE X e ty) (m : M1 X o "pop" apos e cpos) : PE X (.Call (.Attribute o "pop" apos) [e] [] cpos) (tDPop1 td ty) := by
  intro pins s σ H Q I h
  refine wpAny_Call_method m.base m.few m.line PySem.F.plainAttrs_dict PySem.F.slot_dict_pop PySem.F.type_dict_pop (thn (ho pins s σ H _ I h) fun u s1 ⟨x, H1, I1, rx, a, ex, d, q1⟩ => ?_)
  subst ex
  obtain rfl : u = Value.ref a := rx
  obtain ⟨t1, t2, _⟩ := isD_at I1 d
  refine ⟨t1, t2, ?_⟩
  rw [m.trees]
  refine Calls.callWith_builtin rfl (Calls.evalArgs_plain (Calls.spliced_cons (thn (he pins s1 σ H1 _ I1 q1) fun iv s2 ⟨y, H2, I2, ry, kvs, k, v, ea, ey, l, q2⟩ => Calls.spliced_nil ?_)))
  subst ey
  exact d_pop I2 ea ry l (.inl rfl) fun w' s3 I3 rw' => ⟨v, _, I3, rw', q2⟩
theorem pe_dpop2 (ho : PE X o td) (he : PE X e ty) (hf : PE X f tx) (m : M2 X o "pop" apos e f cpos) : PE X (.Call (.Attribute o "pop" apos) [e, f] [] cpos) (tDPop2 td ty tx) := by
  intro pins s σ H Q I h
  refine wpAny_Call_method m.base m.few m.line PySem.F.plainAttrs_dict PySem.F.slot_dict_pop PySem.F.type_dict_pop (thn (ho pins s σ H _ I h) fun u s1 ⟨x, H1, I1, rx, a, ex, d, q1⟩ => ?_)
  subst ex
  obtain rfl : u = Value.ref a := rx
  obtain ⟨t1, t2, _⟩ := isD_at I1 d
  refine ⟨t1, t2, ?_⟩
  rw [m.trees]
  refine Calls.callWith_builtin rfl (Calls.evalArgs_plain (Calls.spliced_cons (thn (he pins s1 σ H1 _ I1 q1) fun iv s2 ⟨y, H2, I2, ry, q2⟩ =>
    Calls.spliced_cons (thn (hf pins s2 σ H2 _ I2 q2) fun fv s3 ⟨z, H3, I3, rz, kvs, k, ea, ey, q3, q4⟩ => Calls.spliced_nil ?_))))
  subst ey
  cases l : valV kvs k with
  | some v => exact d_pop I3 ea ry l (.inr ⟨fv, rfl⟩) fun w' s4 I4 rw' => ⟨v, _, I4, rw', q3 v l⟩
  | none => exact d_popD I3 ea ry l fun s4 I4 => ⟨z, H3, I4, rz, q4 l⟩
end

/-! ### dict(d): a copy -/
section
variable {X : Cx} {pins : List (Addr × Obj)} {σ : St} {H : Hp} {s : Shared} {a : Addr} {kvs : List (Key × V)} {A : Around} {E : Value → Shared → Prop}
theorem d_copyOf {Q : Value → Shared → Prop} (I : Inv X pins σ H s) (e : Rd H a (.dK kvs)) (h : ∀ p s', H p = none → Inv X pins σ (upd H p (.dK kvs)) s' → Q (.ref p) s') : wpAny (model X.prog X.w) A (call (.type "dict") [.ref a]) Q E s := by
  obtain ⟨z, hd, vs, rel, dd⟩ := dk_rd I.hok e
  refine kt_call_dict hd dd (by rw [← rel.length]; exact z) fun h' dd' hs => ?_
  refine h _ _ (I.hok.fresh (Nat.le_refl _)) (I.laid (a := s.heap.objs.size) (o := .dK kvs) (t' := s.toks) (fun b q hq => ?_) (Nat.le_refl _) (dk_new z (beq_eq_false_iff_ne.mpr (Ne.symm (Nat.ne_of_lt I.big))) rel dd'))
  exact (hs.2 b (Nat.ne_of_lt (Heap.lt_size hq))).trans (Heap.get?_push_of_some _ hq)
end


section
variable {X : Cx} {pins : List (Addr × Obj)} {σ : St} {H : Hp} {s : Shared} {a : Addr} {y : V} {u : Value} {A : Around} {E : Value → Shared → Prop}
/-- d[y], not there: a KeyError -/
theorem d_missing {Q : Value → Shared → Prop} (hu : A.units + 1 < cLine) (hh : A.handled = none) (I : Inv X pins σ H s) (g : DGet H a y none) (ry : RelV y u)
    (h : ∀ h' e t', Heap.NewExc s.heap h' e "KeyError" → E (.ref e) { s with heap := h', toks := t' }) : wpAny (model X.prog X.w) A (getItem (.ref a) u) Q E s := by
  rcases g with ⟨kvs, k, e, ey, l⟩ | ⟨kvs, k, b, e, ey, eb, l⟩
  · subst ey
    obtain ⟨z, hd, vs, rel, dd⟩ := dk_rd I.hok e
    have hn : valueAt vs k = none := RelO.none_of (by rw [l]; exact rel.val k)
    exact wpAny_getItem_missing_of (kV_is ry) hd hh dd.mapOf hn fun h' ex ne => h h' ex _ ne
  · subst ey
    cases (show u = Value.ref b from ry)
    obtain ⟨z, hd, xs, rel, dd⟩ := dt_rd I.hok e
    have hn : (atKey xs k).map (·.2) = none := RelO.none_of (by rw [l]; exact rel.val k)
    exact wpAny_getItem_missing_heap (tupleKind_room_in1 hu) (key_of I.hok eb) hd hh dd (Option.map_eq_none_iff.mp hn) fun h' ex ne => h h' ex _ ne
end
end L2

namespace Att
open PySem PySem.W PySem.Calls PyProof.Rows

/-! ### the script -/
theorem ints_of_wellAll {P : Params} {h : Heap} : ∀ (ns : List Int) (vs : List Value), WellAll P h vs (ns.map WData.int) → IntsAre vs ns := by
  intro ns
  induction ns with
  | nil =>
    intro vs w
    rw [List.map_nil] at w
    cases w
    exact .nil
  | cons n ns ih =>
    intro vs w
    rw [List.map_cons] at w
    cases w with
    | cons a b =>
      cases a
      exact .cons _ _ (ih _ b)

theorem script_of {l : OpenLaw} {n : Nat} (hn : l.most = some n) {P : Params} {h : Heap} {args : List WData} {vals : List Value}
    (hpre : l.row.toRowW.claim.pre args = true) (hwl : WellAll P h vals args) :
    ∃ a vs ns, vals = [Value.ref a] ∧ args = [WData.list (ns.map WData.int)] ∧ h.get? a = some { cls := .type "list", data := .seq vs.toArray } ∧ IntsAre vs ns ∧ ns.length ≤ n := by
  have hsh : WShape.hasAll [] args [.list .int] = true := (pre_splitW hpre).1
  have hc : l.pre.holds [] { args := args } = true := (pre_splitW hpre).2
  obtain ⟨d, r, rfl, h1, h2⟩ := hasAllW_cons hsh
  obtain rfl := hasAllW_nil h2
  obtain ⟨xs, rfl, h3⟩ := hasW_list h1
  obtain ⟨ns, rfl⟩ := items_int h3
  have hlen : ns.length ≤ n := by
    unfold OpenLaw.pre at hc
    have h4 : (WTm.not (.lt (.lit (.int (n : Int))) (.len (.arg 0)))).holds [] { args := [.list (ns.map .int)] } = true := by
      have h4 := (holds_andW hc).1
      rw [hn] at h4
      exact h4
    have h5 := condW_of h4 (w_not (w_lt w_lit (w_len_list (w_arg rfl))))
    rw [List.length_map] at h5
    refine Nat.le_of_not_lt fun q => ?_
    have q' : (n : Int) < ((ns.length : Nat) : Int) := by omega
    first
      | (rw [decide_eq_true q'] at h5; exact absurd h5 (by decide))
      | (simp at h5; omega)
  cases hwl with
  | cons w1 w2 =>
    cases w2
    cases w1 with
    | list ho hall => exact ⟨_, _, ns, rfl, rfl, ho, ints_of_wellAll ns _ hall, hlen⟩

theorem post_true (l : OpenLaw) (args : List WData) : l.row.toRowW.claim.post args (.bool true) args = true :=
  postW_of (r := l.row.toRowW) (X := (true == true))
    (show WShape.has [] (.bool true) .bool = true by first | rfl | decide | simp [WShape.has, WShape.arms, WShape.armsAll])
    (show (WTm.eq .res (.lit (.bool true))).value [] { args := args, res := some (.bool true), after := args } = some (.bool (true == true)) from w_eq_bool (w_res rfl) w_lit) rfl

/-! ### the attachment: holds_open's last premise (the goal 'hc' behind k_head) from a wpAny of the law's body -/
theorem attach {l : OpenLaw} {n : Nat} {q : Program} {loose : List Str} {XP : (Str → Option Value) → Heap → Prop} {YP : World → Heap → Prop} {d : DefRec} {x : Str}
    (hn : l.most = some n) (hdf : d.params.defaults = [])
    (hbind : ∀ pm cd doc v : Value, bindArgs (docDef d.name d.params d.body d.scope pm cd doc) ⟨[v], []⟩ = pure [(x, v)])
    (hx : d.scope.names.lookup x = some .local ∨ d.scope.names.lookup x = some .cell)
    (hk : d.scope.kind = .function) (hco : d.scope.isCoroutine = false) (hgen : d.scope.isGenerator = false)
    (body : ∀ (w : World) (s₀ s₁ s : Shared) (mg mb : Str → Option Value) (fa : Addr) (o : Obj) (pm cd doc : Value) (a : Addr) (vs : List Value) (ns : List Int),
      Ground q loose [] XP w s₀ mg mb s₁.heap → YP w s₁.heap →
      s₁.heap.get? fa = some o → o.data = .func (docDef d.name d.params d.body d.scope pm cd doc) → s₁.heap.CodeRec cd d.name → mg d.name = some (.ref fa) →
      s₁.heap.get? a = some { cls := .type "list", data := .seq vs.toArray } → IntsAre vs ns → ns.length ≤ n →
      s.gens = #[] → s.os = s₁.os →
      Fr s₁.heap s₁.heap.objs.size s.heap (bindL (envOfC d.name d.scope s₁.heap.objs.size fa cd).kindOf [(x, .ref a)] fun _ => none) →
      Cl s₁.heap.objs.size (cellsFrom (s₁.heap.objs.size + 1) d.scope.names []) s.heap (bindC (envOfC d.name d.scope s₁.heap.objs.size fa cd).kindOf [(x, .ref a)] fun _ => none) →
      wpAny (model l.prog w) (callerA.deeper (envOfC d.name d.scope s₁.heap.objs.size fa cd)) (execs d.body (envOfC d.name d.scope s₁.heap.objs.size fa cd))
        (fun f s' => f = .ret (.bool true) ∧ OldK s₁.heap s'.heap ∧ s'.os = s₁.os ∧ AllBare s'.gens) (fun _ _ => False) s) :
    WalkO q loose XP YP l.row.toRowW d [] (fun f vs => PySem.call f vs) := by
  intro w s₀ s₁ mg mb G Y fa o pm cd doc dV kV ho hd hcd hD hmg hg args vals as hpre hlay hrd hwl hlo
  obtain rfl : dV = .none := Dflts.none hD hdf
  obtain rfl : kV = .none := Dflts.noKw hD
  obtain ⟨a, vs, ns, rfl, rfl, hobj, hints, hlen⟩ := script_of hn hpre hwl
  refine enter_call ?_
  refine call_cells_ret (o := o) (by rw [depth_caller]; decide) ho (fd_plain hd) G.T.nolimit hcd (hbind pm cd doc (.ref a)) (fun y hy => ?_) (fun h₁ tk F X => ?_) hco hgen hk
  · obtain rfl : y = (x, Value.ref a) := List.mem_singleton.mp hy
    rcases hx with e | e
    · exact .inl e
    · exact .inr ⟨e, cellsFrom_some _ _ _ (.inl e)⟩
  · refine wpAny_mono (body w s₀ s₁ { s₁ with heap := h₁, toks := tk } mg mb fa o pm cd doc a vs ns G Y ho (fd_plain hd) hcd hmg hobj hints hlen hg rfl F X) (fun f s' hq => ?_) (fun _ _ hq => hq)
    obtain ⟨rfl, h2, h3, h4⟩ := hq
    exact ⟨.inl ⟨.bool true, .bool true, [], rfl, fun _ => rfl, .bool true, post_true l _, fun _ => ⟨List.Pairwise.nil, fun _ hm => (nomatch hm)⟩⟩, h2, h3, h4⟩

/-- the same from a codeAny of the CALL (for a layer whose function contracts speak of calls) -/
theorem attach_call {l : OpenLaw} {n : Nat} {q : Program} {loose : List Str} {XP : (Str → Option Value) → Heap → Prop} {YP : World → Heap → Prop} {d : DefRec}
    (hn : l.most = some n) (hdf : d.params.defaults = [])
    (call : ∀ (w : World) (s₀ s₁ : Shared) (mg mb : Str → Option Value) (fa : Addr) (o : Obj) (pm cd doc : Value) (a : Addr) (vs : List Value) (ns : List Int),
      Ground q loose [] XP w s₀ mg mb s₁.heap → YP w s₁.heap →
      s₁.heap.get? fa = some o → o.data = .func (docDef d.name d.params d.body d.scope pm cd doc) → s₁.heap.CodeRec cd d.name → mg d.name = some (.ref fa) →
      s₁.heap.get? a = some { cls := .type "list", data := .seq vs.toArray } → IntsAre vs ns → ns.length ≤ n → s₁.gens = #[] →
      codeAny (model l.prog w) callerA (.call (.ref fa) ⟨[.ref a], []⟩) (fun r s' => r = .ok (.ret (.bool true)) ∧ OldK s₁.heap s'.heap ∧ s'.os = s₁.os ∧ AllBare s'.gens) s₁) :
    WalkO q loose XP YP l.row.toRowW d [] (fun f vs => PySem.call f vs) := by
  intro w s₀ s₁ mg mb G Y fa o pm cd doc dV kV ho hd hcd hD hmg hg args vals as hpre hlay hrd hwl hlo
  obtain rfl : dV = .none := Dflts.none hD hdf
  obtain rfl : kV = .none := Dflts.noKw hD
  obtain ⟨a, vs, ns, rfl, rfl, hobj, hints, hlen⟩ := script_of hn hpre hwl
  refine enter_call (codeAny_mono (call w s₀ s₁ mg mb fa o pm cd doc a vs ns G Y ho (fd_plain hd) hcd hmg hobj hints hlen hg) fun r s' hq => ?_)
  obtain ⟨rfl, h2, h3, h4⟩ := hq
  exact ⟨.inl ⟨.bool true, .bool true, [], rfl, fun _ => rfl, .bool true, post_true l _, fun _ => ⟨List.Pairwise.nil, fun _ hm => (nomatch hm)⟩⟩, h2, h3, h4⟩

/-- the same where the top left finished generators (o_head chose holds_openN): nothing may have changed at all and no generator may be left -/
theorem attachN {l : OpenLaw} {n : Nat} {q : Program} {loose : List Str} {XP : (Str → Option Value) → Heap → Prop} {YP : World → Heap → Prop} {d : DefRec} {x : Str}
    (hn : l.most = some n) (hdf : d.params.defaults = [])
    (hbind : ∀ pm cd doc v : Value, bindArgs (docDef d.name d.params d.body d.scope pm cd doc) ⟨[v], []⟩ = pure [(x, v)])
    (hx : d.scope.names.lookup x = some .local ∨ d.scope.names.lookup x = some .cell)
    (hk : d.scope.kind = .function) (hco : d.scope.isCoroutine = false) (hgen : d.scope.isGenerator = false)
    (body : ∀ (w : World) (s₀ s₁ s : Shared) (mg mb : Str → Option Value) (fa : Addr) (o : Obj) (pm cd doc : Value) (a : Addr) (vs : List Value) (ns : List Int),
      Ground q loose [] XP w s₀ mg mb s₁.heap → YP w s₁.heap →
      s₁.heap.get? fa = some o → o.data = .func (docDef d.name d.params d.body d.scope pm cd doc) → s₁.heap.CodeRec cd d.name → mg d.name = some (.ref fa) →
      s₁.heap.get? a = some { cls := .type "list", data := .seq vs.toArray } → IntsAre vs ns → ns.length ≤ n →
      s.gens = #[] → s.os = s₁.os →
      Fr s₁.heap s₁.heap.objs.size s.heap (bindL (envOfC d.name d.scope s₁.heap.objs.size fa cd).kindOf [(x, .ref a)] fun _ => none) →
      Cl s₁.heap.objs.size (cellsFrom (s₁.heap.objs.size + 1) d.scope.names []) s.heap (bindC (envOfC d.name d.scope s₁.heap.objs.size fa cd).kindOf [(x, .ref a)] fun _ => none) →
      wpAny (model l.prog w) (callerA.deeper (envOfC d.name d.scope s₁.heap.objs.size fa cd)) (execs d.body (envOfC d.name d.scope s₁.heap.objs.size fa cd))
        (fun f s' => f = .ret (.bool true) ∧ (∀ b o, s₁.heap.get? b = some o → s'.heap.get? b = some o) ∧ s'.os = s₁.os ∧ s'.gens = #[]) (fun _ _ => False) s) :
    WalkN q loose XP YP l.row.toRowW d [] (fun f vs => PySem.call f vs) := by
  intro w s₀ s₁ mg mb G Y fa o pm cd doc dV kV ho hd hcd hD hmg hg args vals as hpre hlay hrd hwl hlo
  obtain rfl : dV = .none := Dflts.none hD hdf
  obtain rfl : kV = .none := Dflts.noKw hD
  obtain ⟨a, vs, ns, rfl, rfl, hobj, hints, hlen⟩ := script_of hn hpre hwl
  refine enter_callW ?_
  refine call_cells_ret (o := o) (by rw [depth_caller]; decide) ho (fd_plain hd) G.T.nolimit hcd (hbind pm cd doc (.ref a)) (fun y hy => ?_) (fun h₁ tk F X => ?_) hco hgen hk
  · obtain rfl : y = (x, Value.ref a) := List.mem_singleton.mp hy
    rcases hx with e | e
    · exact .inl e
    · exact .inr ⟨e, cellsFrom_some _ _ _ (.inl e)⟩
  · refine wpAny_mono (body w s₀ s₁ { s₁ with heap := h₁, toks := tk } mg mb fa o pm cd doc a vs ns G Y ho (fd_plain hd) hcd hmg hobj hints hlen hg rfl F X) (fun f s' hq => ?_) (fun _ _ hq => hq)
    obtain ⟨rfl, h2, h3, h4⟩ := hq
    exact ⟨.inl ⟨.bool true, .bool true, [], rfl, fun _ => rfl, .bool true, post_true l _, fun _ => ⟨List.Pairwise.nil, fun _ hm => (nomatch hm)⟩⟩, h2, h3, h4⟩

/-! ### rules over ANY heap (no ledger) from facts about the written part K: the library's own take a ledger (News) for what they write -/
section
variable {prog : Program} {w : World} {A : Around} {E : Value → Shared → Prop} {s : Shared} {K : Frag}

/-- a def of the module, or a method (qual 'C.m'), entered: the frame is the next address; cells behind it -/
theorem call_fn {R : Result → Shared → Prop} {name qual : Str} {params : Arguments} {body : List Stmt} {scope : Scope} {dV kV doc pm cdv ct oc : Value} {an od : Option Addr} {osl : Array (Option Value)} {f : Addr} {args : Args} {binds : List (Str × Value)}
    (X : K.In s.heap) (hlim : s.heap.NoLimit) (ho : K.lookup f = some ⟨oc, od, .func (fnOf name qual params body scope dV kV doc pm an cdv ct), osl⟩) (hcd : codeIn K cdv qual = true) (hroom : A.depth < recursionLimit)
    (hbind : BindsTo s (fnOf name qual params body scope dV kV doc pm an cdv ct) args binds)
    (hkind : (binds.all fun y => scope.names.lookup y.1 == some .local || scope.names.lookup y.1 == some .cell) = true)
    (h : ∀ s₁, InCallC s s.heap.objs.size (bindL (envOfC qual scope s.heap.objs.size f cdv).kindOf binds fun _ => none) (cellsFrom (s.heap.objs.size + 1) scope.names [])
        (bindC (envOfC qual scope s.heap.objs.size f cdv).kindOf binds fun _ => none) s₁ →
      wpAny (model prog w) (A.deeper (envOfC qual scope s.heap.objs.size f cdv)) (execs body (envOfC qual scope s.heap.objs.size f cdv))
        (fun fl s' => R (.ok (.ret (match fl with | .ret v => v | _ => .none))) s')
        (fun e s' => wpAny (model prog w) (A.deeper (envOfC qual scope s.heap.objs.size f cdv)) (leaving (envOfC qual scope s.heap.objs.size f cdv) e) (fun _ s'' => R (.error e) s'') (fun e' s'' => R (.error e') s'') s') s₁)
    (hco : scope.isCoroutine = false) (hgen : scope.isGenerator = false) (hk : scope.kind = .function) : codeAny (model prog w) A (.call (.ref f) args) R s := by
  refine codeAny_call_function hroom (X _ _ ho) rfl hco hgen rfl (codeRec_of X hcd) (hbind _ _ _ _ ?_)
  refine wpAny_newFunctionEnv_cells hk (kindsX hkind _) fun env he s₁ x => ?_
  subst he
  exact ⟨hlim.keeps x.toInCall.keep, codeAny_func (h s₁ x)⟩

/-- C(..): dict at size, instance at size + 1, then __init__ -/
theorem make_obj {R : Result → Shared → Prop} {C fI : Addr} {rest : List Value} {kw : List (Str × Value)}
    (X : K.In s.heap) (hm : makesIn K C = true) (hi : findIn K (.ref C) "__init__" = some (some (.ref fI))) (hf : isFn K (.ref fI) = true)
    (h : codeAny (model prog w) (A.under (.builtin "type.__call__" ⟨.ref C :: rest, kw⟩)) (.call (.ref fI) ⟨.ref (s.heap.objs.size + 1) :: rest, kw⟩) (InitBack (s.heap.objs.size + 1) R)
      { s with heap := (s.heap.push emptyDict).push (instObj C s.heap.objs.size) }) : codeAny (model prog w) A (.call (.ref C) ⟨rest, kw⟩) R s := by
  obtain ⟨hh, g, d, t, os⟩ := s
  exact make_core (makes_of X hm) (looks_findIn X hi) (fun self => bind_fn X self (beq_iff_eq.mp hf)) (.inl rfl) h

/-- x.name where the instance's dict holds the name and the class does not -/
theorem get_field {x C : Addr} {ox : Obj} {es : List DictEntry} {n : Nat} {name : Str} {expr : Bool} {v : Value} {Q : Value → Shared → Prop}
    (X : K.In s.heap) (I : PySem.W.InstAt s.heap x ox C (some (dictOf es n))) (hg : plainGet K C name = true) (hh : hasDictIn K C = true) (ha : findIn K (.ref C) name = some none)
    (hl : getL name es = some (some v)) (hv : handedIn v = true) (h : Q v { s with toks := s.toks + 1 }) : wpAny (model prog w) A (getAttr (.ref x) name expr) Q E s :=
  get_value X I (plainGet_of hg).1 (findObj_own hh ha rfl hl) hv h

/-- x.m(..): the method found in the class -/
theorem get_method {x C f : Addr} {ox : Obj} {es : List DictEntry} {n : Nat} {name : Str} {pl : Sem Bool} {Q : Value × List Value → Shared → Prop}
    (X : K.In s.heap) (I : PySem.W.InstAt s.heap x ox C (some (dictOf es n))) (hg : plainGet K C name = true) (hf : findIn K (.ref C) name = some (some (.ref f))) (ht : isFn K (.ref f) = true)
    (hl : getL name es = some none) (h : Q (.ref f, [.ref x]) s) : wpAny (model prog w) A (getMethod (.ref x) name pl) Q E s :=
  method_fn X I (plainGet_of hg).1 (plainGet_of hg).2 hf (beq_iff_eq.mp ht) (by show (lookIn name (dictOf es n)).map _ = _; rw [lookIn_dict, hl]; rfl) h

/-! the whole heap as the ledger: makes every rule that writes through a ledger a rule over any heap -/
def noObjs (h : Heap) : Heap := { h with objs := #[] }
theorem noObjs_get (h : Heap) (b : Addr) : (noObjs h).get? b = none := by
  cases e : (noObjs h).get? b with
  | none => rfl
  | some o => exact absurd (Heap.lt_size e) (Nat.not_lt_zero _)
def ledger (h : Heap) (L d : Addr) : List (Addr × Obj) := (List.range h.objs.size).filterMap fun a => if a = L ∨ a = d then none else (h.get? a).map fun o => (a, o)
theorem mem_ledger {h : Heap} {L d a : Addr} {o : Obj} : (a, o) ∈ ledger h L d ↔ a ≠ L ∧ a ≠ d ∧ h.get? a = some o := by
  unfold ledger
  rw [List.mem_filterMap]
  constructor
  · rintro ⟨b, _, e⟩
    split at e
    · cases e
    · rename_i hb
      obtain ⟨o', ho, e'⟩ := Option.map_eq_some_iff.mp e
      cases e'
      exact ⟨fun q => hb (.inl q), fun q => hb (.inr q), ho⟩
  · rintro ⟨n1, n2, ho⟩
    refine ⟨a, List.mem_range.mpr (Heap.lt_size ho), ?_⟩
    rw [if_neg (show ¬ (a = L ∨ a = d) from fun q => q.elim n1 n2), ho] <;> rfl
theorem news_ledger {h : Heap} {L d : Addr} {od : Obj} (hne : d ≠ L) (ho : h.get? d = some od) : News (noObjs h) L h ([] ++ (d, od) :: ledger h L d) := by
  rintro ⟨a, o⟩ hp
  rcases List.mem_cons.mp hp with e | hp
  · cases e
    exact ⟨ho, hne, noObjs_get _ _⟩
  · obtain ⟨n1, n2, e⟩ := mem_ledger.mp hp
    exact ⟨e, n1, noObjs_get _ _⟩
theorem fr_all {h : Heap} {L : Addr} {m : Str → Option Value} (n : h.Ns L m) : Fr (noObjs h) L h m :=
  ⟨n, fun b o e => (by rw [noObjs_get] at e; cases e), Nat.zero_le _⟩
/-- Upd of the head entry (for append_K, setItem_K ..) -/
theorem upd_ledger {h : Heap} {L d : Addr} {o o' : Obj} : Upd d o o' ((d, o) :: ledger h L d) ((d, o') :: ledger h L d) :=
  .head fun ⟨_, _⟩ hp => (mem_ledger.mp hp).2.1

/-- x.name = v over any heap: L is any namespace of the heap (the frame's, say): its map stays, its object is not told; all else but the dict stays -/
theorem set_field {x C dx L : Addr} {ox : Obj} {m : Str → Option Value} {es es' : List DictEntry} {n n' : Nat} {name : Str} {v : Value} {Q : Unit → Shared → Prop}
    (X : K.In s.heap) (I : PySem.W.InstAt s.heap x ox C (some (dictOf es n))) (hd : ox.dict = some dx) (hL : s.heap.Ns L m) (hne : dx ≠ L)
    (hs : findIn K (.ref C) "__setattr__" = some (some (.builtin "object.__setattr__"))) (hp : plainOver K C = true) (ht : takerIn K C name = some none) (hh : hasDictIn K C = true) (hl : (getL name es).isSome = true)
    (e : (putL name (PyData.keyHash w.params name) (.str name (s.toks + 1)) v es, putN name es n) = (es', n')) (hz : es'.length ≤ 1000)
    (h : ∀ h' : Heap, h'.Ns L m → h'.get? dx = some (dictOf es' n') → (∀ b o, b ≠ dx → b ≠ L → s.heap.get? b = some o → h'.get? b = some o) → Q () { s with heap := h', toks := s.toks + 2 }) :
    wpAny (model prog w) A (setAttr (.ref x) name v) Q E s := by
  obtain ⟨e1, e2⟩ := Prod.mk.inj e
  have hdx : s.heap.get? dx = some (dictOf es n) := by
    have := I.dict
    rw [hd] at this
    exact this
  refine set_plain X I hs (osa_dict (s := { s with toks := s.toks + 1 }) (h₀ := noObjs s.heap) (L := L) (m := m) (od := dictOf es n) (od' := dictOf es' n') (es := es') (n := n') (pre := []) (post := ledger s.heap L dx)
    (fr_all hL) (news_ledger hne hdx) X I hd hp ht hh hl (fun _ q => nomatch q) (fun ⟨_, _⟩ q => (mem_ledger.mp q).2.1) (by rw [putName_dict, e1, e2]) rfl hz fun h' F' N' => ?_)
  exact h h' F'.ns (N'.get (List.Mem.head _)) fun b o n1 n2 ho => N'.get (List.Mem.tail _ (mem_ledger.mpr ⟨n2, n1, ho⟩))
end
end Att

namespace L2
open PySem PySem.Spec PyProof.Rows

theorem vals_ints : ∀ {vs : List Value} {ns : List Int}, IntsAre vs ns → Vals (ns.map V.int) vs
  | _, _, .nil => .nil
  | _, _, .cons n t h => .cons ⟨t, rfl⟩ (vals_ints h)

/-- nothing is tracked but the script, known to the object (or it is an object of the module) -/
def Only (H : Hp) : Prop := ∀ b, H b = none ∨ ∃ o xs, H b = some (.frz o (.lst xs))

/-- THE HEAD: the law's promise, at the heap behind the top. F, the promise of the law's def, may use that base is part of the heap (so K.In base, base.Ns mainGlobals mg stand in Mod) -/
theorem law_call {P : Program} {w : World} {K : PySem.W.Frag} {mg mb : Str → Option Value} {CX : CXT} {k : Nat} {fa a : Addr} {fd : FuncData} {x : Str} {sp : Sp} {s₁ : Shared} {vs : List Value} {ns : List Int}
    (KX : K.In s₁.heap) (hns : s₁.heap.Ns mainGlobals mg) (hb : s₁.heap.Ns builtinsNs mb) (hbb : ∀ x : Str, x ≠ "__name__" → mb x = bootBuiltins x) (hlim : s₁.heap.NoLimit) (hg : s₁.gens = #[])
    (ha : s₁.heap.get? a = some { cls := .type "list", data := .seq vs.toArray }) (hi : IntsAre vs ns) (hl : ns.length ≤ sizeLine) (hr : Room k callerA)
    (F : ∀ base : Heap, K.In base → base.Ns mainGlobals mg → FnOk P w K mg base CX k fa fd [x] sp) (hbind : ∀ (s : Shared) (u : Value), BindsTo s fd ⟨[u], []⟩ [(x, u)])
    (hsp : ∀ H : Hp, Only H → SqL K H a (ns.map V.int) → sp [.ref a] H (fun v _ => v = .bl true) fun _ _ _ => False)
    (hCX : ∀ H e s', CX [] H s₁ (fun _ _ _ => False) e s' → False) :
    codeAny (model P w) callerA (.call (.ref fa) ⟨[.ref a], []⟩) (fun r s' => r = .ok (.ret (.bool true)) ∧ OldK s₁.heap s'.heap ∧ s'.os = s₁.os ∧ AllBare s'.gens) s₁ := by
  have rv := vals_ints hi
  have lenV := hi.length
  -- from an abstract heap in which nothing but the script may be tracked
  have core : ∀ H : Hp, Only H → SqL K H a (ns.map V.int) → HOk P w H s₁.heap → (∀ b, H b ≠ none → b = a) → (H a ≠ none → K.lookup a = none) →
      codeAny (model P w) callerA (.call (.ref fa) ⟨[.ref a], []⟩) (fun r s' => r = .ok (.ret (.bool true)) ∧ OldK s₁.heap s'.heap ∧ s'.os = s₁.os ∧ AllBare s'.gens) s₁ := by
    intro H hO hS hok hA hK
    have base_of : ∀ {b : Addr} {o : Obj}, s₁.heap.get? b = some o → H b = none → (hidT s₁.heap H).get? b = some o := fun e n => hidT_get e n
    have noA : ∀ {b : Addr} {o : Obj} {es : Array DictEntry} {ep : Nat}, s₁.heap.get? b = some o → o.data = .dict es ep → H b = none := fun {b o es ep} e d => by
      cases q : H b with
      | none => rfl
      | some u =>
        have e' : b = a := hA b (by rw [q]; simp)
        subst e'
        rw [ha] at e; cases e
        have d' : Data.seq vs.toArray _ = Data.dict es ep := d
        cases d'
    have nsK : ∀ {b : Addr} {m : Str → Option Value}, s₁.heap.Ns b m → (hidT s₁.heap H).Ns b m := fun {b m} ⟨o, es, ep, e, d, r⟩ => ⟨o, es, ep, base_of e (noA e d), d, r⟩
    have hKb : K.In (hidT s₁.heap H) := fun b o e => base_of (KX b o e) (by
      cases q : H b with
      | none => rfl
      | some u =>
        have e' : b = a := hA b (by rw [q]; simp)
        subst e'
        rw [hK (by rw [q]; simp)] at e; cases e)
    have hM : Mod K mg (hidT s₁.heap H) := ⟨hKb, nsK hns, ⟨mb, nsK hb, hbb⟩, let ⟨mc, h1, h2⟩ := hlim; ⟨mc, nsK h1, h2⟩⟩
    have e0 : Env0 P w K mg (hidT s₁.heap H) callerA [] s₁ H := ⟨rfl, hM, fun b o e => of_hidT e, Nat.le_of_eq (hidT_size _ _), trivial, fun b hb => absurd (show b ∈ ([] : List Addr) from hb) (by simp), hok, .of_eq hg⟩
    refine codeAny_mono ((F _ hKb (nsK hns)).run callerA [] s₁ H ⟨[.ref a], []⟩ [.ref a] [.ref a] _ _ hr e0 (hbind s₁ (.ref a)) (.cons rfl .nil) (hsp H hO hS)) fun r s' h => ?_
    cases r with
    | error e => exact (hCX H e s' h).elim
    | ok fl =>
      cases fl with
      | next => exact False.elim h
      | brk => exact False.elim h
      | cont => exact False.elim h
      | ret u =>
        obtain ⟨v, H', os, bare, un, hok', r', q⟩ := h
        have q' : v = .bl true := q
        subst q'
        obtain rfl : u = Value.bool true := r'
        refine ⟨rfl, OldK.of_keep fun b o e => ?_, os, bare⟩
        cases q : H b with
        | none => exact un.keep b o e q (by intro z; exact absurd (show b ∈ ([] : List Addr) from z) (by simp)) (by simp)
        | some u =>
          rcases hO b with z | ⟨ob, xs, z⟩
          · rw [q] at z; cases z
          · have z2 := un.frzs b ob _ z
            obtain ⟨e1, _⟩ := hok b _ z
            obtain ⟨e2, _⟩ := hok' b _ z2
            rw [e] at e1; cases e1
            exact e2
  cases hk : K.lookup a with
  | some o =>
    -- the script is one of the module's own objects
    have e := KX a o hk
    rw [ha] at e
    cases e
    refine core (fun _ => none) (fun _ => .inl rfl) (.inr ⟨_, vs.toArray, _, hk, rfl, rfl, rfl, by rw [List.size_toArray, lenV]; exact hl, by simpa using rv⟩) (fun b u z => by have z' : (none : Option HO) = some u := z; cases z') (fun b z => absurd rfl z) fun z => absurd rfl z
  | none =>
    refine core (fun b => if b = a then some (.frz { cls := .type "list", data := .seq vs.toArray } (.lst (ns.map V.int))) else none) (fun b => ?_) (.inl (.inr ⟨{ cls := .type "list", data := .seq vs.toArray }, if_pos rfl⟩)) (fun b u z => ?_) (fun b z => ?_) fun _ => hk
    · by_cases hb : b = a
      · exact .inr ⟨_, _, if_pos hb⟩
      · exact .inl (if_neg hb)
    · by_cases hb : b = a
      · have z' := (if_pos hb).symm.trans z
        cases z'
        subst hb
        exact ⟨ha, by rw [List.length_map]; exact hl, vs, _, rv, ha⟩
      · have z' := (if_neg hb).symm.trans z
        cases z'
    · by_cases hb : b = a
      · exact hb
      · exact absurd (if_neg hb) z
end L2

namespace L2
open PySem PySem.Spec PyProof.Rows

abbrev KOf {K : PySem.W.Frag} {h : Heap} (_ : K.In h) : PySem.W.Frag := K

/-- the goal that k_head leaves (case hc), from the law's promise. F gives the function object fd (K's own) once, then the promise over every base -/
theorem walk_of {l : PySem.W.OpenLaw} {n k : Nat} {q : Program} {loose : List Str} {XP : (Str → Option Value) → Heap → Prop} {YP : World → Heap → Prop} {d : DefRec} {K : Params → PySem.W.Frag} {CX : World → CXT} {sp : World → Sp} {x : Str}
    (hn : l.most = some n) (hn2 : n ≤ sizeLine) (hdf : d.params.defaults = []) (hr : Room k callerA)
    (hY : ∀ (w : World) (h : Heap), YP w h → (K w.params).In h)
    (F : ∀ (w : World) (mg : Str → Option Value) (fa : Addr) (h : Heap), (K w.params).In h → h.Ns mainGlobals mg → mg d.name = some (.ref fa) →
      ∃ fd : FuncData, (∀ (s : Shared) (u : Value), BindsTo s fd ⟨[u], []⟩ [(x, u)]) ∧
        ∀ base : Heap, (K w.params).In base → base.Ns mainGlobals mg → FnOk l.prog w (K w.params) mg base (CX w) k fa fd [x] (sp w))
    (hsp : ∀ (w : World) (H : Hp) (a : Addr) (ns : List Int), ns.length ≤ n → Only H → SqL (K w.params) H a (ns.map V.int) → sp w [.ref a] H (fun v _ => v = .bl true) fun _ _ _ => False)
    (hCX : ∀ (w : World) (H : Hp) (s : Shared) (e : Value) (s' : Shared), CX w [] H s (fun _ _ _ => False) e s' → False) :
    PySem.W.WalkO q loose XP YP l.row.toRowW d [] (fun f vs => PySem.call f vs) := by
  refine Att.attach_call hn hdf fun w s₀ s₁ mg mb fa o pm cd doc a vs ns G Y ho hd hcd hmg hobj hints hlen hg => ?_
  have KX := hY w _ Y
  obtain ⟨fd, hb, hF⟩ := F w mg fa _ KX G.T.g hmg
  exact law_call KX G.T.g G.T.b G.T.builtins G.T.nolimit hg hobj hints (Nat.le_trans hlen hn2) hr hF hb (fun H hO hS => hsp w H a ns hlen hO hS) fun H e s' => hCX w H s₁ e s'
/-- the same where the promise hangs on the written part alone: (sp := My.sp_law), no hole under a binder -/
theorem walk_ofK {l : PySem.W.OpenLaw} {n k : Nat} {q : Program} {loose : List Str} {XP : (Str → Option Value) → Heap → Prop} {YP : World → Heap → Prop} {d : DefRec} {K : Params → PySem.W.Frag} {CX : CXT} {sp : PySem.W.Frag → Sp} {x : Str}
    (hn : l.most = some n) (hn2 : n ≤ sizeLine) (hdf : d.params.defaults = []) (hr : Room k callerA)
    (hY : ∀ (w : World) (h : Heap), YP w h → (K w.params).In h)
    (F : ∀ (w : World) (mg : Str → Option Value) (fa : Addr) (h : Heap), (K w.params).In h → h.Ns mainGlobals mg → mg d.name = some (.ref fa) →
      ∃ fd : FuncData, (∀ (s : Shared) (u : Value), BindsTo s fd ⟨[u], []⟩ [(x, u)]) ∧
        ∀ base : Heap, (K w.params).In base → base.Ns mainGlobals mg → FnOk l.prog w (K w.params) mg base CX k fa fd [x] (sp (K w.params)))
    (hsp : ∀ (K : PySem.W.Frag) (H : Hp) (a : Addr) (ns : List Int), ns.length ≤ n → Only H → SqL K H a (ns.map V.int) → sp K [.ref a] H (fun v _ => v = .bl true) fun _ _ _ => False)
    (hCX : ∀ (H : Hp) (s : Shared) (e : Value) (s' : Shared), CX [] H s (fun _ _ _ => False) e s' → False) :
    PySem.W.WalkO q loose XP YP l.row.toRowW d [] (fun f vs => PySem.call f vs) :=
  walk_of (K := K) (CX := fun _ => CX) (sp := fun w => sp (K w.params)) hn hn2 hdf hr hY F (fun w H a ns h1 h2 h3 => hsp (K w.params) H a ns h1 h2 h3) fun _ H s e s' => hCX H s e s'
end L2



/-! SHORT WORDS over the layer: a def of the text, its body, what a loop and a test want. -/
namespace L2
open PySem PySem.Spec PyProof.Rows

/-! ### the text by places -/
/-- the j-th statement of a class's body -/
def inClass (s : Stmt) (j : Nat) : Stmt := match s with
  | .ClassDef _ _ _ body _ _ _ _ _ _ _ => body.getD j (.Pass ⟨0, 0, 0, 0⟩)
  | _ => .Pass ⟨0, 0, 0, 0⟩
def defArgs (s : Stmt) : Arguments := match s with
  | .FunctionDef _ a _ _ _ _ _ _ _ _ => a
  | _ => { posonlyargs := [], args := [], vararg := none, kwonlyargs := [], kw_defaults := [], kwarg := none, defaults := [] }
def defBody (s : Stmt) : List Stmt := match s with
  | .FunctionDef _ _ b _ _ _ _ _ _ _ => b
  | _ => []
def defScope (s : Stmt) : Scope := match s with
  | .FunctionDef _ _ _ _ _ _ sc _ _ _ => sc
  | _ => { kind := .function, names := [], isGenerator := false, isCoroutine := false }

/-! ### no exception leaves a def -/
abbrev CX0 : CXT := fun _ _ _ _ _ _ => False
abbrev E0 : XK := fun _ _ _ => False
theorem pass0 {X : Cx} : Passes CX0 X E0 := fun _ _ _ _ _ _ _ h => h.elim

/-! ### a def (or method) of the text as it stands behind the top -/
structure Fun (K : PySem.W.Frag) (x qual : Str) (st : Stmt) (f : Addr) (fd : FuncData) : Prop where
  ex : ∃ (oc : Value) (od : Option Addr) (kV doc pm : Value) (an : Option Addr) (cdv ct : Value) (osl : Array (Option Value)),
    fd = PySem.W.fnOf x qual (defArgs st) (defBody st) (defScope st) .none kV doc pm an cdv ct ∧ K.lookup f = some ⟨oc, od, .func fd, osl⟩ ∧ PySem.W.codeIn K cdv qual = true
  kp : PySem.W.keepIn K (.ref f) = true
section
variable {P : Program} {w : World} {K : PySem.W.Frag} {mg : Str → Option Value} {base : Heap}
/-- THE RULE for a def: its body as a term of rules, and the reading of that term -/
theorem Fun.ok {x qual : Str} {st : Stmt} {f : Addr} {fd : FuncData} {N ps : List Str} {k : Nat} {sp : Sp} (F : Fun K x qual st f fd) (S : FnScope N ps (defScope st)) (len : ∀ vs H Q E, sp vs H Q E → vs.length = ps.length)
    (hbody : ∀ (cdv : Value) (A : Around) (outer : List Env) (s : Shared) (H : Hp) (vs : List V) (Q : VK) (E : XK), Room k (A.deeper (envOfC qual (defScope st) s.heap.objs.size f cdv)) → sp vs H Q E →
      ∃ t, PSs (cxOf CX0 P w K mg base N qual (defScope st) f cdv A outer s H E).nox (defBody st) t ∧ t { nx := fun _ H' => Q .non H', rt := Q } (start N vs) H) : FnOk P w K mg base CX0 (k + 1) f fd ps sp := by
  obtain ⟨oc, od, kV, doc, pm, an, cdv, ct, osl, rfl, lk, hcd⟩ := F.ex
  refine fn_of lk hcd S len fun A outer s H vs Q E hr hsp => ?_
  obtain ⟨t, h, q⟩ := hbody cdv A outer s H vs Q E hr hsp
  exact ⟨t, h.nox, q⟩
/-- how its arguments bind (no defaults): h is «fun _ _ _ _ _ _ us hl => match us, hl with | [_, _], _ => rfl», one _ a parameter -/
theorem Fun.binds {x qual : Str} {st : Stmt} {f : Addr} {fd : FuncData} {ps : List Str} (F : Fun K x qual st f fd)
    (h : ∀ (kV doc pm : Value) (an : Option Addr) (cdv ct : Value) (us : List Value), us.length = ps.length → bindArgs (PySem.W.fnOf x qual (defArgs st) (defBody st) (defScope st) .none kV doc pm an cdv ct) ⟨us, []⟩ = pure (ps.zip us)) : Binds K fd ps [] := by
  obtain ⟨oc, od, kV, doc, pm, an, cdv, ct, osl, rfl, lk, hcd⟩ := F.ex
  exact .all (h kV doc pm an cdv ct)
theorem fun_mk {x qual : Str} {st : Stmt} {f : Addr} {oc : Value} {od an : Option Addr} {osl : Array (Option Value)} {kV doc pm cdv ct : Value} (l : K.lookup f = some ⟨oc, od, .func (PySem.W.fnOf x qual (defArgs st) (defBody st) (defScope st) .none kV doc pm an cdv ct), osl⟩)
    (c : PySem.W.codeIn K cdv qual = true) (k : PySem.W.keepIn K (.ref f) = true) : Fun K x qual st f (PySem.W.fnOf x qual (defArgs st) (defBody st) (defScope st) .none kV doc pm an cdv ct) := ⟨⟨oc, od, kV, doc, pm, an, cdv, ct, osl, rfl, l, c⟩, k⟩
end
theorem hu_of {A : Around} {k : Nat} (hr : Room k A) : A.units + 1 < cLine := Nat.lt_of_le_of_lt (Nat.add_le_add_left (by decide : 1 ≤ 64) _) hr.units
theorem small1000 {n : Nat} (h : n ≤ 1000) : n < sizeLine := Nat.lt_of_le_of_lt h (by decide)

/-! ### expressions in short: the name that stands in the i-th slot -/
section
variable {X : Cx}
theorem pv (i : Nat) {x : Str} {pos : Pos} (hN : X.N[i]? = some x := by rfl) (hv : Vis X.env.scope x := by first | exact Or.inl rfl | exact Or.inr (Or.inl rfl) | exact Or.inr (Or.inr rfl)) (hd : (x == ("__debug__" : Str)) = false := by decide)
    (hcd : (x == ("__classdict__" : Str)) = false := by decide) : PE X (.Name x pos) (tVar i) := pe_var hN hv hd hcd
end

/-! ### tests -/
theorem iteF {A B : Prop} (h : B) : if false = true then A else B := by
  rw [if_neg Bool.false_ne_true]
  exact h
theorem iteT {A B : Prop} (h : A) : if true = true then A else B := by
  rw [if_pos rfl]
  exact h
theorem ite2 {c A B : Prop} [Decidable c] (h1 : c → A) (h2 : ¬ c → B) : if c then A else B := by
  by_cases h : c
  · rw [if_pos h]
    exact h1 h
  · rw [if_neg h]
    exact h2 h
theorem iteNS {c A B : Prop} [Decidable c] (hc : c) (h : B) : if (!decide c) = true then A else B := by
  rw [decide_eq_true hc]
  exact iteF h

/-! ### heaps -/
/-- all that was tracked is as it was -/
def Same (H H' : Hp) : Prop := ∀ b o, H b = some o → H' b = some o
theorem Same.refl (H : Hp) : Same H H := fun _ _ h => h
theorem Same.trans {H H1 H2 : Hp} (a : Same H H1) (b : Same H1 H2) : Same H H2 := fun c o h => b c o (a c o h)
theorem Same.free {H H' : Hp} (e : Same H H') {l : Addr} (h : H' l = Option.none) : H l = Option.none := by
  cases q : H l with
  | none => rfl
  | some o =>
    rw [e l o q] at h
    cases h
theorem Same.seq {K : PySem.W.Frag} {H H' : Hp} {a : Addr} {xs : List V} (e : Same H H') (h : SqL K H a xs) : SqL K H' a xs := by
  rcases h with (h | ⟨o, h⟩) | h
  · exact .inl (.inl (e _ _ h))
  · exact .inl (.inr ⟨o, e _ _ h⟩)
  · exact .inr h

section
variable {X : Cx}
/-- len of a dict -/
theorem call_lenD : CallR X (.builtin "len") (fun xs H Q => ∃ a kvs, xs = [V.ref a] ∧ H a = some (.dK kvs) ∧ Q (.int kvs.length) H) := by
  intro pins s σ H xs us Q I r h
  obtain ⟨a, kvs, rfl, ha, q⟩ := h
  obtain ⟨u, rfl, ru⟩ := vals1 r
  cases ru
  exact d_len I (.inl ha) fun t s' I' => ⟨.int kvs.length, H, I', ⟨t, rfl⟩, q⟩
end
/-! ### a dict's pairs: keys that differ -/
section
variable {κ : Type} [DecidableEq κ]
theorem valV_not {kvs : List (κ × V)} {k : κ} (h : valV kvs k = none) : ¬ k ∈ kvs.map (·.1) := by
  intro m
  obtain ⟨p, hp, e⟩ := List.mem_map.mp m
  have q : (kvs.any fun kv => decide (kv.1 = k)) = true := List.any_eq_true.mpr ⟨p, hp, decide_eq_true e⟩
  rw [valV_any, h] at q
  exact absurd q (by simp)
theorem valV_in {kvs : List (κ × V)} {k : κ} {v : V} (h : valV kvs k = some v) : k ∈ kvs.map (·.1) := by
  have q : (kvs.any fun kv => decide (kv.1 = k)) = true := by
    rw [valV_any, h]
    all_goals rfl
  obtain ⟨p, hp, e⟩ := List.any_eq_true.mp q
  exact List.mem_map.mpr ⟨p, hp, of_decide_eq_true e⟩
theorem nd_snoc : ∀ {l : List κ} {k : κ}, l.Nodup → ¬ k ∈ l → (l ++ [k]).Nodup
  | [], k, _, _ => by simp
  | a :: r, k, h, hk => by
    obtain ⟨h1, h2⟩ := List.nodup_cons.mp h
    show (a :: (r ++ [k])).Nodup
    refine List.nodup_cons.mpr ⟨fun m => ?_, nd_snoc h2 fun m => hk (List.mem_cons.mpr (Or.inr m))⟩
    rcases List.mem_append.mp m with q | q
    · exact h1 q
    · exact hk (List.mem_cons.mpr (Or.inl (List.mem_singleton.mp q).symm))
theorem nd_putK {kvs : List (κ × V)} {k : κ} (v : V) (hn : (kvs.map (·.1)).Nodup) (h : valV kvs k = none) : ((putK kvs k v).map (·.1)).Nodup := by
  rw [putK_new v h, List.map_append]
  exact nd_snoc hn (valV_not h)
theorem dropK_pos {p : κ × V} {r : List (κ × V)} {k : κ} (e : p.1 = k) : dropK (p :: r) k = dropK r k := by
  unfold dropK
  rw [List.filter_cons, if_neg (by simp [e])]
theorem dropK_neg {p : κ × V} {r : List (κ × V)} {k : κ} (e : ¬ p.1 = k) : dropK (p :: r) k = p :: dropK r k := by
  unfold dropK
  rw [List.filter_cons, if_pos (by simp [e])]
theorem dropK_no : ∀ {kvs : List (κ × V)} {k : κ}, ¬ k ∈ kvs.map (·.1) → dropK kvs k = kvs
  | [], _, _ => rfl
  | p :: r, k, h => by
    have h' : ¬ k ∈ r.map (·.1) := fun m => by
      obtain ⟨q, hq, e⟩ := List.mem_map.mp m
      exact h (List.mem_map.mpr ⟨q, List.mem_cons.mpr (Or.inr hq), e⟩)
    rw [dropK_neg fun e => h (List.mem_map.mpr ⟨p, List.mem_cons.mpr (Or.inl rfl), e⟩), dropK_no h']
theorem dropK_mem {kvs : List (κ × V)} {k : κ} {p : κ × V} (h : p ∈ dropK kvs k) : p ∈ kvs := (List.mem_filter.mp h).1
theorem nd_dropK : ∀ {kvs : List (κ × V)} {k : κ}, (kvs.map (·.1)).Nodup → ((dropK kvs k).map (·.1)).Nodup
  | [], _, _ => List.nodup_nil
  | p :: r, k, h => by
    have h : (p.1 :: r.map (·.1)).Nodup := h
    obtain ⟨h1, h2⟩ := List.nodup_cons.mp h
    by_cases e : p.1 = k
    · rw [dropK_pos e]
      exact nd_dropK h2
    · rw [dropK_neg e]
      show (p.1 :: (dropK r k).map (·.1)).Nodup
      refine List.nodup_cons.mpr ⟨fun m => h1 ?_, nd_dropK h2⟩
      obtain ⟨q, hq, eq⟩ := List.mem_map.mp m
      exact List.mem_map.mpr ⟨q, dropK_mem hq, eq⟩
theorem dropK_len : ∀ {kvs : List (κ × V)} {k : κ}, (kvs.map (·.1)).Nodup → k ∈ kvs.map (·.1) → (dropK kvs k).length + 1 = kvs.length
  | [], _, _, m => by simp at m
  | p :: r, k, h, m => by
    have h : (p.1 :: r.map (·.1)).Nodup := h
    have m : k = p.1 ∨ k ∈ r.map (·.1) := List.mem_cons.mp m
    obtain ⟨h1, h2⟩ := List.nodup_cons.mp h
    by_cases e : p.1 = k
    · subst e
      rw [dropK_pos rfl, dropK_no h1]
      all_goals rfl
    · have m' : k ∈ r.map (·.1) := m.resolve_left fun z => e z.symm
      have q := dropK_len h2 m'
      rw [dropK_neg e, List.length_cons, List.length_cons]
      omega
end
end L2


section
namespace RF
/-! ### long division, the rests -/
def rst (b q r : Int) : Nat → Int
  | 0 => r
  | n + 1 => rst b q r n * b % q
def fig (b q r : Int) (i : Nat) : Int := rst b q r i * b / q
theorem rst_bd {b q r : Int} (hq : 0 < q) (h0 : 0 ≤ r) (h1 : r < q) : ∀ i, 0 ≤ rst b q r i ∧ rst b q r i < q
  | 0 => ⟨h0, h1⟩
  | i + 1 => ⟨Int.emod_nonneg _ (by omega), Int.emod_lt_of_pos _ hq⟩
theorem rst_step {b q r : Int} (i : Nat) : rst b q r i * b = fig b q r i * q + rst b q r (i + 1) := by
  unfold fig
  show _ = _ + rst b q r i * b % q
  have := Int.mul_ediv_add_emod (rst b q r i * b) q
  rw [Int.mul_comm] at this
  omega
theorem fig_bd {b q r : Int} (hb : 0 < b) (hq : 0 < q) (h0 : 0 ≤ r) (h1 : r < q) (i : Nat) : 0 ≤ fig b q r i ∧ fig b q r i < b := by
  have ⟨a, c⟩ := rst_bd (b := b) hq h0 h1 i
  unfold fig
  constructor
  · exact Int.ediv_nonneg (Int.mul_nonneg a (by omega)) (by omega)
  · apply Int.ediv_lt_of_lt_mul hq
    rw [Int.mul_comm]
    exact Int.mul_lt_mul_of_pos_left c hb
/-- from equal rests on all is equal -/
theorem rst_shift {b q r : Int} {i j : Nat} (e : rst b q r i = rst b q r j) : ∀ t, rst b q r (i + t) = rst b q r (j + t)
  | 0 => e
  | t + 1 => by
    show rst b q r (i + t) * b % q = rst b q r (j + t) * b % q
    rw [rst_shift e t]
theorem php : ∀ (m n : Nat) (f : Nat → Nat), (∀ i, i < n → f i < m) → (∀ i j, i < j → j < n → f i ≠ f j) → n ≤ m
  | 0, n, f, h, _ => by
    cases n with
    | zero => exact Nat.le_refl _
    | succ n => exact absurd (h 0 (by omega)) (by omega)
  | m + 1, 0, _, _, _ => Nat.zero_le _
  | m + 1, n + 1, f, h, d => by
    have hn := h n (by omega)
    by_cases e : f n = m
    · have := php m n f (fun i hi => by
        have h1 := h i (by omega)
        have h2 := d i n hi (by omega)
        omega) (fun i j a c => d i j a (by omega))
      omega
    · have := php m n (fun i => if f i = m then f n else f i) (fun i hi => by
        have h1 := h i (by omega)
        split <;> omega) (fun i j a c => by
          have h1 := d i j a (by omega)
          have h2 := d i n (by omega) (by omega)
          have h3 := d j n (by omega) (by omega)
          split <;> split <;> omega)
      omega
/-- all rests below n are fresh and no nought -/
structure Fresh (b q r : Int) (n : Nat) : Prop where
  nz : ∀ i, i < n → rst b q r i ≠ 0
  ne : ∀ i j, i < j → j < n → rst b q r i ≠ rst b q r j
theorem Fresh.zero {b q r : Int} : Fresh b q r 0 := ⟨fun _ h => absurd h (by omega), fun _ _ _ h => absurd h (by omega)⟩
theorem Fresh.succ {b q r : Int} {n : Nat} (F : Fresh b q r n) (h0 : rst b q r n ≠ 0) (h : ∀ i, i < n → rst b q r i ≠ rst b q r n) : Fresh b q r (n + 1) :=
  ⟨fun i hi => by
    by_cases e : i = n
    · rw [e]; exact h0
    · exact F.nz i (by omega),
   fun i j a c => by
    by_cases e : j = n
    · rw [e] at a ⊢; exact h i a
    · exact F.ne i j a (by omega)⟩
theorem Fresh.lt {b q r : Int} {n : Nat} (hq : 0 < q) (h0 : 0 ≤ r) (h1 : r < q) (F : Fresh b q r n) : n < q.toNat := by
  have := php (q.toNat - 1) n (fun i => (rst b q r i).toNat - 1) (fun i hi => by
      have a := rst_bd (b := b) hq h0 h1 i
      have c := F.nz i hi
      omega) (fun i j a c => by
      have x := rst_bd (b := b) hq h0 h1 i
      have y := rst_bd (b := b) hq h0 h1 j
      have z := F.ne i j a c
      have u := F.nz i (by omega)
      have v := F.nz j (by omega)
      omega)
  omega
def figs (b q r : Int) (k n : Nat) : List Int := (List.range n).map fun i => fig b q r (k + i)
theorem figs_length {b q r : Int} {k n : Nat} : (figs b q r k n).length = n := by simp [figs]
theorem figs_succ {b q r : Int} {k n : Nat} : figs b q r k (n + 1) = figs b q r k n ++ [fig b q r (k + n)] := by
  simp [figs, List.range_succ]
theorem figs_take {b q r : Int} {k n : Nat} (h : k ≤ n) : (figs b q r 0 n).take k = figs b q r 0 k := by
  apply List.ext_getElem
  · simp [figs]; omega
  · intro i h1 h2
    simp [figs]
theorem figs_drop {b q r : Int} {k n : Nat} : (figs b q r 0 n).drop k = figs b q r k (n - k) := by
  apply List.ext_getElem
  · simp [figs]
  · intro i h1 h2
    simp [figs]
/-- what long division tells -/
def DivIs (b t q w : Int) (a g : List Int) : Prop :=
  w = t / q ∧ ∃ n, Fresh b q (t % q) n ∧
    ((rst b q (t % q) n = 0 ∧ a = figs b q (t % q) 0 n ∧ g = []) ∨
     ∃ k, k < n ∧ rst b q (t % q) n ≠ 0 ∧ rst b q (t % q) k = rst b q (t % q) n ∧ a = figs b q (t % q) 0 k ∧ g = figs b q (t % q) k (n - k))
theorem Fresh.uniq {b q r : Int} {n m : Nat} (F : Fresh b q r n) (G : Fresh b q r m) (hn : rst b q r n = 0 ∨ ∃ k, k < n ∧ rst b q r k = rst b q r n)
    (hm : rst b q r m = 0 ∨ ∃ k, k < m ∧ rst b q r k = rst b q r m) : n = m := by
  rcases Nat.lt_trichotomy n m with l | l | l
  · rcases hn with h | ⟨k, h1, h2⟩
    · exact absurd h (G.nz n l)
    · exact absurd h2 (G.ne k n h1 l)
  · exact l
  · rcases hm with h | ⟨k, h1, h2⟩
    · exact absurd h (F.nz m l)
    · exact absurd h2 (F.ne k m h1 l)
theorem DivIs.uniq {b t q w w' : Int} {a a' g g' : List Int} (x : DivIs b t q w a g) (y : DivIs b t q w' a' g') : w = w' ∧ a = a' ∧ g = g' := by
  obtain ⟨hw, n, F, h⟩ := x
  obtain ⟨hw', m, G, h'⟩ := y
  refine ⟨hw.trans hw'.symm, ?_⟩
  have e : n = m := F.uniq G (h.imp (·.1) fun ⟨k, a, _, c, _⟩ => ⟨k, a, c⟩) (h'.imp (·.1) fun ⟨k, a, _, c, _⟩ => ⟨k, a, c⟩)
  subst e
  rcases h with ⟨h0, ha, hg⟩ | ⟨k, h1, h2, h3, ha, hg⟩
  · rcases h' with ⟨h0', ha', hg'⟩ | ⟨k', h1', h2', h3', ha', hg'⟩
    · exact ⟨ha.trans ha'.symm, hg.trans hg'.symm⟩
    · exact absurd h0 h2'
  · rcases h' with ⟨h0', ha', hg'⟩ | ⟨k', h1', h2', h3', ha', hg'⟩
    · exact absurd h0' h2
    · have : k = k' := by
        rcases Nat.lt_trichotomy k k' with l | l | l
        · exact absurd (h3.trans h3'.symm) (F.ne k k' l h1')
        · exact l
        · exact absurd (h3'.trans h3.symm) (F.ne k' k l h1)
      subst this
      exact ⟨ha.trans ha'.symm, hg.trans hg'.symm⟩
/-- taken c times above and below -/
theorem rst_scale {b q r c : Int} (hc : 0 < c) : ∀ i, rst b (c * q) (c * r) i = c * rst b q r i
  | 0 => rfl
  | i + 1 => by
    show rst b (c * q) (c * r) i * b % (c * q) = c * (rst b q r i * b % q)
    rw [rst_scale hc i, Int.mul_assoc, Int.mul_emod_mul_of_pos _ _ hc]
theorem fig_scale {b q r c : Int} (hc : 0 < c) (i : Nat) : fig b (c * q) (c * r) i = fig b q r i := by
  unfold fig
  rw [rst_scale hc i, Int.mul_assoc, Int.mul_ediv_mul_of_pos _ _ hc]
theorem figs_scale {b q r c : Int} (hc : 0 < c) (k n : Nat) : figs b (c * q) (c * r) k n = figs b q r k n := by
  unfold figs
  apply List.map_congr_left
  intro i _
  exact fig_scale hc _
theorem DivIs.scale {b t q w c : Int} {a g : List Int} (hc : 0 < c) (x : DivIs b t q w a g) : DivIs b (c * t) (c * q) w a g := by
  obtain ⟨hw, n, F, h⟩ := x
  refine ⟨by rw [Int.mul_ediv_mul_of_pos _ _ hc]; exact hw, n, ?_, ?_⟩
  · rw [Int.mul_emod_mul_of_pos _ _ hc]
    refine ⟨fun i hi z => ?_, fun i j a d z => ?_⟩
    · rw [rst_scale hc] at z
      rcases Int.mul_eq_zero.mp z with z | z
      · omega
      · exact F.nz i hi z
    · rw [rst_scale hc, rst_scale hc] at z
      exact F.ne i j a d (Int.eq_of_mul_eq_mul_left (by omega) z)
  · rw [Int.mul_emod_mul_of_pos _ _ hc]
    simp only [rst_scale hc, figs_scale hc]
    rcases h with ⟨h0, ha, hg⟩ | ⟨k, h1, h2, h3, ha, hg⟩
    · exact .inl ⟨by rw [h0]; omega, ha, hg⟩
    · exact .inr ⟨k, h1, fun z => by rcases Int.mul_eq_zero.mp z with z | z; · omega
                                     · exact h2 z, by rw [h3], ha, hg⟩
end RF

end
section
namespace RF
/-! ### numbers of figures -/
def num (b : Int) (l : List Int) : Int := l.foldl (fun n d => n * b + d) 0
theorem num_foldl (b : Int) : ∀ (l : List Int) (n : Int), l.foldl (fun n d => n * b + d) n = n * b ^ l.length + num b l
  | [], n => by simp [num]
  | d :: l, n => by
    have h1 := num_foldl b l (n * b + d)
    have h2 := num_foldl b l (0 * b + d)
    simp only [num, List.foldl_cons, List.length_cons, Int.pow_succ] at *
    rw [h1, h2]
    grind
theorem num_nil (b : Int) : num b [] = 0 := rfl
theorem num_cons (b d : Int) (l : List Int) : num b (d :: l) = d * b ^ l.length + num b l := by
  show l.foldl (fun n d => n * b + d) (0 * b + d) = _
  rw [num_foldl]; simp
theorem num_append (b : Int) (l m : List Int) : num b (l ++ m) = num b l * b ^ m.length + num b m := by
  unfold num
  rw [List.foldl_append, num_foldl]; rfl
theorem num_snoc (b d : Int) (l : List Int) : num b (l ++ [d]) = num b l * b + d := by
  rw [num_append, num_cons]
  simp only [num_nil, List.length_cons, List.length_nil]
  grind
abbrev Figs (b : Int) (l : List Int) : Prop := ∀ d, d ∈ l → 0 ≤ d ∧ d < b
theorem pow_pos {b : Int} (hb : 0 < b) : ∀ n : Nat, 0 < b ^ n
  | 0 => by simp
  | n + 1 => by rw [Int.pow_succ]; exact Int.mul_pos (pow_pos hb n) hb
theorem num_bd {b : Int} (hb : 0 < b) : ∀ {l : List Int}, Figs b l → 0 ≤ num b l ∧ num b l < b ^ l.length
  | [], _ => by simp [num]
  | d :: l, h => by
    have ⟨h1, h2⟩ := num_bd hb (l := l) fun x hx => h x (List.mem_cons_of_mem _ hx)
    have ⟨h3, h4⟩ := h d List.mem_cons_self
    have hp := pow_pos hb l.length
    rw [num_cons, List.length_cons, Int.pow_succ]
    constructor
    · have := Int.mul_nonneg h3 (Int.le_of_lt hp); omega
    · have h5 : (d + 1) * b ^ l.length ≤ b * b ^ l.length := Int.mul_le_mul_of_nonneg_right (by omega) (Int.le_of_lt hp)
      grind
theorem num_zero {b : Int} (hb : 0 < b) : ∀ {l : List Int}, Figs b l → num b l = 0 → ∀ d, d ∈ l → d = 0
  | [], _, _, d, hd => by simp at hd
  | c :: l, h, e, d, hd => by
    have hl : Figs b l := fun x hx => h x (List.mem_cons_of_mem _ hx)
    have ⟨h1, h2⟩ := num_bd hb hl
    have ⟨h3, h4⟩ := h c List.mem_cons_self
    have hp := pow_pos hb l.length
    rw [num_cons] at e
    have h5 := Int.mul_nonneg h3 (Int.le_of_lt hp)
    have h6 : c * b ^ l.length = 0 := by omega
    have h7 : c = 0 := by
      rcases Int.mul_eq_zero.mp h6 with z | z
      · exact z
      · omega
    rcases List.mem_cons.mp hd with rfl | hd
    · exact h7
    · exact num_zero hb hl (by omega) d hd
/-- the number of the greatest figures alone, told apart -/
theorem num_top {b : Int} (hb : 0 < b) : ∀ {l : List Int}, Figs b l → num b l = b ^ l.length - 1 → ∀ d, d ∈ l → d = b - 1
  | [], _, _, d, hd => by simp at hd
  | c :: l, h, e, d, hd => by
    have hl : Figs b l := fun x hx => h x (List.mem_cons_of_mem _ hx)
    have ⟨h1, h2⟩ := num_bd hb hl
    have ⟨h3, h4⟩ := h c List.mem_cons_self
    have hp := pow_pos hb l.length
    rw [num_cons, List.length_cons, Int.pow_succ] at e
    have h7 : c = b - 1 := by
      refine Classical.byContradiction fun z => ?_
      have h5 : (c + 2) * b ^ l.length ≤ b * b ^ l.length := Int.mul_le_mul_of_nonneg_right (by omega) (Int.le_of_lt hp)
      grind
    have h8 : num b l = b ^ l.length - 1 := by subst h7; grind
    rcases List.mem_cons.mp hd with rfl | hd
    · exact h7
    · exact num_top hb hl h8 d hd
theorem num_inj {b : Int} (hb : 0 < b) : ∀ {l m : List Int}, Figs b l → Figs b m → l.length = m.length → num b l = num b m → l = m
  | [], [], _, _, _, _ => rfl
  | [], _ :: _, _, _, e, _ => by simp at e
  | _ :: _, [], _, _, e, _ => by simp at e
  | c :: l, d :: m, h, h', e, en => by
    have hl : Figs b l := fun x hx => h x (List.mem_cons_of_mem _ hx)
    have hm : Figs b m := fun x hx => h' x (List.mem_cons_of_mem _ hx)
    have ⟨h1, h2⟩ := num_bd hb hl
    have ⟨h3, h4⟩ := num_bd hb hm
    have el : l.length = m.length := by simpa using e
    have hp := pow_pos hb l.length
    rw [num_cons, num_cons, ← el] at en
    rw [← el] at h4
    have hcd : c = d := by
      rcases Int.lt_trichotomy c d with z | z | z
      · have h5 : (c + 1) * b ^ l.length ≤ d * b ^ l.length := Int.mul_le_mul_of_nonneg_right (by omega) (Int.le_of_lt hp)
        grind
      · exact z
      · have h5 : (d + 1) * b ^ l.length ≤ c * b ^ l.length := Int.mul_le_mul_of_nonneg_right (by omega) (Int.le_of_lt hp)
        grind
    subst hcd
    rw [num_inj hb hl hm el (by omega)]
/-! ### rotations -/
def rot1 : List Int → List Int
  | [] => []
  | x :: l => l ++ [x]
def rot : Nat → List Int → List Int
  | 0, l => l
  | n + 1, l => rot1 (rot n l)
theorem rot1_length (l : List Int) : (rot1 l).length = l.length := by cases l <;> simp [rot1]
theorem rot_length : ∀ (n : Nat) (l : List Int), (rot n l).length = l.length
  | 0, _ => rfl
  | n + 1, l => by show (rot1 (rot n l)).length = _; rw [rot1_length, rot_length n l]
theorem rot1_mem {x : Int} (l : List Int) : x ∈ rot1 l ↔ x ∈ l := by
  cases l with
  | nil => simp [rot1]
  | cons a l => simp [rot1, or_comm]
theorem rot_mem {x : Int} : ∀ (n : Nat) (l : List Int), x ∈ rot n l ↔ x ∈ l
  | 0, _ => Iff.rfl
  | n + 1, l => (rot1_mem _).trans (rot_mem n l)
theorem rot_figs {b : Int} {l : List Int} (h : Figs b l) (n : Nat) : Figs b (rot n l) := fun d hd => h d ((rot_mem n l).mp hd)
theorem rot_add : ∀ (n m : Nat) (l : List Int), rot (n + m) l = rot m (rot n l)
  | _, 0, _ => rfl
  | n, m + 1, l => by
    show rot1 (rot (n + m) l) = rot1 (rot m (rot n l))
    rw [rot_add n m l]
theorem rot_eq : ∀ (n : Nat) (l : List Int), n ≤ l.length → rot n l = l.drop n ++ l.take n
  | 0, l, _ => by simp [rot]
  | n + 1, l, h => by
    show rot1 (rot n l) = _
    rw [rot_eq n l (by omega)]
    have hn : n < l.length := by omega
    rw [List.drop_eq_getElem_cons hn]
    show (l.drop (n + 1) ++ l.take n) ++ [l[n]] = _
    rw [List.take_succ_eq_append_getElem hn, List.append_assoc]
theorem rot_len (l : List Int) : rot l.length l = l := by
  rw [rot_eq _ _ (Nat.le_refl _)]; simp
theorem rot_mul (l : List Int) : ∀ c : Nat, rot (c * l.length) l = l
  | 0 => by simp [rot]
  | c + 1 => by rw [Nat.add_mul, rot_add, rot_mul l c, Nat.one_mul, rot_len]
theorem rot1_inj {l m : List Int} (h : rot1 l = rot1 m) : l = m := by
  cases l with
  | nil => cases m with
    | nil => rfl
    | cons a m => simp [rot1] at h
  | cons a l => cases m with
    | nil => simp [rot1] at h
    | cons c m =>
      have h : l ++ [a] = m ++ [c] := h
      have := List.append_inj' h rfl
      simp at this
      rw [this.1, this.2]
theorem rot_inj : ∀ (n : Nat) {l m : List Int}, rot n l = rot n m → l = m
  | 0, _, _, h => h
  | n + 1, _, _, h => rot_inj n (rot1_inj h)
theorem num_rot1 {b x : Int} {l : List Int} : num b (x :: l) * b = x * (b ^ (l.length + 1) - 1) + num b (rot1 (x :: l)) := by
  show _ = _ + num b (l ++ [x])
  rw [num_cons, num_snoc, Int.pow_succ]; grind
/-- no shorter ring told twice or oftener -/
def Prim (g : List Int) : Prop := ∀ d, 0 < d → d < g.length → rot d g ≠ g
theorem Prim.rot {g : List Int} (p : Prim g) (n : Nat) : Prim (rot n g) := fun d h1 h2 e => by
  rw [rot_length] at h2
  rw [← rot_add, Nat.add_comm, rot_add] at e
  exact p d h1 h2 (rot_inj n e)
theorem Prim.ne {g : List Int} (p : Prim g) {i j : Nat} (h1 : i < j) (h2 : j < g.length) : RF.rot i g ≠ RF.rot j g := fun e => by
  have : RF.rot (j - i) g = g := by
    apply rot_inj i
    rw [← rot_add, show j - i + i = j by omega]
    exact e.symm
  exact p (j - i) (by omega) (by omega) this
/-- the words of the document, for figures ahead and a ring -/
def Plain (b : Int) (a g : List Int) : Prop :=
  (g = [] ∧ a.getLast? ≠ some 0) ∨
  (g ≠ [] ∧ (¬ ∀ d, d ∈ g → d = 0) ∧ (¬ ∀ d, d ∈ g → d = b - 1) ∧ Prim g ∧ a.getLast? ≠ g.getLast?)
/-- top and bottom of a writing's worth -/
def rM (b : Int) (g : List Int) : Int := if g = [] then 1 else b ^ g.length - 1
def wB (b : Int) (a g : List Int) : Int := b ^ a.length * rM b g
def wT (b w : Int) (a g : List Int) : Int := w * wB b a g + (num b a * rM b g + num b g)
theorem rM_nil (b : Int) : rM b [] = 1 := rfl
theorem rM_ne (b : Int) {g : List Int} (h : g ≠ []) : rM b g = b ^ g.length - 1 := by simp [rM, h]
theorem rM_pos {b : Int} (hb : 2 ≤ b) (g : List Int) : 0 < rM b g := by
  cases g with
  | nil => simp [rM]
  | cons x l =>
    rw [rM_ne b (by simp), List.length_cons, Int.pow_succ]
    have h1 := pow_pos (b := b) (by omega) l.length
    have h2 : b ^ l.length * 2 ≤ b ^ l.length * b := Int.mul_le_mul_of_nonneg_left hb (Int.le_of_lt h1)
    omega
theorem wB_pos {b : Int} (hb : 2 ≤ b) (a g : List Int) : 0 < wB b a g := Int.mul_pos (pow_pos (by omega) _) (rM_pos hb g)
/-- the figures ahead come out first -/
theorem rst_ahead {b M G : Int} (hb : 2 ≤ b) (hM : 0 < M) (hG : 0 ≤ G ∧ G < M) {a : List Int} (ha : Figs b a) :
    ∀ i, i ≤ a.length → rst b (b ^ a.length * M) (num b a * M + G) i = b ^ i * (num b (a.drop i) * M + G) ∧
      ∀ (h : i < a.length), rst b (b ^ a.length * M) (num b a * M + G) i * b = a[i] * (b ^ a.length * M) + b ^ (i + 1) * (num b (a.drop (i + 1)) * M + G)
  | i, hi => by
    have hbp : (0 : Int) < b := by omega
    have key : ∀ (h : i < a.length), b ^ i * (num b (a.drop i) * M + G) * b = a[i] * (b ^ a.length * M) + b ^ (i + 1) * (num b (a.drop (i + 1)) * M + G) := fun h => by
      rw [List.drop_eq_getElem_cons h, num_cons, List.length_drop]
      have e : a.length = (a.length - (i + 1)) + (i + 1) := by omega
      have e2 : b ^ a.length = b ^ (a.length - (i + 1)) * b ^ (i + 1) := by rw [← Int.pow_add, ← e]
      rw [e2, Int.pow_succ]; grind
    cases i with
    | zero =>
      have e0 : rst b (b ^ a.length * M) (num b a * M + G) 0 = b ^ 0 * (num b (a.drop 0) * M + G) := by
        show num b a * M + G = _
        simp
      exact ⟨e0, fun h => by rw [e0]; exact key h⟩
    | succ i =>
      have h := (rst_ahead hb hM hG ha i (by omega)).2 (by omega)
      have e1 : rst b (b ^ a.length * M) (num b a * M + G) (i + 1) = b ^ (i + 1) * (num b (a.drop (i + 1)) * M + G) := by
        show rst b (b ^ a.length * M) (num b a * M + G) i * b % (b ^ a.length * M) = _
        rw [h, Int.add_comm, Int.mul_comm a[i], Int.add_mul_emod_self_left]
        have hf : Figs b (a.drop (i + 1)) := fun d hd => ha d (List.mem_of_mem_drop hd)
        have ⟨q1, q2⟩ := num_bd hbp hf
        rw [List.length_drop] at q2
        have hp := pow_pos hbp (i + 1)
        apply Int.emod_eq_of_lt
        · exact Int.mul_nonneg (Int.le_of_lt hp) (by have := Int.mul_nonneg q1 (Int.le_of_lt hM); omega)
        · have e : a.length = (i + 1) + (a.length - (i + 1)) := by omega
          have e2 : b ^ a.length = b ^ (i + 1) * b ^ (a.length - (i + 1)) := by rw [← Int.pow_add, ← e]
          rw [e2, Int.mul_assoc]
          apply Int.mul_lt_mul_of_pos_left _ hp
          have q3 : (num b (a.drop (i + 1)) + 1) * M ≤ b ^ (a.length - (i + 1)) * M := Int.mul_le_mul_of_nonneg_right (by omega) (Int.le_of_lt hM)
          grind
      exact ⟨e1, fun h => by rw [e1]; exact key h⟩
end RF

end
section
namespace RF
/-! ### a plain writing is what long division tells of its worth -/
/-- the ring comes out behind -/
theorem rst_ring {b B r : Int} {g : List Int} (hb : 2 ≤ b) (hB : 0 < B) (hg : Figs b g) (hne : g ≠ []) (hn : ¬ ∀ d, d ∈ g → d = b - 1) {k : Nat}
    (h0 : rst b (B * (b ^ g.length - 1)) r k = B * num b g) (j : Nat) : rst b (B * (b ^ g.length - 1)) r (k + j) = B * num b (rot j g) ∧
      ∀ x l, rot j g = x :: l → rst b (B * (b ^ g.length - 1)) r (k + j) * b = x * (B * (b ^ g.length - 1)) + B * num b (rot (j + 1) g) := by
    have key : ∀ j x l, rot j g = x :: l → B * num b (rot j g) * b = x * (B * (b ^ g.length - 1)) + B * num b (rot (j + 1) g)   := fun j x l e => by
      show _ = _ + B * num b (rot1 (rot j g))
      have hl : g.length = l.length + 1 := by rw [← rot_length j g, e]; rfl
      rw [e, Int.mul_assoc, num_rot1, hl]
      grind
    induction j with
    | zero => exact ⟨h0, fun x l e => by rw [Nat.add_zero, h0]; exact key 0 x l e⟩
    | succ j ih0 =>
      have ih := ih0.2
      have e1 : rst b (B * (b ^ g.length - 1)) r (k + (j + 1)) = B * num b (rot (j + 1) g) := by
        show rst b (B * (b ^ g.length - 1)) r (k + j) * b % (B * (b ^ g.length - 1)) = _
        cases e : rot j g with
        | nil =>
          have := rot_length j g
          rw [e] at this
          exact absurd (List.length_eq_zero_iff.mp this.symm) hne
        | cons x l =>
          rw [ih x l e, Int.add_comm, Int.mul_comm x, Int.add_mul_emod_self_left]
          have hf : Figs b (rot (j + 1) g) := rot_figs hg (j + 1)
          have ⟨q1, q2⟩ := num_bd (by omega) hf
          rw [rot_length] at q2
          apply Int.emod_eq_of_lt (Int.mul_nonneg (Int.le_of_lt hB) q1)
          apply Int.mul_lt_mul_of_pos_left _ hB
          have q3 : num b (rot (j + 1) g) ≠ b ^ g.length - 1 := fun z => hn fun d hd =>
            num_top (b := b) (by omega) hf (by rw [rot_length]; exact z) d ((rot_mem (j + 1) g).mpr hd)
          omega
      exact ⟨e1, fun x l e => by rw [e1]; exact key (j + 1) x l e⟩
theorem ring_lt {b : Int} {g : List Int} (hb : 2 ≤ b) (hg : Figs b g) (hne : g ≠ []) (hn : ¬ ∀ d, d ∈ g → d = b - 1) : 0 ≤ num b g ∧ num b g < rM b g := by
  have ⟨q1, q2⟩ := num_bd (by omega) hg
  rw [rM_ne b hne]
  have q3 : num b g ≠ b ^ g.length - 1 := fun z => hn fun d hd => num_top (b := b) (by omega) hg z d hd
  omega
theorem div_of_mul_add {a q x y : Int} (e : a = x * q + y) (h0 : 0 ≤ y) (h1 : y < q) : a / q = x := by
  rw [e, Int.add_comm, Int.add_mul_ediv_right _ _ (by omega), Int.ediv_eq_zero_of_lt h0 h1, Int.zero_add]
theorem mod_of_mul_add {a q x y : Int} (e : a = x * q + y) (h0 : 0 ≤ y) (h1 : y < q) : a % q = y := by
  rw [e, Int.add_comm, Int.add_mul_emod_self_right]; exact Int.emod_eq_of_lt h0 h1
theorem figs_eq {b q r : Int} {k : Nat} {l : List Int} (h : ∀ (i : Nat) (hi : i < l.length), fig b q r (k + i) = l[i]) : figs b q r k l.length = l := by
  apply List.ext_getElem
  · simp [figs]
  · intro i h1 h2
    simp only [figs, List.getElem_map, List.getElem_range]
    exact h i h2
theorem head_rot {g : List Int} {j : Nat} (h : j < g.length) : ∃ l, rot j g = g[j] :: l := by
  rw [rot_eq j g (by omega), List.drop_eq_getElem_cons h]
  exact ⟨_, rfl⟩
theorem div_plain {b w : Int} {a g : List Int} (hb : 2 ≤ b) (ha : Figs b a) (hg : Figs b g) (hp : Plain b a g) : DivIs b (wT b w a g) (wB b a g) w a g := by
  have hbp : (0 : Int) < b := by omega
  have hM := rM_pos hb g
  have hB := pow_pos hbp a.length
  have hG : 0 ≤ num b g ∧ num b g < rM b g := by
    rcases hp with ⟨rfl, _⟩ | ⟨hne, _, hn, _⟩
    · simp [num, rM]
    · exact ring_lt hb hg hne hn
  have ⟨a1, a2⟩ := num_bd hbp ha
  have hN : 0 ≤ num b a * rM b g + num b g ∧ num b a * rM b g + num b g < wB b a g := by
    constructor
    · have := Int.mul_nonneg a1 (Int.le_of_lt hM); omega
    · have q3 : (num b a + 1) * rM b g ≤ b ^ a.length * rM b g := Int.mul_le_mul_of_nonneg_right (by omega) (Int.le_of_lt hM)
      unfold wB
      grind
  have em : wT b w a g % wB b a g = num b a * rM b g + num b g := mod_of_mul_add rfl hN.1 hN.2
  have ed : wT b w a g / wB b a g = w := div_of_mul_add rfl hN.1 hN.2
  refine ⟨ed.symm, ?_⟩
  rw [em]
  have hA := rst_ahead hb hM hG ha
  have hq : 0 < wB b a g := wB_pos hb a g
  have bd := rst_bd (b := b) hq hN.1 hN.2
  have eA : ∀ i (h : i < a.length), fig b (wB b a g) (num b a * rM b g + num b g) i = a[i] := fun i h => by
    have e1 := (hA i (by omega)).2 h
    have e2 := (hA (i + 1) (by omega)).1
    rw [← e2] at e1
    exact div_of_mul_add e1 (bd (i + 1)).1 (bd (i + 1)).2
  have fA : figs b (wB b a g) (num b a * rM b g + num b g) 0 a.length = a := figs_eq fun i hi => by rw [Nat.zero_add]; exact eA i hi
  have hk : rst b (wB b a g) (num b a * rM b g + num b g) a.length = b ^ a.length * num b g := by
    have := (hA a.length (Nat.le_refl _)).1
    rw [List.drop_length] at this
    rw [show wB b a g = b ^ a.length * rM b g from rfl, this]
    simp [num]
  rcases hp with ⟨rfl, hl⟩ | ⟨hne, hz, hn, hpr, hl⟩
  · refine ⟨a.length, ?_, .inl ⟨by rw [hk]; simp [num], fA.symm, rfl⟩⟩
    have nz : ∀ i, i < a.length → rst b (wB b a []) (num b a * rM b [] + num b []) i ≠ 0 := fun i hi z => by
      have e := rst_shift (b := b) (q := wB b a []) (r := num b a * rM b [] + num b []) (i := i) (j := a.length) (by rw [z, hk]; simp [num]) (a.length - 1 - i)
      rw [show i + (a.length - 1 - i) = a.length - 1 by omega] at e
      have z0 : ∀ t, rst b (wB b a []) (num b a * rM b [] + num b []) (a.length + t) = 0 := fun t => by
        induction t with
        | zero => rw [Nat.add_zero, hk]; simp [num]
        | succ t ih => show rst b (wB b a []) (num b a * rM b [] + num b []) (a.length + t) * b % _ = 0; rw [ih]; simp
      rw [z0] at e
      have e3 := eA (a.length - 1) (by omega)
      unfold fig at e3
      rw [e] at e3
      apply hl
      rw [List.getLast?_eq_getElem?, List.getElem?_eq_getElem (by omega), ← e3]
      simp
    refine ⟨nz, fun i j h1 h2 z => ?_⟩
    have e := rst_shift z (a.length - j)
    rw [show j + (a.length - j) = a.length by omega, hk] at e
    exact nz (i + (a.length - j)) (by omega) (by rw [e]; simp [num])
  · have eB : wB b a g = b ^ a.length * (b ^ g.length - 1) := by unfold wB; rw [rM_ne b hne]
    have hR := rst_ring (r := num b a * rM b g + num b g) hb hB hg hne hn (k := a.length) (by rw [← eB]; exact hk)
    rw [← eB] at hR
    have eR : ∀ j (h : j < g.length), fig b (wB b a g) (num b a * rM b g + num b g) (a.length + j) = g[j] := fun j h => by
      obtain ⟨l, hl'⟩ := head_rot h
      have e1 := (hR j).2 _ _ hl'
      rw [← (hR (j + 1)).1] at e1
      exact div_of_mul_add e1 (bd _).1 (bd _).2
    have fR : figs b (wB b a g) (num b a * rM b g + num b g) a.length g.length = g := figs_eq eR
    have gl : 0 < g.length := List.length_pos_iff.mpr hne
    have rnz : ∀ j, rst b (wB b a g) (num b a * rM b g + num b g) (a.length + j) ≠ 0 := fun j z => by
      rw [(hR j).1] at z
      rcases Int.mul_eq_zero.mp z with z | z
      · omega
      · exact hz fun d hd => num_zero hbp (rot_figs hg j) z d ((rot_mem j g).mpr hd)
    have en : rst b (wB b a g) (num b a * rM b g + num b g) (a.length + g.length) = rst b (wB b a g) (num b a * rM b g + num b g) a.length := by
      rw [(hR g.length).1, rot_len, hk]
    refine ⟨a.length + g.length, ?_, .inr ⟨a.length, by omega, rnz _, en.symm, fA.symm, by rw [Nat.add_sub_cancel_left]; exact fR.symm⟩⟩
    have nz : ∀ i, rst b (wB b a g) (num b a * rM b g + num b g) i ≠ 0 := fun i z => by
      by_cases hi : i < a.length
      · have z0 : ∀ t, rst b (wB b a g) (num b a * rM b g + num b g) (i + t) = 0 := fun t => by
          induction t with
          | zero => exact z
          | succ t ih => show rst b (wB b a g) (num b a * rM b g + num b g) (i + t) * b % _ = 0; rw [ih]; simp
        have := z0 (a.length - i)
        rw [show i + (a.length - i) = a.length + 0 by omega] at this
        exact rnz 0 this
      · exact rnz (i - a.length) (by rw [show a.length + (i - a.length) = i by omega]; exact z)
    refine ⟨fun i _ => nz i, fun i j h1 h2 z => ?_⟩
    by_cases hi : a.length ≤ i
    · have e1 := (hR (i - a.length)).1
      have e2 := (hR (j - a.length)).1
      rw [show a.length + (i - a.length) = i by omega] at e1
      rw [show a.length + (j - a.length) = j by omega] at e2
      rw [e1, e2] at z
      have z := Int.eq_of_mul_eq_mul_left (by omega) z
      exact hpr.ne (i := i - a.length) (j := j - a.length) (by omega) (by omega)
        (num_inj hbp (rot_figs hg _) (rot_figs hg _) (by rw [rot_length, rot_length]) z)
    · have e := rst_shift z (a.length - 1 - i)
      rw [show i + (a.length - 1 - i) = a.length - 1 by omega] at e
      have e' := rst_shift z (a.length - i)
      rw [show i + (a.length - i) = a.length by omega] at e'
      obtain ⟨u, hu⟩ : ∃ u, j + (a.length - 1 - i) = a.length + u := ⟨j - 1 - i, by omega⟩
      rw [hu] at e
      rw [show j + (a.length - i) = a.length + (u + 1) by omega, hk, (hR (u + 1)).1] at e'
      have e' := Int.eq_of_mul_eq_mul_left (by omega) e'
      have er : g = rot (u + 1) g := num_inj hbp hg (rot_figs hg _) (by rw [rot_length]) e'
      have f1 := eA (a.length - 1) (by omega)
      unfold fig at f1
      rw [e] at f1
      cases hx : rot u g with
      | nil =>
        have := rot_length u g
        rw [hx] at this
        exact hne (List.length_eq_zero_iff.mp this.symm)
      | cons x l =>
        have e3 := (hR u).2 x l hx
        rw [← (hR (u + 1)).1] at e3
        rw [div_of_mul_add e3 (bd _).1 (bd _).2] at f1
        apply hl
        have e4 : g = l ++ [x] := by
          rw [er]
          show rot1 (rot u g) = _
          rw [hx]; rfl
        rw [List.getLast?_eq_getElem?, List.getElem?_eq_getElem (by omega), ← f1, e4]
        simp
end RF

end
section
namespace RF
/-! ### what long division tells is plain and is worth the fraction -/
theorem DivIs.unscale {b t q w c : Int} {a g : List Int} (hc : 0 < c) (x : DivIs b (c * t) (c * q) w a g) : DivIs b t q w a g := by
  obtain ⟨hw, n, F, h⟩ := x
  rw [Int.mul_emod_mul_of_pos _ _ hc] at F h
  simp only [rst_scale hc, figs_scale hc] at h
  refine ⟨by rw [Int.mul_ediv_mul_of_pos _ _ hc] at hw; exact hw, n, ⟨fun i hi z => F.nz i hi ?_, fun i j a d z => F.ne i j a d ?_⟩, ?_⟩
  · rw [rst_scale hc, z]; omega
  · rw [rst_scale hc, rst_scale hc, z]
  · rcases h with ⟨h0, ha, hg⟩ | ⟨k, h1, h2, h3, ha, hg⟩
    · refine .inl ⟨?_, ha, hg⟩
      rcases Int.mul_eq_zero.mp h0 with z | z
      · omega
      · exact z
    · exact .inr ⟨k, h1, fun z => h2 (by rw [z]; omega), Int.eq_of_mul_eq_mul_left (by omega) h3, ha, hg⟩
/-- two fractions of one worth have one writing -/
theorem DivIs.cross {b t q T B w : Int} {a g : List Int} (hq : 0 < q) (hB : 0 < B) (e : T * q = t * B) (x : DivIs b T B w a g) : DivIs b t q w a g := by
  have y := x.scale hq
  rw [Int.mul_comm q T, e, Int.mul_comm t B, Int.mul_comm q B] at y
  exact y.unscale hB
theorem rst_pow {b q r : Int} (i : Nat) : ∀ n, rst b q r i * b ^ n = num b (figs b q r i n) * q + rst b q r (i + n)
  | 0 => by simp [figs, num]
  | n + 1 => by
    have h := rst_pow (b := b) (q := q) (r := r) i n
    have s := rst_step (b := b) (q := q) (r := r) (i + n)
    rw [figs_succ, num_snoc, Int.pow_succ, ← Int.mul_assoc, h]
    show _ = _ + rst b q r (i + n + 1)
    grind
theorem figs_mem {b q r : Int} (hb : 0 < b) (hq : 0 < q) (h0 : 0 ≤ r) (h1 : r < q) (k n : Nat) : Figs b (figs b q r k n) := fun d hd => by
  obtain ⟨i, _, rfl⟩ := List.mem_map.mp hd
  exact fig_bd hb hq h0 h1 _
theorem figs_cons {b q r : Int} {k n : Nat} : figs b q r k (n + 1) = fig b q r k :: figs b q r (k + 1) n := by
  unfold figs
  rw [List.range_succ_eq_map, List.map_cons, List.map_map]
  congr 1
  apply List.map_congr_left
  intro i _
  show fig b q r (k + (i + 1)) = fig b q r (k + 1 + i)
  rw [show k + (i + 1) = k + 1 + i by omega]
theorem rot_figs_eq {b q r : Int} {k m : Nat} (e : rst b q r k = rst b q r (k + m)) (hm : 0 < m) : ∀ d, rot d (figs b q r k m) = figs b q r (k + d) m
  | 0 => rfl
  | d + 1 => by
    show rot1 (rot d (figs b q r k m)) = _
    rw [rot_figs_eq e hm d]
    obtain ⟨m', rfl⟩ : ∃ m', m = m' + 1 := ⟨m - 1, by omega⟩
    rw [figs_cons]
    show figs b q r (k + d + 1) m' ++ [fig b q r (k + d)] = figs b q r (k + d + 1) (m' + 1)
    rw [figs_succ]
    congr 2
    unfold fig
    rw [rst_shift e d]
    congr 3
    omega
theorem num_zeros {b : Int} : ∀ {l : List Int}, (∀ d, d ∈ l → d = 0) → num b l = 0
  | [], _ => rfl
  | d :: l, h => by rw [num_cons, h d List.mem_cons_self, num_zeros fun x hx => h x (List.mem_cons_of_mem _ hx)]; simp
theorem num_tops {b : Int} : ∀ {l : List Int}, (∀ d, d ∈ l → d = b - 1) → num b l = b ^ l.length - 1
  | [], _ => by simp [num]
  | d :: l, h => by
    rw [num_cons, h d List.mem_cons_self, num_tops fun x hx => h x (List.mem_cons_of_mem _ hx), List.length_cons, Int.pow_succ]
    grind
theorem figs_last {b q r : Int} {k n : Nat} (h : 0 < n) : (figs b q r k n).getLast? = some (fig b q r (k + n - 1)) := by
  obtain ⟨m, rfl⟩ : ∃ m, n = m + 1 := ⟨n - 1, by omega⟩
  rw [figs_succ]
  simp
structure Told (b t q w : Int) (a g : List Int) : Prop where
  fa : Figs b a
  fg : Figs b g
  pl : Plain b a g
  wo : wT b w a g * q = t * wB b a g
  w0 : 0 ≤ w
  w1 : w ≤ t
  ln : a.length + g.length < q.toNat
theorem DivIs.told {b t q w : Int} {a g : List Int} (hb : 2 ≤ b) (hq : 0 < q) (ht : 0 ≤ t) (x : DivIs b t q w a g) : Told b t q w a g := by
  obtain ⟨hw, n, F, h⟩ := x
  have h0 : 0 ≤ t % q := Int.emod_nonneg _ (by omega)
  have h1 : t % q < q := Int.emod_lt_of_pos _ hq
  have hbp : (0 : Int) < b := by omega
  have hn := F.lt hq h0 h1
  have bd := rst_bd (b := b) hq h0 h1
  have et : t = w * q + t % q := by
    have := Int.mul_ediv_add_emod t q
    rw [Int.mul_comm, ← hw] at this
    omega
  have w0 : 0 ≤ w := by rw [hw]; exact Int.ediv_nonneg ht (by omega)
  have w1 : w ≤ t := by
    have : w * 1 ≤ w * q := Int.mul_le_mul_of_nonneg_left (by omega) w0
    omega
  rcases h with ⟨h0', rfl, rfl⟩ | ⟨k, hk, hz, he, rfl, rfl⟩
  · refine ⟨figs_mem hbp hq h0 h1 _ _, fun d hd => by simp at hd, .inl ⟨rfl, fun z => ?_⟩, ?_, w0, w1, by rw [figs_length]; simpa using hn⟩
    · cases n with
      | zero => simp [figs] at z
      | succ n =>
        rw [figs_last (by omega)] at z
        have z := Option.some.inj z
        have s := rst_step (b := b) (q := q) (r := t % q) n
        rw [show 0 + (n + 1) - 1 = n by omega] at z
        rw [z, h0'] at s
        have s' : rst b q (t % q) n * b = 0 := by omega
        rcases Int.mul_eq_zero.mp s' with z | z
        · exact F.nz n (by omega) z
        · omega
    · have p := rst_pow (b := b) (q := q) (r := t % q) 0 n
      rw [Nat.zero_add, h0'] at p
      have e0 : rst b q (t % q) 0 = t % q := rfl
      rw [e0] at p
      unfold wT wB
      rw [rM_nil, figs_length, num_nil]
      generalize t % q = r at *
      grind
  · have e0 : rst b q (t % q) 0 = t % q := rfl
    have p := rst_pow (b := b) (q := q) (r := t % q) 0 k
    have p2 := rst_pow (b := b) (q := q) (r := t % q) k (n - k)
    rw [Nat.zero_add, e0] at p
    rw [show k + (n - k) = n by omega, ← he] at p2
    have gl : (figs b q (t % q) k (n - k)).length = n - k := figs_length
    have gne : figs b q (t % q) k (n - k) ≠ [] := fun z => by rw [z] at gl; simp at gl; omega
    have bkp := pow_pos hbp (n - k)
    have p3 : rst b q (t % q) k * (b ^ (n - k) - 1) = num b (figs b q (t % q) k (n - k)) * q := by grind
    have hMpos : 0 < b ^ (n - k) - 1 := by
      have := rM_pos hb (figs b q (t % q) k (n - k))
      rw [rM_ne b gne, gl] at this
      exact this
    refine ⟨figs_mem hbp hq h0 h1 _ _, figs_mem hbp hq h0 h1 _ _, .inr ⟨gne, fun z => ?_, fun z => ?_, fun d d0 d1 z => ?_, fun z => ?_⟩, ?_, w0, w1, by rw [figs_length, figs_length]; omega⟩
    · rw [num_zeros z] at p3
      have p3 : rst b q (t % q) k * (b ^ (n - k) - 1) = 0 := by omega
      rcases Int.mul_eq_zero.mp p3 with y | y
      · exact F.nz k hk y
      · omega
    · rw [num_tops z, gl] at p3
      rw [Int.mul_comm] at p3
      have := Int.eq_of_mul_eq_mul_left (by omega) p3
      have := bd k
      omega
    · rw [gl] at d1
      have ek : rst b q (t % q) k = rst b q (t % q) (k + (n - k)) := by rw [show k + (n - k) = n by omega]; exact he
      rw [rot_figs_eq ek (by omega) d] at z
      have p4 := rst_pow (b := b) (q := q) (r := t % q) (k + d) (n - k)
      have e4 := rst_shift ek d
      rw [z, show k + d + (n - k) = k + (n - k) + d by omega, ← e4] at p4
      have p5 : rst b q (t % q) (k + d) * (b ^ (n - k) - 1) = rst b q (t % q) k * (b ^ (n - k) - 1) := by grind
      rw [Int.mul_comm, Int.mul_comm _ (b ^ (n - k) - 1)] at p5
      exact F.ne k (k + d) (by omega) (by omega) (Int.eq_of_mul_eq_mul_left (by omega) p5).symm
    · rw [figs_last (k := k) (n := n - k) (by omega)] at z
      cases k with
      | zero => simp [figs] at z
      | succ k =>
        rw [figs_last (k := 0) (n := k + 1) (by omega)] at z
        have z := Option.some.inj z
        rw [show 0 + (k + 1) - 1 = k by omega, show k + 1 + (n - (k + 1)) - 1 = n - 1 by omega] at z
        have s1 := rst_step (b := b) (q := q) (r := t % q) k
        have s2 := rst_step (b := b) (q := q) (r := t % q) (n - 1)
        rw [show n - 1 + 1 = n by omega, ← he, ← z, ← s1, Int.mul_comm, Int.mul_comm _ b] at s2
        exact F.ne k (n - 1) (by omega) (by omega) (Int.eq_of_mul_eq_mul_left (by omega) s2).symm
    · unfold wT wB
      rw [rM_ne b gne, gl, figs_length]
      generalize t % q = r at *
      generalize num b (figs b q r k (n - k)) = x at *
      generalize num b (figs b q r 0 k) = y at *
      generalize rst b q r k = rk at *
      have e1 : t = w * q + r := et
      subst e1
      have : b ^ k * r = y * q + rk := by rw [Int.mul_comm]; exact p
      grind
/-! ### lowest terms -/
def low (t q : Int) : Int × Int := (t / (Int.gcd t q : Nat), q / (Int.gcd t q : Nat))
theorem low_cross {T B t q : Int} (hB : 0 < B) (hq : 0 < q) (e : T * q = t * B) : low T B = low t q := by
  have g1 : Int.gcd (T * q) (B * q) = Int.gcd T B * q.natAbs := Int.gcd_mul_right T q B
  have g2 : Int.gcd (t * B) (q * B) = Int.gcd t q * B.natAbs := Int.gcd_mul_right t B q
  rw [e, Int.mul_comm B q, g2] at g1
  have p1 : 0 < Int.gcd T B := Int.gcd_pos_of_ne_zero_right _ (by omega)
  have p2 : 0 < Int.gcd t q := Int.gcd_pos_of_ne_zero_right _ (by omega)
  have g3 : (Int.gcd t q : Int) * B = (Int.gcd T B : Int) * q := by
    have := congrArg (fun n : Nat => (n : Int)) g1
    simp only [Int.natCast_mul] at this
    rw [Int.natAbs_of_nonneg (by omega), Int.natAbs_of_nonneg (by omega)] at this
    exact this
  obtain ⟨T1, hT⟩ := Int.gcd_dvd_left T B
  obtain ⟨B1, hB1⟩ := Int.gcd_dvd_right T B
  obtain ⟨t1, ht⟩ := Int.gcd_dvd_left t q
  obtain ⟨q1, hq1⟩ := Int.gcd_dvd_right t q
  unfold low
  generalize (Int.gcd T B) = G at *
  generalize (Int.gcd t q) = g at *
  subst hT hB1 ht hq1
  have G0 : (G : Int) ≠ 0 := by omega
  have g0 : (g : Int) ≠ 0 := by omega
  rw [Int.mul_ediv_cancel_left _ G0, Int.mul_ediv_cancel_left _ G0, Int.mul_ediv_cancel_left _ g0, Int.mul_ediv_cancel_left _ g0]
  have e1 : B1 = q1 := by
    have : ((g : Int) * G) * B1 = ((g : Int) * G) * q1 := by grind
    exact Int.eq_of_mul_eq_mul_left (Int.mul_ne_zero g0 G0) this
  subst e1
  have hB1 : B1 ≠ 0 := by
    intro z
    rw [z] at hB
    simp at hB
  have : ((g : Int) * G * B1) * T1 = ((g : Int) * G * B1) * t1 := by grind
  rw [Int.eq_of_mul_eq_mul_left (Int.mul_ne_zero (Int.mul_ne_zero g0 G0) hB1) this]
theorem low_pos {T B : Int} (hB : 0 < B) : 0 < (low T B).2 := by
  obtain ⟨B1, hB1⟩ := Int.gcd_dvd_right T B
  have p1 : 0 < Int.gcd T B := Int.gcd_pos_of_ne_zero_right _ (by omega)
  show 0 < B / (Int.gcd T B : Nat)
  exact Int.ediv_pos_of_pos_of_dvd hB (by omega) (Int.gcd_dvd_right T B)
/-- cross product with its lowest terms -/
theorem low_mul {T B : Int} (hB : 0 < B) : T * (low T B).2 = (low T B).1 * B := by
  show T * (B / (Int.gcd T B : Nat)) = T / (Int.gcd T B : Nat) * B
  obtain ⟨T1, hT⟩ := Int.gcd_dvd_left T B
  obtain ⟨B1, hB1⟩ := Int.gcd_dvd_right T B
  have p1 : 0 < Int.gcd T B := Int.gcd_pos_of_ne_zero_right _ (by omega)
  generalize (Int.gcd T B) = G at *
  subst hT hB1
  have G0 : (G : Int) ≠ 0 := by omega
  rw [Int.mul_ediv_cancel_left _ G0, Int.mul_ediv_cancel_left _ G0]
  grind
end RF

end
section
namespace RF
/-! ### repeated rings -/
def rep (c : Nat) (h : List Int) : List Int := (List.replicate c h).flatten
theorem rep_zero (h : List Int) : rep 0 h = [] := rfl
theorem rep_succ (c : Nat) (h : List Int) : rep (c + 1) h = h ++ rep c h := by simp [rep, List.replicate_succ]
theorem rep_succ' (h : List Int) : ∀ c, rep (c + 1) h = rep c h ++ h
  | 0 => by simp [rep]
  | c + 1 => by
    have e := rep_succ' h c
    rw [rep_succ (c + 1)]
    conv => lhs; rw [e]
    rw [← List.append_assoc, ← rep_succ]
theorem rep_length (h : List Int) : ∀ c, (rep c h).length = c * h.length
  | 0 => by simp [rep]
  | c + 1 => by rw [rep_succ, List.length_append, rep_length h c, Nat.add_mul]; omega
theorem rep_add (h : List Int) (d : Nat) : ∀ c, rep (c + d) h = rep c h ++ rep d h
  | 0 => by simp [rep]
  | c + 1 => by rw [show c + 1 + d = (c + d) + 1 by omega, rep_succ, rep_add h d c, rep_succ, List.append_assoc]
theorem rep_rep (h : List Int) (d : Nat) : ∀ c, rep c (rep d h) = rep (c * d) h
  | 0 => by simp [rep]
  | c + 1 => by rw [rep_succ, rep_rep h d c, Nat.add_mul, Nat.one_mul, Nat.add_comm, rep_add]
theorem rep_mem {x : Int} {h : List Int} : ∀ {c}, x ∈ rep c h → x ∈ h
  | 0, m => by simp [rep] at m
  | c + 1, m => by
    rw [rep_succ] at m
    rcases List.mem_append.mp m with m | m
    · exact m
    · exact rep_mem m
theorem rot_append : ∀ (l m : List Int), rot l.length (l ++ m) = m ++ l := fun l m => by
  rw [rot_eq _ _ (by simp)]; simp
/-- ring of d figures told again and again -/
def Per (d : Nat) (g : List Int) : Prop := g.length % d = 0 ∧ rep (g.length / d) (g.take d) = g
theorem Per.rot {d : Nat} {g : List Int} (p : Per d g) (h0 : 0 < d) (h1 : d ≤ g.length) : rot d g = g := by
  obtain ⟨_, p⟩ := p
  obtain ⟨c, hc⟩ : ∃ c, g.length / d = c + 1 := ⟨g.length / d - 1, by have := Nat.div_pos h1 h0; omega⟩
  rw [hc] at p
  have hl : (g.take d).length = d := by rw [List.length_take]; omega
  have e := rot_append (g.take d) (rep c (g.take d))
  rw [← rep_succ, ← rep_succ', hl, p] at e
  exact e
theorem comm_rep {h : List Int} (hh : h ≠ []) : ∀ (c : Nat) (g : List Int), h ++ g = g ++ h → g.length = c * h.length → g = rep c h
  | 0, g, _, l => by
    have : g.length = 0 := by omega
    rw [List.length_eq_zero_iff.mp this]; rfl
  | c + 1, g, e, l => by
    have hl : h.length ≤ g.length := by rw [l, Nat.add_mul]; omega
    have e1 : h = g.take h.length := by
      have := congrArg (List.take h.length) e
      rw [List.take_left' rfl, List.take_append_of_le_length hl] at this
      exact this
    have e2 : g = h ++ g.drop h.length := by
      have := List.take_append_drop h.length g
      rw [← e1] at this
      exact this.symm
    have e3 : h ++ g.drop h.length = g.drop h.length ++ h := by
      rw [e2, List.append_assoc] at e
      have := List.append_cancel_left e
      rw [← e2] at this
      rw [← e2]
      exact this
    rw [e2, rep_succ, comm_rep hh c (g.drop h.length) e3 (by rw [List.length_drop, l, Nat.add_mul]; omega)]
theorem per_of_rot {d : Nat} {g : List Int} (h0 : 0 < d) (h1 : d < g.length) (hd : g.length % d = 0) (e : rot d g = g) : Per d g := by
  refine ⟨hd, ?_⟩
  have hl : (g.take d).length = d := by rw [List.length_take]; omega
  have hne : g.take d ≠ [] := fun z => by rw [z] at hl; simp at hl; omega
  rw [rot_eq d g (by omega)] at e
  have e1 : g.take d ++ g.drop d = g := List.take_append_drop d g
  have hc : g.length = g.length / d * d := by
    have := Nat.div_add_mod g.length d
    rw [hd, Nat.add_zero, Nat.mul_comm] at this
    exact this.symm
  obtain ⟨c, hcc⟩ : ∃ c, g.length / d = c + 1 := ⟨g.length / d - 1, by have := Nat.div_pos (Nat.le_of_lt h1) h0; omega⟩
  have := comm_rep hne c (g.drop d) (e1.trans e.symm) (by rw [List.length_drop, hl, hc, hcc, Nat.add_mul]; omega)
  rw [hcc, rep_succ, ← this]
  exact e1
theorem rot_period {g : List Int} : ∀ (n d : Nat), d ≤ n → 0 < d → d < g.length → rot d g = g → ∃ e, 0 < e ∧ e < g.length ∧ g.length % e = 0 ∧ rot e g = g
  | 0, d, h, h0, _, _ => absurd h (by omega)
  | n + 1, d, h, h0, h1, e => by
    by_cases hd : g.length % d = 0
    · exact ⟨d, h0, h1, hd, e⟩
    · have hr := Nat.mod_lt g.length h0
      have ec : ∀ c, rot (c * d) g = g := fun c => by
        induction c with
        | zero => simp [rot]
        | succ c ih => rw [Nat.add_mul, Nat.one_mul, rot_add, ih, e]
      refine rot_period n (g.length % d) (by omega) (by omega) (by omega) ?_
      have hs : g.length / d * d + g.length % d = g.length := by rw [Nat.mul_comm]; exact Nat.div_add_mod _ _
      have := rot_add (g.length / d * d) (g.length % d) g
      rw [hs, ec, rot_len] at this
      exact this.symm
theorem prim_of {g : List Int} (h : ∀ e, 0 < e → e < g.length → ¬ Per e g) : Prim g := fun d h0 h1 e => by
  obtain ⟨x, x0, x1, x2, x3⟩ := rot_period d d (Nat.le_refl _) h0 h1 e
  exact h x x0 x1 (per_of_rot x0 x1 x2 x3)
theorem Prim.no {g : List Int} (p : Prim g) {e : Nat} (h0 : 0 < e) (h1 : e < g.length) : ¬ Per e g := fun z => p e h0 h1 (z.rot h0 (Nat.le_of_lt h1))
/-- the shortest ring -/
def ShortIs (g h : List Int) : Prop :=
  (∃ d, 0 < d ∧ d < g.length ∧ Per d g ∧ h = g.take d ∧ ∀ e, 0 < e → e < d → ¬ Per e g) ∨ (h = g ∧ ∀ e, 0 < e → e < g.length → ¬ Per e g)
theorem per_short {d e : Nat} {g : List Int} (h0 : 0 < e) (h1 : e < d) (h2 : d < g.length) (p : Per d g) (q : Per e (g.take d)) : Per e g := by
  have hl : (g.take d).length = d := by rw [List.length_take]; omega
  obtain ⟨p1, p2⟩ := p
  obtain ⟨q1, q2⟩ := q
  rw [hl] at q1 q2
  rw [List.take_take, Nat.min_eq_left (Nat.le_of_lt h1)] at q2
  obtain ⟨x, hx⟩ := Nat.dvd_of_mod_eq_zero p1
  obtain ⟨y, hy⟩ := Nat.dvd_of_mod_eq_zero q1
  have hd : 0 < d := by omega
  have e1 : g.length / d = x := by rw [hx]; exact Nat.mul_div_cancel_left x hd
  have e2 : d / e = y := by
    have : e * y / e = y := Nat.mul_div_cancel_left y h0
    rw [← hy] at this; exact this
  have e3 : g.length / e = x * y := by
    have : g.length = e * (x * y) := by rw [hx]; conv => lhs; rw [hy]
                                        rw [Nat.mul_assoc, Nat.mul_comm y x]
    rw [this]; exact Nat.mul_div_cancel_left _ h0
  refine ⟨?_, ?_⟩
  · rw [hx, hy, Nat.mul_assoc]; exact Nat.mul_mod_right _ _
  · rw [e3, ← rep_rep, ← e2, q2, ← e1, p2]
structure Short (g h : List Int) : Prop where
  pr : Prim h
  rp : ∃ c, 0 < c ∧ g = rep c h
  ln : h.length ≤ g.length
  ne : g ≠ [] → h ≠ []
theorem ShortIs.facts {g h : List Int} (x : ShortIs g h) : Short g h := by
  rcases x with ⟨d, h0, h1, p, rfl, mn⟩ | ⟨rfl, mn⟩
  · have hl : (g.take d).length = d := by rw [List.length_take]; omega
    refine ⟨prim_of fun e e0 e1 q => ?_, ⟨g.length / d, Nat.div_pos (Nat.le_of_lt h1) h0, p.2.symm⟩, by omega, fun _ z => by rw [z] at hl; simp at hl; omega⟩
    rw [hl] at e1
    exact mn e e0 e1 (per_short e0 e1 h1 p q)
  · exact ⟨prim_of mn, ⟨1, by omega, by simp [rep]⟩, Nat.le_refl _, fun z => z⟩
/-- a ring is its own shortest one just where it is no shorter one told again -/
theorem ShortIs.self {g h : List Int} (x : ShortIs g h) : h = g ↔ Prim g := by
  constructor
  · intro e
    have := x.facts.pr
    rw [e] at this; exact this
  · intro p
    rcases x with ⟨d, h0, h1, q, rfl, mn⟩ | ⟨rfl, mn⟩
    · exact absurd q (p.no h0 h1)
    · rfl
/-! ### one worth -/
def SameW (b w : Int) (a g : List Int) (w' : Int) (a' g' : List Int) : Prop := wT b w a g * wB b a' g' = wT b w' a' g' * wB b a g
theorem SameW.refl (b w : Int) (a g : List Int) : SameW b w a g w a g := rfl
theorem SameW.symm {b w w' : Int} {a g a' g' : List Int} (h : SameW b w a g w' a' g') : SameW b w' a' g' w a g := Eq.symm h
theorem SameW.trans {b w w1 w2 : Int} {a g a1 g1 a2 g2 : List Int} (hb : 2 ≤ b) (x : SameW b w a g w1 a1 g1) (y : SameW b w1 a1 g1 w2 a2 g2) : SameW b w a g w2 a2 g2 := by
  unfold SameW at *
  have p := wB_pos hb a1 g1
  generalize wT b w a g = A at *
  generalize wB b a g = B at *
  generalize wT b w1 a1 g1 = A1 at *
  generalize wB b a1 g1 = B1 at *
  generalize wT b w2 a2 g2 = A2 at *
  generalize wB b a2 g2 = B2 at *
  have : B1 * (A * B2) = B1 * (A2 * B) := by grind
  exact Int.eq_of_mul_eq_mul_left (by omega) this
theorem num_rep {b : Int} (h : List Int) : ∀ c, num b (rep c h) * (b ^ h.length - 1) = num b h * (b ^ (c * h.length) - 1)
  | 0 => by simp [rep, num]
  | c + 1 => by
    have ih := num_rep (b := b) h c
    rw [rep_succ, num_append, rep_length, Nat.add_mul, Nat.one_mul, Int.pow_add]
    grind
theorem same_rep {b w : Int} {a h : List Int} {c : Nat} (hc : 0 < c) : SameW b w a (rep c h) w a h := by
  cases h with
  | nil =>
    have : rep c [] = [] := by simp [rep]
    rw [this]; exact SameW.refl _ _ _ _
  | cons x l =>
    have hn := num_rep (b := b) (x :: l) c
    have hne : rep c (x :: l) ≠ [] := fun z => by
      have h1 := rep_length (x :: l) c
      rw [z] at h1
      have h2 : c * (x :: l).length = 0 := h1.symm
      rcases Nat.mul_eq_zero.mp h2 with y | y
      · omega
      · simp at y
    unfold SameW wT wB
    rw [rM_ne b hne, rM_ne b (by simp : x :: l ≠ []), rep_length]
    generalize num b (rep c (x :: l)) = N at *
    generalize num b (x :: l) = n at *
    generalize num b a = u at *
    generalize b ^ (c * (x :: l).length) = P at *
    generalize b ^ (x :: l).length = p at *
    generalize b ^ a.length = q at *
    grind
/-- the last figure ahead drawn into the ring -/
theorem same_draw {b w x : Int} {a l : List Int} : SameW b w (a ++ [x]) (l ++ [x]) w a (x :: l) := by
  unfold SameW wT wB
  rw [rM_ne b (by simp : l ++ [x] ≠ []), rM_ne b (by simp : x :: l ≠ []), num_snoc, num_snoc, num_cons]
  simp only [List.length_append, List.length_cons, List.length_nil, Int.pow_add]
  generalize num b a = u at *
  generalize num b l = v at *
  generalize b ^ l.length = p at *
  generalize b ^ a.length = q at *
  grind
theorem same_zero_ring {b w : Int} {a : List Int} : SameW b w a [0] w a [] := by
  unfold SameW wT wB
  rw [rM_ne b (by simp : [(0 : Int)] ≠ []), rM_nil, num_cons]
  simp only [List.length_cons, List.length_nil, num_nil]
  grind
theorem same_zeros {b w : Int} {a : List Int} : ∀ j, SameW b w (a ++ List.replicate j 0) [] w a []
  | j => by
    have hz : num b (List.replicate j (0 : Int)) = 0 := num_zeros fun d hd => List.eq_of_mem_replicate hd
    unfold SameW wT wB
    rw [rM_nil, num_append, hz]
    simp only [List.length_append, List.length_replicate, Int.pow_add, num_nil]
    generalize num b a = u at *
    grind
theorem same_tops {b w : Int} {a : List Int} {j : Nat} : wT b w (a ++ List.replicate j (b - 1)) [b - 1] * b ^ a.length = (w * b ^ a.length + num b a + 1) * wB b (a ++ List.replicate j (b - 1)) [b - 1] := by
  have hz : num b (List.replicate j (b - 1)) = b ^ j - 1 := by
    have := num_tops (b := b) (l := List.replicate j (b - 1)) fun d hd => List.eq_of_mem_replicate hd
    rw [List.length_replicate] at this
    exact this
  unfold wT wB
  rw [rM_ne b (by simp : [b - 1] ≠ []), num_append, hz, num_cons]
  simp only [List.length_append, List.length_replicate, Int.pow_add, num_nil, List.length_cons, List.length_nil]
  generalize num b a = u at *
  grind
/-- rounded up, nothing left -/
theorem same_up0 {b w : Int} {j : Nat} : SameW b w (List.replicate j (b - 1)) [b - 1] (w + 1) [] [] := by
  have h := same_tops (b := b) (w := w) (a := []) (j := j)
  unfold SameW
  simp only [List.nil_append] at h
  rw [show wB b [] [] = b ^ ([] : List Int).length from by simp [wB, rM], h]
  simp [wT, wB, rM, num]
theorem same_up {b w x : Int} {p : List Int} {j : Nat} : SameW b w (p ++ [x] ++ List.replicate j (b - 1)) [b - 1] w (p ++ [x + 1]) [] := by
  have h := same_tops (b := b) (w := w) (a := p ++ [x]) (j := j)
  unfold SameW
  rw [show wB b (p ++ [x + 1]) [] = b ^ (p ++ [x]).length from by simp [wB, rM], h]
  congr 1
  unfold wT wB
  rw [rM_nil, num_snoc, num_snoc]
  simp [num]
  omega
/-- what plain is to tell -/
structure PlainOut (b w : Int) (a g : List Int) (w' : Int) (a' g' : List Int) : Prop where
  dv : DivIs b (wT b w a g) (wB b a g) w' a' g'
  fa : Figs b a'
  fg : Figs b g'
  pl : Plain b a' g'
  sm : SameW b w a g w' a' g'
  w0 : w ≤ w'
  w1 : w' ≤ w + 1
  la : a'.length ≤ a.length
  lg : g'.length ≤ g.length
theorem PlainOut.mk' {b w w' : Int} {a g a' g' : List Int} (hb : 2 ≤ b) (fa : Figs b a') (fg : Figs b g') (pl : Plain b a' g') (sm : SameW b w a g w' a' g') (w0 : w ≤ w') (w1 : w' ≤ w + 1)
    (la : a'.length ≤ a.length) (lg : g'.length ≤ g.length) : PlainOut b w a g w' a' g' :=
  ⟨(div_plain (w := w') hb fa fg pl).cross (wB_pos hb a g) (wB_pos hb a' g') sm.symm, fa, fg, pl, sm, w0, w1, la, lg⟩
/-- figures without the last ones that are f -/
def DropIs (f : Int) (a a' : List Int) : Prop := a'.getLast? ≠ some f ∧ ∃ j, a = a' ++ List.replicate j f
theorem prim_one {g : List Int} (p : Prim g) (h : ∃ x, ∀ d, d ∈ g → d = x) : g.length ≤ 1 := by
  refine Classical.byContradiction fun z => ?_
  obtain ⟨x, hx⟩ := h
  have e : g = List.replicate g.length x := List.eq_replicate_iff.mpr ⟨rfl, hx⟩
  refine p 1 (by omega) (by omega) ?_
  show rot1 g = g
  have e' : rot1 g = List.replicate g.length x := List.eq_replicate_iff.mpr ⟨rot1_length g, fun d hd => hx d ((rot1_mem g).mp hd)⟩
  exact e'.trans e.symm
theorem prim_all {g : List Int} {x : Int} (p : Prim g) (hne : g ≠ []) (h : ∀ d, d ∈ g → d = x) : g = [x] := by
  have l := prim_one p ⟨x, h⟩
  match g, hne, l with
  | [y], _, _ => rw [h y List.mem_cons_self]
  | _ :: _ :: _, _, l => simp at l
theorem DropIs.figs {b f : Int} {a a' : List Int} (ha : Figs b a) (x : DropIs f a a') : Figs b a' := fun d hd => by
  obtain ⟨_, j, e⟩ := x
  exact ha d (by rw [e]; exact List.mem_append_left _ hd)
theorem DropIs.len {f : Int} {a a' : List Int} (x : DropIs f a a') : a'.length ≤ a.length := by
  obtain ⟨_, j, e⟩ := x
  rw [e, List.length_append]; omega
/-- the ways of plain -/
theorem plain_zero {b w : Int} {a g h a' : List Int} (hb : 2 ≤ b) (ha : Figs b a) (s : ShortIs g h) (hh : h = [] ∨ h = [0]) (x : DropIs 0 a a') : PlainOut b w a g w a' [] := by
  have sf := s.facts
  obtain ⟨c, hc, rfl⟩ := sf.rp
  refine PlainOut.mk' hb (x.figs ha) (fun d hd => by simp at hd) (.inl ⟨rfl, x.1⟩) ?_ (Int.le_refl _) (by omega) x.len (by simp)
  refine (same_rep hc).trans hb ?_
  obtain ⟨_, j, e⟩ := x
  have hz : SameW b w a [] w a' [] := by rw [e]; exact same_zeros j
  rcases hh with rfl | rfl
  · exact hz
  · exact same_zero_ring.trans hb hz
theorem plain_up0 {b w : Int} {a g : List Int} (hb : 2 ≤ b) (s : ShortIs g [b - 1]) (x : DropIs (b - 1) a []) : PlainOut b w a g (w + 1) [] [] := by
  have sf := s.facts
  obtain ⟨c, hc, rfl⟩ := sf.rp
  refine PlainOut.mk' hb (fun d hd => by simp at hd) (fun d hd => by simp at hd) (.inl ⟨rfl, by simp⟩) ?_ (by omega) (Int.le_refl _) (by simp) (by simp)
  refine (same_rep hc).trans hb ?_
  obtain ⟨_, j, e⟩ := x
  rw [e, List.nil_append]
  exact same_up0
theorem plain_up {b w x : Int} {a g p : List Int} (hb : 2 ≤ b) (ha : Figs b a) (s : ShortIs g [b - 1]) (d : DropIs (b - 1) a (p ++ [x])) : PlainOut b w a g w (p ++ [x + 1]) [] := by
  have sf := s.facts
  obtain ⟨c, hc, rfl⟩ := sf.rp
  have hx := d.figs ha x (by simp)
  have hne : x ≠ b - 1 := fun z => by
    have := d.1
    rw [z] at this
    simp at this
  refine PlainOut.mk' hb (fun y hy => ?_) (fun d hd => by simp at hd) (.inl ⟨rfl, by simp; omega⟩) ?_ (Int.le_refl _) (by omega) (by have := d.len; simpa using this) (by simp)
  · rcases List.mem_append.mp hy with hy | hy
    · exact d.figs ha y (List.mem_append_left _ hy)
    · rw [List.mem_singleton.mp hy]; omega
  · refine (same_rep hc).trans hb ?_
    obtain ⟨_, j, e⟩ := d
    rw [e]
    exact same_up
/-- so many figures are drawn into the ring -/
def DrawIs (a h : List Int) (u : Nat) : Prop := u ≤ a.length ∧ ∀ i, i < u → a[a.length - 1 - i]? = h[h.length - 1 - i % h.length]?
theorem rot_last {h : List Int} {c : Nat} (h0 : 0 < c) (h1 : c ≤ h.length) : (rot c h).getLast? = h[c - 1]? := by
  rw [rot_eq c h h1, List.getLast?_append, List.getLast?_take, if_neg (by omega)]
  rw [List.getElem?_eq_getElem (by omega)]
  rfl
theorem draw_same {b w : Int} (hb : 2 ≤ b) {a h : List Int} (hne : h ≠ []) : ∀ u, DrawIs a h u → SameW b w a h w (a.take (a.length - u)) (rot (h.length - u % h.length) h)
  | 0, _ => by
    rw [Nat.sub_zero, List.take_length, Nat.zero_mod, Nat.sub_zero, rot_len]
    exact SameW.refl _ _ _ _
  | u + 1, x => by
    have hm : 0 < h.length := List.length_pos_iff.mpr hne
    have hu := Nat.mod_lt u hm
    have ih := draw_same (w := w) hb hne u ⟨by have := x.1; omega, fun i hi => x.2 i (by omega)⟩
    refine ih.trans hb ?_
    have hx := x.2 u (by omega)
    have hl := x.1
    have e1 : a.take (a.length - u) = a.take (a.length - (u + 1)) ++ [a[a.length - 1 - u]'(by omega)] := by
      have : a.length - u = a.length - (u + 1) + 1 := by omega
      rw [this, List.take_succ_eq_append_getElem (by omega)]
      congr 3
      omega
    have e2 : rot (h.length - u % h.length) h = rot1 (rot (h.length - (u + 1) % h.length) h) := by
      by_cases hc : u % h.length + 1 = h.length
      · have : (u + 1) % h.length = 0 := by
          rw [Nat.add_mod]
          by_cases h1 : h.length = 1
          · rw [h1]; omega
          · rw [Nat.mod_eq_of_lt (show 1 < h.length by omega), hc, Nat.mod_self]
        rw [this, Nat.sub_zero, rot_len, show h.length - u % h.length = 1 by omega]; rfl
      · have : (u + 1) % h.length = u % h.length + 1 := by
          rw [Nat.add_mod, Nat.mod_eq_of_lt (show 1 < h.length by omega), Nat.mod_eq_of_lt (by omega)]
        rw [this, show h.length - u % h.length = h.length - (u % h.length + 1) + 1 by omega]; rfl
    have e3 : (rot (h.length - u % h.length) h).getLast? = some (a[a.length - 1 - u]'(by omega)) := by
      rw [rot_last (by omega) (by omega), ← List.getElem?_eq_getElem, hx]
      congr 1
      omega
    cases e4 : rot (h.length - (u + 1) % h.length) h with
    | nil =>
      have := rot_length (h.length - (u + 1) % h.length) h
      rw [e4] at this
      simp at this
      omega
    | cons y l =>
      rw [e4] at e2
      have e5 : rot1 (y :: l) = l ++ [y] := rfl
      rw [e2, e5] at e3 ⊢
      rw [e1]
      have : y = a[a.length - 1 - u]'(by omega) := by simpa using e3
      rw [← this]
      exact same_draw
theorem plain_draw {b w : Int} {a g h : List Int} {u : Nat} (hb : 2 ≤ b) (ha : Figs b a) (hg : Figs b g) (s : ShortIs g h) (h0 : h ≠ []) (h1 : h ≠ [0]) (h2 : h ≠ [b - 1]) (x : DrawIs a h u)
    (hs : ∀ _ : u < a.length, a[a.length - 1 - u]? ≠ h[h.length - 1 - u % h.length]?) :
    PlainOut b w a g w (a.take (a.length - u)) (rot (h.length - u % h.length) h) := by
  have sf := s.facts
  obtain ⟨c, hc, e⟩ := sf.rp
  have hm : 0 < h.length := List.length_pos_iff.mpr h0
  have hu := Nat.mod_lt u hm
  have fh : Figs b h := fun d hd => hg d (by
    obtain ⟨c', rfl⟩ : ∃ c', c = c' + 1 := ⟨c - 1, by omega⟩
    rw [e, rep_succ]; exact List.mem_append_left _ hd)
  refine PlainOut.mk' hb (fun d hd => ha d (List.mem_of_mem_take hd)) (rot_figs fh _) (.inr ⟨fun z => ?_, fun z => ?_, fun z => ?_, sf.pr.rot _, fun z => ?_⟩) ?_ (Int.le_refl _) (by omega) (by rw [List.length_take]; omega) (by rw [rot_length]; exact sf.ln)
  · have := rot_length (h.length - u % h.length) h
    rw [z] at this
    simp at this
    omega
  · exact h1 (prim_all sf.pr h0 fun d hd => z d ((rot_mem _ h).mpr hd))
  · exact h2 (prim_all sf.pr h0 fun d hd => z d ((rot_mem _ h).mpr hd))
  · rw [rot_last (by omega) (by omega), List.getLast?_take] at z
    by_cases hul : u < a.length
    · rw [if_neg (by omega)] at z
      rw [List.getElem?_eq_getElem (show a.length - u - 1 < a.length by omega)] at z
      refine hs hul ?_
      rw [show h.length - 1 - u % h.length = h.length - u % h.length - 1 by omega, ← z, show a.length - 1 - u = a.length - u - 1 by omega, List.getElem?_eq_getElem (by omega)]
      rfl
    · rw [if_pos (by have := x.1; omega)] at z
      rw [List.getElem?_eq_getElem (by omega)] at z
      exact absurd z (by simp)
  · refine SameW.trans hb ?_ (draw_same hb h0 u x)
    conv => arg 4; rw [e]
    exact same_rep hc
end RF

end
section
namespace RF
theorem gcd_step (x y : Int) : Int.gcd y (x % y) = Int.gcd x y := by
  have e : x % y = x + (-(x / y)) * y := by
    have := Int.mul_ediv_add_emod x y
    grind
  rw [e, Int.gcd_add_mul_right_right, Int.gcd_comm]
/-- whole numbers leave the lowest terms' bottom -/
theorem low_add {W N B : Int} (hB : 0 < B) : low (W * B + N) B = (W * (B / (Int.gcd N B : Nat)) + N / (Int.gcd N B : Nat), B / (Int.gcd N B : Nat)) := by
  unfold low
  rw [Int.gcd_mul_right_add_left]
  have p1 : 0 < Int.gcd N B := Int.gcd_pos_of_ne_zero_right _ (by omega)
  obtain ⟨N1, hN⟩ := Int.gcd_dvd_left N B
  obtain ⟨B1, hB1⟩ := Int.gcd_dvd_right N B
  generalize (Int.gcd N B) = G at *
  subst hN hB1
  have G0 : (G : Int) ≠ 0 := by omega
  have e : W * (G * B1) + G * N1 = G * (W * B1 + N1) := by grind
  rw [e, Int.mul_ediv_cancel_left _ G0, Int.mul_ediv_cancel_left _ G0, Int.mul_ediv_cancel_left _ G0]
theorem num_take_succ {b : Int} {ns : List Int} {i : Nat} {n : Int} (h : ns[i]? = some n) : num b (ns.take (i + 1)) = num b (ns.take i) * b + n := by
  have hi : i < ns.length := (List.getElem?_eq_some_iff.mp h).1
  have e : ns[i] = n := (List.getElem?_eq_some_iff.mp h).2
  rw [List.take_succ_eq_append_getElem hi, num_snoc, e]
theorem pow_lt {b : Int} (h0 : 0 ≤ b) (h1 : b ≤ 36) : ∀ n : Nat, (b ^ n).natAbs ≤ 2 ^ (6 * n)
  | 0 => by simp
  | n + 1 => by
    have ih := pow_lt h0 h1 n
    rw [Int.pow_succ, Int.natAbs_mul, show 6 * (n + 1) = 6 * n + 6 by omega, Nat.pow_add]
    exact Nat.mul_le_mul ih (by omega)
theorem wN_bd {b : Int} {a g : List Int} (hb : 2 ≤ b) (ha : Figs b a) (hg : Figs b g) : 0 ≤ num b a * rM b g + num b g ∧ num b a * rM b g + num b g ≤ wB b a g := by
  have hbp : (0 : Int) < b := by omega
  have hM := rM_pos hb g
  have ⟨a1, a2⟩ := num_bd hbp ha
  have ⟨g1, g2⟩ := num_bd hbp hg
  have hg3 : num b g ≤ rM b g := by
    by_cases e : g = []
    · subst e; simp [num, rM]
    · rw [rM_ne b e]; omega
  constructor
  · have := Int.mul_nonneg a1 (Int.le_of_lt hM); omega
  · have q3 : (num b a + 1) * rM b g ≤ b ^ a.length * rM b g := Int.mul_le_mul_of_nonneg_right (by omega) (Int.le_of_lt hM)
    unfold wB
    grind
theorem rM_le {b : Int} (hb : 2 ≤ b) (g : List Int) : rM b g ≤ b ^ g.length := by
  by_cases e : g = []
  · subst e; simp [rM]
  · rw [rM_ne b e]; omega
theorem wB_le {b : Int} (hb : 2 ≤ b) (h36 : b ≤ 36) (a g : List Int) : (wB b a g).natAbs ≤ 2 ^ (6 * (a.length + g.length)) := by
  have h1 := rM_le hb g
  have h2 := rM_pos hb g
  have h3 := pow_pos (b := b) (by omega) a.length
  have h4 : (rM b g).natAbs ≤ (b ^ g.length).natAbs := by omega
  unfold wB
  rw [Int.natAbs_mul, Nat.mul_add, Nat.pow_add]
  exact Nat.mul_le_mul (pow_lt (by omega) h36 _) (Nat.le_trans h4 (pow_lt (by omega) h36 _))
theorem DivIs.low {b t q w : Int} {a g : List Int} (hb : 2 ≤ b) (hq : 0 < q) (ht : 0 ≤ t) (x : DivIs b t q w a g) : low (wT b w a g) (wB b a g) = RF.low t q :=
  low_cross (wB_pos hb a g) hq (x.told hb hq ht).wo
/-- the fraction in lowest terms has the same writing -/
theorem DivIs.of_low {b t q w : Int} {a g : List Int} (hq : 0 < q) (x : DivIs b t q w a g) : DivIs b (RF.low t q).1 (RF.low t q).2 w a g :=
  x.cross (low_pos hq) hq (low_mul hq)
theorem DivIs.from_low {b t q w : Int} {a g : List Int} (hq : 0 < q) (x : DivIs b (RF.low t q).1 (RF.low t q).2 w a g) : DivIs b t q w a g :=
  x.cross hq (low_pos hq) (low_mul hq).symm
theorem plain_iff {b w : Int} {a g : List Int} (hb : 2 ≤ b) (ha : Figs b a) (hg : Figs b g) (hw : 0 ≤ w) : Plain b a g ↔ DivIs b (wT b w a g) (wB b a g) w a g := by
  constructor
  · exact fun p => div_plain hb ha hg p
  · intro d
    refine (d.told hb (wB_pos hb a g) ?_).pl
    unfold wT
    have := Int.mul_nonneg hw (Int.le_of_lt (wB_pos hb a g))
    have := (wN_bd hb ha hg).1
    omega
theorem plain_noring {b : Int} {a : List Int} : Plain b a [] ↔ a.getLast? ≠ some 0 := by
  constructor
  · rintro (⟨_, h⟩ | ⟨h, _⟩)
    · exact h
    · exact absurd rfl h
  · exact fun h => .inl ⟨rfl, h⟩
theorem plain_ring {b : Int} {a g : List Int} (hg : g ≠ []) : Plain b a g ↔ Prim g ∧ g ≠ [0] ∧ g ≠ [b - 1] ∧ a.getLast? ≠ g.getLast? := by
  constructor
  · rintro (⟨h, _⟩ | ⟨_, h1, h2, h3, h4⟩)
    · exact absurd h hg
    · refine ⟨h3, fun e => h1 fun d hd => ?_, fun e => h2 fun d hd => ?_, h4⟩
      · rw [e] at hd; exact List.mem_singleton.mp hd
      · rw [e] at hd; exact List.mem_singleton.mp hd
  · rintro ⟨h3, h1, h2, h4⟩
    exact .inr ⟨hg, fun z => h1 (prim_all h3 hg z), fun z => h2 (prim_all h3 hg z), h3, h4⟩
end RF

end
section
namespace RF
/-! ### there is a plain writing -/
theorem short_ex (g : List Int) : ∃ h, ShortIs g h := by
  by_cases e : ∃ d, 0 < d ∧ d < g.length ∧ Per d g
  · obtain ⟨d, h0, h1, p⟩ := e
    have key : ∀ n d, d ≤ n → 0 < d → d < g.length → Per d g → ∃ e, 0 < e ∧ e < g.length ∧ Per e g ∧ ∀ f, 0 < f → f < e → ¬ Per f g := by
      intro n
      induction n with
      | zero => intro d h h0; omega
      | succ n ih =>
        intro d h h0 h1 p
        by_cases c : ∃ f, 0 < f ∧ f < d ∧ Per f g
        · obtain ⟨f, f0, f1, pf⟩ := c
          exact ih f (by omega) f0 (by omega) pf
        · exact ⟨d, h0, h1, p, fun f f0 f1 pf => c ⟨f, f0, f1, pf⟩⟩
    obtain ⟨e, e0, e1, pe, me⟩ := key d d (Nat.le_refl _) h0 h1 p
    exact ⟨g.take e, .inl ⟨e, e0, e1, pe, rfl, me⟩⟩
  · exact ⟨g, .inr ⟨rfl, fun d h0 h1 p => e ⟨d, h0, h1, p⟩⟩⟩
theorem drop_ex (f : Int) : ∀ (n : Nat) (a : List Int), a.length = n → ∃ a', DropIs f a a'
  | 0, a, h => by
    have : a = [] := List.length_eq_zero_iff.mp h
    subst this
    exact ⟨[], by simp, 0, by simp⟩
  | n + 1, a, h => by
    rcases List.eq_nil_or_concat a with e | ⟨q, y, e⟩
    · rw [e] at h; simp at h
    · rw [List.concat_eq_append] at e
      subst e
      by_cases c : y = f
      · subst c
        obtain ⟨a', h1, j, h2⟩ := drop_ex y n q (by simpa using h)
        refine ⟨a', h1, j + 1, ?_⟩
        conv => lhs; rw [h2]
        rw [List.append_assoc, List.replicate_succ']
      · exact ⟨q ++ [y], by simp; exact c, 0, by simp⟩
theorem draw_ex (a h : List Int) : ∀ (n u : Nat), a.length - u = n → DrawIs a h u → ∃ u', DrawIs a h u' ∧ (u' < a.length → a[a.length - 1 - u']? ≠ h[h.length - 1 - u' % h.length]?)
  | 0, u, e, d => ⟨u, d, fun z => absurd z (by have := d.1; omega)⟩
  | n + 1, u, e, d => by
    by_cases c : a[a.length - 1 - u]? = h[h.length - 1 - u % h.length]?
    · refine draw_ex a h n (u + 1) (by omega) ⟨by omega, fun i hi => ?_⟩
      by_cases z : i = u
      · rw [z]; exact c
      · exact d.2 i (by omega)
    · exact ⟨u, d, fun _ => c⟩
theorem plain_ex {b w : Int} {a g : List Int} (hb : 2 ≤ b) (ha : Figs b a) (hg : Figs b g) : ∃ w' a' g', PlainOut b w a g w' a' g' := by
  obtain ⟨h, hs⟩ := short_ex g
  by_cases e1 : h = [b - 1]
  · subst e1
    obtain ⟨a', hd⟩ := drop_ex (b - 1) a.length a rfl
    rcases List.eq_nil_or_concat a' with e | ⟨q, y, e⟩
    · subst e; exact ⟨_, _, _, plain_up0 hb hs hd⟩
    · rw [List.concat_eq_append] at e
      subst e
      exact ⟨_, _, _, plain_up hb ha hs hd⟩
  · by_cases e2 : h = [] ∨ h = [0]
    · obtain ⟨a', hd⟩ := drop_ex 0 a.length a rfl
      exact ⟨_, _, _, plain_zero hb ha hs e2 hd⟩
    · obtain ⟨u, hu, hst⟩ := draw_ex a h a.length 0 (by omega) ⟨Nat.zero_le _, fun i hi => absurd hi (by omega)⟩
      exact ⟨_, _, _, plain_draw hb ha hg hs (fun z => e2 (.inl z)) (fun z => e2 (.inr z)) e1 hu hst⟩
/-! ### where long division stops -/
def Stop (b q r : Int) (N : Nat) : Prop := rst b q r N = 0 ∨ ∃ k, k < N ∧ rst b q r k = rst b q r N
theorem DivIs.stop {b t q w : Int} {a g : List Int} (x : DivIs b t q w a g) : Stop b q (t % q) (a.length + g.length) := by
  obtain ⟨_, n, F, h⟩ := x
  rcases h with ⟨h0, rfl, rfl⟩ | ⟨k, h1, h2, h3, rfl, rfl⟩
  · rw [figs_length]; exact .inl h0
  · rw [figs_length, figs_length, show k + (n - k) = n by omega]
    exact .inr ⟨k, h1, h3⟩
theorem Fresh.le_stop {b q r : Int} {n N : Nat} (F : Fresh b q r n) (s : Stop b q r N) : n ≤ N := by
  refine Nat.le_of_not_lt fun l => ?_
  rcases s with h | ⟨k, h1, h2⟩
  · exact F.nz N l h
  · exact F.ne k N h1 l h2
theorem stop_ex {b q r : Int} (hq : 0 < q) (h0 : 0 ≤ r) (h1 : r < q) : ∃ n, Fresh b q r n ∧ Stop b q r n := by
  refine Classical.byContradiction fun c => ?_
  have all : ∀ n, Fresh b q r n := by
    intro n
    induction n with
    | zero => exact Fresh.zero
    | succ n ih =>
      refine ih.succ (fun z => c ⟨n, ih, .inl z⟩) (fun i hi z => c ⟨n, ih, .inr ⟨i, hi, z⟩⟩)
  have := (all q.toNat).lt hq h0 h1
  omega
theorem div_ex {b t q : Int} (hq : 0 < q) : ∃ w a g, DivIs b t q w a g := by
  obtain ⟨n, F, s⟩ := stop_ex (b := b) hq (Int.emod_nonneg t (by omega)) (Int.emod_lt_of_pos t hq)
  by_cases z : rst b q (t % q) n = 0
  · exact ⟨_, _, _, rfl, n, F, .inl ⟨z, rfl, rfl⟩⟩
  · rcases s with s | ⟨k, h1, h2⟩
    · exact absurd s z
    · exact ⟨_, _, _, rfl, n, F, .inr ⟨k, h1, z, h2, rfl, rfl⟩⟩
end RF

end
section
namespace RF
/-! ### lengths of a bottom -/
theorem rst_closed {b t q : Int} : ∀ i, rst b q (t % q) i = t * b ^ i % q
  | 0 => by
    show t % q = t * b ^ 0 % q
    rw [Int.pow_zero, Int.mul_one]
  | i + 1 => by
    show rst b q (t % q) i * b % q = _
    rw [rst_closed i, Int.pow_succ, ← Int.mul_assoc, Int.mul_emod (t * b ^ i % q), Int.emod_emod_of_dvd _ (Int.dvd_refl q), ← Int.mul_emod]
theorem dvd_cancel {t q x : Int} (h : Int.gcd t q = 1) (d : q ∣ t * x) : q ∣ x := by
  have h1 : q.natAbs ∣ t.natAbs * x.natAbs := by rw [← Int.natAbs_mul]; exact Int.natAbs_dvd_natAbs.mpr d
  have h2 : Nat.Coprime q.natAbs t.natAbs := by
    rw [Nat.coprime_iff_gcd_eq_one, Nat.gcd_comm]; exact h
  exact Int.natAbs_dvd_natAbs.mp (h2.dvd_of_dvd_mul_left h1)
theorem rst_zero_iff {b t q : Int} (h : Int.gcd t q = 1) (i : Nat) : rst b q (t % q) i = 0 ↔ q ∣ b ^ i := by
  rw [rst_closed, ← Int.dvd_iff_emod_eq_zero]
  exact ⟨fun d => dvd_cancel h d, fun d => Int.dvd_trans d (Int.dvd_mul_left _ _)⟩
theorem rst_eq_iff {b t q : Int} (h : Int.gcd t q = 1) (i m : Nat) : rst b q (t % q) (i + m) = rst b q (t % q) i ↔ q ∣ b ^ i * (b ^ m - 1) := by
  rw [rst_closed, rst_closed, Int.emod_eq_emod_iff_emod_sub_eq_zero, ← Int.dvd_iff_emod_eq_zero]
  have e : t * b ^ (i + m) - t * b ^ i = t * (b ^ i * (b ^ m - 1)) := by rw [Int.pow_add]; grind
  rw [e]
  exact ⟨fun d => dvd_cancel h d, fun d => Int.dvd_trans d (Int.dvd_mul_left _ _)⟩
def Len (b q : Int) (k r : Nat) : Prop :=
  (r = 0 ∧ q ∣ b ^ k ∧ ∀ i, i < k → ¬ q ∣ b ^ i) ∨
  (0 < r ∧ (∀ i, ¬ q ∣ b ^ i) ∧ q ∣ b ^ k * (b ^ r - 1) ∧ ∀ i m, 0 < m → q ∣ b ^ i * (b ^ m - 1) → k ≤ i ∧ r ≤ m)
theorem Len.uniq {b q : Int} {k r k' r' : Nat} (x : Len b q k r) (y : Len b q k' r') : k = k' ∧ r = r' := by
  rcases x with ⟨rfl, h1, h2⟩ | ⟨h0, h1, h2, h3⟩
  · rcases y with ⟨rfl, g1, g2⟩ | ⟨g0, g1, g2, g3⟩
    · refine ⟨?_, rfl⟩
      rcases Nat.lt_trichotomy k k' with l | l | l
      · exact absurd h1 (g2 k l)
      · exact l
      · exact absurd g1 (h2 k' l)
    · exact absurd h1 (g1 k)
  · rcases y with ⟨rfl, g1, g2⟩ | ⟨g0, g1, g2, g3⟩
    · exact absurd g1 (h1 k')
    · have a := h3 k' r' g0 g2
      have c := g3 k r h0 h2
      omega
theorem rst_round {b q r0 : Int} {k m : Nat} (e : rst b q r0 k = rst b q r0 (k + m)) : ∀ c s, rst b q r0 (k + c * m + s) = rst b q r0 (k + s)
  | 0, s => by rw [Nat.zero_mul, Nat.add_zero]
  | c + 1, s => by
    have h := rst_shift e (c * m + s)
    rw [show k + (c + 1) * m + s = k + m + (c * m + s) by rw [Nat.add_mul]; omega, ← h, ← Nat.add_assoc]
    exact rst_round e c s
theorem rst_round' {b q r0 : Int} {k m : Nat} (e : rst b q r0 k = rst b q r0 (k + m)) {i : Nat} (hi : k ≤ i) : rst b q r0 i = rst b q r0 (k + (i - k) % m) := by
  have h := rst_round e ((i - k) / m) ((i - k) % m)
  have h2 : (i - k) / m * m + (i - k) % m = i - k := by rw [Nat.mul_comm]; exact Nat.div_add_mod _ _
  rw [show k + (i - k) / m * m + (i - k) % m = i by omega] at h
  exact h
theorem Fresh.inj {b q r : Int} {n i j : Nat} (F : Fresh b q r n) (hi : i < n) (hj : j < n) (e : rst b q r i = rst b q r j) : i = j := by
  rcases Nat.lt_trichotomy i j with l | l | l
  · exact absurd e (F.ne i j l hj)
  · exact l
  · exact absurd e.symm (F.ne j i l hi)
/-- the writing of a fraction in lowest terms has the lengths of its bottom -/
theorem DivIs.len {b t q w : Int} {a g : List Int} (h : Int.gcd t q = 1) (x : DivIs b t q w a g) : Len b q a.length g.length := by
  obtain ⟨_, n, F, c⟩ := x
  rcases c with ⟨h0, rfl, rfl⟩ | ⟨k, hk, hz, he, rfl, rfl⟩
  · rw [figs_length]
    exact .inl ⟨rfl, (rst_zero_iff h n).mp h0, fun i hi d => F.nz i hi ((rst_zero_iff h i).mpr d)⟩
  · rw [figs_length, figs_length]
    have e : rst b q (t % q) k = rst b q (t % q) (k + (n - k)) := by rw [show k + (n - k) = n by omega]; exact he
    have hm : 0 < n - k := by omega
    refine .inr ⟨hm, fun i d => ?_, ?_, fun i m hm' d => ?_⟩
    · have z := (rst_zero_iff (b := b) h i).mpr d
      by_cases l : i < n
      · exact F.nz i l z
      · rw [rst_round' e (by omega : k ≤ i)] at z
        exact F.nz _ (by have := Nat.mod_lt (i - k) hm; omega) z
    · exact (rst_eq_iff h k (n - k)).mp e.symm
    · have z := (rst_eq_iff (b := b) h i m).mpr d
      have zc : ∀ c, rst b q (t % q) (i + c * m) = rst b q (t % q) i := fun c => by
        have := rst_round z.symm c 0
        rw [Nat.add_zero, Nat.add_zero] at this
        exact this
      have ki : k ≤ i := by
        refine Nat.le_of_not_lt fun l => ?_
        have z2 := zc k
        have hkm : k ≤ i + k * m := by
          have : k * 1 ≤ k * m := Nat.mul_le_mul_left k hm'
          omega
        rw [rst_round' e hkm] at z2
        have hs := Nat.mod_lt (i + k * m - k) hm
        have := F.inj (by omega) (by omega) z2
        omega
      refine ⟨ki, ?_⟩
      rw [rst_round' e ki, rst_round' e (by omega : k ≤ i + m)] at z
      have s1 := Nat.mod_lt (i - k) hm
      have s2 := Nat.mod_lt (i + m - k) hm
      have ez := F.inj (by omega) (by omega) z
      refine Nat.le_of_not_lt fun l => ?_
      have q1 := Nat.div_add_mod (i - k) (n - k)
      have q2 := Nat.div_add_mod (i + m - k) (n - k)
      have e5 : (i + m - k) % (n - k) = (i - k) % (n - k) := by omega
      have e6 : (n - k) * ((i + m - k) / (n - k)) = (n - k) * ((i - k) / (n - k)) + m := by omega
      have e7 : m = (n - k) * ((i + m - k) / (n - k) - (i - k) / (n - k)) := by rw [Nat.mul_sub]; omega
      generalize (i + m - k) / (n - k) - (i - k) / (n - k) = y at e7
      cases y with
      | zero => rw [Nat.mul_zero] at e7; omega
      | succ y =>
        have : (n - k) * 1 ≤ (n - k) * (y + 1) := Nat.mul_le_mul_left _ (by omega)
        omega
/-! ### what a bottom has in common with the base -/
theorem cop_pow_sub {b m : Nat} (hb : 0 < b) (hm : 0 < m) : Nat.Coprime b (b ^ m - 1) := by
  have h1 : 1 ≤ b ^ m := Nat.pow_pos hb
  have g1 : b.gcd (b ^ m - 1) ∣ b ^ m := Nat.dvd_trans (Nat.gcd_dvd_left _ _) (by obtain ⟨m', rfl⟩ : ∃ m', m = m' + 1 := ⟨m - 1, by omega⟩; rw [Nat.pow_succ]; exact Nat.dvd_mul_left _ _)
  have g2 : b.gcd (b ^ m - 1) ∣ b ^ m - 1 := Nat.gcd_dvd_right _ _
  have g3 := Nat.dvd_sub g1 g2
  rw [show b ^ m - (b ^ m - 1) = 1 by omega] at g3
  exact Nat.dvd_one.mp g3
/-- q = G * left, G of the base's own, left apart from it -/
theorem split_dvd {b G left i m k : Nat} (hb : 0 < b) (hm : 0 < m) (hG : G ∣ b ^ k) (cop : Nat.Coprime left b) : G * left ∣ b ^ i * (b ^ m - 1) ↔ G ∣ b ^ i ∧ left ∣ b ^ m - 1 := by
  have cG : Nat.Coprime G (b ^ m - 1) := ((cop_pow_sub hb hm).pow_left k).coprime_dvd_left hG
  have cL : Nat.Coprime left (b ^ i) := cop.pow_right i
  have cGL : Nat.Coprime G left := (cop.pow_right k).symm.coprime_dvd_left hG
  constructor
  · intro d
    exact ⟨cG.dvd_of_dvd_mul_right (Nat.dvd_trans (Nat.dvd_mul_right _ _) d), cL.dvd_of_dvd_mul_left (Nat.dvd_trans (Nat.dvd_mul_left _ _) d)⟩
  · rintro ⟨d1, d2⟩
    exact cGL.mul_dvd_of_dvd_of_dvd (Nat.dvd_trans d1 (Nat.dvd_mul_right _ _)) (Nat.dvd_trans d2 (Nat.dvd_mul_left _ _))
def left (b q i : Nat) : Nat := q / q.gcd (b ^ i)
theorem left_mul (b q i : Nat) : q.gcd (b ^ i) * left b q i = q := Nat.mul_div_cancel' (Nat.gcd_dvd_left _ _)
theorem len_of {b q k r : Nat} (hb : 2 ≤ b) (hq : 0 < q) (cop : Nat.Coprime (left b q k) b) (mn : ∀ i, i < k → ¬ Nat.Coprime (left b q i) b)
    (hr : (left b q k = 1 ∧ r = 0) ∨ (1 < left b q k ∧ 0 < r ∧ left b q k ∣ b ^ r - 1 ∧ ∀ m, 0 < m → m < r → ¬ left b q k ∣ b ^ m - 1)) : Len (b : Int) q k r := by
  have hG : q.gcd (b ^ k) ∣ b ^ k := Nat.gcd_dvd_right _ _
  have e := left_mul b q k
  -- G goes into no smaller power
  have low : ∀ i, q.gcd (b ^ k) ∣ b ^ i → k ≤ i := fun i d => Nat.le_of_not_lt fun l => by
    have h1 : q.gcd (b ^ k) ∣ q.gcd (b ^ i) := Nat.dvd_gcd (Nat.gcd_dvd_left _ _) d
    have h2 : q.gcd (b ^ i) ∣ q.gcd (b ^ k) := Nat.dvd_gcd (Nat.gcd_dvd_left _ _) (Nat.dvd_trans (Nat.gcd_dvd_right _ _) (Nat.pow_dvd_pow b (Nat.le_of_lt l)))
    have h3 := Nat.dvd_antisymm h2 h1
    apply mn i l
    unfold left at cop ⊢
    rw [h3]; exact cop
  have toN : ∀ i m, 0 < m → ((q : Int) ∣ (b : Int) ^ i * ((b : Int) ^ m - 1) ↔ q ∣ b ^ i * (b ^ m - 1)) := fun i m hm => by
    have h1 : 1 ≤ b ^ m := Nat.pow_pos (by omega)
    have : (b : Int) ^ i * ((b : Int) ^ m - 1) = ((b ^ i * (b ^ m - 1) : Nat) : Int) := by
      rw [Int.natCast_mul, Int.natCast_pow, Int.natCast_sub h1, Int.natCast_pow]; rfl
    rw [this, Int.natCast_dvd_natCast]
  have toP : ∀ i, ((q : Int) ∣ (b : Int) ^ i ↔ q ∣ b ^ i) := fun i => by rw [← Int.natCast_pow, Int.natCast_dvd_natCast]
  rcases hr with ⟨h1, rfl⟩ | ⟨h1, h0, hd, hm⟩
  · rw [h1, Nat.mul_one] at e
    refine .inl ⟨rfl, (toP k).mpr (by rw [e] at hG; exact hG), fun i hi d => ?_⟩
    have d := (toP i).mp d
    have := low i (by rw [e]; exact d)
    omega
  · refine .inr ⟨h0, fun i d => ?_, (toN k r h0).mpr ?_, fun i m m0 d => ?_⟩
    · have d := (toP i).mp d
      have d2 : left b q k ∣ b ^ i := Nat.dvd_trans (by conv => rhs; rw [← e]
                                                        exact Nat.dvd_mul_left _ _) d
      have := (cop.pow_right i).eq_one_of_dvd d2
      omega
    · conv => lhs; rw [← e]
      exact (split_dvd (by omega) h0 hG cop).mpr ⟨hG, hd⟩
    · have d := (toN i m m0).mp d
      rw [← e] at d
      obtain ⟨d1, d2⟩ := (split_dvd (by omega) m0 hG cop).mp d
      refine ⟨low i d1, Nat.le_of_not_lt fun l => hm m m0 l d2⟩
/-- as long as something is in common, less is left at the next power -/
theorem left_lt {b q i : Nat} (hq : 0 < q) (h : ¬ Nat.Coprime (left b q i) b) : left b q (i + 1) < left b q i := by
  have e := left_mul b q i
  have e' := left_mul b q (i + 1)
  have g0 : 0 < q.gcd (b ^ i) := Nat.gcd_pos_of_pos_left _ hq
  have l0 : 0 < left b q i := Nat.pos_of_ne_zero fun z => by rw [z] at e; omega
  have d0 : 0 < (left b q i).gcd b := Nat.gcd_pos_of_pos_left _ l0
  have d1 : 1 < (left b q i).gcd b := by
    have : (left b q i).gcd b ≠ 1 := h
    omega
  have hd : q.gcd (b ^ i) * (left b q i).gcd b ∣ q.gcd (b ^ (i + 1)) := by
    refine Nat.dvd_gcd ?_ ?_
    · conv => rhs; rw [← e]
      exact Nat.mul_dvd_mul_left _ (Nat.gcd_dvd_left _ _)
    · rw [Nat.pow_succ]
      exact Nat.mul_dvd_mul (Nat.gcd_dvd_right _ _) (Nat.gcd_dvd_right _ _)
  have hle := Nat.le_of_dvd (Nat.gcd_pos_of_pos_left _ hq) hd
  refine Nat.lt_of_not_le fun c => ?_
  have h1 : q.gcd (b ^ i) * (left b q i).gcd b * left b q i ≤ q.gcd (b ^ (i + 1)) * left b q (i + 1) := Nat.mul_le_mul hle c
  rw [e'] at h1
  have h2 : q.gcd (b ^ i) * left b q i * 2 ≤ q.gcd (b ^ i) * (left b q i).gcd b * left b q i := by
    rw [Nat.mul_assoc, Nat.mul_assoc]
    refine Nat.mul_le_mul_left _ ?_
    rw [Nat.mul_comm]
    exact Nat.mul_le_mul_right _ d1
  rw [e] at h2
  omega
end RF

end
section
namespace RF
/-! ### the order of the base -/
theorem pow_mod_iff {b L m : Nat} (hb : 0 < b) (hL : 1 < L) : b ^ m % L = 1 ↔ L ∣ b ^ m - 1 := by
  have h1 : 1 ≤ b ^ m := Nat.pow_pos hb
  constructor
  · intro e
    have := Nat.div_add_mod (b ^ m) L
    rw [e] at this
    exact ⟨b ^ m / L, by omega⟩
  · rintro ⟨c, hc⟩
    have : b ^ m = 1 + L * c := by omega
    rw [this, Nat.add_mul_mod_self_left]
    exact Nat.mod_eq_of_lt hL
theorem order_ex {b L : Nat} (hb : 0 < b) (hL : 1 < L) (cop : Nat.Coprime L b) : ∃ N, 0 < N ∧ N < L ∧ L ∣ b ^ N - 1 := by
  have hq : (0 : Int) < (L : Int) := by omega
  obtain ⟨n, F, s⟩ := stop_ex (b := (b : Int)) hq (Int.emod_nonneg 1 (by omega)) (Int.emod_lt_of_pos 1 hq)
  have hn := F.lt hq (Int.emod_nonneg 1 (by omega)) (Int.emod_lt_of_pos 1 hq)
  have g1 : Int.gcd 1 (L : Int) = 1 := by simp
  rcases s with z | ⟨k, hk, e⟩
  · have d := (rst_zero_iff (b := (b : Int)) g1 n).mp z
    rw [← Int.natCast_pow, Int.natCast_dvd_natCast] at d
    have := (cop.pow_right n).eq_one_of_dvd d
    omega
  · have d := (rst_eq_iff (b := (b : Int)) g1 k (n - k)).mp (by rw [show k + (n - k) = n by omega]; exact e.symm)
    have h1 : 1 ≤ b ^ (n - k) := Nat.pow_pos hb
    have e2 : (b : Int) ^ k * ((b : Int) ^ (n - k) - 1) = ((b ^ k * (b ^ (n - k) - 1) : Nat) : Int) := by
      rw [Int.natCast_mul, Int.natCast_pow, Int.natCast_sub h1, Int.natCast_pow]; rfl
    rw [e2, Int.natCast_dvd_natCast] at d
    exact ⟨n - k, by omega, by omega, (cop.pow_right k).dvd_of_dvd_mul_left d⟩
/-! ### prime numbers -/
def Pr (p : Nat) : Prop := 2 ≤ p ∧ ∀ d, d ∣ p → d = 1 ∨ d = p
theorem Pr.cop {p i : Nat} (h : Pr p) (hi : ¬ p ∣ i) : Nat.Coprime p i := by
  rcases h.2 (p.gcd i) (Nat.gcd_dvd_left _ _) with e | e
  · exact e
  · exact absurd (by rw [← e]; exact Nat.gcd_dvd_right _ _) hi
theorem Pr.cop_lt {p i : Nat} (h : Pr p) (h0 : 0 < i) (h1 : i < p) : Nat.Coprime p i := h.cop fun d => by
  have := Nat.le_of_dvd h0 d
  omega
/-- by trial up to the root -/
theorem pr_of_trial {p : Nat} (h2 : 2 ≤ p) (h : ∀ d, 2 ≤ d → d * d ≤ p → ¬ d ∣ p) : Pr p := by
  refine ⟨h2, fun d hd => Classical.byContradiction fun c => ?_⟩
  have c1 : d ≠ 1 := fun e => c (.inl e)
  have c2 : d ≠ p := fun e => c (.inr e)
  obtain ⟨e, rfl⟩ := hd
  have d0 : d ≠ 0 := fun z => by rw [z] at h2; omega
  have e0 : e ≠ 0 := fun z => by rw [z] at h2; omega
  have e1 : e ≠ 1 := fun z => c2 (by rw [z]; omega)
  by_cases l : d ≤ e
  · exact h d (by omega) (Nat.mul_le_mul_left d l) (Nat.dvd_mul_right _ _)
  · exact h e (by omega) (Nat.mul_le_mul_right e (by omega)) (Nat.dvd_mul_left _ _)
theorem Pr.trial {p d : Nat} (h : Pr p) (h2 : 2 ≤ d) (hd : d * d ≤ p) : ¬ d ∣ p := fun z => by
  rcases h.2 d z with e | e
  · omega
  · rw [e] at hd
    have := h.1
    have : p * 2 ≤ p * p := Nat.mul_le_mul_left p this
    omega
theorem pr1987 : Pr 1987 := pr_of_trial (by decide) fun d h2 hd => by
  have : d ≤ 44 := Nat.le_of_not_lt fun l => by
    have : 45 * 45 ≤ d * d := Nat.mul_le_mul l l
    omega
  intro z
  have key : ∀ d : Fin 45, 2 ≤ d.val → ¬ (1987 % d.val = 0) := by decide
  exact key ⟨d, by omega⟩ h2 (Nat.mod_eq_zero_of_dvd z)
/-- an injection of 1 .. n into itself meets all -/
theorem inj_onto {n : Nat} (f : Nat → Nat) (hr : ∀ i, i < n → 1 ≤ f i ∧ f i ≤ n) (hi : ∀ i j, i < j → j < n → f i ≠ f j) {v : Nat} (h1 : 1 ≤ v) (h2 : v ≤ n) : ∃ i, i < n ∧ f i = v := by
  refine Classical.byContradiction fun c => ?_
  have nv : ∀ i, i < n → f i ≠ v := fun i hi e => c ⟨i, hi, e⟩
  have := php (n - 1) n (fun i => if f i < v then f i - 1 else f i - 2) (fun i hi' => by
      have a := hr i hi'
      have d := nv i hi'
      split <;> omega) (fun i j a d => by
      have x := hr i (by omega)
      have y := hr j d
      have u := nv i (by omega)
      have w := nv j d
      have z := hi i j a d
      split <;> split <;> omega)
  omega
def fac (n : Nat) : Nat := ((List.range n).map (· + 1)).prod
theorem prod_mod (b p : Nat) : ∀ n, ((List.range n).map fun i => b * (i + 1) % p).prod % p = b ^ n * fac n % p
  | 0 => by simp [fac]
  | n + 1 => by
    have ih := prod_mod b p n
    unfold fac at ih ⊢
    rw [List.range_succ, List.map_append, List.map_append, List.prod_append, List.prod_append]
    simp only [List.map_cons, List.map_nil, List.prod_cons, List.prod_nil, Nat.mul_one]
    rw [Nat.mul_mod, ih, ← Nat.mul_mod, Nat.pow_succ]
    generalize ((List.range n).map (· + 1)).prod = F
    have e : b ^ n * b * (F * (n + 1)) = b ^ n * F * (b * (n + 1)) := by grind
    rw [e, Nat.mul_mod _ (b * (n + 1) % p), Nat.mod_mod, ← Nat.mul_mod]
theorem fac_cop {p : Nat} (h : Pr p) : ∀ n, n < p → Nat.Coprime p (fac n)
  | 0, _ => by simp [fac]
  | n + 1, hn => by
    have ih := fac_cop h n (by omega)
    unfold fac at ih ⊢
    rw [List.range_succ, List.map_append, List.prod_append]
    simp only [List.map_cons, List.map_nil, List.prod_cons, List.prod_nil, Nat.mul_one]
    exact Nat.Coprime.mul_right ih (h.cop_lt (by omega) hn)
theorem nodup_map {n : Nat} (f : Nat → Nat) (hi : ∀ i j, i < j → j < n → f i ≠ f j) : ((List.range n).map f).Nodup := by
  rw [List.Nodup, List.pairwise_map]
  refine List.Pairwise.imp_of_mem (R := fun a b => a < b) (fun {i j} h1 h2 l => ?_) List.pairwise_lt_range
  exact hi i j l (List.mem_range.mp h2)
theorem fermat {b p : Nat} (hb : 0 < b) (h : Pr p) (hn : ¬ p ∣ b) : p ∣ b ^ (p - 1) - 1 := by
  have p2 := h.1
  have cp := h.cop hn
  have hr : ∀ i, i < p - 1 → 1 ≤ b * (i + 1) % p ∧ b * (i + 1) % p ≤ p - 1 := fun i hi => by
    have l := Nat.mod_lt (b * (i + 1)) (show 0 < p by omega)
    refine ⟨Nat.pos_of_ne_zero fun z => ?_, by omega⟩
    have d := Nat.dvd_of_mod_eq_zero z
    have d2 := cp.dvd_of_dvd_mul_left d
    have := Nat.le_of_dvd (by omega) d2
    omega
  have hi : ∀ i j, i < j → j < p - 1 → b * (i + 1) % p ≠ b * (j + 1) % p := fun i j l1 l2 e => by
    have d : p ∣ b * (j + 1) - b * (i + 1) := by
      have := Nat.sub_mod_eq_zero_of_mod_eq e.symm
      exact Nat.dvd_of_mod_eq_zero this
    rw [← Nat.mul_sub] at d
    have d2 := cp.dvd_of_dvd_mul_left d
    have := Nat.le_of_dvd (by omega) d2
    omega
  have pm : ((List.range (p - 1)).map fun i => b * (i + 1) % p).Perm ((List.range (p - 1)).map (· + 1)) := by
    rw [List.perm_ext_iff_of_nodup (nodup_map _ hi) (nodup_map _ fun i j l _ => by omega)]
    intro v
    constructor
    · intro m
      obtain ⟨i, hm, rfl⟩ := List.mem_map.mp m
      have := hr i (List.mem_range.mp hm)
      exact List.mem_map.mpr ⟨b * (i + 1) % p - 1, List.mem_range.mpr (by omega), by omega⟩
    · intro m
      obtain ⟨j, hm, rfl⟩ := List.mem_map.mp m
      have hj := List.mem_range.mp hm
      obtain ⟨i, h1, h2⟩ := inj_onto (fun i => b * (i + 1) % p) hr hi (v := j + 1) (by omega) (by omega)
      exact List.mem_map.mpr ⟨i, List.mem_range.mpr h1, h2⟩
  have e := prod_mod b p (p - 1)
  rw [pm.prod_nat] at e
  have e : fac (p - 1) % p = b ^ (p - 1) * fac (p - 1) % p := e
  have h1 : 1 ≤ b ^ (p - 1) := Nat.pow_pos hb
  have d : p ∣ b ^ (p - 1) * fac (p - 1) - fac (p - 1) := Nat.dvd_of_mod_eq_zero (Nat.sub_mod_eq_zero_of_mod_eq e.symm)
  have e3 : b ^ (p - 1) * fac (p - 1) - fac (p - 1) = fac (p - 1) * (b ^ (p - 1) - 1) := by rw [Nat.mul_sub, Nat.mul_one, Nat.mul_comm]
  rw [e3] at d
  exact (fac_cop h (p - 1) (by omega)).dvd_of_dvd_mul_left d
/-! ### rings of primes -/
theorem order_dvd {b p r n : Nat} (hb : 0 < b) (h1 : 1 < p) (h0 : 0 < r) (hr : p ∣ b ^ r - 1) (mn : ∀ m, 0 < m → m < r → ¬ p ∣ b ^ m - 1) (hn : p ∣ b ^ n - 1) : n % r = 0 := by
  refine Classical.byContradiction fun c => ?_
  have l := Nat.mod_lt n h0
  apply mn (n % r) (by omega) l
  rw [← pow_mod_iff hb h1] at hr hn ⊢
  have e : n = r * (n / r) + n % r := (Nat.div_add_mod n r).symm
  rw [e, Nat.pow_add, Nat.pow_mul, Nat.mul_mod, Nat.pow_mod, hr, Nat.one_pow, Nat.mod_eq_of_lt h1, Nat.one_mul, Nat.mod_mod] at hn
  exact hn
/-- half way round the rest is the other part of the bottom -/
theorem half_round {b p h : Nat} (hb : 0 < b) (hp : Pr p) (h0 : 0 < h) (hr : p ∣ b ^ (2 * h) - 1) (mn : ¬ p ∣ b ^ h - 1) : p ∣ b ^ h + 1 := by
  have h1 : 1 ≤ b ^ h := Nat.pow_pos hb
  have e : b ^ (2 * h) - 1 = (b ^ h - 1) * (b ^ h + 1) := by
    rw [show 2 * h = h + h by omega, Nat.pow_add, Nat.mul_add, Nat.mul_one, Nat.sub_mul, Nat.one_mul]
    have : b ^ h ≤ b ^ h * b ^ h := Nat.le_mul_of_pos_left _ h1
    omega
  rw [e] at hr
  exact (hp.cop mn).dvd_of_dvd_mul_left hr
/-- what the document says of bottoms that are prime -/
structure PrimeRing (b p : Nat) (a g : List Int) : Prop where
  ah : a = []
  ne : g ≠ []
  dv : (p - 1) % g.length = 0
  fo : ∀ h, g.length = 2 * h → ∀ k, k < h → g.getD k 0 + g.getD (k + h) 0 = (b : Int) - 1
theorem prime_ring {b p : Nat} {t w : Int} {a g : List Int} (hb : 2 ≤ b) (hp : Pr p) (hn : ¬ p ∣ b) (hg : Int.gcd t p = 1) (x : DivIs (b : Int) t p w a g) : PrimeRing b p a g := by
  have p2 := hp.1
  have hb0 : 0 < b := by omega
  have cp := hp.cop hn
  have L := x.len hg
  have toN : ∀ i m, 0 < m → ((p : Int) ∣ (b : Int) ^ i * ((b : Int) ^ m - 1) ↔ p ∣ b ^ i * (b ^ m - 1)) := fun i m hm => by
    have h1 : 1 ≤ b ^ m := Nat.pow_pos hb0
    have : (b : Int) ^ i * ((b : Int) ^ m - 1) = ((b ^ i * (b ^ m - 1) : Nat) : Int) := by
      rw [Int.natCast_mul, Int.natCast_pow, Int.natCast_sub h1, Int.natCast_pow]; rfl
    rw [this, Int.natCast_dvd_natCast]
  rcases L with ⟨_, d, _⟩ | ⟨r0, _, d, mn⟩
  · rw [← Int.natCast_pow, Int.natCast_dvd_natCast] at d
    have := (cp.pow_right _).eq_one_of_dvd d
    omega
  · have d1 := (cp.pow_right a.length).dvd_of_dvd_mul_left ((toN _ _ r0).mp d)
    have a0 := (mn 0 g.length r0 ((toN 0 _ r0).mpr (by rw [Nat.pow_zero, Nat.one_mul]; exact d1))).1
    have ah : a = [] := List.length_eq_zero_iff.mp (by omega)
    have mn' : ∀ m, 0 < m → m < g.length → ¬ p ∣ b ^ m - 1 := fun m m0 m1 z => by
      have := (mn 0 m m0 ((toN 0 _ m0).mpr (by rw [Nat.pow_zero, Nat.one_mul]; exact z))).2
      omega
    refine ⟨ah, fun e => by rw [e] at r0; simp at r0, order_dvd hb0 (by omega) r0 d1 mn' (fermat hb0 hp hn), fun h hh k hk => ?_⟩
    have hr := half_round (h := h) hb0 hp (by omega) (by rw [← hh]; exact d1) (mn' h (by omega) (by omega))
    have hq : (0 : Int) < (p : Int) := by omega
    have h0 : 0 ≤ t % (p : Int) := Int.emod_nonneg _ (by omega)
    have h1 : t % (p : Int) < p := Int.emod_lt_of_pos _ hq
    have bd := rst_bd (b := (b : Int)) hq h0 h1
    have nz : ∀ i, rst (b : Int) p (t % p) i ≠ 0 := fun i z => by
      have d := (rst_zero_iff (b := (b : Int)) hg i).mp z
      rw [← Int.natCast_pow, Int.natCast_dvd_natCast] at d
      have := (cp.pow_right i).eq_one_of_dvd d
      omega
    have sum : ∀ i, rst (b : Int) p (t % p) i + rst (b : Int) p (t % p) (i + h) = p := fun i => by
      have e1 := rst_closed (b := (b : Int)) (t := t) (q := (p : Int)) i
      have e2 := rst_closed (b := (b : Int)) (t := t) (q := (p : Int)) (i + h)
      have dv : (p : Int) ∣ rst (b : Int) p (t % p) i + rst (b : Int) p (t % p) (i + h) := by
        rw [e1, e2, Int.dvd_iff_emod_eq_zero, ← Int.add_emod, ← Int.dvd_iff_emod_eq_zero]
        have e3 : t * (b : Int) ^ i + t * (b : Int) ^ (i + h) = t * (b : Int) ^ i * (((b ^ h + 1 : Nat) : Int)) := by
          rw [Int.natCast_add, Int.natCast_pow, Int.pow_add]; grind
        rw [e3]
        exact Int.dvd_trans (Int.natCast_dvd_natCast.mpr hr) (Int.dvd_mul_left _ _)
      obtain ⟨c, hc⟩ := dv
      have x1 := bd i
      have x2 := bd (i + h)
      have x3 := nz i
      have c1 : 0 < c := Int.pos_of_mul_pos_right (a := (p : Int)) (by omega) (by omega)
      have c2 : c < 2 := by
        refine Int.lt_of_mul_lt_mul_left (a := (p : Int)) ?_ (by omega)
        omega
      have : c = 1 := by omega
      rw [this] at hc
      omega
    obtain ⟨_, n, F, c⟩ := x
    have gk : ∀ j, j < g.length → g.getD j 0 = fig (b : Int) p (t % p) j := fun j hj => by
      rcases c with ⟨_, _, e⟩ | ⟨k', hk', _, _, ea, eg⟩
      · rw [e] at r0; simp at r0
      · have k0 : k' = 0 := by
          have : a.length = k' := by rw [ea, figs_length]
          rw [ah] at this
          simpa using this.symm
        subst k0
        rw [List.getD_eq_getElem?_getD, eg]
        have hjn : j < n - 0 := by rw [eg, figs_length] at hj; exact hj
        unfold figs
        rw [List.getElem?_map, List.getElem?_range hjn]
        simp
    rw [gk k (by omega), gk (k + h) (by omega)]
    have s1 := rst_step (b := (b : Int)) (q := (p : Int)) (r := t % p) k
    have s2 := rst_step (b := (b : Int)) (q := (p : Int)) (r := t % p) (k + h)
    have t1 := sum k
    have t2 := sum (k + 1)
    rw [show k + 1 + h = k + h + 1 by omega] at t2
    have e : (p : Int) * (fig (b : Int) p (t % p) k + fig (b : Int) p (t % p) (k + h)) = p * (b - 1) := by grind
    exact Int.eq_of_mul_eq_mul_left (by omega) e
end RF

end
section
namespace RF
/-! ### the figure at a place; a figure further -/
theorem rst_from {b q r : Int} : ∀ i, rst b q (r * b % q) i = rst b q r (i + 1)
  | 0 => rfl
  | i + 1 => by
    show rst b q (r * b % q) i * b % q = rst b q r (i + 1) * b % q
    rw [rst_from i]
theorem fig_from {b q r : Int} (i : Nat) : fig b q (r * b % q) i = fig b q r (i + 1) := by
  unfold fig; rw [rst_from]
theorem figs_from {b q r : Int} (k n : Nat) : figs b q (r * b % q) k n = figs b q r (k + 1) n := by
  unfold figs
  apply List.map_congr_left
  intro i _
  rw [fig_from, Nat.add_right_comm]
theorem figs_getD {b q r : Int} {k n i : Nat} (h : i < n) : (figs b q r k n).getD i 0 = fig b q r (k + i) := by
  rw [List.getD_eq_getElem?_getD, List.getElem?_eq_getElem (by rw [figs_length]; exact h)]
  simp [figs]
theorem rst_nil {b q r : Int} {n : Nat} (h : rst b q r n = 0) : ∀ i, rst b q r (n + i) = 0
  | 0 => h
  | i + 1 => by
    show rst b q r (n + i) * b % q = 0
    rw [rst_nil h i, Int.zero_mul, Int.zero_emod]
theorem DivIs.fig_at {b t q w : Int} {a g : List Int} (x : DivIs b t q w a g) (n : Nat) :
    fig b q (t % q) n = if n < a.length then a.getD n 0 else if g = [] then 0 else g.getD ((n - a.length) % g.length) 0 := by
  obtain ⟨_, m, F, c⟩ := x
  rcases c with ⟨h0, rfl, rfl⟩ | ⟨k, hk, hz, he, rfl, rfl⟩
  · rw [figs_length]
    by_cases hn : n < m
    · rw [if_pos hn, figs_getD hn, Nat.zero_add]
    · rw [if_neg hn, if_pos rfl]
      have := rst_nil h0 (n - m)
      rw [show m + (n - m) = n by omega] at this
      unfold fig
      rw [this, Int.zero_mul, Int.zero_ediv]
  · rw [figs_length, figs_length]
    by_cases hn : n < k
    · rw [if_pos hn, figs_getD hn, Nat.zero_add]
    · have hne : figs b q (t % q) k (m - k) ≠ [] := fun z => by
        have := congrArg List.length z
        rw [figs_length] at this
        simp at this
        omega
      have hm : (n - k) % (m - k) < m - k := Nat.mod_lt _ (by omega)
      rw [if_neg hn, if_neg hne, figs_getD hm]
      have e : rst b q (t % q) k = rst b q (t % q) (k + (m - k)) := by rw [he, show k + (m - k) = m by omega]
      unfold fig
      rw [rst_round' e (by omega)]
/-- the fraction taken base times, without its whole part -/
theorem DivIs.next {b t q w : Int} {a g : List Int} (hq : 0 < q) (t0 : 0 ≤ t) (tq : t < q) (x : DivIs b t q w a g) :
    (∃ f a', a = f :: a' ∧ t * b / q = f ∧ DivIs b (t * b % q) q 0 a' g) ∨ (∃ f g', a = [] ∧ g = f :: g' ∧ t * b / q = f ∧ DivIs b (t * b % q) q 0 [] (g' ++ [f])) ∨
      (a = [] ∧ g = [] ∧ t * b / q = 0 ∧ DivIs b (t * b % q) q 0 [] []) := by
  obtain ⟨_, n, F, c⟩ := x
  have et : t % q = t := Int.emod_eq_of_lt t0 tq
  rw [et] at F c
  have e1 : (t * b % q) % q = t * b % q := Int.emod_emod_of_dvd _ (Int.dvd_refl _)
  have w0 : (0 : Int) = t * b % q / q := (Int.ediv_eq_zero_of_lt (Int.emod_nonneg _ (by omega)) (Int.emod_lt_of_pos _ hq)).symm
  have ef : t * b / q = fig b q t 0 := rfl
  have fr : ∀ m, m + 1 ≤ n → Fresh b q (t * b % q) m := fun m hm =>
    ⟨fun i hi => by rw [rst_from]; exact F.nz (i + 1) (by omega), fun i j hij hj => by rw [rst_from, rst_from]; exact F.ne (i + 1) (j + 1) (by omega) (by omega)⟩
  rcases c with ⟨h0, rfl, rfl⟩ | ⟨k, hk, hz, he, rfl, rfl⟩
  · cases n with
    | zero =>
      have ht : t = 0 := h0
      subst ht
      refine .inr (.inr ⟨rfl, rfl, by rw [Int.zero_mul, Int.zero_ediv], w0, 0, Fresh.zero, .inl ⟨?_, rfl, rfl⟩⟩)
      rw [e1]
      show (0 : Int) * b % q = 0
      rw [Int.zero_mul, Int.zero_emod]
    | succ m =>
      refine .inl ⟨_, _, figs_cons, ef, w0, m, ?_, .inl ⟨?_, ?_, rfl⟩⟩
      · rw [e1]; exact fr m (Nat.le_refl _)
      · rw [e1, rst_from]; exact h0
      · rw [e1, figs_from]
  · cases k with
    | zero =>
      obtain ⟨m, rfl⟩ : ∃ m, n = m + 1 := ⟨n - 1, by omega⟩
      have he : t = rst b q t (m + 1) := he
      have sh : ∀ i, rst b q t (m + 1 + i) = rst b q t i := fun i => by
        have := rst_shift (b := b) (q := q) (r := t) (i := 0) (j := m + 1) he i
        rw [Nat.zero_add] at this
        exact this.symm
      refine .inr (.inl ⟨fig b q t 0, figs b q t 1 m, rfl, by rw [Nat.sub_zero, figs_cons], ef, w0, m + 1, ?_, .inr ⟨0, by omega, ?_, ?_, rfl, ?_⟩⟩)
      · rw [e1]
        refine ⟨fun i hi => ?_, fun i j hij hj => ?_⟩
        · rw [rst_from]
          by_cases e : i + 1 = m + 1
          · rw [e]; exact hz
          · exact F.nz (i + 1) (by omega)
        · rw [rst_from, rst_from]
          by_cases e : j + 1 = m + 1
          · rw [e, ← he]
            exact (F.ne 0 (i + 1) (by omega) (by omega)).symm
          · exact F.ne (i + 1) (j + 1) (by omega) (by omega)
      · rw [e1, rst_from, sh 1]
        by_cases e : m = 0
        · subst e; exact hz
        · exact F.nz 1 (by omega)
      · rw [e1, rst_from, rst_from, sh 1]
      · rw [e1, figs_from, Nat.sub_zero, figs_succ]
        congr 2
        unfold fig
        rw [show 0 + 1 + m = m + 1 by omega, ← he]; rfl
    | succ k =>
      obtain ⟨m, rfl⟩ : ∃ m, n = m + 1 := ⟨n - 1, by omega⟩
      refine .inl ⟨_, _, figs_cons, ef, w0, m, ?_, .inr ⟨k, by omega, ?_, ?_, ?_, ?_⟩⟩
      · rw [e1]; exact fr m (Nat.le_refl _)
      · rw [e1, rst_from]; exact hz
      · rw [e1, rst_from, rst_from]; exact he
      · rw [e1, figs_from]
      · rw [e1, figs_from, show m + 1 - (k + 1) = m - k by omega]
end RF

end
section
namespace RF
/-- the bottom goes into the base -/
theorem div_one {b t q w : Int} {a g : List Int} (h0 : t % q ≠ 0) (hd : q ∣ b) (x : DivIs b t q w a g) : a.length = 1 ∧ g = [] := by
  have y : DivIs b t q (t / q) (figs b q (t % q) 0 1) [] :=
    ⟨rfl, 1, Fresh.zero.succ h0 (fun i hi => absurd hi (by omega)), .inl ⟨Int.emod_eq_zero_of_dvd (Int.dvd_trans hd (Int.dvd_mul_left _ _)), rfl, rfl⟩⟩
  obtain ⟨_, rfl, rfl⟩ := x.uniq y
  exact ⟨figs_length, rfl⟩
theorem Pr.gcd_int {p : Nat} {t : Int} (h : Pr p) (h0 : t % (p : Int) ≠ 0) : Int.gcd t p = 1 := by
  have c : ¬ p ∣ t.natAbs := fun z => h0 (Int.emod_eq_zero_of_dvd (Int.ofNat_dvd_left.mpr z))
  have := h.cop c
  show Nat.gcd t.natAbs (p : Int).natAbs = 1
  rw [Int.natAbs_natCast, Nat.gcd_comm]
  exact this
end RF

end
section
namespace RF
/-- one power more takes away once more what is in common -/
theorem left_succ {b q i : Nat} (hq : 0 < q) : left b q (i + 1) = left b q i / (left b q i).gcd b := by
  have e := left_mul b q i
  have g0 : 0 < q.gcd (b ^ i) := Nat.gcd_pos_of_pos_left _ hq
  obtain ⟨c, hc⟩ : q.gcd (b ^ i) ∣ b ^ i := Nat.gcd_dvd_right _ _
  have cop : Nat.Coprime (left b q i) c := by
    have h1 : q.gcd (b ^ i) * (left b q i).gcd c = q.gcd (b ^ i) * 1 := by
      rw [← Nat.gcd_mul_left, e, ← hc, Nat.mul_one]
    exact Nat.eq_of_mul_eq_mul_left g0 h1
  have h2 : q.gcd (b ^ (i + 1)) = q.gcd (b ^ i) * (left b q i).gcd b := by
    have h3 : q.gcd (b ^ (i + 1)) = (q.gcd (b ^ i) * left b q i).gcd (q.gcd (b ^ i) * (c * b)) := by
      rw [e, ← Nat.mul_assoc, ← hc, Nat.pow_succ]
    rw [h3, Nat.gcd_mul_left, cop.symm.gcd_mul_left_cancel_right]
  show q / q.gcd (b ^ (i + 1)) = q / q.gcd (b ^ i) / (left b q i).gcd b
  rw [h2, Nat.div_div_eq_div_mul]
/-! ### powers by squaring -/
theorem emod_pow (x q : Int) : ∀ n : Nat, (x % q) ^ n % q = x ^ n % q
  | 0 => by rw [Int.pow_zero, Int.pow_zero]
  | n + 1 => by
    rw [Int.pow_succ, Int.pow_succ, Int.mul_emod, emod_pow x q n, Int.emod_emod_of_dvd _ (Int.dvd_refl _), ← Int.mul_emod]
theorem emod_mul_l (x y q : Int) : x % q * y % q = x * y % q := by
  rw [Int.mul_emod, Int.emod_emod_of_dvd _ (Int.dvd_refl _), ← Int.mul_emod]
theorem emod_mul_r (x y q : Int) : x * (y % q) % q = x * y % q := by
  rw [Int.mul_emod, Int.emod_emod_of_dvd _ (Int.dvd_refl _), ← Int.mul_emod]
theorem sq_even {r s q : Int} (c : Nat) : r * (s * s % q) ^ c % q = r * s ^ (2 * c) % q := by
  rw [← emod_mul_r, emod_pow, emod_mul_r, Int.pow_mul]
  congr 3
  rw [show (2 : Nat) = 1 + 1 from rfl, Int.pow_succ, Int.pow_succ, Int.pow_zero, Int.one_mul]
theorem sq_odd {r s q : Int} (c : Nat) : r * s % q * (s * s % q) ^ c % q = r * s ^ (2 * c + 1) % q := by
  rw [sq_even, emod_mul_l, Int.pow_succ, Int.mul_assoc, Int.mul_comm s]
end RF

end
set_option Elab.async false
set_option maxRecDepth 100000
namespace L2
open PySem PySem.Spec PyProof.Rows
/-! MY OWN WORDS over the layer -/
/-- a def of the text with its promise, by its name -/
structure Got (P : Program) (w : World) (K : PySem.W.Frag) (mg : Str → Option Value) (base : Heap) (name : Str) (k : Nat) (ps : List Str) (sp : Sp) : Prop where
  ex : ∃ (f : Addr) (fd : FuncData), FnOk P w K mg base CX0 k f fd ps sp ∧ Binds K fd ps [] ∧ PySem.W.keepIn K (.ref f) = true ∧ mg name = some (.ref f)
/-- a def of the text as it stands -/
structure IsDef (K : PySem.W.Frag) (mg : Str → Option Value) (name : Str) (st : Stmt) (ps : List Str) : Prop where
  ex : ∃ (f : Addr) (fd : FuncData), Fun K name name st f fd ∧ Binds K fd ps [] ∧ mg name = some (.ref f)
/-- an int of the module's top -/
def IsInt (mg : Str → Option Value) (name : Str) (i : Int) : Prop := ∃ t, mg name = some (.int i t)
theorem IsDef.got {P : Program} {w : World} {K : PySem.W.Frag} {mg : Str → Option Value} {base : Heap} {name : Str} {st : Stmt} {ps N : List Str} {k : Nat} {sp : Sp} (D : IsDef K mg name st ps) (S : FnScope N ps (defScope st)) (len : ∀ vs H Q E, sp vs H Q E → vs.length = ps.length)
    (hbody : ∀ (f : Addr) (cdv : Value) (A : Around) (outer : List Env) (s : Shared) (H : Hp) (vs : List V) (Q : VK) (E : XK), Room k (A.deeper (envOfC name (defScope st) s.heap.objs.size f cdv)) → sp vs H Q E →
      ∃ t, PSs (cxOf CX0 P w K mg base N name (defScope st) f cdv A outer s H E).nox (defBody st) t ∧ t { nx := fun _ H' => Q .non H', rt := Q } (start N vs) H) : Got P w K mg base name (k + 1) ps sp := by
  obtain ⟨f, fd, F, b, m⟩ := D.ex
  exact ⟨f, fd, F.ok S len (fun cdv A outer s H vs Q E hr h => hbody f cdv A outer s H vs Q E hr h), b, F.kp, m⟩
theorem Got.mono {P : Program} {w : World} {K : PySem.W.Frag} {mg : Str → Option Value} {base : Heap} {name : Str} {ps : List Str} {j k : Nat} {sp : Sp} (G : Got P w K mg base name j ps sp) (h : j ≤ k) : Got P w K mg base name k ps sp := by
  obtain ⟨f, fd, F, b, kp, m⟩ := G.ex
  exact ⟨f, fd, F.mono h, b, kp, m⟩
section
variable {X : Cx} {x : Str} {p pos : Pos} {e : Expr} {es : List Expr} {t : TA} {k : Nat} {ps : List Str} {sp : Sp}
theorem pe_callG (G : Got X.prog X.w X.K X.mg X.base x k ps sp) (hr : Room k X.A) (hg : Gl X x) (ha : PA X (e :: es) t) (hdb : (x == ("__debug__" : Str)) = false := by decide)
    (he : starEach (e :: es) X.env = (false, eval e X.env) :: starEach es X.env := by rfl) (hpl : (backTo pos (starEach es X.env)).any (·.1) = false := by rfl) : PE X (.Call (.Name x p) (e :: es) [] pos) (tCall sp [] E0 t) := by
  obtain ⟨f, fd, F, b, kp, m⟩ := G.ex
  exact pe_call F hr hg m kp b .nil pass0 ha hdb he hpl
theorem pe_globI {i : Int} (h : IsInt X.mg x i) (hg : Gl X x) (hd : (x == ("__debug__" : Str)) = false := by decide) : PE X (.Name x pos) (tC (.int i)) := by
  obtain ⟨t, h⟩ := h
  exact pe_glob hg h ⟨t, rfl⟩ hd
/-! ### isinstance -/
theorem call_isi : CallR X (.builtin "isinstance") (fun xs H Q => ∃ x T t b, xs = [x, .ty T] ∧ TyOf X.K H x t ∧ PySem.W.kitOne X.K t (.type T) = some b ∧ Q (.bl b) H) := by
  intro pins s σ H xs us Q I r h
  obtain ⟨x, T, t, b, rfl, ty, e, q⟩ := h
  obtain ⟨u, w', rfl, r1, r2⟩ := vals2 r
  cases (show w' = Value.type T from r2)
  exact isinst_ok I r1 ty e fun tk => ⟨.bl b, H, I.tok tk, rfl, q⟩
theorem kit_self {K : PySem.W.Frag} (t : Value) (h : (t == t) = true) : PySem.W.kitOne K t t = some true := by unfold PySem.W.kitOne; rw [if_pos h]
/-! ### == of data: ints, lists of ints, tuples of these -/
inductive RdL (K : PySem.W.Frag) (H : Hp) : V → PyData → Prop
  | int (i : Int) : RdL K H (.int i) (.int i)
  | bl (b : Bool) : RdL K H (.bl b) (.bool b)
  | lst {a : Addr} {ns : List Int} : SqL K H a (ns.map V.int) → RdL K H (.ref a) (.list (ns.map PyData.int))
inductive RdT (K : PySem.W.Frag) (H : Hp) : V → PyData → Prop
  | of {v : V} {d : PyData} : RdL K H v d → RdT K H v d
  | tup {a : Addr} {xs : List V} {ds : List PyData} : SqT K H a xs → Paired (RdL K H) xs ds → RdT K H (.ref a) (.tuple ds)
theorem readsAll_ints {h : Heap} : ∀ {ns : List Int} {us : List Value}, Vals (ns.map V.int) us → ReadsAll h us (ns.map PyData.int) []
  | [], _, .nil => .nil
  | n :: ns, _, .cons r t => by
    obtain ⟨k, rfl⟩ := (show ∃ k, _ = Value.int n k from r)
    have := ReadsAll.cons (Reads.int (h := h) n k) (readsAll_ints (h := h) t)
    simpa using this
theorem RdL.reads {pins : List (Addr × Obj)} {s : Shared} {σ : St} {H : Hp} {v : V} {u : Value} {d : PyData} (I : Inv X pins σ H s) (r : RelV v u) (h : RdL X.K H v d) : ∃ as, Reads s.heap u d as := by
  cases h with
  | int i => obtain ⟨t, rfl⟩ := (show ∃ t, u = Value.int i t from r); exact ⟨_, Reads.int i t⟩
  | bl b => cases (show u = Value.bool b from r); exact ⟨_, Reads.bool b⟩
  | @lst a ns hs =>
    cases (show u = Value.ref a from r)
    obtain ⟨its, rv, pl, _⟩ := I.list hs
    obtain ⟨o, ho, hc, n, hd⟩ := pl.isList
    exact ⟨_, Reads.list ho hc hd (by simpa using readsAll_ints rv)⟩
theorem RdL.readsAll {pins : List (Addr × Obj)} {s : Shared} {σ : St} {H : Hp} (I : Inv X pins σ H s) : ∀ {xs : List V} {us : List Value} {ds : List PyData}, Vals xs us → Paired (RdL X.K H) xs ds → ∃ as, ReadsAll s.heap us ds as
  | _, _, _, .nil, .nil => ⟨_, ReadsAll.nil⟩
  | _, _, _, .cons r t, .cons q y => by
    obtain ⟨as, h1⟩ := RdL.reads I r q
    obtain ⟨bs, h2⟩ := RdL.readsAll I t y
    exact ⟨_, ReadsAll.cons h1 h2⟩
theorem RdT.reads {pins : List (Addr × Obj)} {s : Shared} {σ : St} {H : Hp} {v : V} {u : Value} {d : PyData} (I : Inv X pins σ H s) (r : RelV v u) (h : RdT X.K H v d) : ∃ as, Reads s.heap u d as := by
  cases h with
  | of h => exact h.reads I r
  | @tup a xs ds hs hp =>
    cases (show u = Value.ref a from r)
    obtain ⟨its, rv, ht, _⟩ := I.tuple hs
    obtain ⟨o, ho, hc, n, hd⟩ := ht
    obtain ⟨as, q⟩ := RdL.readsAll I rv hp
    exact ⟨_, Reads.tuple ho hc hd (by simpa using q)⟩
theorem canLay_ints : ∀ ns : List Int, PyData.canLayAll0 (ns.map PyData.int) = true
  | [] => rfl
  | _ :: r => by simp [PyData.canLayAll0, PyData.canLay0, canLay_ints r]
theorem depth_ints : ∀ ns : List Int, PyData.depthAll (ns.map PyData.int) = 0
  | [] => rfl
  | _ :: r => by simp [PyData.depthAll, PyData.depth, depth_ints r]
theorem RdL.lay {K : PySem.W.Frag} {H : Hp} {v : V} {d : PyData} (h : RdL K H v d) : d.canLay0 = true ∧ d.depth ≤ 1 := by
  cases h with
  | int i => simp [PyData.canLay0, PyData.depth]
  | bl i => simp [PyData.canLay0, PyData.depth]
  | @lst a ns hs => simp [PyData.canLay0, PyData.depth, canLay_ints, depth_ints]
theorem RdL.layAll {K : PySem.W.Frag} {H : Hp} : ∀ {xs : List V} {ds : List PyData}, Paired (RdL K H) xs ds → PyData.canLayAll0 ds = true ∧ PyData.depthAll ds ≤ 1
  | _, _, .nil => by simp [PyData.canLayAll0, PyData.depthAll]
  | _, _, .cons r t => by
    have h1 := r.lay
    have h2 := RdL.layAll t
    simp only [PyData.canLayAll0, PyData.depthAll, h1.1, h2.1, Bool.and_self, true_and]
    have := h1.2
    have := h2.2
    omega
theorem RdT.shaped {K : PySem.W.Frag} {H : Hp} {v : V} {d : PyData} (h : RdT K H v d) : SeqAt.shaped d = true := by
  have : d.canLay0 = true ∧ d.depth ≤ 3 := by
    cases h with
    | of h => exact ⟨h.lay.1, by have := h.lay.2; omega⟩
    | @tup a xs ds hs hp =>
      have := RdL.layAll hp
      simp only [PyData.canLay0, PyData.depth, this.1, true_and]
      have := this.2
      omega
  unfold SeqAt.shaped
  rw [this.1, Bool.true_and]
  exact decide_eq_true (by have := this.2; omega)
theorem op_eqD (hu : X.A.units + 64 < cLine) : OpR X (compareOp .Eq) (fun x y H Q => ∃ d e, RdT X.K H x d ∧ RdT X.K H y e ∧ Q (.bl (PyData.eqv d e)) H) := by
  intro pins s σ H x y v u Q I rx ry h
  obtain ⟨d, e, h1, h2, q⟩ := h
  obtain ⟨as, ra⟩ := h1.reads I rx
  obtain ⟨bs, rb⟩ := h2.reads I ry
  exact eq_dataH ra rb h1.shaped h2.shaped hu ⟨.bl _, H, I, rfl, q⟩
theorem op_neD (hu : X.A.units + 64 < cLine) : OpR X (compareOp .NotEq) (fun x y H Q => ∃ d e, RdT X.K H x d ∧ RdT X.K H y e ∧ Q (.bl (!PyData.eqv d e)) H) := by
  intro pins s σ H x y v u Q I rx ry h
  obtain ⟨d, e, h1, h2, q⟩ := h
  obtain ⟨as, ra⟩ := h1.reads I rx
  obtain ⟨bs, rb⟩ := h2.reads I ry
  exact ne_dataH ra rb h1.shaped h2.shaped hu ⟨.bl _, H, I, rfl, q⟩
end
theorem eqv_ints : ∀ ns ms : List Int, PyData.eqvAll (ns.map PyData.int) (ms.map PyData.int) = decide (ns = ms)
  | [], [] => by simp [PyData.eqvAll]
  | [], _ :: _ => by simp [PyData.eqvAll]
  | _ :: _, [] => by simp [PyData.eqvAll]
  | a :: r, b :: t => by
    simp only [List.map_cons, PyData.eqvAll, PyData.eqv, eqv_ints r t]
    by_cases h : a = b <;> by_cases h' : r = t <;> simp [h, h']
/-- == of lists of ints -/
def rEqL (K : PySem.W.Frag) : R2 := fun x y H Q => ∃ (a b : Addr) (ns ms : List Int), x = .ref a ∧ y = .ref b ∧ SqL K H a (ns.map V.int) ∧ SqL K H b (ms.map V.int) ∧ Q (.bl (decide (ns = ms))) H
def rNeL (K : PySem.W.Frag) : R2 := fun x y H Q => ∃ (a b : Addr) (ns ms : List Int), x = .ref a ∧ y = .ref b ∧ SqL K H a (ns.map V.int) ∧ SqL K H b (ms.map V.int) ∧ Q (.bl (!decide (ns = ms))) H
/-- a writing stands at p -/
structure WrAt (K : PySem.W.Frag) (H : Hp) (p la lg : Addr) (w : Int) (a g : List Int) : Prop where
  t : SqT K H p [.int w, .ref la, .ref lg]
  a : SqL K H la (a.map V.int)
  g : SqL K H lg (g.map V.int)
def rEqW (K : PySem.W.Frag) : R2 := fun x y H Q => ∃ (p la lg : Addr) (w : Int) (a g : List Int) (p' la' lg' : Addr) (w' : Int) (a' g' : List Int), x = .ref p ∧ y = .ref p' ∧ WrAt K H p la lg w a g ∧ WrAt K H p' la' lg' w' a' g' ∧ Q (.bl (decide (w = w' ∧ a = a' ∧ g = g'))) H
def rNeW (K : PySem.W.Frag) : R2 := fun x y H Q => ∃ (p la lg : Addr) (w : Int) (a g : List Int) (p' la' lg' : Addr) (w' : Int) (a' g' : List Int), x = .ref p ∧ y = .ref p' ∧ WrAt K H p la lg w a g ∧ WrAt K H p' la' lg' w' a' g' ∧ Q (.bl (!decide (w = w' ∧ a = a' ∧ g = g'))) H
/-- == of tuples of two ints -/
def rEqP (K : PySem.W.Frag) : R2 := fun x y H Q => ∃ (p : Addr) (i j : Int) (p' : Addr) (i' j' : Int), x = .ref p ∧ y = .ref p' ∧ SqT K H p [.int i, .int j] ∧ SqT K H p' [.int i', .int j'] ∧ Q (.bl (decide (i = i' ∧ j = j'))) H
def rNeP (K : PySem.W.Frag) : R2 := fun x y H Q => ∃ (p : Addr) (i j : Int) (p' : Addr) (i' j' : Int), x = .ref p ∧ y = .ref p' ∧ SqT K H p [.int i, .int j] ∧ SqT K H p' [.int i', .int j'] ∧ Q (.bl (!decide (i = i' ∧ j = j'))) H
theorem WrAt.rd {K : PySem.W.Frag} {H : Hp} {p la lg : Addr} {w : Int} {a g : List Int} (h : WrAt K H p la lg w a g) : RdT K H (.ref p) (.tuple [.int w, .list (a.map PyData.int), .list (g.map PyData.int)]) :=
  .tup h.t (.cons (.int w) (.cons (.lst h.a) (.cons (.lst h.g) .nil)))
theorem eqv_wr (w w' : Int) (a a' g g' : List Int) : PyData.eqv (.tuple [.int w, .list (a.map PyData.int), .list (g.map PyData.int)]) (.tuple [.int w', .list (a'.map PyData.int), .list (g'.map PyData.int)]) = decide (w = w' ∧ a = a' ∧ g = g') := by
  simp only [PyData.eqv, PyData.eqvAll, eqv_ints]
  by_cases h1 : w = w' <;> by_cases h2 : a = a' <;> by_cases h3 : g = g' <;> simp [h1, h2, h3]
theorem eqv_pr (i j i' j' : Int) : PyData.eqv (.tuple [.int i, .int j]) (.tuple [.int i', .int j']) = decide (i = i' ∧ j = j') := by
  simp only [PyData.eqv, PyData.eqvAll]
  by_cases h1 : i = i' <;> by_cases h2 : j = j' <;> simp [h1, h2]
section
variable {X : Cx}
theorem op_eqL (hu : X.A.units + 64 < cLine) : OpR X (compareOp .Eq) (rEqL X.K) := fun pins s σ H x y v u Q I rx ry h => by
  obtain ⟨a, b, ns, ms, rfl, rfl, h1, h2, q⟩ := h
  exact op_eqD hu pins s σ H _ _ v u Q I rx ry ⟨_, _, .of (.lst h1), .of (.lst h2), by simp only [PyData.eqv, eqv_ints]; exact q⟩
theorem op_neL (hu : X.A.units + 64 < cLine) : OpR X (compareOp .NotEq) (rNeL X.K) := fun pins s σ H x y v u Q I rx ry h => by
  obtain ⟨a, b, ns, ms, rfl, rfl, h1, h2, q⟩ := h
  exact op_neD hu pins s σ H _ _ v u Q I rx ry ⟨_, _, .of (.lst h1), .of (.lst h2), by simp only [PyData.eqv, eqv_ints]; exact q⟩
theorem op_eqW (hu : X.A.units + 64 < cLine) : OpR X (compareOp .Eq) (rEqW X.K) := fun pins s σ H x y v u Q I rx ry h => by
  obtain ⟨p, la, lg, w, a, g, p', la', lg', w', a', g', rfl, rfl, h1, h2, q⟩ := h
  exact op_eqD hu pins s σ H _ _ v u Q I rx ry ⟨_, _, h1.rd, h2.rd, by rw [eqv_wr]; exact q⟩
theorem op_neW (hu : X.A.units + 64 < cLine) : OpR X (compareOp .NotEq) (rNeW X.K) := fun pins s σ H x y v u Q I rx ry h => by
  obtain ⟨p, la, lg, w, a, g, p', la', lg', w', a', g', rfl, rfl, h1, h2, q⟩ := h
  exact op_neD hu pins s σ H _ _ v u Q I rx ry ⟨_, _, h1.rd, h2.rd, by rw [eqv_wr]; exact q⟩
theorem op_eqP (hu : X.A.units + 64 < cLine) : OpR X (compareOp .Eq) (rEqP X.K) := fun pins s σ H x y v u Q I rx ry h => by
  obtain ⟨p, i, j, p', i', j', rfl, rfl, h1, h2, q⟩ := h
  exact op_eqD hu pins s σ H _ _ v u Q I rx ry ⟨_, _, .tup h1 (.cons (.int i) (.cons (.int j) .nil)), .tup h2 (.cons (.int i') (.cons (.int j') .nil)), by rw [eqv_pr]; exact q⟩
theorem op_neP (hu : X.A.units + 64 < cLine) : OpR X (compareOp .NotEq) (rNeP X.K) := fun pins s σ H x y v u Q I rx ry h => by
  obtain ⟨p, i, j, p', i', j', rfl, rfl, h1, h2, q⟩ := h
  exact op_neD hu pins s σ H _ _ v u Q I rx ry ⟨_, _, .tup h1 (.cons (.int i) (.cons (.int j) .nil)), .tup h2 (.cons (.int i') (.cons (.int j') .nil)), by rw [eqv_pr]; exact q⟩
end
/-! ### tests, again -/
theorem iteDF {c A B : Prop} [Decidable c] (hc : ¬ c) (h : B) : if decide c = true then A else B := by
  rw [decide_eq_false hc]; exact iteF h
theorem iteDT {c A B : Prop} [Decidable c] (hc : c) (h : A) : if decide c = true then A else B := by
  rw [decide_eq_true hc]; exact iteT h
theorem iteNDF {c A B : Prop} [Decidable c] (hc : c) (h : B) : if (!decide c) = true then A else B := iteNS hc h
theorem iteNDT {c A B : Prop} [Decidable c] (hc : ¬ c) (h : A) : if (!decide c) = true then A else B := by
  rw [decide_eq_false hc]; exact iteT h
theorem ite2D {c A B : Prop} [Decidable c] (h1 : c → A) (h2 : ¬ c → B) : if decide c = true then A else B := by
  by_cases h : c
  · exact iteDT h (h1 h)
  · exact iteDF h (h2 h)
theorem ite2N {c A B : Prop} [Decidable c] (h1 : ¬ c → A) (h2 : c → B) : if (!decide c) = true then A else B := by
  by_cases h : c
  · exact iteNDF h (h2 h)
  · exact iteNDT h (h1 h)
/-! ### what is kept -/
theorem Same.tup {K : PySem.W.Frag} {H H' : Hp} {a : Addr} {xs : List V} (e : Same H H') (h : SqT K H a xs) : SqT K H' a xs := by
  rcases h with (h | ⟨o, h⟩) | h
  · exact .inl (.inl (e _ _ h))
  · exact .inl (.inr ⟨o, e _ _ h⟩)
  · exact .inr h
theorem Same.upd {H : Hp} {a : Addr} {o : HO} (h : H a = none) : Same H (upd H a o) := fun b u e => by rw [upd_ne (ne_of_none e h)]; exact e
theorem Same.upd2 {H H' : Hp} {a : Addr} {o : HO} (s : Same H H') (h : H a = none) : Same H (L2.upd H' a o) := fun b u e => by rw [upd_ne (ne_of_none e h)]; exact s b u e
theorem Same.wr {K : PySem.W.Frag} {H H' : Hp} {p la lg : Addr} {w : Int} {a g : List Int} (e : Same H H') (h : WrAt K H p la lg w a g) : WrAt K H' p la lg w a g := ⟨e.tup h.t, e.seq h.a, e.seq h.g⟩
theorem map_int_cut {xs : List Int} {lo hi : Option Int} : cutV (xs.map V.int) lo hi = (((xs.drop (HT.sIx xs.length 0 lo)).take (HT.sIx xs.length xs.length hi - HT.sIx xs.length 0 lo))).map V.int := by
  unfold cutV
  rw [List.length_map, List.map_take, List.map_drop]
end L2
namespace L2
open PySem PySem.Spec PyProof.Rows
theorem kit_int_bool {K : PySem.W.Frag} : PySem.W.kitOne K (.type "int") (.type "bool") = some false := by
  have h0 : ((Value.type "int") == (Value.type "bool")) = false := by decide +kernel
  have h1 : PySem.W.kitMeta "bool" = true := by decide +kernel
  have h2 : PySem.W.subIn K (.type "int") (.type "bool") = some false := by
    show (fastBuiltinMro "int").map (·.contains (Value.type "bool")) = some false
    decide +kernel
  unfold PySem.W.kitOne PySem.W.kitCls
  rw [h0, if_neg (by decide)]
  show (if PySem.W.kitMeta "bool" = true then PySem.W.subIn K (.type "int") (.type "bool") else none) = some false
  rw [if_pos h1, h2]
section
variable {X : Cx}
/-! ### products and quotients of long ints -/
theorem op_mulB : OpR X (binaryOp .Mult) (rI IntMulOk fun i j => .int (i * j)) := opI fun _ _ _ _ _ _ _ hc q => mul_int q hc
def CDivB (i j : Int) : Prop := 0 < j ∧ Builtin.divisionGoesByPylong i j = false
theorem op_fdivB : OpR X (binaryOp .FloorDiv) (rI CDivB fun i j => .int (i / j)) := opI fun i j _ _ _ _ _ hc q => by
  have h1 : (0 : Int) < j := hc.1
  exact floordiv_int (by omega) (by rw [Int.fdiv_eq_ediv_of_nonneg i (by omega)]; exact q) (.inl hc.2)
/-- is True, is not True of bools -/
theorem op_isnotB : OpR X (compareOp .IsNot) (fun x y H Q => ∃ a b, x = .bl a ∧ y = .bl b ∧ Q (.bl (!(a == b))) H) := by
  intro pins s σ H x y v u Q I rx ry h
  obtain ⟨a, b, rfl, rfl, q⟩ := h
  cases (show v = Value.bool a from rx)
  cases (show u = Value.bool b from ry)
  refine wpAny_isNot_plain rfl ⟨.bl (!(a == b)), H, I, ?_, q⟩
  show Value.bool (!(Value.bool a == Value.bool b)) = Value.bool (!(a == b))
  cases a <;> cases b <;> rfl
end
theorem intBits_le {x : Int} {m : Nat} (h : x.natAbs < 2 ^ m) : Builtin.Int.intBits x ≤ m := by
  unfold Builtin.Int.intBits
  by_cases e : (x == 0) = true
  · rw [if_pos e]; exact Nat.zero_le _
  · rw [if_neg e]
    have h0 : x.natAbs ≠ 0 := by
      intro z
      apply e
      have : x = 0 := by omega
      rw [this]; rfl
    have := (Nat.log2_lt h0).mpr h
    omega
theorem mulOk_of {x y : Int} {m n : Nat} (hx : x.natAbs < 2 ^ m) (hy : y.natAbs < 2 ^ n) (h : m + n ≤ 134217728) : IntMulOk x y := by
  have h1 := intBits_le hx
  have h2 := intBits_le hy
  have hc : Builtin.Int.intTooBig (Builtin.Int.intBits x + Builtin.Int.intBits y) = false := by
    unfold Builtin.Int.intTooBig bitsLine
    exact decide_eq_false (by omega)
  unfold IntMulOk
  rw [hc]
  simp
theorem noPylong_ratio {x y : Int} (hy : 0 < y) (h : x.natAbs < y.natAbs * 2 ^ 4000) : Builtin.divisionGoesByPylong x y = false := by
  have y0 : y.natAbs ≠ 0 := by omega
  have hyl : y.natAbs < 2 ^ (y.natAbs.log2 + 1) := Nat.lt_log2_self
  have key : (if x == 0 then 0 else x.natAbs.log2 / 30 + 1) ≤ (if y == 0 then 0 else y.natAbs.log2 / 30 + 1) + 150 := by
    rw [if_neg (show ¬ (y == 0) = true by simp; omega)]
    by_cases e : (x == 0) = true
    · rw [if_pos e]; exact Nat.zero_le _
    · rw [if_neg e]
      have x0 : x.natAbs ≠ 0 := by
        intro z
        apply e
        have : x = 0 := by omega
        rw [this]; rfl
      have h1 : x.natAbs < 2 ^ (y.natAbs.log2 + 1 + 4000) := by
        rw [Nat.pow_add]
        exact Nat.lt_of_lt_of_le h (Nat.mul_le_mul_right _ (Nat.le_of_lt hyl))
      have := (Nat.log2_lt x0).mpr h1
      omega
  show (_ && decide ((if x == 0 then 0 else x.natAbs.log2 / 30 + 1) > (if y == 0 then 0 else y.natAbs.log2 / 30 + 1) + 150)) = false
  rw [decide_eq_false (Nat.not_lt.mpr key), Bool.and_false]
end L2

set_option Elab.async false
set_option maxRecDepth 100000
set_option maxHeartbeats 2000000
namespace L2
open PySem PySem.Spec PyProof.Rows
/-! ### a comprehension of one clause without tests: [elt for x in iter] -/
/-- the cells that a block takes from its def -/
def clStep (env : Env) (cs : List (Str × Addr)) (p : Str × NameKind) : List (Str × Addr) := if p.2 == .free then (p.1, (env.cells.lookup p.1).getD 0) :: cs else cs
def clOf (sc : Scope) (env : Env) : List (Str × Addr) := sc.names.foldl (clStep env) []
def frees (sc : Scope) (env : Env) : Bool := sc.names.all fun p => !(p.2 == .free) || (env.cells.lookup p.1).isSome
theorem closure_is {sc : Scope} {env : Env} (h : frees sc env = true) : closureFor sc env = pure (clOf sc env) := by
  have key : ∀ (l : List (Str × NameKind)) (cs : List (Str × Addr)), (l.all fun p => !(p.2 == .free) || (env.cells.lookup p.1).isSome) = true →
      (forIn l cs fun (x : Str × NameKind) (r : List (Str × Addr)) => (match x with
        | (name, kind) => if (kind == NameKind.free) = true then (do let a ← cellOf env name; pure (ForInStep.yield ((name, a) :: r))) else pure (ForInStep.yield r) : Sem (ForInStep (List (Str × Addr))))) = (pure (l.foldl (clStep env) cs) : Sem (List (Str × Addr))) := by
    intro l
    induction l with
    | nil => intro cs _; rfl
    | cons p l ih =>
      intro cs hl
      rw [List.all_cons, Bool.and_eq_true] at hl
      rw [List.forIn_cons, List.foldl_cons]
      obtain ⟨name, kind⟩ := p
      by_cases hk : (kind == NameKind.free) = true
      · have h1 : (env.cells.lookup name).isSome = true := by
          have := hl.1
          rw [hk] at this
          exact this
        obtain ⟨c, hc⟩ := Option.isSome_iff_exists.mp h1
        have e1 : clStep env cs (name, kind) = (name, c) :: cs := by unfold clStep; rw [if_pos hk, hc]; rfl
        have e2 : cellOf env name = pure c := by unfold cellOf; rw [hc]
        dsimp only
        rw [if_pos hk, e2, e1, pure_bind, pure_bind]
        exact ih _ hl.2
      · have e1 : clStep env cs (name, kind) = cs := by unfold clStep; rw [if_neg hk]
        dsimp only
        rw [if_neg hk, e1, pure_bind]
        exact ih _ hl.2
  have := key sc.names [] h
  show (forIn sc.names ([] : List (Str × Addr)) _ >>= fun s => pure s) = _
  rw [bind_pure]
  exact this
theorem clOf_mem {sc : Scope} {env : Env} (h : frees sc env = true) : ∀ p ∈ clOf sc env, env.cells.lookup p.1 = some p.2 := by
  have key : ∀ (l : List (Str × NameKind)) (cs : List (Str × Addr)), (l.all fun p => !(p.2 == .free) || (env.cells.lookup p.1).isSome) = true → (∀ p ∈ cs, env.cells.lookup p.1 = some p.2) → ∀ p ∈ l.foldl (clStep env) cs, env.cells.lookup p.1 = some p.2 := by
    intro l
    induction l with
    | nil => intro cs _ hc p hp; exact hc p hp
    | cons q l ih =>
      intro cs hl hc p hp
      rw [List.all_cons, Bool.and_eq_true] at hl
      rw [List.foldl_cons] at hp
      refine ih _ hl.2 (fun r hr => ?_) p hp
      unfold clStep at hr
      by_cases hk : (q.2 == NameKind.free) = true
      · rw [if_pos hk] at hr
        rcases List.mem_cons.mp hr with rfl | hr
        · have h1 : (env.cells.lookup q.1).isSome = true := by
            have := hl.1
            rw [hk] at this
            exact this
          obtain ⟨c, hcc⟩ := Option.isSome_iff_exists.mp h1
          show env.cells.lookup q.1 = some ((env.cells.lookup q.1).getD 0)
          rw [hcc]; rfl
        · exact hc r hr
      · rw [if_neg hk] at hr
        exact hc r hr
  exact key sc.names [] h (fun p hp => by simp at hp)
theorem lookup_mem {β : Type} : ∀ {l : List (Str × β)} {y : Str} {c : β}, l.lookup y = some c → (y, c) ∈ l
  | [], _, _, h => by simp at h
  | (z, d) :: l, y, c, h => by
    rw [List.lookup_cons] at h
    by_cases e : (y == z) = true
    · rw [e] at h
      have e1 : y = z := eq_of_beq e
      have h : d = c := by simpa using h
      rw [e1, h]; exact List.mem_cons_self
    · have e : (y == z) = false := by simpa using e
      rw [e] at h
      exact List.mem_cons_of_mem _ (lookup_mem h)
theorem clOf_lookup {sc : Scope} {env : Env} (h : frees sc env = true) {y : Str} {c : Addr} (e : (clOf sc env).lookup y = some c) : env.cells.lookup y = some c := clOf_mem h (y, c) (lookup_mem e)
/-- the block's context -/
def cxB (X : Cx) (sc : Scope) (C : Addr) (N' : List Str) (s0 : Shared) (H0 : Hp) (fp : List Addr) : Cx :=
  { X with N := N', s₀ := s0, H₀ := H0, env := compEnvC sc (clOf sc X.env) C X.env, outer := X.stack, stack := X.stack, ex := fp, fn := fun _ => false, pn := [], xe := fun _ _ => False }
/-- what a captured name (with its slot) must have -/
def capsOk (X : Cx) (sc : Scope) : List (Str × Nat) → Prop
  | [] => True
  | p :: r => (X.N[p.2]? = some p.1 ∧ Vis X.env.scope p.1 ∧ (X.env.kindOf p.1 = some .cell ∨ X.env.kindOf p.1 = some .free) ∧ ((relabel sc X.env).names.lookup p.1 = some .cell ∨ (relabel sc X.env).names.lookup p.1 = some .free) ∧ ((clOf sc X.env).lookup p.1).isSome = true) ∧ capsOk X sc r
structure CompOk (X : Cx) (sc : Scope) (x : Str) (caps : List (Str × Nat)) : Prop where
  kind : sc.kind = .function
  nocell : ∀ y ∈ sc.names, y.2 ≠ .cell
  names : ∀ y ∈ sc.names, y.2 = .local → sc.names.lookup y.1 = some .local
  loc : sc.names.lookup x = some .local
  free : frees sc X.env = true
  rel : ((relabel sc X.env).names.all fun p => !(p.2 == .cell || p.2 == .free) || ((clOf sc X.env).lookup p.1).isSome) = true
  cap : capsOk X sc caps
  nd : (x :: caps.map (·.1)).Nodup
theorem capsOk_get {X : Cx} {sc : Scope} : ∀ {caps : List (Str × Nat)} {j : Nat} {p : Str × Nat}, capsOk X sc caps → caps[j]? = some p →
    X.N[p.2]? = some p.1 ∧ Vis X.env.scope p.1 ∧ (X.env.kindOf p.1 = some .cell ∨ X.env.kindOf p.1 = some .free) ∧ ((relabel sc X.env).names.lookup p.1 = some .cell ∨ (relabel sc X.env).names.lookup p.1 = some .free) ∧ ((clOf sc X.env).lookup p.1).isSome = true
  | [], _, _, _, e => by simp at e
  | q :: r, 0, p, h, e => by
    have : q = p := by simpa using e
    subst this
    exact h.1
  | q :: r, j + 1, p, h, e => capsOk_get h.2 (by simpa using e)
/-- the block's slots: the turn's name, then what it takes from the def -/
def capsV (caps : List (Str × Nat)) (σ : St) : St := caps.map fun p => (σ[p.2]?).join
section
variable {X : Cx} {pins : List (Addr × Obj)} {σ : St} {H2 : Hp} {s2 : Shared} {sc : Scope} {x : Str} {caps : List (Str × Nat)} {fp : List Addr} {C : Addr}
theorem cxB_ok (I : Inv X pins σ H2 s2) (O : CompOk X sc x caps) (f2 : ∀ b ∈ fp, FpOk X pins H2 b) (hfp : ∀ b ∈ fp, b < s2.heap.objs.size) (hC : s2.heap.objs.size ≤ C) :
    (cxB X sc C (x :: caps.map (·.1)) s2 H2 fp).Ok where
  mod := I.ok.mod
  kind := O.kind
  glob := I.ok.glob
  blt := I.ok.blt
  above := hC
  inj := fun y z c h1 h2 => I.ok.inj y z c (clOf_lookup O.free h1) (clOf_lookup O.free h2)
  has := fun y hy => by
    have hy : (relabel sc X.env).names.lookup y = some .cell ∨ (relabel sc X.env).names.lookup y = some .free := hy
    have hall := List.all_eq_true.mp O.rel
    rcases hy with hy | hy
    · have := hall _ (lookup_mem hy)
      exact Option.isSome_iff_exists.mp this
    · have := hall _ (lookup_mem hy)
      exact Option.isSome_iff_exists.mp this
  cab := fun y c h _ => by cases h
  hd := I.ok.hd
  frames := I.ok.frames
  stk := .inl rfl
  exf := fun b hb => ⟨Nat.ne_of_lt (Nat.lt_of_lt_of_le (hfp b hb) hC), fun y c h => (f2 b hb).2.2.2.2.1 y c (clOf_lookup O.free h)⟩
  bs := I.bs
  bsz := Nat.le_trans I.ok.bsz I.sz
  noex := fun b o e hb => by
    rcases (f2 b hb).2.2.2.1 with h | h
    · exact I.ok.noex b o e h
    · exact absurd h (Nat.not_le.mpr (Heap.lt_size (I.ok.bs b o e).1))
  exfs := fun b hb hf => by
    rcases List.mem_cons.mp (I.stkSub b hf) with h | h
    · exact (f2 b hb).2.1 h
    · exact (f2 b hb).2.2.1 h
  funs := I.stack
  frf := I.stkFree
/-- the block's start: the list laid at D, the block's names at C -/
theorem cxB_start {s4 : Shared} {D : Addr} {m : Str → Option Value} (I : Inv X pins σ H2 s2) (O : CompOk X sc x caps) (f2 : ∀ b ∈ fp, FpOk X pins H2 b) (hfp : ∀ b ∈ fp, b < s2.heap.objs.size) (hC : s2.heap.objs.size ≤ C)
    (hD : s2.heap.objs.size ≤ D) (hCD : C ≠ D) (hos : s4.os = s2.os) (hg : s4.gens = s2.gens) (k : ∀ b o, s2.heap.get? b = some o → s4.heap.get? b = some o) (hns : s4.heap.Ns C m)
    (hl : s4.heap.get? D = some { cls := .type "list", data := .seq #[] }) :
    Inv (cxB X sc C (x :: caps.map (·.1)) s2 H2 fp) [] (none :: capsV caps σ) (upd H2 D (.lst [])) s4 where
  ok := cxB_ok I O f2 hfp hC
  os := hos
  bare := by rw [hg]; exact I.bare
  base := Un.laid k hD (I.hok.fresh hD)
  loc := by
    refine ⟨m, hns, fun i y v h1 h2 _ => ?_⟩
    cases i with
    | zero => simp at h2
    | succ j =>
      have h2 : (capsV caps σ)[j]? = some (some v) := by simpa using h2
      unfold capsV at h2
      rw [List.getElem?_map] at h2
      cases e : caps[j]? with
      | none => rw [e] at h2; cases h2
      | some p =>
        rw [e] at h2
        have h3 : (σ[p.2]?).join = some v := Option.some.inj h2
        have h4 : σ[p.2]? = some (some v) := by
          cases q : σ[p.2]? with
          | none => rw [q] at h3; cases h3
          | some z => rw [q] at h3; rw [show z = some v from h3]
        have ey : y = p.1 := by
          have h1 : (caps.map (·.1))[j]? = some y := by simpa [cxB] using h1
          rw [List.getElem?_map, e] at h1
          exact (Option.some.inj h1).symm
        subst ey
        obtain ⟨c1, c2, c3, c4, c5⟩ := capsOk_get O.cap e
        obtain ⟨m0, _, hloc⟩ := I.loc
        obtain ⟨u, ru, lk⟩ := hloc p.2 p.1 v c1 h4 c2
        refine ⟨u, ru, .inr ⟨c4, ?_⟩⟩
        obtain ⟨c, hc⟩ := Option.isSome_iff_exists.mp c5
        refine ⟨c, hc, ?_⟩
        rcases lk with ⟨z, _⟩ | ⟨_, c', hc', hcell⟩
        · rcases c3 with c3 | c3 <;> (rw [z] at c3; cases c3)
        · have := clOf_lookup O.free hc
          rw [hc'] at this
          cases this
          obtain ⟨o, ho, hd⟩ := hcell
          exact ⟨o, k _ _ ho, hd⟩
  cell := fun y c h => by
    obtain ⟨v, o, ho, hd⟩ := I.cell y c (clOf_lookup O.free h)
    exact ⟨v, o, k _ _ ho, hd⟩
  free := by
    show upd H2 D (.lst []) C = none
    rw [upd_ne hCD]; exact I.hok.fresh hC
  freeC := fun y c h => by
    have h1 := clOf_lookup O.free h
    obtain ⟨v, o, ho, _⟩ := I.cell y c h1
    have : c ≠ D := Nat.ne_of_lt (Nat.lt_of_lt_of_le (Heap.lt_size ho) hD)
    rw [upd_ne this]
    exact I.freeC y c h1
  pin := fun p hp => by simp [cxB] at hp
  hok := I.hok.laid k hD ⟨Nat.zero_le _, [], 0, .nil, hl⟩
  len := by simp [cxB, capsV]
/-- the reading of a comprehension: W by the turn, a measure, the heap and the list so far -/
def tComp (caps : List (Str × Nat)) (wi : TI) (te : TE) : TE := fun σ H Q => wi σ H fun J H1 => ∀ D, H1 D = none → ∃ W : Nat → Nat → Hp → List V → Prop, (∃ m, W 0 m (upd H1 D (.lst [])) []) ∧
  ∀ i m H2 ys, W i m H2 ys → H2 D = some (.lst ys) ∧ ((J.stop i H2 ∧ Q (.ref D) H2) ∨ (J.go i H2 ∧ ys.length < sizeLine ∧ ∀ x H3, J.yld i H2 x H3 →
    te (some x :: capsV caps σ) H3 fun y H4 => H4 D = some (.lst ys) ∧ ∃ m', m' < m ∧ W (i + 1) m' (upd H4 D (.lst (ys ++ [y]))) (ys ++ [y])))
/-- one turn, with the step ahead of the store -/
theorem compLoop_turn {prog : Program} {w : World} {A : Around} {R : Result → Shared → Prop} {s : Shared} {elt target iter : Expr} {scope : Scope} {pos : Pos} {it acc : Value} {env : Env} (I : Nat → Shared → Prop)
    (turn : ∀ n s, I n s → ∀ E : Value → Shared → Prop, wpAny (model prog w) A (pyNext it) (fun r s₁ => match r with
      | none => R (.ok .next) s₁
      | some v => wpAny (model prog w) A (letOwnedTupleGo target it v) (fun _ s₁' => wpAny (model prog w) A (assign target env v) (fun _ s₂ => wpAny (model prog w) A (eval elt env) (fun x s₃ =>
          wpAny (model prog w) A (call (.builtin "list.append") [acc, x]) (fun _ s₄ => ∃ m, m < n ∧ I m s₄) E s₃) E s₂) E s₁') E s₁) E s)
    (n : Nat) (h : I n s) : codeAny (model prog w) A (.compLoop (.ListComp elt [⟨target, iter, [], 0⟩] scope pos) 0 it acc env) R s := by
  refine codeAny_loop rfl I (fun n s hI => ?_) n h
  show wpAny _ _ ((compTurn (.ListComp elt [⟨target, iter, [], 0⟩] scope pos) 0 it acc env).onRaise (fun x => do noteFrame x env; theTreesLotGoes x)) _ _ s
  refine wpAny_noted ?_
  rw [compTurn_list1]
  refine wpAny_bind (wpAny_standAt (wpAny_bind (wpAny_mono (turn n s hI _) (fun r s₁ h₁ => ?_) fun _ _ h' => h')))
  cases r with
  | none => exact wpAny_pure h₁
  | some v =>
    exact wpAny_bind (wpAny_mono h₁ (fun _ s₁' h₁' => wpAny_bind (wpAny_mono h₁' (fun _ s₂ h₂ => wpAny_bind (wpAny_bind (wpAny_mono h₂ (fun x s₃ h₃ => wpAny_bind (wpAny_mono h₃
      (fun _ s₄ h₄ => wpAny_pure (wpAny_pure ⟨rfl, h₄⟩)) fun _ _ h' => h')) fun _ _ h' => h'))) fun _ _ h' => h')) fun _ _ h' => h')
/-- the block runs -/
theorem comp_run {elt iter : Expr} {px pos : Pos} {te : TE} {J : It} {it : Addr} {tn : Nat → Heap → Prop} {Q : VK} {E : Value → Shared → Prop} {RR : Value → Addr → Result → Shared → Prop} (hc : X.calm = true)
    (I : Inv X pins σ H2 s2) (T : Turn X.prog X.w X.K (.Name x px) J fp it tn) (st : tn 0 s2.heap) (f2 : ∀ b ∈ fp, FpOk X pins H2 b) (O : CompOk X sc x caps)
    (he : ∀ C s0 H0 fp, PE (cxB X sc C (x :: caps.map (·.1)) s0 H0 fp) elt te)
    (h : ∀ D, H2 D = none → ∃ W : Nat → Nat → Hp → List V → Prop, (∃ m, W 0 m (upd H2 D (.lst [])) []) ∧
      ∀ i m H2 ys, W i m H2 ys → H2 D = some (.lst ys) ∧ ((J.stop i H2 ∧ Q (.ref D) H2) ∨ (J.go i H2 ∧ ys.length < sizeLine ∧ ∀ x H3, J.yld i H2 x H3 →
        te (some x :: capsV caps σ) H3 fun y H4 => H4 D = some (.lst ys) ∧ ∃ m', m' < m ∧ W (i + 1) m' (upd H4 D (.lst (ys ++ [y]))) (ys ++ [y]))))
    (hRR : ∀ D C s' H' m, s2.heap.objs.size ≤ C → H' C = none → Inv X pins σ H' s' → Q (.ref D) H' → s'.heap.Ns C m → RR (.ref D) C (.ok .next) s') :
    wpAny (model X.prog X.w) X.A (newList []) (fun acc s₃ => wpAny (model X.prog X.w) X.A (newFunctionEnv sc X.env.globals (clOf sc X.env) [] X.env.qual none .none (some X.env)) (fun cenv s₄ =>
      codeAny (model X.prog X.w) X.A (.compStart (.ListComp elt [⟨.Name x px, iter, [], 0⟩] sc pos) 0 (.ref it) acc { cenv with scope := relabel sc X.env }) (RR acc cenv.locals) s₄) E s₃) E s2 := by
  have hfp : ∀ b ∈ fp, b < s2.heap.objs.size := fun b hb => by
    obtain ⟨o, ho, _⟩ := T.obj 0 _ st b hb
    exact Heap.lt_size ho
  refine wpAny_newObj_type (wpAny_newFunctionEnv O.nocell (by intro y hy; simp at hy) (fun h₁ hns₁ hsb₁ => ?_) O.kind)
  dsimp only at hns₁ hsb₁ ⊢
  generalize hH2 : s2.heap.push { cls := .type "list", dict := none, data := .seq ([] : List Value).toArray } = G2 at hns₁ hsb₁ ⊢
  have hC : G2.objs.size = s2.heap.objs.size + 1 := by rw [← hH2, Heap.size_push]
  have hDC : s2.heap.objs.size ≠ G2.objs.size := by rw [hC]; exact Nat.ne_of_lt (Nat.lt_succ_self _)
  have hCle : s2.heap.objs.size ≤ G2.objs.size := by rw [hC]; exact Nat.le_succ _
  have old : ∀ b o, s2.heap.get? b = some o → h₁.get? b = some o := fun b o e =>
    hsb₁.extBut b o (by rw [hC]; exact Nat.ne_of_lt (Nat.lt_succ_of_lt (Heap.lt_size e))) (Heap.get?_push_of_some _ (hH2 ▸ Heap.get?_push_of_some _ e))
  have hacc : h₁.get? s2.heap.objs.size = some { cls := .type "list", data := .seq #[] } := hsb₁.extBut _ _ hDC (Heap.get?_push_of_some _ (hH2 ▸ Heap.get?_push_size _ rfl))
  have hst₁ : tn 0 h₁ := T.keep 0 _ _ st fun b _ o e => old b o e
  have I4 : Inv (cxB X sc G2.objs.size (x :: caps.map (·.1)) s2 H2 fp) [] (none :: capsV caps σ) (upd H2 s2.heap.objs.size (.lst [])) { s2 with heap := h₁, toks := s2.toks + ([] : List (Str × Value)).length } :=
    cxB_start I O f2 hfp hCle (Nat.le_refl _) hDC.symm rfl rfl old hns₁ hacc
  obtain ⟨W, ⟨m0, w0⟩, turn⟩ := h s2.heap.objs.size (I.hok.fresh (Nat.le_refl _))
  have stat : ∀ {H' : Hp}, (∀ b ∈ fp, H' b = none) → ∀ b ∈ fp, FpOk (cxB X sc G2.objs.size (x :: caps.map (·.1)) s2 H2 fp) [] H' b := fun hn b hb =>
    ⟨hn b hb, ((cxB_ok I O f2 hfp hCle).exf b hb).1, (cxB_ok I O f2 hfp hCle).exfs b hb, .inl hb, ((cxB_ok I O f2 hfp hCle).exf b hb).2, fun p hp => by simp [cxB] at hp⟩
  have fr0 : ∀ b ∈ fp, upd H2 s2.heap.objs.size (.lst []) b = none := fun b hb => by
    rw [upd_ne (Nat.ne_of_lt (hfp b hb))]; exact (f2 b hb).1
  have loop : ∀ s₃ : Shared, s₃ = { s2 with heap := h₁, toks := s2.toks + ([] : List (Str × Value)).length } →
      codeAny (model X.prog X.w) X.A (.compLoop (.ListComp elt [⟨.Name x px, iter, [], 0⟩] sc pos) 0 (.ref it) (.ref s2.heap.objs.size) (compEnvC sc (clOf sc X.env) G2.objs.size X.env))
        (RR (.ref s2.heap.objs.size) G2.objs.size) s₃ := by
    rintro s₃ rfl
    refine compLoop_turn (fun n s' => ∃ i v0 H' ys, Inv (cxB X sc G2.objs.size (x :: caps.map (·.1)) s2 H2 fp) [] (v0 :: capsV caps σ) H' s' ∧ tn i s'.heap ∧ (∀ b ∈ fp, H' b = none) ∧ W i n H' ys) ?_ m0 ⟨0, _, _, _, I4, hst₁, fr0, w0⟩
    rintro n s3 ⟨i, v0, H3, ys, I3, st3, fr3, w3⟩ E'
    obtain ⟨hDl, hw⟩ := turn i n H3 ys w3
    rcases hw with ⟨stop, qn⟩ | ⟨go, hlen, step⟩
    · refine thn (T.done (cxB X sc G2.objs.size (x :: caps.map (·.1)) s2 H2 fp) rfl rfl rfl hc i [] s3 _ H3 E' I3 (stat fr3) st3 stop) fun r s4 ⟨hr, I4'⟩ => ?_
      subst hr
      obtain ⟨m, hn, _⟩ := I4'.loc
      refine hRR _ _ s4 H3 m hCle I4'.free (I.call' (ch := fp) I4'.os I4'.base I4'.hok I4'.bare fun b hb => ⟨(f2 b hb).2.2.2.1, (f2 b hb).2.1, (f2 b hb).2.2.2.2.1, (f2 b hb).2.2.2.2.2⟩) qn hn
    · refine thn (T.item (cxB X sc G2.objs.size (x :: caps.map (·.1)) s2 H2 fp) rfl rfl rfl hc i [] s3 _ H3 E' I3 (stat fr3) st3 go) fun r s4 ⟨u, hr, h4⟩ => ?_
      subst hr
      refine thn h4 fun _ s5 ⟨y, H5, I5, r5, y5, st5, fr5⟩ => ?_
      have I5' := I5.pinned (stat fr5) (T.obj _ _ st5)
      have hgn : PG (cxB X sc G2.objs.size (x :: caps.map (·.1)) s2 H2 fp) (.Name x px) (gName 0) := pg_name O.nd rfl (.inl (lookup_relabel_local O.loc)) (.inr (lookup_relabel_local O.loc))
      refine wpAny_mono (hgn _ s5 _ H5 y u (fun σ' H' => σ' = some y :: capsV caps σ ∧ H' = H5) I5' r5 ⟨rfl, rfl⟩) (fun _ s6 ⟨σ6, H6, I6, e6, e6'⟩ => ?_) (fun _ _ z => z.elim)
      subst e6 e6'
      refine wpAny_mono (he _ _ _ _ _ s6 _ H6 _ I6 (step y H6 y5)) (fun vz s7 ⟨z, H7, I7, r7, q7, m', hm', w7⟩ => ?_) (fun _ _ z => z.elim)
      refine wpAny_mono (mt_append (X := cxB X sc G2.objs.size (x :: caps.map (·.1)) s2 H2 fp) _ s7 _ H7 (.ref s2.heap.objs.size) [z] _ [vz] (fun _ H' => H' = upd H7 s2.heap.objs.size (.lst (ys ++ [z]))) I7 rfl (.cons r7 .nil)
        ⟨_, ys, z, rfl, rfl, q7, hlen, rfl⟩) (fun _ s8 ⟨_, H8, I8, _, e8⟩ => ?_) (fun _ _ z => z.elim)
      subst e8
      refine ⟨m', hm', i + 1, _, _, _, I8.unpinned, T.keep _ _ _ st5 fun b hb o e => (I8.pin (b, o) (List.mem_append_right _ (List.mem_append_right _ (mem_pinsAt hb e)))).1, fun b hb => ?_, w7⟩
      obtain ⟨o, e, d⟩ := T.obj _ _ st5 b hb
      exact (I8.pin (b, o) (List.mem_append_right _ (List.mem_append_right _ (mem_pinsAt hb e)))).2.1
  exact codeAny_compStart_list (loop _ rfl) (T.self _ 0 _ _ _ hst₁ (loop _ rfl))
/-- forgetting the block's names -/
theorem Inv.letGo {H' : Hp} {s' : Shared} {h' : Heap} (I : Inv X pins σ H' s') (hC : X.s₀.heap.objs.size ≤ C) (hn : H' C = none) (hL : C ≠ X.env.locals) (hcl : ∀ y c, X.env.cells.lookup y = some c → c ≠ C) (hpin : ∀ p ∈ X.pn ++ pins, p.1 ≠ C) (hs : Heap.SameBut C s'.heap h') :
    Inv X pins σ H' { s' with heap := h' } :=
  I.turned (t' := s'.toks) (fun b o hb e => hs.extBut b o hb e) hn hL (.inr hC) hcl hpin
/-- [elt for x in iter] as a value -/
theorem pe_comp {elt iter : Expr} {px pos : Pos} {wi : TI} {te : TE} (caps : List (Str × Nat)) (hc : X.calm = true) (hi : PI X (.Name x px) iter wi) (O : CompOk X sc x caps) (he : ∀ C s0 H0 fp, PE (cxB X sc C (x :: caps.map (·.1)) s0 H0 fp) elt te)
    (hs : ∀ x, foldedSetIterable iter X.env x = pure x := by intro _; rfl) : PE X (.ListComp elt [⟨.Name x px, iter, [], 0⟩] sc pos) (tComp caps wi te) := by
  intro pins s σ H Q I h
  rw [eval_ListComp]
  refine wpAny_comprehension_free (use := none) rfl hs (closure_is O.free) O.kind O.names (thn (hi pins s σ H _ I h) fun v s1 h1 => thn h1 fun itv s2 h2 => ?_)
  obtain ⟨it, fp, tn, J, H2, e, I2, T, st2, f2, hR⟩ := h2
  subst e
  refine comp_run (RR := fun acc C => compPost (model X.prog X.w) X.A X.xe none (EP X pins σ Q) acc C) hc I2 T st2 f2 O he hR ?_
  intro D C s' H' m hC hn I' q hns
  have hlt : ∀ b, b < s2.heap.objs.size → b ≠ C := fun b hb => Nat.ne_of_lt (Nat.lt_of_lt_of_le hb hC)
  refine ⟨m, hns, fun h' hs' => ⟨.ref D, H', I'.letGo (Nat.le_trans I2.sz hC) hn (hlt _ I2.lt).symm (fun y c hy => ?_) (fun p hp => ?_) hs', rfl, q⟩⟩
  · obtain ⟨_, o, ho, _⟩ := I2.cell y c hy
    exact hlt _ (Heap.lt_size ho)
  · exact hlt _ (Heap.lt_size (I2.pin p hp).1)
/-- y = [elt for x in iter] -/
theorem ps_comp {elt iter : Expr} {px py pos spos : Pos} {wi : TI} {te : TE} {i : Nat} {y : Str} (caps : List (Str × Nat)) (hN : X.N.Nodup) (hi' : X.N[i]? = some y) (hy : Loc X.env.scope y) (hc : X.calm = true) (hi : PI X (.Name x px) iter wi) (O : CompOk X sc x caps) (he : ∀ C s0 H0 fp, PE (cxB X sc C (x :: caps.map (·.1)) s0 H0 fp) elt te)
    (hsw : swapsWith (.ListComp elt [⟨.Name x px, iter, [], 0⟩] sc pos) (some (.Name y py)) spos.line X.env = pure true := by rfl)
    (hs : ∀ x, foldedSetIterable iter X.env x = pure x := by intro _; rfl) (hf : X.fn y = true ∨ X.env.scope.names.lookup y = some .local := by first | exact .inl rfl | exact .inr rfl) :
    PS X (.Assign [.Name y py] (.ListComp elt [⟨.Name x px, iter, [], 0⟩] sc pos) spos) (tAsg (tComp caps wi te) (gName i)) := by
  intro pins s σ H D0 I h
  rw [exec_Assign_Name_used _ _ _ _ hsw]
  refine wpAny_bind (wpAny_standAt (wpAny_bind ?_))
  show wpAny _ X.A (do let _ ← comprehension (.ListComp elt [⟨.Name x px, iter, [], 0⟩] sc pos) sc X.env _ (newList []) false (eval iter X.env) (some (assign (.Name y py) X.env))) _ _ s
  refine wpAny_bind (wpAny_mono (wpAny_comprehension_free (use := some (assign (.Name y py) X.env)) (Q := fun _ s' => SP X pins D0 .next s') rfl hs (closure_is O.free) O.kind O.names
    (thn (hi pins s σ H _ I h) fun v s1 h1 => thn h1 fun itv s2 h2 => ?_)) (fun _ s' hq => wpAny_pure (wpAny_pure hq)) fun _ _ e => e)
  obtain ⟨it, fp, tn, J, H2, e, I2, T, st2, f2, hR⟩ := h2
  subst e
  refine comp_run (RR := fun acc C => compPost (model X.prog X.w) X.A X.xe (some (assign (.Name y py) X.env)) (fun _ s' => SP X pins D0 .next s') acc C) (Q := fun v H1 => gName i v σ H1 D0.nx) hc I2 T st2 f2 O he hR ?_
  intro D C s' H' m hC hn I' q hns
  have hlt : ∀ b, b < s2.heap.objs.size → b ≠ C := fun b hb => Nat.ne_of_lt (Nat.lt_of_lt_of_le hb hC)
  have hcl : ∀ z c, X.env.cells.lookup z = some c → c ≠ C := fun z c hz => by
    obtain ⟨_, o, ho, _⟩ := I2.cell z c hz
    exact hlt _ (Heap.lt_size ho)
  show wpAny _ X.A (assign (.Name y py) X.env (.ref D)) _ _ _
  refine wpAny_assign_Name (store_ok2 (v := .ref D) I' hN hi' hy rfl (fun s6 I6 ⟨a, hsb, ha⟩ => ?_) hf)
  have haC : C ≠ a := by
    rcases ha with ha | ha
    · rw [ha]; exact (hlt _ I2.lt).symm
    · exact (hcl y a ha).symm
  refine ⟨m, hns.sameBut hsb haC, fun h' hs' => ⟨_, H', I6.letGo (Nat.le_trans I2.sz hC) hn (hlt _ I2.lt).symm hcl (fun p hp => hlt _ (Heap.lt_size (I2.pin p hp).1)) hs', q⟩⟩
end
/-! ### the forms one uses: the element leaves the heap as it is -/
/-- over a list of the right length, each item by its own value -/
theorem comp_list {K : PySem.W.Frag} {a D : Addr} {xs : List V} {te : TE} {cs : St} {H1 : Hp} {Q : Hp → Prop} (f : Nat → V) (hz : xs.length ≤ sizeLine) (hD : H1 D = none) (hl : ∀ H, Same H1 H → SqL K H a xs)
    (step : ∀ i x H, xs[i]? = some x → Same H1 H → ∀ R : VK, R (f i) H → te (some x :: cs) H R) (q : Q (upd H1 D (.lst ((List.range xs.length).map f)))) :
    ∃ W : Nat → Nat → Hp → List V → Prop, (∃ m, W 0 m (upd H1 D (.lst [])) []) ∧
      ∀ i m H2 ys, W i m H2 ys → H2 D = some (.lst ys) ∧ (((Itl K a).stop i H2 ∧ Q H2) ∨ ((Itl K a).go i H2 ∧ ys.length < sizeLine ∧ ∀ x H3, (Itl K a).yld i H2 x H3 →
        te (some x :: cs) H3 fun y H4 => H4 D = some (.lst ys) ∧ ∃ m', m' < m ∧ W (i + 1) m' (upd H4 D (.lst (ys ++ [y]))) (ys ++ [y]))) := by
  refine ⟨fun i m H2 ys => m + i = xs.length ∧ ys = (List.range i).map f ∧ H2 = upd H1 D (.lst ys), ⟨xs.length, by omega, rfl, rfl⟩, ?_⟩
  rintro i m H2 ys ⟨hm, rfl, rfl⟩
  have sm : ∀ zs : List V, Same H1 (upd H1 D (.lst zs)) := fun zs => Same.upd hD
  refine ⟨upd_same, ?_⟩
  by_cases hi : i = xs.length
  · subst hi
    exact .inl ⟨⟨xs, hl _ (sm _), Nat.le_refl _⟩, q⟩
  · have hlt : i < xs.length := by omega
    refine .inr ⟨⟨xs, xs[i], hl _ (sm _), List.getElem?_eq_getElem hlt⟩, by rw [List.length_map, List.length_range]; omega, ?_⟩
    rintro x H3 ⟨rfl, hy⟩
    refine step i x _ (hy xs (hl _ (sm _))) (sm _) _ ⟨upd_same, m - 1, by omega, by omega, ?_, ?_⟩
    · rw [List.range_succ, List.map_append]; rfl
    · rw [upd_upd]
/-- over a range -/
theorem comp_range {lo : Int} {n : Nat} {D : Addr} {te : TE} {cs : St} {H1 : Hp} {Q : Hp → Prop} (f : Nat → V) (hz : n ≤ sizeLine) (hD : H1 D = none)
    (step : ∀ i H, i < n → Same H1 H → ∀ R : VK, R (f i) H → te (some (.int (lo + i)) :: cs) H R) (q : Q (upd H1 D (.lst ((List.range n).map f)))) :
    ∃ W : Nat → Nat → Hp → List V → Prop, (∃ m, W 0 m (upd H1 D (.lst [])) []) ∧
      ∀ i m H2 ys, W i m H2 ys → H2 D = some (.lst ys) ∧ (((Itr lo n).stop i H2 ∧ Q H2) ∨ ((Itr lo n).go i H2 ∧ ys.length < sizeLine ∧ ∀ x H3, (Itr lo n).yld i H2 x H3 →
        te (some x :: cs) H3 fun y H4 => H4 D = some (.lst ys) ∧ ∃ m', m' < m ∧ W (i + 1) m' (upd H4 D (.lst (ys ++ [y]))) (ys ++ [y]))) := by
  refine ⟨fun i m H2 ys => m + i = n ∧ ys = (List.range i).map f ∧ H2 = upd H1 D (.lst ys), ⟨n, by omega, rfl, rfl⟩, ?_⟩
  rintro i m H2 ys ⟨hm, rfl, rfl⟩
  refine ⟨upd_same, ?_⟩
  by_cases hi : i = n
  · subst hi
    exact .inl ⟨Nat.le_refl _, q⟩
  · have hlt : i < n := by omega
    refine .inr ⟨hlt, by rw [List.length_map, List.length_range]; omega, ?_⟩
    rintro x H3 ⟨rfl, rfl⟩
    refine step i _ hlt (Same.upd hD) _ ⟨upd_same, m - 1, by omega, by omega, ?_, ?_⟩
    · rw [List.range_succ, List.map_append]; rfl
    · rw [upd_upd]
/-! ### a statement, then the rest, with a word between -/
def tMid (t u : TS) : TS := fun D σ H => ∃ P : St → Hp → Prop, t { D with nx := P } σ H ∧ ∀ σ' H', P σ' H' → u D σ' H'
section
variable {X : Cx} {st : Stmt} {rest : List Stmt} {t u : TS}
theorem pss_mid (h1 : PS X st t) (h2 : PSs X rest u) : PSs X (st :: rest) (tMid t u) := by
  intro pins s σ H D I ⟨P, h, hP⟩
  refine wpAny_execs_cons (thn (h1 pins s σ H { D with nx := P } I h) fun f s1 q => ?_)
  cases f with
  | next =>
    obtain ⟨σ', H', I', q⟩ := q
    exact h2 pins s1 σ' H' D I' (hP σ' H' q)
  | ret v => exact q
  | brk => exact q
  | cont => exact q
end
end L2

set_option Elab.async false
set_option maxRecDepth 100000
namespace L2
open PySem PySem.Spec PyProof.Rows
/-! ### max, min of a list of ints -/
theorem vals_pairs : ∀ {ns : List Int} {us : List Value}, Vals (ns.map V.int) us → ∃ ps : List (Int × Tok), us = ps.map (fun p => Value.int p.1 p.2) ∧ ps.map (·.1) = ns
  | [], _, .nil => ⟨[], rfl, rfl⟩
  | n :: ns, _, .cons r t => by
    obtain ⟨k, rfl⟩ := (show ∃ k, _ = Value.int n k from r)
    obtain ⟨ps, rfl, e⟩ := vals_pairs t
    exact ⟨(n, k) :: ps, rfl, by rw [List.map_cons, e]⟩
theorem best_gt (val : Nat → Int) : ∀ (k i : Nat), i ≤ k → val i ≤ val (argBest (fun i j => decide (val i > val j)) k) ∧ argBest (fun i j => decide (val i > val j)) k ≤ k
  | 0, i, h => by
    have : i = 0 := by omega
    subst this
    exact ⟨Int.le_refl _, Nat.le_refl _⟩
  | k + 1, i, h => by
    show val i ≤ val (if decide (val (k + 1) > val (argBest (fun i j => decide (val i > val j)) k)) = true then k + 1 else argBest (fun i j => decide (val i > val j)) k) ∧
      (if decide (val (k + 1) > val (argBest (fun i j => decide (val i > val j)) k)) = true then k + 1 else argBest (fun i j => decide (val i > val j)) k) ≤ k + 1
    have h0 := best_gt val k k (Nat.le_refl _)
    split
    · rename_i c
      have c := of_decide_eq_true c
      refine ⟨?_, Nat.le_refl _⟩
      by_cases e : i = k + 1
      · rw [e]; exact Int.le_refl _
      · have := (best_gt val k i (by omega)).1; omega
    · rename_i c
      have c : ¬ val (k + 1) > val (argBest (fun i j => decide (val i > val j)) k) := fun z => c (decide_eq_true z)
      refine ⟨?_, by omega⟩
      by_cases e : i = k + 1
      · rw [e]; omega
      · exact (best_gt val k i (by omega)).1
theorem best_lt (val : Nat → Int) : ∀ (k i : Nat), i ≤ k → val (argBest (fun i j => decide (val i < val j)) k) ≤ val i ∧ argBest (fun i j => decide (val i < val j)) k ≤ k
  | 0, i, h => by
    have : i = 0 := by omega
    subst this
    exact ⟨Int.le_refl _, Nat.le_refl _⟩
  | k + 1, i, h => by
    show val (if decide (val (k + 1) < val (argBest (fun i j => decide (val i < val j)) k)) = true then k + 1 else argBest (fun i j => decide (val i < val j)) k) ≤ val i ∧
      (if decide (val (k + 1) < val (argBest (fun i j => decide (val i < val j)) k)) = true then k + 1 else argBest (fun i j => decide (val i < val j)) k) ≤ k + 1
    have h0 := best_lt val k k (Nat.le_refl _)
    split
    · rename_i c
      have c := of_decide_eq_true c
      refine ⟨?_, Nat.le_refl _⟩
      by_cases e : i = k + 1
      · rw [e]; exact Int.le_refl _
      · have := (best_lt val k i (by omega)).1; omega
    · rename_i c
      have c : ¬ val (k + 1) < val (argBest (fun i j => decide (val i < val j)) k) := fun z => c (decide_eq_true z)
      refine ⟨?_, by omega⟩
      by_cases e : i = k + 1
      · rw [e]; omega
      · exact (best_lt val k i (by omega)).1
theorem numAt_get {ps : List (Int × Tok)} {i : Nat} {n : Int} (h : (ps.map (·.1))[i]? = some n) : numAt ps.toArray i = n := by
  unfold numAt
  rw [List.getElem?_map] at h
  rw [List.getElem?_toArray, h]; rfl
theorem intItems_list (ps : List (Int × Tok)) : intItems ps.toArray = (ps.map (fun p => Value.int p.1 p.2)).toArray := by
  unfold intItems
  rw [List.map_toArray]
section
variable {X : Cx}
theorem call_maxL (hc : X.calm = true) : CallR X (.builtin "max") (fun xs H Q => ∃ (p : Addr) (ns : List Int), xs = [.ref p] ∧ SqL X.K H p (ns.map V.int) ∧ ns ≠ [] ∧ ∀ z, z ∈ ns → (∀ d, d ∈ ns → d ≤ z) → Q (.int z) H) := by
  intro pins s σ H xs us Q I r h
  obtain ⟨p, ns, rfl, hS, hne, q⟩ := h
  obtain ⟨u, rfl, rx⟩ := vals1 r
  cases rx
  obtain ⟨its, rv, pl, hz⟩ := I.list hS
  obtain ⟨ps, rfl, e⟩ := vals_pairs rv
  have hl := pl.isList
  rw [← intItems_list] at hl
  have hlen : ps.length = ns.length := by rw [← e, List.length_map]
  have hpos : 0 < ns.length := List.length_pos_iff.mpr hne
  refine max_intList (I.ok.hd hc) hl (by rw [List.size_toArray]; omega) fun v h' tk hv k => ?_
  obtain ⟨t, rfl⟩ := intItems_at hv
  have hb := best_gt (numAt ps.toArray) (ps.toArray.size - 1)
  rw [List.size_toArray] at hb
  have hi := (hb 0 (Nat.zero_le _)).2
  rw [List.size_toArray]
  generalize argBest (fun i j => decide (numAt ps.toArray i > numAt ps.toArray j)) (ps.length - 1) = j at hb hi ⊢
  have hj : j < ns.length := by omega
  have ej : numAt ps.toArray j = ns[j] := numAt_get (by rw [e]; exact List.getElem?_eq_getElem hj)
  refine ⟨.int (numAt ps.toArray j), H, I.kept k, ⟨_, rfl⟩, q _ (by rw [ej]; exact List.getElem_mem hj) fun d hd => ?_⟩
  obtain ⟨i, hi', rfl⟩ := List.getElem_of_mem hd
  have := (hb i (by omega)).1
  rw [numAt_get (i := i) (by rw [e]; exact List.getElem?_eq_getElem hi')] at this
  exact this
theorem call_minL (hc : X.calm = true) : CallR X (.builtin "min") (fun xs H Q => ∃ (p : Addr) (ns : List Int), xs = [.ref p] ∧ SqL X.K H p (ns.map V.int) ∧ ns ≠ [] ∧ ∀ z, z ∈ ns → (∀ d, d ∈ ns → z ≤ d) → Q (.int z) H) := by
  intro pins s σ H xs us Q I r h
  obtain ⟨p, ns, rfl, hS, hne, q⟩ := h
  obtain ⟨u, rfl, rx⟩ := vals1 r
  cases rx
  obtain ⟨its, rv, pl, hz⟩ := I.list hS
  obtain ⟨ps, rfl, e⟩ := vals_pairs rv
  have hl := pl.isList
  rw [← intItems_list] at hl
  have hlen : ps.length = ns.length := by rw [← e, List.length_map]
  have hpos : 0 < ns.length := List.length_pos_iff.mpr hne
  refine min_intList (I.ok.hd hc) hl (by rw [List.size_toArray]; omega) fun v h' tk hv k => ?_
  obtain ⟨t, rfl⟩ := intItems_at hv
  have hb := best_lt (numAt ps.toArray) (ps.toArray.size - 1)
  rw [List.size_toArray] at hb
  have hi := (hb 0 (Nat.zero_le _)).2
  rw [List.size_toArray]
  generalize argBest (fun i j => decide (numAt ps.toArray i < numAt ps.toArray j)) (ps.length - 1) = j at hb hi ⊢
  have hj : j < ns.length := by omega
  have ej : numAt ps.toArray j = ns[j] := numAt_get (by rw [e]; exact List.getElem?_eq_getElem hj)
  refine ⟨.int (numAt ps.toArray j), H, I.kept k, ⟨_, rfl⟩, q _ (by rw [ej]; exact List.getElem_mem hj) fun d hd => ?_⟩
  obtain ⟨i, hi', rfl⟩ := List.getElem_of_mem hd
  have := (hb i (by omega)).1
  rw [numAt_get (i := i) (by rw [e]; exact List.getElem?_eq_getElem hi')] at this
  exact this
end
end L2
namespace L2
open PySem PySem.Spec PyProof.Rows
section
variable {X : Cx} {K : PySem.W.Frag}
theorem ix_listK (h : X.K = K) : IxR X (rIxL K) := h ▸ ix_list
theorem ix_tupK (h : X.K = K) : IxR X (rIxT K) := h ▸ ix_tup
theorem sl_listK (h : X.K = K) : SlR X (rSlL K) := h ▸ sl_list
theorem call_len_seqK (h : X.K = K) : CallR X (.builtin "len") (fun xs H Q => ∃ p ys, xs = [.ref p] ∧ (SqL K H p ys ∨ SqT K H p ys) ∧ Q (.int ys.length) H) := h ▸ call_len_seq
end
end L2

set_option Elab.async false
set_option maxRecDepth 100000
namespace L2
open PySem PySem.Spec PyProof.Rows
/-! ### arguments, item by item, by the make of the item: no search for a star -/
section
variable {X : Cx} {e : Expr} {es : List Expr} {te : TE} {t : TA}
theorem pa_k {c j p} (ha : PE X (.Constant c j p) te) (hr : PA X es t) : PA X (.Constant c j p :: es) (tCons te t) := pa_cons ha hr rfl
theorem pa_n {c p} (ha : PE X (.Name c p) te) (hr : PA X es t) : PA X (.Name c p :: es) (tCons te t) := pa_cons ha hr rfl
theorem pa_b {l o r p} (ha : PE X (.BinOp l o r p) te) (hr : PA X es t) : PA X (.BinOp l o r p :: es) (tCons te t) := pa_cons ha hr rfl
theorem pa_u {o r p} (ha : PE X (.UnaryOp o r p) te) (hr : PA X es t) : PA X (.UnaryOp o r p :: es) (tCons te t) := pa_cons ha hr rfl
theorem pa_c {f l o p} (ha : PE X (.Call f l o p) te) (hr : PA X es t) : PA X (.Call f l o p :: es) (tCons te t) := pa_cons ha hr rfl
theorem pa_s {v s p} (ha : PE X (.Subscript v s p) te) (hr : PA X es t) : PA X (.Subscript v s p :: es) (tCons te t) := pa_cons ha hr rfl
theorem pa_t {v s p} (ha : PE X (.Tuple v s p) te) (hr : PA X es t) : PA X (.Tuple v s p :: es) (tCons te t) := pa_cons ha hr rfl
theorem pa_l {v p} (ha : PE X (.List v p) te) (hr : PA X es t) : PA X (.List v p :: es) (tCons te t) := pa_cons ha hr rfl
theorem pa_m {a b c p} (ha : PE X (.Compare a b c p) te) (hr : PA X es t) : PA X (.Compare a b c p :: es) (tCons te t) := pa_cons ha hr rfl
end
/-! ### a subscript that is no slice, by its make -/
theorem px_k {i : Int} {j p} : PlainIx (.Constant (.int i) j p) := fun _ _ => rfl
theorem px_n {i p} : PlainIx (.Name i p) := fun _ _ => rfl
theorem px_b {l o r p} : PlainIx (.BinOp l o r p) := fun _ _ => rfl
theorem px_u {o r p} : PlainIx (.UnaryOp o r p) := fun _ _ => rfl
theorem px_c {f l o p} : PlainIx (.Call f l o p) := fun _ _ => rfl
theorem px_s {v s p} : PlainIx (.Subscript v s p) := fun _ _ => rfl
section
variable {X : Cx}
/-- is True, is False of bools -/
theorem op_isB : OpR X (compareOp .Is) (fun x y H Q => ∃ a b, x = .bl a ∧ y = .bl b ∧ Q (.bl (a == b)) H) := by
  intro pins s σ H x y v u Q I rx ry h
  obtain ⟨a, b, rfl, rfl, q⟩ := h
  cases (show v = Value.bool a from rx)
  cases (show u = Value.bool b from ry)
  refine wpAny_is_plain rfl ⟨.bl (a == b), H, I, ?_, q⟩
  show Value.bool (Value.bool a == Value.bool b) = Value.bool (a == b)
  cases a <;> cases b <;> rfl
/-! ### list(range(n)) -/
theorem call_rng1 : CallR X (.type "range") (fun xs H Q => ∃ j : Int, xs = [.int j] ∧ ∀ l, H l = none → Q (.ref l) (upd H l (.rng 0 j))) := by
  intro pins s σ H xs us Q I r h
  obtain ⟨j, rfl, q⟩ := h
  obtain ⟨u, rfl, rx⟩ := vals1 r
  obtain ⟨t, rfl⟩ := (show ∃ t, u = Value.int j t from rx)
  refine call_range_1 ⟨.ref s.heap.objs.size, _, I.laid (fun b o e => Heap.get?_push_of_some _ e) (Nat.le_refl _) ?_, rfl, q _ (I.hok.fresh (Nat.le_refl _))⟩
  exact ⟨_, _, _, Heap.get?_push_size _ rfl⟩
theorem vals_items {n : Nat} {lo : Int} : ∀ {us : List Value}, us.length = n → (∀ (j : Nat) (v : Value), us[j]? = some v → ∃ t, v = Value.int (lo + (j : Int) * 1) t) → Vals ((List.range n).map fun (i : Nat) => V.int (lo + (i : Int))) us := by
  intro us hl h
  have key : ∀ (us : List Value) (k : Nat), (∀ (j : Nat) (v : Value), us[j]? = some v → ∃ t, v = Value.int (lo + ((k + j : Nat) : Int)) t) → Vals ((List.range' k us.length).map fun (i : Nat) => V.int (lo + (i : Int))) us := by
    intro us
    induction us with
    | nil => intro k _; exact .nil
    | cons u us ih =>
      intro k h
      rw [List.length_cons, List.range'_succ, List.map_cons]
      refine .cons ?_ (ih (k + 1) fun j v e => ?_)
      · obtain ⟨t, e⟩ := h 0 u rfl
        exact ⟨t, by rw [e]; rfl⟩
      · obtain ⟨t, e⟩ := h (j + 1) v (by simpa using e)
        exact ⟨t, by rw [e, show k + (j + 1) = k + 1 + j by omega]⟩
  have := key us 0 fun j v e => by
    obtain ⟨t, e⟩ := h j v e
    exact ⟨t, by rw [e, Int.mul_one, Nat.zero_add]⟩
  rw [hl] at this
  rw [List.range_eq_range']
  exact this
theorem call_list_rng (hc : X.calm = true) : CallR X (.type "list") (fun xs H Q => ∃ (p : Addr) (n : Int), xs = [.ref p] ∧ H p = some (.rng 0 n) ∧ 0 ≤ n ∧ n ≤ 100000 ∧ ∀ l, H l = none → Q (.ref l) (upd H l (.lst ((List.range n.toNat).map fun (i : Nat) => V.int (0 + (i : Int)))))) := by
  intro pins s σ H xs us Q I r h
  obtain ⟨p, n, rfl, hp, n0, n1, q⟩ := h
  obtain ⟨u, rfl, rx⟩ := vals1 r
  cases rx
  obtain ⟨t, u, v, e⟩ := (show ∃ t u v, s.heap.get? p = some { cls := .type "range", data := .fields #[.int 0 t, .int n u, .int 1 v] } from I.hok p _ hp)
  refine call_list_range (n := n.toNat) (I.ok.hd hc) e (small_one (by decide) (by decide) (by omega) (by omega)) ?_ (by omega) fun h' tk acc' c' kp hS hacc => ?_
  · rw [rangeSize_one]; split <;> omega
  obtain ⟨hsz, hit⟩ := hacc
  have hv : Vals ((List.range n.toNat).map fun (i : Nat) => V.int (0 + (i : Int))) acc'.toList := vals_items (by rw [Array.length_toList]; exact hsz) fun j v e => hit j v (by rw [← e, Array.getElem?_toList])
  refine ⟨.ref s.heap.objs.size, _, I.laid kp (Nat.le_refl _) ?_, rfl, q _ (I.hok.fresh (Nat.le_refl _))⟩
  refine ⟨?_, acc'.toList, c', hv, by simpa using hS⟩
  rw [List.length_map, List.length_range]
  exact Nat.le_of_lt (Nat.lt_of_le_of_lt (show n.toNat ≤ 100000 by omega) (by decide))
end
end L2

set_option Elab.async false
set_option maxRecDepth 100000
namespace My
open PySem L2
/-! the promises of the defs -/
def spCheckBase : Sp := fun vs H Q _ => ∃ b : Int, vs = [.int b] ∧ 2 ≤ b ∧ b ≤ 36 ∧ Q .non H
def spCheckFraction : Sp := fun vs H Q _ => ∃ t q : Int, vs = [.int t, .int q] ∧ 0 ≤ t ∧ t ≤ 1000000000000 ∧ 1 ≤ q ∧ q ≤ 2000 ∧ Q .non H
def spCell (K : PySem.W.Frag) : Sp := fun vs H Q _ => ∃ (a : Addr) (ns : List Int) (k : Int), vs = [.ref a, .int k] ∧ SqL K H a (ns.map V.int) ∧ 0 ≤ k ∧ ∀ z : Int, z = ns.getD k.toNat 0 → Q (.int z) H
def spWhole : Sp := fun vs H Q _ => ∃ i : Int, vs = [.int i] ∧ Q (.bl true) H
def spFractionBy (K : PySem.W.Frag) : Sp := fun vs H Q _ => ∃ (a : Addr) (ns : List Int) (k : Int), vs = [.ref a, .int k] ∧ SqL K H a (ns.map V.int) ∧ 0 ≤ k ∧
  ∀ (t q : Int) (p : Addr), 0 ≤ t → t ≤ 1000000000000 → 1 ≤ q → q ≤ 2000 → H p = none → Q (.ref p) (upd H p (.tup [.int t, .int q]))
/-- a new writing at p, its lists new and apart -/
structure NewWr (H H' : Hp) (p la lg : Addr) (w : Int) (a g : List Int) : Prop where
  sm : Same H H'
  t : H' p = some (.tup [.int w, .ref la, .ref lg])
  a : H' la = some (.lst (a.map V.int))
  g : H' lg = some (.lst (g.map V.int))
  np : H p = none
  na : H la = none
  ng : H lg = none
  ne : la ≠ lg
theorem NewWr.wr {K : PySem.W.Frag} {H H' : Hp} {p la lg : Addr} {w : Int} {a g : List Int} (h : NewWr H H' p la lg w a g) : WrAt K H' p la lg w a g := ⟨.of h.t, .of h.a, .of h.g⟩
/-- written, and the law's own long division -/
def spDivided : Sp := fun vs H Q _ => ∃ b t q : Int, vs = [.int b, .int t, .int q] ∧ 2 ≤ b ∧ b ≤ 36 ∧ 0 ≤ t ∧ t ≤ 1000000000000 ∧ 1 ≤ q ∧ q ≤ 2000 ∧
  ∀ (w : Int) (a g : List Int) (p la lg : Addr) (H' : Hp), RF.DivIs b t q w a g → NewWr H H' p la lg w a g → Q (.ref p) H'
def spIsWriting (K : PySem.W.Frag) : Sp := fun vs H Q _ => ∃ (p la lg : Addr) (w : Int) (a g : List Int) (p' la' lg' : Addr) (w' : Int) (a' g' : List Int), vs = [.ref p, .ref p'] ∧ H p = some (.tup [.int w, .ref la, .ref lg]) ∧ H la = some (.lst (a.map V.int)) ∧ H lg = some (.lst (g.map V.int)) ∧
  WrAt K H p' la' lg' w' a' g' ∧ ∀ H', Same H H' → Q (.bl (decide (w = w' ∧ a = a' ∧ g = g'))) H'
/-- law's: a list of at most 63 ints is handed in, True comes out -/
def spLaw (K : PySem.W.Frag) : Sp := fun vs H Q _ => ∃ (a : Addr) (ns : List Int), vs = [.ref a] ∧ SqL K H a (ns.map V.int) ∧ ns.length ≤ 63 ∧ ∀ H', Q (.bl true) H'
/-! small facts -/
theorem atI_int {ns : List Int} {k : Int} (h0 : 0 ≤ k) (h1 : k < ns.length) : atI (ns.map V.int) k = some (.int (ns.getD k.toNat 0)) := by
  obtain ⟨j, rfl⟩ : ∃ j : Nat, k = (j : Int) := ⟨k.toNat, by omega⟩
  rw [Int.toNat_natCast]
  apply atI_nat
  have hl : j < ns.length := by omega
  simp [List.getD_eq_getElem?_getD, List.getElem?_eq_getElem hl]
theorem getD_out {ns : List Int} {k : Int} (h1 : ¬ k < ns.length) : ns.getD k.toNat 0 = 0 := by
  have hl : ns.length ≤ k.toNat := by omega
  simp [List.getD_eq_getElem?_getD, List.getElem?_eq_none hl]
theorem pow12 : (10 : Int) ^ (12 : Int).toNat = 1000000000000 := by decide
/-! the dict of rests -/
open RF in
def seen (b q r : Int) (n : Nat) : List (Key × V) := (List.range n).map fun i => (Sum.inl (rst b q r i), V.int (i : Int))
open RF in
theorem seen_none {b q r : Int} {n : Nat} {x : Int} (h : ∀ i, i < n → rst b q r i ≠ x) : valV (seen b q r n) (Sum.inl x : Key) = none := by
  unfold valV
  rw [Option.map_eq_none_iff, List.find?_eq_none]
  intro p hp
  obtain ⟨i, hi, rfl⟩ := List.mem_map.mp hp
  have := h i (List.mem_range.mp hi)
  simp
  exact this
open RF in
theorem seen_some {b q r : Int} {n k : Nat} {x : Int} (hk : k < n) (e : rst b q r k = x) (h : ∀ i j, i < j → j < n → rst b q r i ≠ rst b q r j) : valV (seen b q r n) (Sum.inl x : Key) = some (V.int (k : Int)) := by
  unfold valV
  have : (seen b q r n).find? (fun kv => decide (kv.1 = (Sum.inl x : Key))) = some (Sum.inl (rst b q r k), V.int (k : Int)) := by
    rw [List.find?_eq_some_iff_getElem]
    refine ⟨by simp [e], k, by simpa [seen] using hk, by simp [seen], fun j hj => ?_⟩
    have := h j k hj hk
    rw [e] at this
    simp [seen]
    exact this
  rw [this]; rfl
open RF in
theorem seen_put {b q r : Int} {n : Nat} (F : ∀ i, i < n → rst b q r i ≠ rst b q r n) : putK (seen b q r n) (Sum.inl (rst b q r n) : Key) (V.int (n : Int)) = seen b q r (n + 1) := by
  rw [putK_new _ (seen_none F)]
  simp [seen, List.range_succ]
theorem seen_length {b q r : Int} {n : Nat} : (seen b q r n).length = n := by simp [seen]
open RF in
/-- a rest that was met stands in the dict -/
theorem seen_or {b q r : Int} {n : Nat} (x : Int) : (∀ i, i < n → rst b q r i ≠ x) ∨ ∃ k, k < n ∧ rst b q r k = x := by
  by_cases h : ∃ k, k < n ∧ rst b q r k = x
  · exact .inr h
  · exact .inl fun i hi e => h ⟨i, hi, e⟩
theorem cut_take {ns : List Int} {k : Nat} (h : k ≤ ns.length) : cutV (ns.map V.int) none (some (k : Int)) = (ns.take k).map V.int := by
  rw [map_int_cut, HT.sIx_none, HT.sIx_nat, List.drop_zero, Nat.sub_zero, Nat.min_eq_left h]
theorem cut_drop {ns : List Int} {k : Nat} (h : k ≤ ns.length) : cutV (ns.map V.int) (some (k : Int)) none = (ns.drop k).map V.int := by
  rw [map_int_cut, HT.sIx_none, HT.sIx_nat, Nat.min_eq_left h]
  congr 1
  apply List.take_of_length_le
  rw [List.length_drop]; omega
theorem size2000 {n : Nat} (h : n ≤ 100000) : n < sizeLine := Nat.lt_of_le_of_lt h (by decide)
end My
namespace My
open PySem L2
theorem NewWr.mk1 {H H1 : Hp} {p la lg : Addr} {w : Int} {a g : List Int} (sm : Same H H1) (ha : H1 la = some (.lst (a.map V.int))) (na : H la = none) (hg : H1 lg = none) (hp : upd H1 lg (.lst (g.map V.int)) p = none) :
    NewWr H (upd (upd H1 lg (.lst (g.map V.int))) p (.tup [.int w, .ref la, .ref lg])) p la lg w a g := by
  have npg : p ≠ lg := fun e => by rw [e, upd_same] at hp; cases hp
  have hp1 : H1 p = none := by rw [upd_ne npg] at hp; exact hp
  have nla : la ≠ lg := ne_of_none ha hg
  have npl : la ≠ p := ne_of_none ha hp1
  refine ⟨(sm.trans (Same.upd hg)).trans (Same.upd hp), upd_same, ?_, ?_, sm.free hp1, na, sm.free hg, nla⟩
  · rw [upd_ne npl, upd_ne nla]; exact ha
  · rw [upd_ne npg.symm]; exact upd_same
theorem NewWr.mk2 {H H1 : Hp} {p la lg : Addr} {w : Int} {a g : List Int} (sm : Same H H1) (ha : H1 la = none) (hg : upd H1 la (.lst (a.map V.int)) lg = none) (hp : upd (upd H1 la (.lst (a.map V.int))) lg (.lst (g.map V.int)) p = none) :
    NewWr H (upd (upd (upd H1 la (.lst (a.map V.int))) lg (.lst (g.map V.int))) p (.tup [.int w, .ref la, .ref lg])) p la lg w a g :=
  NewWr.mk1 (sm.trans (Same.upd ha)) upd_same (sm.free ha) hg hp
end My
namespace My
open PySem L2
/-- a writing that is none of the refused ones -/
structure GoodW (b w : Int) (a g : List Int) : Prop where
  w0 : 0 ≤ w
  w1 : w ≤ 1000000000000
  fa : RF.Figs b a
  fg : RF.Figs b g
  la : a.length ≤ 4000
  lg : g.length ≤ 4000
def spCheckFigures (K : PySem.W.Frag) : Sp := fun vs H Q _ => ∃ (b : Int) (l : Addr) (ns : List Int), vs = [.int b, .ref l] ∧ SqL K H l (ns.map V.int) ∧ ns.length ≤ 4000 ∧ RF.Figs b ns ∧ Q .non H
def spCheckWriting (K : PySem.W.Frag) : Sp := fun vs H Q _ => ∃ (b : Int) (p la lg : Addr) (x : Int) (a g : List Int), vs = [.int b, .ref p] ∧ WrAt K H p la lg x a g ∧ GoodW b x a g ∧ Q .non H
def spNumberOf (K : PySem.W.Frag) : Sp := fun vs H Q _ => ∃ (b : Int) (l : Addr) (ns : List Int), vs = [.int b, .ref l] ∧ SqL K H l (ns.map V.int) ∧ 2 ≤ b ∧ b ≤ 36 ∧ Q (.int (RF.num b ns)) H
def spPower : Sp := fun vs H Q _ => ∃ (b n : Int), vs = [.int b, .int n] ∧ 2 ≤ b ∧ b ≤ 36 ∧ 0 ≤ n ∧ n ≤ 100000 ∧ Q (.int (b ^ n.toNat)) H
def spCommon : Sp := fun vs H Q _ => ∃ (x y : Int), vs = [.int x, .int y] ∧ 0 ≤ x ∧ 0 ≤ y ∧ Q (.int (Int.gcd x y : Nat)) H
/-- the divisions of a worth are short ones -/
def DivOk (N B : Int) : Prop := Builtin.divisionGoesByPylong B (Int.gcd N B : Nat) = false ∧ Builtin.divisionGoesByPylong N (Int.gcd N B : Nat) = false
def spWorth (K : PySem.W.Frag) : Sp := fun vs H Q _ => ∃ (b : Int) (p la lg : Addr) (x : Int) (a g : List Int), vs = [.int b, .ref p] ∧ 2 ≤ b ∧ b ≤ 36 ∧ WrAt K H p la lg x a g ∧ GoodW b x a g ∧
  DivOk (RF.num b a * RF.rM b g + RF.num b g) (RF.wB b a g) ∧
  ∀ (p' : Addr) (H' : Hp), Same H H' → H p' = none → H' p' = some (.tup [.int (RF.low (RF.wT b x a g) (RF.wB b a g)).1, .int (RF.low (RF.wT b x a g) (RF.wB b a g)).2]) → Q (.ref p') H'
def spLowest : Sp := fun vs H Q _ => ∃ (x y : Int), vs = [.int x, .int y] ∧ 0 ≤ x ∧ 0 < y ∧ DivOk x y ∧ ∀ p, H p = none → Q (.ref p) (upd H p (.tup [.int (RF.low x y).1, .int (RF.low x y).2]))
def spCopy (K : PySem.W.Frag) : Sp := fun vs H Q _ => ∃ (p la lg : Addr) (x : Int) (a g : List Int), vs = [.ref p] ∧ WrAt K H p la lg x a g ∧ ∀ (p' la' lg' : Addr) (H' : Hp), NewWr H H' p' la' lg' x a g → Q (.ref p') H'
theorem mem_int {ns : List Int} {i : Nat} {y : V} (h : (ns.map V.int)[i]? = some y) : ∃ n, y = V.int n ∧ ns[i]? = some n := by
  rw [List.getElem?_map] at h
  cases e : ns[i]? with
  | none => rw [e] at h; cases h
  | some n => rw [e] at h; exact ⟨n, (Option.some.inj h).symm, rfl⟩
theorem mulOk_worth {b : Int} {a g : List Int} {x : Int} {n : Nat} (b2 : 2 ≤ b) (b36 : b ≤ 36) (la : a.length ≤ 4000) (lg : g.length ≤ 4000) (hx : x.natAbs ≤ 2 ^ n) (hn : n ≤ 100000) (y : Int) (hy : y.natAbs ≤ 2 ^ (6 * (a.length + g.length))) : IntMulOk x y :=
  mulOk_of (m := n + 1) (n := 6 * (a.length + g.length) + 1) (Nat.lt_of_le_of_lt hx (Nat.pow_lt_pow_right (by decide) (by omega))) (Nat.lt_of_le_of_lt hy (Nat.pow_lt_pow_right (by decide) (by omega))) (by omega)
/-- short writings: all divisions are short -/
theorem divOk_short {b : Int} {a g : List Int} (b2 : 2 ≤ b) (b36 : b ≤ 36) (fa : RF.Figs b a) (fg : RF.Figs b g) (h : a.length + g.length ≤ 1400) (W : Int) : DivOk (W * RF.wB b a g + (RF.num b a * RF.rM b g + RF.num b g)) (RF.wB b a g) := by
  have hB := RF.wB_pos b2 a g
  have hle := RF.wB_le b2 b36 a g
  have h1 : (Int.gcd (W * RF.wB b a g + (RF.num b a * RF.rM b g + RF.num b g)) (RF.wB b a g)) ≤ (RF.wB b a g).natAbs := Nat.le_of_dvd (by omega) (Int.gcd_dvd_natAbs_right _ _)
  have h2 : (Int.gcd (W * RF.wB b a g + (RF.num b a * RF.rM b g + RF.num b g)) (RF.wB b a g)) < 2 ^ 9000 :=
    Nat.lt_of_le_of_lt (Nat.le_trans h1 hle) (Nat.pow_lt_pow_right (by decide) (by omega))
  have h0 : 0 < (Int.gcd (W * RF.wB b a g + (RF.num b a * RF.rM b g + RF.num b g)) (RF.wB b a g)) := Int.gcd_pos_of_ne_zero_right _ (by omega)
  unfold DivOk
  generalize Int.gcd (W * RF.wB b a g + (RF.num b a * RF.rM b g + RF.num b g)) (RF.wB b a g) = G at *
  have h3 : ((G : Nat) : Int).natAbs.log2 < 9000 := by
    rw [Int.natAbs_natCast]
    exact (Nat.log2_lt (by omega)).mpr h2
  exact ⟨PyProof.noPylong_of_log2 h3, PyProof.noPylong_of_log2 h3⟩
/-- of a fraction with a bottom up to 2000 -/
theorem divOk_low {N B : Int} (hB : 0 < B) (hN : 0 ≤ N) (hle : N ≤ B) (h : (RF.low N B).2 ≤ 2000) : DivOk N B := by
  have g0 : 0 < Int.gcd N B := Int.gcd_pos_of_ne_zero_right _ (by omega)
  have e : B = (Int.gcd N B : Nat) * (RF.low N B).2 := by
    show B = (Int.gcd N B : Nat) * (B / (Int.gcd N B : Nat))
    exact (Int.mul_ediv_cancel' (Int.gcd_dvd_right N B)).symm
  have h0 := RF.low_pos (T := N) hB
  have h1 : B.natAbs < ((Int.gcd N B : Nat) : Int).natAbs * 2 ^ 4000 := by
    rw [Int.natAbs_natCast]
    have e2 : B.natAbs = Int.gcd N B * (RF.low N B).2.natAbs := by
      conv => lhs; rw [e]
      rw [Int.natAbs_mul, Int.natAbs_natCast]
    rw [e2]
    apply Nat.mul_lt_mul_of_pos_left _ g0
    exact Nat.lt_of_le_of_lt (show (RF.low N B).2.natAbs ≤ 2 ^ 11 by omega) (Nat.pow_lt_pow_right (by decide) (by decide))
  exact ⟨noPylong_ratio (by omega) h1, noPylong_ratio (by omega) (Nat.lt_of_le_of_lt (show N.natAbs ≤ B.natAbs by omega) h1)⟩
end My
namespace My
open PySem L2
theorem NewWr.up {H H1 H2 : Hp} {p la lg : Addr} {w : Int} {a g : List Int} (s : Same H H1) (n : NewWr H1 H2 p la lg w a g) : NewWr H H2 p la lg w a g :=
  ⟨s.trans n.sm, n.t, n.a, n.g, s.free n.np, s.free n.na, s.free n.ng, n.ne⟩
def spShortest (K : PySem.W.Frag) : Sp := fun vs H Q _ => ∃ (l : Addr) (ns : List Int), vs = [.ref l] ∧ SqL K H l (ns.map V.int) ∧ ns.length ≤ 4000 ∧
  ∀ (l' : Addr) (h : List Int) (H' : Hp), RF.ShortIs ns h → Same H H' → H l' = none → H' l' = some (.lst (h.map V.int)) → Q (.ref l') H'
def spWithoutLast (K : PySem.W.Frag) : Sp := fun vs H Q _ => ∃ (l : Addr) (ns : List Int) (f : Int), vs = [.ref l, .int f] ∧ SqL K H l (ns.map V.int) ∧
  ∀ (l' : Addr) (a' : List Int), RF.DropIs f ns a' → H l' = none → Q (.ref l') (upd H l' (.lst (a'.map V.int)))
def spRoundedUp (K : PySem.W.Frag) : Sp := fun vs H Q _ => ∃ (b x : Int) (l : Addr) (a : List Int), vs = [.int b, .int x, .ref l] ∧ SqL K H l (a.map V.int) ∧ a.length ≤ 4000 ∧
  ∀ (x' : Int) (a' : List Int) (p la lg : Addr) (H' : Hp), ((RF.DropIs (b - 1) a [] ∧ x' = x + 1 ∧ a' = []) ∨ ∃ q y, RF.DropIs (b - 1) a (q ++ [y]) ∧ x' = x ∧ a' = q ++ [y + 1]) → NewWr H H' p la lg x' a' [] → Q (.ref p) H'
def spDrawn (K : PySem.W.Frag) : Sp := fun vs H Q _ => ∃ (x : Int) (la lh : Addr) (a h : List Int), vs = [.int x, .ref la, .ref lh] ∧ SqL K H la (a.map V.int) ∧ SqL K H lh (h.map V.int) ∧ h ≠ [] ∧ a.length ≤ 4000 ∧ h.length ≤ 4000 ∧
  ∀ (u : Nat) (p l1 l2 : Addr) (H' : Hp), RF.DrawIs a h u → (u < a.length → a[a.length - 1 - u]? ≠ h[h.length - 1 - u % h.length]?) → NewWr H H' p l1 l2 x (a.take (a.length - u)) (RF.rot (h.length - u % h.length) h) → Q (.ref p) H'
def spPlain (K : PySem.W.Frag) : Sp := fun vs H Q _ => ∃ (b : Int) (p la lg : Addr) (x : Int) (a g : List Int), vs = [.int b, .ref p] ∧ 2 ≤ b ∧ b ≤ 36 ∧ WrAt K H p la lg x a g ∧ GoodW b x a g ∧
  ∀ (x' : Int) (a' g' : List Int) (p' la' lg' : Addr) (H' : Hp), RF.PlainOut b x a g x' a' g' → NewWr H H' p' la' lg' x' a' g' → Q (.ref p') H'
def spIsPlain (K : PySem.W.Frag) : Sp := fun vs H Q _ => ∃ (b : Int) (p la lg : Addr) (x : Int) (a g : List Int), vs = [.int b, .ref p] ∧ 2 ≤ b ∧ b ≤ 36 ∧ WrAt K H p la lg x a g ∧ GoodW b x a g ∧
  ∀ (t : Bool) (H' : Hp), (t = true ↔ RF.Plain b a g) → Same H H' → Q (.bl t) H'
theorem cut_takeI {ns : List Int} {k : Int} (h0 : 0 ≤ k) (h : k ≤ ns.length) : cutV (ns.map V.int) none (some k) = (ns.take k.toNat).map V.int := by
  have e : k = ((k.toNat : Nat) : Int) := by omega
  rw [e, cut_take (by omega), Int.toNat_natCast]
theorem cut_dropI {ns : List Int} {k : Int} (h0 : 0 ≤ k) (h : k ≤ ns.length) : cutV (ns.map V.int) (some k) none = (ns.drop k.toNat).map V.int := by
  have e : k = ((k.toNat : Nat) : Int) := by omega
  rw [e, cut_drop (by omega), Int.toNat_natCast]
theorem cut_last {ns : List Int} {y : Int} : cutV ((ns ++ [y]).map V.int) none (some (-1)) = ns.map V.int := by
  rw [map_int_cut]
  have e : HT.sIx (ns ++ [y]).length (ns ++ [y]).length (some (-1)) = ns.length := by
    show (if (-1 : Int) < 0 then ((-1 : Int) + ((ns ++ [y]).length : Int)).toNat else min (-1 : Int).toNat (ns ++ [y]).length) = ns.length
    rw [if_pos (by decide), List.length_append]
    simp
    omega
  rw [e, HT.sIx_none, List.drop_zero, Nat.sub_zero, List.take_left' rfl]
theorem map_rep (c : Nat) (h : List Int) : (List.replicate c (h.map V.int)).flatten = (RF.rep c h).map V.int := by
  induction c with
  | zero => rfl
  | succ c ih => rw [List.replicate_succ, List.flatten_cons, ih, RF.rep_succ, List.map_append]
theorem atI_back {ns : List Int} {i : Int} {j : Nat} {z : Int} (h0 : i < 0) (h1 : -(ns.length : Int) ≤ i) (hj : (j : Int) = ns.length + i) (hz : ns[j]? = some z) : atI (ns.map V.int) i = some (.int z) := by
  unfold atI ixN
  rw [List.length_map, if_neg (by omega), if_pos h1]
  have e : (i + (ns.length : Int)).toNat = j := by omega
  rw [Option.bind_some, e, List.getElem?_map, hz]; rfl
end My
namespace My
open PySem L2
theorem good_told {b t q x : Int} {a g : List Int} (T : RF.Told b t q x a g) (t12 : t ≤ 1000000000000) (q2 : q ≤ 2000) : GoodW b x a g := by
  have h1 := T.w0
  have h2 := T.w1
  have h3 := T.ln
  exact ⟨h1, by omega, T.fa, T.fg, by omega, by omega⟩
theorem low_le {t q : Int} (hq : 0 < q) : (RF.low t q).2 ≤ q := by
  show q / (Int.gcd t q : Nat) ≤ q
  exact Int.ediv_le_self _ (Int.le_of_lt hq)
theorem divOk_small {t q : Int} (hq : 0 < q) (h : q ≤ 2000) : DivOk t q := by
  have h1 : Int.gcd t q ≤ q.natAbs := Nat.le_of_dvd (by omega) (Int.gcd_dvd_natAbs_right _ _)
  exact ⟨PyProof.noPylong_small (by rw [Int.natAbs_natCast]; omega), PyProof.noPylong_small (by rw [Int.natAbs_natCast]; omega)⟩
theorem divOk_told {b t q x : Int} {a g : List Int} (b2 : 2 ≤ b) (hq : 0 < q) (q2 : q ≤ 2000) (ht : 0 ≤ t) (d : RF.DivIs b t q x a g) : DivOk (RF.num b a * RF.rM b g + RF.num b g) (RF.wB b a g) := by
  have T := d.told b2 hq ht
  have hB := RF.wB_pos b2 a g
  have hN := RF.wN_bd b2 T.fa T.fg
  refine divOk_low hB hN.1 hN.2 ?_
  have e := RF.low_add (W := x) (N := RF.num b a * RF.rM b g + RF.num b g) hB
  have e2 := d.low b2 hq ht
  rw [show RF.wT b x a g = x * RF.wB b a g + (RF.num b a * RF.rM b g + RF.num b g) from rfl, e] at e2
  have e3 : (RF.low (RF.num b a * RF.rM b g + RF.num b g) (RF.wB b a g)).2 = (RF.low t q).2 := by
    have e4 := congrArg Prod.snd e2
    exact e4
  rw [e3]
  exact Int.le_trans (low_le hq) q2
end My

set_option Elab.async false
set_option maxRecDepth 100000
namespace My
open PySem L2
/-! the law's drawn writings -/
def drawF (c k b : Int) : Int :=
  (((c % 2147483647 + 977 * k + 1) * 48271 % 2147483647) * ((c % 2147483647 + 977 * k + 1) * 48271 % 2147483647) % 2147483629 + 40692 * (k + 3)) * 69621 % 2147483647 / 8 % b
theorem drawF_bd (c k : Int) {b : Int} (hb : 0 < b) : 0 ≤ drawF c k b ∧ drawF c k b < b := ⟨Int.emod_nonneg _ (by omega), Int.emod_lt_of_pos _ hb⟩
theorem cmul_mod (x y : Int) : CMul (x % 2147483647) y := .inl ⟨by omega, by omega⟩
def spDraw : Sp := fun vs H Q _ => ∃ (c k b : Int), vs = [.int c, .int k, .int b] ∧ 0 < b ∧ Q (.int (drawF c k b)) H
def drawL (c b : Int) (n : Nat) : List Int := (List.range n).map fun (i : Nat) => drawF c (0 + (i : Int)) b
theorem drawL_length {c b : Int} {n : Nat} : (drawL c b n).length = n := by simp [drawL]
theorem drawL_figs {c b : Int} {n : Nat} (hb : 0 < b) : RF.Figs b (drawL c b n) := fun d hd => by
  obtain ⟨i, _, rfl⟩ := List.mem_map.mp hd
  exact drawF_bd c _ hb
def spFiguresBy : Sp := fun vs H Q _ => ∃ (c b n : Int), vs = [.int c, .int b, .int n] ∧ 2 ≤ b ∧ b ≤ 36 ∧ 0 ≤ n ∧ n ≤ 1000 ∧
  ∀ (ns : List Int) (l : Addr), ns.length = n.toNat → RF.Figs b ns → H l = none → Q (.ref l) (upd H l (.lst (ns.map V.int)))
/-- two new lists -/
structure NewLs (H H' : Hp) (la lg : Addr) (a g : List Int) : Prop where
  sm : Same H H'
  a : H' la = some (.lst (a.map V.int))
  g : H' lg = some (.lst (g.map V.int))
  na : H la = none
  ng : H lg = none
  ne : la ≠ lg
theorem NewLs.ring {H H' : Hp} {la lg l : Addr} {a g h : List Int} (n : NewLs H H' la lg a g) (hl : H' l = none) : NewLs H (upd H' l (.lst (h.map V.int))) la l a h :=
  ⟨n.sm.trans (Same.upd hl), (Same.upd hl) _ _ n.a, upd_same, n.na, n.sm.free hl, ne_of_none n.a hl⟩
theorem NewLs.ahead {H H' : Hp} {la lg l : Addr} {a g h : List Int} (n : NewLs H H' la lg a g) (hl : H' l = none) : NewLs H (upd H' l (.lst (h.map V.int))) l lg h g :=
  ⟨n.sm.trans (Same.upd hl), upd_same, (Same.upd hl) _ _ n.g, n.sm.free hl, n.ng, (ne_of_none n.g hl).symm⟩
theorem NewLs.more {H H' : Hp} {la lg l : Addr} {a g : List Int} {o : HO} (n : NewLs H H' la lg a g) (hl : H' l = none) : NewLs H (upd H' l o) la lg a g :=
  ⟨n.sm.trans (Same.upd hl), (Same.upd hl) _ _ n.a, (Same.upd hl) _ _ n.g, n.na, n.ng, n.ne⟩
theorem NewLs.wr {H H' : Hp} {la lg p : Addr} {a g : List Int} {x : Int} (n : NewLs H H' la lg a g) (hp : H' p = none) : NewWr H (upd H' p (.tup [.int x, .ref la, .ref lg])) p la lg x a g :=
  ⟨n.sm.trans (Same.upd hp), upd_same, (Same.upd hp) _ _ n.a, (Same.upd hp) _ _ n.g, n.sm.free hp, n.na, n.ng, n.ne⟩
def spWritingBy (K : PySem.W.Frag) : Sp := fun vs H Q _ => ∃ (sc : Addr) (ns : List Int) (i b : Int), vs = [.ref sc, .int i, .int b] ∧ SqL K H sc (ns.map V.int) ∧ 0 ≤ i ∧ 2 ≤ b ∧ b ≤ 36 ∧
  ∀ (x : Int) (a g : List Int) (p la lg : Addr) (H' : Hp), GoodW b x a g → a.length ≤ 130 → g.length ≤ 140 → NewWr H H' p la lg x a g → Q (.ref p) H'
def spLawWorth (K : PySem.W.Frag) : Sp := fun vs H Q _ => ∃ (b : Int) (p la lg : Addr) (x : Int) (a g : List Int), vs = [.int b, .ref p] ∧ 2 ≤ b ∧ b ≤ 36 ∧ WrAt K H p la lg x a g ∧ GoodW b x a g ∧ a.length + g.length ≤ 1400 ∧
  ∀ (p' : Addr) (H' : Hp), Same H H' → H p' = none → H' p' = some (.tup [.int (RF.low (RF.wT b x a g) (RF.wB b a g)).1, .int (RF.low (RF.wT b x a g) (RF.wB b a g)).2]) → Q (.ref p') H'
theorem divOk_short0 {b : Int} {a g : List Int} (b2 : 2 ≤ b) (b36 : b ≤ 36) (fa : RF.Figs b a) (fg : RF.Figs b g) (h : a.length + g.length ≤ 1400) : DivOk (RF.num b a * RF.rM b g + RF.num b g) (RF.wB b a g) := by
  have := divOk_short b2 b36 fa fg h 0
  rw [Int.zero_mul, Int.zero_add] at this
  exact this
end My
namespace My
open PySem L2
theorem map_const (n : Nat) (z : Int) : ((List.range n).map fun _ => V.int z) = (List.replicate n z).map V.int := by
  rw [List.map_replicate]
  apply List.eq_replicate_iff.mpr
  refine ⟨by simp, fun v hv => ?_⟩
  obtain ⟨_, _, rfl⟩ := List.mem_map.mp hv
  rfl
theorem figs_append {b : Int} {a g : List Int} (ha : RF.Figs b a) (hg : RF.Figs b g) : RF.Figs b (a ++ g) := fun d hd => (List.mem_append.mp hd).elim (ha d) (hg d)
theorem figs_replicate {b z : Int} {n : Nat} (h0 : 0 ≤ z) (h1 : z < b) : RF.Figs b (List.replicate n z) := fun d hd => by rw [List.eq_of_mem_replicate hd]; exact ⟨h0, h1⟩
theorem figs_drop {b : Int} {a : List Int} {n : Nat} (ha : RF.Figs b a) : RF.Figs b (a.drop n) := fun d hd => ha d (List.mem_of_mem_drop hd)
theorem figs_take {b : Int} {a : List Int} {n : Nat} (ha : RF.Figs b a) : RF.Figs b (a.take n) := fun d hd => ha d (List.mem_of_mem_take hd)
theorem figs_rep {b : Int} {a : List Int} {n : Nat} (ha : RF.Figs b a) : RF.Figs b (RF.rep n a) := fun d hd => ha d (RF.rep_mem hd)
/-- two lists as ahead and ring, with bounds of their lengths -/
def WBy (H : Hp) (sc : Addr) (i b x c : Int) (A G : Nat) (σ : St) (H' : Hp) : Prop := ∃ (la lg : Addr) (a g : List Int) (wv : Int), σ = [some (.ref sc), some (.int i), some (.int b), some (.int x), some (.int c), some (.ref la), some (.ref lg), some (.int wv)] ∧
  NewLs H H' la lg a g ∧ RF.Figs b a ∧ RF.Figs b g ∧ a.length ≤ A ∧ g.length ≤ G
end My
namespace My
open PySem L2
theorem cut_ex (g : List Int) (lo hi : Option Int) : ∃ g' : List Int, cutV (g.map V.int) lo hi = g'.map V.int ∧ (∀ d, d ∈ g' → d ∈ g) ∧ g'.length ≤ g.length :=
  ⟨_, map_int_cut, fun d hd => List.mem_of_mem_drop (List.mem_of_mem_take hd), by rw [List.length_take, List.length_drop]; omega⟩
end My
namespace My
open PySem L2
/-- the law's own long division, of any fraction whose writing is short -/
def spDividedB : Sp := fun vs H Q _ => ∃ b t q : Int, vs = [.int b, .int t, .int q] ∧ 2 ≤ b ∧ b ≤ 36 ∧ 0 ≤ t ∧ 0 < q ∧ t.natAbs < q.natAbs * 2 ^ 4000 ∧ (∃ w0 a0 g0, RF.DivIs b t q w0 a0 g0 ∧ a0.length + g0.length ≤ 8000) ∧
  ∀ (w : Int) (a g : List Int) (p la lg : Addr) (H' : Hp), RF.DivIs b t q w a g → NewWr H H' p la lg w a g → Q (.ref p) H'
theorem ratio_small {t q : Int} (hq : 0 < q) (h0 : 0 ≤ t) (h : t < q * 2 ^ 64) : t.natAbs < q.natAbs * 2 ^ 4000 := by
  have h1 : t.natAbs < q.natAbs * 2 ^ 64 := by
    have e : ((t.natAbs : Nat) : Int) < ((q.natAbs * 2 ^ 64 : Nat) : Int) := by
      rw [Int.natCast_mul, Int.natAbs_of_nonneg h0, Int.natAbs_of_nonneg (Int.le_of_lt hq)]
      exact h
    exact Int.ofNat_lt.mp e
  exact Nat.lt_of_lt_of_le h1 (Nat.mul_le_mul_left _ (Nat.pow_le_pow_right (by decide) (by decide)))
theorem ratio_rest {r b q : Int} (hq : 0 < q) (h0 : 0 ≤ r) (h1 : r < q) (b2 : 2 ≤ b) (b36 : b ≤ 36) : Builtin.divisionGoesByPylong (r * b) q = false := by
  refine noPylong_ratio hq (ratio_small hq (Int.mul_nonneg h0 (by omega)) ?_)
  have e1 : r * b ≤ r * 36 := Int.mul_le_mul_of_nonneg_left b36 h0
  have e2 : q * 36 < q * 2 ^ 64 := Int.mul_lt_mul_of_pos_left (by decide) hq
  omega
end My
namespace My
open PySem L2
theorem low_nonneg {T B : Int} (hT : 0 ≤ T) : 0 ≤ (RF.low T B).1 := Int.ediv_nonneg hT (by omega)
theorem wT_nonneg {b x : Int} {a g : List Int} (b2 : 2 ≤ b) (gw : GoodW b x a g) : 0 ≤ RF.wT b x a g := by
  unfold RF.wT
  have h1 := Int.mul_nonneg gw.w0 (Int.le_of_lt (RF.wB_pos b2 a g))
  have h2 := (RF.wN_bd b2 gw.fa gw.fg).1
  omega
/-- the fraction of a short writing's worth -/
theorem ratio_of {b t q x : Int} {a g : List Int} (hq : 0 < q) (t0 : 0 ≤ t) (d : RF.DivIs b t q x a g) (hx : x ≤ 1000000000001) : t.natAbs < q.natAbs * 2 ^ 4000 := by
  refine ratio_small hq t0 ?_
  have h1 := d.1
  have h2 := Int.mul_ediv_add_emod t q
  have h3 := Int.emod_lt_of_pos t hq
  rw [← h1] at h2
  have h4 : q * x ≤ q * 1000000000001 := Int.mul_le_mul_of_nonneg_left hx (Int.le_of_lt hq)
  have h5 : q * 1000000000002 < q * 2 ^ 64 := Int.mul_lt_mul_of_pos_left (by decide) hq
  omega
end My

set_option Elab.async false
set_option maxRecDepth 100000
namespace My
open PySem L2
def spKeeps (K : PySem.W.Frag) : Sp := fun vs H Q _ => ∃ (b : Int) (p la lg : Addr) (x : Int) (a g : List Int), vs = [.int b, .ref p] ∧ 2 ≤ b ∧ b ≤ 36 ∧ WrAt K H p la lg x a g ∧ RF.Figs b g ∧ g.length ≤ 4000 ∧ RF.Plain b a g ∧ ∀ H', Same H H' → Q (.bl true) H'
def spOther (K : PySem.W.Frag) : Sp := fun vs H Q _ => ∃ (sc : Addr) (ns : List Int) (b : Int) (p la lg : Addr) (x : Int) (a g : List Int) (pf laf lgf : Addr) (xf : Int) (af gf : List Int), vs = [.ref sc, .int b, .ref p, .ref pf] ∧ SqL K H sc (ns.map V.int) ∧ 2 ≤ b ∧ b ≤ 36 ∧
  WrAt K H p la lg x a g ∧ GoodW b x a g ∧ x ≤ 999999999999 ∧ a.length ≤ 130 ∧ g.length ≤ 140 ∧ H pf = some (.tup [.int xf, .ref laf, .ref lgf]) ∧ H laf = some (.lst (af.map V.int)) ∧ H lgf = some (.lst (gf.map V.int)) ∧
  GoodW b xf af gf ∧ af.length ≤ 130 ∧ gf.length ≤ 140 ∧
  ∀ (xo : Int) (ao go : List Int) (po lao lgo : Addr) (H' : Hp), GoodW b xo ao go → ao.length + go.length ≤ 1400 → WrAt K H' po lao lgo xo ao go → Same H H' → Q (.ref po) H'
theorem getD_figs {b : Int} {l : List Int} (hb : 2 ≤ b) (h : RF.Figs b l) (j : Nat) : 0 ≤ l.getD j 0 ∧ l.getD j 0 < b := by
  rw [List.getD_eq_getElem?_getD]
  cases e : l[j]? with
  | none => exact ⟨Int.le_refl _, by show (0 : Int) < b; omega⟩
  | some z => exact h z (List.mem_of_getElem? e)
theorem map_ints (n : Nat) (h : Nat → Int) : ((List.range n).map fun i => V.int (h i)) = ((List.range n).map h).map V.int := by rw [List.map_map]; rfl
theorem range_figs {b : Int} {n : Nat} {h : Nat → Int} (hh : ∀ i, 0 ≤ h i ∧ h i < b) : RF.Figs b ((List.range n).map h) := fun d hd => by
  obtain ⟨i, _, rfl⟩ := List.mem_map.mp hd
  exact hh i
theorem figs_set {b z : Int} {l : List Int} {j : Nat} (h : RF.Figs b l) (h0 : 0 ≤ z) (h1 : z < b) : RF.Figs b (l.set j z) := fun d hd => by
  rcases List.mem_or_eq_of_mem_set hd with h2 | h2
  · exact h d h2
  · rw [h2]; exact ⟨h0, h1⟩
end My
namespace My
open PySem L2
theorem plain_same_iff {b x x1 y y1 : Int} {a g a1 g1 c d c1 d1 : List Int} (b2 : 2 ≤ b) (p : RF.PlainOut b x a g x1 a1 g1) (q : RF.PlainOut b y c d y1 c1 d1) :
    (y1 = x1 ∧ c1 = a1 ∧ d1 = g1) ↔ ((RF.low (RF.wT b y c d) (RF.wB b c d)).1 = (RF.low (RF.wT b x a g) (RF.wB b a g)).1 ∧ (RF.low (RF.wT b y c d) (RF.wB b c d)).2 = (RF.low (RF.wT b x a g) (RF.wB b a g)).2) := by
  have hB := RF.wB_pos b2 a g
  have hD := RF.wB_pos b2 c d
  have e1 := RF.low_cross hB (RF.wB_pos b2 a1 g1) p.sm
  have e2 := RF.low_cross hD (RF.wB_pos b2 c1 d1) q.sm
  constructor
  · rintro ⟨rfl, rfl, rfl⟩
    rw [e1, e2]; exact ⟨rfl, rfl⟩
  · rintro ⟨h1, h2⟩
    have l1 := p.dv.of_low hB
    have l2 := q.dv.of_low hD
    rw [h1, h2] at l2
    exact l2.uniq l1
theorem plain_self_iff {b x x1 : Int} {a g a1 g1 : List Int} (b2 : 2 ≤ b) (gw : GoodW b x a g) (p : RF.PlainOut b x a g x1 a1 g1) : RF.Plain b a g ↔ (x = x1 ∧ a = a1 ∧ g = g1) := by
  rw [RF.plain_iff b2 gw.fa gw.fg gw.w0]
  constructor
  · exact fun d => d.uniq p.dv
  · rintro ⟨rfl, rfl, rfl⟩
    exact p.dv
end My

set_option Elab.async false
set_option maxRecDepth 100000
namespace My
open PySem L2
/-! promises of the second stage -/
def spLengths : Sp := fun vs H Q _ => ∃ b q : Int, vs = [.int b, .int q] ∧ 2 ≤ b ∧ b ≤ 36 ∧ 1 ≤ q ∧ q ≤ 2000 ∧
  ∀ (k r : Nat) (p : Addr) (H' : Hp), RF.Len b q k r → Same H H' → H p = none → H' p = some (.tup [.int (k : Int), .int (r : Int)]) → Q (.ref p) H'
def spFigureAt : Sp := fun vs H Q _ => ∃ b t q n : Int, vs = [.int b, .int t, .int q, .int n] ∧ 2 ≤ b ∧ b ≤ 36 ∧ 0 ≤ t ∧ t ≤ 1000000000000 ∧ 1 ≤ q ∧ q ≤ 2000 ∧ 0 ≤ n ∧ n < 10 ^ 40 ∧
  ∀ (z : Int) (H' : Hp), z = RF.fig b q (t % q) n.toNat → Same H H' → Q (.int z) H'
/-- a ring folds -/
def Folds (b : Int) (g : List Int) : Prop := ∃ h, 0 < h ∧ g.length = 2 * h ∧ ∀ k, k < h → g.getD k 0 + g.getD (k + h) 0 = b - 1
def spFolds (K : PySem.W.Frag) : Sp := fun vs H Q _ => ∃ (b : Int) (l : Addr) (g : List Int), vs = [.int b, .ref l] ∧ SqL K H l (g.map V.int) ∧ 2 ≤ b ∧ b ≤ 36 ∧ RF.Figs b g ∧ g.length ≤ 4000 ∧
  ∀ (t : Bool) (H' : Hp), (t = true ↔ Folds b g) → Same H H' → Q (.bl t) H'
theorem left_int {b q : Nat} (i : Nat) : ((q : Int) / ((Int.gcd (q : Int) ((b : Int) ^ i) : Nat) : Int)) = ((RF.left b q i : Nat) : Int) := by
  have e : Int.gcd (q : Int) ((b : Int) ^ i) = q.gcd (b ^ i) := by rw [← Int.natCast_pow]; rfl
  rw [e, ← Int.natCast_ediv]; rfl
theorem gcd_small {q x : Int} (hq : 0 < q) (h : q ≤ 2000) : 0 < ((Int.gcd q x : Nat) : Int) ∧ ((Int.gcd q x : Nat) : Int) < 1073741824 := by
  have h1 : Int.gcd q x ≤ q.natAbs := Nat.le_of_dvd (by omega) (Int.gcd_dvd_natAbs_left _ _)
  have h2 : 0 < Int.gcd q x := Int.gcd_pos_of_ne_zero_left _ (by omega)
  omega
theorem pow_mod_int (b j L : Nat) : ((b : Int) ^ j % (L : Int)) = ((b ^ j % L : Nat) : Int) := by rw [Int.natCast_emod, Int.natCast_pow]
theorem left_pos {b q i : Nat} (hq : 0 < q) : 0 < RF.left b q i := by
  have e := RF.left_mul b q i
  exact Nat.pos_of_ne_zero fun z => by rw [z] at e; omega
theorem left_le {b q i : Nat} : RF.left b q i ≤ q := Nat.div_le_self _ _
/-- one of a list of ints -/
theorem pickI {ns : List Int} {xs : List V} {i : Int} {n : Nat} {R : Int → Prop} (hx : xs = ns.map V.int) (hn : ns.length = n) (h0 : 0 ≤ i) (h1 : i < n) (h : ∀ d ∈ ns, R d) : ∃ y, atI xs i = some (.int y) ∧ R y := by
  subst hx
  subst hn
  refine ⟨_, atI_int h0 h1, ?_⟩
  have hl : i.toNat < ns.length := by omega
  rw [List.getD_eq_getElem?_getD, List.getElem?_eq_getElem hl]
  exact h _ (List.getElem_mem hl)
theorem cut_takeA {ns : List Int} {k : Nat} : cutV (ns.map V.int) none (some (k : Int)) = (ns.take k).map V.int := by
  rw [map_int_cut, HT.sIx_none, HT.sIx_nat, List.drop_zero, Nat.sub_zero]
  congr 1
  rw [Nat.min_def]
  split
  · rfl
  · rw [List.take_length, List.take_of_length_le (by omega)]
theorem range_getD (F : Int → Int) (ns : List Int) : (List.range (ns.map V.int).length).map (fun i => V.int (F (ns.getD i 0))) = (ns.map F).map V.int := by
  apply List.ext_getElem
  · simp
  · intro i h1 h2
    have hi : i < ns.length := by simpa using h1
    simp [List.getD_eq_getElem?_getD, List.getElem?_eq_getElem hi]
theorem folds_iff {b : Int} {g : List Int} {h : Nat} (h0 : 0 < h) (hl : g.length = 2 * h) : g.take h = (g.drop h).map (fun z => b - 1 - z) ↔ Folds b g := by
  have key : ∀ k, k < h → ((g.take h)[k]? = some (g.getD k 0) ∧ ((g.drop h).map (fun z => b - 1 - z))[k]? = some (b - 1 - g.getD (k + h) 0)) := fun k hk => by
    have a1 : k < g.length := by omega
    have a2 : h + k < g.length := by omega
    have a3 : k + h < g.length := by omega
    constructor
    · rw [List.getElem?_take_of_lt hk, List.getD_eq_getElem?_getD, List.getElem?_eq_getElem a1]; rfl
    · rw [List.getElem?_map, List.getElem?_drop, List.getD_eq_getElem?_getD, List.getElem?_eq_getElem a2, List.getElem?_eq_getElem a3]
      simp [Nat.add_comm]
  constructor
  · intro e
    refine ⟨h, h0, hl, fun k hk => ?_⟩
    have q := key k hk
    rw [e, q.2] at q
    have := Option.some.inj q.1
    omega
  · rintro ⟨h', _, hl', hk⟩
    obtain rfl : h = h' := by omega
    apply List.ext_getElem?
    intro k
    by_cases c : k < h
    · rw [(key k c).1, (key k c).2]
      have := hk k c
      congr 1; omega
    · rw [List.getElem?_eq_none (by rw [List.length_take]; omega), List.getElem?_eq_none (by rw [List.length_map, List.length_drop]; omega)]
theorem not_folds_odd {b : Int} {g : List Int} (h : g.length % 2 = 1) : ¬ Folds b g := by
  rintro ⟨h', _, hl, _⟩
  omega
theorem not_folds_nil {b : Int} : ¬ Folds b [] := by
  rintro ⟨h', h0, hl, _⟩
  simp at hl
  omega
theorem figs_compl {b : Int} {l : List Int} (h : RF.Figs b l) : RF.Figs b (l.map fun z => b - 1 - z) := fun d hd => by
  obtain ⟨z, hz, rfl⟩ := List.mem_map.mp hd
  have := h z hz
  omega
/-- the law's own look at a ring -/
def spLawFolds (K : PySem.W.Frag) : Sp := fun vs H Q _ => ∃ (b : Int) (l : Addr) (g : List Int), vs = [.int b, .ref l] ∧ SqL K H l (g.map V.int) ∧ g.length ≤ 4000 ∧
  ∀ (t : Bool) (H' : Hp), (t = true ↔ Folds b g) → Same H H' → Q (.bl t) H'
def spIsPrime : Sp := fun vs H Q _ => ∃ n : Nat, vs = [.int (n : Int)] ∧ 2 ≤ n ∧ n ≤ 2000 ∧ ∀ t : Bool, (t = true ↔ RF.Pr n) → Q (.bl t) H
end My

set_option Elab.async false
set_option maxRecDepth 100000
namespace My
open PySem L2
def spCheckBottom : Sp := fun vs H Q _ => ∃ q : Int, vs = [.int q] ∧ 1 ≤ q ∧ q ≤ 2000 ∧ Q .non H
/-- long division of any top -/
def spDividedOut : Sp := fun vs H Q _ => ∃ b t q : Int, vs = [.int b, .int t, .int q] ∧ 2 ≤ b ∧ b ≤ 36 ∧ 0 ≤ t ∧ 1 ≤ q ∧ q ≤ 2000 ∧
  ∀ (w : Int) (a g : List Int) (p la lg : Addr) (H' : Hp), RF.DivIs b t q w a g → NewWr H H' p la lg w a g → Q (.ref p) H'
/-- the ring's length of what is left of a bottom -/
def RLen (b L r : Nat) : Prop := (L = 1 ∧ r = 0) ∨ (1 < L ∧ 0 < r ∧ L ∣ b ^ r - 1 ∧ ∀ m, 0 < m → m < r → ¬ L ∣ b ^ m - 1)
def spRingLength : Sp := fun vs H Q _ => ∃ b L : Nat, vs = [.int (b : Int), .int (L : Int)] ∧ 2 ≤ b ∧ b ≤ 36 ∧ 0 < L ∧ L ≤ 2000 ∧ Nat.Coprime L b ∧
  ∀ r : Nat, RLen b L r → Q (.int (r : Int)) H
def spPowerRest : Sp := fun vs H Q _ => ∃ b n q : Int, vs = [.int b, .int n, .int q] ∧ 2 ≤ b ∧ b ≤ 36 ∧ 0 ≤ n ∧ 1 ≤ q ∧ q ≤ 2000 ∧
  ∀ z : Int, 0 ≤ z → z ≤ 2000 → z % q = b ^ n.toNat % q → Q (.int z) H
end My

set_option maxHeartbeats 4000000
/-! the law's own part: the text by places -/
namespace My
open PySem L2
def top (i : Nat) : Stmt := PySem.Challenge.pw_ringfigures_k04_plain_writings.main.body.getD i (.Pass ⟨0, 0, 0, 0⟩)
abbrev s_check_base : Stmt := top 9
abbrev s_check_figures : Stmt := top 10
abbrev s_check_writing : Stmt := top 11
abbrev s_plain : Stmt := top 13
abbrev s_is_plain : Stmt := top 14
abbrev s_shortest_ring : Stmt := top 15
abbrev s_without_last : Stmt := top 16
abbrev s_rounded_up : Stmt := top 17
abbrev s_drawn_into_ring : Stmt := top 18
abbrev s_law_cell_at : Stmt := top 20
abbrev s_law_draw : Stmt := top 21
abbrev s_law_whole : Stmt := top 22
abbrev s_law_common : Stmt := top 23
abbrev s_law_lowest : Stmt := top 24
abbrev s_law_figures_by : Stmt := top 25
abbrev s_law_writing_by : Stmt := top 26
abbrev s_law_copy : Stmt := top 27
abbrev s_law_worth : Stmt := top 28
abbrev s_law_divided : Stmt := top 29
abbrev s_law_is_writing : Stmt := top 30
abbrev s_law : Stmt := top 31
structure Txt (K : PySem.W.Frag) (mg : Str → Option Value) : Prop where
  d_check_base : IsDef K mg "check_base" s_check_base ["base"]
  d_check_figures : IsDef K mg "check_figures" s_check_figures ["base", "figures"]
  d_check_writing : IsDef K mg "check_writing" s_check_writing ["base", "writing"]
  d_plain : IsDef K mg "plain" s_plain ["base", "writing"]
  d_is_plain : IsDef K mg "is_plain" s_is_plain ["base", "writing"]
  d_shortest_ring : IsDef K mg "shortest_ring" s_shortest_ring ["ring"]
  d_without_last : IsDef K mg "without_last" s_without_last ["figures", "figure"]
  d_rounded_up : IsDef K mg "rounded_up" s_rounded_up ["base", "whole", "ahead"]
  d_drawn_into_ring : IsDef K mg "drawn_into_ring" s_drawn_into_ring ["whole", "ahead", "ring"]
  d_law_cell_at : IsDef K mg "_law_cell_at" s_law_cell_at ["script", "k"]
  d_law_draw : IsDef K mg "_law_draw" s_law_draw ["cell", "k", "bound"]
  d_law_whole : IsDef K mg "_law_whole" s_law_whole ["found"]
  d_law_common : IsDef K mg "_law_common" s_law_common ["one", "other"]
  d_law_lowest : IsDef K mg "_law_lowest" s_law_lowest ["top", "bottom"]
  d_law_figures_by : IsDef K mg "_law_figures_by" s_law_figures_by ["cell", "base", "many"]
  d_law_writing_by : IsDef K mg "_law_writing_by" s_law_writing_by ["script", "first", "base"]
  d_law_copy : IsDef K mg "_law_copy" s_law_copy ["writing"]
  d_law_worth : IsDef K mg "_law_worth" s_law_worth ["base", "writing"]
  d_law_divided : IsDef K mg "_law_divided" s_law_divided ["base", "top", "bottom"]
  d_law_is_writing : IsDef K mg "_law_is_writing" s_law_is_writing ["found", "due"]
  d_law : IsDef K mg "law" s_law ["script"]
  i_GREATEST_BASE : IsInt mg "GREATEST_BASE" 36
  i_GREATEST_WHOLE : IsInt mg "GREATEST_WHOLE" 1000000000000
  i_LEAST_BASE : IsInt mg "LEAST_BASE" 2
  i_MOST_FIGURES : IsInt mg "MOST_FIGURES" 4000
  b_bool : mg "bool" = none
  b_int : mg "int" = none
  b_isinstance : mg "isinstance" = none
  b_len : mg "len" = none
  b_list : mg "list" = none
  b_range : mg "range" = none
  b_tuple : mg "tuple" = none
theorem sc_check_base : FnScope ["base"] ["base"] (defScope s_check_base) := ⟨rfl, rfl, rfl, by decide +kernel, rfl, by decide +kernel, by decide +kernel⟩
theorem sc_check_figures : FnScope ["base", "figures", "figure"] ["base", "figures"] (defScope s_check_figures) := ⟨rfl, rfl, rfl, by decide +kernel, rfl, by decide +kernel, by decide +kernel⟩
theorem sc_check_writing : FnScope ["base", "writing"] ["base", "writing"] (defScope s_check_writing) := ⟨rfl, rfl, rfl, by decide +kernel, rfl, by decide +kernel, by decide +kernel⟩
theorem sc_plain : FnScope ["base", "writing", "whole", "ahead", "ring"] ["base", "writing"] (defScope s_plain) := ⟨rfl, rfl, rfl, by decide +kernel, rfl, by decide +kernel, by decide +kernel⟩
theorem sc_is_plain : FnScope ["base", "writing", "ahead", "ring"] ["base", "writing"] (defScope s_is_plain) := ⟨rfl, rfl, rfl, by decide +kernel, rfl, by decide +kernel, by decide +kernel⟩
theorem sc_shortest_ring : FnScope ["ring", "length"] ["ring"] (defScope s_shortest_ring) := ⟨rfl, rfl, rfl, by decide +kernel, rfl, by decide +kernel, by decide +kernel⟩
theorem sc_without_last : FnScope ["figures", "figure", "kept"] ["figures", "figure"] (defScope s_without_last) := ⟨rfl, rfl, rfl, by decide +kernel, rfl, by decide +kernel, by decide +kernel⟩
theorem sc_rounded_up : FnScope ["base", "whole", "ahead", "figures"] ["base", "whole", "ahead"] (defScope s_rounded_up) := ⟨rfl, rfl, rfl, by decide +kernel, rfl, by decide +kernel, by decide +kernel⟩
theorem sc_drawn_into_ring : FnScope ["whole", "ahead", "ring", "length", "turns", "cut"] ["whole", "ahead", "ring"] (defScope s_drawn_into_ring) := ⟨rfl, rfl, rfl, by decide +kernel, rfl, by decide +kernel, by decide +kernel⟩
theorem sc_law_cell_at : FnScope ["script", "k"] ["script", "k"] (defScope s_law_cell_at) := ⟨rfl, rfl, rfl, by decide +kernel, rfl, by decide +kernel, by decide +kernel⟩
theorem sc_law_draw : FnScope ["cell", "k", "bound", "stir"] ["cell", "k", "bound"] (defScope s_law_draw) := ⟨rfl, rfl, rfl, by decide +kernel, rfl, by decide +kernel, by decide +kernel⟩
theorem sc_law_whole : FnScope ["found"] ["found"] (defScope s_law_whole) := ⟨rfl, rfl, rfl, by decide +kernel, rfl, by decide +kernel, by decide +kernel⟩
theorem sc_law_common : FnScope ["one", "other", "rest"] ["one", "other"] (defScope s_law_common) := ⟨rfl, rfl, rfl, by decide +kernel, rfl, by decide +kernel, by decide +kernel⟩
theorem sc_law_lowest : FnScope ["top", "bottom", "part"] ["top", "bottom"] (defScope s_law_lowest) := ⟨rfl, rfl, rfl, by decide +kernel, rfl, by decide +kernel, by decide +kernel⟩
theorem sc_law_figures_by : FnScope ["cell", "base", "many"] ["cell", "base", "many"] (defScope s_law_figures_by) := ⟨rfl, rfl, rfl, by decide +kernel, rfl, by decide +kernel, by decide +kernel⟩
theorem sc_law_writing_by : FnScope ["script", "first", "base", "whole", "cell", "ahead", "ring", "way"] ["script", "first", "base"] (defScope s_law_writing_by) := ⟨rfl, rfl, rfl, by decide +kernel, rfl, by decide +kernel, by decide +kernel⟩
theorem sc_law_copy : FnScope ["writing"] ["writing"] (defScope s_law_copy) := ⟨rfl, rfl, rfl, by decide +kernel, rfl, by decide +kernel, by decide +kernel⟩
theorem sc_law_worth : FnScope ["base", "writing", "whole", "ahead", "ring", "top", "bottom", "figure", "number", "size"] ["base", "writing"] (defScope s_law_worth) := ⟨rfl, rfl, rfl, by decide +kernel, rfl, by decide +kernel, by decide +kernel⟩
theorem sc_law_divided : FnScope ["base", "top", "bottom", "rest", "seen", "figures"] ["base", "top", "bottom"] (defScope s_law_divided) := ⟨rfl, rfl, rfl, by decide +kernel, rfl, by decide +kernel, by decide +kernel⟩
theorem sc_law_is_writing : FnScope ["found", "due", "side", "figure"] ["found", "due"] (defScope s_law_is_writing) := ⟨rfl, rfl, rfl, by decide +kernel, rfl, by decide +kernel, by decide +kernel⟩
theorem sc_law : FnScope ["script", "base", "writing", "top", "bottom", "due", "handed", "found", "told"] ["script"] (defScope s_law) := ⟨rfl, rfl, rfl, by decide +kernel, rfl, by decide +kernel, by decide +kernel⟩
seal L2.PE L2.PT L2.PW L2.PA L2.PS L2.PSs L2.PI L2.PG
section
variable {P : Program} {w : World} {K : PySem.W.Frag} {mg : Str → Option Value} {base : Heap}
theorem got_check_base (T : Txt K mg) : Got P w K mg base "check_base" 1 ["base"] spCheckBase := by
  refine T.d_check_base.got sc_check_base (fun vs H Q E h => ?_) (fun f cdv A outer s H vs Q E hr h => ?_)
  · obtain ⟨b, rfl, _⟩ := h; rfl
  · obtain ⟨b, rfl, h2, h36, k⟩ := h
    refine ⟨_, (pss_one (ps_if (PW.pt (pw_or (pt_cmpR op_lt (pv 0) (pe_globI T.i_LEAST_BASE rfl) (nomark _)) (pw_or1 (pt_cmpR op_gt (pv 0) (pe_globI T.i_GREATEST_BASE rfl) (nomark _))))) pss_never pss_nil)), ?_⟩
    refine ⟨_, rfl, _, _, rfl, rfl, _, rfl, iteDF (by omega) ?_⟩
    refine ⟨_, rfl, _, _, rfl, rfl, _, rfl, iteDF (by omega) ?_⟩
    exact k
theorem got_check_figures (T : Txt K mg) : Got P w K mg base "check_figures" 1 ["base", "figures"] (spCheckFigures K) := by
  refine T.d_check_figures.got sc_check_figures (fun vs H Q E h => ?_) (fun f cdv A outer s H vs Q E hr h => ?_)
  · obtain ⟨b, l, ns, rfl, _⟩ := h; rfl
  · obtain ⟨b, l, ns, rfl, hS, hl, hF, k⟩ := h
    refine ⟨_, (pss_cons (ps_if (pt_cmpR op_gt (pe_callB call_len_seq rfl T.b_len PySem.boot_len (pa_n (pv 1) pa_nil)) (pe_globI T.i_MOST_FIGURES rfl) (nomark _)) pss_never pss_nil)
      (pss_one (ps_for PassesOwn.never rfl (pi_list (pv 1)) (pg_name (i := 2) sc_check_figures.nd rfl (Or.inl rfl)) (pss_one (ps_if (PW.pt (pw_or (pt_cmpR op_lt (pv 2) pe_int (nomark _)) (pw_or1 (pt_cmpR op_ge (pv 2) (pv 0) (nomark _))))) pss_never pss_nil))))), ?_⟩
    refine ⟨_, rfl, l, _, rfl, .inl hS, _, _, rfl, rfl, _, rfl, iteDF (by rw [List.length_map]; omega) ?_⟩
    refine ⟨_, rfl, l, rfl, ⟨_, hS⟩, for_list (K := K) (a := l) (xs := ns.map V.int) (fun i σ H2 => ∃ v, σ = [some (.int b), some (.ref l), v] ∧ H2 = H) ⟨_, rfl, rfl⟩ (fun i σ H2 _ ⟨_, _, e⟩ => by rw [e]; exact hS) ?_ ?_⟩
    · rintro i y σ H2 hi ⟨v, rfl, rfl⟩
      obtain ⟨n, rfl, hn⟩ := mem_int hi
      have := hF n (List.mem_of_getElem? hn)
      refine ⟨_, rfl, _, _, rfl, rfl, _, rfl, iteDF (by omega) ?_⟩
      refine ⟨_, rfl, _, rfl, _, _, rfl, rfl, _, rfl, iteDF (by omega) ?_⟩
      exact ⟨_, rfl, rfl⟩
    · rintro σ H2 ⟨v, rfl, rfl⟩
      exact k
theorem got_check_writing (T : Txt K mg) : Got P w K mg base "check_writing" 2 ["base", "writing"] (spCheckWriting K) := by
  refine T.d_check_writing.got sc_check_writing (fun vs H Q E h => ?_) (fun f cdv A outer s H vs Q E hr h => ?_)
  · obtain ⟨b, p, la, lg, x, a, g, rfl, _⟩ := h; rfl
  · obtain ⟨b, p, la, lg, x, a, g, rfl, hW, hG, k⟩ := h
    have w0 := hG.w0
    have w1 := hG.w1
    refine ⟨_, (pss_cons (ps_if (PW.pt (pw_or (pt_cmpR op_lt (pe_ix ix_tup (pv 1) pe_int px_k) pe_int (nomark _)) (pw_or1 (pt_cmpR op_gt (pe_ix ix_tup (pv 1) pe_int px_k) (pe_globI T.i_GREATEST_WHOLE rfl) (nomark _))))) pss_never pss_nil)
      (pss_cons (ps_expr (pe_callG (got_check_figures T) (hr.mono (by decide)) rfl (pa_n (pv 0) (pa_s (pe_ix ix_tup (pv 1) pe_int px_k) pa_nil))))
      (pss_one (ps_expr (pe_callG (got_check_figures T) (hr.mono (by decide)) rfl (pa_n (pv 0) (pa_s (pe_ix ix_tup (pv 1) pe_int px_k) pa_nil))))))), ?_⟩
    refine ⟨_, rfl, p, _, _, _, rfl, rfl, hW.t, rfl, _, _, rfl, rfl, _, rfl, iteDF (by omega) ?_⟩
    refine ⟨_, rfl, p, _, _, _, rfl, rfl, hW.t, rfl, _, _, rfl, rfl, _, rfl, iteDF (by omega) ?_⟩
    refine ⟨_, rfl, _, rfl, p, _, _, _, rfl, rfl, hW.t, rfl, b, la, a, rfl, hW.a, hG.la, hG.fa, ?_⟩
    exact ⟨_, rfl, _, rfl, p, _, _, _, rfl, rfl, hW.t, rfl, b, lg, g, rfl, hW.g, hG.lg, hG.fg, k⟩
theorem got_shortest_ring (T : Txt K mg) : Got P w K mg base "shortest_ring" 1 ["ring"] (spShortest K) := by
  refine T.d_shortest_ring.got sc_shortest_ring (fun vs H Q E h => ?_) (fun f cdv A outer s H vs Q E hr h => ?_)
  · obtain ⟨l, ns, rfl, _⟩ := h; rfl
  · obtain ⟨l, ns, rfl, hS, hl, k⟩ := h
    refine ⟨_, (pss_cons (ps_for PassesOwn.never rfl (pi_range2 rfl T.b_range (pa_k pe_int (pa_c (pe_callB call_len_seq rfl T.b_len PySem.boot_len (pa_n (pv 0) pa_nil)) pa_nil))) (pg_name (i := 1) sc_shortest_ring.nd rfl (Or.inl rfl)) (pss_one (ps_if (PW.pt (pw_and (pt_cmpR op_eq (pe_op op_mod (pe_callB call_len_seq rfl T.b_len PySem.boot_len (pa_n (pv 0) pa_nil)) (pv 1)) pe_int (nomark _)) (pw_and1 (pt_cmpR (op_eqL hr.units) (pe_op op_rep (pe_slice sl_list (pv 0) po_none (po_some (pv 1))) (pe_op op_fdiv (pe_callB call_len_seq rfl T.b_len PySem.boot_len (pa_n (pv 0) pa_nil)) (pv 1))) (pv 0) (nomark _))))) (pss_one (ps_ret (pe_slice sl_list (pv 0) po_none (po_some (pv 1))))) pss_nil)))
      (pss_one (ps_ret (pe_callTy call_list_of rfl T.b_list PyProof.Rows.boot_list (pa_n (pv 0) pa_nil))))), ?_⟩
    refine ⟨_, rfl, l, _, rfl, .inl hS, 1, _, rfl, ⟨by decide, by decide, by omega, by rw [List.length_map]; omega⟩, ?_⟩
    rw [List.length_map]
    refine for_range (lo := 1) (n := ((ns.length : Int) - 1).toNat) (fun i σ H2 => ∃ v, σ = [some (.ref l), v] ∧ Same H H2 ∧ ∀ e, 0 < e → e < i + 1 → ¬ RF.Per e ns) ⟨_, rfl, Same.refl H, fun e _ _ => by omega⟩ ?_ ?_
    · rintro i σ H2 hi ⟨v, rfl, s2, hp⟩
      have e1 : (1 : Int) + (i : Int) = ((i + 1 : Nat) : Int) := by omega
      rw [e1]
      have hS2 := s2.seq hS
      refine ⟨_, rfl, l, _, rfl, .inl hS2, _, rfl, _, _, rfl, rfl, (show (0 : Int) < ((i + 1 : Nat) : Int) by omega), rfl, _, rfl, ite2D (fun hm => ?_) (fun hm => ?_)⟩
      · have hm := V.int.inj hm
        rw [List.length_map, ← Int.natCast_emod] at hm
        have hm : ns.length % (i + 1) = 0 := by omega
        have hdv : ns.length / (i + 1) * (i + 1) = ns.length := by have := Nat.div_add_mod ns.length (i + 1); rw [Nat.mul_comm]; omega
        have hdl : ns.length / (i + 1) ≤ ns.length := Nat.div_le_self _ _
        refine ⟨_, rfl, _, rfl, _, rfl, l, _, rfl, hS2, fun l1 h1 => ?_⟩
        have s3 := s2.trans (Same.upd (o := .lst (cutV (ns.map V.int) none (some ((i + 1 : Nat) : Int)))) h1)
        refine ⟨_, rfl, l, _, rfl, .inl (s3.seq hS), _, rfl, _, _, rfl, rfl, ⟨by omega, by omega⟩, ?_⟩
        dsimp only
        rw [List.length_map, ← Int.natCast_ediv]
        have hc0 : (0 : Int) ≤ ((ns.length / (i + 1) : Nat) : Int) := Int.natCast_nonneg _
        refine ⟨l1, ((ns.length / (i + 1) : Nat) : Int), _, rfl, rfl, upd_same, by omega, by omega, ?_, fun l2 h2 => ?_⟩
        · rw [cut_take (by omega), List.length_map, List.length_take, Int.toNat_natCast, Nat.min_eq_left (by omega), Nat.mul_comm, hdv]
          exact Nat.le_of_lt (size2000 (by omega))
        have s4 := s3.trans (Same.upd (o := .lst (List.replicate (((ns.length / (i + 1) : Nat) : Int)).toNat (cutV (ns.map V.int) none (some ((i + 1 : Nat) : Int)))).flatten) h2)
        refine ⟨_, rfl, l2, l, RF.rep (ns.length / (i + 1)) (ns.take (i + 1)), ns, rfl, rfl, SqL.of ?_, s4.seq hS, _, rfl, ite2D (fun he => ?_) (fun he => ?_)⟩
        · rw [upd_same, cut_take (by omega), Int.toNat_natCast, map_rep]
        · refine ⟨_, rfl, _, rfl, _, rfl, l, _, rfl, s4.seq hS, fun l3 h3 => ?_⟩
          refine k l3 (ns.take (i + 1)) _ (.inl ⟨i + 1, by omega, by omega, ⟨hm, he⟩, rfl, fun e e0 e1 => hp e e0 e1⟩) (s4.trans (Same.upd h3)) (s4.free h3) ?_
          rw [upd_same, cut_take (by omega)]
        · exact ⟨_, rfl, s4, fun e e0 e1 p => by
            by_cases e2 : e = i + 1
            · subst e2; exact he p.2
            · exact hp e e0 (by omega) p⟩
      · refine iteF ⟨_, rfl, s2, fun e e0 e1 p => ?_⟩
        by_cases e2 : e = i + 1
        · subst e2
          apply hm
          show V.int (((ns.map V.int).length : Int) % ((i + 1 : Nat) : Int)) = V.int 0
          rw [List.length_map, ← Int.natCast_emod, p.1]; rfl
        · exact hp e e0 (by omega) p
    · rintro σ H2 ⟨v, rfl, s2, hp⟩
      refine ⟨_, rfl, l, _, rfl, .inl (s2.seq hS), fun l3 h3 => ?_⟩
      exact k l3 ns _ (.inr ⟨rfl, fun e e0 e1 => hp e e0 (by omega)⟩) (s2.trans (Same.upd h3)) (s2.free h3) upd_same
theorem got_without_last (T : Txt K mg) : Got P w K mg base "without_last" 1 ["figures", "figure"] (spWithoutLast K) := by
  refine T.d_without_last.got sc_without_last (fun vs H Q E h => ?_) (fun f cdv A outer s H vs Q E hr h => ?_)
  · obtain ⟨l, ns, z, rfl, _⟩ := h; rfl
  · obtain ⟨l, ns, z, rfl, hS, k⟩ := h
    refine ⟨_, (pss_cons (ps_set (i := 2) sc_without_last.nd rfl (Or.inl rfl) (pe_callB call_len_seq rfl T.b_len PySem.boot_len (pa_n (pv 0) pa_nil)))
      (pss_cons (ps_while PassesOwn.never (PW.pt (pw_and (pt_cmpR op_gt (pv 2) pe_int (nomark _)) (pw_and1 (pt_cmpR op_eq (pe_ix ix_list (pv 0) (pe_op op_sub (pv 2) pe_int) px_b) (pv 1) (nomark _))))) (pss_one (ps_set (i := 2) sc_without_last.nd rfl (Or.inl rfl) (pe_op op_sub (pv 2) pe_int))))
      (pss_one (ps_ret (pe_slice sl_list (pv 0) po_none (po_some (pv 2))))))), ?_⟩
    refine ⟨_, rfl, l, _, rfl, .inl hS, ?_⟩
    rw [List.length_map]
    refine ⟨fun m σ H2 => σ = [some (.ref l), some (.int z), some (.int (m : Int))] ∧ H2 = H ∧ m ≤ ns.length ∧ ns = ns.take m ++ List.replicate (ns.length - m) z, ⟨ns.length, rfl, rfl, Nat.le_refl _, by simp⟩, ?_⟩
    rintro m σ H2 ⟨rfl, rfl, hm, he⟩
    refine ⟨_, rfl, _, _, rfl, rfl, _, rfl, ite2D (fun h0 => ?_) (fun h0 => ?_)⟩
    · have hm1 : m - 1 < ns.length := by omega
      have e1 : ((m : Int) - 1).toNat = m - 1 := by omega
      have eg : ns.getD ((m : Int) - 1).toNat 0 = ns[m - 1] := by rw [e1, List.getD_eq_getElem?_getD, List.getElem?_eq_getElem hm1]; rfl
      have et : ns.take m = ns.take (m - 1) ++ [ns[m - 1]] := by
        have : m = (m - 1) + 1 := by omega
        conv => lhs; rw [this]
        rw [List.take_succ_eq_append_getElem hm1]
      refine ⟨_, rfl, _, rfl, _, _, rfl, rfl, l, _, _, _, rfl, rfl, hS, atI_int (by omega) (by omega), _, rfl, rfl, _, rfl, ite2D (fun hz => ?_) (fun hz => ?_)⟩
      · have hz := V.int.inj hz
        rw [eg] at hz
        refine ⟨fun σ' H3 => σ' = [some (.ref l), some (.int z), some (.int ((m - 1 : Nat) : Int))] ∧ H3 = H2, ?_, ?_⟩
        · rintro σ' H3 ⟨rfl, rfl⟩
          refine ⟨m - 1, by omega, rfl, rfl, by omega, ?_⟩
          conv => lhs; rw [he, et, hz, List.append_assoc]
          congr 1
          rw [show ns.length - (m - 1) = (ns.length - m) + 1 by omega, List.replicate_succ]; rfl
        · refine ⟨_, rfl, _, _, rfl, rfl, ?_, rfl⟩
          rw [show ((m - 1 : Nat) : Int) = (m : Int) - 1 by omega]; rfl
      · refine ⟨_, rfl, _, rfl, _, rfl, l, _, rfl, hS, fun l' h' => ?_⟩
        rw [cut_take hm]
        refine k l' (ns.take m) ⟨fun hl => hz ?_, _, he⟩ h'
        rw [eg]
        rw [et, List.getLast?_concat] at hl
        exact congrArg V.int (Option.some.inj hl)
    · refine iteF ⟨_, rfl, _, rfl, _, rfl, l, _, rfl, hS, fun l' h' => ?_⟩
      rw [cut_take hm]
      have : m = 0 := by omega
      exact k l' (ns.take m) ⟨by rw [this]; simp, _, he⟩ h'
theorem got_rounded_up (T : Txt K mg) : Got P w K mg base "rounded_up" 2 ["base", "whole", "ahead"] (spRoundedUp K) := by
  refine T.d_rounded_up.got sc_rounded_up (fun vs H Q E h => ?_) (fun f cdv A outer s H vs Q E hr h => ?_)
  · obtain ⟨b, x, l, a, rfl, _⟩ := h; rfl
  · obtain ⟨b, x, l, a, rfl, hS, hl, k⟩ := h
    refine ⟨_, (pss_cons (ps_set (i := 3) sc_rounded_up.nd rfl (Or.inl rfl) (pe_callG (got_without_last T) (hr.mono (by decide)) rfl (pa_n (pv 2) (pa_b (pe_op op_sub (pv 0) pe_int) pa_nil))))
      (pss_cons (ps_if (pt_cmpR (op_eqL hr.units) (pv 3) (pe_lst pa_nil) (nomark _)) (pss_one (ps_ret (pe_tup (pa_b (pe_op op_add (pv 1) pe_int) (pa_l (pe_lst pa_nil) (pa_l (pe_lst pa_nil) pa_nil)))))) pss_nil)
      (pss_one (ps_ret (pe_tup (pa_n (pv 1) (pa_b (pe_op op_cat (pe_slice sl_list (pv 3) po_none (po_some (pe_un un_neg pe_int))) (pe_lst (pa_b (pe_op op_add (pe_ix ix_list (pv 3) (pe_un un_neg pe_int) px_u) pe_int) pa_nil))) (pa_l (pe_lst pa_nil) pa_nil)))))))), ?_⟩
    refine ⟨_, rfl, _, rfl, _, _, rfl, rfl, l, a, _, rfl, hS, fun l1 a' hD h1 => ?_⟩
    have hla := hD.len
    have s1 := Same.upd (o := .lst (a'.map V.int)) h1
    refine ⟨_, rfl, (show 0 ≤ sizeLine by decide), fun l2 h2 => ⟨l1, l2, a', [], rfl, rfl, (Same.upd h2).seq (SqL.of upd_same), SqL.of upd_same, _, rfl, ite2D (fun he => ?_) (fun he => ?_)⟩⟩
    · have s2 := s1.trans (Same.upd (o := .lst []) h2)
      refine ⟨_, rfl, _, _, rfl, rfl, (show 0 ≤ sizeLine by decide), fun l3 h3 => ⟨(show 0 ≤ sizeLine by decide), fun l4 h4 => ⟨(show 3 ≤ sizeLine by decide), fun p hp => ?_⟩⟩⟩
      rw [he] at hD
      exact k (x + 1) [] p l3 l4 _ (.inl ⟨hD, rfl, rfl⟩) (NewWr.mk2 (a := []) (g := []) s2 h3 h4 hp)
    · have s2 := s1.trans (Same.upd (o := .lst []) h2)
      have hl1 : upd (upd H l1 (.lst (a'.map V.int))) l2 (.lst []) l1 = some (.lst (a'.map V.int)) := by
        rw [upd_ne (ne_of_none upd_same h2)]; exact upd_same
      obtain ⟨q, y, rfl⟩ : ∃ q y, a' = q ++ [y] := by
        rcases List.eq_nil_or_concat a' with e | ⟨q, y, e⟩
        · exact absurd e he
        · exact ⟨q, y, by rw [e, List.concat_eq_append]⟩
      have hlq : q.length + 1 ≤ 4000 := by rw [List.length_append] at hla; simp at hla; omega
      refine ⟨_, rfl, _, rfl, _, rfl, _, rfl, l1, _, rfl, SqL.of hl1, fun l3 h3 => ?_⟩
      have hl3 := (Same.upd (o := .lst (cutV ((q ++ [y]).map V.int) none (some (-1)))) h3) _ _ hl1
      refine ⟨_, rfl, _, rfl, l1, _, _, _, rfl, rfl, SqL.of hl3, (show atI ((q ++ [y]).map V.int) (-1) = some (.int y) by rw [List.map_append]; exact atI_last _ _), _, _, rfl, rfl, (show 1 ≤ sizeLine by decide), fun l4 h4 => ?_⟩
      have s4 := (s2.trans (Same.upd (o := .lst (cutV ((q ++ [y]).map V.int) none (some (-1)))) h3)).trans (Same.upd (o := .lst [.int (y + 1)]) h4)
      refine ⟨l3, l4, _, _, rfl, rfl, (by rw [upd_ne (ne_of_none upd_same h4)]; exact upd_same), upd_same, ?_, fun l5 h5 => ?_⟩
      · rw [cut_last, List.length_map]
        exact Nat.le_of_lt (size2000 (by simp; omega))
      refine ⟨(show 0 ≤ sizeLine by decide), fun l6 h6 => ⟨(show 3 ≤ sizeLine by decide), fun p hp => ?_⟩⟩
      have ec : cutV ((q ++ [y]).map V.int) none (some (-1)) ++ [V.int (y + 1)] = (q ++ [y + 1]).map V.int := by rw [cut_last, List.map_append]; rfl
      rw [ec] at h6 hp ⊢
      exact k x (q ++ [y + 1]) p l5 l6 _ (.inr ⟨q, y, hD, rfl, rfl⟩) (NewWr.mk2 (g := []) s4 h5 h6 hp)
theorem got_drawn_into_ring (T : Txt K mg) : Got P w K mg base "drawn_into_ring" 1 ["whole", "ahead", "ring"] (spDrawn K) := by
  refine T.d_drawn_into_ring.got sc_drawn_into_ring (fun vs H Q E h => ?_) (fun f cdv A outer s H vs Q E hr h => ?_)
  · obtain ⟨x, la, lh, a, h, rfl, _⟩ := h; rfl
  · obtain ⟨x, la, lh, a, h, rfl, hA, hH, hne, l1, l2, k⟩ := h
    have hm : 0 < h.length := List.length_pos_iff.mpr hne
    refine ⟨_, (pss_cons (ps_set (i := 3) sc_drawn_into_ring.nd rfl (Or.inl rfl) (pe_callB call_len_seq rfl T.b_len PySem.boot_len (pa_n (pv 2) pa_nil)))
      (pss_cons (ps_set (i := 4) sc_drawn_into_ring.nd rfl (Or.inl rfl) pe_int)
      (pss_cons (ps_while PassesOwn.never (PW.pt (pw_and (pt_cmpR op_lt (pv 4) (pe_callB call_len_seq rfl T.b_len PySem.boot_len (pa_n (pv 1) pa_nil)) (nomark _)) (pw_and1 (pt_cmpR op_eq (pe_ix ix_list (pv 1) (pe_op op_sub (pe_un un_neg pe_int) (pv 4)) px_b) (pe_ix ix_list (pv 2) (pe_op op_sub (pe_un un_neg pe_int) (pe_op op_mod (pv 4) (pv 3))) px_b) (nomark _))))) (pss_one (ps_set (i := 4) sc_drawn_into_ring.nd rfl (Or.inl rfl) (pe_op op_add (pv 4) pe_int))))
      (pss_cons (ps_set (i := 5) sc_drawn_into_ring.nd rfl (Or.inl rfl) (pe_op op_sub (pv 3) (pe_op op_mod (pv 4) (pv 3))))
      (pss_one (ps_ret (pe_tup (pa_n (pv 0) (pa_s (pe_slice sl_list (pv 1) po_none (po_some (pe_op op_sub (pe_callB call_len_seq rfl T.b_len PySem.boot_len (pa_n (pv 1) pa_nil)) (pv 4)))) (pa_b (pe_op op_cat (pe_slice sl_list (pv 2) (po_some (pv 5)) po_none) (pe_slice sl_list (pv 2) po_none (po_some (pv 5)))) pa_nil)))))))))), ?_⟩
    refine ⟨_, rfl, lh, _, rfl, .inl hH, ?_⟩
    rw [List.length_map]
    refine ⟨fun m σ H2 => ∃ u : Nat, m + u = a.length ∧ σ = [some (.int x), some (.ref la), some (.ref lh), some (.int (h.length : Int)), some (.int (u : Int)), none] ∧ H2 = H ∧ RF.DrawIs a h u, ⟨a.length, 0, by omega, rfl, rfl, Nat.zero_le _, fun i hi => absurd hi (by omega)⟩, ?_⟩
    rintro m σ H2 ⟨u, hmu, rfl, rfl, hd⟩
    have hu := hd.1
    have humod := Nat.mod_lt u hm
    have em : ((u : Int) % (h.length : Int)) = ((u % h.length : Nat) : Int) := (Int.natCast_emod u h.length).symm
    refine ⟨_, rfl, _, rfl, la, _, rfl, .inl hA, _, _, rfl, rfl, _, rfl, ?_⟩
    rw [List.length_map]
    refine ite2D (fun h0 => ?_) (fun h0 => ?_)
    · have hul : u < a.length := by omega
      have ia : a.length - 1 - u < a.length := by omega
      have ih : h.length - 1 - u % h.length < h.length := by omega
      refine ⟨_, rfl, _, rfl, _, rfl, _, _, rfl, rfl, la, _, _, _, rfl, rfl, hA, atI_back (j := a.length - 1 - u) (by omega) (by omega) (by omega) (List.getElem?_eq_getElem ia), ?_⟩
      refine ⟨_, rfl, _, rfl, _, rfl, _, rfl, _, _, rfl, rfl, (show (0 : Int) < (h.length : Int) by omega), _, _, rfl, rfl, ?_⟩
      rw [em]
      refine ⟨lh, _, _, _, rfl, rfl, hH, atI_back (j := h.length - 1 - u % h.length) (by omega) (by omega) (by omega) (List.getElem?_eq_getElem ih), rfl, _, rfl, ite2D (fun hz => ?_) (fun hz => ?_)⟩
      · have hz := V.int.inj hz
        refine ⟨fun σ' H3 => σ' = [some (.int x), some (.ref la), some (.ref lh), some (.int (h.length : Int)), some (.int ((u + 1 : Nat) : Int)), none] ∧ H3 = H2, ?_, ?_⟩
        · rintro σ' H3 ⟨rfl, rfl⟩
          refine ⟨m - 1, by omega, u + 1, by omega, rfl, rfl, by omega, fun i hi => ?_⟩
          by_cases e : i = u
          · subst e
            rw [List.getElem?_eq_getElem ia, List.getElem?_eq_getElem ih, hz]
          · exact hd.2 i (by omega)
        · refine ⟨_, rfl, _, _, rfl, rfl, ?_, rfl⟩
          rw [show ((u + 1 : Nat) : Int) = (u : Int) + 1 by omega]; rfl
      · have stop : u < a.length → a[a.length - 1 - u]? ≠ h[h.length - 1 - u % h.length]? := fun _ e => by
          rw [List.getElem?_eq_getElem ia, List.getElem?_eq_getElem ih] at e
          exact hz (congrArg V.int (Option.some.inj e))
        refine ⟨_, rfl, _, rfl, _, rfl, _, _, rfl, rfl, (show (0 : Int) < (h.length : Int) by omega), _, _, rfl, rfl, ?_⟩
        dsimp only
        rw [em]
        have ec : (h.length : Int) - ((u % h.length : Nat) : Int) = ((h.length - u % h.length : Nat) : Int) := by omega
        rw [ec]
        refine ⟨_, rfl, _, rfl, _, rfl, la, _, rfl, .inl hA, _, rfl, _, _, rfl, rfl, _, rfl, la, _, rfl, hA, fun l3 h3 => ?_⟩
        rw [List.length_map, show (a.length : Int) - (u : Int) = ((a.length - u : Nat) : Int) by omega, cut_take (by omega)] at *
        have s3 := Same.upd (o := .lst ((a.take (a.length - u)).map V.int)) h3
        refine ⟨_, rfl, _, rfl, _, rfl, lh, _, rfl, s3.seq hH, fun l4 h4 => ?_⟩
        rw [cut_drop (by omega)] at *
        have s4 := s3.trans (Same.upd (o := .lst ((h.drop (h.length - u % h.length)).map V.int)) h4)
        refine ⟨_, rfl, _, rfl, _, rfl, lh, _, rfl, s4.seq hH, fun l5 h5 => ?_⟩
        rw [cut_take (by omega)] at *
        refine ⟨l4, l5, _, _, rfl, rfl, (by rw [upd_ne (ne_of_none upd_same h5)]; exact upd_same), upd_same, ?_, fun l6 h6 => ⟨(show 3 ≤ sizeLine by decide), fun p hp => ?_⟩⟩
        · rw [List.length_map, List.length_map, List.length_drop, List.length_take]
          exact Nat.le_of_lt (size2000 (by omega))
        have er : (h.drop (h.length - u % h.length)).map V.int ++ (h.take (h.length - u % h.length)).map V.int = (RF.rot (h.length - u % h.length) h).map V.int := by
          rw [RF.rot_eq _ _ (by omega), List.map_append]
        rw [er] at hp ⊢
        have s5 := s4.trans (Same.upd (o := .lst ((h.take (h.length - u % h.length)).map V.int)) h5)
        have hl3 := (Same.upd (o := .lst ((h.take (h.length - u % h.length)).map V.int)) h5) _ _ ((Same.upd (o := .lst ((h.drop (h.length - u % h.length)).map V.int)) h4) l3 _ upd_same)
        exact k u p l3 l6 _ hd stop (NewWr.mk1 s5 hl3 h3 h6 hp)
    · have stop : u < a.length → a[a.length - 1 - u]? ≠ h[h.length - 1 - u % h.length]? := fun z => absurd z (by omega)
      refine iteF ?_
      refine ⟨_, rfl, _, rfl, _, rfl, _, _, rfl, rfl, (show (0 : Int) < (h.length : Int) by omega), _, _, rfl, rfl, ?_⟩
      dsimp only
      rw [em]
      have ec : (h.length : Int) - ((u % h.length : Nat) : Int) = ((h.length - u % h.length : Nat) : Int) := by omega
      rw [ec]
      refine ⟨_, rfl, _, rfl, _, rfl, la, _, rfl, .inl hA, _, rfl, _, _, rfl, rfl, _, rfl, la, _, rfl, hA, fun l3 h3 => ?_⟩
      rw [List.length_map, show (a.length : Int) - (u : Int) = ((a.length - u : Nat) : Int) by omega, cut_take (by omega)] at *
      have s3 := Same.upd (o := .lst ((a.take (a.length - u)).map V.int)) h3
      refine ⟨_, rfl, _, rfl, _, rfl, lh, _, rfl, s3.seq hH, fun l4 h4 => ?_⟩
      rw [cut_drop (by omega)] at *
      have s4 := s3.trans (Same.upd (o := .lst ((h.drop (h.length - u % h.length)).map V.int)) h4)
      refine ⟨_, rfl, _, rfl, _, rfl, lh, _, rfl, s4.seq hH, fun l5 h5 => ?_⟩
      rw [cut_take (by omega)] at *
      refine ⟨l4, l5, _, _, rfl, rfl, (by rw [upd_ne (ne_of_none upd_same h5)]; exact upd_same), upd_same, ?_, fun l6 h6 => ⟨(show 3 ≤ sizeLine by decide), fun p hp => ?_⟩⟩
      · rw [List.length_map, List.length_map, List.length_drop, List.length_take]
        exact Nat.le_of_lt (size2000 (by omega))
      have er : (h.drop (h.length - u % h.length)).map V.int ++ (h.take (h.length - u % h.length)).map V.int = (RF.rot (h.length - u % h.length) h).map V.int := by
        rw [RF.rot_eq _ _ (by omega), List.map_append]
      rw [er] at hp ⊢
      have s5 := s4.trans (Same.upd (o := .lst ((h.take (h.length - u % h.length)).map V.int)) h5)
      have hl3 := (Same.upd (o := .lst ((h.take (h.length - u % h.length)).map V.int)) h5) _ _ ((Same.upd (o := .lst ((h.drop (h.length - u % h.length)).map V.int)) h4) l3 _ upd_same)
      exact k u p l3 l6 _ hd stop (NewWr.mk1 s5 hl3 h3 h6 hp)
theorem got_plain (T : Txt K mg) : Got P w K mg base "plain" 3 ["base", "writing"] (spPlain K) := by
  refine T.d_plain.got sc_plain (fun vs H Q E h => ?_) (fun f cdv A outer s H vs Q E hr h => ?_)
  · obtain ⟨b, p, la, lg, x, a, g, rfl, _⟩ := h; rfl
  · obtain ⟨b, p, la, lg, x, a, g, rfl, b2, b36, hW, hG, k⟩ := h
    refine ⟨_, (pss_cons (ps_expr (pe_callG (got_check_base T) (hr.mono (by decide)) rfl (pa_n (pv 0) pa_nil)))
      (pss_cons (ps_expr (pe_callG (got_check_writing T) (hr.mono (by decide)) rfl (pa_n (pv 0) (pa_n (pv 1) pa_nil))))
      (pss_cons (ps_set (i := 2) sc_plain.nd rfl (Or.inl rfl) (pe_ix ix_tup (pv 1) pe_int px_k))
      (pss_cons (ps_set (i := 3) sc_plain.nd rfl (Or.inl rfl) (pe_ix ix_tup (pv 1) pe_int px_k))
      (pss_cons (ps_set (i := 4) sc_plain.nd rfl (Or.inl rfl) (pe_callG (got_shortest_ring T) (hr.mono (by decide)) rfl (pa_s (pe_ix ix_tup (pv 1) pe_int px_k) pa_nil)))
      (pss_cons (ps_if (pt_cmpR (op_eqL hr.units) (pv 4) (pe_lst (pa_b (pe_op op_sub (pv 0) pe_int) pa_nil)) (nomark _)) (pss_one (ps_ret (pe_callG (got_rounded_up T) (hr.mono (by decide)) rfl (pa_n (pv 0) (pa_n (pv 2) (pa_n (pv 3) pa_nil)))))) pss_nil)
      (pss_cons (ps_if (PW.pt (pw_or (pt_cmpR (op_eqL hr.units) (pv 4) (pe_lst pa_nil) (nomark _)) (pw_or1 (pt_cmpR (op_eqL hr.units) (pv 4) (pe_lst (pa_k pe_int pa_nil)) (nomark _))))) (pss_one (ps_ret (pe_tup (pa_n (pv 2) (pa_c (pe_callG (got_without_last T) (hr.mono (by decide)) rfl (pa_n (pv 3) (pa_k pe_int pa_nil))) (pa_l (pe_lst pa_nil) pa_nil)))))) pss_nil)
      (pss_one (ps_ret (pe_callG (got_drawn_into_ring T) (hr.mono (by decide)) rfl (pa_n (pv 2) (pa_n (pv 3) (pa_n (pv 4) pa_nil))))))))))))), ?_⟩
    refine ⟨_, rfl, b, rfl, b2, b36, ?_⟩
    refine ⟨_, rfl, _, rfl, b, p, la, lg, x, a, g, rfl, hW, hG, ?_⟩
    refine ⟨_, rfl, p, _, _, _, rfl, rfl, hW.t, rfl, ?_⟩
    refine ⟨_, rfl, p, _, _, _, rfl, rfl, hW.t, rfl, ?_⟩
    refine ⟨_, rfl, p, _, _, _, rfl, rfl, hW.t, rfl, lg, g, rfl, hW.g, hG.lg, fun l1 h H1 hs s1 n1 hl1 => ?_⟩
    have sf := hs.facts
    have lh := sf.ln
    have lg4 := hG.lg
    refine ⟨_, rfl, _, rfl, _, _, rfl, rfl, (show 1 ≤ sizeLine by decide), fun l2 h2 => ⟨l1, l2, h, [b - 1], rfl, rfl, (Same.upd h2).seq (SqL.of hl1), SqL.of upd_same, _, rfl, ite2D (fun e1 => ?_) (fun e1 => ?_)⟩⟩
    · have s2 := s1.trans (Same.upd (o := .lst [.int (b - 1)]) h2)
      rw [e1] at hs
      refine ⟨_, rfl, _, rfl, _, rfl, b, x, la, a, rfl, s2.seq hW.a, hG.la, fun x' a' p' la' lg' H' ho hn => ?_⟩
      have nw := NewWr.up s2 hn
      rcases ho with ⟨hd, rfl, rfl⟩ | ⟨q, y, hd, rfl, rfl⟩
      · exact k _ _ _ p' la' lg' H' (RF.plain_up0 b2 hs hd) nw
      · exact k _ _ _ p' la' lg' H' (RF.plain_up b2 hG.fa hs hd) nw
    · have s2 := s1.trans (Same.upd (o := .lst [.int (b - 1)]) h2)
      have hl2 := (Same.upd (o := .lst [.int (b - 1)]) h2) _ _ hl1
      refine ⟨_, rfl, (show 0 ≤ sizeLine by decide), fun l3 h3 => ⟨l1, l3, h, [], rfl, rfl, (Same.upd h3).seq (SqL.of hl2), SqL.of upd_same, _, rfl, ite2D (fun e2 => ?_) (fun e2 => ?_)⟩⟩
      · have s3 := s2.trans (Same.upd (o := .lst []) h3)
        refine iteT ⟨_, rfl, _, rfl, la, a, 0, rfl, s3.seq hW.a, fun l5 a' hd n5 => ⟨(show 0 ≤ sizeLine by decide), fun l6 h6 => ⟨(show 3 ≤ sizeLine by decide), fun p' hp => ?_⟩⟩⟩
        exact k x a' [] p' l5 l6 _ (RF.plain_zero b2 hG.fa hs (.inl e2) hd) (NewWr.mk2 (g := []) s3 n5 h6 hp)
      · have s3 := s2.trans (Same.upd (o := .lst []) h3)
        have hl3 := (Same.upd (o := .lst []) h3) _ _ hl2
        refine ⟨_, rfl, (show 1 ≤ sizeLine by decide), fun l4 h4 => ⟨l1, l4, h, [0], rfl, rfl, (Same.upd h4).seq (SqL.of hl3), SqL.of upd_same, _, rfl, ite2D (fun e3 => ?_) (fun e3 => ?_)⟩⟩
        · have s4 := s3.trans (Same.upd (o := .lst [.int 0]) h4)
          refine ⟨_, rfl, _, rfl, la, a, 0, rfl, s4.seq hW.a, fun l5 a' hd n5 => ⟨(show 0 ≤ sizeLine by decide), fun l6 h6 => ⟨(show 3 ≤ sizeLine by decide), fun p' hp => ?_⟩⟩⟩
          exact k x a' [] p' l5 l6 _ (RF.plain_zero b2 hG.fa hs (.inr e3) hd) (NewWr.mk2 (g := []) s4 n5 h6 hp)
        · have s4 := s3.trans (Same.upd (o := .lst [.int 0]) h4)
          have hl4 := (Same.upd (o := .lst [.int 0]) h4) _ _ hl3
          refine ⟨_, rfl, _, rfl, _, rfl, x, la, l1, a, h, rfl, s4.seq hW.a, SqL.of hl4, e2, hG.la, by omega, fun u p' l5 l6 H' hd hst hn => ?_⟩
          exact k _ _ _ p' l5 l6 H' (RF.plain_draw b2 hG.fa hG.fg hs e2 e3 e1 hd hst) (NewWr.up s4 hn)
theorem got_is_plain (T : Txt K mg) : Got P w K mg base "is_plain" 3 ["base", "writing"] (spIsPlain K) := by
  refine T.d_is_plain.got sc_is_plain (fun vs H Q E h => ?_) (fun f cdv A outer s H vs Q E hr h => ?_)
  · obtain ⟨b, p, la, lg, x, a, g, rfl, _⟩ := h; rfl
  · obtain ⟨b, p, la, lg, x, a, g, rfl, b2, b36, hW, hG, k⟩ := h
    refine ⟨_, (pss_cons (ps_expr (pe_callG (got_check_base T) (hr.mono (by decide)) rfl (pa_n (pv 0) pa_nil)))
      (pss_cons (ps_expr (pe_callG (got_check_writing T) (hr.mono (by decide)) rfl (pa_n (pv 0) (pa_n (pv 1) pa_nil))))
      (pss_cons (ps_set (i := 2) sc_is_plain.nd rfl (Or.inl rfl) (pe_ix ix_tup (pv 1) pe_int px_k))
      (pss_cons (ps_set (i := 3) sc_is_plain.nd rfl (Or.inl rfl) (pe_ix ix_tup (pv 1) pe_int px_k))
      (pss_cons (ps_if (pt_cmpR (op_eqL hr.units) (pv 3) (pe_lst pa_nil) (nomark _)) (pss_one (ps_ret (pe_or (pe_cmpR (op_eqL hr.units) (pv 2) (pe_lst pa_nil) (nomark _)) (pe_one (pe_cmpR op_ne (pe_ix ix_list (pv 2) (pe_un un_neg pe_int) px_u) pe_int (nomark _)))))) pss_nil)
      (pss_cons (ps_if (PW.pt (pw_or (pt_cmpR (op_neL hr.units) (pe_callG (got_shortest_ring T) (hr.mono (by decide)) rfl (pa_n (pv 3) pa_nil)) (pv 3) (nomark _)) (pw_or (pt_cmpR (op_eqL hr.units) (pv 3) (pe_lst (pa_k pe_int pa_nil)) (nomark _)) (pw_or1 (pt_cmpR (op_eqL hr.units) (pv 3) (pe_lst (pa_b (pe_op op_sub (pv 0) pe_int) pa_nil)) (nomark _)))))) (pss_one (ps_ret pe_bl)) pss_nil)
      (pss_one (ps_ret (pe_or (pe_cmpR (op_eqL hr.units) (pv 2) (pe_lst pa_nil) (nomark _)) (pe_one (pe_cmpR op_ne (pe_ix ix_list (pv 2) (pe_un un_neg pe_int) px_u) (pe_ix ix_list (pv 3) (pe_un un_neg pe_int) px_u) (nomark _)))))))))))), ?_⟩
    refine ⟨_, rfl, b, rfl, b2, b36, ?_⟩
    refine ⟨_, rfl, _, rfl, b, p, la, lg, x, a, g, rfl, hW, hG, ?_⟩
    refine ⟨_, rfl, p, _, _, _, rfl, rfl, hW.t, rfl, ?_⟩
    refine ⟨_, rfl, p, _, _, _, rfl, rfl, hW.t, rfl, ?_⟩
    refine ⟨_, rfl, (show 0 ≤ sizeLine by decide), fun l1 h1 => ⟨lg, l1, g, [], rfl, rfl, (Same.upd h1).seq hW.g, SqL.of upd_same, _, rfl, ite2D (fun e1 => ?_) (fun e1 => ?_)⟩⟩
    · have s1 := Same.upd (o := .lst []) h1
      subst e1
      refine ⟨_, rfl, (show 0 ≤ sizeLine by decide), fun l2 h2 => ⟨la, l2, a, [], rfl, rfl, (Same.upd h2).seq (s1.seq hW.a), SqL.of upd_same, _, rfl, ite2D (fun e2 => ?_) (fun e2 => ?_)⟩⟩
      · have s2 := s1.trans (Same.upd (o := .lst []) h2)
        exact k true _ (by rw [RF.plain_noring, e2]; simp) s2
      · have s2 := s1.trans (Same.upd (o := .lst []) h2)
        obtain ⟨q, y, rfl⟩ : ∃ q y, a = q ++ [y] := by
          rcases List.eq_nil_or_concat a with e | ⟨q, y, e⟩
          · exact absurd e e2
          · exact ⟨q, y, by rw [e, List.concat_eq_append]⟩
        refine ⟨_, rfl, _, rfl, la, _, _, _, rfl, rfl, s2.seq hW.a, (show atI ((q ++ [y]).map V.int) (-1) = some (.int y) by rw [List.map_append]; exact atI_last _ _), rfl, ?_⟩
        refine k _ _ ?_ s2
        rw [RF.plain_noring]
        simp
    · have s1 := Same.upd (o := .lst []) h1
      have hp := RF.plain_ring (b := b) (a := a) e1
      have lg4 := hG.lg
      refine ⟨_, rfl, lg, g, rfl, s1.seq hW.g, lg4, fun l2 h H2 hs s2 n2 hl2 => ⟨_, rfl, l2, lg, h, g, rfl, rfl, SqL.of hl2, s2.seq (s1.seq hW.g), _, rfl, ite2N (fun ne => ?_) (fun eq => ?_)⟩⟩
      · refine iteT (k false _ ?_ (s1.trans s2))
        rw [hp]
        exact ⟨fun z => Bool.noConfusion z, fun z => absurd (hs.self.mpr z.1) ne⟩
      · have pr := hs.self.mp eq
        have s3 := s1.trans s2
        refine ⟨_, rfl, (show 1 ≤ sizeLine by decide), fun l3 h3 => ⟨lg, l3, g, [0], rfl, rfl, (Same.upd h3).seq (s3.seq hW.g), SqL.of upd_same, _, rfl, ite2D (fun e2 => ?_) (fun e2 => ?_)⟩⟩
        · refine iteT (k false _ ?_ (s3.trans (Same.upd h3)))
          rw [hp]
          exact ⟨fun z => Bool.noConfusion z, fun z => absurd e2 z.2.1⟩
        · have s4 := s3.trans (Same.upd (o := .lst [.int 0]) h3)
          refine ⟨_, rfl, _, rfl, _, _, rfl, rfl, (show 1 ≤ sizeLine by decide), fun l4 h4 => ⟨lg, l4, g, [b - 1], rfl, rfl, (Same.upd h4).seq (s4.seq hW.g), SqL.of upd_same, _, rfl, ite2D (fun e3 => ?_) (fun e3 => ?_)⟩⟩
          · refine k false _ ?_ (s4.trans (Same.upd h4))
            rw [hp]
            exact ⟨fun z => Bool.noConfusion z, fun z => absurd e3 z.2.2.1⟩
          · have s5 := s4.trans (Same.upd (o := .lst [.int (b - 1)]) h4)
            refine ⟨_, rfl, (show 0 ≤ sizeLine by decide), fun l5 h5 => ⟨la, l5, a, [], rfl, rfl, (Same.upd h5).seq (s5.seq hW.a), SqL.of upd_same, _, rfl, ite2D (fun e4 => ?_) (fun e4 => ?_)⟩⟩
            · refine k true _ ?_ (s5.trans (Same.upd h5))
              rw [hp, e4]
              refine ⟨fun _ => ⟨pr, e2, e3, fun z => e1 ?_⟩, fun _ => rfl⟩
              exact List.getLast?_eq_none_iff.mp z.symm
            · have s6 := s5.trans (Same.upd (o := .lst []) h5)
              obtain ⟨q, y, rfl⟩ : ∃ q y, a = q ++ [y] := by
                rcases List.eq_nil_or_concat a with e | ⟨q, y, e⟩
                · exact absurd e e4
                · exact ⟨q, y, by rw [e, List.concat_eq_append]⟩
              obtain ⟨q', y', rfl⟩ : ∃ q y, g = q ++ [y] := by
                rcases List.eq_nil_or_concat g with e | ⟨q, y, e⟩
                · exact absurd e e1
                · exact ⟨q, y, by rw [e, List.concat_eq_append]⟩
              refine ⟨_, rfl, _, rfl, la, _, _, _, rfl, rfl, s6.seq hW.a, (show atI ((q ++ [y]).map V.int) (-1) = some (.int y) by rw [List.map_append]; exact atI_last _ _), ?_⟩
              refine ⟨_, rfl, _, rfl, lg, _, _, _, rfl, rfl, s6.seq hW.g, (show atI ((q' ++ [y']).map V.int) (-1) = some (.int y') by rw [List.map_append]; exact atI_last _ _), rfl, ?_⟩
              refine k _ _ ?_ s6
              rw [hp]
              simp only [List.getLast?_concat, Bool.not_eq_true', decide_eq_false_iff_not]
              constructor
              · exact fun z => ⟨pr, e2, e3, fun e => z (congrArg V.int (Option.some.inj e))⟩
              · exact fun z e => z.2.2.2 (congrArg some (V.int.inj e))
theorem got_law_cell_at (T : Txt K mg) : Got P w K mg base "_law_cell_at" 1 ["script", "k"] (spCell K) := by
  refine T.d_law_cell_at.got sc_law_cell_at (fun vs H Q E h => ?_) (fun f cdv A outer s H vs Q E hr h => ?_)
  · obtain ⟨a, ns, k, rfl, _⟩ := h; rfl
  · obtain ⟨a, ns, i, rfl, hS, h0, k⟩ := h
    refine ⟨_, (pss_cons (ps_if (pt_cmpR op_lt (pv 1) (pe_callB call_len_seq rfl T.b_len PySem.boot_len (pa_n (pv 0) pa_nil)) (nomark _)) (pss_one (ps_ret (pe_ix ix_list (pv 0) (pv 1) px_n))) pss_nil)
      (pss_one (ps_ret pe_int))), ?_⟩
    refine ⟨_, rfl, _, rfl, a, _, rfl, .inl hS, _, _, rfl, rfl, _, rfl, ite2D (fun hk => ?_) (fun hk => ?_)⟩
    · rw [List.length_map] at hk
      exact ⟨_, rfl, _, rfl, a, _, _, _, rfl, rfl, hS, atI_int h0 hk, k _ rfl⟩
    · rw [List.length_map] at hk
      exact k 0 (getD_out hk).symm
theorem got_law_draw (T : Txt K mg) : Got P w K mg base "_law_draw" 1 ["cell", "k", "bound"] spDraw := by
  refine T.d_law_draw.got sc_law_draw (fun vs H Q E h => ?_) (fun f cdv A outer s H vs Q E hr h => ?_)
  · obtain ⟨c, i, b, rfl, _⟩ := h; rfl
  · obtain ⟨c, i, b, rfl, hb, k⟩ := h
    refine ⟨_, (pss_cons (ps_set (i := 3) sc_law_draw.nd rfl (Or.inl rfl) (pe_op op_mod (pe_op op_mul (pe_op op_add (pe_op op_add (pe_op op_mod (pv 0) pe_int) (pe_op op_mul pe_int (pv 1))) pe_int) pe_int) pe_int))
      (pss_cons (ps_set (i := 3) sc_law_draw.nd rfl (Or.inl rfl) (pe_op op_mod (pe_op op_mul (pv 3) (pv 3)) pe_int))
      (pss_cons (ps_set (i := 3) sc_law_draw.nd rfl (Or.inl rfl) (pe_op op_mod (pe_op op_mul (pe_op op_add (pv 3) (pe_op op_mul pe_int (pe_op op_add (pv 1) pe_int))) pe_int) pe_int))
      (pss_one (ps_ret (pe_op op_mod (pe_op op_fdiv (pv 3) pe_int) (pv 2))))))), ?_⟩
    refine ⟨_, rfl, _, _, rfl, rfl, (show (0 : Int) < 2147483647 by decide), _, rfl, _, _, rfl, rfl, .inl ⟨by decide, by decide⟩, _, _, rfl, rfl, _, _, rfl, rfl, _, _, rfl, rfl, .inr ⟨by decide, by decide⟩, _, _, rfl, rfl, (show (0 : Int) < 2147483647 by decide), ?_⟩
    refine ⟨_, rfl, _, rfl, _, _, rfl, rfl, cmul_mod _ _, _, _, rfl, rfl, (show (0 : Int) < 2147483629 by decide), ?_⟩
    refine ⟨_, rfl, _, rfl, _, _, rfl, rfl, _, _, rfl, rfl, .inl ⟨by decide, by decide⟩, _, _, rfl, rfl, _, _, rfl, rfl, .inr ⟨by decide, by decide⟩, _, _, rfl, rfl, (show (0 : Int) < 2147483647 by decide), ?_⟩
    exact ⟨_, rfl, _, _, rfl, rfl, ⟨by decide, by decide⟩, _, rfl, _, _, rfl, rfl, hb, k⟩
theorem got_law_whole (T : Txt K mg) : Got P w K mg base "_law_whole" 1 ["found"] spWhole := by
  refine T.d_law_whole.got sc_law_whole (fun vs H Q E h => ?_) (fun f cdv A outer s H vs Q E hr h => ?_)
  · obtain ⟨i, rfl, _⟩ := h; rfl
  · obtain ⟨i, rfl, k⟩ := h
    refine ⟨_, (pss_one (ps_ret (pe_and (pe_callB call_isi rfl T.b_isinstance PyProof.Rows.boot_isinstance (pa_n (pv 0) (pa_n (pe_bltn (v := .ty "int") rfl T.b_int PyProof.Rows.boot_int rfl) pa_nil))) (pe_one (pe_not (pe_callB call_isi rfl T.b_isinstance PyProof.Rows.boot_isinstance (pa_n (pv 0) (pa_n (pe_bltn (v := .ty "bool") rfl T.b_bool PyProof.Rows.boot_bool rfl) pa_nil)))))))), ?_⟩
    refine ⟨_, rfl, _, _, _, _, rfl, .int i, kit_self _ rfl, _, rfl, iteT ?_⟩
    exact ⟨_, rfl, _, _, _, _, rfl, .int i, kit_int_bool, _, rfl, k⟩
theorem got_law_common (T : Txt K mg) : Got P w K mg base "_law_common" 1 ["one", "other"] spCommon := by
  refine T.d_law_common.got sc_law_common (fun vs H Q E h => ?_) (fun f cdv A outer s H vs Q E hr h => ?_)
  · obtain ⟨x, y, rfl, _⟩ := h; rfl
  · obtain ⟨x, y, rfl, x0, y0, k⟩ := h
    refine ⟨_, (pss_cons (ps_while PassesOwn.never (pt_cmpR op_gt (pv 1) pe_int (nomark _)) (pss_cons (ps_set (i := 2) sc_law_common.nd rfl (Or.inl rfl) (pe_op op_mod (pv 0) (pv 1)))
      (pss_cons (ps_set (i := 0) sc_law_common.nd rfl (Or.inl rfl) (pv 1))
      (pss_one (ps_set (i := 1) sc_law_common.nd rfl (Or.inl rfl) (pv 2))))))
      (pss_one (ps_ret (pv 0)))), ?_⟩
    refine ⟨fun m σ H2 => ∃ (x' y' : Int) (v : Option V), m = y'.toNat ∧ 0 ≤ x' ∧ 0 ≤ y' ∧ Int.gcd x' y' = Int.gcd x y ∧ σ = [some (.int x'), some (.int y'), v] ∧ H2 = H, ⟨_, x, y, _, rfl, x0, y0, rfl, rfl, rfl⟩, ?_⟩
    rintro m σ H2 ⟨x', y', v, rfl, x0', y0', e, rfl, rfl⟩
    refine ⟨_, rfl, _, _, rfl, rfl, _, rfl, ite2D (fun hz => ?_) (fun hz => ?_)⟩
    · have hy : 0 < y' := by omega
      refine ⟨fun σ' H3 => σ' = [some (.int y'), some (.int (x' % y')), some (.int (x' % y'))] ∧ H3 = H2, ?_, ?_⟩
      · rintro σ' H3 ⟨rfl, rfl⟩
        have h1 := Int.emod_nonneg x' (show y' ≠ 0 by omega)
        have h2 := Int.emod_lt_of_pos x' hy
        exact ⟨_, by omega, y', x' % y', _, rfl, by omega, h1, by rw [RF.gcd_step]; exact e, rfl, rfl⟩
      · refine ⟨_, rfl, _, rfl, _, _, rfl, rfl, hy, ?_⟩
        exact ⟨_, rfl, _, rfl, rfl, rfl⟩
    · have hy : y' = 0 := by omega
      subst hy
      refine ⟨_, rfl, ?_⟩
      have e2 : ((Int.gcd x y : Nat) : Int) = x' := by
        rw [← e, Int.gcd_zero_right]
        omega
      rw [e2] at k
      exact k
theorem got_law_lowest (T : Txt K mg) : Got P w K mg base "_law_lowest" 2 ["top", "bottom"] spLowest := by
  refine T.d_law_lowest.got sc_law_lowest (fun vs H Q E h => ?_) (fun f cdv A outer s H vs Q E hr h => ?_)
  · obtain ⟨x, y, rfl, _⟩ := h; rfl
  · obtain ⟨x, y, rfl, x0, y0, hd, k⟩ := h
    have g0 : 0 < Int.gcd x y := Int.gcd_pos_of_ne_zero_right _ (by omega)
    refine ⟨_, (pss_cons (ps_set (i := 2) sc_law_lowest.nd rfl (Or.inl rfl) (pe_callG (got_law_common T) (hr.mono (by decide)) rfl (pa_n (pv 0) (pa_n (pv 1) pa_nil))))
      (pss_one (ps_ret (pe_tup (pa_b (pe_op op_fdivB (pv 0) (pv 2)) (pa_b (pe_op op_fdivB (pv 1) (pv 2)) pa_nil)))))), ?_⟩
    refine ⟨_, rfl, _, rfl, x, y, rfl, x0, by omega, ?_⟩
    refine ⟨_, rfl, _, rfl, _, _, rfl, rfl, ⟨by omega, hd.2⟩, _, rfl, _, rfl, _, _, rfl, rfl, ⟨by omega, hd.1⟩, (show 2 ≤ sizeLine by decide), fun p hp => ?_⟩
    exact k p hp
theorem got_law_figures_by (T : Txt K mg) : Got P w K mg base "_law_figures_by" 2 ["cell", "base", "many"] spFiguresBy := by
  refine T.d_law_figures_by.got sc_law_figures_by (fun vs H Q E h => ?_) (fun f cdv A outer s H vs Q E hr h => ?_)
  · obtain ⟨c, b, n, rfl, _⟩ := h; rfl
  · obtain ⟨c, b, n, rfl, b2, b36, n0, n1, k⟩ := h
    refine ⟨_, (pss_one (ps_ret (pe_comp [("cell", 0), ("base", 1)] rfl (pi_range1 rfl T.b_range (pa_n (pv 2) pa_nil)) ⟨rfl, by decide +kernel, by decide +kernel, rfl, rfl, rfl, ⟨⟨rfl, Or.inr (Or.inl rfl), Or.inl rfl, Or.inl rfl, rfl⟩, ⟨⟨rfl, Or.inr (Or.inl rfl), Or.inl rfl, Or.inl rfl, rfl⟩, True.intro⟩⟩, by decide +kernel⟩ (fun _ _ _ _ => (pe_callG (got_law_draw T) (hr.mono (by decide)) rfl (pa_n (pv 1) (pa_n (pv 0) (pa_n (pv 2) pa_nil)))))))), ?_⟩
    refine ⟨_, rfl, n, rfl, by omega, by omega, fun D hD => ?_⟩
    refine comp_range (lo := 0) (n := n.toNat) (fun i => V.int (drawF c (0 + (i : Int)) b)) (Nat.le_of_lt (size2000 (by omega))) hD ?_ ?_
    · intro i H2 hi s2 R hR
      exact ⟨_, rfl, _, rfl, _, rfl, c, _, b, rfl, by omega, hR⟩
    · have e : (List.range n.toNat).map (fun (i : Nat) => V.int (drawF c (0 + (i : Int)) b)) = (drawL c b n.toNat).map V.int := by
        unfold drawL
        rw [List.map_map]; rfl
      rw [e]
      exact k (drawL c b n.toNat) D drawL_length (drawL_figs (by omega)) hD
theorem got_law_writing_by (T : Txt K mg) : Got P w K mg base "_law_writing_by" 3 ["script", "first", "base"] (spWritingBy K) := by
  refine T.d_law_writing_by.got sc_law_writing_by (fun vs H Q E h => ?_) (fun f cdv A outer s H vs Q E hr h => ?_)
  · obtain ⟨sc, ns, i, b, rfl, _⟩ := h; rfl
  · obtain ⟨sc, ns, i, b, rfl, hS, i0, b2, b36, k⟩ := h
    refine ⟨_, (pss_cons (ps_set (i := 3) sc_law_writing_by.nd rfl (Or.inl rfl) (pe_op op_mod (pe_callG (got_law_cell_at T) (hr.mono (by decide)) rfl (pa_n (pv 0) (pa_n (pv 1) pa_nil))) pe_int))
      (pss_mid (ps_if (pt_cmpR op_eq (pe_op op_mod (pe_op op_fdiv (pe_callG (got_law_cell_at T) (hr.mono (by decide)) rfl (pa_n (pv 0) (pa_n (pv 1) pa_nil))) pe_int) pe_int) pe_int (nomark _)) (pss_one (ps_set (i := 3) sc_law_writing_by.nd rfl (Or.inl rfl) (pe_op op_mod (pe_callG (got_law_cell_at T) (hr.mono (by decide)) rfl (pa_n (pv 0) (pa_n (pv 1) pa_nil))) (pe_op op_pow pe_int pe_int)))) pss_nil)
      (pss_mid (ps_if (pt_cmpR op_eq (pe_op op_mod (pe_op op_fdiv (pe_callG (got_law_cell_at T) (hr.mono (by decide)) rfl (pa_n (pv 0) (pa_n (pv 1) pa_nil))) pe_int) pe_int) pe_int (nomark _)) (pss_one (ps_set (i := 3) sc_law_writing_by.nd rfl (Or.inl rfl) (pe_op op_pow pe_int pe_int))) pss_nil)
      (pss_cons (ps_set (i := 4) sc_law_writing_by.nd rfl (Or.inl rfl) (pe_callG (got_law_cell_at T) (hr.mono (by decide)) rfl (pa_n (pv 0) (pa_b (pe_op op_add (pv 1) pe_int) pa_nil))))
      (pss_cons (ps_set (i := 5) sc_law_writing_by.nd rfl (Or.inl rfl) (pe_callG (got_law_figures_by T) (hr.mono (by decide)) rfl (pa_c (pe_callG (got_law_cell_at T) (hr.mono (by decide)) rfl (pa_n (pv 0) (pa_b (pe_op op_add (pv 1) pe_int) pa_nil))) (pa_n (pv 2) (pa_b (pe_op op_mod (pv 4) pe_int) pa_nil)))))
      (pss_cons (ps_set (i := 6) sc_law_writing_by.nd rfl (Or.inl rfl) (pe_callG (got_law_figures_by T) (hr.mono (by decide)) rfl (pa_c (pe_callG (got_law_cell_at T) (hr.mono (by decide)) rfl (pa_n (pv 0) (pa_b (pe_op op_add (pv 1) pe_int) pa_nil))) (pa_n (pv 2) (pa_b (pe_op op_mod (pe_op op_fdiv (pv 4) pe_int) pe_int) pa_nil)))))
      (pss_cons (ps_set (i := 7) sc_law_writing_by.nd rfl (Or.inl rfl) (pe_op op_mod (pe_op op_fdiv (pv 4) pe_int) pe_int))
      (pss_cons (ps_if (pt_cmpR op_eq (pe_op op_mod (pe_op op_fdiv (pv 4) pe_int) pe_int) pe_int (nomark _)) (pss_cons (ps_set (i := 6) sc_law_writing_by.nd rfl (Or.inl rfl) (pe_callG (got_law_figures_by T) (hr.mono (by decide)) rfl (pa_c (pe_callG (got_law_cell_at T) (hr.mono (by decide)) rfl (pa_n (pv 0) (pa_b (pe_op op_add (pv 1) pe_int) pa_nil))) (pa_n (pv 2) (pa_b (pe_op op_add pe_int (pe_op op_mod (pe_op op_fdiv (pv 4) pe_int) pe_int)) pa_nil)))))
      (pss_cons (ps_set (i := 5) sc_law_writing_by.nd rfl (Or.inl rfl) (pe_op op_cat (pe_op op_cat (pv 5) (pe_callG (got_law_figures_by T) (hr.mono (by decide)) rfl (pa_c (pe_callG (got_law_cell_at T) (hr.mono (by decide)) rfl (pa_n (pv 0) (pa_b (pe_op op_add (pv 1) pe_int) pa_nil))) (pa_n (pv 2) (pa_k pe_int pa_nil))))) (pe_slice sl_list (pv 6) (po_some (pe_op op_mod (pv 4) pe_int)) po_none)))
      (pss_one (ps_ret (pe_tup (pa_n (pv 3) (pa_n (pv 5) (pa_b (pe_op op_rep (pv 6) (pe_op op_add pe_int (pe_op op_mod (pv 4) pe_int))) pa_nil)))))))) pss_nil)
      (pss_mid (ps_if (pt_cmpR op_eq (pv 7) pe_int (nomark _)) (pss_one (ps_comp (i := 6) [("base", 2)] sc_law_writing_by.nd rfl (Or.inl rfl) rfl (pi_list (pv 6)) ⟨rfl, by decide +kernel, by decide +kernel, rfl, rfl, rfl, ⟨⟨rfl, Or.inr (Or.inl rfl), Or.inl rfl, Or.inl rfl, rfl⟩, True.intro⟩, by decide +kernel⟩ (fun _ _ _ _ => (pe_op op_sub (pv 1) pe_int)))) pss_nil)
      (pss_mid (ps_if (pt_cmpR op_eq (pv 7) pe_int (nomark _)) (pss_one (ps_comp (i := 6) [] sc_law_writing_by.nd rfl (Or.inl rfl) rfl (pi_list (pv 6)) ⟨rfl, by decide +kernel, by decide +kernel, rfl, rfl, rfl, True.intro, by decide +kernel⟩ (fun _ _ _ _ => pe_int))) pss_nil)
      (pss_mid (ps_if (pt_cmpR op_eq (pv 7) pe_int (nomark _)) (pss_one (ps_set (i := 6) sc_law_writing_by.nd rfl (Or.inl rfl) (pe_op op_cat (pv 6) (pv 6)))) pss_nil)
      (pss_mid (ps_if (pt_cmpR op_eq (pv 7) pe_int (nomark _)) (pss_one (ps_set (i := 5) sc_law_writing_by.nd rfl (Or.inl rfl) (pe_op op_cat (pv 5) (pe_slice sl_list (pv 6) (po_some pe_int) po_none)))) pss_nil)
      (pss_mid (ps_if (pt_cmpR op_eq (pv 7) pe_int (nomark _)) (pss_cons (ps_set (i := 5) sc_law_writing_by.nd rfl (Or.inl rfl) (pe_op op_cat (pv 5) (pe_comp [("base", 2)] rfl (pi_list (pv 6)) ⟨rfl, by decide +kernel, by decide +kernel, rfl, rfl, rfl, ⟨⟨rfl, Or.inr (Or.inl rfl), Or.inl rfl, Or.inl rfl, rfl⟩, True.intro⟩, by decide +kernel⟩ (fun _ _ _ _ => (pe_op op_sub (pv 1) pe_int)))))
      (pss_one (ps_set (i := 6) sc_law_writing_by.nd rfl (Or.inl rfl) (pe_lst (pa_b (pe_op op_sub (pv 2) pe_int) pa_nil))))) pss_nil)
      (pss_mid (ps_if (pt_cmpR op_eq (pv 7) pe_int (nomark _)) (pss_cons (ps_set (i := 5) sc_law_writing_by.nd rfl (Or.inl rfl) (pe_op op_cat (pv 5) (pe_comp [] rfl (pi_list (pv 6)) ⟨rfl, by decide +kernel, by decide +kernel, rfl, rfl, rfl, True.intro, by decide +kernel⟩ (fun _ _ _ _ => pe_int))))
      (pss_one (ps_set (i := 6) sc_law_writing_by.nd rfl (Or.inl rfl) (pe_lst pa_nil)))) pss_nil)
      (pss_mid (ps_if (pt_cmpR op_eq (pv 7) pe_int (nomark _)) (pss_one (ps_set (i := 6) sc_law_writing_by.nd rfl (Or.inl rfl) (pe_op op_rep (pe_slice sl_list (pv 6) po_none (po_some pe_int)) (pe_op op_add pe_int (pe_op op_mod (pe_op op_fdiv (pv 4) pe_int) pe_int))))) pss_nil)
      (pss_one (ps_ret (pe_tup (pa_n (pv 3) (pa_n (pv 5) (pa_n (pv 6) pa_nil))))))))))))))))))))), ?_⟩
    refine ⟨_, rfl, _, rfl, sc, ns, _, rfl, hS, i0, fun z0 _ => ⟨_, _, rfl, rfl, (show (0 : Int) < 40 by decide), ?_⟩⟩
    refine ⟨fun σ' H' => ∃ x : Int, 0 ≤ x ∧ x ≤ 1000000000000 ∧ σ' = [some (.ref sc), some (.int i), some (.int b), some (.int x), none, none, none, none] ∧ H' = H, ?_, ?_⟩
    · refine ⟨_, rfl, _, rfl, sc, ns, _, rfl, hS, i0, fun z _ => ⟨_, _, rfl, rfl, ⟨by decide, by decide⟩, _, _, rfl, rfl, (show (0 : Int) < 4 by decide), rfl, _, rfl, ite2D (fun _ => ?_) (fun _ => ?_)⟩⟩
      · refine ⟨_, rfl, _, rfl, sc, ns, _, rfl, hS, i0, fun z2 _ => ⟨_, _, rfl, rfl, ⟨by decide, by decide, by decide⟩, _, _, rfl, rfl, (show (0 : Int) < 10 ^ (12 : Int).toNat by decide), ?_⟩⟩
        have e := pow12
        exact ⟨z2 % 10 ^ (12 : Int).toNat, by rw [e]; omega, by rw [e]; omega, rfl, rfl⟩
      · exact ⟨z0 % 40, by omega, by omega, rfl, rfl⟩
    rintro σ' H' ⟨x, x0, x1, rfl, rfl⟩
    refine ⟨fun σ' H2 => ∃ x : Int, 0 ≤ x ∧ x ≤ 1000000000000 ∧ σ' = [some (.ref sc), some (.int i), some (.int b), some (.int x), none, none, none, none] ∧ H2 = H', ?_, ?_⟩
    · refine ⟨_, rfl, _, rfl, sc, ns, _, rfl, hS, i0, fun z _ => ⟨_, _, rfl, rfl, ⟨by decide, by decide⟩, _, _, rfl, rfl, (show (0 : Int) < 16 by decide), rfl, _, rfl, ite2D (fun _ => ?_) (fun _ => ?_)⟩⟩
      · refine ⟨_, _, rfl, rfl, ⟨by decide, by decide, by decide⟩, ?_⟩
        exact ⟨10 ^ (12 : Int).toNat, by decide, by decide, rfl, rfl⟩
      · exact ⟨x, x0, x1, rfl, rfl⟩
    clear x x0 x1
    rintro σ' H ⟨x, x0, x1, rfl, rfl⟩
    -- cell, ahead, ring, way
    refine ⟨_, rfl, _, rfl, _, _, rfl, rfl, sc, ns, _, rfl, hS, by omega, fun c _ => ?_⟩
    refine ⟨_, rfl, _, rfl, _, _, rfl, rfl, sc, ns, _, rfl, hS, by omega, fun z1 _ => ⟨_, rfl, _, rfl, _, _, rfl, rfl, (show (0 : Int) < 6 by decide), z1, b, _, rfl, b2, b36, by omega, by omega, fun a la ha fa na => ?_⟩⟩
    have s1 := Same.upd (o := .lst (a.map V.int)) na
    refine ⟨_, rfl, _, rfl, _, _, rfl, rfl, sc, ns, _, rfl, s1.seq hS, by omega, fun z2 _ => ⟨_, rfl, _, rfl, _, _, rfl, rfl, ⟨by decide, by decide⟩, _, _, rfl, rfl, (show (0 : Int) < 7 by decide), z2, b, _, rfl, b2, b36, by omega, by omega, fun g lg hg fg ng => ?_⟩⟩
    have s2 := s1.trans (Same.upd (o := .lst (g.map V.int)) ng)
    have n0 : NewLs H (upd (upd H la (.lst (a.map V.int))) lg (.lst (g.map V.int))) la lg a g :=
      ⟨s2, (Same.upd ng) _ _ upd_same, upd_same, na, s1.free ng, ne_of_none upd_same ng⟩
    refine ⟨_, rfl, _, _, rfl, rfl, ⟨by decide, by decide⟩, _, _, rfl, rfl, (show (0 : Int) < 8 by decide), ?_⟩
    refine ⟨_, rfl, _, _, rfl, rfl, ⟨by decide, by decide⟩, _, _, rfl, rfl, (show (0 : Int) < 9 by decide), rfl, _, rfl, ite2D (fun _ => ?_) (fun _ => ?_)⟩
    · -- the long one
      refine ⟨_, rfl, _, rfl, _, _, rfl, rfl, sc, ns, _, rfl, s2.seq hS, by omega, fun z3 _ => ⟨_, rfl, _, rfl, _, _, rfl, rfl, ⟨by decide, by decide⟩, _, _, rfl, rfl, (show (0 : Int) < 40 by decide), _, _, rfl, rfl, z3, b, _, rfl, b2, b36, by omega, by omega, fun r lr hr' fr nr => ?_⟩⟩
      have n1 := n0.ring (h := r) nr
      refine ⟨_, rfl, _, rfl, _, rfl, _, _, rfl, rfl, sc, ns, _, rfl, n1.sm.seq hS, by omega, fun z4 _ => ⟨_, rfl, z4, b, _, rfl, b2, b36, by decide, by decide, fun e le he fe ne' => ?_⟩⟩
      have n2 := n1.more (o := .lst (e.map V.int)) ne'
      have hle : upd (upd (upd (upd H la (.lst (a.map V.int))) lg (.lst (g.map V.int))) lr (.lst (r.map V.int))) le (.lst (e.map V.int)) le = some (.lst (e.map V.int)) := upd_same
      have he50 : e.length = 50 := he
      have hrl : r.length ≤ 69 ∧ 30 ≤ r.length := by rw [hr']; omega
      have hal : a.length ≤ 5 := by rw [ha]; omega
      refine ⟨la, le, _, _, rfl, rfl, n2.a, hle, ?_, fun l1 h1 => ?_⟩
      · rw [List.length_map, List.length_map]
        exact Nat.le_of_lt (size2000 (by omega))
      rw [← List.map_append]
      have n3 := n2.more (o := .lst ((a ++ e).map V.int)) h1
      have hl1 := (upd_same : upd (upd (upd (upd (upd H la (.lst (a.map V.int))) lg (.lst (g.map V.int))) lr (.lst (r.map V.int))) le (.lst (e.map V.int))) l1 (.lst ((a ++ e).map V.int)) l1 = _)
      refine ⟨_, rfl, _, rfl, _, _, rfl, rfl, (show (0 : Int) < 9 by decide), _, rfl, lr, _, rfl, SqL.of n3.g, fun l2 h2 => ?_⟩
      dsimp only
      rw [cut_dropI (by omega) (by omega)]
      have n4 := n3.more (o := .lst ((r.drop (c % 9).toNat).map V.int)) h2
      refine ⟨l1, l2, _, _, rfl, rfl, (Same.upd h2) _ _ hl1, upd_same, ?_, fun l3 h3 => ?_⟩
      · rw [List.length_map, List.length_map, List.length_append, List.length_drop]
        exact Nat.le_of_lt (size2000 (by omega))
      rw [← List.map_append]
      have n5 := n4.ahead (h := a ++ e ++ r.drop (c % 9).toNat) h3
      refine ⟨_, rfl, _, rfl, _, rfl, _, rfl, _, _, rfl, rfl, (show (0 : Int) < 2 by decide), _, _, rfl, rfl, lr, _, _, rfl, rfl, n5.g, by omega, by omega, ?_, fun l4 h4 => ⟨(show 3 ≤ sizeLine by decide), fun p hp => ?_⟩⟩
      · rw [List.length_map]
        refine Nat.le_of_lt (size2000 (Nat.le_trans (Nat.mul_le_mul_left r.length (show (1 + c % 2).toNat ≤ 2 by omega)) (by omega)))
      rw [map_rep] at hp ⊢
      have n6 := n5.ring (h := RF.rep (1 + c % 2).toNat r) h4
      refine k x _ _ p l3 l4 _ ⟨x0, x1, figs_append (figs_append fa fe) (figs_drop fr), figs_rep fr, ?_, ?_⟩ ?_ ?_ (n6.wr hp)
      · rw [List.length_append, List.length_append, List.length_drop]; omega
      · rw [RF.rep_length]
        exact Nat.le_trans (Nat.mul_le_mul_right r.length (show (1 + c % 2).toNat ≤ 2 by omega)) (by omega)
      · rw [List.length_append, List.length_append, List.length_drop]; omega
      · rw [RF.rep_length]
        exact Nat.le_trans (Nat.mul_le_mul_right r.length (show (1 + c % 2).toNat ≤ 2 by omega)) (by omega)
    -- the ways
    have n := n0
    have ha : a.length ≤ 5 := by rw [ha]; omega
    have hg : g.length ≤ 6 := by rw [hg]; omega
    -- way 1
    refine ⟨WBy H sc i b x c 5 6, ⟨_, rfl, rfl, _, rfl, ite2D (fun _ => ?_) (fun _ => ⟨la, lg, a, g, _, rfl, n, fa, fg, by omega, by omega⟩)⟩, ?_⟩
    · refine ⟨_, rfl, lg, rfl, ⟨_, SqL.of n.g⟩, fun D hD => comp_list (K := K) (a := lg) (xs := g.map V.int) (fun _ => V.int (b - 1)) (by rw [List.length_map]; exact Nat.le_of_lt (size2000 (by omega))) hD (fun H2 s2 => s2.seq (SqL.of n.g)) (fun i x H2 _ _ R hR => ⟨_, rfl, _, _, rfl, rfl, hR⟩) ?_⟩
      rw [List.length_map, map_const]
      exact ⟨la, D, a, List.replicate g.length (b - 1), _, rfl, n.ring hD, fa, figs_replicate (by omega) (by omega), ha, by rw [List.length_replicate]; exact hg⟩
    clear n n0 s2 s1 ng na fg fa ha hg
    rintro σ' H' ⟨la, lg, a, g, wv, rfl, n, fa, fg, ha, hg⟩
    -- way 2
    refine ⟨WBy H sc i b x c 5 6, ⟨_, rfl, rfl, _, rfl, ite2D (fun _ => ?_) (fun _ => ⟨la, lg, a, g, _, rfl, n, fa, fg, by omega, by omega⟩)⟩, ?_⟩
    · refine ⟨_, rfl, lg, rfl, ⟨_, SqL.of n.g⟩, fun D hD => comp_list (K := K) (a := lg) (xs := g.map V.int) (fun _ => V.int (0)) (by rw [List.length_map]; exact Nat.le_of_lt (size2000 (by omega))) hD (fun H2 s2 => s2.seq (SqL.of n.g)) (fun i x H2 _ _ R hR => hR) ?_⟩
      rw [List.length_map, map_const]
      exact ⟨la, D, a, List.replicate g.length 0, _, rfl, n.ring hD, fa, figs_replicate (by omega) (by omega), ha, by rw [List.length_replicate]; exact hg⟩
    clear n fa fg ha hg
    rintro σ' H' ⟨la, lg, a, g, wv, rfl, n, fa, fg, ha, hg⟩
    -- way 3
    refine ⟨WBy H sc i b x c 5 12, ⟨_, rfl, rfl, _, rfl, ite2D (fun _ => ?_) (fun _ => ⟨la, lg, a, g, _, rfl, n, fa, fg, by omega, by omega⟩)⟩, ?_⟩
    · refine ⟨_, rfl, _, rfl, lg, lg, _, _, rfl, rfl, n.g, n.g, by rw [List.length_map]; exact Nat.le_of_lt (size2000 (by omega)), fun l hl => ?_⟩
      rw [← List.map_append]
      exact ⟨la, l, a, g ++ g, _, rfl, n.ring hl, fa, figs_append fg fg, ha, by rw [List.length_append]; omega⟩
    clear n fa fg ha hg
    rintro σ' H' ⟨la, lg, a, g, wv, rfl, n, fa, fg, ha, hg⟩
    -- way 4
    refine ⟨WBy H sc i b x c 17 12, ⟨_, rfl, rfl, _, rfl, ite2D (fun _ => ?_) (fun _ => ⟨la, lg, a, g, _, rfl, n, fa, fg, by omega, by omega⟩)⟩, ?_⟩
    · obtain ⟨g', eg, mg', lg'⟩ := cut_ex g (some 1) none
      refine ⟨_, rfl, _, rfl, _, rfl, lg, _, rfl, SqL.of n.g, fun l1 h1 => ?_⟩
      rw [eg]
      have n1 := n.more (o := .lst (g'.map V.int)) h1
      refine ⟨la, l1, _, _, rfl, rfl, n1.a, upd_same, by rw [List.length_map, List.length_map]; exact Nat.le_of_lt (size2000 (by omega)), fun l2 h2 => ?_⟩
      rw [← List.map_append]
      exact ⟨l2, lg, a ++ g', g, _, rfl, n1.ahead h2, figs_append fa (fun d hd => fg d (mg' d hd)), fg, by rw [List.length_append]; omega, hg⟩
    clear n fa fg ha hg
    rintro σ' H' ⟨la, lg, a, g, wv, rfl, n, fa, fg, ha, hg⟩
    -- way 5
    refine ⟨WBy H sc i b x c 29 12, ⟨_, rfl, rfl, _, rfl, ite2D (fun _ => ?_) (fun _ => ⟨la, lg, a, g, _, rfl, n, fa, fg, by omega, by omega⟩)⟩, ?_⟩
    · refine ⟨_, rfl, _, rfl, lg, rfl, ⟨_, SqL.of n.g⟩, fun D hD => comp_list (K := K) (a := lg) (xs := g.map V.int) (fun _ => V.int (b - 1)) (by rw [List.length_map]; exact Nat.le_of_lt (size2000 (by omega))) hD (fun H2 s2 => s2.seq (SqL.of n.g)) (fun i x H2 _ _ R hR => ⟨_, rfl, _, _, rfl, rfl, hR⟩) ?_⟩
      rw [List.length_map, map_const]
      have n1 := n.more (o := .lst ((List.replicate g.length (b - 1)).map V.int)) hD
      refine ⟨la, D, _, _, rfl, rfl, n1.a, upd_same, by rw [List.length_map, List.length_map, List.length_replicate]; exact Nat.le_of_lt (size2000 (by omega)), fun l2 h2 => ?_⟩
      rw [← List.map_append]
      have n2 := n1.ahead (h := a ++ List.replicate g.length (b - 1)) h2
      refine ⟨_, rfl, _, _, rfl, rfl, (show 1 ≤ sizeLine by decide), fun l3 h3 => ?_⟩
      exact ⟨l2, l3, _, [b - 1], _, rfl, n2.ring (h := [b - 1]) h3, figs_append fa (figs_replicate (by omega) (by omega)), (fun d hd => by rw [List.mem_singleton.mp hd]; omega), by rw [List.length_append, List.length_replicate]; omega, by simp⟩
    clear n fa fg ha hg
    rintro σ' H' ⟨la, lg, a, g, wv, rfl, n, fa, fg, ha, hg⟩
    -- way 6
    refine ⟨WBy H sc i b x c 41 12, ⟨_, rfl, rfl, _, rfl, ite2D (fun _ => ?_) (fun _ => ⟨la, lg, a, g, _, rfl, n, fa, fg, by omega, by omega⟩)⟩, ?_⟩
    · refine ⟨_, rfl, _, rfl, lg, rfl, ⟨_, SqL.of n.g⟩, fun D hD => comp_list (K := K) (a := lg) (xs := g.map V.int) (fun _ => V.int (0)) (by rw [List.length_map]; exact Nat.le_of_lt (size2000 (by omega))) hD (fun H2 s2 => s2.seq (SqL.of n.g)) (fun i x H2 _ _ R hR => hR) ?_⟩
      rw [List.length_map, map_const]
      have n1 := n.more (o := .lst ((List.replicate g.length (0)).map V.int)) hD
      refine ⟨la, D, _, _, rfl, rfl, n1.a, upd_same, by rw [List.length_map, List.length_map, List.length_replicate]; exact Nat.le_of_lt (size2000 (by omega)), fun l2 h2 => ?_⟩
      rw [← List.map_append]
      have n2 := n1.ahead (h := a ++ List.replicate g.length (0)) h2
      refine ⟨(show 0 ≤ sizeLine by decide), fun l3 h3 => ?_⟩
      exact ⟨l2, l3, _, [], _, rfl, n2.ring (h := []) h3, figs_append fa (figs_replicate (by omega) (by omega)), (fun d hd => by simp at hd), by rw [List.length_append, List.length_replicate]; omega, by simp⟩
    clear n fa fg ha hg
    rintro σ' H' ⟨la, lg, a, g, wv, rfl, n, fa, fg, ha, hg⟩
    -- way 7
    refine ⟨WBy H sc i b x c 41 84, ⟨_, rfl, rfl, _, rfl, ite2D (fun _ => ?_) (fun _ => ⟨la, lg, a, g, _, rfl, n, fa, fg, by omega, by omega⟩)⟩, ?_⟩
    · obtain ⟨g', eg, mg', lg'⟩ := cut_ex g none (some 2)
      refine ⟨_, rfl, _, rfl, lg, _, rfl, SqL.of n.g, fun l1 h1 => ?_⟩
      rw [eg]
      have n1 := n.more (o := .lst (g'.map V.int)) h1
      have hk : (3 + c / 336 % 5).toNat ≤ 7 := by omega
      have hm : (3 + c / 336 % 5).toNat * g'.length ≤ 84 := Nat.le_trans (Nat.mul_le_mul hk (Nat.le_trans lg' hg)) (by decide)
      refine ⟨_, rfl, _, _, rfl, rfl, ⟨by decide, by decide⟩, _, _, rfl, rfl, (show (0 : Int) < 5 by decide), _, _, rfl, rfl, l1, _, _, rfl, rfl, upd_same, by omega, by omega, ?_, fun l2 h2 => ?_⟩
      · rw [List.length_map, Nat.mul_comm]
        exact Nat.le_of_lt (size2000 (Nat.le_trans hm (by decide)))
      rw [map_rep]
      exact ⟨la, l2, a, RF.rep (3 + c / 336 % 5).toNat g', _, rfl, n1.ring h2, fa, figs_rep (fun d hd => fg d (mg' d hd)), ha, by rw [RF.rep_length]; exact hm⟩
    clear n fa fg ha hg
    rintro σ' H' ⟨la, lg, a, g, wv, rfl, n, fa, fg, ha, hg⟩
    refine ⟨_, rfl, _, rfl, _, rfl, (show 3 ≤ sizeLine by decide), fun p hp => ?_⟩
    exact k x a g p la lg _ ⟨x0, x1, fa, fg, by omega, by omega⟩ (by omega) (by omega) (n.wr hp)
theorem got_law_copy (T : Txt K mg) : Got P w K mg base "_law_copy" 1 ["writing"] (spCopy K) := by
  refine T.d_law_copy.got sc_law_copy (fun vs H Q E h => ?_) (fun f cdv A outer s H vs Q E hr h => ?_)
  · obtain ⟨p, la, lg, x, a, g, rfl, _⟩ := h; rfl
  · obtain ⟨p, la, lg, x, a, g, rfl, hW, k⟩ := h
    refine ⟨_, (pss_one (ps_ret (pe_tup (pa_s (pe_ix ix_tup (pv 0) pe_int px_k) (pa_c (pe_callTy call_list_of rfl T.b_list PyProof.Rows.boot_list (pa_s (pe_ix ix_tup (pv 0) pe_int px_k) pa_nil)) (pa_c (pe_callTy call_list_of rfl T.b_list PyProof.Rows.boot_list (pa_s (pe_ix ix_tup (pv 0) pe_int px_k) pa_nil)) pa_nil)))))), ?_⟩
    refine ⟨_, rfl, p, _, _, _, rfl, rfl, hW.t, rfl, _, rfl, p, _, _, _, rfl, rfl, hW.t, rfl, la, _, rfl, .inl hW.a, fun la' ha' => ?_⟩
    have s1 := Same.upd (o := .lst (a.map V.int)) ha'
    refine ⟨_, rfl, p, _, _, _, rfl, rfl, s1.tup hW.t, rfl, lg, _, rfl, .inl (s1.seq hW.g), fun lg' hg' => ⟨(show 3 ≤ sizeLine by decide), fun p' hp' => ?_⟩⟩
    exact k p' la' lg' _ (NewWr.mk2 (Same.refl H) ha' hg' hp')
theorem got_law_worth (T : Txt K mg) : Got P w K mg base "_law_worth" 3 ["base", "writing"] (spLawWorth K) := by
  refine T.d_law_worth.got sc_law_worth (fun vs H Q E h => ?_) (fun f cdv A outer s H vs Q E hr h => ?_)
  · obtain ⟨b, p, la, lg, x, a, g, rfl, _⟩ := h; rfl
  · obtain ⟨b, p, la, lg, x, a, g, rfl, b2, b36, hW, hG, hl, k⟩ := h
    have hB := RF.wB_pos b2 a g
    have hN := RF.wN_bd b2 hG.fa hG.fg
    have hT0 : 0 ≤ RF.wT b x a g := by
      unfold RF.wT
      have := Int.mul_nonneg hG.w0 (Int.le_of_lt hB)
      omega
    have hd := divOk_short b2 b36 hG.fa hG.fg hl x
    have mb : ∀ y : Int, IntMulOk y b := fun y => CMul.ok (.inr ⟨by omega, by omega⟩)
    refine ⟨_, (pss_cons (ps_asg (pv 1) (pg_tup rfl (pgs_cons (pg_name (i := 2) sc_law_worth.nd rfl (Or.inl rfl)) (pgs_cons (pg_name (i := 3) sc_law_worth.nd rfl (Or.inl rfl)) (pgs_cons (pg_name (i := 4) sc_law_worth.nd rfl (Or.inl rfl)) pgs_nil)))))
      (pss_cons (ps_set (i := 5) sc_law_worth.nd rfl (Or.inl rfl) (pv 2))
      (pss_cons (ps_set (i := 6) sc_law_worth.nd rfl (Or.inl rfl) pe_int)
      (pss_cons (ps_for PassesOwn.never rfl (pi_list (pv 3)) (pg_name (i := 7) sc_law_worth.nd rfl (Or.inl rfl)) (pss_cons (ps_set (i := 5) sc_law_worth.nd rfl (Or.inl rfl) (pe_op op_add (pe_op op_mulB (pv 5) (pv 0)) (pv 7)))
      (pss_one (ps_set (i := 6) sc_law_worth.nd rfl (Or.inl rfl) (pe_op op_mulB (pv 6) (pv 0))))))
      (pss_cons (ps_if (pt_cmpR (op_eqL hr.units) (pv 4) (pe_lst pa_nil) (nomark _)) (pss_one (ps_ret (pe_callG (got_law_lowest T) (hr.mono (by decide)) rfl (pa_n (pv 5) (pa_n (pv 6) pa_nil))))) pss_nil)
      (pss_cons (ps_set (i := 8) sc_law_worth.nd rfl (Or.inl rfl) pe_int)
      (pss_cons (ps_set (i := 9) sc_law_worth.nd rfl (Or.inl rfl) pe_int)
      (pss_cons (ps_for PassesOwn.never rfl (pi_list (pv 4)) (pg_name (i := 7) sc_law_worth.nd rfl (Or.inl rfl)) (pss_cons (ps_set (i := 8) sc_law_worth.nd rfl (Or.inl rfl) (pe_op op_add (pe_op op_mulB (pv 8) (pv 0)) (pv 7)))
      (pss_one (ps_set (i := 9) sc_law_worth.nd rfl (Or.inl rfl) (pe_op op_mulB (pv 9) (pv 0))))))
      (pss_one (ps_ret (pe_callG (got_law_lowest T) (hr.mono (by decide)) rfl (pa_b (pe_op op_add (pe_op op_mulB (pv 5) (pe_op op_sub (pv 9) pe_int)) (pv 8)) (pa_b (pe_op op_mulB (pv 6) (pe_op op_sub (pv 9) pe_int)) pa_nil))))))))))))), ?_⟩
    refine ⟨_, rfl, p, _, rfl, hW.t, rfl, _, _, rfl, _, _, rfl, _, _, rfl, rfl, ?_⟩
    refine ⟨_, rfl, ?_⟩
    refine ⟨_, rfl, la, rfl, ⟨_, hW.a⟩, for_list (K := K) (a := la) (xs := a.map V.int) (fun i σ H2 => ∃ v, σ = [some (.int b), some (.ref p), some (.int x), some (.ref la), some (.ref lg), some (.int (x * b ^ i + RF.num b (a.take i))), some (.int (b ^ i)), v, none, none] ∧ H2 = H)
      ⟨_, by rw [Int.pow_zero, Int.mul_one, List.take_zero, RF.num_nil, Int.add_zero]; rfl, rfl⟩ (fun i σ H2 _ ⟨_, _, e⟩ => by rw [e]; exact hW.a) ?_ ?_⟩
    · rintro i y σ H2 hi ⟨v, rfl, rfl⟩
      obtain ⟨n, rfl, hn⟩ := mem_int hi
      refine ⟨_, rfl, _, rfl, _, _, rfl, rfl, mb _, _, rfl, _, _, rfl, rfl, ?_⟩
      refine ⟨_, rfl, _, rfl, _, _, rfl, rfl, mb _, ?_⟩
      refine ⟨some (.int n), ?_, rfl⟩
      have e : x * b ^ (i + 1) + RF.num b (a.take (i + 1)) = (x * b ^ i + RF.num b (a.take i)) * b + n := by
        rw [RF.num_take_succ hn, Int.pow_succ]; grind
      rw [e, Int.pow_succ]; rfl
    · rintro σ H2 ⟨v, rfl, rfl⟩
      rw [List.length_map, List.take_length]
      refine ⟨_, rfl, (show 0 ≤ sizeLine by decide), fun l1 h1 => ⟨lg, l1, g, [], rfl, rfl, (Same.upd h1).seq hW.g, SqL.of upd_same, _, rfl, ite2D (fun e1 => ?_) (fun e1 => ?_)⟩⟩
      · have s1 := Same.upd (o := .lst []) h1
        subst e1
        have eB : b ^ a.length = RF.wB b a [] := by simp [RF.wB, RF.rM]
        have eT : x * RF.wB b a [] + RF.num b a = RF.wT b x a [] := by simp [RF.wT, RF.rM, RF.num_nil]
        rw [eB, eT]
        refine ⟨_, rfl, _, rfl, _, _, rfl, hT0, hB, hd, fun p' hp' => ?_⟩
        exact k p' _ (s1.trans (Same.upd hp')) (s1.free hp') upd_same
      · have s1 := Same.upd (o := .lst []) h1
        have eM := RF.rM_ne b e1
        have hg' := s1.seq hW.g
        refine ⟨_, rfl, lg, rfl, ⟨_, hg'⟩, for_list (K := K) (a := lg) (xs := g.map V.int) (fun i σ H3 => ∃ v, σ = [some (.int b), some (.ref p), some (.int x), some (.ref la), some (.ref lg), some (.int (x * b ^ a.length + RF.num b a)), some (.int (b ^ a.length)), v, some (.int (RF.num b (g.take i))), some (.int (b ^ i))] ∧ H3 = upd H2 l1 (.lst []))
          ⟨_, by rw [Int.pow_zero, List.take_zero, RF.num_nil]; rfl, rfl⟩ (fun i σ H3 _ ⟨_, _, e⟩ => by rw [e]; exact hg') ?_ ?_⟩
        · rintro i y σ H3 hi ⟨v, rfl, rfl⟩
          obtain ⟨n, rfl, hn⟩ := mem_int hi
          refine ⟨_, rfl, _, rfl, _, _, rfl, rfl, mb _, _, rfl, _, _, rfl, rfl, ?_⟩
          refine ⟨_, rfl, _, rfl, _, _, rfl, rfl, mb _, ?_⟩
          refine ⟨some (.int n), ?_, rfl⟩
          rw [RF.num_take_succ hn, Int.pow_succ]; rfl
        · rintro σ H3 ⟨v, rfl, rfl⟩
          rw [List.length_map, List.take_length]
          have mM : (b ^ g.length - 1).natAbs ≤ 2 ^ (6 * (a.length + g.length)) := by
            have h1 := RF.pow_pos (b := b) (by omega) g.length
            have h3 := RF.pow_lt (b := b) (by omega) b36 g.length
            exact Nat.le_trans (show (b ^ g.length - 1).natAbs ≤ (b ^ g.length).natAbs by omega) (Nat.le_trans h3 (Nat.pow_le_pow_right (by decide) (by omega)))
          have mA : (b ^ a.length).natAbs ≤ 2 ^ (6 * a.length) := RF.pow_lt (by omega) b36 _
          have mN : (x * b ^ a.length + RF.num b a).natAbs ≤ 2 ^ (64 + 6 * a.length) := by
            have h1 := RF.num_bd (b := b) (by omega) hG.fa
            have h2 := hG.w0
            have h3 := hG.w1
            have h4 : (x + 1).natAbs ≤ 2 ^ 64 := by omega
            have h5 : ((x + 1) * b ^ a.length).natAbs ≤ 2 ^ 64 * 2 ^ (6 * a.length) := by
              rw [Int.natAbs_mul]; exact Nat.mul_le_mul h4 mA
            have h6 := RF.pow_pos (b := b) (by omega) a.length
            have h7 : 0 ≤ x * b ^ a.length := Int.mul_nonneg h2 (Int.le_of_lt h6)
            have h8 : (x + 1) * b ^ a.length = x * b ^ a.length + b ^ a.length := by grind
            rw [← Nat.pow_add] at h5
            rw [h8] at h5
            omega
          have hla := hG.la
          have hlg := hG.lg
          refine ⟨_, rfl, _, rfl, _, _, rfl, rfl, _, _, rfl, rfl, mulOk_worth (a := a) (g := g) b2 b36 hla hlg mN (by omega) _ mM, _, rfl, _, _, rfl, rfl, _, rfl, _, rfl, _, _, rfl, rfl, _, _, rfl, rfl, mulOk_worth (a := a) (g := g) b2 b36 hla hlg mA (by omega) _ mM, ?_⟩
          have eB : b ^ a.length * (b ^ g.length - 1) = RF.wB b a g := by unfold RF.wB; rw [eM]
          have eT : (x * b ^ a.length + RF.num b a) * (b ^ g.length - 1) + RF.num b g = RF.wT b x a g := by
            unfold RF.wT RF.wB; rw [eM]; grind
          refine ⟨RF.wT b x a g, RF.wB b a g, ?_, hT0, hB, hd, fun p' hp' => ?_⟩
          · rw [← eT, ← eB]; rfl
          · exact k p' _ (s1.trans (Same.upd hp')) (s1.free hp') upd_same
theorem got_law_divided (T : Txt K mg) : Got P w K mg base "_law_divided" 1 ["base", "top", "bottom"] spDividedB := by
  refine T.d_law_divided.got sc_law_divided (fun vs H Q E h => ?_) (fun f cdv A outer s H vs Q E hr h => ?_)
  · obtain ⟨b, t, q, rfl, _⟩ := h; rfl
  · obtain ⟨b, t, q, rfl, b2, b36, t0, hq, htq, ⟨x0, a0, g0, d0, hN⟩, k⟩ := h
    have hst := d0.stop
    generalize a0.length + g0.length = N at hN hst
    have ctq : CDivB t q := ⟨hq, noPylong_ratio hq htq⟩
    have hu := hu_of hr
    refine ⟨_, (pss_cons (ps_set (i := 3) sc_law_divided.nd rfl (Or.inl rfl) (pe_op op_mod (pv 1) (pv 2)))
      (pss_cons (ps_set (i := 4) sc_law_divided.nd rfl (Or.inl rfl) pe_dnewK)
      (pss_cons (ps_set (i := 5) sc_law_divided.nd rfl (Or.inl rfl) (pe_lst pa_nil))
      (pss_cons (ps_while PassesOwn.never (PW.pt (pw_and (pt_cmpR op_gt (pv 3) pe_int (nomark _)) (pw_and1 (pt_cmp (pc_dnotin hu (pv 3) (pv 4)))))) (pss_cons (ps_dput hu (pv 4) (pv 3) (pe_callB call_len_seq rfl T.b_len PySem.boot_len (pa_n (pv 5) pa_nil)) rfl)
      (pss_cons (ps_expr (pe_bm PySem.F.plainAttrs_list PySem.F.slot_list_append PySem.F.type_list_append mt_append (pv 5) (pa_b (pe_op op_fdivB (pe_op op_mul (pv 3) (pv 0)) (pv 2)) pa_nil)))
      (pss_one (ps_set (i := 3) sc_law_divided.nd rfl (Or.inl rfl) (pe_op op_mod (pe_op op_mul (pv 3) (pv 0)) (pv 2)))))))
      (pss_cons (ps_if (pt_cmpR op_eq (pv 3) pe_int (nomark _)) (pss_one (ps_ret (pe_tup (pa_b (pe_op op_fdivB (pv 1) (pv 2)) (pa_n (pv 5) (pa_l (pe_lst pa_nil) pa_nil)))))) pss_nil)
      (pss_one (ps_ret (pe_tup (pa_b (pe_op op_fdivB (pv 1) (pv 2)) (pa_s (pe_slice sl_list (pv 5) po_none (po_some (pe_dget hu (pv 4) (pv 3) (fun _ _ => rfl)))) (pa_s (pe_slice sl_list (pv 5) (po_some (pe_dget hu (pv 4) (pv 3) (fun _ _ => rfl))) po_none) pa_nil))))))))))), ?_⟩
    refine ⟨_, rfl, _, rfl, _, _, rfl, rfl, (show (0 : Int) < q by omega), ?_⟩
    intro d hd
    refine ⟨(show 0 ≤ sizeLine by decide), fun lf hf => ?_⟩
    have r0 : 0 ≤ t % q := Int.emod_nonneg _ (by omega)
    have r1 : t % q < q := Int.emod_lt_of_pos _ (by omega)
    have bd := RF.rst_bd (b := b) (r := t % q) (show 0 < q by omega) r0 r1
    have nfd : lf ≠ d := fun e => by rw [e, upd_same] at hf; cases hf
    have hd' : H d = none := hd
    have inq : ∀ x : Int, (-(2 ^ 64) < x ∧ x < 2 ^ 64) ∨ (-(2 ^ 64) < b ∧ b < 2 ^ 64) := fun x => .inr ⟨by omega, by omega⟩
    refine ⟨fun m σ H' => ∃ n, m + n = N ∧ RF.Fresh b q (t % q) n ∧ σ = [some (.int b), some (.int t), some (.int q), some (.int (RF.rst b q (t % q) n)), some (.ref d), some (.ref lf)] ∧
      Same H H' ∧ H' lf = some (.lst ((RF.figs b q (t % q) 0 n).map V.int)) ∧ H' d = some (.dK (seen b q (t % q) n)), ⟨N, 0, by omega, RF.Fresh.zero, rfl, (Same.upd hd).trans (Same.upd hf), upd_same, by rw [upd_ne nfd.symm]; exact upd_same⟩, ?_⟩
    rintro m σ H' ⟨n, hm, F, rfl, sm, hl, hdd⟩
    have hn := F.le_stop hst
    have nf : H lf = none := (Same.upd hd).free hf
    refine ⟨_, rfl, _, _, rfl, rfl, _, rfl, ite2D (fun hz => ?_) (fun hz => ?_)⟩
    · -- the rest is not nought: is it met
      have hz : RF.rst b q (t % q) n ≠ 0 := by omega
      refine ⟨_, rfl, _, rfl, d, _, rfl, DGet.k (k := Sum.inl _) hdd, _, rfl, ?_⟩
      rcases seen_or (b := b) (q := q) (r := t % q) (n := n) (RF.rst b q (t % q) n) with hs | ⟨j, hj, ej⟩
      · rw [seen_none hs]
        refine iteT ⟨fun σ' H2 => σ' = [some (.int b), some (.int t), some (.int q), some (.int (RF.rst b q (t % q) (n + 1))), some (.ref d), some (.ref lf)] ∧
          Same H H2 ∧ H2 lf = some (.lst ((RF.figs b q (t % q) 0 (n + 1)).map V.int)) ∧ H2 d = some (.dK (seen b q (t % q) (n + 1))), ?_, ?_⟩
        · rintro σ' H2 ⟨e, s2, l2, d2⟩
          have F2 := F.succ hz hs
          have hn2 := F2.le_stop hst
          exact ⟨N - (n + 1), by omega, n + 1, by omega, F2, e, s2, l2, d2⟩
        · have nld : lf ≠ d := ne_of hl hdd (by intro z; cases z)
          have el : (((RF.figs b q (t % q) 0 n).map V.int).length : Int) = (n : Int) := by rw [List.length_map, RF.figs_length]
          refine ⟨_, rfl, lf, _, rfl, .inl (SqL.of hl), _, rfl, _, rfl, d, _, rfl, DPut.k (k := Sum.inl _) hdd (by rw [seen_length]; exact size2000 (by omega)), ?_⟩
          rw [el, seen_put hs]
          refine ⟨_, rfl, .inl ⟨rfl, _, SqL.of (by rw [upd_ne nld]; exact hl)⟩, ?_⟩
          refine ⟨_, rfl, _, rfl, _, _, rfl, rfl, inq _, _, rfl, _, _, rfl, rfl, ⟨hq, ratio_rest hq (bd n).1 (bd n).2 b2 b36⟩, lf, _, _, rfl, rfl, (by rw [upd_ne nld]; exact hl), (by rw [List.length_map, RF.figs_length]; exact size2000 (by omega)), ?_⟩
          refine ⟨_, rfl, _, rfl, _, _, rfl, rfl, inq _, _, rfl, _, _, rfl, rfl, (show (0 : Int) < q by omega), ?_⟩
          refine ⟨rfl, ?_, ?_, ?_⟩
          · exact (sm.upd2 hd').upd2 nf
          · rw [upd_same, RF.figs_succ, List.map_append, Nat.zero_add]; rfl
          · rw [upd_ne nld.symm]; exact upd_same
      · have hsm := seen_some hj ej F.ne
        have ht : (RF.figs b q (t % q) 0 n).length = n := RF.figs_length
        rw [hsm]
        refine iteF ?_
        have hg : DGet H' d (.int (RF.rst b q (t % q) n)) (some (V.int (j : Int))) := by
          have := DGet.k (k := (Sum.inl (RF.rst b q (t % q) n) : Key)) hdd
          rw [hsm] at this
          exact this
        have dv : RF.DivIs b t q (t / q) ((RF.figs b q (t % q) 0 n).take j) ((RF.figs b q (t % q) 0 n).drop j) :=
          ⟨rfl, n, F, .inr ⟨j, hj, hz, ej, RF.figs_take (by omega), RF.figs_drop⟩⟩
        refine ⟨_, rfl, rfl, _, rfl, iteDF (fun e => hz (V.int.inj e)) ?_⟩
        refine ⟨_, rfl, _, rfl, _, _, rfl, rfl, ctq, ?_⟩
        refine ⟨_, rfl, _, rfl, _, rfl, d, _, rfl, hg, _, rfl, lf, _, rfl, SqL.of hl, fun la hla => ?_⟩
        have hl2 : upd H' la (.lst (cutV ((RF.figs b q (t % q) 0 n).map V.int) none (some (j : Int)))) lf = some (.lst ((RF.figs b q (t % q) 0 n).map V.int)) := by rw [upd_ne (ne_of_none hl hla)]; exact hl
        have hg2 : DGet (upd H' la (.lst (cutV ((RF.figs b q (t % q) 0 n).map V.int) none (some (j : Int))))) d (.int (RF.rst b q (t % q) n)) (some (V.int (j : Int))) := by
          have := DGet.k (H := upd H' la (.lst (cutV ((RF.figs b q (t % q) 0 n).map V.int) none (some (j : Int))))) (k := (Sum.inl (RF.rst b q (t % q) n) : Key)) (by rw [upd_ne (ne_of_none hdd hla)]; exact hdd)
          rw [hsm] at this
          exact this
        refine ⟨_, rfl, _, rfl, _, rfl, d, _, rfl, hg2, _, rfl, lf, _, rfl, SqL.of hl2, fun lg hlg => ⟨(show 3 ≤ sizeLine by decide), fun p hp => ?_⟩⟩
        rw [cut_take (by omega)] at hlg hp ⊢
        rw [cut_drop (by omega)] at hp ⊢
        exact k _ _ _ p la lg _ dv (NewWr.mk2 sm hla hlg hp)
    · have hz : RF.rst b q (t % q) n = 0 := by have := (bd n).1; omega
      refine iteF ?_
      refine ⟨_, rfl, rfl, _, rfl, iteDT (congrArg V.int hz) ?_⟩
      refine ⟨_, rfl, _, rfl, _, _, rfl, rfl, ctq, _, rfl, (show 0 ≤ sizeLine by decide), fun l2 h2 => ⟨(show 3 ≤ sizeLine by decide), fun p hp => ?_⟩⟩
      exact k (t / q) (RF.figs b q (t % q) 0 n) [] p lf l2 _ ⟨rfl, n, F, .inl ⟨hz, rfl, rfl⟩⟩ (NewWr.mk1 (g := []) sm hl nf h2 hp)
theorem got_law_is_writing (T : Txt K mg) : Got P w K mg base "_law_is_writing" 2 ["found", "due"] (spIsWriting K) := by
  refine T.d_law_is_writing.got sc_law_is_writing (fun vs H Q E h => ?_) (fun f cdv A outer s H vs Q E hr h => ?_)
  · obtain ⟨p, la, lg, x, a, g, p', la', lg', x', a', g', rfl, _⟩ := h; rfl
  · obtain ⟨p, la, lg, x, a, g, p', la', lg', x', a', g', rfl, ht, ha, hg, hW, k⟩ := h
    have hT : SqT K H p [.int x, .ref la, .ref lg] := .of ht
    refine ⟨_, (pss_cons (ps_if (PW.pt (pw_or (pt_not (pt_val (pe_callB call_isi rfl T.b_isinstance PyProof.Rows.boot_isinstance (pa_n (pv 0) (pa_n (pe_bltn (v := .ty "tuple") rfl T.b_tuple PyProof.Rows.boot_tuple rfl) pa_nil))))) (pw_or (pt_cmpR op_ne (pe_callB call_len_seq rfl T.b_len PySem.boot_len (pa_n (pv 0) pa_nil)) pe_int (nomark _)) (pw_or1 (pt_not (pt_val (pe_callG (got_law_whole T) (hr.mono (by decide)) rfl (pa_s (pe_ix ix_tup (pv 0) pe_int px_k) pa_nil)))))))) (pss_one (ps_ret pe_bl)) pss_nil)
      (pss_cons (ps_for PassesOwn.never rfl (pi_tup (pe_tup (pa_k pe_int (pa_k pe_int pa_nil)))) (pg_name (i := 2) sc_law_is_writing.nd rfl (Or.inl rfl)) (pss_cons (ps_if (pt_not (pt_val (pe_callB call_isi rfl T.b_isinstance PyProof.Rows.boot_isinstance (pa_s (pe_ix ix_tup (pv 0) (pv 2) px_n) (pa_n (pe_bltn (v := .ty "list") rfl T.b_list PyProof.Rows.boot_list rfl) pa_nil))))) (pss_one (ps_ret pe_bl)) pss_nil)
      (pss_one (ps_for PassesOwn.never rfl (pi_list (pe_ix ix_tup (pv 0) (pv 2) px_n)) (pg_name (i := 3) sc_law_is_writing.nd rfl (Or.inl rfl)) (pss_one (ps_if (pt_not (pt_val (pe_callG (got_law_whole T) (hr.mono (by decide)) rfl (pa_n (pv 3) pa_nil)))) (pss_one (ps_ret pe_bl)) pss_nil))))))
      (pss_one (ps_ret (pe_cmpR (op_eqW hr.units) (pv 0) (pv 1) (nomark _)))))), ?_⟩
    refine ⟨_, rfl, _, _, _, _, rfl, .tup ht, kit_self _ rfl, _, rfl, iteF ?_⟩
    refine ⟨_, rfl, p, _, rfl, .inr hT, rfl, _, rfl, iteNDF rfl ?_⟩
    refine ⟨_, rfl, p, _, _, _, rfl, rfl, hT, rfl, x, rfl, _, rfl, iteF ?_⟩
    refine ⟨(show 2 ≤ sizeLine by decide), fun lt hlt => ⟨lt, rfl, ⟨_, SqT.of upd_same⟩, ?_⟩⟩
    have s1 : Same H (upd H lt (.tup [.int 1, .int 2])) := Same.upd hlt
    refine for_tup (K := K) (a := lt) (xs := [.int 1, .int 2]) (fun i σ H2 => ∃ v3 v4, σ = [some (.ref p), some (.ref p'), v3, v4] ∧ Same (upd H lt (.tup [.int 1, .int 2])) H2) ⟨_, _, rfl, Same.refl _⟩ (fun i σ H2 _ ⟨_, _, _, s2⟩ => s2.tup (SqT.of upd_same)) ?_ ?_
    · rintro i y σ H2 hi ⟨v3, v4, rfl, s2⟩
      have s3 : Same H H2 := s1.trans s2
      have hT2 := s3.tup hT
      obtain ⟨l, z, j, rfl, ej, hl⟩ : ∃ (l : Addr) (z : List Int) (j : Int), y = .int j ∧ atI [V.int x, V.ref la, V.ref lg] j = some (.ref l) ∧ H2 l = some (.lst (z.map V.int)) := by
        match i, hi with
        | 0, hi => exact ⟨la, a, 1, (Option.some.inj hi).symm, rfl, s3 _ _ ha⟩
        | 1, hi => exact ⟨lg, g, 2, (Option.some.inj hi).symm, rfl, s3 _ _ hg⟩
      refine ⟨_, rfl, _, rfl, p, _, _, _, rfl, rfl, hT2, ej, _, _, _, _, rfl, .lst hl, kit_self _ rfl, _, rfl, iteF ?_⟩
      refine ⟨_, rfl, _, rfl, p, _, _, _, rfl, rfl, hT2, ej, l, rfl, ⟨_, SqL.of hl⟩, ?_⟩
      refine for_list (K := K) (a := l) (xs := z.map V.int) (fun i σ H3 => ∃ v, σ = [some (.ref p), some (.ref p'), some (.int j), v] ∧ H3 = H2) ⟨_, rfl, rfl⟩ (fun i σ H3 _ ⟨_, _, e⟩ => by rw [e]; exact SqL.of hl) ?_ ?_
      · rintro i' y' σ' H3 hi' ⟨v, rfl, rfl⟩
        obtain ⟨n, rfl⟩ : ∃ n, y' = V.int n := by
          rw [List.getElem?_map] at hi'
          cases e : z[i']? with
          | none => rw [e] at hi'; cases hi'
          | some n => rw [e] at hi'; exact ⟨n, (Option.some.inj hi').symm⟩
        refine ⟨_, rfl, n, rfl, _, rfl, iteF ?_⟩
        exact ⟨_, rfl, rfl⟩
      · rintro σ' H3 ⟨v, rfl, rfl⟩
        exact ⟨_, _, rfl, s2⟩
    · rintro σ H2 ⟨v3, v4, rfl, s2⟩
      have s3 : Same H H2 := s1.trans s2
      exact ⟨_, rfl, _, rfl, p, la, lg, x, a, g, p', la', lg', x', a', g', rfl, rfl, ⟨s3.tup hT, s3.seq (.of ha), s3.seq (.of hg)⟩, s3.wr hW, k _ s3⟩
theorem ok_law (T : Txt K mg) {f : Addr} {fd : FuncData} (F : Fun K "law" "law" s_law f fd) : FnOk P w K mg base CX0 4 f fd ["script"] (spLaw K) := by
  refine F.ok sc_law (fun vs H Q E h => ?_) (fun cdv A outer s H vs Q E hr h => ?_)
  · obtain ⟨a, ns, rfl, _⟩ := h; rfl
  · obtain ⟨sc, ns, rfl, hS, hlen, k⟩ := h
    refine ⟨_, (pss_cons (ps_set (i := 1) sc_law.nd rfl (Or.inl rfl) (pe_op op_add pe_int (pe_op op_mod (pe_callG (got_law_cell_at T) (hr.mono (by decide)) rfl (pa_n (pv 0) (pa_k pe_int pa_nil))) pe_int)))
      (pss_cons (ps_set (i := 2) sc_law.nd rfl (Or.inl rfl) (pe_callG (got_law_writing_by T) (hr.mono (by decide)) rfl (pa_n (pv 0) (pa_k pe_int (pa_n (pv 1) pa_nil)))))
      (pss_cons (ps_asg (pe_callG (got_law_worth T) (hr.mono (by decide)) rfl (pa_n (pv 1) (pa_n (pv 2) pa_nil))) (pg_tup rfl (pgs_cons (pg_name (i := 3) sc_law.nd rfl (Or.inl rfl)) (pgs_cons (pg_name (i := 4) sc_law.nd rfl (Or.inl rfl)) pgs_nil))))
      (pss_cons (ps_set (i := 5) sc_law.nd rfl (Or.inl rfl) (pe_callG (got_law_divided T) (hr.mono (by decide)) rfl (pa_n (pv 1) (pa_n (pv 3) (pa_n (pv 4) pa_nil)))))
      (pss_cons (ps_set (i := 6) sc_law.nd rfl (Or.inl rfl) (pe_callG (got_law_copy T) (hr.mono (by decide)) rfl (pa_n (pv 2) pa_nil)))
      (pss_cons (ps_set (i := 7) sc_law.nd rfl (Or.inl rfl) (pe_callG (got_plain T) (hr.mono (by decide)) rfl (pa_n (pv 1) (pa_n (pv 6) pa_nil))))
      (pss_cons (ps_set (i := 8) sc_law.nd rfl (Or.inl rfl) (pe_callG (got_is_plain T) (hr.mono (by decide)) rfl (pa_n (pv 1) (pa_n (pv 6) pa_nil))))
      (pss_cons (ps_if (PW.pt (pw_or (pt_not (pt_val (pe_callG (got_law_is_writing T) (hr.mono (by decide)) rfl (pa_n (pv 7) (pa_n (pv 5) pa_nil))))) (pw_or1 (pt_cmpR (op_neW hr.units) (pv 6) (pv 2) (nomark _))))) (pss_one (ps_ret pe_bl)) pss_nil)
      (pss_cons (ps_if (PW.pt (pw_or (pt_not (pt_val (pe_callB call_isi rfl T.b_isinstance PyProof.Rows.boot_isinstance (pa_n (pv 8) (pa_n (pe_bltn (v := .ty "bool") rfl T.b_bool PyProof.Rows.boot_bool rfl) pa_nil))))) (pw_or1 (pt_cmpR op_ne (pv 8) (pe_cmpR (op_eqW hr.units) (pv 5) (pv 2) (nomark _)) (nomark _))))) (pss_one (ps_ret pe_bl)) pss_nil)
      (pss_cons (ps_expr (pe_bm PySem.F.plainAttrs_list PySem.F.slot_list_append PySem.F.type_list_append mt_append (pe_ix ix_tup (pv 7) pe_int px_k) (pa_k pe_int pa_nil)))
      (pss_cons (ps_if (pt_cmpR (op_neL hr.units) (pe_ix ix_tup (pv 7) pe_int px_k) (pe_ix ix_tup (pv 5) pe_int px_k) (nomark _)) (pss_one (ps_ret pe_bl)) pss_nil)
      (pss_cons (ps_expr (pe_bm PySem.F.plainAttrs_list PySem.F.slot_list_append PySem.F.type_list_append mt_append (pe_ix ix_tup (pv 7) pe_int px_k) (pa_k pe_int pa_nil)))
      (pss_one (ps_ret (pe_and (pe_callG (got_law_is_writing T) (hr.mono (by decide)) rfl (pa_c (pe_callG (got_plain T) (hr.mono (by decide)) rfl (pa_n (pv 1) (pa_n (pv 6) pa_nil))) (pa_n (pv 5) pa_nil))) (pe_one (pe_cmpR (op_eqW hr.units) (pv 6) (pv 2) (nomark _)))))))))))))))))), ?_⟩
    refine ⟨_, rfl, sc, ns, _, rfl, hS, by decide, fun z0 _ => ⟨_, _, rfl, rfl, (show (0 : Int) < 35 by decide), _, _, rfl, rfl, ?_⟩⟩
    obtain ⟨b, hb, b2, b36⟩ : ∃ b : Int, b = 2 + z0 % 35 ∧ 2 ≤ b ∧ b ≤ 36 := ⟨_, rfl, by omega, by omega⟩
    refine ⟨_, rfl, _, rfl, sc, ns, 1, b, (by subst hb; rfl), hS, by decide, b2, b36, fun x a g p la lg H1 gw hla hlg n1 => ?_⟩
    have w1 : WrAt K H1 p la lg x a g := n1.wr
    have hB := RF.wB_pos b2 a g
    have hT := wT_nonneg b2 gw
    obtain ⟨x', a', g', po⟩ := RF.plain_ex (w := x) b2 gw.fa gw.fg
    have dl := po.dv.of_low hB
    have hq := RF.low_pos (T := RF.wT b x a g) hB
    have t0 := low_nonneg (B := RF.wB b a g) hT
    have px := po.w1
    have gx := gw.w1
    have pla := po.la
    have plg := po.lg
    refine ⟨_, rfl, _, rfl, b, p, la, lg, x, a, g, (by subst hb; rfl), b2, b36, w1, gw, by omega, fun p2 H2 s2 np2 hp2 => ⟨p2, _, rfl, SqT.of hp2, rfl, _, _, rfl, _, _, rfl, rfl, ?_⟩⟩
    refine ⟨_, rfl, _, rfl, _, rfl, b, _, _, (by subst hb; rfl), b2, b36, t0, hq, ratio_of hq t0 dl (by omega), ⟨x', a', g', dl, by omega⟩, fun xd ad gd pd lad lgd H3 dd nd => ?_⟩
    obtain ⟨rfl, rfl, rfl⟩ := dl.uniq dd
    have s13 := s2.trans nd.sm
    refine ⟨_, rfl, p, la, lg, x, a, g, rfl, s13.wr w1, fun p4 la4 lg4 H4 n4 => ?_⟩
    have s14 := s13.trans n4.sm
    refine ⟨_, rfl, _, rfl, b, p4, la4, lg4, x, a, g, (by subst hb; rfl), b2, b36, n4.wr, gw, fun x5 a5 g5 p5 la5 lg5 H5 po5 n5 => ?_⟩
    obtain ⟨rfl, rfl, rfl⟩ := po.dv.uniq po5.dv
    refine ⟨_, rfl, _, rfl, b, p4, la4, lg4, x, a, g, (by subst hb; rfl), b2, b36, n5.sm.wr n4.wr, gw, fun tt H6 ht s6 => ?_⟩
    have s46 := n5.sm.trans s6
    have wd4 : WrAt K H4 pd lad lgd x' a' g' := n4.sm.wr nd.wr
    have ww4 : WrAt K H4 p la lg x a g := s14.wr w1
    have wh4 : WrAt K H4 p4 la4 lg4 x a g := n4.wr
    refine ⟨_, rfl, _, rfl, p5, la5, lg5, x', a', g', pd, lad, lgd, x', a', g', rfl, s6 _ _ n5.t, s6 _ _ n5.a, s6 _ _ n5.g, s46.wr wd4, fun H7 s7 => ⟨_, rfl, ?_⟩⟩
    rw [decide_eq_true ⟨rfl, rfl, rfl⟩]
    refine iteF ?_
    have s47 := s46.trans s7
    refine ⟨_, rfl, _, rfl, p4, la4, lg4, x, a, g, p, la, lg, x, a, g, rfl, rfl, s47.wr wh4, s47.wr ww4, _, rfl, iteNDF ⟨rfl, rfl, rfl⟩ ?_⟩
    refine ⟨_, rfl, _, _, _, _, rfl, .bl tt, kit_self _ rfl, _, rfl, iteF ?_⟩
    have htt : V.bl tt = V.bl (decide (x' = x ∧ a' = a ∧ g' = g)) := by
      congr 1
      rw [Bool.eq_iff_iff, ht, decide_eq_true_iff, RF.plain_iff b2 gw.fa gw.fg gw.w0]
      constructor
      · intro d
        obtain ⟨h1, h2, h3⟩ := po.dv.uniq d
        exact ⟨h1, h2, h3⟩
      · rintro ⟨rfl, rfl, rfl⟩
        exact po.dv
    refine ⟨_, rfl, _, rfl, _, rfl, pd, lad, lgd, x', a', g', p, la, lg, x, a, g, rfl, rfl, s47.wr wd4, s47.wr ww4, rfl, _, rfl, iteNDF htt ?_⟩
    have m5t := s7 _ _ (s6 _ _ n5.t)
    have m5a := s7 _ _ (s6 _ _ n5.a)
    have m5g := s7 _ _ (s6 _ _ n5.g)
    have y1 : p5 ≠ la5 := ne_of m5t m5a (by intro z; cases z)
    have y3 : p5 ≠ lg5 := ne_of m5t m5g (by intro z; cases z)
    have hla4 : a'.length ≤ 4000 := Nat.le_trans pla gw.la
    have hlg4 : g'.length ≤ 4000 := Nat.le_trans plg gw.lg
    refine ⟨_, rfl, p5, _, _, _, rfl, rfl, SqT.of m5t, rfl, .inl ⟨rfl, _, SqL.of m5a⟩, la5, _, _, rfl, rfl, m5a, size2000 (by rw [List.length_map]; omega), ?_⟩
    have s48 := s47.upd2 (o := .lst (a'.map V.int ++ [V.int 1])) n5.na
    have k5t : upd H7 la5 (.lst (a'.map V.int ++ [V.int 1])) p5 = some (.tup [.int x', .ref la5, .ref lg5]) := by rw [upd_ne y1]; exact m5t
    have k5g : upd H7 la5 (.lst (a'.map V.int ++ [V.int 1])) lg5 = some (.lst (g'.map V.int)) := by rw [upd_ne n5.ne.symm]; exact m5g
    have wd8 := s48.wr wd4
    refine ⟨_, rfl, p5, _, _, _, rfl, rfl, SqT.of k5t, rfl, _, rfl, pd, _, _, _, rfl, rfl, wd8.t, rfl, lg5, lgd, g', g', rfl, rfl, SqL.of k5g, wd8.g, _, rfl, iteNDF rfl ?_⟩
    refine ⟨_, rfl, p5, _, _, _, rfl, rfl, SqT.of k5t, rfl, .inl ⟨rfl, _, SqL.of k5g⟩, lg5, _, _, rfl, rfl, k5g, size2000 (by rw [List.length_map]; omega), ?_⟩
    have s49 := s48.upd2 (o := .lst (g'.map V.int ++ [V.int 1])) n5.ng
    refine ⟨_, rfl, _, rfl, b, p4, la4, lg4, x, a, g, (by subst hb; rfl), b2, b36, s49.wr wh4, gw, fun x8 a8 g8 p8 la8 lg8 H8 po8 n8 => ?_⟩
    obtain ⟨rfl, rfl, rfl⟩ := po.dv.uniq po8.dv
    have s410 := s49.trans n8.sm
    refine ⟨_, rfl, p8, la8, lg8, x', a', g', pd, lad, lgd, x', a', g', rfl, n8.t, n8.a, n8.g, s410.wr wd4, fun H9 s9 => ⟨_, rfl, ?_⟩⟩
    rw [decide_eq_true ⟨rfl, rfl, rfl⟩]
    refine iteT ?_
    have s411 := s410.trans s9
    refine ⟨_, rfl, _, rfl, p4, la4, lg4, x, a, g, p, la, lg, x, a, g, rfl, rfl, s411.wr wh4, s411.wr ww4, ?_⟩
    rw [decide_eq_true ⟨rfl, rfl, rfl⟩]
    exact k H9
end
theorem txt_mk {K : PySem.W.Frag} {h : Heap} {mg : Str → Option Value} (X : K.In h) (G : h.Ns mainGlobals mg)
    {f_check_base : Addr} {od_check_base an_check_base : Option Addr} {sl_check_base : Array (Option Value)} {oc_check_base kV_check_base dc_check_base pm_check_base cd_check_base ct_check_base : Value}
    (a_check_base : PySem.W.nsIn K mainGlobals "check_base" = some (some (.ref f_check_base))) (l_check_base : K.lookup f_check_base = some ⟨oc_check_base, od_check_base, .func (PySem.W.fnOf "check_base" "check_base" (defArgs s_check_base) (defBody s_check_base) (defScope s_check_base) .none kV_check_base dc_check_base pm_check_base an_check_base cd_check_base ct_check_base), sl_check_base⟩) (c_check_base : PySem.W.codeIn K cd_check_base "check_base" = true) (k_check_base : PySem.W.keepIn K (.ref f_check_base) = true)
    {f_check_figures : Addr} {od_check_figures an_check_figures : Option Addr} {sl_check_figures : Array (Option Value)} {oc_check_figures kV_check_figures dc_check_figures pm_check_figures cd_check_figures ct_check_figures : Value}
    (a_check_figures : PySem.W.nsIn K mainGlobals "check_figures" = some (some (.ref f_check_figures))) (l_check_figures : K.lookup f_check_figures = some ⟨oc_check_figures, od_check_figures, .func (PySem.W.fnOf "check_figures" "check_figures" (defArgs s_check_figures) (defBody s_check_figures) (defScope s_check_figures) .none kV_check_figures dc_check_figures pm_check_figures an_check_figures cd_check_figures ct_check_figures), sl_check_figures⟩) (c_check_figures : PySem.W.codeIn K cd_check_figures "check_figures" = true) (k_check_figures : PySem.W.keepIn K (.ref f_check_figures) = true)
    {f_check_writing : Addr} {od_check_writing an_check_writing : Option Addr} {sl_check_writing : Array (Option Value)} {oc_check_writing kV_check_writing dc_check_writing pm_check_writing cd_check_writing ct_check_writing : Value}
    (a_check_writing : PySem.W.nsIn K mainGlobals "check_writing" = some (some (.ref f_check_writing))) (l_check_writing : K.lookup f_check_writing = some ⟨oc_check_writing, od_check_writing, .func (PySem.W.fnOf "check_writing" "check_writing" (defArgs s_check_writing) (defBody s_check_writing) (defScope s_check_writing) .none kV_check_writing dc_check_writing pm_check_writing an_check_writing cd_check_writing ct_check_writing), sl_check_writing⟩) (c_check_writing : PySem.W.codeIn K cd_check_writing "check_writing" = true) (k_check_writing : PySem.W.keepIn K (.ref f_check_writing) = true)
    {f_plain : Addr} {od_plain an_plain : Option Addr} {sl_plain : Array (Option Value)} {oc_plain kV_plain dc_plain pm_plain cd_plain ct_plain : Value}
    (a_plain : PySem.W.nsIn K mainGlobals "plain" = some (some (.ref f_plain))) (l_plain : K.lookup f_plain = some ⟨oc_plain, od_plain, .func (PySem.W.fnOf "plain" "plain" (defArgs s_plain) (defBody s_plain) (defScope s_plain) .none kV_plain dc_plain pm_plain an_plain cd_plain ct_plain), sl_plain⟩) (c_plain : PySem.W.codeIn K cd_plain "plain" = true) (k_plain : PySem.W.keepIn K (.ref f_plain) = true)
    {f_is_plain : Addr} {od_is_plain an_is_plain : Option Addr} {sl_is_plain : Array (Option Value)} {oc_is_plain kV_is_plain dc_is_plain pm_is_plain cd_is_plain ct_is_plain : Value}
    (a_is_plain : PySem.W.nsIn K mainGlobals "is_plain" = some (some (.ref f_is_plain))) (l_is_plain : K.lookup f_is_plain = some ⟨oc_is_plain, od_is_plain, .func (PySem.W.fnOf "is_plain" "is_plain" (defArgs s_is_plain) (defBody s_is_plain) (defScope s_is_plain) .none kV_is_plain dc_is_plain pm_is_plain an_is_plain cd_is_plain ct_is_plain), sl_is_plain⟩) (c_is_plain : PySem.W.codeIn K cd_is_plain "is_plain" = true) (k_is_plain : PySem.W.keepIn K (.ref f_is_plain) = true)
    {f_shortest_ring : Addr} {od_shortest_ring an_shortest_ring : Option Addr} {sl_shortest_ring : Array (Option Value)} {oc_shortest_ring kV_shortest_ring dc_shortest_ring pm_shortest_ring cd_shortest_ring ct_shortest_ring : Value}
    (a_shortest_ring : PySem.W.nsIn K mainGlobals "shortest_ring" = some (some (.ref f_shortest_ring))) (l_shortest_ring : K.lookup f_shortest_ring = some ⟨oc_shortest_ring, od_shortest_ring, .func (PySem.W.fnOf "shortest_ring" "shortest_ring" (defArgs s_shortest_ring) (defBody s_shortest_ring) (defScope s_shortest_ring) .none kV_shortest_ring dc_shortest_ring pm_shortest_ring an_shortest_ring cd_shortest_ring ct_shortest_ring), sl_shortest_ring⟩) (c_shortest_ring : PySem.W.codeIn K cd_shortest_ring "shortest_ring" = true) (k_shortest_ring : PySem.W.keepIn K (.ref f_shortest_ring) = true)
    {f_without_last : Addr} {od_without_last an_without_last : Option Addr} {sl_without_last : Array (Option Value)} {oc_without_last kV_without_last dc_without_last pm_without_last cd_without_last ct_without_last : Value}
    (a_without_last : PySem.W.nsIn K mainGlobals "without_last" = some (some (.ref f_without_last))) (l_without_last : K.lookup f_without_last = some ⟨oc_without_last, od_without_last, .func (PySem.W.fnOf "without_last" "without_last" (defArgs s_without_last) (defBody s_without_last) (defScope s_without_last) .none kV_without_last dc_without_last pm_without_last an_without_last cd_without_last ct_without_last), sl_without_last⟩) (c_without_last : PySem.W.codeIn K cd_without_last "without_last" = true) (k_without_last : PySem.W.keepIn K (.ref f_without_last) = true)
    {f_rounded_up : Addr} {od_rounded_up an_rounded_up : Option Addr} {sl_rounded_up : Array (Option Value)} {oc_rounded_up kV_rounded_up dc_rounded_up pm_rounded_up cd_rounded_up ct_rounded_up : Value}
    (a_rounded_up : PySem.W.nsIn K mainGlobals "rounded_up" = some (some (.ref f_rounded_up))) (l_rounded_up : K.lookup f_rounded_up = some ⟨oc_rounded_up, od_rounded_up, .func (PySem.W.fnOf "rounded_up" "rounded_up" (defArgs s_rounded_up) (defBody s_rounded_up) (defScope s_rounded_up) .none kV_rounded_up dc_rounded_up pm_rounded_up an_rounded_up cd_rounded_up ct_rounded_up), sl_rounded_up⟩) (c_rounded_up : PySem.W.codeIn K cd_rounded_up "rounded_up" = true) (k_rounded_up : PySem.W.keepIn K (.ref f_rounded_up) = true)
    {f_drawn_into_ring : Addr} {od_drawn_into_ring an_drawn_into_ring : Option Addr} {sl_drawn_into_ring : Array (Option Value)} {oc_drawn_into_ring kV_drawn_into_ring dc_drawn_into_ring pm_drawn_into_ring cd_drawn_into_ring ct_drawn_into_ring : Value}
    (a_drawn_into_ring : PySem.W.nsIn K mainGlobals "drawn_into_ring" = some (some (.ref f_drawn_into_ring))) (l_drawn_into_ring : K.lookup f_drawn_into_ring = some ⟨oc_drawn_into_ring, od_drawn_into_ring, .func (PySem.W.fnOf "drawn_into_ring" "drawn_into_ring" (defArgs s_drawn_into_ring) (defBody s_drawn_into_ring) (defScope s_drawn_into_ring) .none kV_drawn_into_ring dc_drawn_into_ring pm_drawn_into_ring an_drawn_into_ring cd_drawn_into_ring ct_drawn_into_ring), sl_drawn_into_ring⟩) (c_drawn_into_ring : PySem.W.codeIn K cd_drawn_into_ring "drawn_into_ring" = true) (k_drawn_into_ring : PySem.W.keepIn K (.ref f_drawn_into_ring) = true)
    {f_law_cell_at : Addr} {od_law_cell_at an_law_cell_at : Option Addr} {sl_law_cell_at : Array (Option Value)} {oc_law_cell_at kV_law_cell_at dc_law_cell_at pm_law_cell_at cd_law_cell_at ct_law_cell_at : Value}
    (a_law_cell_at : PySem.W.nsIn K mainGlobals "_law_cell_at" = some (some (.ref f_law_cell_at))) (l_law_cell_at : K.lookup f_law_cell_at = some ⟨oc_law_cell_at, od_law_cell_at, .func (PySem.W.fnOf "_law_cell_at" "_law_cell_at" (defArgs s_law_cell_at) (defBody s_law_cell_at) (defScope s_law_cell_at) .none kV_law_cell_at dc_law_cell_at pm_law_cell_at an_law_cell_at cd_law_cell_at ct_law_cell_at), sl_law_cell_at⟩) (c_law_cell_at : PySem.W.codeIn K cd_law_cell_at "_law_cell_at" = true) (k_law_cell_at : PySem.W.keepIn K (.ref f_law_cell_at) = true)
    {f_law_draw : Addr} {od_law_draw an_law_draw : Option Addr} {sl_law_draw : Array (Option Value)} {oc_law_draw kV_law_draw dc_law_draw pm_law_draw cd_law_draw ct_law_draw : Value}
    (a_law_draw : PySem.W.nsIn K mainGlobals "_law_draw" = some (some (.ref f_law_draw))) (l_law_draw : K.lookup f_law_draw = some ⟨oc_law_draw, od_law_draw, .func (PySem.W.fnOf "_law_draw" "_law_draw" (defArgs s_law_draw) (defBody s_law_draw) (defScope s_law_draw) .none kV_law_draw dc_law_draw pm_law_draw an_law_draw cd_law_draw ct_law_draw), sl_law_draw⟩) (c_law_draw : PySem.W.codeIn K cd_law_draw "_law_draw" = true) (k_law_draw : PySem.W.keepIn K (.ref f_law_draw) = true)
    {f_law_whole : Addr} {od_law_whole an_law_whole : Option Addr} {sl_law_whole : Array (Option Value)} {oc_law_whole kV_law_whole dc_law_whole pm_law_whole cd_law_whole ct_law_whole : Value}
    (a_law_whole : PySem.W.nsIn K mainGlobals "_law_whole" = some (some (.ref f_law_whole))) (l_law_whole : K.lookup f_law_whole = some ⟨oc_law_whole, od_law_whole, .func (PySem.W.fnOf "_law_whole" "_law_whole" (defArgs s_law_whole) (defBody s_law_whole) (defScope s_law_whole) .none kV_law_whole dc_law_whole pm_law_whole an_law_whole cd_law_whole ct_law_whole), sl_law_whole⟩) (c_law_whole : PySem.W.codeIn K cd_law_whole "_law_whole" = true) (k_law_whole : PySem.W.keepIn K (.ref f_law_whole) = true)
    {f_law_common : Addr} {od_law_common an_law_common : Option Addr} {sl_law_common : Array (Option Value)} {oc_law_common kV_law_common dc_law_common pm_law_common cd_law_common ct_law_common : Value}
    (a_law_common : PySem.W.nsIn K mainGlobals "_law_common" = some (some (.ref f_law_common))) (l_law_common : K.lookup f_law_common = some ⟨oc_law_common, od_law_common, .func (PySem.W.fnOf "_law_common" "_law_common" (defArgs s_law_common) (defBody s_law_common) (defScope s_law_common) .none kV_law_common dc_law_common pm_law_common an_law_common cd_law_common ct_law_common), sl_law_common⟩) (c_law_common : PySem.W.codeIn K cd_law_common "_law_common" = true) (k_law_common : PySem.W.keepIn K (.ref f_law_common) = true)
    {f_law_lowest : Addr} {od_law_lowest an_law_lowest : Option Addr} {sl_law_lowest : Array (Option Value)} {oc_law_lowest kV_law_lowest dc_law_lowest pm_law_lowest cd_law_lowest ct_law_lowest : Value}
    (a_law_lowest : PySem.W.nsIn K mainGlobals "_law_lowest" = some (some (.ref f_law_lowest))) (l_law_lowest : K.lookup f_law_lowest = some ⟨oc_law_lowest, od_law_lowest, .func (PySem.W.fnOf "_law_lowest" "_law_lowest" (defArgs s_law_lowest) (defBody s_law_lowest) (defScope s_law_lowest) .none kV_law_lowest dc_law_lowest pm_law_lowest an_law_lowest cd_law_lowest ct_law_lowest), sl_law_lowest⟩) (c_law_lowest : PySem.W.codeIn K cd_law_lowest "_law_lowest" = true) (k_law_lowest : PySem.W.keepIn K (.ref f_law_lowest) = true)
    {f_law_figures_by : Addr} {od_law_figures_by an_law_figures_by : Option Addr} {sl_law_figures_by : Array (Option Value)} {oc_law_figures_by kV_law_figures_by dc_law_figures_by pm_law_figures_by cd_law_figures_by ct_law_figures_by : Value}
    (a_law_figures_by : PySem.W.nsIn K mainGlobals "_law_figures_by" = some (some (.ref f_law_figures_by))) (l_law_figures_by : K.lookup f_law_figures_by = some ⟨oc_law_figures_by, od_law_figures_by, .func (PySem.W.fnOf "_law_figures_by" "_law_figures_by" (defArgs s_law_figures_by) (defBody s_law_figures_by) (defScope s_law_figures_by) .none kV_law_figures_by dc_law_figures_by pm_law_figures_by an_law_figures_by cd_law_figures_by ct_law_figures_by), sl_law_figures_by⟩) (c_law_figures_by : PySem.W.codeIn K cd_law_figures_by "_law_figures_by" = true) (k_law_figures_by : PySem.W.keepIn K (.ref f_law_figures_by) = true)
    {f_law_writing_by : Addr} {od_law_writing_by an_law_writing_by : Option Addr} {sl_law_writing_by : Array (Option Value)} {oc_law_writing_by kV_law_writing_by dc_law_writing_by pm_law_writing_by cd_law_writing_by ct_law_writing_by : Value}
    (a_law_writing_by : PySem.W.nsIn K mainGlobals "_law_writing_by" = some (some (.ref f_law_writing_by))) (l_law_writing_by : K.lookup f_law_writing_by = some ⟨oc_law_writing_by, od_law_writing_by, .func (PySem.W.fnOf "_law_writing_by" "_law_writing_by" (defArgs s_law_writing_by) (defBody s_law_writing_by) (defScope s_law_writing_by) .none kV_law_writing_by dc_law_writing_by pm_law_writing_by an_law_writing_by cd_law_writing_by ct_law_writing_by), sl_law_writing_by⟩) (c_law_writing_by : PySem.W.codeIn K cd_law_writing_by "_law_writing_by" = true) (k_law_writing_by : PySem.W.keepIn K (.ref f_law_writing_by) = true)
    {f_law_copy : Addr} {od_law_copy an_law_copy : Option Addr} {sl_law_copy : Array (Option Value)} {oc_law_copy kV_law_copy dc_law_copy pm_law_copy cd_law_copy ct_law_copy : Value}
    (a_law_copy : PySem.W.nsIn K mainGlobals "_law_copy" = some (some (.ref f_law_copy))) (l_law_copy : K.lookup f_law_copy = some ⟨oc_law_copy, od_law_copy, .func (PySem.W.fnOf "_law_copy" "_law_copy" (defArgs s_law_copy) (defBody s_law_copy) (defScope s_law_copy) .none kV_law_copy dc_law_copy pm_law_copy an_law_copy cd_law_copy ct_law_copy), sl_law_copy⟩) (c_law_copy : PySem.W.codeIn K cd_law_copy "_law_copy" = true) (k_law_copy : PySem.W.keepIn K (.ref f_law_copy) = true)
    {f_law_worth : Addr} {od_law_worth an_law_worth : Option Addr} {sl_law_worth : Array (Option Value)} {oc_law_worth kV_law_worth dc_law_worth pm_law_worth cd_law_worth ct_law_worth : Value}
    (a_law_worth : PySem.W.nsIn K mainGlobals "_law_worth" = some (some (.ref f_law_worth))) (l_law_worth : K.lookup f_law_worth = some ⟨oc_law_worth, od_law_worth, .func (PySem.W.fnOf "_law_worth" "_law_worth" (defArgs s_law_worth) (defBody s_law_worth) (defScope s_law_worth) .none kV_law_worth dc_law_worth pm_law_worth an_law_worth cd_law_worth ct_law_worth), sl_law_worth⟩) (c_law_worth : PySem.W.codeIn K cd_law_worth "_law_worth" = true) (k_law_worth : PySem.W.keepIn K (.ref f_law_worth) = true)
    {f_law_divided : Addr} {od_law_divided an_law_divided : Option Addr} {sl_law_divided : Array (Option Value)} {oc_law_divided kV_law_divided dc_law_divided pm_law_divided cd_law_divided ct_law_divided : Value}
    (a_law_divided : PySem.W.nsIn K mainGlobals "_law_divided" = some (some (.ref f_law_divided))) (l_law_divided : K.lookup f_law_divided = some ⟨oc_law_divided, od_law_divided, .func (PySem.W.fnOf "_law_divided" "_law_divided" (defArgs s_law_divided) (defBody s_law_divided) (defScope s_law_divided) .none kV_law_divided dc_law_divided pm_law_divided an_law_divided cd_law_divided ct_law_divided), sl_law_divided⟩) (c_law_divided : PySem.W.codeIn K cd_law_divided "_law_divided" = true) (k_law_divided : PySem.W.keepIn K (.ref f_law_divided) = true)
    {f_law_is_writing : Addr} {od_law_is_writing an_law_is_writing : Option Addr} {sl_law_is_writing : Array (Option Value)} {oc_law_is_writing kV_law_is_writing dc_law_is_writing pm_law_is_writing cd_law_is_writing ct_law_is_writing : Value}
    (a_law_is_writing : PySem.W.nsIn K mainGlobals "_law_is_writing" = some (some (.ref f_law_is_writing))) (l_law_is_writing : K.lookup f_law_is_writing = some ⟨oc_law_is_writing, od_law_is_writing, .func (PySem.W.fnOf "_law_is_writing" "_law_is_writing" (defArgs s_law_is_writing) (defBody s_law_is_writing) (defScope s_law_is_writing) .none kV_law_is_writing dc_law_is_writing pm_law_is_writing an_law_is_writing cd_law_is_writing ct_law_is_writing), sl_law_is_writing⟩) (c_law_is_writing : PySem.W.codeIn K cd_law_is_writing "_law_is_writing" = true) (k_law_is_writing : PySem.W.keepIn K (.ref f_law_is_writing) = true)
    {f_law : Addr} {od_law an_law : Option Addr} {sl_law : Array (Option Value)} {oc_law kV_law dc_law pm_law cd_law ct_law : Value}
    (a_law : PySem.W.nsIn K mainGlobals "law" = some (some (.ref f_law))) (l_law : K.lookup f_law = some ⟨oc_law, od_law, .func (PySem.W.fnOf "law" "law" (defArgs s_law) (defBody s_law) (defScope s_law) .none kV_law dc_law pm_law an_law cd_law ct_law), sl_law⟩) (c_law : PySem.W.codeIn K cd_law "law" = true) (k_law : PySem.W.keepIn K (.ref f_law) = true)
    {t_GREATEST_BASE : Tok} (i_GREATEST_BASE : PySem.W.nsIn K mainGlobals "GREATEST_BASE" = some (some (.int 36 t_GREATEST_BASE)))
    {t_GREATEST_WHOLE : Tok} (i_GREATEST_WHOLE : PySem.W.nsIn K mainGlobals "GREATEST_WHOLE" = some (some (.int 1000000000000 t_GREATEST_WHOLE)))
    {t_LEAST_BASE : Tok} (i_LEAST_BASE : PySem.W.nsIn K mainGlobals "LEAST_BASE" = some (some (.int 2 t_LEAST_BASE)))
    {t_MOST_FIGURES : Tok} (i_MOST_FIGURES : PySem.W.nsIn K mainGlobals "MOST_FIGURES" = some (some (.int 4000 t_MOST_FIGURES)))
    (b_bool : PySem.W.nsIn K mainGlobals "bool" = some none)
    (b_int : PySem.W.nsIn K mainGlobals "int" = some none)
    (b_isinstance : PySem.W.nsIn K mainGlobals "isinstance" = some none)
    (b_len : PySem.W.nsIn K mainGlobals "len" = some none)
    (b_list : PySem.W.nsIn K mainGlobals "list" = some none)
    (b_range : PySem.W.nsIn K mainGlobals "range" = some none)
    (b_tuple : PySem.W.nsIn K mainGlobals "tuple" = some none) :
    Txt K mg :=
  ⟨⟨f_check_base, _, fun_mk (st := s_check_base) l_check_base c_check_base k_check_base, (fun_mk (st := s_check_base) l_check_base c_check_base k_check_base).binds (ps := ["base"]) fun _ _ _ _ _ _ us hl => match us, hl with | [_], _ => rfl, PySem.W.mg_of X G a_check_base⟩,
   ⟨f_check_figures, _, fun_mk (st := s_check_figures) l_check_figures c_check_figures k_check_figures, (fun_mk (st := s_check_figures) l_check_figures c_check_figures k_check_figures).binds (ps := ["base", "figures"]) fun _ _ _ _ _ _ us hl => match us, hl with | [_, _], _ => rfl, PySem.W.mg_of X G a_check_figures⟩,
   ⟨f_check_writing, _, fun_mk (st := s_check_writing) l_check_writing c_check_writing k_check_writing, (fun_mk (st := s_check_writing) l_check_writing c_check_writing k_check_writing).binds (ps := ["base", "writing"]) fun _ _ _ _ _ _ us hl => match us, hl with | [_, _], _ => rfl, PySem.W.mg_of X G a_check_writing⟩,
   ⟨f_plain, _, fun_mk (st := s_plain) l_plain c_plain k_plain, (fun_mk (st := s_plain) l_plain c_plain k_plain).binds (ps := ["base", "writing"]) fun _ _ _ _ _ _ us hl => match us, hl with | [_, _], _ => rfl, PySem.W.mg_of X G a_plain⟩,
   ⟨f_is_plain, _, fun_mk (st := s_is_plain) l_is_plain c_is_plain k_is_plain, (fun_mk (st := s_is_plain) l_is_plain c_is_plain k_is_plain).binds (ps := ["base", "writing"]) fun _ _ _ _ _ _ us hl => match us, hl with | [_, _], _ => rfl, PySem.W.mg_of X G a_is_plain⟩,
   ⟨f_shortest_ring, _, fun_mk (st := s_shortest_ring) l_shortest_ring c_shortest_ring k_shortest_ring, (fun_mk (st := s_shortest_ring) l_shortest_ring c_shortest_ring k_shortest_ring).binds (ps := ["ring"]) fun _ _ _ _ _ _ us hl => match us, hl with | [_], _ => rfl, PySem.W.mg_of X G a_shortest_ring⟩,
   ⟨f_without_last, _, fun_mk (st := s_without_last) l_without_last c_without_last k_without_last, (fun_mk (st := s_without_last) l_without_last c_without_last k_without_last).binds (ps := ["figures", "figure"]) fun _ _ _ _ _ _ us hl => match us, hl with | [_, _], _ => rfl, PySem.W.mg_of X G a_without_last⟩,
   ⟨f_rounded_up, _, fun_mk (st := s_rounded_up) l_rounded_up c_rounded_up k_rounded_up, (fun_mk (st := s_rounded_up) l_rounded_up c_rounded_up k_rounded_up).binds (ps := ["base", "whole", "ahead"]) fun _ _ _ _ _ _ us hl => match us, hl with | [_, _, _], _ => rfl, PySem.W.mg_of X G a_rounded_up⟩,
   ⟨f_drawn_into_ring, _, fun_mk (st := s_drawn_into_ring) l_drawn_into_ring c_drawn_into_ring k_drawn_into_ring, (fun_mk (st := s_drawn_into_ring) l_drawn_into_ring c_drawn_into_ring k_drawn_into_ring).binds (ps := ["whole", "ahead", "ring"]) fun _ _ _ _ _ _ us hl => match us, hl with | [_, _, _], _ => rfl, PySem.W.mg_of X G a_drawn_into_ring⟩,
   ⟨f_law_cell_at, _, fun_mk (st := s_law_cell_at) l_law_cell_at c_law_cell_at k_law_cell_at, (fun_mk (st := s_law_cell_at) l_law_cell_at c_law_cell_at k_law_cell_at).binds (ps := ["script", "k"]) fun _ _ _ _ _ _ us hl => match us, hl with | [_, _], _ => rfl, PySem.W.mg_of X G a_law_cell_at⟩,
   ⟨f_law_draw, _, fun_mk (st := s_law_draw) l_law_draw c_law_draw k_law_draw, (fun_mk (st := s_law_draw) l_law_draw c_law_draw k_law_draw).binds (ps := ["cell", "k", "bound"]) fun _ _ _ _ _ _ us hl => match us, hl with | [_, _, _], _ => rfl, PySem.W.mg_of X G a_law_draw⟩,
   ⟨f_law_whole, _, fun_mk (st := s_law_whole) l_law_whole c_law_whole k_law_whole, (fun_mk (st := s_law_whole) l_law_whole c_law_whole k_law_whole).binds (ps := ["found"]) fun _ _ _ _ _ _ us hl => match us, hl with | [_], _ => rfl, PySem.W.mg_of X G a_law_whole⟩,
   ⟨f_law_common, _, fun_mk (st := s_law_common) l_law_common c_law_common k_law_common, (fun_mk (st := s_law_common) l_law_common c_law_common k_law_common).binds (ps := ["one", "other"]) fun _ _ _ _ _ _ us hl => match us, hl with | [_, _], _ => rfl, PySem.W.mg_of X G a_law_common⟩,
   ⟨f_law_lowest, _, fun_mk (st := s_law_lowest) l_law_lowest c_law_lowest k_law_lowest, (fun_mk (st := s_law_lowest) l_law_lowest c_law_lowest k_law_lowest).binds (ps := ["top", "bottom"]) fun _ _ _ _ _ _ us hl => match us, hl with | [_, _], _ => rfl, PySem.W.mg_of X G a_law_lowest⟩,
   ⟨f_law_figures_by, _, fun_mk (st := s_law_figures_by) l_law_figures_by c_law_figures_by k_law_figures_by, (fun_mk (st := s_law_figures_by) l_law_figures_by c_law_figures_by k_law_figures_by).binds (ps := ["cell", "base", "many"]) fun _ _ _ _ _ _ us hl => match us, hl with | [_, _, _], _ => rfl, PySem.W.mg_of X G a_law_figures_by⟩,
   ⟨f_law_writing_by, _, fun_mk (st := s_law_writing_by) l_law_writing_by c_law_writing_by k_law_writing_by, (fun_mk (st := s_law_writing_by) l_law_writing_by c_law_writing_by k_law_writing_by).binds (ps := ["script", "first", "base"]) fun _ _ _ _ _ _ us hl => match us, hl with | [_, _, _], _ => rfl, PySem.W.mg_of X G a_law_writing_by⟩,
   ⟨f_law_copy, _, fun_mk (st := s_law_copy) l_law_copy c_law_copy k_law_copy, (fun_mk (st := s_law_copy) l_law_copy c_law_copy k_law_copy).binds (ps := ["writing"]) fun _ _ _ _ _ _ us hl => match us, hl with | [_], _ => rfl, PySem.W.mg_of X G a_law_copy⟩,
   ⟨f_law_worth, _, fun_mk (st := s_law_worth) l_law_worth c_law_worth k_law_worth, (fun_mk (st := s_law_worth) l_law_worth c_law_worth k_law_worth).binds (ps := ["base", "writing"]) fun _ _ _ _ _ _ us hl => match us, hl with | [_, _], _ => rfl, PySem.W.mg_of X G a_law_worth⟩,
   ⟨f_law_divided, _, fun_mk (st := s_law_divided) l_law_divided c_law_divided k_law_divided, (fun_mk (st := s_law_divided) l_law_divided c_law_divided k_law_divided).binds (ps := ["base", "top", "bottom"]) fun _ _ _ _ _ _ us hl => match us, hl with | [_, _, _], _ => rfl, PySem.W.mg_of X G a_law_divided⟩,
   ⟨f_law_is_writing, _, fun_mk (st := s_law_is_writing) l_law_is_writing c_law_is_writing k_law_is_writing, (fun_mk (st := s_law_is_writing) l_law_is_writing c_law_is_writing k_law_is_writing).binds (ps := ["found", "due"]) fun _ _ _ _ _ _ us hl => match us, hl with | [_, _], _ => rfl, PySem.W.mg_of X G a_law_is_writing⟩,
   ⟨f_law, _, fun_mk (st := s_law) l_law c_law k_law, (fun_mk (st := s_law) l_law c_law k_law).binds (ps := ["script"]) fun _ _ _ _ _ _ us hl => match us, hl with | [_], _ => rfl, PySem.W.mg_of X G a_law⟩,
   ⟨t_GREATEST_BASE, PySem.W.mg_of X G i_GREATEST_BASE⟩,
   ⟨t_GREATEST_WHOLE, PySem.W.mg_of X G i_GREATEST_WHOLE⟩,
   ⟨t_LEAST_BASE, PySem.W.mg_of X G i_LEAST_BASE⟩,
   ⟨t_MOST_FIGURES, PySem.W.mg_of X G i_MOST_FIGURES⟩,
   PySem.W.mg_none_of X G b_bool,
   PySem.W.mg_none_of X G b_int,
   PySem.W.mg_none_of X G b_isinstance,
   PySem.W.mg_none_of X G b_len,
   PySem.W.mg_none_of X G b_list,
   PySem.W.mg_none_of X G b_range,
   PySem.W.mg_none_of X G b_tuple⟩
theorem all_mk {l : PySem.W.OpenLaw} {w : World} {K : PySem.W.Frag} {h : Heap} {mg : Str → Option Value} {fa : Addr} (X : K.In h) (G : h.Ns mainGlobals mg) (hfa : mg "law" = some (.ref fa)) (T : Txt K mg) :
    ∃ fd : FuncData, (∀ (s : Shared) (v : Value), BindsTo s fd ⟨[v], []⟩ [("script", v)]) ∧ ∀ base : Heap, K.In base → base.Ns mainGlobals mg → FnOk l.prog w K mg base CX0 4 fa fd ["script"] (spLaw K) := by
  have D := T.d_law
  obtain ⟨f, fd, F, b, m⟩ := D.ex
  have e := hfa.symm.trans m
  cases e
  refine ⟨fd, fun s v => ?_, fun base _ _ => ok_law T F⟩
  obtain ⟨oc, od, kV, doc, pm, an, cdv, ct, osl, rfl, lk, hcd⟩ := F.ex
  exact .of_eq rfl
theorem walk {l : PySem.W.OpenLaw} {q : Program} {loose : List Str} {XP : (Str → Option Value) → Heap → Prop} {YP : World → Heap → Prop} {d : DefRec} {K : Params → PySem.W.Frag} (hn : l.most = some 63) (hdf : d.params.defaults = [])
    (hY : ∀ (w : World) (h : Heap), YP w h → (K w.params).In h)
    (F : ∀ (w : World) (mg : Str → Option Value) (fa : Addr) (h : Heap), (K w.params).In h → h.Ns mainGlobals mg → mg d.name = some (.ref fa) →
      ∃ fd : FuncData, (∀ (s : Shared) (u : Value), BindsTo s fd ⟨[u], []⟩ [("script", u)]) ∧ ∀ base : Heap, (K w.params).In base → base.Ns mainGlobals mg → FnOk l.prog w (K w.params) mg base CX0 4 fa fd ["script"] (spLaw (K w.params))) :
    PySem.W.WalkO q loose XP YP l.row.toRowW d [] (fun f vs => PySem.call f vs) :=
  L2.walk_of (n := 63) (k := 4) (x := "script") (CX := fun _ => CX0) (sp := fun w => spLaw (K w.params)) hn (by decide) hdf ⟨rfl, by decide, by decide⟩ hY F (fun _ _ a ns hl _ hS => ⟨a, ns, rfl, hS, hl, fun _ => rfl⟩) fun _ _ _ _ _ z => z
end My
open PySem PySem.W PyProof.Rows
set_option maxRecDepth 100000 in
set_option maxHeartbeats 0 in
theorem PySem.Challenge.cw_ringfigures_k04_plain_writings_holds : PySem.Challenge.rw_ringfigures_k04_plain_writings.Holds := by
  w_on; o_law; k_head; (case hw => w_witness2)
  k_fill
  refine My.walk (l := PySem.Challenge.rw_ringfigures_k04_plain_writings) rfl rfl (fun w h Y => PySem.W.kIn_of Y) ?F
  case F =>
    intro w mg fa h KX G hmg
    refine My.all_mk KX G hmg ?T
    refine' My.txt_mk KX G ?a_check_base ?l_check_base ?c_check_base ?k_check_base ?a_check_figures ?l_check_figures ?c_check_figures ?k_check_figures ?a_check_writing ?l_check_writing ?c_check_writing ?k_check_writing ?a_plain ?l_plain ?c_plain ?k_plain ?a_is_plain ?l_is_plain ?c_is_plain ?k_is_plain ?a_shortest_ring ?l_shortest_ring ?c_shortest_ring ?k_shortest_ring ?a_without_last ?l_without_last ?c_without_last ?k_without_last ?a_rounded_up ?l_rounded_up ?c_rounded_up ?k_rounded_up ?a_drawn_into_ring ?l_drawn_into_ring ?c_drawn_into_ring ?k_drawn_into_ring ?a_law_cell_at ?l_law_cell_at ?c_law_cell_at ?k_law_cell_at ?a_law_draw ?l_law_draw ?c_law_draw ?k_law_draw ?a_law_whole ?l_law_whole ?c_law_whole ?k_law_whole ?a_law_common ?l_law_common ?c_law_common ?k_law_common ?a_law_lowest ?l_law_lowest ?c_law_lowest ?k_law_lowest ?a_law_figures_by ?l_law_figures_by ?c_law_figures_by ?k_law_figures_by ?a_law_writing_by ?l_law_writing_by ?c_law_writing_by ?k_law_writing_by ?a_law_copy ?l_law_copy ?c_law_copy ?k_law_copy ?a_law_worth ?l_law_worth ?c_law_worth ?k_law_worth ?a_law_divided ?l_law_divided ?c_law_divided ?k_law_divided ?a_law_is_writing ?l_law_is_writing ?c_law_is_writing ?k_law_is_writing ?a_law ?l_law ?c_law ?k_law ?i_GREATEST_BASE ?i_GREATEST_WHOLE ?i_LEAST_BASE ?i_MOST_FIGURES ?b_bool ?b_int ?b_isinstance ?b_len ?b_list ?b_range ?b_tuple
    (case a_check_base => k_is)
    (case l_check_base => k_is)
    (case c_check_base => k_is)
    (case k_check_base => k_is)
    (case a_check_figures => k_is)
    (case l_check_figures => k_is)
    (case c_check_figures => k_is)
    (case k_check_figures => k_is)
    (case a_check_writing => k_is)
    (case l_check_writing => k_is)
    (case c_check_writing => k_is)
    (case k_check_writing => k_is)
    (case a_plain => k_is)
    (case l_plain => k_is)
    (case c_plain => k_is)
    (case k_plain => k_is)
    (case a_is_plain => k_is)
    (case l_is_plain => k_is)
    (case c_is_plain => k_is)
    (case k_is_plain => k_is)
    (case a_shortest_ring => k_is)
    (case l_shortest_ring => k_is)
    (case c_shortest_ring => k_is)
    (case k_shortest_ring => k_is)
    (case a_without_last => k_is)
    (case l_without_last => k_is)
    (case c_without_last => k_is)
    (case k_without_last => k_is)
    (case a_rounded_up => k_is)
    (case l_rounded_up => k_is)
    (case c_rounded_up => k_is)
    (case k_rounded_up => k_is)
    (case a_drawn_into_ring => k_is)
    (case l_drawn_into_ring => k_is)
    (case c_drawn_into_ring => k_is)
    (case k_drawn_into_ring => k_is)
    (case a_law_cell_at => k_is)
    (case l_law_cell_at => k_is)
    (case c_law_cell_at => k_is)
    (case k_law_cell_at => k_is)
    (case a_law_draw => k_is)
    (case l_law_draw => k_is)
    (case c_law_draw => k_is)
    (case k_law_draw => k_is)
    (case a_law_whole => k_is)
    (case l_law_whole => k_is)
    (case c_law_whole => k_is)
    (case k_law_whole => k_is)
    (case a_law_common => k_is)
    (case l_law_common => k_is)
    (case c_law_common => k_is)
    (case k_law_common => k_is)
    (case a_law_lowest => k_is)
    (case l_law_lowest => k_is)
    (case c_law_lowest => k_is)
    (case k_law_lowest => k_is)
    (case a_law_figures_by => k_is)
    (case l_law_figures_by => k_is)
    (case c_law_figures_by => k_is)
    (case k_law_figures_by => k_is)
    (case a_law_writing_by => k_is)
    (case l_law_writing_by => k_is)
    (case c_law_writing_by => k_is)
    (case k_law_writing_by => k_is)
    (case a_law_copy => k_is)
    (case l_law_copy => k_is)
    (case c_law_copy => k_is)
    (case k_law_copy => k_is)
    (case a_law_worth => k_is)
    (case l_law_worth => k_is)
    (case c_law_worth => k_is)
    (case k_law_worth => k_is)
    (case a_law_divided => k_is)
    (case l_law_divided => k_is)
    (case c_law_divided => k_is)
    (case k_law_divided => k_is)
    (case a_law_is_writing => k_is)
    (case l_law_is_writing => k_is)
    (case c_law_is_writing => k_is)
    (case k_law_is_writing => k_is)
    (case a_law => k_is)
    (case l_law => k_is)
    (case c_law => k_is)
    (case k_law => k_is)
    (case i_GREATEST_BASE => k_is)
    (case i_GREATEST_WHOLE => k_is)
    (case i_LEAST_BASE => k_is)
    (case i_MOST_FIGURES => k_is)
    (case b_bool => k_is)
    (case b_int => k_is)
    (case b_isinstance => k_is)
    (case b_len => k_is)
    (case b_list => k_is)
    (case b_range => k_is)
    (case b_tuple => k_is)
#print axioms PySem.Challenge.cw_ringfigures_k04_plain_writings_holds
