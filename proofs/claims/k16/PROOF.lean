import PyProof.Rows.All
import Wide.All
import OpenK.AllK
import Wide.FinOn
import Lean
import PyProof.EqAt
import PyProof.EqKinds
import PyProof.TupleCall
import PySem.Challenge.RW_mirrorruns_k16_trees_looked_at
set_option Elab.async false
set_option linter.all false
set_option maxRecDepth 100000
/-! THE HAND LAYER, for ints, bools, texts, own classes, LISTS and tuples (index, slices, in, append, pop ..), calls, loops. Paste it whole ahead of your own text; what your proof does not reach may be deleted. -/
namespace L2
open PySem PySem.Spec PyProof.Rows

/-- a key: an int or a str -/
abbrev Key := Sum Int Str
def keyIs : Key → Value → Bool
  | .inl k, v => Value.isInt k v
  | .inr x, v => Value.isStrOf x v
def keyH (w : World) : Key → Int
  | .inl k => hashInt k
  | .inr x => hashStr w x
theorem keyIs_shape : ∀ {k : Key} {v : Value}, keyIs k v = true → (∃ i t, k = Sum.inl i ∧ v = Value.int i t) ∨ (∃ x t, k = Sum.inr x ∧ v = Value.str x t)
  | .inl i, v, h => by
    obtain ⟨t, e⟩ := Value.isInt_shape (k := i) (v := v) h
    exact .inl ⟨i, t, rfl, e⟩
  | .inr x, v, h => by
    obtain ⟨t, e⟩ := Value.isStrOf_shape (x := x) (v := v) h
    exact .inr ⟨x, t, rfl, e⟩
theorem keyIs_int (i : Int) (t : Tok) : keyIs (.inl i) (.int i t) = true := by simp [keyIs, Value.isInt]
theorem keyIs_str (x : Str) (t : Tok) : keyIs (.inr x) (.str x t) = true := by simp [keyIs, Value.isStrOf]
theorem key_ll (a b : Int) : decide ((Sum.inl a : Key) = Sum.inl b) = (a == b) := by
  by_cases e : a = b
  · subst e; simp
  · have h : ¬ (Sum.inl a : Key) = Sum.inl b := fun q => e (Sum.inl.inj q)
    rw [decide_eq_false h]
    exact (beq_eq_false_iff_ne.mpr e).symm
theorem key_rr (a b : Str) : decide ((Sum.inr a : Key) = Sum.inr b) = decide (a = b) := by
  by_cases e : a = b
  · subst e; simp
  · have h : ¬ (Sum.inr a : Key) = Sum.inr b := fun q => e (Sum.inr.inj q)
    rw [decide_eq_false h, decide_eq_false e]
theorem key_lr (a : Int) (b : Str) : decide ((Sum.inl a : Key) = Sum.inr b) = false := decide_eq_false (fun q => nomatch q)
theorem key_rl (a : Str) (b : Int) : decide ((Sum.inr a : Key) = Sum.inl b) = false := decide_eq_false (fun q => nomatch q)

def mixKind (prog : Program) (w : World) : PySem.KeyKind prog w Key where
  is := keyIs
  hash := keyH w
  inj := fun v a b ha hb => by
    rcases keyIs_shape ha with ⟨i, t, rfl, rfl⟩ | ⟨x, t, rfl, rfl⟩
    · rcases keyIs_shape hb with ⟨j, u, rfl, e⟩ | ⟨y, u, rfl, e⟩
      · injection e with e1 _; rw [e1]
      · exact nomatch e
    · rcases keyIs_shape hb with ⟨j, u, rfl, e⟩ | ⟨y, u, rfl, e⟩
      · exact nomatch e
      · injection e with e1 _; rw [e1]
  byValue := fun k v h => by
    rcases keyIs_shape h with ⟨i, t, rfl, rfl⟩ | ⟨x, t, rfl, rfl⟩ <;> rfl
  pyHash := fun hv h => by
    rcases keyIs_shape hv with ⟨i, t, rfl, rfl⟩ | ⟨x, t, rfl, rfl⟩
    · exact wpAny_pyHash_int h
    · exact wpAny_pyHash_str h
  eqBool := fun hu hv h => by
    rcases keyIs_shape hu with ⟨i, t, rfl, rfl⟩ | ⟨x, t, rfl, rfl⟩
    · rcases keyIs_shape hv with ⟨j, u, rfl, rfl⟩ | ⟨y, u, rfl, rfl⟩
      · rw [key_ll] at h; exact wpAny_eqBool_int h
      · rw [key_lr] at h; exact SeqAt.EqAt.int_str i t y u _ _ _ _ h
    · rcases keyIs_shape hv with ⟨j, u, rfl, rfl⟩ | ⟨y, u, rfl, rfl⟩
      · rw [key_rl] at h; exact SeqAt.EqAt.str_int x t j u _ _ _ _ h
      · rw [key_rr] at h; exact wpAny_eqBool_str h
  «strs» := fun k x t v h => by
    rcases keyIs_shape h with ⟨i, u, rfl, e⟩ | ⟨y, u, rfl, e⟩
    · exact nomatch e
    · injection e with e1 _
      subst e1
      cases v <;> rfl

theorem mixKind_is (prog : Program) (w : World) (k : Key) (v : Value) : (mixKind prog w).is k v = keyIs k v := rfl
theorem mixKind_int (prog : Program) (w : World) (i : Int) (t : Tok) : (mixKind prog w).is (.inl i) (.int i t) = true := keyIs_int i t
theorem mixKind_str (prog : Program) (w : World) (x : Str) (t : Tok) : (mixKind prog w).is (.inr x) (.str x t) = true := keyIs_str x t
end L2

namespace L2
open PySem PySem.Spec PyProof.Rows

/-- a value, without the heap -/
inductive V where
  | non | bl (b : Bool) | int (i : Int) | str (x : Str) | byt (b : Array UInt8) | flt (b : UInt64) | ref (a : Addr) | ty (n : String)
  deriving DecidableEq

def RelV : V → Value → Prop
  | .non, u => u = Value.none
  | .bl b, u => u = Value.bool b
  | .int i, u => ∃ t, u = Value.int i t
  | .str x, u => ∃ t, u = Value.str x t
  | .byt b, u => ∃ t, u = Value.bytes b t
  | .flt b, u => ∃ t, u = Value.float b t
  | .ref a, u => u = Value.ref a
  | .ty n, u => u = Value.type n

abbrev Vals : List V → List Value → Prop := Paired RelV
theorem Vals.length {xs : List V} {us : List Value} (r : Vals xs us) : xs.length = us.length := Paired.length r
theorem Vals.get : ∀ {xs : List V} {us : List Value} {i : Nat} {x : V}, Vals xs us → xs[i]? = some x → ∃ u, us[i]? = some u ∧ RelV x u
  | _, _, _, _, .nil, e => by simp at e
  | _, _, 0, _, .cons r _, e => by simp at e; subst e; exact ⟨_, rfl, r⟩
  | _, _, i + 1, x, .cons _ t, e => by
    obtain ⟨u, h1, h2⟩ := Vals.get (i := i) (x := x) t (by simpa using e)
    exact ⟨u, by simpa using h1, h2⟩
theorem Vals.set {x : V} {u : Value} (r : RelV x u) : ∀ {xs : List V} {us : List Value} (i : Nat), Vals xs us → Vals (xs.set i x) (us.set i u)
  | _, _, _, .nil => .nil
  | _, _, 0, .cons _ t => .cons r t
  | _, _, i + 1, .cons q t => .cons q (Vals.set r i t)
theorem Vals.append : ∀ {xs ys : List V} {us ws : List Value}, Vals xs us → Vals ys ws → Vals (xs ++ ys) (us ++ ws)
  | _, _, _, _, .nil, s => s
  | _, _, _, _, .cons r t, s => .cons r (Vals.append t s)
theorem Vals.take : ∀ {xs : List V} {us : List Value} (n : Nat), Vals xs us → Vals (xs.take n) (us.take n)
  | _, _, 0, _ => .nil
  | _, _, _ + 1, .nil => .nil
  | _, _, n + 1, .cons r t => .cons r (Vals.take n t)
theorem Vals.drop : ∀ {xs : List V} {us : List Value} (n : Nat), Vals xs us → Vals (xs.drop n) (us.drop n)
  | _, _, 0, r => r
  | _, _, _ + 1, .nil => .nil
  | _, _, n + 1, .cons _ t => Vals.drop n t
def RelO : Option V → Option Value → Prop
  | some v, some u => RelV v u
  | none, none => True
  | _, _ => False
def KV {κ : Type} : List (κ × V) → List (κ × Value) → Prop := Paired fun (p : κ × V) (q : κ × Value) => p.1 = q.1 ∧ RelV p.2 q.2

/-- a key of a dict (00_mix): an int or a text -/
def kV : Key → V
  | .inl i => .int i
  | .inr x => .str x

/-- what stands at a tracked address -/
inductive HO where
  /-- a list -/
  | lst (xs : List V)
  /-- a tuple (never changes) -/
  | tup (xs : List V)
  /-- a dict whose keys are ints and texts; one whose keys are tuples of ints and texts (the empty one is both) -/
  | dK (kvs : List (Key × V)) | dT (kvs : List (List Key × V))
  /-- a set of ints: its members, its size -/
  | set (S : Int → Bool) (n : Nat)
  /-- an instance of the class at C, its dict at dx, its attributes -/
  | ins (C dx : Addr) (fs : List (Str × V))
  /-- the dict of the instance at x -/
  | own (x : Addr)
  /-- the dict of an exception -/
  | xd (fs : List (Str × V))
  /-- a bound method, f of x -/
  | met (f x : Addr)
  /-- a range object lo, lo + 1, .. below hi -/
  | rng (lo hi : Int)
  /-- a thing that is known to the object (the script; a dict while a loop walks it): read, never written while it is so -/
  | frz (o : Obj) (u : HO)
  /-- a code object's table -/
  | tbl (ps : Array Value)
  /-- any other thing, by what is true of its one object (a def of one's own: SetO a S n := HO.ext fun h => ..) -/
  | ext (φ : Heap → Prop)

abbrev Hp := Addr → Option HO
def upd (H : Hp) (a : Addr) (o : HO) : Hp := fun b => if b = a then some o else H b
theorem upd_same {H : Hp} {a : Addr} {o : HO} : upd H a o a = some o := by unfold upd; rw [if_pos rfl]
theorem upd_ne {H : Hp} {a b : Addr} {o : HO} (h : b ≠ a) : upd H a o b = H b := by unfold upd; rw [if_neg h]
theorem upd_upd {H : Hp} {a : Addr} {o u : HO} : upd (upd H a o) a u = upd H a u := by
  funext b; unfold upd; split <;> rfl
/-- two objects of different content stand apart -/
theorem ne_of {H : Hp} {a b : Addr} {o u : HO} (h : H a = some o) (h' : H b = some u) (d : o ≠ u) : a ≠ b := by
  intro e; subst e; rw [h] at h'; exact d (Option.some.inj h')
theorem ne_of_none {H : Hp} {a b : Addr} {o : HO} (h : H a = some o) (h' : H b = none) : a ≠ b := by
  intro e; subst e; rw [h] at h'; cases h'

section
variable (P : Program) (w : World)
def ObjOk (H : Hp) (h : Heap) (a : Addr) : HO → Prop
  | .lst xs => xs.length ≤ sizeLine ∧ ∃ (its : List Value) (n : Nat), Vals xs its ∧ h.get? a = some { cls := .type "list", data := .seq its.toArray n }
  | .tup xs => xs.length ≤ sizeLine ∧ ∃ its : List Value, Vals xs its ∧ IsTup h a its.toArray
  | .dK kvs => kvs.length ≤ sizeLine ∧ (a == sysModules) = false ∧ ∃ vs, KV kvs vs ∧ h.DictOf (mixKind P w) a vs
  | .dT kvs => kvs.length ≤ sizeLine ∧ (a == sysModules) = false ∧ ∃ xs : List (List Key × Addr × Value),
      Paired (fun (p : List Key × V) (q : List Key × Addr × Value) => p.1 = q.1 ∧ H q.2.1 = some (.tup (p.1.map kV)) ∧ RelV p.2 q.2.2) kvs xs ∧
      ∃ o es ep, h.get? a = some o ∧ o.ExactDict ∧ o.data = .dict es ep ∧ es.toList = xs.map (entryOfKey (tupleKind (mixKind P w))) ∧ (xs.map (·.1)).Nodup
  | .set S n => h.SetOf (intKind P w) a S n
  | .ins C dx fs => H dx = some (.own a) ∧ fs.length ≤ 1000 ∧ dx ≠ a ∧ h.get? a = some (PySem.W.instObj C dx) ∧
      ∃ mA, h.Ns1 dx mA ∧ (∀ f, RelO (fs.lookup f) (mA f)) ∧ PySem.Within mA (fs.map (·.1))
  | .own _ => ∃ o, h.get? a = some o
  | .xd fs => ∃ mA, h.Ns1 a mA ∧ ∀ f, RelO (fs.lookup f) (mA f)
  | .rng lo hi => ∃ t u v, h.get? a = some { cls := .type "range", data := .fields #[.int lo t, .int hi u, .int 1 v] }
  | .frz o u => h.get? a = some o ∧ ObjOk H h a u
  | .tbl ps => h.get? a = some { cls := .none, data := .fields ps }
  | .met f x => h.get? a = some (PySem.W.methodObj (.ref f) (.ref x))
  | .ext φ => φ h ∧ (∃ o, h.get? a = some o) ∧ ∀ h1 h2 : Heap, φ h1 → (∀ o, h1.get? a = some o → h2.get? a = some o) → φ h2
/-- the abstract heap is held -/
def HOk (H : Hp) (h : Heap) : Prop := ∀ a o, H a = some o → ObjOk P w H h a o
end

section
variable {P : Program} {w : World} {H H' : Hp} {h h' : Heap} {a : Addr} {o : HO}
theorem ObjOk.lt (x : ObjOk P w H h a o) : a < h.objs.size := by
  cases o with
  | lst xs => obtain ⟨_, _, _, _, e⟩ := x; exact Heap.lt_size e
  | tup xs => obtain ⟨_, _, _, p⟩ := x; exact p.lt
  | dK kvs => obtain ⟨_, _, _, _, o, _, _, e, _⟩ := x; exact Heap.lt_size e
  | dT kvs => obtain ⟨_, _, _, _, o, _, _, e, _⟩ := x; exact Heap.lt_size e
  | set S n => obtain ⟨o, _, _, _, e, _⟩ := x; exact Heap.lt_size e
  | ins C dx fs => obtain ⟨_, _, _, e, _⟩ := x; exact Heap.lt_size e
  | own y => obtain ⟨_, e⟩ := x; exact Heap.lt_size e
  | xd fs => obtain ⟨_, ⟨_, _, _, e, _⟩, _⟩ := x; exact Heap.lt_size e
  | rng lo hi => obtain ⟨_, _, _, e⟩ := x; exact Heap.lt_size e
  | frz ob u => obtain ⟨e, _⟩ := x; exact Heap.lt_size e
  | tbl ps => exact Heap.lt_size (show h.get? a = some _ from x)
  | met f y => exact Heap.lt_size (show h.get? a = some _ from x)
  | ext φ => obtain ⟨_, ⟨_, e⟩, _⟩ := x; exact Heap.lt_size e
theorem Paired.mapP {α β : Type} {F G : α → β → Prop} : ∀ {l₁ : List α} {l₂ : List β}, Paired F l₁ l₂ → (∀ a b, F a b → G a b) → Paired G l₁ l₂
  | _, _, .nil, _ => .nil
  | _, _, .cons r t, f => .cons (f _ _ r) (Paired.mapP t f)
/-- what an object's description leans on: its own object, its own dict, the tuples -/
theorem ObjOk.stay (x : ObjOk P w H h a o) (k : ∀ b u, (b = a ∨ H b = some (.own a)) → h.get? b = some u → h'.get? b = some u)
    (ho : ∀ b, H b = some (.own a) → H' b = some (.own a)) (ht : ∀ b xs, H b = some (.tup xs) → H' b = some (.tup xs)) : ObjOk P w H' h' a o := by
  induction o with
  | lst xs => obtain ⟨z, its, n, r, e⟩ := x; exact ⟨z, its, n, r, k _ _ (.inl rfl) e⟩
  | tup xs => obtain ⟨z, its, r, ob, e, c⟩ := x; exact ⟨z, its, r, ob, k _ _ (.inl rfl) e, c⟩
  | dK kvs => obtain ⟨z, y, vs, r, ob, es, ep, e, c⟩ := x; exact ⟨z, y, vs, r, ob, es, ep, k _ _ (.inl rfl) e, c⟩
  | dT kvs =>
    obtain ⟨z, y, xs, r, ob, es, ep, e, c⟩ := x
    exact ⟨z, y, xs, Paired.mapP r fun p q z => ⟨z.1, ht _ _ z.2.1, z.2.2⟩, ob, es, ep, k _ _ (.inl rfl) e, c⟩
  | set S n => obtain ⟨ob, es, ep, t, e, c⟩ := x; exact ⟨ob, es, ep, t, k _ _ (.inl rfl) e, c⟩
  | ins C dx fs =>
    obtain ⟨d, z, ne, e, mA, ⟨od, es, ep, e2, c⟩, r⟩ := x
    exact ⟨ho _ d, z, ne, k _ _ (.inl rfl) e, mA, ⟨od, es, ep, k _ _ (.inr d) e2, c⟩, r⟩
  | own y => obtain ⟨ob, e⟩ := x; exact ⟨ob, k _ _ (.inl rfl) e⟩
  | xd fs => obtain ⟨mA, ⟨od, es, ep, e, c⟩, r⟩ := x; exact ⟨mA, ⟨od, es, ep, k _ _ (.inl rfl) e, c⟩, r⟩
  | rng lo hi => obtain ⟨t, u, v, e⟩ := x; exact ⟨t, u, v, k _ _ (.inl rfl) e⟩
  | frz ob u ih => obtain ⟨e, q⟩ := x; exact ⟨k _ _ (.inl rfl) e, ih q⟩
  | tbl ps =>
    have e : h.get? a = some { cls := .none, data := .fields ps } := x
    show h'.get? a = some { cls := .none, data := .fields ps }
    exact k a _ (.inl rfl) e
  | met f y =>
    have e : h.get? a = some (PySem.W.methodObj (.ref f) (.ref y)) := x
    show h'.get? a = some (PySem.W.methodObj (.ref f) (.ref y))
    exact k a _ (.inl rfl) e
  | ext φ => obtain ⟨p, ⟨o, e⟩, st⟩ := x; exact ⟨st _ _ p fun o q => k _ _ (.inl rfl) q, ⟨o, k _ _ (.inl rfl) e⟩, st⟩
theorem HOk.lt (x : HOk P w H h) (e : H a = some o) : a < h.objs.size := (x a o e).lt
theorem HOk.fresh (x : HOk P w H h) (e : h.objs.size ≤ a) : H a = none := by
  cases q : H a with
  | none => rfl
  | some u => exact absurd (Nat.lt_of_lt_of_le (x.lt q) e) (Nat.lt_irrefl _)
/-- every object of the heap is kept -/
theorem HOk.kept (x : HOk P w H h) (k : ∀ b u, h.get? b = some u → h'.get? b = some u) : HOk P w H h' := fun a o e =>
  (x a o e).stay (fun b u _ q => k b u q) (fun _ q => q) fun _ _ q => q
/-- a new object is laid and tracked -/
theorem HOk.laid (x : HOk P w H h) (k : ∀ b u, h.get? b = some u → h'.get? b = some u) (hp : h.objs.size ≤ a) (new : ObjOk P w (upd H a o) h' a o) : HOk P w (upd H a o) h' := fun b u e => by
  have hn := x.fresh hp
  by_cases hb : b = a
  · subst hb; rw [upd_same] at e; cases e; exact new
  · rw [upd_ne hb] at e
    exact (x b u e).stay (fun c v _ q => k c v q) (fun c q => by rw [upd_ne (ne_of_none q hn)]; exact q) fun c xs q => by rw [upd_ne (ne_of_none q hn)]; exact q
end

/-- what may be read as u: it is u, or a known u -/
def Rd (H : Hp) (a : Addr) (u : HO) : Prop := H a = some u ∨ ∃ o, H a = some (.frz o u)
theorem Rd.ok {P : Program} {w : World} {H : Hp} {h : Heap} {a : Addr} {u : HO} (r : Rd H a u) (x : HOk P w H h) : ObjOk P w H h a u := by
  rcases r with r | ⟨o, r⟩
  · exact x a u r
  · obtain ⟨_, q⟩ := x a _ r
    exact q
/-- what may be written -/
def Mut : Option HO → Prop
  | some (.lst _) => True
  | some (.dK _) => True
  | some (.dT _) => True
  | some (.set _ _) => True
  | some (.ins _ _ _) => True
  | some (.ext _) => True
  | _ => False
section
variable {P : Program} {w : World} {H : Hp} {h h' : Heap} {x e : Addr} {o' : HO}
/-- the object at e is changed: x itself, or the dict of the instance x -/
theorem HOk.write (ok : HOk P w H h) (mu : Mut (H x)) (he : e = x ∨ H e = some (.own x)) (k : ∀ b u, b ≠ e → h.get? b = some u → h'.get? b = some u) (heo : ∃ u, h'.get? e = some u)
    (new : ObjOk P w (upd H x o') h' x o') : HOk P w (upd H x o') h' := fun b u q => by
  have nown : ∀ c y, H c = some (.own y) → c ≠ x := fun c y r z => by subst z; rw [r] at mu; exact mu
  have ntup : ∀ c xs, H c = some (.tup xs) → c ≠ x := fun c xs r z => by subst z; rw [r] at mu; exact mu
  by_cases hb : b = x
  · subst hb; rw [upd_same] at q; cases q; exact new
  · rw [upd_ne hb] at q
    by_cases hbe : b = e
    · have q' : H b = some (.own x) := by
        rcases he with z | z
        · exact absurd (hbe.trans z) hb
        · rw [hbe]; exact z
      rw [q] at q'; cases q'
      obtain ⟨v, hv⟩ := heo
      exact ⟨v, by rw [hbe]; exact hv⟩
    · refine (ok b u q).stay (fun c v hc r => k c v ?_ r) (fun c r => by rw [upd_ne (nown c b r)]; exact r) fun c xs r => by rw [upd_ne (ntup c xs r)]; exact r
      rcases hc with rfl | hc
      · exact hbe
      · rintro rfl
        rcases he with z | z
        · exact nown c b hc z
        · rw [hc] at z; cases z; exact hb rfl
end

/-! ### kept unless tracked; of the frames at fs (the callers') the slots may change (an exception that passes writes there); of the records at ex (iterators) nothing is said -/
structure Un (fs ex : List Addr) (H H' : Hp) (h h' : Heap) : Prop where
  keep : ∀ b o, h.get? b = some o → H b = none → b ∉ fs → b ∉ ex → h'.get? b = some o
  slot : ∀ b o, h.get? b = some o → H b = none → b ∈ fs → b ∉ ex → ∃ sl, h'.get? b = some { o with slots := sl }
  free : ∀ b o, h.get? b = some o → H b = none → b ∉ ex → H' b = none
  there : ∀ b o, h.get? b = some o → b ∉ ex → ∃ o', h'.get? b = some o'
  tups : ∀ b xs, H b = some (.tup xs) → H' b = some (.tup xs)
  frzs : ∀ b o u, H b = some (.frz o u) → H' b = some (.frz o u)
  tbls : ∀ b ps, H b = some (.tbl ps) → ∃ more, H' b = some (.tbl (ps ++ more))
section
variable {fs fs' ex ex' : List Addr} {H H1 H2 : Hp} {h h1 h2 h' : Heap} {a x e : Addr} {o : HO}
theorem Un.any (u : Un fs ex H H1 h h1) {b : Addr} {ob : Obj} (q : h.get? b = some ob) (n : H b = none) (hx : b ∉ ex) : ∃ sl, h1.get? b = some { ob with slots := sl } := by
  by_cases hb : b ∈ fs
  · exact u.slot b ob q n hb hx
  · exact ⟨ob.slots, u.keep b ob q n hb hx⟩
theorem Un.kept (k : ∀ b u, h.get? b = some u → h'.get? b = some u) : Un fs ex H H h h' :=
  ⟨fun b ob q _ _ _ => k b ob q, fun b ob q _ _ _ => ⟨ob.slots, k b ob q⟩, fun _ _ _ n _ => n, fun b ob q _ => ⟨ob, k b ob q⟩, fun _ _ q => q, fun _ _ _ q => q, fun _ ps q => ⟨#[], by rw [q]; simp⟩⟩
theorem Un.refl : Un fs ex H H h h := Un.kept fun _ _ q => q
theorem Un.laid (k : ∀ b u, h.get? b = some u → h'.get? b = some u) (hp : h.objs.size ≤ a) (hn : H a = none) : Un fs ex H (upd H a o) h h' where
  keep := fun b u q _ _ _ => k b u q
  slot := fun b u q _ _ _ => ⟨u.slots, k b u q⟩
  free := fun b u q n _ => by rw [upd_ne (Nat.ne_of_lt (Nat.lt_of_lt_of_le (Heap.lt_size q) hp))]; exact n
  there := fun b u q _ => ⟨u, k b u q⟩
  tups := fun b xs q => by rw [upd_ne (ne_of_none q hn)]; exact q
  frzs := fun b u xs q => by rw [upd_ne (ne_of_none q hn)]; exact q
  tbls := fun b ps q => ⟨#[], by rw [upd_ne (ne_of_none q hn), q]; simp⟩
theorem Un.write (mu : Mut (H x)) (he : e = x ∨ H e = some (.own x)) (k : ∀ b u, b ≠ e → h.get? b = some u → h'.get? b = some u) (heo : ∃ u, h'.get? e = some u) : Un fs ex H (upd H x o) h h' := by
  have hx : ∀ b, H b = none → b ≠ x := fun b n z => by subst z; rw [n] at mu; exact mu
  have hb : ∀ b, H b = none → b ≠ e := fun b n z => by
    subst z
    rcases he with r | r
    · exact hx b n r
    · rw [n] at r; cases r
  have hm : ∀ b u, H b = some u → ¬ Mut (some u) → b ≠ x := fun b u q nm z => by subst z; rw [q] at mu; exact nm mu
  refine ⟨fun b u q n _ _ => k b u (hb b n) q, fun b u q n _ _ => ⟨u.slots, k b u (hb b n) q⟩, fun b u q n _ => by rw [upd_ne (hx b n)]; exact n, fun b u q _ => ?_,
    fun b xs q => by rw [upd_ne (hm b _ q fun z => z)]; exact q, fun b u xs q => by rw [upd_ne (hm b _ q fun z => z)]; exact q, fun b ps q => ⟨#[], by rw [upd_ne (hm b _ q fun z => z), q]; simp⟩⟩
  by_cases hbe : b = e
  · subst hbe; exact heo
  · exact ⟨u, k b u hbe q⟩
end

/-! ### the heap without what is tracked -/
def trk (h : Heap) (H : Hp) : List Addr := (List.range h.objs.size).filter fun a => (H a).isSome
def hidT (h : Heap) (H : Hp) : Heap := PySem.W.hideAll h (trk h H)
theorem hidT_size (h : Heap) (H : Hp) : (hidT h H).objs.size = h.objs.size := PySem.W.hideAll_size _ _
theorem hidT_get {h : Heap} {H : Hp} {b : Addr} {o : Obj} (e : h.get? b = some o) (n : H b = none) : (hidT h H).get? b = some o :=
  PySem.W.hideAll_get _ e fun hm => by
    have q : (H b).isSome = true := (List.mem_filter.mp hm).2
    rw [n] at q; simp at q
theorem of_hidT {h : Heap} {H : Hp} {b : Addr} {o : Obj} (e : (hidT h H).get? b = some o) : h.get? b = some o ∧ H b = none := by
  have e' : h.get? b = some o := PySem.W.of_hideAll (trk h H) e
  refine ⟨e', ?_⟩
  cases q : H b with
  | none => rfl
  | some x =>
    have hm : b ∈ trk h H := List.mem_filter.mpr ⟨List.mem_range.mpr (Heap.lt_size e'), by simp [q]⟩
    have z : (hidT h H).get? b = none := PySem.W.hideAll_none (trk h H) hm
    rw [z] at e; cases e

/-! ### OpenK's ledger, filled with every new object but one -/
def allNews (g h : Heap) (L : Addr) : List (Addr × Obj) := (List.range h.objs.size).filterMap fun a => if a = L ∨ (g.get? a).isSome = true then none else (h.get? a).map fun o => (a, o)
def rest (g h : Heap) (L d : Addr) : List (Addr × Obj) := (allNews g h L).filter fun p => decide (p.1 ≠ d)
end L2

namespace L2
open PySem PySem.Spec PyProof.Rows

/-- the module's facts, over the base: the heap at the law's entry without what is tracked there -/
structure Mod (K : PySem.W.Frag) (mg : Str → Option Value) (base : Heap) : Prop where
  kin : K.In base
  glob : base.Ns mainGlobals mg
  blt : ∃ mb, base.Ns builtinsNs mb ∧ ∀ x : Str, x ≠ "__name__" → mb x = bootBuiltins x
  nolimit : base.NoLimit

/-- the context: a def's body (or a comprehension's block) running. base: fixed through the whole law; s₀, H₀: the entry; outer: the frames whose slots others may change (a def's callers); stack: all frames that run;
   ex: iterators that were made ahead of the entry and are walked here (a comprehension's); fn: the names whose cells were made at the entry (a def: all; a comprehension's block: its own); calm: not within an except suite; pn: pins that every state bears; xe: what is wanted of an exception that leaves the code -/
structure Cx where
  prog : Program
  w : World
  K : PySem.W.Frag
  mg : Str → Option Value
  base : Heap
  A : Around
  N : List Str
  s₀ : Shared
  H₀ : Hp
  env : Env
  outer : List Env
  stack : List Env
  ex : List Addr
  fn : Str → Bool
  calm : Bool
  pn : List (Addr × Obj)
  xe : Value → Shared → Prop
/-- the callers' frames -/
def frs (l : List Env) : List Addr := l.filterMap (·.frame)
abbrev Cx.fs (X : Cx) : List Addr := frs X.outer

def Vis (sc : Scope) (x : Str) : Prop := sc.names.lookup x = some .local ∨ sc.names.lookup x = some .cell ∨ sc.names.lookup x = some .free
def Loc (sc : Scope) (x : Str) : Prop := sc.names.lookup x = some .local ∨ sc.names.lookup x = some .cell
def Look (env : Env) (h : Heap) (m : Str → Option Value) (x : Str) (u : Value) : Prop :=
  (env.kindOf x = some .local ∧ m x = some u) ∨ ((env.kindOf x = some .cell ∨ env.kindOf x = some .free) ∧ ∃ c, env.cells.lookup x = some c ∧ h.IsCell c (some u))

structure Cx.Ok (X : Cx) : Prop where
  mod : Mod X.K X.mg X.base
  kind : X.env.scope.kind = .function
  glob : X.env.globals = mainGlobals
  blt : X.env.builtins = builtinsNs
  above : X.s₀.heap.objs.size ≤ X.env.locals
  inj : ∀ x y c, X.env.cells.lookup x = some c → X.env.cells.lookup y = some c → x = y
  has : ∀ x, (X.env.kindOf x = some .cell ∨ X.env.kindOf x = some .free) → ∃ c, X.env.cells.lookup x = some c
  cab : ∀ x c, X.fn x = true → X.env.cells.lookup x = some c → X.s₀.heap.objs.size ≤ c
  hd : X.calm = true → X.A.handled = none
  frames : X.A.frames = some X.stack
  stk : X.stack = X.outer ∨ (X.stack = X.env :: X.outer ∧ X.env.frame = some X.env.locals)
  exf : ∀ b ∈ X.ex, b ≠ X.env.locals ∧ ∀ x c, X.env.cells.lookup x = some c → c ≠ b
  bs : ∀ b o, X.base.get? b = some o → X.s₀.heap.get? b = some o ∧ X.H₀ b = none
  bsz : X.base.objs.size ≤ X.s₀.heap.objs.size
  noex : ∀ b o, X.base.get? b = some o → b ∉ X.ex
  exfs : ∀ b ∈ X.ex, b ∉ X.fs
  funs : X.s₀.heap.FunFrames X.base X.outer
  frf : ∀ b ∈ X.fs, X.H₀ b = none

structure Inv (X : Cx) (pins : List (Addr × Obj)) (σ : List (Option V)) (H : Hp) (s : Shared) : Prop where
  ok : X.Ok
  os : s.os = X.s₀.os
  bare : AllBare s.gens
  base : Un X.fs X.ex X.H₀ H X.s₀.heap s.heap
  loc : ∃ m, s.heap.Ns X.env.locals m ∧ ∀ (i : Nat) (x : Str) (v : V), X.N[i]? = some x → σ[i]? = some (some v) → Vis X.env.scope x → ∃ u, RelV v u ∧ Look X.env s.heap m x u
  cell : ∀ x c, X.env.cells.lookup x = some c → ∃ v, s.heap.IsCell c v
  free : H X.env.locals = none
  freeC : ∀ x c, X.env.cells.lookup x = some c → H c = none
  pin : ∀ p ∈ X.pn ++ pins, s.heap.get? p.1 = some p.2 ∧ H p.1 = none ∧ p.1 ≠ X.env.locals ∧ p.1 ∉ X.fs ∧ ∀ v, p.2.data ≠ .cell v
  hok : HOk X.prog X.w H s.heap
  len : σ.length = X.N.length

section
variable {X : Cx} {pins : List (Addr × Obj)} {σ : List (Option V)} {H H' : Hp} {s : Shared} {h' : Heap}

theorem Cx.Ok.nofr (ok : X.Ok) {b : Addr} {o : Obj} (e : X.base.get? b = some o) : b ∉ X.fs := fun hb => by
  have := (ok.funs.mem hb).1
  rw [e] at this; cases this
theorem Inv.bs (I : Inv X pins σ H s) : ∀ b o, X.base.get? b = some o → s.heap.get? b = some o ∧ H b = none := fun b o e =>
  ⟨I.base.keep b o (I.ok.bs b o e).1 (I.ok.bs b o e).2 (I.ok.nofr e) (I.ok.noex b o e), I.base.free b o (I.ok.bs b o e).1 (I.ok.bs b o e).2 (I.ok.noex b o e)⟩
theorem Inv.bk (I : Inv X pins σ H s) : ∀ b o, X.base.get? b = some o → s.heap.get? b = some o := fun b o e => (I.bs b o e).1
theorem Inv.mod (I : Inv X pins σ H s) : Mod X.K X.mg X.base := I.ok.mod
theorem Inv.kIn (I : Inv X pins σ H s) : X.K.In s.heap := I.ok.mod.kin.keeps I.bk
theorem Inv.lt (I : Inv X pins σ H s) : X.env.locals < s.heap.objs.size := let ⟨_, hn, _⟩ := I.loc; hn.lt
theorem Inv.sz (I : Inv X pins σ H s) : X.s₀.heap.objs.size ≤ s.heap.objs.size := Nat.le_trans I.ok.above (Nat.le_of_lt I.lt)
theorem Inv.nofs (I : Inv X pins σ H s) {a : Addr} (h : s.heap.objs.size ≤ a) : a ∉ X.fs := fun hb => by
  obtain ⟨_, o, ho, _⟩ := I.ok.funs.mem hb
  exact absurd (Nat.lt_of_lt_of_le (Heap.lt_size ho) (Nat.le_trans I.sz h)) (Nat.lt_irrefl _)
theorem Inv.cne (I : Inv X pins σ H s) : ∀ x c, X.env.cells.lookup x = some c → c ≠ X.env.locals := fun x c e z => by
  obtain ⟨v, o, ho, hd⟩ := I.cell x c e
  obtain ⟨m, ⟨o', es, ep, ho', hd', _⟩, _⟩ := I.loc
  rw [z, ho'] at ho; cases ho; rw [hd'] at hd; cases hd
theorem Inv.funs (I : Inv X pins σ H s) : s.heap.FunFrames X.base X.outer := by
  have all : ∀ (l : List Env), (∀ b ∈ frs l, b ∈ X.fs) → X.s₀.heap.FunFrames X.base l → s.heap.FunFrames X.base l := by
    intro l
    induction l with
    | nil => intro _ _; trivial
    | cons env r ih =>
      intro hs hl
      obtain ⟨hk, ⟨L, o, hf, hn, ho, hd⟩, hr⟩ := hl
      have hL : L ∈ X.fs := hs L (by unfold frs; rw [List.filterMap_cons, hf]; exact List.mem_cons_self)
      obtain ⟨sl, e⟩ := I.base.slot L o ho (I.ok.frf L hL) hL fun z => I.ok.exfs L z hL
      exact ⟨hk, ⟨L, _, hf, hn, e, hd⟩, ih (fun b hb => hs b (by unfold frs; rw [List.filterMap_cons, hf]; exact List.mem_cons_of_mem _ hb)) hr⟩
  exact all X.outer (fun _ hb => hb) I.ok.funs

/-- the frames that run, for a call -/
theorem Inv.stack (I : Inv X pins σ H s) : s.heap.FunFrames X.base X.stack := by
  rcases I.ok.stk with e | ⟨e, hf⟩
  · rw [e]; exact I.funs
  · rw [e]
    obtain ⟨m, hn, _⟩ := I.loc
    refine .cons (by rw [I.ok.kind]; decide) hf hn ?_ I.funs
    exact Heap.get?_none_of_le (Nat.le_trans I.ok.bsz I.ok.above)
theorem Inv.stkSub (I : Inv X pins σ H s) : ∀ b ∈ frs X.stack, b ∈ X.env.locals :: X.fs := fun b hb => by
  rcases I.ok.stk with e | ⟨e, hf⟩
  · rw [e] at hb; exact List.mem_cons_of_mem _ hb
  · rw [e] at hb
    unfold frs at hb
    rw [List.filterMap_cons, hf] at hb
    exact hb
theorem Inv.stkFree (I : Inv X pins σ H s) : ∀ b ∈ frs X.stack, H b = none := fun b hb => by
  rcases List.mem_cons.mp (I.stkSub b hb) with e | hb
  · rw [e]; exact I.free
  · obtain ⟨_, o, ho, _⟩ := I.ok.funs.mem hb
    exact I.base.free b o ho (I.ok.frf b hb) fun z => I.ok.exfs b z hb

/-- THE STEP: the untracked objects but the frame and the records at ch are kept (the callers' frames up to slots), the frame's map is kept, the new abstract heap is held -/
theorem Inv.step {g' : Array GenState} {t' : Nat} {d' : Drawn} {ch : List Addr} (I : Inv X pins σ H s)
    (hch : ∀ b ∈ ch, (b ∈ X.ex ∨ X.s₀.heap.objs.size ≤ b) ∧ b ≠ X.env.locals ∧ (∀ x c, X.env.cells.lookup x = some c → c ≠ b) ∧ ∀ p ∈ X.pn ++ pins, p.1 ≠ b)
    (keep : ∀ b o, b ≠ X.env.locals → b ∉ X.fs → b ∉ ch → s.heap.get? b = some o → H b = none → h'.get? b = some o)
    (slot : ∀ b o, b ≠ X.env.locals → b ∈ X.fs → b ∉ ch → s.heap.get? b = some o → H b = none → ∃ sl, h'.get? b = some { o with slots := sl }) (free : ∀ b o, b ∉ ch → s.heap.get? b = some o → H b = none → H' b = none)
    (there : ∀ b o, b ∉ ch → s.heap.get? b = some o → ∃ o', h'.get? b = some o')
    (tups : ∀ b xs, H b = some (.tup xs) → H' b = some (.tup xs)) (frzs : ∀ b o u, H b = some (.frz o u) → H' b = some (.frz o u)) (tbls : ∀ b ps, H b = some (.tbl ps) → ∃ more, H' b = some (.tbl (ps ++ more)))
    (ns : ∀ m, s.heap.Ns X.env.locals m → h'.Ns X.env.locals m) (hok : HOk X.prog X.w H' h') (hg : AllBare g') :
    Inv X pins σ H' { s with heap := h', gens := g', drawn := d', toks := t' } := by
  have neL : ∀ b o, X.s₀.heap.get? b = some o → b ≠ X.env.locals := fun b o e => Nat.ne_of_lt (Nat.lt_of_lt_of_le (Heap.lt_size e) I.ok.above)
  have neC : ∀ b o, X.s₀.heap.get? b = some o → b ∉ X.ex → b ∉ ch := fun b o e hx hb => by
    rcases (hch b hb).1 with z | z
    · exact hx z
    · exact absurd (Nat.lt_of_lt_of_le (Heap.lt_size e) z) (Nat.lt_irrefl _)
  have cellK : ∀ x c, X.env.cells.lookup x = some c → ∀ v, s.heap.IsCell c v → h'.IsCell c v := fun x c e v ⟨o, ho, hd⟩ => by
    have nch : c ∉ ch := fun z => (hch c z).2.2.1 x c e rfl
    by_cases hc : c ∈ X.fs
    · obtain ⟨sl, q⟩ := slot c o (I.cne x c e) hc nch ho (I.freeC x c e)
      exact ⟨_, q, hd⟩
    · exact ⟨o, keep c o (I.cne x c e) hc nch ho (I.freeC x c e), hd⟩
  refine ⟨I.ok, I.os, hg, ⟨fun b o e n hb hx => ?_, fun b o e n hb hx => ?_, fun b o e n hx => ?_, fun b o e hx => ?_, fun b xs e => tups b xs (I.base.tups b xs e), fun b o xs e => frzs b o xs (I.base.frzs b o xs e), fun b ps e => ?_⟩, ?_, fun x c e => ?_, ?_, fun x c e => ?_, fun p hp => ?_, hok, I.len⟩
  · exact keep b o (neL b o e) hb (neC b o e hx) (I.base.keep b o e n hb hx) (I.base.free b o e n hx)
  · obtain ⟨sl, e1⟩ := I.base.slot b o e n hb hx
    obtain ⟨sl', e2⟩ := slot b _ (neL b o e) hb (neC b o e hx) e1 (I.base.free b o e n hx)
    exact ⟨sl', e2⟩
  · obtain ⟨o', e1⟩ := I.base.there b o e hx
    exact free b o' (neC b o e hx) e1 (I.base.free b o e n hx)
  · obtain ⟨o', e1⟩ := I.base.there b o e hx
    exact there b o' (neC b o e hx) e1
  · obtain ⟨m1, e1⟩ := I.base.tbls b ps e
    obtain ⟨m2, e2⟩ := tbls b _ e1
    exact ⟨m1 ++ m2, by rw [e2, Array.append_assoc]⟩
  · obtain ⟨m, hn, hl⟩ := I.loc
    refine ⟨m, ns m hn, fun i x v e1 e2 e3 => ?_⟩
    obtain ⟨u, r, l⟩ := hl i x v e1 e2 e3
    refine ⟨u, r, ?_⟩
    rcases l with l | ⟨k, c, e, z⟩
    · exact .inl l
    · exact .inr ⟨k, c, e, cellK x c e _ z⟩
  · obtain ⟨v, z⟩ := I.cell x c e
    exact ⟨v, cellK x c e v z⟩
  · obtain ⟨m, ⟨o, _, _, ho, _⟩, _⟩ := I.loc
    exact free _ o (fun z => (hch _ z).2.1 rfl) ho I.free
  · obtain ⟨v, o, ho, hd⟩ := I.cell x c e
    exact free c o (fun z => (hch c z).2.2.1 x c e rfl) ho (I.freeC x c e)
  · obtain ⟨e, n, ne, nf, d⟩ := I.pin p hp
    have nch : p.1 ∉ ch := fun z => (hch p.1 z).2.2.2 p hp rfl
    exact ⟨keep p.1 p.2 ne nf nch e n, free p.1 p.2 nch e n, ne, nf, d⟩
/-- .. where the frame's own object is kept too -/
theorem Inv.un {t' : Nat} (I : Inv X pins σ H s) (u : Un X.fs [] H H' s.heap h') (hok : HOk X.prog X.w H' h') : Inv X pins σ H' { s with heap := h', toks := t' } := by
  obtain ⟨m, ⟨o, es, ep, ho, r⟩, _⟩ := id I.loc
  obtain ⟨sl, hL⟩ := u.any ho I.free (by simp)
  exact I.step (g' := s.gens) (d' := s.drawn) (ch := []) (fun _ z => nomatch z) (fun b o _ hb _ e n => u.keep b o e n hb (by simp)) (fun b o _ hb _ e n => u.slot b o e n hb (by simp)) (fun b o _ e n => u.free b o e n (by simp)) (fun b o _ e => u.there b o e (by simp)) u.tups u.frzs u.tbls (fun m' hm => by
    obtain ⟨o', es', ep', ho', r'⟩ := hm
    rw [ho] at ho'; cases ho'
    exact ⟨_, es', ep', hL, r'⟩) hok I.bare
/-- behind a call (or a comprehension's block): the slots of this frame may have changed too, the records at ch may have turned -/
theorem Inv.call {g' : Array GenState} {t' : Nat} {d' : Drawn} {ch : List Addr} (I : Inv X pins σ H s) (u : Un (frs X.stack) ch H H' s.heap h') (hok : HOk X.prog X.w H' h') (hg : AllBare g')
    (hch : ∀ b ∈ ch, (b ∈ X.ex ∨ X.s₀.heap.objs.size ≤ b) ∧ b ≠ X.env.locals ∧ (∀ x c, X.env.cells.lookup x = some c → c ≠ b) ∧ ∀ p ∈ X.pn ++ pins, p.1 ≠ b) :
    Inv X pins σ H' { s with heap := h', gens := g', drawn := d', toks := t' } := by
  obtain ⟨m, ⟨o, es, ep, ho, r⟩, _⟩ := id I.loc
  obtain ⟨sl, hL⟩ := u.any ho I.free fun z => (hch _ z).2.1 rfl
  exact I.step (ch := ch) hch (fun b o hL hb hc e n => u.keep b o e n (fun z => (List.mem_cons.mp (I.stkSub b z)).elim hL hb) hc) (fun b o _ _ hc e n => u.any e n hc) (fun b o hc e n => u.free b o e n hc) (fun b o hc e => u.there b o e hc) u.tups u.frzs u.tbls (fun m' hm => by
    obtain ⟨o', es', ep', ho', r'⟩ := hm
    rw [ho] at ho'; cases ho'
    exact ⟨_, es', ep', hL, r'⟩) hok hg
/-- an untracked record of ours (an iterator) has turned -/
theorem Inv.turned {t' : Nat} {it : Addr} (I : Inv X pins σ H s) (k : ∀ b o, b ≠ it → s.heap.get? b = some o → h'.get? b = some o) (hn : H it = none) (hL : it ≠ X.env.locals)
    (h1 : it ∈ X.ex ∨ X.s₀.heap.objs.size ≤ it) (h2 : ∀ x c, X.env.cells.lookup x = some c → c ≠ it) (h3 : ∀ p ∈ X.pn ++ pins, p.1 ≠ it) : Inv X pins σ H { s with heap := h', toks := t' } := by
  have nit : ∀ b u, H b = some u → b ≠ it := fun b u e z => by rw [z, hn] at e; cases e
  refine I.step (g' := s.gens) (d' := s.drawn) (ch := [it]) (fun b hb => ?_) (fun b o _ _ hc e _ => k b o (fun z => hc (by simp [z])) e) (fun b o _ _ hc e _ => ⟨o.slots, k b o (fun z => hc (by simp [z])) e⟩) (fun _ _ _ _ n => n)
    (fun b o hc e => ⟨o, k b o (fun z => hc (by simp [z])) e⟩) (fun _ _ e => e) (fun _ _ _ e => e) (fun b ps e => ⟨#[], by rw [e]; simp⟩) (fun m hm => ?_) (fun b u e => ?_) I.bare
  · have e : b = it := by simpa using hb
    subst e
    exact ⟨h1, hL, h2, h3⟩
  · obtain ⟨o, es, ep, ho, r⟩ := hm
    exact ⟨o, es, ep, k _ o (Ne.symm hL) ho, r⟩
  · refine (I.hok b u e).stay (fun c v hc q => k c v ?_ q) (fun _ q => q) fun _ _ q => q
    rcases hc with z | z
    · rw [z]; exact nit b u e
    · exact nit c _ z
theorem Inv.tok (I : Inv X pins σ H s) (t : Nat) : Inv X pins σ H { s with toks := t } := I.un (h' := s.heap) (t' := t) Un.refl I.hok
/-- all objects kept -/
theorem Inv.kept {t' : Nat} (I : Inv X pins σ H s) (k : ∀ b u, s.heap.get? b = some u → h'.get? b = some u) : Inv X pins σ H { s with heap := h', toks := t' } := I.un (Un.kept k) (I.hok.kept k)
/-- a new object laid and tracked -/
theorem Inv.laid {a : Addr} {o : HO} {t' : Nat} (I : Inv X pins σ H s) (k : ∀ b u, s.heap.get? b = some u → h'.get? b = some u) (hp : s.heap.objs.size ≤ a) (new : ObjOk X.prog X.w (upd H a o) h' a o) :
    Inv X pins σ (upd H a o) { s with heap := h', toks := t' } := I.un (Un.laid k hp (I.hok.fresh hp)) (I.hok.laid k hp new)
/-- an object written -/
theorem Inv.write {x e : Addr} {o : HO} {t' : Nat} (I : Inv X pins σ H s) (mu : Mut (H x)) (he : e = x ∨ H e = some (.own x)) (k : ∀ b u, b ≠ e → s.heap.get? b = some u → h'.get? b = some u) (heo : ∃ u, h'.get? e = some u)
    (new : ObjOk X.prog X.w (upd H x o) h' x o) : Inv X pins σ (upd H x o) { s with heap := h', toks := t' } := I.un (Un.write mu he k heo) (I.hok.write mu he k heo new)
/-- forgetting slots, pins -/
theorem Inv.weak {σ' : List (Option V)} (I : Inv X pins σ H s) (hl : σ'.length = σ.length) (w : ∀ (i : Nat) v, σ'[i]? = some (some v) → σ[i]? = some (some v)) : Inv X pins σ' H s :=
  ⟨I.ok, I.os, I.bare, I.base, let ⟨m, hn, hl'⟩ := I.loc; ⟨m, hn, fun i x v e1 e2 e3 => hl' i x v e1 (w i v e2) e3⟩, I.cell, I.free, I.freeC, I.pin, I.hok, hl.trans I.len⟩
theorem Inv.pins_of {pins' : List (Addr × Obj)} (I : Inv X pins σ H s) (h : ∀ p ∈ pins', s.heap.get? p.1 = some p.2 ∧ H p.1 = none ∧ p.1 ≠ X.env.locals ∧ p.1 ∉ X.fs ∧ ∀ v, p.2.data ≠ .cell v) : Inv X pins' σ H s :=
  ⟨I.ok, I.os, I.bare, I.base, I.loc, I.cell, I.free, I.freeC, fun p hp => (List.mem_append.mp hp).elim (fun z => I.pin p (List.mem_append_left _ z)) (h p), I.hok, I.len⟩

theorem nodup_ix {N : List Str} (hN : N.Nodup) {i j : Nat} {x : Str} (a : N[i]? = some x) (b : N[j]? = some x) : i = j := by
  obtain ⟨h1, e1⟩ := List.getElem?_eq_some_iff.mp a
  obtain ⟨h2, e2⟩ := List.getElem?_eq_some_iff.mp b
  exact (List.getElem_inj hN).mp (e1.trans e2.symm)

/-- a name is stored; what changed -/
theorem store_ok2 {M : Model} {A : Around} {E : Value → Shared → Prop} {i : Nat} {x : Str} {v : V} {u : Value} {Q : Unit → Shared → Prop} (I : Inv X pins σ H s) (hN : X.N.Nodup) (hi : X.N[i]? = some x) (hx : Loc X.env.scope x) (r : RelV v u)
    (h : ∀ s', Inv X pins (σ.set i (some v)) H s' → (∃ a, Heap.SameBut a s.heap s'.heap ∧ (a = X.env.locals ∨ X.env.cells.lookup x = some a)) → Q () s') (hf : X.fn x = true ∨ X.env.scope.names.lookup x = some .local := by first | exact .inl rfl | exact .inr rfl | assumption) : wpAny M A (storeName X.env x u) Q E s := by
  obtain ⟨m, hn, hl⟩ := id I.loc
  have hcls : (X.env.scope.kind == .class || (X.env.scope.kind == .module && X.env.locals != X.env.globals)) = false := by rw [I.ok.kind]; rfl
  have hiσ : i < σ.length := by rw [I.len]; exact (List.getElem?_eq_some_iff.mp hi).1
  have cne := I.cne
  have tracked : ∀ {a : Addr} {h' : Heap}, (∃ o, s.heap.get? a = some o ∧ H a = none) → Heap.SameBut a s.heap h' → HOk X.prog X.w H h' := fun {a h'} ha hs b ob e => by
    obtain ⟨_, _, hfree⟩ := ha
    refine (I.hok b ob e).stay (fun c w' hc q => (hs.2 c ?_).trans q) (fun _ q => q) fun _ _ q => q
    rintro rfl
    rcases hc with rfl | hc
    · rw [hfree] at e; cases e
    · rw [hfree] at hc; cases hc
  rcases hx with hk | hk
  · refine wpAny_storeName_local hk hn (fun h' hn' hs => ?_) hcls
    obtain ⟨oL, _, _, hoL, _⟩ := id hn
    refine h _ ⟨I.ok, I.os, I.bare, ⟨fun b o e n hb hx => ?_, fun b o e n hb hx => ?_, I.base.free, fun b o e hx => ?_, I.base.tups, I.base.frzs, I.base.tbls⟩, ⟨_, hn', fun j y v' e1 e2 e3 => ?_⟩, fun y c e => ?_, I.free, I.freeC, fun p hp => ?_, tracked ⟨oL, hoL, I.free⟩ hs, by simpa using I.len⟩ ⟨_, hs, .inl rfl⟩
    · exact (hs.2 b (Nat.ne_of_lt (Nat.lt_of_lt_of_le (Heap.lt_size e) I.ok.above))).trans (I.base.keep b o e n hb hx)
    · obtain ⟨sl, e1⟩ := I.base.slot b o e n hb hx
      exact ⟨sl, (hs.2 b (Nat.ne_of_lt (Nat.lt_of_lt_of_le (Heap.lt_size e) I.ok.above))).trans e1⟩
    · obtain ⟨o', e1⟩ := I.base.there b o e hx
      exact ⟨o', (hs.2 b (Nat.ne_of_lt (Nat.lt_of_lt_of_le (Heap.lt_size e) I.ok.above))).trans e1⟩
    · by_cases hj : j = i
      · subst hj
        rw [hi] at e1; cases e1
        rw [List.getElem?_set_self hiσ] at e2
        cases e2
        exact ⟨u, r, .inl ⟨hk, by simp⟩⟩
      · rw [List.getElem?_set_ne (Ne.symm hj)] at e2
        obtain ⟨u', r', q⟩ := hl j y v' e1 e2 e3
        refine ⟨u', r', ?_⟩
        rcases q with ⟨k, e⟩ | ⟨k, c, e, z⟩
        · refine .inl ⟨k, ?_⟩
          have : y ≠ x := fun e => hj (nodup_ix hN e1 (e ▸ hi))
          simp [this, e]
        · exact .inr ⟨k, c, e, z.sameBut hs (cne y c e)⟩
    · obtain ⟨w', z⟩ := I.cell y c e
      exact ⟨w', z.sameBut hs (cne y c e)⟩
    · obtain ⟨e, n, ne, nf, d⟩ := I.pin p hp
      exact ⟨(hs.2 p.1 ne).trans e, n, ne, nf, d⟩
  · have hfn : X.fn x = true := by
      rcases hf with z | z
      · exact z
      · rw [z] at hk; cases hk
    obtain ⟨c, hc⟩ := I.ok.has x (.inl hk)
    obtain ⟨w', z⟩ := I.cell x c hc
    refine wpAny_storeName_cell I.ok.kind hk hc z (fun h' hc' hs => ?_)
    obtain ⟨oc, hoc, hocd⟩ := id z
    refine h { s with heap := h' } ⟨I.ok, I.os, I.bare, ⟨fun b o e n hb hx => ?_, fun b o e n hb hx => ?_, I.base.free, fun b o e hx => ?_, I.base.tups, I.base.frzs, I.base.tbls⟩, ⟨m, hn.sameBut hs (Ne.symm (cne x c hc)), fun j y v' e1 e2 e3 => ?_⟩, fun y c' e => ?_, I.free, I.freeC, fun p hp => ?_, tracked ⟨oc, hoc, I.freeC x c hc⟩ hs, by simpa using I.len⟩ ⟨c, hs, .inr hc⟩
    · exact (hs.2 b (Nat.ne_of_lt (Nat.lt_of_lt_of_le (Heap.lt_size e) (I.ok.cab x c hfn hc)))).trans (I.base.keep b o e n hb hx)
    · obtain ⟨sl, e1⟩ := I.base.slot b o e n hb hx
      exact ⟨sl, (hs.2 b (Nat.ne_of_lt (Nat.lt_of_lt_of_le (Heap.lt_size e) (I.ok.cab x c hfn hc)))).trans e1⟩
    · obtain ⟨o', e1⟩ := I.base.there b o e hx
      exact ⟨o', (hs.2 b (Nat.ne_of_lt (Nat.lt_of_lt_of_le (Heap.lt_size e) (I.ok.cab x c hfn hc)))).trans e1⟩
    · by_cases hj : j = i
      · subst hj
        rw [hi] at e1; cases e1
        rw [List.getElem?_set_self hiσ] at e2
        cases e2
        exact ⟨u, r, .inr ⟨.inl hk, c, hc, hc'⟩⟩
      · rw [List.getElem?_set_ne (Ne.symm hj)] at e2
        obtain ⟨u', r', q⟩ := hl j y v' e1 e2 e3
        refine ⟨u', r', ?_⟩
        rcases q with q | ⟨k, c', e, z'⟩
        · exact .inl q
        · refine .inr ⟨k, c', e, z'.sameBut hs ?_⟩
          rintro rfl
          exact hj (nodup_ix hN e1 (I.ok.inj _ _ _ e hc ▸ hi))
    · by_cases hcc : c' = c
      · subst hcc; exact ⟨_, hc'⟩
      · obtain ⟨w2, z2⟩ := I.cell y c' e
        exact ⟨w2, z2.sameBut hs hcc⟩
    · obtain ⟨e, n, ne, nf, d⟩ := I.pin p hp
      refine ⟨(hs.2 p.1 ?_).trans e, n, ne, nf, d⟩
      intro q
      rw [q, hoc] at e
      have q' : oc = p.2 := Option.some.inj e
      exact d w' (by rw [← q']; exact hocd)
theorem store_ok {M : Model} {A : Around} {E : Value → Shared → Prop} {i : Nat} {x : Str} {v : V} {u : Value} {Q : Unit → Shared → Prop} (I : Inv X pins σ H s) (hN : X.N.Nodup) (hi : X.N[i]? = some x) (hx : Loc X.env.scope x) (r : RelV v u)
    (h : ∀ s', Inv X pins (σ.set i (some v)) H s' → Q () s') (hf : X.fn x = true ∨ X.env.scope.names.lookup x = some .local := by first | exact .inl rfl | exact .inr rfl | assumption) : wpAny M A (storeName X.env x u) Q E s :=
  store_ok2 I hN hi hx r (fun s' I' _ => h s' I') hf
/-- behind a call or a block, the state as it is -/
theorem Inv.call' {s' : Shared} {ch : List Addr} (I : Inv X pins σ H s) (ho : s'.os = s.os) (u : Un (frs X.stack) ch H H' s.heap s'.heap) (hok : HOk X.prog X.w H' s'.heap) (hg : AllBare s'.gens)
    (hch : ∀ b ∈ ch, (b ∈ X.ex ∨ X.s₀.heap.objs.size ≤ b) ∧ b ≠ X.env.locals ∧ (∀ x c, X.env.cells.lookup x = some c → c ≠ b) ∧ ∀ p ∈ X.pn ++ pins, p.1 ≠ b) : Inv X pins σ H' s' := by
  obtain ⟨h', g', d', t', o'⟩ := s'
  have e : o' = s.os := ho
  subst e
  exact I.call (g' := g') (t' := t') (d' := d') u hok hg hch
end

/-! ### the judgements -/
/-- an exception: its class, its own dict's address (where it has one), the abstract heap behind it -/
abbrev XK := Value → Option Addr → Hp → Prop
abbrev St := List (Option V)
abbrev VK := V → Hp → Prop
/-- an expression's reading; a test's; an argument list's -/
abbrev TE := St → Hp → VK → Prop
abbrev TT := St → Hp → (Bool → Hp → Prop) → Prop
abbrev TA := St → Hp → (List V → Hp → Prop) → Prop
/-- what is wanted behind a statement -/
structure Ends where
  nx : St → Hp → Prop
  rt : VK
  bk : St → Hp → Prop := fun _ _ => False
  ct : St → Hp → Prop := fun _ _ => False
abbrev TS := Ends → St → Hp → Prop

def EP (X : Cx) (pins : List (Addr × Obj)) (σ : St) (Q : VK) (u : Value) (s' : Shared) : Prop := ∃ v H', Inv X pins σ H' s' ∧ RelV v u ∧ Q v H'
def TP (X : Cx) (pins : List (Addr × Obj)) (σ : St) (Q : Bool → Hp → Prop) (b : Bool) (s' : Shared) : Prop := ∃ H', Inv X pins σ H' s' ∧ Q b H'
def AP (X : Cx) (pins : List (Addr × Obj)) (σ : St) (Q : List V → Hp → Prop) (us : List Value) (s' : Shared) : Prop := ∃ vs H', Inv X pins σ H' s' ∧ Vals vs us ∧ Q vs H'
def SP (X : Cx) (pins : List (Addr × Obj)) (D : Ends) (f : Flow) (s' : Shared) : Prop :=
  match f with
  | .next => ∃ σ' H', Inv X pins σ' H' s' ∧ D.nx σ' H'
  | .brk => ∃ σ' H', Inv X pins σ' H' s' ∧ D.bk σ' H'
  | .cont => ∃ σ' H', Inv X pins σ' H' s' ∧ D.ct σ' H'
  | .ret u => ∃ v σ' H', Inv X pins σ' H' s' ∧ RelV v u ∧ D.rt v H'

def PE (X : Cx) (e : Expr) (t : TE) : Prop :=
  ∀ (pins : List (Addr × Obj)) (s : Shared) (σ : St) (H : Hp) (Q : VK), Inv X pins σ H s → t σ H Q → wpAny (model X.prog X.w) X.A (eval e X.env) (EP X pins σ Q) X.xe s
def PT (X : Cx) (e : Expr) (t : TT) : Prop :=
  ∀ (pins : List (Addr × Obj)) (s : Shared) (σ : St) (H : Hp) (Q : Bool → Hp → Prop), Inv X pins σ H s → t σ H Q → wpAny (model X.prog X.w) X.A (isTrue e X.env (eval e X.env)) (TP X pins σ Q) X.xe s
/-- a test whatever its 'whole' is (and, or) -/
def PW (X : Cx) (e : Expr) (t : TT) : Prop :=
  ∀ (whole : Sem Value) (pins : List (Addr × Obj)) (s : Shared) (σ : St) (H : Hp) (Q : Bool → Hp → Prop), Inv X pins σ H s → t σ H Q → wpAny (model X.prog X.w) X.A (isTrue e X.env whole) (TP X pins σ Q) X.xe s
theorem PW.pt {X : Cx} {e : Expr} {t : TT} (h : PW X e t) : PT X e t := h _
/-- an argument list (no star), from the left -/
def PA (X : Cx) (es : List Expr) (t : TA) : Prop :=
  ∀ (pos : Pos) (pins : List (Addr × Obj)) (s : Shared) (σ : St) (H : Hp) (Q : List V → Hp → Prop), Inv X pins σ H s → t σ H Q → wpAny (model X.prog X.w) X.A (spliced (backTo pos (starEach es X.env))) (AP X pins σ Q) X.xe s
def PS (X : Cx) (st : Stmt) (t : TS) : Prop :=
  ∀ (pins : List (Addr × Obj)) (s : Shared) (σ : St) (H : Hp) (D : Ends), Inv X pins σ H s → t D σ H → wpAny (model X.prog X.w) X.A (exec st X.env) (SP X pins D) X.xe s
def PSs (X : Cx) (st : List Stmt) (t : TS) : Prop :=
  ∀ (pins : List (Addr × Obj)) (s : Shared) (σ : St) (H : Hp) (D : Ends), Inv X pins σ H s → t D σ H → wpAny (model X.prog X.w) X.A (execs st X.env) (SP X pins D) X.xe s
/-- weaken the end -/
theorem thn {α : Type} {t : Sem α} {Q Q' : α → Shared → Prop} {M : Model} {A : Around} {E : Value → Shared → Prop} {s : Shared} (h : wpAny M A t Q E s) (hQ : ∀ a s, Q a s → Q' a s) : wpAny M A t Q' E s := wpAny_mono h hQ fun _ _ x => x
end L2

namespace L2
open PySem PySem.Spec PyProof.Rows
section
variable {X : Cx}

/-! ### names and constants -/
def tVar (i : Nat) : TE := fun σ H Q => ∃ v, σ[i]? = some (some v) ∧ Q v H
def tC (v : V) : TE := fun _ H Q => Q v H
theorem pe_var {i : Nat} {x : Str} {pos : Pos} (hN : X.N[i]? = some x) (hv : Vis X.env.scope x) (hd : (x == ("__debug__" : Str)) = false := by decide) (hcd : (x == ("__classdict__" : Str)) = false := by decide) : PE X (.Name x pos) (tVar i) := by
  intro pins s σ H Q I h
  obtain ⟨v, e, h⟩ := h
  obtain ⟨m, hn, hl⟩ := I.loc
  obtain ⟨u, r, l⟩ := hl i x v hN e hv
  have fin : EP X pins σ Q u s := ⟨v, H, I, r, h⟩
  rcases l with ⟨hk, hm⟩ | ⟨hk, c, hc, hcell⟩
  · exact wpAny_Name (wpAny_loadName_local I.ok.kind hk hn hm fin) hd
  · rcases hk with hk | hk
    · exact wpAny_Name (wpAny_loadName_cell I.ok.kind hk hc hcell fin) hd
    · exact wpAny_Name (wpAny_loadName_free I.ok.kind hk hc hcell fin hcd) hd
theorem pe_int {i j pos} : PE X (.Constant (.int i) j pos) (tC (.int i)) := fun _ _ _ H _ I h => wpAny_Constant_int ⟨.int i, H, I.tok _, ⟨_, rfl⟩, h⟩
theorem pe_bl {b j pos} : PE X (.Constant (.bool b) j pos) (tC (.bl b)) := fun _ _ _ H _ I h => Constant_bool ⟨.bl b, H, I, rfl, h⟩
theorem pe_non {j pos} : PE X (.Constant .none j pos) (tC .non) := fun _ _ _ H _ I h => Constant_none ⟨.non, H, I, rfl, h⟩
theorem pe_str {x j pos} : PE X (.Constant (.str x) j pos) (tC (.str x)) := fun _ _ _ H _ I h => Calls.Constant_str ⟨.str x, H, I.tok _, ⟨_, rfl⟩, h⟩

/-- a global name of the def -/
def Gl (X : Cx) (x : Str) : Prop := X.env.kindOf x = some .globalImplicit
theorem ld_glob {E : Value → Shared → Prop} {pins : List (Addr × Obj)} {s : Shared} {σ : St} {H : Hp} {x : Str} {u : Value} {pos : Pos} {Q : Value → Shared → Prop} (I : Inv X pins σ H s) (hg : Gl X x) (hm : X.mg x = some u) (h : Q u s)
    (hd : (x == ("__debug__" : Str)) = false := by decide) : wpAny (model X.prog X.w) X.A (eval (.Name x pos) X.env) Q E s :=
  Calls.Name_function_global I.ok.kind hg (Calls.loadGlobal_global (by rw [I.ok.glob]; exact I.mod.glob.keeps I.bk) hm h) hd
theorem ld_blt {E : Value → Shared → Prop} {pins : List (Addr × Obj)} {s : Shared} {σ : St} {H : Hp} {x : Str} {u : Value} {pos : Pos} {Q : Value → Shared → Prop} (I : Inv X pins σ H s) (hg : Gl X x) (hm : X.mg x = none) (hv : bootBuiltins x = some u) (h : Q u s)
    (hn : x ≠ "__name__" := by decide) (hd : (x == ("__debug__" : Str)) = false := by decide) : wpAny (model X.prog X.w) X.A (eval (.Name x pos) X.env) Q E s := by
  obtain ⟨mb, h1, h2⟩ := I.mod.blt
  exact Calls.Name_function_global I.ok.kind hg (Calls.loadGlobal_builtin (by rw [I.ok.glob]; exact I.mod.glob.keeps I.bk) hm (by rw [I.ok.blt]; exact h1.keeps I.bk) ((h2 x hn).trans hv) h) hd
/-- a module's constant, a class, a function, as a value -/
theorem pe_glob {x : Str} {v : V} {u : Value} {pos : Pos} (hg : Gl X x) (hm : X.mg x = some u) (r : RelV v u) (hd : (x == ("__debug__" : Str)) = false := by decide) : PE X (.Name x pos) (tC v) :=
  fun _ _ _ H _ I h => ld_glob I hg hm ⟨v, H, I, r, h⟩ hd
theorem pe_bltn {x : Str} {v : V} {u : Value} {pos : Pos} (hg : Gl X x) (hm : X.mg x = none) (hv : bootBuiltins x = some u) (r : RelV v u) (hn : x ≠ "__name__" := by decide) (hd : (x == ("__debug__" : Str)) = false := by decide) : PE X (.Name x pos) (tC v) :=
  fun _ _ _ H _ I h => ld_blt I hg hm hv ⟨v, H, I, r, h⟩ hn hd

/-! ### arithmetic -/
/-- two ints -/
def t2I (ta tb : TE) (k : Int → Int → Hp → Prop) : St → Hp → Prop := fun σ H => ta σ H fun x H1 => tb σ H1 fun y H2 => ∃ i j, x = .int i ∧ y = .int j ∧ k i j H2
def tAdd (ta tb : TE) : TE := fun σ H Q => t2I ta tb (fun i j H2 => Q (.int (i + j)) H2) σ H
def tSub (ta tb : TE) : TE := fun σ H Q => t2I ta tb (fun i j H2 => Q (.int (i - j)) H2) σ H
/-- the left factor below 2^64 -/
def tMul (ta tb : TE) : TE := fun σ H Q => t2I ta tb (fun i j H2 => (-(2 ^ 64) < i ∧ i < 2 ^ 64) ∧ Q (.int (i * j)) H2) σ H
variable {a b : Expr} {ta tb : TE} {pos : Pos}
/-! ### comparisons -/
def PC (X : Cx) (op : CmpOp) (a b : Expr) (t : TE) : Prop :=
  ∀ (pins : List (Addr × Obj)) (s : Shared) (σ : St) (H : Hp) (Q : VK), Inv X pins σ H s → t σ H Q →
    wpAny (model X.prog X.w) X.A (eval a X.env) (fun v s₁ => wpAny (model X.prog X.w) X.A (eval b X.env) (fun u s₂ => wpAny (model X.prog X.w) X.A (compareOp op v u) (EP X pins σ Q) X.xe s₂) X.xe s₁) X.xe s
def tCmp (p : Int → Int → Bool) (ta tb : TE) : TE := fun σ H Q => t2I ta tb (fun i j H2 => Q (.bl (p i j)) H2) σ H
abbrev tLt : TE → TE → TE := tCmp fun i j => decide (i < j)
abbrev tLe : TE → TE → TE := tCmp fun i j => decide (i ≤ j)
abbrev tGt : TE → TE → TE := tCmp fun i j => decide (j < i)
abbrev tGe : TE → TE → TE := tCmp fun i j => decide (j ≤ i)
abbrev tEqI : TE → TE → TE := tCmp fun i j => decide (i = j)
abbrev tNeI : TE → TE → TE := tCmp fun i j => !decide (i = j)
/-- is None -/
def tIsN (ta : TE) : TE := fun σ H Q => ta σ H fun x H1 => Q (.bl (decide (x = .non))) H1
def tNotN (ta : TE) : TE := fun σ H Q => ta σ H fun x H1 => Q (.bl (!decide (x = .non))) H1
/-- a comparison as a value, as a test -/
def tB (t : TE) : TT := fun σ H Q => t σ H fun x H1 => ∃ c, x = .bl c ∧ Q c H1
theorem pt_cmp {op : CmpOp} {t : TE} (h : PC X op a b t) (h1 : behindInMarks op b = false := by first | exact nobehind _ (by decide) (by decide) | rfl) : PT X (.Compare a [op] [b] pos) (tB t) := by
  intro pins s σ H Q I hw
  refine wpAny_isTrue_Compare1 (thn (h pins s σ H _ I hw) fun v s1 h1 => thn h1 fun u s2 h2 => thn h2 fun c s3 ⟨x, H1, I1, r1, q1⟩ => ?_) h1
  obtain ⟨d, rfl, q⟩ := q1
  cases r1
  exact wpAny_truthy_bool ⟨H1, I1, q⟩
/-- an expression whose value is a bool, as a test -/
theorem pt_val {e : Expr} {t : TE} (h : PE X e t) (he : ∀ whole, isTrue e X.env whole = (do let v ← whole; standAt e.pos; holding [v] (truthy v)) := by intro _; rfl) : PT X e (tB t) := by
  intro pins s σ H Q I hw
  refine isTrue_plain (thn (h pins s σ H _ I hw) fun v s1 ⟨x, H1, I1, r1, q1⟩ => ?_) (he _)
  obtain ⟨d, rfl, q⟩ := q1
  cases r1
  exact wpAny_truthy_bool ⟨H1, I1, q⟩

/-! ### and, or, not -/
variable {tA tB' : TT} {rest : List Expr}
def tAnd (t u : TT) : TT := fun σ H Q => t σ H fun c H1 => if c = true then u σ H1 Q else Q false H1
def tOr (t u : TT) : TT := fun σ H Q => t σ H fun c H1 => if c = true then Q true H1 else u σ H1 Q
def tNot (t : TT) : TT := fun σ H Q => t σ H fun c H1 => Q (!c) H1
theorem pw_and1 (ha : PT X a tA) : PW X (.BoolOp .And [a] pos) tA := by
  intro wh pins s σ H Q I h
  refine isTrue_and (thn (ha pins s σ H Q I h) fun c s1 e => ?_)
  cases c with
  | true => exact isTrue_and_nil e
  | false => exact e
theorem pw_or1 (ha : PT X a tA) : PW X (.BoolOp .Or [a] pos) tA := by
  intro wh pins s σ H Q I h
  refine isTrue_or (thn (ha pins s σ H Q I h) fun c s1 e => ?_)
  cases c with
  | false => exact isTrue_or_nil e
  | true => exact e
theorem pw_and (ha : PT X a tA) (hb : PW X (.BoolOp .And (b :: rest) pos) tB') : PW X (.BoolOp .And (a :: b :: rest) pos) (tAnd tA tB') := by
  intro wh pins s σ H Q I h
  refine isTrue_and (thn (ha pins s σ H _ I h) fun c s1 ⟨H1, I1, q1⟩ => ?_)
  cases c with
  | true => exact hb wh pins s1 σ H1 Q I1 q1
  | false => exact ⟨H1, I1, q1⟩
theorem pw_or (ha : PT X a tA) (hb : PW X (.BoolOp .Or (b :: rest) pos) tB') : PW X (.BoolOp .Or (a :: b :: rest) pos) (tOr tA tB') := by
  intro wh pins s σ H Q I h
  refine isTrue_or (thn (ha pins s σ H _ I h) fun c s1 ⟨H1, I1, q1⟩ => ?_)
  cases c with
  | true => exact ⟨H1, I1, q1⟩
  | false => exact hb wh pins s1 σ H1 Q I1 q1
theorem pt_not (ha : PT X a tA) : PT X (.UnaryOp .Not a pos) (tNot tA) := by
  intro pins s σ H Q I h
  exact isTrue_not (ha pins s σ H (fun c H1 => Q (!c) H1) I h)
/-- .. as values (bools) -/
def tAndV (ta tb : TE) : TE := fun σ H Q => ta σ H fun x H1 => ∃ c, x = .bl c ∧ if c = true then tb σ H1 Q else Q (.bl false) H1
def tOrV (ta tb : TE) : TE := fun σ H Q => ta σ H fun x H1 => ∃ c, x = .bl c ∧ if c = true then Q (.bl true) H1 else tb σ H1 Q
def tNotV (ta : TE) : TE := fun σ H Q => ta σ H fun x H1 => ∃ c, x = .bl c ∧ Q (.bl (!c)) H1
theorem pe_one {op} {t : TE} (h : PE X a t) : PE X (.BoolOp op [a] pos) t := fun pins s σ H Q I hw => BoolOp_one (h pins s σ H Q I hw)
theorem pe_and (ha : PE X a ta) (hb : PE X (.BoolOp .And (b :: rest) pos) tb) : PE X (.BoolOp .And (a :: b :: rest) pos) (tAndV ta tb) := by
  intro pins s σ H Q I h
  refine BoolOp_and (thn (ha pins s σ H _ I h) fun v s1 ⟨x, H1, I1, r1, q1⟩ => ?_)
  obtain ⟨c, rfl, q1⟩ := q1
  cases r1
  refine wpAny_truthy_bool ?_
  cases c with
  | true => exact hb pins s1 σ H1 Q I1 q1
  | false => exact ⟨.bl false, H1, I1, rfl, q1⟩
theorem pe_not (ha : PE X a ta) : PE X (.UnaryOp .Not a pos) (tNotV ta) := by
  intro pins s σ H Q I h
  refine UnaryOp_ (thn (ha pins s σ H _ I h) fun v s1 ⟨x, H1, I1, r1, q1⟩ => ?_)
  obtain ⟨c, rfl, q1⟩ := q1
  cases r1
  exact not_of (wpAny_truthy_bool ⟨.bl (!c), H1, I1, rfl, q1⟩)
/-- a if t else b -/
def tIf (t : TT) (ta tb : TE) : TE := fun σ H Q => t σ H fun c H1 => if c = true then ta σ H1 Q else tb σ H1 Q
theorem pe_ifExp {c : Expr} (hc : PT X c tA) (ha : PE X a ta) (hb : PE X b tb) : PE X (.IfExp c a b pos) (tIf tA ta tb) := by
  intro pins s σ H Q I h
  refine wpAny_IfExp (thn (hc pins s σ H _ I h) fun d s1 ⟨H1, I1, q1⟩ => ?_)
  cases d with
  | true => exact ha pins s1 σ H1 Q I1 q1
  | false => exact hb pins s1 σ H1 Q I1 q1
end
end L2

namespace L2
open PySem PySem.Spec PyProof.Rows

/-! ### a list, a tuple that is read: tracked, frozen, or an object of the module -/
def SqL (K : PySem.W.Frag) (H : Hp) (a : Addr) (xs : List V) : Prop :=
  Rd H a (.lst xs) ∨
    ∃ (o : Obj) (its : Array Value) (n : Nat), K.lookup a = some o ∧ o.cls = .type "list" ∧ o.dict = none ∧ o.data = .seq its n ∧ its.size ≤ sizeLine ∧ Vals xs its.toList
def SqT (K : PySem.W.Frag) (H : Hp) (a : Addr) (xs : List V) : Prop :=
  Rd H a (.tup xs) ∨
    ∃ (o : Obj) (its : Array Value) (n : Nat), K.lookup a = some o ∧ o.cls = .type "tuple" ∧ o.data = .seq its n ∧ its.size ≤ sizeLine ∧ Vals xs its.toList
def absV : Value → Option V
  | .none => some .non
  | .bool b => some (.bl b)
  | .int i _ => some (.int i)
  | .str x _ => some (.str x)
  | .bytes b _ => some (.byt b)
  | .float b _ => some (.flt b)
  | .ref a => some (.ref a)
  | .type n => some (.ty n)
  | _ => none
theorem RelV.abs {x : V} {u : Value} (r : RelV x u) : absV u = some x := by
  cases x with
  | non => cases r; rfl
  | bl _ => cases r; rfl
  | int _ => obtain ⟨t, rfl⟩ := r; rfl
  | str _ => obtain ⟨t, rfl⟩ := r; rfl
  | byt _ => obtain ⟨t, rfl⟩ := r; rfl
  | flt _ => obtain ⟨t, rfl⟩ := r; rfl
  | ref _ => cases r; rfl
  | ty _ => cases r; rfl
theorem RelV.inj {x y : V} {u : Value} (r : RelV x u) (q : RelV y u) : x = y := Option.some.inj (r.abs.symm.trans q.abs)
theorem Vals.inj : ∀ {xs ys : List V} {us : List Value}, Vals xs us → Vals ys us → xs = ys
  | _, _, _, .nil, .nil => rfl
  | _, _, _, .cons r t, .cons r' t' => by rw [r.inj r', Vals.inj t t']
section
variable {X : Cx} {pins : List (Addr × Obj)} {σ : St} {H : Hp} {s : Shared} {a : Addr} {xs ys : List V}
theorem SqL.of {K : PySem.W.Frag} (h : H a = some (.lst xs)) : SqL K H a xs := .inl (.inl h)
theorem SqT.of {K : PySem.W.Frag} (h : H a = some (.tup xs)) : SqT K H a xs := .inl (.inl h)
theorem Inv.list (I : Inv X pins σ H s) (h : SqL X.K H a xs) : ∃ its : List Value, Vals xs its ∧ PlainL s.heap a its.toArray ∧ xs.length ≤ sizeLine := by
  rcases h with h | ⟨o, its, n, hk, hc, hd, hs, hz, r⟩
  · obtain ⟨z, its, n, r, e⟩ := h.ok I.hok
    exact ⟨its, r, ⟨_, n, e, rfl, rfl, rfl⟩, z⟩
  · refine ⟨its.toList, r, ⟨o, n, I.kIn a o hk, hc, hd, by simpa using hs⟩, ?_⟩
    have e := r.length
    simp only [Array.length_toList] at e
    omega
theorem Inv.tuple (I : Inv X pins σ H s) (h : SqT X.K H a xs) : ∃ its : List Value, Vals xs its ∧ IsTup s.heap a its.toArray ∧ xs.length ≤ sizeLine := by
  rcases h with h | ⟨o, its, n, hk, hc, hs, hz, r⟩
  · obtain ⟨z, its, r, p⟩ := h.ok I.hok
    exact ⟨its, r, p, z⟩
  · refine ⟨its.toList, r, ⟨o, I.kIn a o hk, hc, n, by simpa using hs⟩, ?_⟩
    have e := r.length
    simp only [Array.length_toList] at e
    omega
theorem Inv.list_inj (I : Inv X pins σ H s) (h : SqL X.K H a xs) (h' : SqL X.K H a ys) : xs = ys := by
  obtain ⟨its, r, ⟨o, n, e, _, _, d⟩, _⟩ := I.list h
  obtain ⟨its', r', ⟨o', n', e', _, _, d'⟩, _⟩ := I.list h'
  rw [e] at e'; cases e'
  rw [d] at d'
  injection d' with d1 _
  have : its = its' := by simpa using congrArg Array.toList d1
  subst this
  exact r.inj r'
end

/-! ### another wish about exceptions -/
abbrev Cx.wish (X : Cx) (E : Value → Shared → Prop) : Cx := { X with xe := E }
/-- no exception leaves -/
abbrev Cx.nox (X : Cx) : Cx := X.wish fun _ _ => False
theorem Cx.Ok.wish {X : Cx} (ok : X.Ok) (E : Value → Shared → Prop) : (X.wish E).Ok :=
  ⟨ok.mod, ok.kind, ok.glob, ok.blt, ok.above, ok.inj, ok.has, ok.cab, ok.hd, ok.frames, ok.stk, ok.exf, ok.bs, ok.bsz, ok.noex, ok.exfs, ok.funs, ok.frf⟩
theorem Cx.Ok.unwish {X : Cx} {E : Value → Shared → Prop} (ok : (X.wish E).Ok) : X.Ok :=
  ⟨ok.mod, ok.kind, ok.glob, ok.blt, ok.above, ok.inj, ok.has, ok.cab, ok.hd, ok.frames, ok.stk, ok.exf, ok.bs, ok.bsz, ok.noex, ok.exfs, ok.funs, ok.frf⟩
section
variable {X : Cx} {pins : List (Addr × Obj)} {σ : St} {H : Hp} {s : Shared} {E : Value → Shared → Prop}
theorem Inv.wish (I : Inv X pins σ H s) (E : Value → Shared → Prop) : Inv (X.wish E) pins σ H s := ⟨I.ok.wish E, I.os, I.bare, I.base, I.loc, I.cell, I.free, I.freeC, I.pin, I.hok, I.len⟩
theorem Inv.unwish (I : Inv (X.wish E) pins σ H s) : Inv X pins σ H s := ⟨I.ok.unwish, I.os, I.bare, I.base, I.loc, I.cell, I.free, I.freeC, I.pin, I.hok, I.len⟩
theorem SP.unwish {D : Ends} {f : Flow} {s' : Shared} (h : SP (X.wish E) pins D f s') : SP X pins D f s' := by
  cases f with
  | next => obtain ⟨σ', H', I, q⟩ := h; exact ⟨σ', H', I.unwish, q⟩
  | brk => obtain ⟨σ', H', I, q⟩ := h; exact ⟨σ', H', I.unwish, q⟩
  | cont => obtain ⟨σ', H', I, q⟩ := h; exact ⟨σ', H', I.unwish, q⟩
  | ret u => obtain ⟨v, σ', H', I, r, q⟩ := h; exact ⟨v, σ', H', I.unwish, r, q⟩
theorem PSs.nox {st : List Stmt} {t : TS} (h : PSs X.nox st t) : PSs X st t := fun pins s σ H D I hw =>
  wpAny_mono (h pins s σ H D (I.wish _) hw) (fun _ _ q => q.unwish) fun _ _ z => False.elim z
end

/-! ### blocks and small statements -/
section
variable {X : Cx} {st : Stmt} {rest : List Stmt} {t u : TS} {e : Expr} {te : TE} {pos : Pos}
def tNext : TS := fun D σ H => D.nx σ H
def tSeq (t u : TS) : TS := fun D σ H => t { D with nx := u D } σ H
theorem pss_nil : PSs X [] tNext := fun _ _ σ H _ I h => wpAny_execs_nil ⟨σ, H, I, h⟩
theorem pss_cons (h1 : PS X st t) (h2 : PSs X rest u) : PSs X (st :: rest) (tSeq t u) := by
  intro pins s σ H D I h
  refine wpAny_execs_cons (thn (h1 pins s σ H { D with nx := u D } I h) fun f s1 q => ?_)
  cases f with
  | next =>
    obtain ⟨σ', H', I', q⟩ := q
    exact h2 pins s1 σ' H' D I' q
  | ret v => exact q
  | brk => exact q
  | cont => exact q
theorem pss_one (h1 : PS X st t) : PSs X [st] t := by
  intro pins s σ H D I h
  refine wpAny_execs_cons (thn (h1 pins s σ H D I h) fun f s1 q => ?_)
  cases f with
  | next => exact wpAny_execs_nil q
  | ret v => exact q
  | brk => exact q
  | cont => exact q
def tBreak : TS := fun D σ H => D.bk σ H
def tCont : TS := fun D σ H => D.ct σ H
/-- in a def's body nothing is shown -/
theorem Inv.quiet {pins : List (Addr × Obj)} {σ : St} {H : Hp} {s : Shared} (I : Inv X pins σ H s) : interactive X.env = false := by simp [interactive, I.ok.kind]
/-- an expression whose value is dropped -/
def tDrop (te : TE) : TS := fun D σ H => te σ H fun _ H1 => D.nx σ H1
theorem ps_expr (he : PE X e te) (hs : swapsWith e none pos.line X.env = pure false := by rfl) : PS X (.Expr e pos) (tDrop te) := by
  intro pins s σ H D I h
  exact wpAny_Expr_any (thn (he pins s σ H _ I h) fun v s1 ⟨x, H1, I1, r1, q1⟩ => ⟨σ, H1, I1, q1⟩) I.quiet hs
def tRet (te : TE) : TS := fun D σ H => te σ H D.rt
theorem ps_ret (he : PE X e te) : PS X (.Return (some e) pos) (tRet te) := by
  intro pins s σ H D I h
  exact wpAny_Return_some (thn (he pins s σ H _ I h) fun v s1 ⟨x, H1, I1, r1, q1⟩ => ⟨x, σ, H1, I1, r1, q1⟩)
def tRetN : TS := fun D _ H => D.rt .non H
def tIfS (c : TT) (t u : TS) : TS := fun D σ H => c σ H fun b H1 => if b = true then t D σ H1 else u D σ H1
theorem ps_if {c : Expr} {a b : List Stmt} {tc : TT} (hc : PT X c tc) (ha : PSs X a t) (hb : PSs X b u) : PS X (.If c a b pos) (tIfS tc t u) := by
  intro pins s σ H D I h
  refine wpAny_If (thn (hc pins s σ H _ I h) fun d s1 ⟨H1, I1, q1⟩ => ?_)
  cases d with
  | true => exact ha pins s1 σ H1 D I1 q1
  | false => exact hb pins s1 σ H1 D I1 q1
/-- code that the proof never comes to -/
def tNever : TS := fun _ _ _ => False
theorem pss_never {sts : List Stmt} : PSs X sts tNever := fun _ _ _ _ _ _ h => h.elim
end

/-! ### targets -/
abbrev TG := V → St → Hp → (St → Hp → Prop) → Prop
abbrev TGs := List V → St → Hp → (St → Hp → Prop) → Prop
def PG (X : Cx) (target : Expr) (t : TG) : Prop :=
  ∀ (pins : List (Addr × Obj)) (s : Shared) (σ : St) (H : Hp) (v : V) (u : Value) (Q : St → Hp → Prop), Inv X pins σ H s → RelV v u → t v σ H Q →
    wpAny (model X.prog X.w) X.A (assign target X.env u) (fun _ s' => ∃ σ' H', Inv X pins σ' H' s' ∧ Q σ' H') X.xe s
/-- several targets, one after another -/
def PGs (X : Cx) (ts : List Expr) (t : TGs) : Prop :=
  ∀ (pins : List (Addr × Obj)) (s : Shared) (σ : St) (H : Hp) (vs : List V) (us : List Value) (Q : St → Hp → Prop), Inv X pins σ H s → Vals vs us → t vs σ H Q →
    wpAny (model X.prog X.w) X.A (assignInOrder ((assignEach ts X.env).map (·.2)) us) (fun _ s' => ∃ σ' H', Inv X pins σ' H' s' ∧ Q σ' H') X.xe s
/-- o[i] = v, by values -/
abbrev TSet := V → V → V → Hp → (Hp → Prop) → Prop
def PSet (X : Cx) (t : TSet) : Prop :=
  ∀ (pins : List (Addr × Obj)) (s : Shared) (σ : St) (H : Hp) (o i v : V) (ov iv u : Value) (Q : Hp → Prop), Inv X pins σ H s → RelV o ov → RelV i iv → RelV v u → t o i v H Q →
    wpAny (model X.prog X.w) X.A (setItem ov iv u) (fun _ s' => ∃ H', Inv X pins σ H' s' ∧ Q H') X.xe s
/-- a op= b, by values -/
abbrev TIp := V → V → Hp → VK → Prop
def PIp (X : Cx) (op : Operator) (t : TIp) : Prop :=
  ∀ (pins : List (Addr × Obj)) (s : Shared) (σ : St) (H : Hp) (x y : V) (v u : Value) (Q : VK), Inv X pins σ H s → RelV x v → RelV y u → t x y H Q →
    wpAny (model X.prog X.w) X.A (inplaceOp op v u) (EP X pins σ Q) X.xe s
section
variable {X : Cx} {pos : Pos}
def gName (i : Nat) : TG := fun v σ H Q => Q (σ.set i (some v)) H
theorem pg_name {i : Nat} {x : Str} (hN : X.N.Nodup) (hi : X.N[i]? = some x) (hx : Loc X.env.scope x) (hf : X.fn x = true ∨ X.env.scope.names.lookup x = some .local := by first | exact .inl rfl | exact .inr rfl | assumption) : PG X (.Name x pos) (gName i) := by
  intro pins s σ H v u Q I r h
  exact wpAny_assign_Name (store_ok I hN hi hx r (fun s' I' => ⟨_, H, I', h⟩) hf)
def gNil : TGs := fun vs σ H Q => vs = [] ∧ Q σ H
def gCons (t : TG) (u : TGs) : TGs := fun vs σ H Q => ∃ v r, vs = v :: r ∧ t v σ H fun σ' H' => u r σ' H' Q
theorem pgs_nil : PGs X [] gNil := by
  intro pins s σ H vs us Q I r h
  obtain ⟨e, h⟩ := h
  subst e
  cases r
  exact assignInOrder_nil ⟨σ, H, I, h⟩
theorem pgs_cons {e : Expr} {es : List Expr} {t : TG} {u : TGs} (h1 : PG X e t) (h2 : PGs X es u)
    (hs : (assignEach (e :: es) X.env).map (·.2) = assign e X.env :: (assignEach es X.env).map (·.2) := by rfl) : PGs X (e :: es) (gCons t u) := by
  intro pins s σ H vs us Q I r h
  obtain ⟨v, vr, e1, h⟩ := h
  subst e1
  cases r with
  | cons r rr =>
    rw [hs]
    refine assignInOrder_cons (thn (h1 pins s σ H _ _ _ I r h) fun _ s1 ⟨σ1, H1, I1, q1⟩ => ?_)
    exact h2 pins s1 σ1 H1 _ _ Q I1 rr q1
/-- (a, b, ..) = a tuple of that length -/
def gTup (K : PySem.W.Frag) (n : Nat) (t : TGs) : TG := fun v σ H Q => ∃ a xs, v = .ref a ∧ SqT K H a xs ∧ xs.length = n ∧ t xs σ H Q
theorem pg_tup {es : List Expr} {k : Nat} {t : TGs} {n : Nat} (hc : X.calm = true) (h : PGs X es t)
    (hn : (assignEach es X.env).length = n := by rfl) (hst : (assignEach es X.env).findIdx? (·.1) = none := by rfl) : PG X (.Tuple es k pos) (gTup X.K n t) := by
  intro pins s σ H v u Q I r hw
  obtain ⟨a, xs, e1, hq, hl, hw⟩ := hw
  subst e1
  cases r
  obtain ⟨its, rv, ht, hz⟩ := I.tuple hq
  refine assign_Tuple_tuple (I.ok.hd hc) ht (by simp [hn, ← hl, rv.length]) hst fun h' hx => ?_
  have I1 : Inv X pins σ H { s with heap := h' } := I.kept (t' := s.toks) fun b o e => hx b o (Nat.ne_of_lt (Heap.lt_size e)) e
  exact h pins _ σ H xs _ Q I1 (by simpa using rv) hw
/-- o[i] = .. -/
def gSub (to ti : TE) (t : TSet) : TG := fun v σ H Q => to σ H fun o H1 => ti σ H1 fun i H2 => t o i v H2 fun H3 => Q σ H3
theorem pg_sub {o i : Expr} {to ti : TE} {t : TSet} (ho : PE X o to) (hi : PE X i ti) (hs : PSet X t)
    (ha : ∀ v, assign (.Subscript o i pos) X.env v = (do
      let ov ← holding [v] (eval o X.env)
      let iv ← holding [v, ov] (eval i X.env)
      standAt pos
      holding [v, ov, iv] (setItem ov iv v)
      release [v, ov, iv] []) := by intro _; rfl) : PG X (.Subscript o i pos) (gSub to ti t) := by
  intro pins s σ H v u Q I r h
  rw [ha]
  refine wpAny_bind (wpAny_holding (thn (ho pins s σ H _ I h) fun ov s1 ⟨x, H1, I1, r1, q1⟩ => ?_))
  refine wpAny_bind (wpAny_holding (thn (hi pins s1 σ H1 _ I1 q1) fun iv s2 ⟨y, H2, I2, r2, q2⟩ => ?_))
  refine wpAny_bind (wpAny_standAt (wpAny_bind (wpAny_holding (thn (hs pins s2 σ H2 x y v ov iv u _ I2 r1 r2 r q2) fun _ s3 ⟨H3, I3, q3⟩ => ?_))))
  exact wpAny_release ⟨σ, H3, I3, q3⟩
/-- target = value -/
def tAsg (te : TE) (g : TG) : TS := fun D σ H => te σ H fun x H1 => g x σ H1 D.nx
theorem ps_asg {tg e : Expr} {te : TE} {g : TG} (he : PE X e te) (hg : PG X tg g) (hs : swapsWithSole [tg] e pos.line X.env = pure false := by rfl) (hw : swappedStores [tg] e X.env = pure none := by rfl)
    (h1 : (assignEach [tg] X.env).map (·.2) = [assign tg X.env] := by rfl) : PS X (.Assign [tg] e pos) (tAsg te g) := by
  intro pins s σ H D I h
  refine wpAny_Assign_stores (thn (he pins s σ H _ I h) fun v s1 ⟨x, H1, I1, r1, q1⟩ => ?_) hs hw
  rw [h1]
  exact thn (hg pins s1 σ H1 x v _ I1 r1 q1) fun _ s2 q => q
/-- name = value -/
theorem ps_set {i : Nat} {x : Str} {e : Expr} {te : TE} {pos' : Pos} (hN : X.N.Nodup) (hi : X.N[i]? = some x) (hx : Loc X.env.scope x) (he : PE X e te) (hs : swapsWith e (some (.Name x pos')) pos.line X.env = pure false := by rfl) (hf : X.fn x = true ∨ X.env.scope.names.lookup x = some .local := by first | exact .inl rfl | exact .inr rfl | assumption) :
    PS X (.Assign [.Name x pos'] e pos) (tAsg te (gName i)) := by
  intro pins s σ H D I h
  refine wpAny_Assign_Name (thn (he pins s σ H _ I h) fun v s1 ⟨y, H1, I1, r1, q1⟩ => ?_) hs
  exact store_ok I1 hN hi hx r1 (fun s2 I2 => ⟨_, H1, I2, q1⟩) hf
/-- a, b = x, y with plain local names: stored from the right; the pair itself is not tracked (the opening rows as in PyProof/Rows/TupAssign.lean:23) -/
def tPar (i j : Nat) (ta : TA) : TS := fun D σ H => ta σ H fun vs H1 => ∃ v w, vs = [v, w] ∧ D.nx ((σ.set i (some v)).set j (some w)) H1
/-- name op= e -/
def tAug (i : Nat) (te : TE) (ti : TIp) : TS := fun D σ H => ∃ x, σ[i]? = some (some x) ∧ te σ H fun y H1 => ti x y H1 fun z H2 => D.nx (σ.set i (some z)) H2
/-- o[i] op= e -/
def tAugS (to ti te : TE) (tget : V → V → Hp → VK → Prop) (tip : TIp) (tset : TSet) : TS := fun D σ H => to σ H fun o H1 => ti σ H1 fun i H2 => tget o i H2 fun x H3 => te σ H3 fun y H4 => tip x y H4 fun z H5 => tset o i z H5 fun H6 => D.nx σ H6
/-- o[i], by values -/
def PGet (X : Cx) (t : V → V → Hp → VK → Prop) : Prop :=
  ∀ (pins : List (Addr × Obj)) (s : Shared) (σ : St) (H : Hp) (o i : V) (ov iv : Value) (Q : VK), Inv X pins σ H s → RelV o ov → RelV i iv → t o i H Q →
    wpAny (model X.prog X.w) X.A (getItem ov iv) (EP X pins σ Q) X.xe s
/-- ints -/
def ipI (f : Int → Int → Int) : TIp := fun x y H Q => ∃ i j, x = .int i ∧ y = .int j ∧ Q (.int (f i j)) H
end

/-! ### while -/
section
variable {X : Cx} {pos : Pos}
/-- the invariant W with its measure -/
def tWhile (c : TT) (tb : TS) : TS := fun D σ H => ∃ W : Nat → St → Hp → Prop, (∃ m, W m σ H) ∧ ∀ m σ H, W m σ H →
  c σ H fun b H1 => if b = true then ∃ N : St → Hp → Prop, (∀ σ' H', N σ' H' → ∃ m', m' < m ∧ W m' σ' H') ∧ tb { D with nx := N, ct := N, bk := D.nx } σ H1 else D.nx σ H1
theorem ps_while {c : Expr} {body : List Stmt} {tc : TT} {tb : TS} (hp : PassesOwn (model X.prog X.w) X.A X.env X.xe) (hc : PT X c tc) (hb : PSs X body tb) : PS X (.While c body [] pos) (tWhile tc tb) := by
  intro pins s σ H D I h
  obtain ⟨W, ⟨m0, w0⟩, turn⟩ := h
  refine wpAny_While (codeAny_whileLoop (fun n s' => ∃ σ' H', Inv X pins σ' H' s' ∧ W n σ' H') ?_ m0 ⟨σ, H, I, w0⟩)
  rintro n s1 ⟨σ1, H1, I1, w1⟩
  refine wpAny_passesOwn hp (thn (hc pins s1 σ1 H1 _ I1 (turn n σ1 H1 w1)) fun b s2 ⟨H2, I2, q2⟩ => ?_)
  cases b with
  | true =>
    obtain ⟨N, hN, q2⟩ := q2
    rw [if_pos rfl]
    refine wpAny_passesOwn hp (thn (hb pins s2 σ1 H2 _ I2 q2) fun f s3 q3 => ?_)
    cases f with
    | next =>
      obtain ⟨σ3, H3, I3, n3⟩ := q3
      obtain ⟨m', hm, w3⟩ := hN σ3 H3 n3
      exact ⟨m', hm, σ3, H3, I3, w3⟩
    | cont =>
      obtain ⟨σ3, H3, I3, n3⟩ := q3
      obtain ⟨m', hm, w3⟩ := hN σ3 H3 n3
      exact ⟨m', hm, σ3, H3, I3, w3⟩
    | brk => exact q3
    | ret v => exact q3
  | false =>
    rw [if_neg Bool.false_ne_true]
    exact wpAny_execs_nil ⟨σ1, H2, I2, q2⟩
end

/-! ### what a loop or a comprehension walks -/
/-- at turn i: it yields x (the heap may grow), or it stops -/
structure It where
  go : Nat → Hp → Prop
  yld : Nat → Hp → V → Hp → Prop
  stop : Nat → Hp → Prop
/-- the iterator's own objects may turn: they are not the frame's, not pinned, younger than the entry (or a comprehension's own) -/
def FpOk (X : Cx) (pins : List (Addr × Obj)) (H : Hp) (b : Addr) : Prop :=
  H b = none ∧ b ≠ X.env.locals ∧ b ∉ X.fs ∧ (b ∈ X.ex ∨ X.s₀.heap.objs.size ≤ b) ∧ (∀ x c, X.env.cells.lookup x = some c → c ≠ b) ∧ ∀ p ∈ X.pn ++ pins, p.1 ≠ b
theorem Inv.fpOk {X : Cx} {pins : List (Addr × Obj)} {σ : St} {H H' : Hp} {s : Shared} {b : Addr} (I : Inv X pins σ H s) (hb : s.heap.objs.size ≤ b) (hn : H' b = none) : FpOk X pins H' b := by
  refine ⟨hn, Nat.ne_of_gt (Nat.lt_of_lt_of_le I.lt hb), I.nofs hb, .inr (Nat.le_trans I.sz hb), fun x c e z => ?_, fun p hp z => ?_⟩
  · obtain ⟨v, q⟩ := I.cell x c e
    exact absurd (Nat.lt_of_lt_of_le q.lt (by rw [z]; exact hb)) (Nat.lt_irrefl _)
  · exact absurd (Nat.lt_of_lt_of_le (Heap.lt_size (I.pin p hp).1) (by rw [z]; exact hb)) (Nat.lt_irrefl _)
structure Turn (P : Program) (w : World) (K : PySem.W.Frag) (tg : Expr) (J : It) (fp : List Addr) (it : Addr) (tn : Nat → Heap → Prop) : Prop where
  mem : it ∈ fp
  obj : ∀ i h, tn i h → ∀ b ∈ fp, ∃ o, h.get? b = some o ∧ ∀ v, o.data ≠ .cell v
  keep : ∀ i h h', tn i h → (∀ b ∈ fp, ∀ o, h.get? b = some o → h'.get? b = some o) → tn i h'
  item : ∀ (X : Cx), X.prog = P → X.w = w → X.K = K → X.calm = true → ∀ (i : Nat) (pins : List (Addr × Obj)) (s : Shared) (σ : St) (H : Hp) (E : Value → Shared → Prop), Inv X pins σ H s → (∀ b ∈ fp, FpOk X pins H b) → tn i s.heap → J.go i H →
    wpAny (model P w) X.A (pyNext (.ref it)) (fun r s1 => ∃ u, r = some u ∧
      wpAny (model P w) X.A (letOwnedTupleGo tg (.ref it) u) (fun _ s2 => ∃ x H', Inv X pins σ H' s2 ∧ RelV x u ∧ J.yld i H x H' ∧ tn (i + 1) s2.heap ∧ ∀ b ∈ fp, H' b = none) E s1) E s
  done : ∀ (X : Cx), X.prog = P → X.w = w → X.K = K → X.calm = true → ∀ (i : Nat) (pins : List (Addr × Obj)) (s : Shared) (σ : St) (H : Hp) (E : Value → Shared → Prop), Inv X pins σ H s → (∀ b ∈ fp, FpOk X pins H b) → tn i s.heap → J.stop i H →
    wpAny (model P w) X.A (pyNext (.ref it)) (fun r s1 => r = none ∧ Inv X pins σ H s1) E s
  self : ∀ (A : Around) (i : Nat) (s : Shared) (Q : Value → Shared → Prop) (E : Value → Shared → Prop), tn i s.heap → Q (.ref it) s → wpAny (model P w) A (pyIter (.ref it)) Q E s
abbrev TI := St → Hp → (It → Hp → Prop) → Prop
/-- an iterator has come -/
def PIE (X : Cx) (pins : List (Addr × Obj)) (σ : St) (tg : Expr) (R : It → Hp → Prop) (itv : Value) (s2 : Shared) : Prop :=
  ∃ (it : Addr) (fp : List Addr) (tn : Nat → Heap → Prop) (J : It) (H' : Hp), itv = .ref it ∧ Inv X pins σ H' s2 ∧ Turn X.prog X.w X.K tg J fp it tn ∧ tn 0 s2.heap ∧ (∀ b ∈ fp, FpOk X pins H' b) ∧ R J H'
def PI (X : Cx) (tg iter : Expr) (wi : TI) : Prop :=
  ∀ (pins : List (Addr × Obj)) (s : Shared) (σ : St) (H : Hp) (R : It → Hp → Prop), Inv X pins σ H s → wi σ H R →
    wpAny (model X.prog X.w) X.A (eval iter X.env) (fun v s1 => wpAny (model X.prog X.w) X.A (pyIter v) (PIE X pins σ tg R) X.xe s1) X.xe s

/-- the step ahead of the store is nothing for an iterator that keeps no tuple -/
theorem go_of {M : Model} {A : Around} {E : Value → Shared → Prop} {s : Shared} {tg : Expr} {it : Addr} {u : Value} {o : Obj} {n : String} {vs : Array Value} {Q : Unit → Shared → Prop} (ho : s.heap.get? it = some o) (hc : o.cls = .type n) (hd : o.data = .fields vs)
    (hn : ["enumerate", "zip", "dict_itemiterator", "dict_reverseitemiterator", "odict_iterator", "itertools.zip_longest", "itertools.pairwise"].contains n = false) (hQ : Q () s) : wpAny M A (letOwnedTupleGo tg (.ref it) u) Q E s := by
  unfold letOwnedTupleGo
  cases tg <;> first
    | exact wpAny_pure hQ
    | (cases u <;> first
        | exact wpAny_pure hQ
        | (refine wpAny_bind (wpAny_load ho ?_)
           rw [hc, hd]
           show wpAny M A (if (["enumerate", "zip", "dict_itemiterator", "dict_reverseitemiterator", "odict_iterator", "itertools.zip_longest", "itertools.pairwise"].contains n && vs[0]? == some (rawInt _)) = true then _ else _) Q E s
           rw [if_neg (by intro h; rw [hn, Bool.false_and] at h; cases h)]
           exact wpAny_pure hQ))

/-- the list at a, as it stands at each turn (a loop may append to it) -/
def Itl (K : PySem.W.Frag) (a : Addr) : It :=
  ⟨fun i H => ∃ xs x, SqL K H a xs ∧ xs[i]? = some x, fun i H x H' => H' = H ∧ ∀ xs, SqL K H a xs → xs[i]? = some x, fun i H => ∃ xs, SqL K H a xs ∧ xs.length ≤ i⟩
def Itt (K : PySem.W.Frag) (a : Addr) : It :=
  ⟨fun i H => ∃ xs x, SqT K H a xs ∧ xs[i]? = some x, fun i H x H' => H' = H ∧ ∀ xs, SqT K H a xs → xs[i]? = some x, fun i H => ∃ xs, SqT K H a xs ∧ xs.length ≤ i⟩
/-- lo, lo + 1, .. (n of them) -/
def Itr (lo : Int) (n : Nat) : It := ⟨fun i _ => i < n, fun i H x H' => H' = H ∧ x = .int (lo + i), fun i _ => n ≤ i⟩
theorem turn_list {P : Program} {w : World} {K : PySem.W.Frag} {tg : Expr} (a it : Addr) : Turn P w K tg (Itl K a) [it] it (fun i h => h.IsListIter it a i) where
  mem := by simp
  obj := fun i h st b hb => by
    have e : b = it := by simpa using hb
    subst e
    obtain ⟨o, e, c, d⟩ := st
    exact ⟨o, e, fun v z => by rw [d] at z; cases z⟩
  keep := fun i h h' st k => st.at fun o e => k it (by simp) o e
  item := by
    intro X hP hw hK hc i pins s σ H E I hf st hg
    subst hP hw hK
    obtain ⟨xs, x, hq, hx⟩ := hg
    obtain ⟨its, rv, p, hz⟩ := I.list hq
    obtain ⟨u, hu, ru⟩ := rv.get hx
    obtain ⟨f0, f1, f2, f3, f4, f5⟩ := hf it (by simp)
    refine wpAny_pyNext_list_item st p.isList (x := u) (by simpa using hu) fun h' st' sb => ?_
    have I1 : Inv X pins σ H { s with heap := h' } := I.turned (t' := s.toks) (fun b o hb e => (sb.2 b hb).trans e) f0 f1 f3 f4 f5
    obtain ⟨o, e, c, d⟩ := id st'
    exact ⟨u, rfl, go_of (s := { s with heap := h' }) e c d (by decide) ⟨x, H, I1, ru, ⟨rfl, fun ys hy => by rw [I.list_inj hy hq]; exact hx⟩, st', fun b hb => (hf b hb).1⟩⟩
  done := by
    intro X hP hw hK hc i pins s σ H E I hf st hg
    subst hP hw hK
    obtain ⟨xs, hq, hx⟩ := hg
    obtain ⟨its, rv, p, hz⟩ := I.list hq
    obtain ⟨f0, f1, f2, f3, f4, f5⟩ := hf it (by simp)
    have hl := rv.length
    exact wpAny_pyNext_list_end (I.ok.hd hc) st p.isList (by simp; omega) fun h' eb => ⟨rfl, I.turned (t' := s.toks) (fun b o hb e => eb b o hb e) f0 f1 f3 f4 f5⟩
  self := fun _ _ _ _ _ st h => wpAny_pyIter_listiter st h
theorem turn_range {P : Program} {w : World} {K : PySem.W.Frag} {tg : Expr} (it : Addr) (lo : Int) (n : Nat) : Turn P w K tg (Itr lo n) [it] it (fun i h => IsRangeIter h it (lo + (i : Nat) * 1) ((n : Int) - (i : Nat)) 1) where
  mem := by simp
  obj := fun i h st b hb => by
    have e : b = it := by simpa using hb
    subst e
    exact ⟨_, st, fun v z => by
      have z' : Data.fields _ = Data.cell v := z
      cases z'⟩
  keep := fun i h h' st k => k it (by simp) _ st
  item := by
    intro X hP hw hK hc i pins s σ H E I hf st hg
    subst hP hw hK
    obtain ⟨f0, f1, f2, f3, f4, f5⟩ := hf it (by simp)
    have W := Walks.range (prog := X.prog) (w := X.w) (I.ok.hd hc) it lo 1 n
    refine W.item i s _ _ hg st fun v h' tk hv st' kk => ?_
    obtain ⟨t, rfl⟩ := hv
    have I1 : Inv X pins σ H { s with heap := h', toks := tk } := I.turned (fun b o hb e => kk b o (by simpa using hb) e) f0 f1 f3 f4 f5
    refine ⟨_, rfl, go_of (s := { s with heap := h', toks := tk }) (n := "range_iterator") st' rfl rfl (by decide) ⟨.int (lo + i), H, I1, ⟨t, ?_⟩, ⟨rfl, rfl⟩, st', fun b hb => (hf b hb).1⟩⟩
    rw [Int.mul_one]
  done := by
    intro X hP hw hK hc i pins s σ H E I hf st hg
    subst hP hw hK
    obtain ⟨f0, f1, f2, f3, f4, f5⟩ := hf it (by simp)
    exact wpAny_pyNext_range_end (I.ok.hd hc) st (by have : n ≤ i := hg; omega) fun h' eb => ⟨rfl, I.turned (t' := s.toks) (fun b o hb e => eb b o hb e) f0 f1 f3 f4 f5⟩
  self := fun _ _ _ _ _ st h => wpAny_pyIter_rangeiter st h
end L2

namespace L2
open PySem PySem.Spec PyProof.Rows
section
variable {X : Cx} {tg : Expr}
def iList (K : PySem.W.Frag) (tl : TE) : TI := fun σ H R => tl σ H fun x H1 => ∃ a, x = .ref a ∧ (∃ xs, SqL K H1 a xs) ∧ R (Itl K a) H1
def iTup (K : PySem.W.Frag) (tl : TE) : TI := fun σ H R => tl σ H fun x H1 => ∃ a, x = .ref a ∧ (∃ xs, SqT K H1 a xs) ∧ R (Itt K a) H1
theorem pi_list {l : Expr} {tl : TE} (hl : PE X l tl) : PI X tg l (iList X.K tl) := by
  intro pins s σ H R I h
  refine thn (hl pins s σ H _ I h) fun v s1 ⟨x, H1, I1, r1, q1⟩ => ?_
  obtain ⟨a, e, ⟨xs, hq⟩, q⟩ := q1
  subst e
  cases r1
  obtain ⟨its, rv, p, hz⟩ := I1.list hq
  refine wpAny_pyIter_list p.isList ?_
  refine ⟨s1.heap.objs.size, [s1.heap.objs.size], _, _, H1, rfl, I1.kept (t' := s1.toks) fun b o e => Heap.get?_push_of_some _ e, turn_list a _, ⟨_, Heap.get?_push_size _ rfl, rfl, rfl⟩, fun b hb => ?_, q⟩
  have e : b = s1.heap.objs.size := by simpa using hb
  subst e
  exact I1.fpOk (Nat.le_refl _) (I1.hok.fresh (Nat.le_refl _))
/-- a range object just made, walked -/
theorem range_it {pins : List (Addr × Obj)} {σ : St} {H : Hp} {s : Shared} {R : It → Hp → Prop} {E : Value → Shared → Prop} {lo hi : Int} {t u v : Tok} {tk : Nat} (I : Inv X pins σ H s) (h1 : -(2 ^ 62) ≤ lo) (h2 : lo < 2 ^ 62) (h3 : -(2 ^ 62) ≤ hi) (h4 : hi < 2 ^ 62)
    (q : R (Itr lo (hi - lo).toNat) H) : wpAny (model X.prog X.w) X.A (pyIter (.ref s.heap.objs.size)) (PIE X pins σ tg R) E { s with heap := s.heap.push { cls := .type "range", data := .fields #[.int lo t, .int hi u, .int 1 v] }, toks := tk } := by
  refine wpAny_pyIter_range (IsRange.new ..) (small_one h1 h2 h3 h4) ?_
  have I1 : Inv X pins σ H { s with heap := s.heap.push { cls := .type "range", data := .fields #[.int lo t, .int hi u, .int 1 v] }, toks := tk } := I.kept fun b o e => Heap.get?_push_of_some _ e
  refine ⟨(s.heap.push { cls := .type "range", data := .fields #[.int lo t, .int hi u, .int 1 v] }).objs.size, [(s.heap.push { cls := .type "range", data := .fields #[.int lo t, .int hi u, .int 1 v] }).objs.size], _, _, H, rfl,
    I1.kept (t' := tk) fun b o e => Heap.get?_push_of_some _ e, turn_range _ lo (hi - lo).toNat, ?_, fun b hb => ?_, q⟩
  · have e1 : lo + ((0 : Nat) : Int) * 1 = lo := by simp
    have e2 : (((hi - lo).toNat : Nat) : Int) - ((0 : Nat) : Int) = Builtin.Range.rangeSize lo hi 1 := by rw [rangeSize_one]; split <;> omega
    show IsRangeIter _ _ (lo + ((0 : Nat) : Int) * 1) ((((hi - lo).toNat : Nat) : Int) - ((0 : Nat) : Int)) 1
    rw [e1, e2]
    exact Heap.get?_push_size _ rfl
  · have e : b = (s.heap.push { cls := .type "range", data := .fields #[.int lo t, .int hi u, .int 1 v] }).objs.size := by simpa using hb
    subst e
    exact I1.fpOk (Nat.le_refl _) (I1.hok.fresh (Nat.le_refl _))
def iRng1 (ta : TA) : TI := fun σ H R => ta σ H fun vs H1 => ∃ j : Int, vs = [.int j] ∧ -(2 ^ 62) ≤ j ∧ j < 2 ^ 62 ∧ R (Itr 0 j.toNat) H1
def iRng2 (ta : TA) : TI := fun σ H R => ta σ H fun vs H1 => ∃ i j : Int, vs = [.int i, .int j] ∧ (-(2 ^ 62) ≤ i ∧ i < 2 ^ 62 ∧ -(2 ^ 62) ≤ j ∧ j < 2 ^ 62) ∧ R (Itr i (j - i).toNat) H1
theorem pi_range1 {a : Expr} {ta : TA} {p pos : Pos} (hg : Gl X "range") (hm : X.mg "range" = none) (ha : PA X [a] ta) (hs : starEach [a] X.env = [(false, eval a X.env)] := by rfl) : PI X tg (.Call (.Name "range" p) [a] [] pos) (iRng1 ta) := by
  intro pins s σ H R I h
  refine Call_ (ld_blt I hg hm boot_range (PyProof.Rows.callWith_type1 (thn (ha pos pins s σ H _ I h) fun us s1 ⟨vs, H1, I1, r1, q1⟩ => ?_) hs rfl))
  obtain ⟨j, e, q1, q2, q⟩ := q1
  subst e
  cases r1 with
  | cons r rr =>
    cases rr
    obtain ⟨t, rfl⟩ := r
    exact call_range_1 (range_it I1 (by omega) (by omega) q1 q2 (by simpa using q))
theorem pi_range2 {a b : Expr} {ta : TA} {p pos : Pos} (hg : Gl X "range") (hm : X.mg "range" = none) (ha : PA X [a, b] ta) (hs : starEach [a, b] X.env = [(false, eval a X.env), (false, eval b X.env)] := by rfl) (hs2 : starEach [b] X.env = [(false, eval b X.env)] := by rfl) :
    PI X tg (.Call (.Name "range" p) [a, b] [] pos) (iRng2 ta) := by
  intro pins s σ H R I h
  refine Call_ (ld_blt I hg hm boot_range (PyProof.Rows.callWith_type1 (thn (ha pos pins s σ H _ I h) fun us s1 ⟨vs, H1, I1, r1, q1⟩ => ?_) (by rw [hs, hs2]) (by rw [hs2]; rfl)))
  obtain ⟨i, j, e, ⟨q1, q2, q3, q4⟩, q⟩ := q1
  subst e
  cases r1 with
  | cons r rr =>
    cases rr with
    | cons r' rr =>
      cases rr
      obtain ⟨t, rfl⟩ := r
      obtain ⟨t', rfl⟩ := r'
      exact call_range_2 (range_it I1 q1 q2 q3 q4 q)

/-! ### for -/
/-- W: the invariant by the turn and a measure; N: what the body is to reach -/
def tFor (wi : TI) (g : TG) (tb : TS) : TS := fun D σ H => wi σ H fun J H1 => ∃ W : Nat → Nat → St → Hp → Prop, (∃ m, W 0 m σ H1) ∧ ∀ i m σ H, W i m σ H →
  (J.stop i H ∧ D.nx σ H) ∨ (J.go i H ∧ ∃ N : St → Hp → Prop, (∀ σ' H', N σ' H' → ∃ m', m' < m ∧ W (i + 1) m' σ' H') ∧ ∀ x H', J.yld i H x H' → g x σ H' fun σ2 H2 => tb { D with nx := N, ct := N, bk := D.nx } σ2 H2)
/-- the records at fp as they stand -/
def pinsAt (fp : List Addr) (h : Heap) : List (Addr × Obj) := fp.filterMap fun b => (h.get? b).map fun o => (b, o)
theorem mem_pinsAt {fp : List Addr} {h : Heap} {b : Addr} {o : Obj} (hb : b ∈ fp) (e : h.get? b = some o) : (b, o) ∈ pinsAt fp h := List.mem_filterMap.mpr ⟨b, hb, by rw [e]; rfl⟩
theorem of_pinsAt {fp : List Addr} {h : Heap} {p : Addr × Obj} (hp : p ∈ pinsAt fp h) : p.1 ∈ fp ∧ h.get? p.1 = some p.2 := by
  obtain ⟨b, hb, e⟩ := List.mem_filterMap.mp hp
  cases q : h.get? b with
  | none => rw [q] at e; cases e
  | some o =>
    rw [q] at e
    have e' : (b, o) = p := Option.some.inj e
    subst e'
    exact ⟨hb, q⟩
theorem Inv.pinned {pins : List (Addr × Obj)} {σ : St} {H : Hp} {s : Shared} {fp : List Addr} (I : Inv X pins σ H s) (hf : ∀ b ∈ fp, FpOk X pins H b) (ho : ∀ b ∈ fp, ∃ o, s.heap.get? b = some o ∧ ∀ v, o.data ≠ .cell v) : Inv X (pins ++ pinsAt fp s.heap) σ H s :=
  I.pins_of fun p hp => (List.mem_append.mp hp).elim (fun z => I.pin p (List.mem_append_right _ z)) fun z => by
    obtain ⟨hb, e⟩ := of_pinsAt z
    obtain ⟨f0, f1, f2, _⟩ := hf p.1 hb
    obtain ⟨o, e', d⟩ := ho p.1 hb
    rw [e] at e'; cases e'
    exact ⟨e, f0, f1, f2, d⟩
theorem Inv.unpinned {pins pl : List (Addr × Obj)} {σ : St} {H : Hp} {s : Shared} (I : Inv X (pins ++ pl) σ H s) : Inv X pins σ H s := I.pins_of fun p hp => I.pin p (List.mem_append_right _ (List.mem_append_left _ hp))
theorem ps_for {iter : Expr} {body : List Stmt} {wi : TI} {g : TG} {tb : TS} {pos : Pos} (hp : PassesOwn (model X.prog X.w) X.A X.env X.xe) (hc : X.calm = true) (hi : PI X tg iter wi) (hg : PG X tg g) (hb : PSs X body tb)
    (hs : ∀ x, foldedSetIterable iter X.env x = pure x := by intro _; rfl) : PS X (.For tg iter body [] pos) (tFor wi g tb) := by
  intro pins s σ H D I h
  refine wpAny_For (thn (hi pins s σ H _ I h) fun v s1 h1 => thn h1 fun itv s2 h2 => ?_) hs
  obtain ⟨it, fp, tn, J, H2, e, I2, T, st2, f2, W, ⟨m0, w0⟩, turn⟩ := h2
  subst e
  -- what stays true of the iterator's objects through the loop
  have stat : ∀ {H' : Hp}, (∀ b ∈ fp, H' b = none) → ∀ b ∈ fp, FpOk X pins H' b := fun hn b hb => ⟨hn b hb, (f2 b hb).2⟩
  refine codeAny_forLoop_any (fun n s' => ∃ i σ' H', Inv X pins σ' H' s' ∧ tn i s'.heap ∧ (∀ b ∈ fp, H' b = none) ∧ W i n σ' H') ?_ m0 ⟨0, σ, H2, I2, st2, fun b hb => (f2 b hb).1, w0⟩
  rintro n s3 ⟨i, σ3, H3, I3, st3, fr3, w3⟩
  rcases turn i n σ3 H3 w3 with ⟨stop, qn⟩ | ⟨go, N, hN, step⟩
  · refine wpAny_passesOwn hp (thn (T.done X rfl rfl rfl hc i pins s3 σ3 H3 X.xe I3 (stat fr3) st3 stop) fun r s4 ⟨hr, I4⟩ => ?_)
    subst hr
    exact wpAny_execs_nil ⟨σ3, H3, I4, qn⟩
  · refine wpAny_passesOwn hp (thn (T.item X rfl rfl rfl hc i pins s3 σ3 H3 X.xe I3 (stat fr3) st3 go) fun r s4 ⟨u, hr, h4⟩ => ?_)
    subst hr
    refine wpAny_passesOwn hp (thn h4 fun _ s5 ⟨x, H5, I5, r5, y5, st5, fr5⟩ => ?_)
    have I5' := I5.pinned (stat fr5) (T.obj _ _ st5)
    refine wpAny_passesOwn hp (thn (hg _ s5 σ3 H5 x u _ I5' r5 (step x H5 y5)) fun _ s6 ⟨σ6, H6, I6, q6⟩ => ?_)
    refine wpAny_passesOwn hp (thn (hb _ s6 σ6 H6 _ I6 q6) fun f s7 q7 => ?_)
    have again : ∀ {σ7 : St} {H7 : Hp}, Inv X (pins ++ pinsAt fp s5.heap) σ7 H7 s7 → N σ7 H7 → ∃ m, m < n ∧ ∃ i σ' H', Inv X pins σ' H' s7 ∧ tn i s7.heap ∧ (∀ b ∈ fp, H' b = none) ∧ W i m σ' H' := fun {σ7 H7} I7 n7 => by
      obtain ⟨m', hm, w7⟩ := hN σ7 H7 n7
      refine ⟨m', hm, i + 1, σ7, H7, I7.unpinned, T.keep _ _ _ st5 fun b hb o e => (I7.pin (b, o) (List.mem_append_right _ (List.mem_append_right _ (mem_pinsAt hb e)))).1, fun b hb => ?_, w7⟩
      obtain ⟨o, e, d⟩ := T.obj _ _ st5 b hb
      exact (I7.pin (b, o) (List.mem_append_right _ (List.mem_append_right _ (mem_pinsAt hb e)))).2.1
    cases f with
    | next => obtain ⟨σ7, H7, I7, n7⟩ := q7; exact again I7 n7
    | cont => obtain ⟨σ7, H7, I7, n7⟩ := q7; exact again I7 n7
    | brk => obtain ⟨σ7, H7, I7, q7⟩ := q7; exact ⟨σ7, H7, I7.unpinned, q7⟩
    | ret v => obtain ⟨x7, σ7, H7, I7, r7, q7⟩ := q7; exact ⟨x7, σ7, H7, I7.unpinned, r7, q7⟩
end

/-! ### the forms one uses -/
/-- over a list that the body leaves as it is -/
theorem for_list {K : PySem.W.Frag} {a : Addr} {xs : List V} {g : TG} {tb : TS} {D : Ends} {σ : St} {H : Hp} (Pv : Nat → St → Hp → Prop) (h0 : Pv 0 σ H) (hl : ∀ i σ H, i ≤ xs.length → Pv i σ H → SqL K H a xs)
    (hs : ∀ i x σ H, xs[i]? = some x → Pv i σ H → g x σ H fun σ2 H2 => tb { D with nx := Pv (i + 1), ct := Pv (i + 1), bk := D.nx } σ2 H2) (hd : ∀ σ H, Pv xs.length σ H → D.nx σ H) :
    ∃ W : Nat → Nat → St → Hp → Prop, (∃ m, W 0 m σ H) ∧ ∀ i m σ H, W i m σ H →
      ((Itl K a).stop i H ∧ D.nx σ H) ∨ ((Itl K a).go i H ∧ ∃ N : St → Hp → Prop, (∀ σ' H', N σ' H' → ∃ m', m' < m ∧ W (i + 1) m' σ' H') ∧ ∀ x H', (Itl K a).yld i H x H' → g x σ H' fun σ2 H2 => tb { D with nx := N, ct := N, bk := D.nx } σ2 H2) := by
  refine ⟨fun i m σ H => m = xs.length - i ∧ i ≤ xs.length ∧ Pv i σ H, ⟨xs.length, by simp, Nat.zero_le _, h0⟩, ?_⟩
  rintro i m σ H ⟨rfl, hi, p⟩
  have q := hl i σ H hi p
  by_cases hlt : i < xs.length
  · refine .inr ⟨⟨xs, xs[i], q, by simp [hlt]⟩, Pv (i + 1), fun σ' H' p' => ⟨xs.length - (i + 1), by omega, rfl, hlt, p'⟩, fun x H' y => ?_⟩
    obtain ⟨e, y⟩ := y
    subst e
    exact hs i x σ _ (y xs q) p
  · have e : i = xs.length := by omega
    subst e
    exact .inl ⟨⟨xs, q, Nat.le_refl _⟩, hd σ H p⟩
theorem for_range {lo : Int} {n : Nat} {g : TG} {tb : TS} {D : Ends} {σ : St} {H : Hp} (Pv : Nat → St → Hp → Prop) (h0 : Pv 0 σ H)
    (hs : ∀ i σ H, i < n → Pv i σ H → g (.int (lo + i)) σ H fun σ2 H2 => tb { D with nx := Pv (i + 1), ct := Pv (i + 1), bk := D.nx } σ2 H2) (hd : ∀ σ H, Pv n σ H → D.nx σ H) :
    ∃ W : Nat → Nat → St → Hp → Prop, (∃ m, W 0 m σ H) ∧ ∀ i m σ H, W i m σ H →
      ((Itr lo n).stop i H ∧ D.nx σ H) ∨ ((Itr lo n).go i H ∧ ∃ N : St → Hp → Prop, (∀ σ' H', N σ' H' → ∃ m', m' < m ∧ W (i + 1) m' σ' H') ∧ ∀ x H', (Itr lo n).yld i H x H' → g x σ H' fun σ2 H2 => tb { D with nx := N, ct := N, bk := D.nx } σ2 H2) := by
  refine ⟨fun i m σ H => m = n - i ∧ i ≤ n ∧ Pv i σ H, ⟨n, by simp, Nat.zero_le _, h0⟩, ?_⟩
  rintro i m σ H ⟨rfl, hi, p⟩
  by_cases hlt : i < n
  · refine .inr ⟨hlt, Pv (i + 1), fun σ' H' p' => ⟨n - (i + 1), by omega, rfl, hlt, p'⟩, fun x H' y => ?_⟩
    obtain ⟨e, y⟩ := y
    subst e y
    exact hs i σ _ hlt p
  · have e : i = n := by omega
    subst e
    exact .inl ⟨Nat.le_refl _, hd σ H p⟩
end L2

namespace L2
open PySem PySem.Spec PyProof.Rows

abbrev R2 := V → V → Hp → VK → Prop
/-- a two-place operation on values: f is binaryOp op, inplaceOp op or compareOp op -/
def OpR (X : Cx) (f : Value → Value → Sem Value) (r : R2) : Prop :=
  ∀ (pins : List (Addr × Obj)) (s : Shared) (σ : St) (H : Hp) (x y : V) (v u : Value) (Q : VK), Inv X pins σ H s → RelV x v → RelV y u → r x y H Q →
    wpAny (model X.prog X.w) X.A (f v u) (EP X pins σ Q) X.xe s
/-- a one-place operation -/
def UnR (X : Cx) (f : Value → Sem Value) (r : V → Hp → VK → Prop) : Prop :=
  ∀ (pins : List (Addr × Obj)) (s : Shared) (σ : St) (H : Hp) (x : V) (v : Value) (Q : VK), Inv X pins σ H s → RelV x v → r x H Q →
    wpAny (model X.prog X.w) X.A (f v) (EP X pins σ Q) X.xe s
/-- a call of a value that is known (a builtin, a type) with values -/
def CallR (X : Cx) (f : Value) (r : List V → Hp → VK → Prop) : Prop :=
  ∀ (pins : List (Addr × Obj)) (s : Shared) (σ : St) (H : Hp) (xs : List V) (us : List Value) (Q : VK), Inv X pins σ H s → Vals xs us → r xs H Q →
    wpAny (model X.prog X.w) X.A (call f us) (EP X pins σ Q) X.xe s
/-- a value's truth -/
def TruR (X : Cx) (r : V → Hp → (Bool → Hp → Prop) → Prop) : Prop :=
  ∀ (pins : List (Addr × Obj)) (s : Shared) (σ : St) (H : Hp) (x : V) (v : Value) (Q : Bool → Hp → Prop), Inv X pins σ H s → RelV x v → r x H Q →
    wpAny (model X.prog X.w) X.A (truthy v) (TP X pins σ Q) X.xe s

def tOp (r : R2) (ta tb : TE) : TE := fun σ H Q => ta σ H fun x H1 => tb σ H1 fun y H2 => r x y H2 Q
def tUn (r : V → Hp → VK → Prop) (ta : TE) : TE := fun σ H Q => ta σ H fun x H1 => r x H1 Q
/-- ints in, under C, and a value out -/
def rI (C : Int → Int → Prop) (g : Int → Int → V) : R2 := fun x y H Q => ∃ i j, x = .int i ∧ y = .int j ∧ C i j ∧ Q (g i j) H
def rI0 (g : Int → Int → V) : R2 := fun x y H Q => ∃ i j, x = .int i ∧ y = .int j ∧ Q (g i j) H
def rU (g : Int → V) : V → Hp → VK → Prop := fun x H Q => ∃ i, x = .int i ∧ Q (g i) H

section
variable {X : Cx} {a b c : Expr} {ta tb tc : TE} {pos : Pos}

theorem binT (ha : PE X a ta) (hb : PE X b tb) {pins : List (Addr × Obj)} {s : Shared} {σ : St} {H : Hp} {R : V → V → Hp → Prop} (I : Inv X pins σ H s)
    (h : ta σ H fun x H1 => tb σ H1 fun y H2 => R x y H2) {Q : Value → Shared → Prop} {f : Value → Value → Sem Value}
    (hf : ∀ v u s2 x y H2, Inv X pins σ H2 s2 → RelV x v → RelV y u → R x y H2 → wpAny (model X.prog X.w) X.A (f v u) Q X.xe s2) :
    wpAny (model X.prog X.w) X.A (eval a X.env) (fun v s₁ => wpAny (model X.prog X.w) X.A (eval b X.env) (fun u s₂ => wpAny (model X.prog X.w) X.A (f v u) Q X.xe s₂) X.xe s₁) X.xe s := by
  refine thn (ha pins s σ H _ I h) fun v s1 ⟨x, H1, I1, r1, q1⟩ => ?_
  refine thn (hb pins s1 σ H1 _ I1 q1) fun u s2 ⟨y, H2, I2, r2, q2⟩ => ?_
  exact hf v u s2 x y H2 I2 r1 r2 q2

theorem pe_op {op : Operator} {r : R2} (ho : OpR X (binaryOp op) r) (ha : PE X a ta) (hb : PE X b tb) : PE X (.BinOp a op b pos) (tOp r ta tb) := by
  intro pins s σ H Q I h
  exact wpAny_BinOp (binT ha hb I h fun v u s2 x y H2 I2 rx ry q => ho pins s2 σ H2 x y v u Q I2 rx ry q)
theorem pe_un {op : UnaryOp} {r : V → Hp → VK → Prop} (ho : UnR X (unaryOp op) r) (ha : PE X a ta) : PE X (.UnaryOp op a pos) (tUn r ta) := by
  intro pins s σ H Q I h
  exact UnaryOp_ (thn (ha pins s σ H _ I h) fun v s1 ⟨x, H1, I1, r1, q1⟩ => ho pins s1 σ H1 x v Q I1 r1 q1)
/-! ### ints -/
theorem opI {f : Value → Value → Sem Value} {C : Int → Int → Prop} {g : Int → Int → Int}
    (rule : ∀ (i j : Int) (t u : Tok) (s : Shared) (Q : Value → Shared → Prop) (E : Value → Shared → Prop), C i j → Q (.int (g i j) s.toks) { s with toks := s.toks + 1 } → wpAny (model X.prog X.w) X.A (f (.int i t) (.int j u)) Q E s) :
    OpR X f (rI C fun i j => .int (g i j)) := by
  intro pins s σ H x y v u Q I rx ry h
  obtain ⟨i, j, rfl, rfl, hc, q⟩ := h
  obtain ⟨t, rfl⟩ := rx
  obtain ⟨t', rfl⟩ := ry
  exact rule i j t t' s _ _ hc ⟨.int (g i j), H, I.tok _, ⟨_, rfl⟩, q⟩
theorem opI0 {f : Value → Value → Sem Value} {g : Int → Int → Int}
    (rule : ∀ (i j : Int) (t u : Tok) (s : Shared) (Q : Value → Shared → Prop) (E : Value → Shared → Prop), Q (.int (g i j) s.toks) { s with toks := s.toks + 1 } → wpAny (model X.prog X.w) X.A (f (.int i t) (.int j u)) Q E s) :
    OpR X f (rI0 fun i j => .int (g i j)) := by
  intro pins s σ H x y v u Q I rx ry h
  obtain ⟨i, j, rfl, rfl, q⟩ := h
  obtain ⟨t, rfl⟩ := rx
  obtain ⟨t', rfl⟩ := ry
  exact rule i j t t' s _ _ ⟨.int (g i j), H, I.tok _, ⟨_, rfl⟩, q⟩
theorem opB0 {f : Value → Value → Sem Value} {g : Int → Int → Bool}
    (rule : ∀ (i j : Int) (t u : Tok) (s : Shared) (Q : Value → Shared → Prop) (E : Value → Shared → Prop), Q (.bool (g i j)) s → wpAny (model X.prog X.w) X.A (f (.int i t) (.int j u)) Q E s) :
    OpR X f (rI0 fun i j => .bl (g i j)) := by
  intro pins s σ H x y v u Q I rx ry h
  obtain ⟨i, j, rfl, rfl, q⟩ := h
  obtain ⟨t, rfl⟩ := rx
  obtain ⟨t', rfl⟩ := ry
  exact rule i j t t' s _ _ ⟨.bl (g i j), H, I, rfl, q⟩

def CDiv (i j : Int) : Prop := 0 < j ∧ j < 1073741824
def CDivN (i j : Int) : Prop := j ≠ 0 ∧ j.natAbs < 1073741824
def CPow (i j : Int) : Prop := 0 ≤ j ∧ j ≤ 1000000 ∧ i.natAbs < 2 ^ 64
def CMul (i j : Int) : Prop := (-(2 ^ 64) < i ∧ i < 2 ^ 64) ∨ (-(2 ^ 64) < j ∧ j < 2 ^ 64)
theorem CMul.ok {i j : Int} (h : CMul i j) : IntMulOk i j := by
  rcases h with ⟨h1, h2⟩ | ⟨h1, h2⟩
  · exact .of_left (intBits_le_64 h1 h2)
  · exact .of_right (intBits_le_64 h1 h2)
theorem op_add : OpR X (binaryOp .Add) (rI0 fun i j => .int (i + j)) := opI0 fun _ _ _ _ _ _ _ q => add_int q
theorem op_sub : OpR X (binaryOp .Sub) (rI0 fun i j => .int (i - j)) := opI0 fun _ _ _ _ _ _ _ q => sub_int q
theorem op_mul : OpR X (binaryOp .Mult) (rI CMul fun i j => .int (i * j)) := opI fun _ _ _ _ _ _ _ hc q => mul_int q hc.ok
/-- // by a positive divisor -/
theorem op_fdiv : OpR X (binaryOp .FloorDiv) (rI CDiv fun i j => .int (i / j)) := opI fun i j _ _ _ _ _ hc q => by
  have h1 : (0 : Int) < j := hc.1
  have h2 : j < 1073741824 := hc.2
  exact floordiv_int (by omega) (by rw [Int.fdiv_eq_ediv_of_nonneg i (by omega)]; exact q) (.inl (PyProof.noPylong_small (by omega)))
/-- % by a positive divisor of any size -/
theorem op_mod : OpR X (binaryOp .Mod) (rI (fun _ j => 0 < j) fun i j => .int (i % j)) := opI fun i j _ _ _ _ _ hc q => by
  have h1 : (0 : Int) < j := hc
  exact mod_int' (by omega) (by rw [Int.fmod_eq_emod_of_nonneg i (by omega)]; exact q)
theorem op_pow : OpR X (binaryOp .Pow) (rI CPow fun i j => .int (i ^ j.toNat)) := opI fun _ _ _ _ _ _ _ hc q => pow_int_small hc.1 hc.2.1 hc.2.2 q
theorem unI {f : Value → Sem Value} {g : Int → Int}
    (rule : ∀ (i : Int) (t : Tok) (s : Shared) (Q : Value → Shared → Prop) (E : Value → Shared → Prop), Q (.int (g i) s.toks) { s with toks := s.toks + 1 } → wpAny (model X.prog X.w) X.A (f (.int i t)) Q E s) :
    UnR X f (rU fun i => .int (g i)) := by
  intro pins s σ H x v Q I rx h
  obtain ⟨i, rfl, q⟩ := h
  obtain ⟨t, rfl⟩ := rx
  exact rule i t s _ _ ⟨.int (g i), H, I.tok _, ⟨_, rfl⟩, q⟩
theorem un_neg : UnR X (unaryOp .USub) (rU fun i => .int (-i)) := unI fun _ _ _ _ _ q => neg_int q
/-! ### bools among ints: n += (a < b) -/
end

/-! ### comparisons -/
/-- the scalars that == tells apart as data does -/
def scal : V → V → Bool
  | .non, .non => true | .non, .int _ => true | .int _, .non => true | .non, .bl _ => true | .bl _, .non => true | .non, .str _ => true | .str _, .non => true
  | .int _, .int _ => true | .bl _, .bl _ => true | .str _, .str _ => true | .byt _, .byt _ => true
  | .int _, .str _ => true | .str _, .int _ => true | .bl _, .str _ => true | .str _, .bl _ => true
  | _, _ => false
def rEq : R2 := fun x y H Q => scal x y = true ∧ Q (.bl (decide (x = y))) H
def rNe : R2 := fun x y H Q => scal x y = true ∧ Q (.bl (!decide (x = y))) H

theorem dec_int {i j : Int} : decide (V.int i = V.int j) = (i == j) := by
  rw [Bool.eq_iff_iff]
  simp
theorem dec_bl {i j : Bool} : decide (V.bl i = V.bl j) = (i == j) := by
  rw [Bool.eq_iff_iff]
  simp
theorem dec_str {i j : Str} : decide (V.str i = V.str j) = (i == j) := by
  rw [Bool.eq_iff_iff]
  simp
theorem dec_byt {i j : Array UInt8} : decide (V.byt i = V.byt j) = (i.toList == j.toList) := by
  rw [Bool.eq_iff_iff]
  cases i
  cases j
  simp

section
variable {X : Cx} {a b c : Expr} {ta tb tc : TE} {pos : Pos}
theorem fin_bl {pins : List (Addr × Obj)} {σ : St} {H : Hp} {s : Shared} {Q : VK} {k k' : Bool} (I : Inv X pins σ H s) (q : Q (.bl k) H) (e : k = k') : EP X pins σ Q (.bool k') s := by
  subst e
  exact ⟨.bl k, H, I, rfl, q⟩
theorem op_eq : OpR X (compareOp .Eq) rEq := by
  intro pins s σ H x y v u Q I rx ry h
  obtain ⟨hs, q⟩ := h
  cases x with
  | non =>
    cases rx
    cases y with
    | non => cases ry; exact PySem.EqNone.eq_none_none (fin_bl I q (by simp))
    | bl j => cases ry; exact PySem.EqNone.eq_none_bool (fin_bl I q (by simp))
    | int j => obtain ⟨t', rfl⟩ := ry; exact PySem.EqNone.eq_none_int (fin_bl I q (by simp))
    | str j => obtain ⟨t', rfl⟩ := ry; exact PySem.EqNone.eq_none_str (fin_bl I q (by simp))
    | _ => exact absurd (show false = true from hs) Bool.false_ne_true
  | bl i =>
    cases rx
    cases y with
    | non => cases ry; exact PySem.EqNone.eq_bool_none (fin_bl I q (by simp))
    | bl j => cases ry; exact eq_bool (fin_bl I q dec_bl)
    | str j => obtain ⟨t', rfl⟩ := ry; exact PySem.EqMixed.eq_bool_str (fin_bl I q (by simp))
    | _ => exact absurd (show false = true from hs) Bool.false_ne_true
  | int i =>
    obtain ⟨t, rfl⟩ := rx
    cases y with
    | non => cases ry; exact PySem.EqNone.eq_int_none (fin_bl I q (by simp))
    | int j => obtain ⟨t', rfl⟩ := ry; exact eq_int (fin_bl I q dec_int)
    | str j => obtain ⟨t', rfl⟩ := ry; exact PySem.EqMixed.eq_int_str (fin_bl I q (by simp))
    | _ => exact absurd (show false = true from hs) Bool.false_ne_true
  | str i =>
    obtain ⟨t, rfl⟩ := rx
    cases y with
    | non => cases ry; exact PySem.EqNone.eq_str_none (fin_bl I q (by simp))
    | bl j => cases ry; exact PySem.EqMixed.eq_str_bool (fin_bl I q (by simp))
    | int j => obtain ⟨t', rfl⟩ := ry; exact PySem.EqMixed.eq_str_int (fin_bl I q (by simp))
    | str j => obtain ⟨t', rfl⟩ := ry; exact eq_str (fin_bl I q dec_str)
    | _ => exact absurd (show false = true from hs) Bool.false_ne_true
  | byt i =>
    obtain ⟨t, rfl⟩ := rx
    cases y with
    | byt j => obtain ⟨t', rfl⟩ := ry; exact PySem.W.eq_bytes (fin_bl I q dec_byt)
    | _ => exact absurd (show false = true from hs) Bool.false_ne_true
  | _ => cases y <;> exact absurd (show false = true from hs) Bool.false_ne_true
theorem op_ne : OpR X (compareOp .NotEq) rNe := by
  intro pins s σ H x y v u Q I rx ry h
  obtain ⟨hs, q⟩ := h
  cases x with
  | non =>
    cases rx
    cases y with
    | non => cases ry; exact PySem.EqNone.ne_none_none (fin_bl I q (by simp))
    | bl j => cases ry; exact PySem.EqNone.ne_none_bool (fin_bl I q (by simp))
    | int j => obtain ⟨t', rfl⟩ := ry; exact PySem.EqNone.ne_none_int (fin_bl I q (by simp))
    | str j => obtain ⟨t', rfl⟩ := ry; exact PySem.EqNone.ne_none_str (fin_bl I q (by simp))
    | _ => exact absurd (show false = true from hs) Bool.false_ne_true
  | bl i =>
    cases rx
    cases y with
    | non => cases ry; exact PySem.EqNone.ne_bool_none (fin_bl I q (by simp))
    | bl j => cases ry; exact ne_bool (fin_bl I q (congrArg not dec_bl))
    | str j => obtain ⟨t', rfl⟩ := ry; exact PySem.EqMixed.ne_bool_str (fin_bl I q (by simp))
    | _ => exact absurd (show false = true from hs) Bool.false_ne_true
  | int i =>
    obtain ⟨t, rfl⟩ := rx
    cases y with
    | non => cases ry; exact PySem.EqNone.ne_int_none (fin_bl I q (by simp))
    | int j => obtain ⟨t', rfl⟩ := ry; exact ne_int (fin_bl I q (congrArg not dec_int))
    | str j => obtain ⟨t', rfl⟩ := ry; exact PySem.EqMixed.ne_int_str (fin_bl I q (by simp))
    | _ => exact absurd (show false = true from hs) Bool.false_ne_true
  | str i =>
    obtain ⟨t, rfl⟩ := rx
    cases y with
    | non => cases ry; exact PySem.EqNone.ne_str_none (fin_bl I q (by simp))
    | bl j => cases ry; exact PySem.EqMixed.ne_str_bool (fin_bl I q (by simp))
    | int j => obtain ⟨t', rfl⟩ := ry; exact PySem.EqMixed.ne_str_int (fin_bl I q (by simp))
    | str j => obtain ⟨t', rfl⟩ := ry; exact ne_str (fin_bl I q (congrArg not dec_str))
    | _ => exact absurd (show false = true from hs) Bool.false_ne_true
  | byt i =>
    obtain ⟨t, rfl⟩ := rx
    cases y with
    | byt j => obtain ⟨t', rfl⟩ := ry; exact PySem.W.ne_bytes (fin_bl I q (congrArg not dec_byt))
    | _ => exact absurd (show false = true from hs) Bool.false_ne_true
  | _ => cases y <;> exact absurd (show false = true from hs) Bool.false_ne_true

theorem op_lt : OpR X (compareOp .Lt) (rI0 fun i j => .bl (decide (i < j))) := opB0 fun _ _ _ _ _ _ _ q => lt_int q
theorem op_gt : OpR X (compareOp .Gt) (rI0 fun i j => .bl (decide (j < i))) := opB0 fun _ _ _ _ _ _ _ q => gt_int q
theorem op_ge : OpR X (compareOp .GtE) (rI0 fun i j => .bl (decide (j ≤ i))) := opB0 fun _ _ _ _ _ _ _ q => ge_int q
/-- the one string within the other -/
theorem op_in_str : OpR X (compareOp .In) (fun x y H Q => ∃ i j, x = .str i ∧ y = .str j ∧ Q (.bl (!(Builtin.Str.occurrences j i 0 j.length 1).isEmpty)) H) := by
  intro pins s σ H x y v u Q I rx ry h
  obtain ⟨i, j, rfl, rfl, q⟩ := h
  obtain ⟨t, rfl⟩ := rx
  obtain ⟨t', rfl⟩ := ry
  exact in_str (fin_bl I q rfl)

/-- is None, is not None: the right side a value none -/
theorem op_isN : OpR X (compareOp .Is) (fun x y H Q => y = .non ∧ Q (.bl (decide (x = .non))) H) := by
  intro pins s σ H x y v u Q I rx ry h
  obtain ⟨rfl, q⟩ := h
  cases ry
  refine is_none_gen (fin_bl I q ?_)
  cases x <;> first
    | (cases rx; rfl)
    | (obtain ⟨t, rfl⟩ := rx; rfl)
/-- is, is not of two objects that are tracked lists or instances -/
def isObj : HO → Bool
  | .lst _ => true
  | .ins _ _ _ => true
  | _ => false
theorem nomark (b : Expr) {op : CmpOp} (h : op ≠ .In := by decide) (h2 : op ≠ .NotIn := by decide) : behindInMarks op b = false := by
  have e1 : (op == CmpOp.In) = false := by cases op <;> first | rfl | exact absurd rfl h
  have e2 : (op == CmpOp.NotIn) = false := by cases op <;> first | rfl | exact absurd rfl h2
  cases b <;> simp [behindInMarks, e1, e2]
/-- a comparison as a value; hm: nomark b, or (for in, not in) by with_unfolding_all rfl -/
theorem pe_cmpR {op : CmpOp} {r : R2} (ho : OpR X (compareOp op) r) (ha : PE X a ta) (hb : PE X b tb) (hm : behindInMarks op b = false) : PE X (.Compare a [op] [b] pos) (tOp r ta tb) := by
  intro pins s σ H Q I h
  exact wpAny_Compare1 (binT ha hb I h fun v u s2 x y H2 I2 rx ry q => ho pins s2 σ H2 x y v u Q I2 rx ry q) hm
/-- a reading of a value as a test -/
def tTest (t : TE) : TT := fun σ H Q => t σ H fun x H' => ∃ k, x = .bl k ∧ Q k H'
theorem pt_cmpR {op : CmpOp} {r : R2} (ho : OpR X (compareOp op) r) (ha : PE X a ta) (hb : PE X b tb) (hm : behindInMarks op b = false) : PT X (.Compare a [op] [b] pos) (tTest (tOp r ta tb)) := by
  intro pins s σ H Q I h
  refine wpAny_isTrue_Compare1 (thn (ha pins s σ H _ I h) fun v s1 ⟨x, H1, I1, r1, q1⟩ => thn (hb pins s1 σ H1 _ I1 q1) fun u s2 ⟨y, H2, I2, r2, q2⟩ =>
    thn (ho pins s2 σ H2 x y v u _ I2 r1 r2 q2) fun c s3 ⟨z, H3, I3, r3, k, e, q3⟩ => ?_) hm
  subst e
  cases r3
  exact wpAny_truthy_bool ⟨H3, I3, q3⟩
/-- a op1 b op2 c -/
def tChain (r r' : R2) (ta tb tc : TE) : TE := fun σ H Q => ta σ H fun x H1 => tb σ H1 fun y H2 => r x y H2 fun z H3 => ∃ k, z = .bl k ∧
  (if k = true then tc σ H3 fun w' H4 => r' y w' H4 Q else Q (.bl false) H3)
/-! ### truth -/
/-- a value's truth by the abstract heap -/
def TruV (K : PySem.W.Frag) (x : V) (H : Hp) (k : Bool) : Prop :=
  match x with
  | .non => k = false
  | .bl b => k = b
  | .int i => k = (i != 0)
  | .str y => y.length ≤ sizeLine ∧ k = ((y.length : Int) != 0)
  | .byt y => y.size ≤ sizeLine ∧ k = ((y.size : Int) != 0)
  | .ref p => (∃ xs, SqL K H p xs ∧ k = !xs.isEmpty) ∨ (∃ xs, SqT K H p xs ∧ k = !xs.isEmpty) ∨ ∃ kvs, H p = some (.dK kvs) ∧ k = !kvs.isEmpty
  | _ => False
theorem line63 : (sizeLine : Nat) < 2 ^ 63 := by rw [sizeLine_eq]; decide
/-! ### strs and bytes -/
theorem op_add_str : OpR X (binaryOp .Add) (fun x y H Q => ∃ i j, x = .str i ∧ y = .str j ∧ i.length + j.length ≤ sizeLine ∧ Q (.str (i ++ j)) H) := by
  intro pins s σ H x y v u Q I rx ry h
  obtain ⟨i, j, rfl, rfl, hz, q⟩ := h
  obtain ⟨t, rfl⟩ := rx
  obtain ⟨t', rfl⟩ := ry
  exact add_str (fun t' tk => ⟨.str (i ++ j), H, I.tok _, ⟨_, rfl⟩, q⟩) hz
def PlainIxT (b : Expr) : Prop := ∀ o i, subscripted b false o i = operate [o, i] (getItem o i)
/-! ### scalar builtins, by CallR -/
theorem vals1 {x : V} {us : List Value} (r : Vals [x] us) : ∃ u, us = [u] ∧ RelV x u := by
  cases r with
  | cons r1 r2 => cases r2; exact ⟨_, rfl, r1⟩
theorem vals2 {x y : V} {us : List Value} (r : Vals [x, y] us) : ∃ u w', us = [u, w'] ∧ RelV x u ∧ RelV y w' := by
  cases r with
  | cons r1 r2 =>
    cases r2 with
    | cons r3 r4 => cases r4; exact ⟨_, _, rfl, r1, r3⟩
theorem call_abs : CallR X (.builtin "abs") (fun xs H Q => ∃ i, xs = [.int i] ∧ Q (.int (if i < 0 then -i else i)) H) := by
  intro pins s σ H xs us Q I r h
  obtain ⟨i, rfl, q⟩ := h
  obtain ⟨u, rfl, t, rfl⟩ := vals1 r
  exact call_abs_int fun u tk => ⟨.int (if i < 0 then -i else i), H, I.tok _, ⟨_, rfl⟩, q⟩
theorem call_max2 (hc : X.calm = true) : CallR X (.builtin "max") (fun xs H Q => ∃ i j, xs = [.int i, .int j] ∧ Q (.int (if j > i then j else i)) H) := by
  intro pins s σ H xs us Q I r h
  obtain ⟨i, j, rfl, q⟩ := h
  obtain ⟨u, w', rfl, ⟨t, rfl⟩, ⟨t', rfl⟩⟩ := vals2 r
  refine max_two_ints (I.ok.hd hc) fun h' tk k => ⟨_, H, I.kept k, ?_, q⟩
  by_cases hj : j > i
  · rw [if_pos hj, if_pos hj]; exact ⟨_, rfl⟩
  · rw [if_neg hj, if_neg hj]; exact ⟨_, rfl⟩
theorem call_min2 (hc : X.calm = true) : CallR X (.builtin "min") (fun xs H Q => ∃ i j, xs = [.int i, .int j] ∧ Q (.int (if j < i then j else i)) H) := by
  intro pins s σ H xs us Q I r h
  obtain ⟨i, j, rfl, q⟩ := h
  obtain ⟨u, w', rfl, ⟨t, rfl⟩, ⟨t', rfl⟩⟩ := vals2 r
  refine min_two_ints (I.ok.hd hc) fun h' tk k => ⟨_, H, I.kept k, ?_, q⟩
  by_cases hj : j < i
  · rw [if_pos hj, if_pos hj]; exact ⟨_, rfl⟩
  · rw [if_neg hj, if_neg hj]; exact ⟨_, rfl⟩
/-- len of a str, a bytes, a list, a tuple -/
def LenV (K : PySem.W.Frag) (x : V) (H : Hp) (n : Nat) : Prop :=
  match x with
  | .str y => y.length ≤ sizeLine ∧ n = y.length
  | .byt y => y.size ≤ sizeLine ∧ n = y.size
  | .ref p => (∃ xs, SqL K H p xs ∧ n = xs.length) ∨ ∃ xs, SqT K H p xs ∧ n = xs.length
  | _ => False
/-- divmod: a new tuple -/
theorem call_divmod : CallR X (.builtin "divmod") (fun xs H Q => ∃ i j, xs = [.int i, .int j] ∧ CDiv i j ∧ ∀ p, H p = none → Q (.ref p) (upd H p (.tup [.int (i / j), .int (i % j)]))) := by
  intro pins s σ H xs us Q I r h
  obtain ⟨i, j, rfl, ⟨h1, h2⟩, q⟩ := h
  obtain ⟨u, w', rfl, ⟨t, rfl⟩, ⟨t', rfl⟩⟩ := vals2 r
  refine divmod_int (by omega) ?_ (.inl (PyProof.noPylong_small (by omega)))
  rw [Int.fdiv_eq_ediv_of_nonneg i (by omega), Int.fmod_eq_emod_of_nonneg i (by omega)]
  have hn : H s.heap.objs.size = none := I.hok.fresh (Nat.le_refl _)
  refine ⟨.ref s.heap.objs.size, _, ?_, rfl, q _ hn⟩
  refine I.laid (fun b o e => Heap.get?_push_of_some _ e) (Nat.le_refl _) ⟨by simp only [List.length_cons, List.length_nil]; rw [sizeLine_eq]; decide, [.int (i / j) s.toks, .int (i % j) (s.toks + 1)], .cons ⟨_, rfl⟩ (.cons ⟨_, rfl⟩ .nil), ?_⟩
  exact ⟨_, Heap.get?_push_size s.heap rfl, rfl, 0, rfl⟩
end
end L2

namespace L2
open PySem PySem.Spec PyProof.Rows

/-! ### an instance, its attributes a map -/
structure ObjM (h : Heap) (x dx C : Addr) (mA : Str → Option Value) : Prop where
  obj : h.get? x = some (PySem.W.instObj C dx)
  ns : h.Ns1 dx mA
  ne : dx ≠ x

theorem lookIn_ns {h : Heap} {dx : Addr} {mA : Str → Option Value} (n : h.Ns1 dx mA) : ∃ od, h.get? dx = some od ∧ ∀ name, PySem.W.lookIn name od = some (mA name) := by
  obtain ⟨o, es, ep, ho, hd, hk, _, hm⟩ := n
  refine ⟨o, ho, fun name => ?_⟩
  have e := hm name
  unfold nsFind findBy at e
  rw [← Array.find?_toList] at e
  unfold PySem.W.lookIn
  rw [hd]
  dsimp only
  split
  · rename_i y q
    rw [q] at e
    exact congrArg some e
  · rename_i q
    rw [q] at e
    have a : es.toList.any (·.refKey) = false := by
      rw [List.any_eq_false]
      intro y hy
      obtain ⟨z, t, hkey⟩ := hk y (Array.mem_toList_iff.mp hy)
      simp [DictEntry.refKey, hkey]
    have a' : ¬ es.toList.any (·.refKey) = true := by rw [a]; exact Bool.false_ne_true
    rw [if_neg a']
    exact congrArg some e

theorem ObjM.look {h : Heap} {x dx C : Addr} {mA : Str → Option Value} (I : ObjM h x dx C mA) : ∃ od, PySem.W.InstAt h x (PySem.W.instObj C dx) C (some od) ∧ ∀ name, PySem.W.lookIn name od = some (mA name) :=
  let ⟨od, ho, hl⟩ := lookIn_ns I.ns
  ⟨od, ⟨I.obj, rfl, rfl, ho⟩, hl⟩

section
variable {prog : Program} {w : World} {A : Around} {E : Value → Shared → Prop} {s : Shared} {K : PySem.W.Frag} {x dx C f : Addr} {mA : Str → Option Value} {name : Str} {v : Value}

end

/-! ### the attributes as a list of pairs -/
def putF (f : Str) (v : V) : List (Str × V) → List (Str × V)
  | [] => [(f, v)]
  | (g, x) :: r => if g = f then (g, v) :: r else (g, x) :: putF f v r
section
variable {P : Program} {w : World} {H H' : Hp} {h h' : Heap} {a C dx : Addr} {fs fs' : List (Str × V)}
theorem ins_get (hok : HOk P w H h) (e : H a = some (.ins C dx fs)) : ∃ mA, ObjM h a dx C mA ∧ (∀ f, RelO (fs.lookup f) (mA f)) ∧ PySem.Within mA (fs.map (·.1)) ∧ fs.length ≤ 1000 ∧ H dx = some (.own a) := by
  obtain ⟨d, z, ne, ob, mA, n, r, q⟩ := (show ObjOk P w H h a (.ins C dx fs) from hok a _ e)
  exact ⟨mA, ⟨ob, n, ne⟩, r, q, z, d⟩
end

/-! ### what of the text a class must have -/
structure Cls (K : PySem.W.Frag) (C : Addr) : Prop where
  pg : PySem.W.plainGet K C Str.empty = true
  hd : PySem.W.hasDictIn K C = true
  po : PySem.W.plainOver K C = true
  sa : PySem.W.findIn K (.ref C) "__setattr__" = some (some (.builtin "object.__setattr__"))
theorem Cls.get {K : PySem.W.Frag} {C : Addr} (c : Cls K C) (f : Str) : PySem.W.plainGet K C f = true := c.pg
/-- no class of it has the name -/
def NoAttr (K : PySem.W.Frag) (C : Addr) (f : Str) : Prop := PySem.W.findIn K (.ref C) f = some none
/-- a constant of the class -/
structure Con (K : PySem.W.Frag) (C : Addr) (f : Str) (v : V) (u : Value) : Prop where
  at_ : PySem.W.findIn K (.ref C) f = some (some u)
  rel : RelV v u
  get : PySem.W.specialIn K u "__get__" = some none
  cp : PySem.W.copiedNames.contains f = false
/-- a method: a plain def of the class or of one above it -/
structure Meth (K : PySem.W.Frag) (C : Addr) (m : Str) (f : Addr) : Prop where
  at_ : PySem.W.findIn K (.ref C) m = some (some (.ref f))
  fn : PySem.W.isFn K (.ref f) = true
  kp : PySem.W.keepIn K (.ref f) = true

section
variable {X : Cx} {pins : List (Addr × Obj)} {σ : St} {H : Hp} {s : Shared} {a C dx : Addr} {fs : List (Str × V)} {f : Str} {v : V} {A : Around} {E : Value → Shared → Prop}

end

/-! ### readings and rules -/
/-- e.f, an attribute of the instance -/
def tFld (K : PySem.W.Frag) (ta : TE) (f : Str) : TE := fun σ H Q => ta σ H fun x H1 => ∃ a C dx fs v, x = .ref a ∧ H1 a = some (.ins C dx fs) ∧ Cls K C ∧ NoAttr K C f ∧ fs.lookup f = some v ∧ Q v H1
/-- e.f, a constant of the class -/
def tCon (K : PySem.W.Frag) (ta : TE) (f : Str) : TE := fun σ H Q => ta σ H fun x H1 => ∃ a C dx fs v u, x = .ref a ∧ H1 a = some (.ins C dx fs) ∧ Cls K C ∧ Con K C f v u ∧ fs.lookup f = none ∧ Q v H1
/-- e.f = value -/
def sFld (K : PySem.W.Frag) (ta tv : TE) (f : Str) : TS := fun D σ H => tv σ H fun y H1 => ta σ H1 fun x H2 => ∃ a C dx fs, x = .ref a ∧ H2 a = some (.ins C dx fs) ∧ Cls K C ∧ NoAttr K C f ∧ fs.length < 1000 ∧
  D.nx σ (upd H2 a (.ins C dx (putF f y fs)))
/-- an augmented operator on two values -/
def InOp (X : Cx) (op : Operator) (rd : V → V → Hp → VK → Prop) : Prop :=
  ∀ (pins : List (Addr × Obj)) (s : Shared) (σ : St) (H : Hp) (x y : V) (u v : Value) (Q : VK), Inv X pins σ H s → RelV x u → RelV y v → rd x y H Q → wpAny (model X.prog X.w) X.A (inplaceOp op u v) (EP X pins σ Q) X.xe s
/-- e.f op= value -/
def sFldAug (K : PySem.W.Frag) (ta tv : TE) (rd : V → V → Hp → VK → Prop) (f : Str) : TS := fun D σ H => ta σ H fun x H1 => ∃ a C dx fs v, x = .ref a ∧ H1 a = some (.ins C dx fs) ∧ Cls K C ∧ NoAttr K C f ∧ fs.lookup f = some v ∧
  tv σ H1 fun y H2 => rd v y H2 fun z H3 => ∃ dx' fs', H3 a = some (.ins C dx' fs') ∧ fs'.length < 1000 ∧ D.nx σ (upd H3 a (.ins C dx' (putF f z fs')))

section
variable {X : Cx} {o e value : Expr} {f : Str} {pos pos' tpos : Pos} {ta tv : TE}
def rAdd : V → V → Hp → VK → Prop := fun x y H Q => ∃ i j, x = .int i ∧ y = .int j ∧ Q (.int (i + j)) H
def rSub : V → V → Hp → VK → Prop := fun x y H Q => ∃ i j, x = .int i ∧ y = .int j ∧ Q (.int (i - j)) H
end

/-! ### isinstance -/
section
variable {X : Cx} {pins : List (Addr × Obj)} {σ : St} {H : Hp} {s : Shared} {A : Around} {E : Value → Shared → Prop} {Q : Value → Shared → Prop} {c : Value} {b : Bool}
/-- the type of a value, as the fragment's deciders take it; for an instance its class -/
inductive TyOf (K : PySem.W.Frag) (H : Hp) : V → Value → Prop where
  | non : TyOf K H .non (.type "NoneType")
  | bl (x : Bool) : TyOf K H (.bl x) (.type "bool")
  | int (i : Int) : TyOf K H (.int i) (.type "int")
  | str (x : Str) : TyOf K H (.str x) (.type "str")
  | flt (x : UInt64) : TyOf K H (.flt x) (.type "float")
  | lst {a : Addr} {xs : List V} (e : H a = some (.lst xs)) : TyOf K H (.ref a) (.type "list")
  | frz {a : Addr} {o : Obj} {xs : List V} (e : H a = some (.frz o (.lst xs))) : TyOf K H (.ref a) (.type "list")
  | tup {a : Addr} {xs : List V} (e : H a = some (.tup xs)) : TyOf K H (.ref a) (.type "tuple")
  | dK {a : Addr} {kvs : List (Key × V)} (e : H a = some (.dK kvs)) : TyOf K H (.ref a) (.type "dict")
  | dT {a : Addr} {kvs : List (List Key × V)} (e : H a = some (.dT kvs)) : TyOf K H (.ref a) (.type "dict")
  | ins {a C dx : Addr} {fs : List (Str × V)} (e : H a = some (.ins C dx fs)) (cl : Cls K C) (ha : PySem.W.findIn K (.ref C) "__class__" = some (some (.builtin "object.__class__")))
      (hn : PySem.W.specialIn K (.builtin "object.__class__") "__get__" = some (some (.builtin "getset_descriptor.__get__"))) (htk : PySem.W.takesIn K (.builtin "object.__class__") = some true)
      (hm : PySem.W.mroIn K C (.type "object") = some true) : TyOf K H (.ref a) (.ref C)
/-- isinstance(x, c) for one class c, a built-in or an own one: kitOne's answer -/
theorem isinst_ok {x : V} {u t : Value} (I : Inv X pins σ H s) (rx : RelV x u) (ty : TyOf X.K H x t) (e : PySem.W.kitOne X.K t c = some b) (h : ∀ tk, Q (.bool b) { s with toks := tk }) :
    wpAny (model X.prog X.w) A (call (.builtin "isinstance") [u, c]) Q E s := by
  cases ty with
  | non => cases (show u = Value.none from rx); exact PySem.W.kia_one PySem.W.kitx_none I.kIn True.intro e (fun z => nomatch z) h
  | bl y => cases (show u = Value.bool y from rx); exact PySem.W.kia_one PySem.W.kitx_bool I.kIn True.intro e (fun z => nomatch z) h
  | int i => obtain ⟨t, q⟩ := (show ∃ t, u = Value.int i t from rx); cases q; exact PySem.W.kia_one PySem.W.kitx_int I.kIn True.intro e (fun z => nomatch z) h
  | str y => obtain ⟨t, q⟩ := (show ∃ t, u = Value.str y t from rx); cases q; exact PySem.W.kia_one PySem.W.kitx_str I.kIn True.intro e (fun z => nomatch z) h
  | flt y => obtain ⟨t, q⟩ := (show ∃ t, u = Value.float y t from rx); cases q; exact PySem.W.kia_one PySem.W.kitx_float I.kIn True.intro e (fun z => nomatch z) h
  | @lst a xs ea =>
    cases (show u = Value.ref a from rx)
    obtain ⟨_, _, n, _, h1⟩ := (show ObjOk X.prog X.w H s.heap a (.lst xs) from I.hok a _ ea)
    exact PySem.W.kia_one PySem.W.kitx_list I.kIn ⟨_, h1, rfl⟩ e (fun z => nomatch z) h
  | @frz a ob xs ea =>
    cases (show u = Value.ref a from rx)
    obtain ⟨_, _, _, n, _, h1⟩ := (show ObjOk X.prog X.w H s.heap a (.frz ob (.lst xs)) from I.hok a _ ea)
    exact PySem.W.kia_one PySem.W.kitx_list I.kIn ⟨_, h1, rfl⟩ e (fun z => nomatch z) h
  | @tup a xs ea =>
    cases (show u = Value.ref a from rx)
    obtain ⟨_, _, _, p⟩ := (show ObjOk X.prog X.w H s.heap a (.tup xs) from I.hok a _ ea)
    obtain ⟨o, h1, h2, _⟩ := p
    exact PySem.W.kia_one PySem.W.kitx_tuple I.kIn ⟨o, h1, h2⟩ e (fun z => nomatch z) h
  | @dK a kvs ea =>
    cases (show u = Value.ref a from rx)
    obtain ⟨_, _, vs, _, p⟩ := (show ObjOk X.prog X.w H s.heap a (.dK kvs) from I.hok a _ ea)
    obtain ⟨o, es, ep, h1, h2, _⟩ := p
    exact PySem.W.kia_one PySem.W.kitx_dict I.kIn ⟨o, h1, h2.1⟩ e (fun z => nomatch z) h
  | @dT a kvs ea =>
    cases (show u = Value.ref a from rx)
    obtain ⟨_, _, xs, _, o, es, ep, h1, h2, _⟩ := (show ObjOk X.prog X.w H s.heap a (.dT kvs) from I.hok a _ ea)
    exact PySem.W.kia_one PySem.W.kitx_dict I.kIn ⟨o, h1, h2.1⟩ e (fun z => nomatch z) h
  | @ins a C dx fs ea cl ha hn htk hm =>
    cases (show u = Value.ref a from rx)
    obtain ⟨mA, O, _⟩ := ins_get I.hok ea
    obtain ⟨od, J, _⟩ := O.look
    exact PySem.W.kia_one (PySem.W.kitx_own (cl.get _) cl.hd ha hn htk hm) I.kIn J e (fun z => nomatch z) h
end
end L2

namespace L2
open PySem PySem.Spec PyProof.Rows

/-! ### room -/
structure Room (k : Nat) (A : Around) : Prop where
  hd : A.handled = none
  dp : A.depth + 3 * k + 5 < recursionLimit
  un : A.units + 16 * k + 200 < cLine
theorem Room.mono {j k : Nat} {A : Around} (r : Room k A) (h : j ≤ k) : Room j A := ⟨r.hd, by have := r.dp; omega, by have := r.un; omega⟩
theorem Room.deeper {k : Nat} {A : Around} (r : Room (k + 1) A) (env : Env) : Room k (A.deeper env) :=
  ⟨r.hd, by have := r.dp; show A.depth + 1 + 3 * k + 5 < _; omega, by have := r.un; show A.units + 3 + 16 * k + 200 < _; omega⟩
theorem Room.depth {k : Nat} {A : Around} (r : Room k A) : A.depth < recursionLimit := by have := r.dp; omega
theorem Room.units {k : Nat} {A : Around} (r : Room k A) : A.units + 64 < cLine := by have := r.un; omega
theorem Room.units0 {k : Nat} {A : Around} (r : Room k A) : A.units < cLine := by have := r.un; omega

/-! ### argument lists and displays -/
def tNil : TA := fun _ H Q => Q [] H
def tCons (ta : TE) (tr : TA) : TA := fun σ H Q => ta σ H fun x H1 => tr σ H1 fun xs H2 => Q (x :: xs) H2
section
variable {X : Cx} {e : Expr} {es : List Expr} {te : TE} {t : TA} {pos : Pos}
theorem pa_nil : PA X [] tNil := fun _ _ _ _ H Q I h => Calls.spliced_nil ⟨[], H, I, .nil, h⟩
theorem pa_cons (ha : PE X e te) (hr : PA X es t) (hs : starEach (e :: es) X.env = (false, eval e X.env) :: starEach es X.env := by rfl) : PA X (e :: es) (tCons te t) := by
  intro pos pins s σ H Q I h
  rw [hs]
  show wpAny _ _ (spliced ((false, eval e X.env) :: backTo pos (starEach es X.env))) _ _ s
  refine Calls.spliced_cons (thn (ha pins s σ H _ I h) fun u s1 ⟨x, H1, I1, r1, q1⟩ => ?_)
  exact thn (hr pos pins s1 σ H1 _ I1 q1) fun us s2 ⟨xs, H2, I2, r2, q2⟩ => ⟨x :: xs, H2, I2, .cons r1 r2, q2⟩

/-- a tuple, a list of written items -/
def tTup (t : TA) : TE := fun σ H Q => t σ H fun xs H1 => xs.length ≤ sizeLine ∧ ∀ p, H1 p = none → Q (.ref p) (upd H1 p (.tup xs))
def tLst (t : TA) : TE := fun σ H Q => t σ H fun xs H1 => xs.length ≤ sizeLine ∧ ∀ p, H1 p = none → Q (.ref p) (upd H1 p (.lst xs))
theorem pe_tup {x1} (h : PA X es t) : PE X (.Tuple es x1 pos) (tTup t) := by
  intro pins s σ H Q I hq
  refine wpAny_Tuple_spliced (thn (h pos pins s σ H _ I hq) fun us s1 ⟨xs, H1, I1, r, z, q⟩ => ⟨by rw [← r.length]; exact z, ?_⟩)
  have hf : H1 s1.heap.objs.size = none := I1.hok.fresh (Nat.le_refl _)
  refine ⟨.ref s1.heap.objs.size, upd H1 s1.heap.objs.size (.tup xs), I1.laid (t' := s1.toks) (fun b u e => Heap.get?_push_of_some _ e) (Nat.le_refl _) ?_, rfl, q _ hf⟩
  exact ⟨z, us, r, ⟨_, Heap.get?_push_size _ rfl, rfl, _, rfl⟩⟩
theorem pe_lst (h : PA X es t) : PE X (.List es pos) (tLst t) := by
  intro pins s σ H Q I hq
  refine wpAny_List_spliced (thn (h pos pins s σ H _ I hq) fun us s1 ⟨xs, H1, I1, r, z, q⟩ => ⟨by rw [← r.length]; exact z, ?_⟩)
  have hf : H1 s1.heap.objs.size = none := I1.hok.fresh (Nat.le_refl _)
  refine ⟨.ref s1.heap.objs.size, upd H1 s1.heap.objs.size (.lst xs), I1.laid (t' := s1.toks) (fun b u e => Heap.get?_push_of_some _ e) (Nat.le_refl _) ?_, rfl, q _ hf⟩
  exact ⟨z, us, 0, r, Heap.get?_push_size _ rfl⟩
end

/-! ### what a def promises -/
/-- a def's promise: the bound arguments in the parameters' order, the heap, the wanted end, the wanted exception -/
abbrev Sp := List V → Hp → VK → XK → Prop
/-- how an exception lies behind a call (file 08 gives it): the callers' frames, abstract heap and state ahead of the call, the wish, the exception, the state -/
abbrev CXT := List Env → Hp → Shared → XK → Value → Shared → Prop

/-- the state at a call -/
structure Env0 (P : Program) (w : World) (K : PySem.W.Frag) (mg : Str → Option Value) (base : Heap) (A : Around) (outer : List Env) (s : Shared) (H : Hp) : Prop where
  frames : A.frames = some outer
  mod : Mod K mg base
  bs : ∀ b o, base.get? b = some o → s.heap.get? b = some o ∧ H b = none
  bsz : base.objs.size ≤ s.heap.objs.size
  funs : s.heap.FunFrames base outer
  frf : ∀ b ∈ frs outer, H b = none
  hok : HOk P w H s.heap
  bare : AllBare s.gens
/-- a call's end -/
def CE (outer : List Env) (P : Program) (w : World) (H : Hp) (s : Shared) (Q : VK) (u : Value) (s' : Shared) : Prop :=
  ∃ v H', s'.os = s.os ∧ AllBare s'.gens ∧ Un (frs outer) [] H H' s.heap s'.heap ∧ HOk P w H' s'.heap ∧ RelV v u ∧ Q v H'
def CR (CX : CXT) (outer : List Env) (P : Program) (w : World) (H : Hp) (s : Shared) (Q : VK) (E : XK) (r : Result) (s' : Shared) : Prop :=
  match r with
  | .ok (.ret u) => CE outer P w H s Q u s'
  | .ok _ => False
  | .error e => CX outer H s E e s'
structure FnOk (P : Program) (w : World) (K : PySem.W.Frag) (mg : Str → Option Value) (base : Heap) (CX : CXT) (k : Nat) (f : Addr) (fd : FuncData) (ps : List Str) (sp : Sp) : Prop where
  len : ∀ vs H Q E, sp vs H Q E → vs.length = ps.length
  run : ∀ (A : Around) (outer : List Env) (s : Shared) (H : Hp) (args : Args) (us : List Value) (vs : List V) (Q : VK) (E : XK), Room k A → Env0 P w K mg base A outer s H → BindsTo s fd args (ps.zip us) → Vals vs us → sp vs H Q E →
    codeAny (model P w) A (.call (.ref f) args) (CR CX outer P w H s Q E) s
theorem FnOk.mono {P : Program} {w : World} {K : PySem.W.Frag} {mg : Str → Option Value} {base : Heap} {CX : CXT} {j k : Nat} {f : Addr} {fd : FuncData} {ps : List Str} {sp : Sp} (F : FnOk P w K mg base CX j f fd ps sp) (h : j ≤ k) :
    FnOk P w K mg base CX k f fd ps sp := ⟨F.len, fun A outer s H args us vs Q E hr => F.run A outer s H args us vs Q E (hr.mono h)⟩
section
variable {X : Cx} {pins : List (Addr × Obj)} {σ : St} {H : Hp} {s s' : Shared}
/-- from a body: what a callee wants -/
theorem Inv.env0 (I : Inv X pins σ H s) : Env0 X.prog X.w X.K X.mg X.base X.A X.stack s H :=
  ⟨I.ok.frames, I.ok.mod, I.bs, Nat.le_trans I.ok.bsz I.sz, I.stack, I.stkFree, I.hok, I.bare⟩
/-- behind a call -/
theorem Inv.after {Q : VK} {u : Value} (I : Inv X pins σ H s) (h : CE X.stack X.prog X.w H s Q u s') : EP X pins σ Q u s' := by
  obtain ⟨v, H', os, bare, un, hok, r, q⟩ := h
  obtain ⟨hh, g, d, t, os'⟩ := s'
  obtain rfl : os' = s.os := os
  exact ⟨v, H', I.call (h' := hh) (g' := g) (d' := d) (t' := t) (ch := []) un hok bare (fun b z => absurd z (by simp)), r, q⟩
end

/-! ### calls -/
/-- f(..): the written arguments, then the defaults dvs; E: what is wanted of an exception -/
def tCall (sp : Sp) (dvs : List V) (E : XK) (t : TA) : TE := fun σ H Q => t σ H fun vs H1 => sp (vs ++ dvs) H1 Q E
/-- o.m(..) of an instance of the class at C -/
def tMeth (C : Addr) (m : Str) (sp : Sp) (dvs : List V) (E : XK) (ta : TE) (t : TA) : TE := fun σ H Q => ta σ H fun x H1 => ∃ a dx fs, x = .ref a ∧ H1 a = some (.ins C dx fs) ∧ fs.lookup m = none ∧
  t σ H1 fun vs H2 => sp (x :: (vs ++ dvs)) H2 Q E
/-- C(..): a new instance and its dict, then __init__ -/
def tMake (C : Addr) (sp : Sp) (dvs : List V) (E : XK) (t : TA) : TE := fun σ H Q => t σ H fun vs H1 => ∀ x dx, H1 x = none → H1 dx = none → dx ≠ x →
  sp (.ref x :: (vs ++ dvs)) (upd (upd H1 dx (.own x)) x (.ins C dx [])) (fun v H2 => v = .non ∧ Q (.ref x) H2) E

/-- how the parameters are bound: us the positional arguments, kw the keywords' values by name, ds the defaults that fill up -/
def Binds (K : PySem.W.Frag) (fd : FuncData) (ps : List Str) (ds : List Value) : Prop :=
  ∀ (s : Shared) (us : List Value), K.In s.heap → (us ++ ds).length = ps.length → BindsTo s fd ⟨us, []⟩ (ps.zip (us ++ ds))
/-- every parameter is given -/
theorem Binds.all {K : PySem.W.Frag} {fd : FuncData} {ps : List Str} (h : ∀ us : List Value, us.length = ps.length → bindArgs fd ⟨us, []⟩ = pure (ps.zip us)) : Binds K fd ps [] := fun s us _ hl => by
  rw [List.append_nil] at hl ⊢
  exact .of_eq (h us hl)

/-- an exception of a callee reaches what this body wants of exceptions -/
def Passes (CX : CXT) (X : Cx) (E : XK) : Prop := ∀ (pins : List (Addr × Obj)) (σ : St) (H : Hp) (s : Shared) (e : Value) (s' : Shared), Inv X pins σ H s → CX X.stack H s E e s' → X.xe e s'

section
variable {X : Cx} {CX : CXT} {k : Nat} {f C : Addr} {fd : FuncData} {ps : List Str} {sp : Sp} {dvs : List V} {ds : List Value} {E : XK} {x m : Str} {p pos apos : Pos} {e o : Expr} {es : List Expr} {ta : TE} {t : TA}

/-- the callee runs -/
theorem run_fn {pins : List (Addr × Obj)} {σ : St} {H : Hp} {s : Shared} {Q : VK} {us : List Value} {vs : List V} (F : FnOk X.prog X.w X.K X.mg X.base CX k f fd ps sp) (hr : Room k X.A) (hb : Binds X.K fd ps ds) (hd : Vals dvs ds) (hx : Passes CX X E)
    (I : Inv X pins σ H s) (r : Vals vs us) (h : sp (vs ++ dvs) H Q E) : wpAny (model X.prog X.w) X.A (call (.ref f) us) (EP X pins σ Q) X.xe s := by
  have r2 : Vals (vs ++ dvs) (us ++ ds) := r.append hd
  have hl : (us ++ ds).length = ps.length := by rw [← r2.length]; exact F.len _ _ _ _ h
  refine wpAny_call (codeAny_mono (F.run X.A X.stack s H ⟨us, []⟩ (us ++ ds) (vs ++ dvs) Q E hr I.env0 (hb s us I.kIn hl) r2 h) fun r s' hq => ?_)
  cases r with
  | error e => exact hx pins σ H s e s' I hq
  | ok fl =>
    cases fl with
    | ret u => exact I.after hq
    | next => exact False.elim hq
    | brk => exact False.elim hq
    | cont => exact False.elim hq

theorem pe_call (F : FnOk X.prog X.w X.K X.mg X.base CX k f fd ps sp) (hr : Room k X.A) (hg : Gl X x) (hm : X.mg x = some (.ref f)) (hk : PySem.W.keepIn X.K (.ref f) = true) (hb : Binds X.K fd ps ds) (hd : Vals dvs ds) (hx : Passes CX X E)
    (ha : PA X (e :: es) t) (hdb : (x == ("__debug__" : Str)) = false := by decide) (he : starEach (e :: es) X.env = (false, eval e X.env) :: starEach es X.env := by rfl) (hpl : (backTo pos (starEach es X.env)).any (·.1) = false := by rfl) :
    PE X (.Call (.Name x p) (e :: es) [] pos) (tCall sp dvs E t) := by
  intro pins s σ H Q I h
  refine wpAny_Call_Name_kw (ld_glob I hg hm ?_ hdb)
  refine PySem.W.callWith_K (h₀ := X.base) I.ok.mod.kin hk (thn (ha pos pins s σ H _ I h) fun us s1 ⟨vs, H1, I1, r, q⟩ => ⟨I1.kIn, ?_⟩) he hpl
  exact run_fn F hr hb hd hx I1 r q
/-- what a class must have to be made -/
structure Mk (K : PySem.W.Frag) (C f : Addr) : Prop where
  makes : PySem.W.makesIn K C = true
  init : PySem.W.findIn K (.ref C) "__init__" = some (some (.ref f))
  fn : PySem.W.isFn K (.ref f) = true
  kp : PySem.W.keepIn K (.ref C) = true

end

/-! ### keywords -/
/-- the values of the keywords, from the left -/
def PK (X : Cx) (kws : List Keyword) (t : TA) : Prop :=
  ∀ (pos : Pos) (pins : List (Addr × Obj)) (s : Shared) (σ : St) (H : Hp) (Q : List V → Hp → Prop), Inv X pins σ H s → t σ H Q → wpAny (model X.prog X.w) X.A (evalAll ((backToKw pos (keywordEach kws X.env)).map (·.2))) (AP X pins σ Q) X.xe s
section
variable {X : Cx} {CX : CXT} {k : Nat} {f C : Addr} {fd : FuncData} {ps ks : List Str} {sp : Sp} {E : XK} {x m : Str} {p pos apos kpos : Pos} {e o : Expr} {es : List Expr} {kws : List Keyword} {te ta : TE} {t tk : TA} {nm : Option Str}
/-- how a call with keywords binds: g puts the positional values us and the keywords' values ws (names ks) in the parameters' order, defaults among them -/
structure KBinds (K : PySem.W.Frag) (fd : FuncData) (ps ks : List Str) (g : List Value → List Value → List Value) (gV : List V → List V → List V) : Prop where
  to : ∀ (s : Shared) (us ws : List Value), K.In s.heap → (g us ws).length = ps.length → BindsTo s fd ⟨us, ks.zip ws⟩ (ps.zip (g us ws))
  rel : ∀ {vs : List V} {us : List Value} {zs : List V} {ws : List Value}, Vals vs us → Vals zs ws → Vals (gV vs zs) (g us ws)
def tCallK (sp : Sp) (gV : List V → List V → List V) (E : XK) (t tk : TA) : TE := fun σ H Q => t σ H fun vs H1 => tk σ H1 fun zs H2 => sp (gV vs zs) H2 Q E
variable {g : List Value → List Value → List Value} {gV : List V → List V → List V}
end

/-! ### a def's body keeps its promise -/
/-- names: the parameters first -/
structure FnScope (N P : List Str) (sc : Scope) : Prop where
  kind : sc.kind = .function
  co : sc.isCoroutine = false
  gen : sc.isGenerator = false
  nd : N.Nodup
  pre : N.take P.length = P
  par : ∀ x ∈ P, sc.names.lookup x = some .local ∨ sc.names.lookup x = some .cell
  nofree : ∀ y ∈ sc.names, y.2 ≠ .free

theorem bindL_out {kindOf : Str → Option NameKind} {x : Str} : ∀ {binds : List (Str × Value)} {m : Str → Option Value}, (∀ v, (x, v) ∉ binds) → bindL kindOf binds m x = m x
  | [], _, _ => rfl
  | (n, v) :: r, m, h => by
    unfold bindL
    rw [bindL_out fun w hw => h w (List.mem_cons_of_mem _ hw)]
    split
    · have : x ≠ n := by rintro rfl; exact h v List.mem_cons_self
      simp [this]
    · rfl
theorem bindC_out {kindOf : Str → Option NameKind} {x : Str} : ∀ {binds : List (Str × Value)} {m : Str → Option Value}, (∀ v, (x, v) ∉ binds) → bindC kindOf binds m x = m x
  | [], _, _ => rfl
  | (n, v) :: r, m, h => by
    unfold bindC
    rw [bindC_out fun w hw => h w (List.mem_cons_of_mem _ hw)]
    split
    · rfl
    · have : x ≠ n := by rintro rfl; exact h v List.mem_cons_self
      simp [this]
theorem bindL_get {kindOf : Str → Option NameKind} {x : Str} {v : Value} : ∀ {P : List Str} {vs : List Value} {i : Nat} {m : Str → Option Value}, P.Nodup → P[i]? = some x → vs[i]? = some v → kindOf x = some .local →
    bindL kindOf (P.zip vs) m x = some v
  | [], _, _, _, _, h, _, _ => by simp at h
  | _ :: _, [], _, _, _, _, h, _ => by simp at h
  | p :: P, w :: vs, 0, m, nd, h1, h2, hk => by
    simp at h1 h2; subst h1; subst h2
    show bindL kindOf ((p, w) :: P.zip vs) m p = _
    unfold bindL
    rw [bindL_out fun v hv => (List.nodup_cons.mp nd).1 (List.of_mem_zip hv).1, if_pos hk]
    simp
  | p :: P, w :: vs, i + 1, m, nd, h1, h2, hk => by
    show bindL kindOf ((p, w) :: P.zip vs) m x = _
    unfold bindL
    exact bindL_get (i := i) (List.nodup_cons.mp nd).2 (by simpa using h1) (by simpa using h2) hk
theorem bindC_get {kindOf : Str → Option NameKind} {x : Str} {v : Value} : ∀ {P : List Str} {vs : List Value} {i : Nat} {m : Str → Option Value}, P.Nodup → P[i]? = some x → vs[i]? = some v → kindOf x ≠ some .local →
    bindC kindOf (P.zip vs) m x = some v
  | [], _, _, _, _, h, _, _ => by simp at h
  | _ :: _, [], _, _, _, _, h, _ => by simp at h
  | p :: P, w :: vs, 0, m, nd, h1, h2, hk => by
    simp at h1 h2; subst h1; subst h2
    show bindC kindOf ((p, w) :: P.zip vs) m p = _
    unfold bindC
    rw [bindC_out fun v hv => (List.nodup_cons.mp nd).1 (List.of_mem_zip hv).1, if_neg hk]
    simp
  | p :: P, w :: vs, i + 1, m, nd, h1, h2, hk => by
    show bindC kindOf ((p, w) :: P.zip vs) m x = _
    unfold bindC
    exact bindC_get (i := i) (List.nodup_cons.mp nd).2 (by simpa using h1) (by simpa using h2) hk

/-- the names' values at the entry -/
def start (N : List Str) (vs : List V) : St := vs.map some ++ List.replicate (N.length - vs.length) none

/-- the context of a def's body, at its entry; an exception leaves the frame, then lies as CX says -/
def cxOf (CX : CXT) (P : Program) (w : World) (K : PySem.W.Frag) (mg : Str → Option Value) (base : Heap) (N : List Str) (qual : Str) (scope : Scope) (f : Addr) (cd : Value) (A : Around) (outer : List Env) (s : Shared) (H : Hp) (E : XK) : Cx where
  prog := P
  w := w
  K := K
  mg := mg
  base := base
  A := A.deeper (envOfC qual scope s.heap.objs.size f cd)
  N := N
  s₀ := s
  H₀ := H
  env := envOfC qual scope s.heap.objs.size f cd
  outer := outer
  stack := envOfC qual scope s.heap.objs.size f cd :: outer
  ex := []
  calm := true
  fn := fun _ => true
  pn := []
  xe := fun e s' => wpAny (model P w) (A.deeper (envOfC qual scope s.heap.objs.size f cd)) (leaving (envOfC qual scope s.heap.objs.size f cd) e) (fun _ s'' => CX outer H s E e s'') (fun e' s'' => CX outer H s E e' s'') s'

theorem cell_has {sc : Scope} {n : Nat} {x : Str} (h : sc.names.lookup x = some .cell) : ∃ c, (cellsFrom n sc.names []).lookup x = some c := by
  have q := PySem.W.cellsFrom_some sc.names n [] (.inl h)
  exact Option.isSome_iff_exists.mp q

theorem inv_start {CX : CXT} {P : Program} {w : World} {K : PySem.W.Frag} {mg : Str → Option Value} {base : Heap} {N ps : List Str} {qual : Str} {scope : Scope} {f : Addr} {cd : Value} {A : Around} {outer : List Env} {s s1 : Shared} {H : Hp} {E : XK} {us : List Value} {vs : List V}
    (S : FnScope N ps scope) (hd : A.handled = none) (e0 : Env0 P w K mg base A outer s H) (hl : vs.length = ps.length) (r : Vals vs us)
    (x : InCallC s s.heap.objs.size (bindL (envOfC qual scope s.heap.objs.size f cd).kindOf (ps.zip us) fun _ => none) (cellsFrom (s.heap.objs.size + 1) scope.names []) (bindC (envOfC qual scope s.heap.objs.size f cd).kindOf (ps.zip us) fun _ => none) s1) :
    Inv (cxOf CX P w K mg base N qual scope f cd A outer s H E) [] (start N vs) H s1 := by
  have hpl : ps.length ≤ N.length := by have := congrArg List.length S.pre; rw [List.length_take] at this; omega
  obtain ⟨h1, tk, rfl, hk⟩ := x.done
  have noA : ∀ b : Addr, b ∉ (cxOf CX P w K mg base N qual scope f cd A outer s H E).ex := fun b z => absurd (show b ∈ ([] : List Addr) from z) (by simp)
  refine ⟨⟨e0.mod, S.kind, rfl, rfl, Nat.le_refl _, fun y z c h1 h2 => ?_, fun y hy => ?_, fun y c _ h => ?_, fun _ => hd, Around.frames_deeper e0.frames, .inr ⟨rfl, rfl⟩, fun b z => absurd z (noA b), e0.bs, e0.bsz, fun b _ _ => noA b, fun b z => absurd z (noA b), e0.funs, e0.frf⟩,
    rfl, e0.bare, Un.kept hk, ⟨_, x.toInCall.ns, fun i y v h1 h2 h3 => ?_⟩, fun y c h => ⟨_, x.cell y c h⟩, e0.hok.fresh (Nat.le_refl _), fun y c h => ?_, fun p hp => absurd (show p ∈ ([] : List (Addr × Obj)) from hp) (by simp), e0.hok.kept hk, ?_⟩
  · exact name_of_addr x.apart (PySem.mem_of_lookup h1) (PySem.mem_of_lookup h2)
  · have hy : scope.names.lookup y = some .cell ∨ scope.names.lookup y = some .free := hy
    rcases hy with hy | hy
    · exact cell_has hy
    · exact absurd rfl (S.nofree _ (PySem.mem_of_lookup hy))
  · exact Nat.le_of_lt (x.above y c (PySem.mem_of_lookup h))
  · have hi : i < vs.length := by
      unfold start at h2
      by_cases hi : i < vs.length
      · exact hi
      · rw [List.getElem?_append_right (by simpa using hi)] at h2
        rw [List.getElem?_replicate] at h2
        split at h2 <;> cases h2
    have ha : vs[i]? = some v := by
      unfold start at h2
      rw [List.getElem?_append_left (by simpa using hi), List.getElem?_map] at h2
      cases e : vs[i]? with
      | none => rw [e] at h2; cases h2
      | some a => rw [e] at h2; cases h2; rfl
    obtain ⟨u, hu, rv⟩ := r.get ha
    have hp : ps[i]? = some y := by
      rw [← S.pre, List.getElem?_take_of_lt (by omega)]; exact h1
    have ndP : ps.Nodup := by rw [← S.pre]; exact S.nd.sublist (List.take_sublist _ _)
    refine ⟨u, rv, ?_⟩
    rcases S.par y (List.mem_of_getElem? hp) with k | k
    · exact .inl ⟨k, bindL_get ndP hp hu k⟩
    · obtain ⟨c, e⟩ := cell_has (n := s.heap.objs.size + 1) k
      refine .inr ⟨.inl k, c, e, ?_⟩
      have q := x.cell y c e
      rw [bindC_get ndP hp hu (by show scope.names.lookup y ≠ _; rw [k]; decide)] at q
      exact q
  · exact e0.hok.fresh (Nat.le_of_lt (x.above y c (PySem.mem_of_lookup h)))
  · unfold start
    show _ = N.length
    rw [List.length_append, List.length_map, List.length_replicate]
    omega

/-- THE RULE: a def (or a method) of the text, by its body. The body's reading t is chosen for each entry; it is run at the parameters' values -/
theorem fn_of {CX : CXT} {P : Program} {w : World} {K : PySem.W.Frag} {mg : Str → Option Value} {base : Heap} {k : Nat} {f : Addr} {name qual : Str} {params : Arguments} {body : List Stmt} {scope : Scope} {dV kV doc pm cdv ct oc : Value} {an od : Option Addr}
    {osl : Array (Option Value)} {N ps : List Str} {sp : Sp} (lk : K.lookup f = some ⟨oc, od, .func (PySem.W.fnOf name qual params body scope dV kV doc pm an cdv ct), osl⟩) (hcd : PySem.W.codeIn K cdv qual = true) (S : FnScope N ps scope)
    (len : ∀ vs H Q E, sp vs H Q E → vs.length = ps.length)
    (hbody : ∀ (A : Around) (outer : List Env) (s : Shared) (H : Hp) (vs : List V) (Q : VK) (E : XK), Room k (A.deeper (envOfC qual scope s.heap.objs.size f cdv)) → sp vs H Q E →
      ∃ t, PSs (cxOf CX P w K mg base N qual scope f cdv A outer s H E) body t ∧ t { nx := fun _ H' => Q .non H', rt := Q } (start N vs) H) :
    FnOk P w K mg base CX (k + 1) f (PySem.W.fnOf name qual params body scope dV kV doc pm an cdv ct) ps sp := by
  refine ⟨len, fun A outer s H args us vs Q E hr e0 hb r hsp => ?_⟩
  have hl := len _ _ _ _ hsp
  have KX : K.In s.heap := e0.mod.kin.keeps fun b o e => (e0.bs b o e).1
  have lim : s.heap.NoLimit := e0.mod.nolimit.keeps fun b o e => (e0.bs b o e).1
  have hkind : ∀ y ∈ ps.zip us, scope.names.lookup y.1 = some .local ∨ (scope.names.lookup y.1 = some .cell ∧ ((cellsFrom (s.heap.objs.size + 1) scope.names []).lookup y.1).isSome = true) := fun ⟨n, v⟩ hy => by
    rcases S.par n (List.of_mem_zip hy).1 with q | q
    · exact .inl q
    · exact .inr ⟨q, PySem.W.cellsFrom_some _ _ _ (.inl q)⟩
  refine codeAny_call_function hr.depth (KX _ _ lk) rfl S.co S.gen rfl (PySem.W.codeRec_of KX hcd) (hb _ _ _ _ ?_)
  refine wpAny_newFunctionEnv_cells S.kind hkind fun env he s1 x => ?_
  subst he
  refine ⟨lim.keeps x.toInCall.keep, codeAny_func ?_⟩
  obtain ⟨t, ht, hq⟩ := hbody A outer s H vs Q E (hr.deeper _) hsp
  have I : Inv (cxOf CX P w K mg base N qual scope f cdv A outer s H E) [] (start N vs) H s1 := inv_start S hr.hd e0 hl r x
  refine wpAny_mono (ht [] s1 (start N vs) H _ I hq) (fun fl s' hs => ?_) fun e s' hs => hs
  have fin : ∀ {σ' : St} {H' : Hp} {v : V} {u : Value}, Inv (cxOf CX P w K mg base N qual scope f cdv A outer s H E) [] σ' H' s' → RelV v u → Q v H' → CE outer P w H s Q u s' :=
    fun {σ' H' v u} J rv q => ⟨v, H', J.os, J.bare, J.base, J.hok, rv, q⟩
  cases fl with
  | ret u =>
    obtain ⟨v, σ', H', J, rv, q⟩ := hs
    exact fin J rv q
  | next =>
    obtain ⟨σ', H', J, q⟩ := hs
    exact fin (v := V.non) (u := Value.none) J rfl q
  | brk =>
    obtain ⟨_, _, _, q⟩ := hs
    exact False.elim q
  | cont =>
    obtain ⟨_, _, _, q⟩ := hs
    exact False.elim q
end L2

namespace L2
open PySem PySem.Spec PyProof.Rows
section
variable {X : Cx} {x : Str} {p pos : Pos} {e : Expr} {es : List Expr} {t : TA} {id T : String} {r : List V → Hp → VK → Prop}

def tCB (r : List V → Hp → VK → Prop) (t : TA) : TE := fun σ H Q => t σ H fun vs H1 => r vs H1 Q
/-- f(e, ..), f a built-in function -/
theorem pe_callB (hc : CallR X (.builtin id) r) (hg : Gl X x) (hm : X.mg x = none) (hv : bootBuiltins x = some (.builtin id)) (ha : PA X (e :: es) t) (hn : x ≠ "__name__" := by decide) (hdb : (x == ("__debug__" : Str)) = false := by decide)
    (he : starEach (e :: es) X.env = (false, eval e X.env) :: starEach es X.env := by rfl) (hpl : (backTo pos (starEach es X.env)).any (·.1) = false := by rfl) : PE X (.Call (.Name x p) (e :: es) [] pos) (tCB r t) := by
  intro pins s σ H Q I h
  refine wpAny_Call_Name_kw (ld_blt I hg hm hv ?_ hn hdb)
  exact PyProof.Rows.callWith_builtin1 (thn (ha pos pins s σ H _ I h) fun us s1 ⟨vs, H1, I1, r1, q1⟩ => hc pins s1 σ H1 vs us Q I1 r1 q1) he hpl
/-- T(e, ..), T a built-in type -/
theorem pe_callTy (hc : CallR X (.type T) r) (hg : Gl X x) (hm : X.mg x = none) (hv : bootBuiltins x = some (.type T)) (ha : PA X (e :: es) t) (hn : x ≠ "__name__" := by decide) (hdb : (x == ("__debug__" : Str)) = false := by decide)
    (he : starEach (e :: es) X.env = (false, eval e X.env) :: starEach es X.env := by rfl) (hpl : (backTo pos (starEach es X.env)).any (·.1) = false := by rfl) : PE X (.Call (.Name x p) (e :: es) [] pos) (tCB r t) := by
  intro pins s σ H Q I h
  refine wpAny_Call_Name_kw (ld_blt I hg hm hv ?_ hn hdb)
  exact PyProof.Rows.callWith_type1 (thn (ha pos pins s σ H _ I h) fun us s1 ⟨vs, H1, I1, r1, q1⟩ => hc pins s1 σ H1 vs us Q I1 r1 q1) he hpl
end
end L2

namespace HT
open PySem PyProof.Rows

/-- t < u of tuples of ints -/
def lexLt : List Int → List Int → Bool
  | [], [] => false
  | [], _ :: _ => true
  | _ :: _, [] => false
  | x :: xs, y :: ys => if x = y then lexLt xs ys else decide (x < y)
section
open PySem.SeqAt
open PySem.AutoSeq1 (wpAny_loadPart')
open PySem.MeetsSeq PySem.MeetsSeq2 PySem.MeetsSeq3

end

section
variable {prog : Program} {w : World} {A : Around} {E : Value → Shared → Prop} {s : Shared}

/-- t + u, t not empty -/
theorem cat_tup {t b : Addr} {vs ws : List Value} {Q : Value → Shared → Prop} (ht : IsTup s.heap t vs.toArray) (hb : IsTup s.heap b ws.toArray) (hv : vs ≠ [])
    (h1 : ws = [] → Q (.ref t) s) (h2 : ws ≠ [] → Q (.ref s.heap.objs.size) { s with heap := s.heap.push { cls := .type "tuple", data := .seq (vs ++ ws).toArray } })
    (hsz : vs.length + ws.length ≤ sizeLine) : wpAny (model prog w) A (binaryOp .Add (.ref t) (.ref b)) Q E s := by
  obtain ⟨⟨cls, dd, data, sl⟩, ho, hc, n, hd⟩ := id ht
  obtain ⟨⟨cls2, dd2, data2, sl2⟩, ho2, hc2, n2, hd2⟩ := id hb
  simp only at hc hd hc2 hd2
  subst hc hd hc2 hd2
  have e : vs.toArray ++ ws.toArray = (vs ++ ws).toArray := by simp
  by_cases hw : ws = []
  · exact concat_meets ⟨_, ho, rfl⟩ ⟨_, ho2, rfl⟩ noFill_tuple_add seq_tuple_add PySem.F.slot_tuple_add PySem.F.entry_tuple_add (PySem.F.args_tuple_add_2 _ _)
      (tuple_addW1 t b vs.toArray ws.toArray n n2 dd dd2 sl sl2 (by simpa using hv) (by simp [hw])) ⟨ho, ho2, h1 hw⟩
  · refine concat_meets ⟨_, ho, rfl⟩ ⟨_, ho2, rfl⟩ noFill_tuple_add seq_tuple_add PySem.F.slot_tuple_add PySem.F.entry_tuple_add (PySem.F.args_tuple_add_2 _ _)
      (tuple_addW2 t b vs.toArray ws.toArray n n2 dd dd2 sl sl2 (by simpa using hv) (by simpa using hw) (by rw [List.size_toArray, List.size_toArray]; exact hsz)) ⟨ho, ho2, ?_⟩
    rw [e]
    exact h2 hw

/-! ### t[a:b], not the whole -/
/-- a slice's bound as a place among n (d where it is left out) -/
def sIx (n d : Nat) : Option Int → Nat
  | none => d
  | some v => if v < 0 then (v + (n : Int)).toNat else min v.toNat n
theorem sIx_none (n d : Nat) : sIx n d none = d := rfl
theorem sIx_nat (n d k : Nat) : sIx n d (some (k : Int)) = min k n := by
  show (if (k : Int) < 0 then ((k : Int) + (n : Int)).toNat else min (k : Int).toNat n) = min k n
  rw [if_neg (by omega), Int.toNat_natCast]
theorem sIx_le (n d : Nat) (hd : d ≤ n) (o : Option Int) : sIx n d o ≤ n := by
  cases o with
  | none => exact hd
  | some v =>
    show (if v < 0 then (v + (n : Int)).toNat else min v.toNat n) ≤ n
    by_cases hv : v < 0
    · rw [if_pos hv]; omega
    · rw [if_neg hv]; exact Nat.min_le_right _ _
theorem clip_eq (v : Int) (n d : Nat) : (if v < 0 then max (v + (n : Int)) 0 else min v (n : Int)) = ((sIx n d (some v) : Nat) : Int) := by
  show (if v < 0 then max (v + (n : Int)) 0 else min v (n : Int)) = (((if v < 0 then (v + (n : Int)).toNat else min v.toNat n) : Nat) : Int)
  by_cases hv : v < 0
  · simp only [if_pos hv]; omega
  · simp only [if_neg hv]; omega
theorem adjust_gen (lo hi : Option Int) (n : Nat) : Builtin.Slice.sliceAdjust lo hi 1 (n : Int) = (((sIx n 0 lo : Nat) : Int), ((sIx n n hi : Nat) : Int)) := by
  have h1 : ¬ ((1 : Int) < 0) := by omega
  unfold Builtin.Slice.sliceAdjust
  simp only [h1, if_false]
  refine Prod.ext ?_ ?_
  · cases lo with
    | none => rfl
    | some v => exact clip_eq v n 0
  · cases hi with
    | none => rfl
    | some v => exact clip_eq v n n
theorem places_gen (i j : Nat) : Builtin.Slice.slicePlaces (i : Int) (j : Int) 1 = j - i := by
  unfold Builtin.Slice.slicePlaces
  have h1 : (1 : Int) > 0 := by omega
  simp only [h1, if_true, Int.ediv_one]
  split <;> omega
theorem slicePart_ {v : Value} {o : Option Int} {Q : Option Int → Shared → Prop} (p : IsPart v o) (h : Q o s) : wpAny (model prog w) A (Builtin.Slice.slicePartIndex v) Q E s := by
  cases p with
  | none => exact slicePart_none h
  | int i t => exact slicePart_int h
theorem sliceApplied_gen {sl : Addr} {vl vu : Value} {lo hi : Option Int} {n : Nat} {Q : Int × Int × Nat → Shared → Prop} (hs : s.heap.IsSliceOf sl vl vu .none) (pl : IsPart vl lo) (pu : IsPart vu hi)
    (h : Q (((sIx n 0 lo : Nat) : Int), 1, sIx n n hi - sIx n 0 lo) s) : wpAny (model prog w) A (Builtin.Slice.sliceApplied (.ref sl) (pure (n : Int))) Q E s := by
  obtain ⟨os, hos, hcs, hds⟩ := id hs
  unfold Builtin.Slice.sliceApplied Builtin.Slice.sliceFields
  refine wpAny_bind (wpAny_bind (wpAny_field hos hds (x := vl) rfl (wpAny_bind (wpAny_field hos hds (x := vu) rfl (wpAny_bind (wpAny_field hos hds (x := .none) rfl (wpAny_pure ?_)))))))
  refine wpAny_bind (slicePart_none ?_)
  show wpAny _ _ (if ((1 : Int) == 0) = true then _ else _) _ _ s
  rw [if_neg (by decide)]
  refine wpAny_bind (slicePart_ pl (wpAny_bind (slicePart_ pu (wpAny_bind (wpAny_pure ?_)))))
  show wpAny _ _ (match Builtin.Slice.sliceAdjust lo hi 1 (n : Int) with | (lo, hi) => pure (lo, (1 : Int), Builtin.Slice.slicePlaces lo hi 1)) _ _ s
  rw [adjust_gen lo hi n]
  show wpAny _ _ (pure (((sIx n 0 lo : Nat) : Int), (1 : Int), Builtin.Slice.slicePlaces ((sIx n 0 lo : Nat) : Int) ((sIx n n hi : Nat) : Int) 1)) _ _ s
  rw [places_gen]
  exact wpAny_pure h
theorem pick_gen (xs : Array Value) (i k : Nat) : ((List.range k).filterMap fun (m : Nat) => xs[((i : Int) + (m : Int) * 1).toNat]?).toArray = ((xs.toList.drop i).take k).toArray := by
  have e : (fun (m : Nat) => xs[((i : Int) + (m : Int) * 1).toNat]?) = fun m => xs[i + m]? := by
    funext m
    have : ((i : Int) + (m : Int) * 1).toNat = i + m := by omega
    rw [this]
  rw [e]
  have := pick_run xs i k
  rw [List.filterMap_map] at this
  have e2 : ((fun x => xs[x]?) ∘ fun x => i + x) = fun m => xs[i + m]? := rfl
  rw [e2] at this
  rw [this]

theorem getItem_tuple_cut {t sl : Addr} {items : Array Value} {vl vu : Value} {lo hi : Option Int} {Q : Value → Shared → Prop} (ht : IsTup s.heap t items) (hs : s.heap.IsSliceOf sl vl vu .none) (pl : IsPart vl lo) (pu : IsPart vu hi)
    (hw : ¬ (sIx items.size 0 lo = 0 ∧ sIx items.size items.size hi = items.size))
    (h : Q (.ref s.heap.objs.size) { s with heap := s.heap.push { cls := .type "tuple", data := .seq ((items.toList.drop (sIx items.size 0 lo)).take (sIx items.size items.size hi - sIx items.size 0 lo)).toArray } })
    (hsz : items.size ≤ sizeLine) : wpAny (model prog w) A (getItem (.ref t) (.ref sl)) Q E s := by
  have htake : sizeOk (.seq ((items.toList.drop (sIx items.size 0 lo)).take (sIx items.size items.size hi - sIx items.size 0 lo)).toArray) := by
    show ((items.toList.drop (sIx items.size 0 lo)).take (sIx items.size items.size hi - sIx items.size 0 lo)).toArray.size ≤ sizeLine
    rw [List.size_toArray, List.length_take, List.length_drop, Array.length_toList]
    omega
  have hj : sIx items.size items.size hi ≤ items.size := sIx_le _ _ (Nat.le_refl _) hi
  obtain ⟨os, hos, hcs, hds⟩ := id hs
  have hTs : s.TypeIs (.ref sl) "slice" := ⟨os, hos, hcs⟩
  unfold getItem
  try with_reducible refine wpAny_holding ?_
  first | refine wpAny_bind (wpAny_pure ?_) | skip
  refine wpAny_bind (wpAny_sequenceKey ht.typeIs (by decide) ?_)
  refine wpAny_bind (wpAny_callSpecial?_slot (name := Str.ofString "__getitem__") ht.typeIs PyProof.Rows.slot_tuple_getitem
    (wpAny_call_entry PyProof.Rows.slot_tuple_getitem ht.typeIs entry_tuple_getitem ?_ (args_tuple_getitem _ _)))
  show wpAny _ _ (Builtin.Tuple.tupleItemsOf (.ref t) >>= _) _ _ s
  refine wpAny_bind (tupleItemsOf_ ht ?_)
  refine wpAny_bind (wpAny_typeOf hTs ?_)
  rw [if_pos (by decide)]
  refine wpAny_bind (sliceApplied_gen hs pl pu ?_)
  have hno : ¬ ((((sIx items.size 0 lo : Nat) : Int) == 0 && (1 : Int) == 1 && (sIx items.size items.size hi - sIx items.size 0 lo) == items.size) = true) := by
    intro q
    rw [Bool.and_eq_true, Bool.and_eq_true] at q
    have q1 : ((sIx items.size 0 lo : Nat) : Int) = 0 := eq_of_beq q.1.1
    have q2 : sIx items.size items.size hi - sIx items.size 0 lo = items.size := eq_of_beq q.2
    exact hw ⟨by omega, by omega⟩
  show wpAny _ _ (if (((sIx items.size 0 lo : Nat) : Int) == 0 && (1 : Int) == 1 && (sIx items.size items.size hi - sIx items.size 0 lo) == items.size) = true then _ else _) _ _ s
  rw [if_neg hno, pick_gen]
  first
    | exact wpAny_bind (m := Builtin.Tuple.tupleExact _) (wpAny_newObj_type (wpAny_pure ⟨_, rfl, wpAny_pure h⟩) htake)
    | exact wpAny_bind (m := Builtin.Tuple.tupleExact _) (wpAny_newObj_type (wpAny_bind (wpAny_pure (wpAny_pure ⟨_, rfl, wpAny_pure h⟩))) htake)
    | exact wpAny_bind (wpAny_bind (m := Builtin.Tuple.tupleExact _) (wpAny_newObj_type (wpAny_pure (wpAny_pure ⟨_, rfl, wpAny_pure h⟩)) htake))
    | exact wpAny_bind (wpAny_bind (m := Builtin.Tuple.tupleExact _) (wpAny_newObj_type (wpAny_pure ⟨_, rfl, wpAny_pure h⟩) htake))
end
end HT

namespace L2
open PySem PySem.Spec PyProof.Rows

/-! ### the parts of a slice -/
abbrev TO := St → Hp → (Option Int → Hp → Prop) → Prop
/-- a slice's part (left out, or an int) -/
def PO (X : Cx) (e : Option Expr) (t : TO) : Prop :=
  ∀ (pins : List (Addr × Obj)) (s : Shared) (σ : St) (H : Hp) (Q : Option Int → Hp → Prop), Inv X pins σ H s → t σ H Q →
    wpAny (model X.prog X.w) X.A (evalPart e X.env) (fun u s' => ∃ o H', Inv X pins σ H' s' ∧ IsPart u o ∧ Q o H') X.xe s
def tNoPart : TO := fun _ H Q => Q none H
def tPart (t : TE) : TO := fun σ H Q => t σ H fun x H1 => ∃ i, x = .int i ∧ Q (some i) H1

section
variable {X : Cx} {e : Expr} {te : TE} {lo hi : Option Expr} {tl th : TO} {pos p2 : Pos}

theorem po_none : PO X none tNoPart := by
  intro pins s σ H Q I h
  rw [evalPart_none]
  exact wpAny_pure ⟨none, H, I, .none, h⟩
theorem po_some (h : PE X e te) : PO X (some e) (tPart te) := by
  intro pins s σ H Q I hw
  rw [evalPart_some]
  refine thn (h pins s σ H _ I hw) fun u s1 ⟨x, H1, I1, r1, q1⟩ => ?_
  obtain ⟨i, rfl, q⟩ := q1
  obtain ⟨t, rfl⟩ := r1
  exact ⟨some i, H1, I1, .int i t, q⟩

/-- what a slice of a value is, by values: the slice object stands at sl -/
def SlR (X : Cx) (r : V → Option Int → Option Int → Hp → VK → Prop) : Prop :=
  ∀ (pins : List (Addr × Obj)) (s : Shared) (σ : St) (H : Hp) (x : V) (v vl vu : Value) (lo hi : Option Int) (sl : Addr) (Q : VK), Inv X pins σ H s → RelV x v → s.heap.IsSliceOf sl vl vu .none → IsPart vl lo → IsPart vu hi → r x lo hi H Q →
    ∃ T id, typeLookup (.type T) "__getitem__" = pure (some (.builtin id)) ∧ s.TypeIs v T ∧ wpAny (model X.prog X.w) X.A (getItem v (.ref sl)) (EP X pins σ Q) X.xe s
def tSl (r : V → Option Int → Option Int → Hp → VK → Prop) (te : TE) (tl th : TO) : TE := fun σ H Q => te σ H fun x H1 => tl σ H1 fun l H2 => th σ H2 fun u H3 => r x l u H3 Q
/-- a[lo:hi], any a -/
theorem pe_slice {r : V → Option Int → Option Int → Hp → VK → Prop} (hr : SlR X r) (he : PE X e te) (hl : PO X lo tl) (hu : PO X hi th) : PE X (.Subscript e (.Slice lo hi none p2) pos) (tSl r te tl th) := by
  intro pins s σ H Q I h
  refine Subscript_ (thn (he pins s σ H _ I h) fun v s1 ⟨x, H1, I1, r1, q1⟩ => ?_)
  refine wpAny_Slice (thn (hl pins s1 σ H1 _ I1 q1) fun vl s2 ⟨l, H2, I2, pl, q2⟩ => thn (hu pins s2 σ H2 _ I2 q2) fun vu s3 ⟨u, H3, I3, pu, q3⟩ => ?_)
  rw [evalPart_none]
  refine wpAny_pure ?_
  have I4 : Inv X pins σ H3 { s3 with heap := s3.heap.push { cls := .type "slice", data := .fields #[vl, vu, .none] } } := I3.kept (t' := s3.toks) fun b ob q => Heap.get?_push_of_some _ q
  obtain ⟨T, id, hT, ht, hg⟩ := hr pins { s3 with heap := s3.heap.push { cls := .type "slice", data := .fields #[vl, vu, .none] } } σ H3 x v vl vu l u s3.heap.objs.size Q I4 r1 (Heap.IsSliceOf.new ..) pl pu q3
  show wpAny (model X.prog X.w) X.A (subscriptTail e (.Slice lo hi none p2) v (.ref s3.heap.objs.size)) (EP X pins σ Q) X.xe { s3 with heap := s3.heap.push { cls := .type "slice", data := .fields #[vl, vu, .none] } }
  exact tail_any (ops := [.ref s3.heap.objs.size, v]) ht hT hg (by with_unfolding_all rfl)

/-- the items of xs[lo:hi] -/
def cutV (xs : List V) (lo hi : Option Int) : List V := (xs.drop (HT.sIx xs.length 0 lo)).take (HT.sIx xs.length xs.length hi - HT.sIx xs.length 0 lo)
theorem cutV_length (xs : List V) (lo hi : Option Int) : (cutV xs lo hi).length ≤ xs.length := by
  unfold cutV
  rw [List.length_take, List.length_drop]
  omega
/-- t[lo:hi], not the whole of it (the whole would be t itself) -/
def rSlT (K : PySem.W.Frag) : V → Option Int → Option Int → Hp → VK → Prop := fun x lo hi H Q => ∃ a xs, x = .ref a ∧ SqT K H a xs ∧
  ¬ (HT.sIx xs.length 0 lo = 0 ∧ HT.sIx xs.length xs.length hi = xs.length) ∧ ∀ p, H p = none → Q (.ref p) (upd H p (.tup (cutV xs lo hi)))
theorem sl_tup : SlR X (rSlT X.K) := by
  intro pins s σ H x v vl vu lo hi sl Q I rx hs pl pu h
  obtain ⟨a, xs, rfl, hx, hw, q⟩ := h
  cases rx
  obtain ⟨its, r, ht, hz⟩ := I.tuple hx
  have hlen : its.toArray.size = xs.length := by rw [List.size_toArray]; exact r.length.symm
  refine ⟨"tuple", _, PyProof.Rows.slot_tuple_getitem.lookup, ht.typeIs, ?_⟩
  refine HT.getItem_tuple_cut ht hs pl pu (by rw [hlen]; exact hw) ?_ (by rw [hlen]; exact hz)
  rw [hlen]
  refine ⟨.ref s.heap.objs.size, _, I.laid (t' := s.toks) (o := .tup (cutV xs lo hi)) (fun b ob q => Heap.get?_push_of_some _ q) (Nat.le_refl _) ?_, rfl, q _ (I.hok.fresh (Nat.le_refl _))⟩
  exact ⟨Nat.le_trans (cutV_length xs lo hi) hz, _, (r.drop (HT.sIx xs.length 0 lo)).take (HT.sIx xs.length xs.length hi - HT.sIx xs.length 0 lo), IsTup.new _ _⟩

/-! ### t < u, t + u -/
def rLtT (K : PySem.W.Frag) : R2 := fun x y H Q => ∃ a b ns ms, x = .ref a ∧ y = .ref b ∧ SqT K H a (ns.map V.int) ∧ SqT K H b (ms.map V.int) ∧ Q (.bl (HT.lexLt ns ms)) H
/-- t + u, t not empty: u empty gives t itself -/
def rCatT (K : PySem.W.Frag) : R2 := fun x y H Q => ∃ a b xs ys, x = .ref a ∧ y = .ref b ∧ SqT K H a xs ∧ SqT K H b ys ∧ xs ≠ [] ∧ xs.length + ys.length ≤ sizeLine ∧
  (ys = [] → Q (.ref a) H) ∧ (ys ≠ [] → ∀ p, H p = none → Q (.ref p) (upd H p (.tup (xs ++ ys))))
theorem Vals.nil_iff {xs : List V} {us : List Value} (r : Vals xs us) : us = [] ↔ xs = [] := by
  cases r with
  | nil => simp
  | cons _ _ => simp
theorem op_catT : OpR X (binaryOp .Add) (rCatT X.K) := by
  intro pins s σ H x y v u Q I rx ry h
  obtain ⟨a, b, xs, ys, rfl, rfl, ha, hb, hx, hz, q1, q2⟩ := h
  cases rx
  cases ry
  obtain ⟨its, r1, p1, _⟩ := I.tuple ha
  obtain ⟨its2, r2, p2, _⟩ := I.tuple hb
  refine HT.cat_tup p1 p2 (fun z => hx (r1.nil_iff.mp z)) (fun z => ⟨.ref a, H, I, rfl, q1 (r2.nil_iff.mp z)⟩) (fun z => ?_) (by rw [← r1.length, ← r2.length]; exact hz)
  refine ⟨.ref s.heap.objs.size, _, I.laid (t' := s.toks) (o := .tup (xs ++ ys)) (fun b ob q => Heap.get?_push_of_some _ q) (Nat.le_refl _) ?_, rfl, q2 (fun w => z (r2.nil_iff.mpr w)) _ (I.hok.fresh (Nat.le_refl _))⟩
  exact ⟨by rw [List.length_append]; exact hz, _, r1.append r2, IsTup.new _ _⟩
end
end L2

namespace L2
open PySem PySem.Spec PyProof.Rows

/-! ### places -/
/-- the place that an index of any sign means -/
def ixN (n : Nat) (i : Int) : Option Nat := if 0 ≤ i then (if i < n then some i.toNat else none) else if -(n : Int) ≤ i then some (i + n).toNat else none
def atI {α : Type} (xs : List α) (i : Int) : Option α := (ixN xs.length i).bind fun j => xs[j]?
theorem ixN_seq {n : Nat} {i : Int} {j : Nat} (h : ixN n i = some j) : seqIndex? i n = some j ∧ j < n ∧ -(n : Int) ≤ i ∧ i < n := by
  unfold ixN at h
  by_cases h0 : 0 ≤ i
  · rw [if_pos h0] at h
    by_cases h1 : i < n
    · rw [if_pos h1] at h
      have e : i.toNat = j := Option.some.inj h
      exact ⟨by rw [seqIndex_of h0 h1, e], by omega, by omega, h1⟩
    · rw [if_neg h1] at h; cases h
  · rw [if_neg h0] at h
    by_cases h1 : -(n : Int) ≤ i
    · rw [if_pos h1] at h
      have e : (i + n).toNat = j := Option.some.inj h
      exact ⟨by rw [seqIndex_neg (by omega) h1, e], by omega, h1, by omega⟩
    · rw [if_neg h1] at h; cases h
theorem atI_get {α : Type} {xs : List α} {i : Int} {v : α} (h : atI xs i = some v) : ∃ j, seqIndex? i xs.length = some j ∧ xs[j]? = some v ∧ j < xs.length ∧ -(xs.length : Int) ≤ i ∧ i < xs.length := by
  unfold atI at h
  cases e : ixN xs.length i with
  | none => rw [e] at h; cases h
  | some j =>
    rw [e] at h
    obtain ⟨h1, h2, h3, h4⟩ := ixN_seq e
    exact ⟨j, h1, h, h2, h3, h4⟩
theorem atI_nat {α : Type} {xs : List α} {j : Nat} {v : α} (h : xs[j]? = some v) : atI xs (j : Int) = some v := by
  have hj : j < xs.length := (List.getElem?_eq_some_iff.mp h).1
  have e : ixN xs.length (j : Int) = some j := by
    unfold ixN
    rw [if_pos (by omega), if_pos (by omega)]; simp
  unfold atI; rw [e]; exact h
/-! ### what may be subscripted -/
/-- what stands as an index of a plain subscript -/
def PlainIx (b : Expr) : Prop := ∀ o i, subscripted b false o i = operate [o, i] (getItem o i)
/-- a subscript by values -/
def IxR (X : Cx) (r : R2) : Prop :=
  ∀ (value slice : Expr) (pins : List (Addr × Obj)) (s : Shared) (σ : St) (H : Hp) (x y : V) (v u : Value) (Q : VK), Inv X pins σ H s → RelV x v → RelV y u → r x y H Q →
    subscripted slice false v u = operate [v, u] (getItem v u) → wpAny (model X.prog X.w) X.A (subscriptTail value slice v u) (EP X pins σ Q) X.xe s
/-- a call of a builtin's method by values: the receiver, the arguments -/
def MtR (X : Cx) (id : String) (r : V → List V → Hp → VK → Prop) : Prop :=
  ∀ (pins : List (Addr × Obj)) (s : Shared) (σ : St) (H : Hp) (x : V) (xs : List V) (v : Value) (us : List Value) (Q : VK), Inv X pins σ H s → RelV x v → Vals xs us → r x xs H Q →
    wpAny (model X.prog X.w) X.A (call (.builtin id) (v :: us)) (EP X pins σ Q) X.xe s
section
variable {X : Cx} {a b : Expr} {ta tb : TE} {pos : Pos}
/-- a[b] -/
theorem pe_ix {r : R2} (hr : IxR X r) (ha : PE X a ta) (hb : PE X b tb) (hs : PlainIx b) : PE X (.Subscript a b pos) (tOp r ta tb) := by
  intro pins s σ H Q I h
  exact Subscript_ (binT ha hb I h fun v u s2 x y H2 I2 rx ry q => hr a b pins s2 σ H2 x y v u Q I2 rx ry q (hs _ _))

def rIxL (K : PySem.W.Frag) : R2 := fun x y H Q => ∃ p xs i v, x = .ref p ∧ y = .int i ∧ SqL K H p xs ∧ atI xs i = some v ∧ Q v H
def rIxT (K : PySem.W.Frag) : R2 := fun x y H Q => ∃ p xs i v, x = .ref p ∧ y = .int i ∧ SqT K H p xs ∧ atI xs i = some v ∧ Q v H
def rIxS : R2 := fun x y H Q => ∃ z i c, x = .str z ∧ y = .int i ∧ z.length ≤ sizeLine ∧ atI z.cps.toList i = some c ∧ Q (.str ⟨#[c]⟩) H
theorem ix_list : IxR X (rIxL X.K) := by
  intro value slice pins s σ H x y v u Q I rx ry h hs
  obtain ⟨p, xs, i, z, rfl, rfl, hq, he, q⟩ := h
  cases rx
  obtain ⟨t, rfl⟩ := ry
  obtain ⟨its, r, pl, hz⟩ := I.list hq
  obtain ⟨j, h1, h2, h3, h4, h5⟩ := atI_get he
  obtain ⟨w, ew, rw'⟩ := r.get h2
  have hl := r.length
  have hn := line63
  have fin : EP X pins σ Q w s := ⟨z, H, I, rw', q⟩
  by_cases h0 : 0 ≤ i
  · have hj : i.toNat = j := by
      rw [seqIndex_of h0 h5] at h1
      exact Option.some.inj h1
    exact item_listR pl.isList h0 (by omega) (by rw [hj]; simpa using ew) fin hs
  · have hj : (i + (its.toArray.size : Int)).toNat = j := by
      rw [seqIndex_neg (by omega) h4] at h1
      rw [List.size_toArray, ← hl]
      exact Option.some.inj h1
    exact subscriptTail_builtinR (x := w) pl.isList.typeIs slot_list_getitem.lookup
      (wpAny_getItem_list_neg (Q := fun r s' => r = w ∧ EP X pins σ Q r s') pl.isList (by omega) (by rw [List.size_toArray] <;> omega) (by omega) (by rw [hj]; simpa using ew) ⟨rfl, fin⟩) hs
theorem ix_tup : IxR X (rIxT X.K) := by
  intro value slice pins s σ H x y v u Q I rx ry h hs
  obtain ⟨p, xs, i, z, rfl, rfl, hq, he, q⟩ := h
  cases rx
  obtain ⟨t, rfl⟩ := ry
  obtain ⟨its, r, pl, hz⟩ := I.tuple hq
  obtain ⟨j, h1, h2, h3, h4, h5⟩ := atI_get he
  obtain ⟨w, ew, rw'⟩ := r.get h2
  have hl := r.length
  have hn := line63
  have fin : EP X pins σ Q w s := ⟨z, H, I, rw', q⟩
  exact subscriptTail_builtinR (x := w) pl.typeIs slot_tuple_getitem.lookup
    (getItem_tuple (j := j) (Q := fun r s' => r = w ∧ EP X pins σ Q r s') pl (by omega) (by omega) (by rw [List.size_toArray, ← hl]; exact h1) (by simpa using ew) ⟨rfl, fin⟩) hs
theorem ix_str : IxR X rIxS := by
  intro value slice pins s σ H x y v u Q I rx ry h hs
  obtain ⟨z, i, c, rfl, rfl, hz, he, q⟩ := h
  obtain ⟨t, rfl⟩ := rx
  obtain ⟨t', rfl⟩ := ry
  obtain ⟨j, h1, h2, h3, h4, h5⟩ := atI_get he
  have hl : z.cps.toList.length = z.length := by simp [Str.length]
  rw [hl] at h1 h4 h5
  have hn := line63
  exact tail_any (typeIs_str s z t) slot_str_getitem.lookup (getItem_str (c := c) (by
    have e1 : decide (i < -(2 ^ 63 : Int)) = false := decide_eq_false (by omega)
    have e2 : decide (i ≥ 2 ^ 63) = false := decide_eq_false (by omega)
    rw [e1, e2, Bool.or_false]) (by rw [h1]; simpa using h2) ⟨.str ⟨#[c]⟩, H, I.tok _, ⟨_, rfl⟩, q⟩) hs
/-- list, tuple or str -/
def rIx (K : PySem.W.Frag) : R2 := fun x y H Q => rIxL K x y H Q ∨ rIxT K x y H Q ∨ rIxS x y H Q
/-! ### xs[i] = v, any sign -/
/-- the list's object behind a store -/
theorem mapSeq_set (its : List Value) (n j : Nat) (u : Value) : Obj.mapSeq (·.setIfInBounds j u) { cls := .type "list", data := .seq its.toArray n } = { cls := .type "list", data := .seq (its.set j u).toArray n } := by
  simp [Obj.mapSeq]
theorem Inv.lst {pins : List (Addr × Obj)} {σ : St} {H : Hp} {s : Shared} {p : Addr} {xs : List V} (I : Inv X pins σ H s) (h : H p = some (.lst xs)) :
    ∃ (its : List Value) (n : Nat), Vals xs its ∧ s.heap.get? p = some { cls := .type "list", data := .seq its.toArray n } ∧ xs.length ≤ sizeLine := by
  obtain ⟨z, its, n, r, e⟩ := I.hok p _ h
  exact ⟨its, n, r, e, z⟩
/-- the list at p is written by an update of its object -/
theorem Inv.lstUpd {pins : List (Addr × Obj)} {σ : St} {H : Hp} {s : Shared} {p : Addr} {xs ys : List V} {its its' : List Value} {n n' : Nat} {f : Obj → Obj} (I : Inv X pins σ H s) (h : H p = some (.lst xs))
    (ho : s.heap.get? p = some { cls := .type "list", data := .seq its.toArray n }) (hf : f { cls := .type "list", data := .seq its.toArray n } = { cls := .type "list", data := .seq its'.toArray n' }) (r : Vals ys its') (hz : ys.length ≤ sizeLine) (t : Nat) :
    Inv X pins σ (upd H p (.lst ys)) { s with heap := s.heap.update p f, toks := t } := by
  have e : (s.heap.update p f).get? p = some { cls := .type "list", data := .seq its'.toArray n' } := by
    rw [Heap.get?_update_self f ho (by rw [hf] <;> rfl), hf]
  refine I.write (x := p) (e := p) (by rw [h]; trivial) (.inl rfl) (fun b u hb q => (Heap.get?_update_other _ _ (Ne.symm hb)).trans q) ⟨_, e⟩ ?_
  exact ⟨hz, its', n', r, e⟩
def rSetL : V → V → V → Hp → (Hp → Prop) → Prop := fun o i v H Q => ∃ p xs k j, o = .ref p ∧ i = .int k ∧ H p = some (.lst xs) ∧ ixN xs.length k = some j ∧ Q (upd H p (.lst (xs.set j v)))
theorem set_list : PSet X rSetL := by
  intro pins s σ H o i v ov iv u Q I ro ri rv h
  obtain ⟨p, xs, k, j, rfl, rfl, hp, hj, q⟩ := h
  cases ro
  obtain ⟨t, rfl⟩ := ri
  obtain ⟨its, n, r, ho, hz⟩ := I.lst hp
  obtain ⟨h1, h2, h3, h4⟩ := ixN_seq hj
  have hl := r.length
  have hn := line63
  have I' : Inv X pins σ (upd H p (.lst (xs.set j v))) { s with heap := s.heap.update p (Obj.mapSeq (·.setIfInBounds j u)) } :=
    I.lstUpd hp ho (mapSeq_set its n j u) (r.set rv j) (by rw [List.length_set]; exact hz) s.toks
  by_cases h0 : 0 ≤ k
  · have hk : k.toNat = j := by
      rw [seqIndex_of h0 h4] at h1
      exact Option.some.inj h1
    exact PySem.W.ki_setAt ho h0 (by omega) (by rw [List.size_toArray, ← hl]; exact h4) (by rw [hk]; exact ⟨_, I', q⟩)
  · have hk : (k + (its.toArray.size : Int)).toNat = j := by
      rw [seqIndex_neg (by omega) h3] at h1
      rw [List.size_toArray, ← hl]
      exact Option.some.inj h1
    exact PySem.W.ki_setBack ho (by omega) (by rw [List.size_toArray, ← hl]; exact h3) (by omega) (by rw [hk]; exact ⟨_, I', q⟩)

/-! ### slices -/
theorem slice_bounds (lo hi : Option Int) (n : Nat) : (sliceBounds lo hi none n).1 = ((HT.sIx n 0 lo : Nat) : Int) ∧ (sliceBounds lo hi none n).2.1 = ((HT.sIx n n hi : Nat) : Int) ∧ (sliceBounds lo hi none n).2.2 = 1 := by
  refine ⟨?_, ?_, rfl⟩
  · cases lo with
    | none => simp [sliceBounds, HT.sIx]
    | some i =>
      simp only [sliceBounds, HT.sIx, Option.getD_none, show (1 : Int) > 0 by decide, if_true]
      by_cases h : i < 0
      · simp only [h, if_true] <;> omega
      · simp only [h, if_false] <;> omega
  · cases hi with
    | none => simp [sliceBounds, HT.sIx]
    | some i =>
      simp only [sliceBounds, HT.sIx, Option.getD_none, show (1 : Int) > 0 by decide, if_true]
      by_cases h : i < 0
      · simp only [h, if_true] <;> omega
      · simp only [h, if_false] <;> omega
theorem slicePick_cut (its : List Value) (lo hi : Option Int) : slicePick its.toArray lo hi none = ((its.drop (HT.sIx its.length 0 lo)).take (HT.sIx its.length its.length hi - HT.sIx its.length 0 lo)).toArray := by
  obtain ⟨h1, h2, h3⟩ := slice_bounds lo hi its.toArray.size
  unfold slicePick
  rw [h1, h2, h3]
  simp only [sliceRange_one, pick_run, List.size_toArray] <;> rfl
/-- xs[lo:hi] of a list: a new list -/
def rSlL (K : PySem.W.Frag) : V → Option Int → Option Int → Hp → VK → Prop := fun x lo hi H Q => ∃ a xs, x = .ref a ∧ SqL K H a xs ∧ ∀ p, H p = none → Q (.ref p) (upd H p (.lst (cutV xs lo hi)))
theorem sl_list : SlR X (rSlL X.K) := by
  intro pins s σ H x v vl vu lo hi sl Q I rx hs pl pu h
  obtain ⟨a, xs, rfl, hx, q⟩ := h
  cases rx
  obtain ⟨its, r, ht, hz⟩ := I.list hx
  have hlen := r.length
  refine ⟨"list", _, slot_list_getitem.lookup, ht.isList.typeIs, ?_⟩
  refine wpAny_getItem_list_slice ht.isList hs pl pu .none (by simp) ?_ (by rw [List.size_toArray] <;> omega)
  rw [slicePick_cut, ← hlen]
  refine ⟨.ref s.heap.objs.size, _, I.laid (t' := s.toks) (o := .lst (cutV xs lo hi)) (fun b ob q => Heap.get?_push_of_some _ q) (Nat.le_refl _) ?_, rfl, q _ (I.hok.fresh (Nat.le_refl _))⟩
  exact ⟨Nat.le_trans (cutV_length xs lo hi) hz, _, 0, (r.drop (HT.sIx xs.length 0 lo)).take (HT.sIx xs.length xs.length hi - HT.sIx xs.length 0 lo), Heap.get?_push_size _ rfl⟩

/-! ### in, not in: flat items -/
def flatV : V → Bool
  | .non => true
  | .bl _ => true
  | .int _ => true
  | .str _ => true
  | _ => false
/-- == of flat values -/
def eqV : V → V → Bool
  | .non, .non => true
  | .bl a, .bl b => a == b
  | .bl a, .int b => (if a then 1 else 0) == b
  | .int a, .bl b => a == (if b then 1 else 0)
  | .int a, .int b => a == b
  | .str a, .str b => a == b
  | _, _ => false
theorem eqAt_V {A : Around} {s : Shared} {y x : V} {u v : Value} (ry : RelV y u) (rx : RelV x v) (fy : flatV y = true) (fx : flatV x = true) : SeqAt.EqAt A s u v (eqV y x) := by
  cases y with
  | non =>
    cases ry
    cases x with
    | non => cases rx; exact SeqAt.EqAt.same _
    | bl b => cases rx; exact SeqAt.EqAt.none_bool b
    | int b => obtain ⟨t, rfl⟩ := rx; exact SeqAt.EqAt.none_int b t
    | str b => obtain ⟨t, rfl⟩ := rx; exact SeqAt.EqAt.none_str b t
    | _ => exact absurd (show false = true from fx) Bool.false_ne_true
  | bl a =>
    cases ry
    cases x with
    | non => cases rx; exact SeqAt.EqAt.bool_none a
    | bl b => cases rx; exact SeqAt.EqAt.bool_bool a b
    | int b => obtain ⟨t, rfl⟩ := rx; exact SeqAt.EqAt.bool_int a b t
    | str b => obtain ⟨t, rfl⟩ := rx; exact SeqAt.EqAt.bool_str a b t
    | _ => exact absurd (show false = true from fx) Bool.false_ne_true
  | int a =>
    obtain ⟨t', rfl⟩ := ry
    cases x with
    | non => cases rx; exact SeqAt.EqAt.int_none a t'
    | bl b => cases rx; exact SeqAt.EqAt.int_bool a t' b
    | int b => obtain ⟨t, rfl⟩ := rx; exact SeqAt.EqAt.int_int a t' b t
    | str b => obtain ⟨t, rfl⟩ := rx; exact SeqAt.EqAt.int_str a t' b t
    | _ => exact absurd (show false = true from fx) Bool.false_ne_true
  | str a =>
    obtain ⟨t', rfl⟩ := ry
    cases x with
    | non => cases rx; exact SeqAt.EqAt.str_none a t'
    | bl b => cases rx; exact SeqAt.EqAt.str_bool a t' b
    | int b => obtain ⟨t, rfl⟩ := rx; exact SeqAt.EqAt.str_int a t' b t
    | str b => obtain ⟨t, rfl⟩ := rx; exact SeqAt.EqAt.str_str a t' b t
    | _ => exact absurd (show false = true from fx) Bool.false_ne_true
  | _ => exact absurd (show false = true from fy) Bool.false_ne_true
/-- the items' answers, read off the values (a value's own answer does not lean on its token) -/
def eqU (x : V) (u : Value) : Bool := match u with
  | .none => eqV .non x
  | .bool b => eqV (.bl b) x
  | .int i _ => eqV (.int i) x
  | .str z _ => eqV (.str z) x
  | _ => false
theorem eqU_of {x y : V} {u : Value} (r : RelV y u) (f : flatV y = true) : eqU x u = eqV y x := by
  cases y with
  | non => cases r; rfl
  | bl b => cases r; rfl
  | int i => obtain ⟨t, rfl⟩ := r; rfl
  | str z => obtain ⟨t, rfl⟩ := r; rfl
  | _ => exact absurd (show false = true from f) Bool.false_ne_true
theorem any_eqU {x : V} : ∀ {xs : List V} {us : List Value}, Vals xs us → xs.all flatV = true → us.any (eqU x) = xs.any fun y => eqV y x
  | _, _, .nil, _ => rfl
  | y :: xs, u :: us, .cons r t, f => by
    rw [List.all_cons, Bool.and_eq_true] at f
    rw [List.any_cons, List.any_cons, eqU_of r f.1, any_eqU t f.2]
theorem mem_eqAt {A : Around} {s : Shared} {x : V} {v : Value} (rx : RelV x v) (fx : flatV x = true) : ∀ {xs : List V} {us : List Value}, Vals xs us → xs.all flatV = true → ∀ u ∈ us, SeqAt.EqAt A s u v (eqU x u)
  | _, _, .nil, _ => fun u hu => by cases hu
  | y :: xs, u :: us, .cons r t, f => fun u' hu => by
    rw [List.all_cons, Bool.and_eq_true] at f
    rcases List.mem_cons.mp hu with rfl | hu
    · rw [eqU_of r f.1]; exact eqAt_V r rx f.1 fx
    · exact mem_eqAt rx fx t f.2 u' hu
def inV (x : V) (xs : List V) : Bool := xs.any fun y => eqV y x
/-- x in a list or tuple of flat items -/
def rIn (K : PySem.W.Frag) (neg : Bool) : R2 := fun x y H Q => ∃ p xs, y = .ref p ∧ (SqL K H p xs ∨ SqT K H p xs) ∧ flatV x = true ∧ xs.all flatV = true ∧ Q (.bl (if neg then !inV x xs else inV x xs)) H
theorem op_notIn_seq : OpR X (compareOp .NotIn) (rIn X.K true) := by
  intro pins s σ H x y v u Q I rx ry h
  obtain ⟨p, xs, rfl, hq, fx, fs, q⟩ := h
  cases ry
  rcases hq with hq | hq
  · obtain ⟨its, r, pl, hz⟩ := I.list hq
    refine SeqAt.notIn_listAt (eqU x) pl.isList (fun w hw => mem_eqAt rx fx r fs w (by simpa using hw)) ⟨.bl _, H, I, rfl, ?_⟩
    rw [show its.toArray.any (eqU x) = its.any (eqU x) by simp, any_eqU r fs]
    exact q
  · obtain ⟨its, r, pl, hz⟩ := I.tuple hq
    refine SeqAt.notIn_tupleAt (eqU x) pl (fun w hw => mem_eqAt rx fx r fs w (by simpa using hw)) ⟨.bl _, H, I, rfl, ?_⟩
    rw [show its.toArray.any (eqU x) = its.any (eqU x) by simp, any_eqU r fs]
    exact q
/-! ### len, list(x), tuple(x) of any list or tuple that is read -/
theorem call_len_seq : CallR X (.builtin "len") (fun xs H Q => ∃ p ys, xs = [.ref p] ∧ (SqL X.K H p ys ∨ SqT X.K H p ys) ∧ Q (.int ys.length) H) := by
  intro pins s σ H xs us Q I r h
  obtain ⟨p, ys, rfl, hq, q⟩ := h
  obtain ⟨u, rfl, rx⟩ := vals1 r
  cases rx
  have hn := line63
  rcases hq with hq | hq
  · obtain ⟨its, r', pl, hz⟩ := I.list hq
    have hlen := r'.length
    exact Calls.call_len_list pl.isList (by simp only [List.size_toArray] <;> omega) ⟨.int ys.length, H, I.tok _, ⟨s.toks + 1, by rw [List.size_toArray, hlen]⟩, q⟩
  · obtain ⟨its, r', pl, hz⟩ := I.tuple hq
    have hlen := r'.length
    exact len_tuple pl (by simp only [List.size_toArray] <;> omega) ⟨.int ys.length, H, I.tok _, ⟨s.toks + 1, by rw [List.size_toArray, hlen]⟩, q⟩
theorem call_len_str : CallR X (.builtin "len") (fun xs H Q => ∃ z, xs = [.str z] ∧ z.length ≤ sizeLine ∧ Q (.int z.length) H) := by
  intro pins s σ H xs us Q I r h
  obtain ⟨z, rfl, hz, q⟩ := h
  obtain ⟨u, rfl, t, rfl⟩ := vals1 r
  have hn := line63
  exact len_str (by omega) ⟨.int z.length, H, I.tok _, ⟨_, rfl⟩, q⟩
theorem call_list_of : CallR X (.type "list") (fun xs H Q => ∃ p ys, xs = [.ref p] ∧ (SqL X.K H p ys ∨ SqT X.K H p ys) ∧ ∀ l, H l = none → Q (.ref l) (upd H l (.lst ys))) := by
  intro pins s σ H xs us Q I r h
  obtain ⟨p, ys, rfl, hq, q⟩ := h
  obtain ⟨u, rfl, rx⟩ := vals1 r
  cases rx
  have fin : ∀ (its : List Value), Vals ys its → ys.length ≤ sizeLine → ∀ (h' : Heap) (c' : Nat), (∀ b o', s.heap.get? b = some o' → h'.get? b = some o') →
      h'.get? s.heap.objs.size = some { cls := .type "list", dict := none, data := .seq its.toArray c', slots := #[] } → EP X pins σ Q (.ref s.heap.objs.size) { s with heap := h' } := fun its r' hz h' c' kp e =>
    ⟨.ref s.heap.objs.size, _, I.laid (t' := s.toks) kp (Nat.le_refl _) (show ObjOk X.prog X.w _ h' _ (.lst ys) from ⟨hz, its, c', r', e⟩), rfl, q _ (I.hok.fresh (Nat.le_refl _))⟩
  rcases hq with hq | hq
  · obtain ⟨its, r', pl, hz⟩ := I.list hq
    have hlen := r'.length
    obtain ⟨o, ho, hc, n, hd⟩ := pl.isList
    exact call_list_seq p (.inl rfl) ho hc hd (fun h' c' kp e => fin its r' hz h' c' kp e) (by simp only [List.size_toArray] <;> omega)
  · obtain ⟨its, r', pl, hz⟩ := I.tuple hq
    have hlen := r'.length
    obtain ⟨o, ho, hc, n, hd⟩ := pl
    exact call_list_seq p (.inr rfl) ho hc hd (fun h' c' kp e => fin its r' hz h' c' kp e) (by simp only [List.size_toArray] <;> omega)
theorem call_tuple_of : CallR X (.type "tuple") (fun xs H Q => ∃ p ys, xs = [.ref p] ∧ ((SqL X.K H p ys ∧ ∀ l, H l = none → Q (.ref l) (upd H l (.tup ys))) ∨ (SqT X.K H p ys ∧ Q (.ref p) H))) := by
  intro pins s σ H xs us Q I r h
  obtain ⟨p, ys, rfl, h⟩ := h
  obtain ⟨u, rfl, rx⟩ := vals1 r
  cases rx
  rcases h with ⟨hq, q⟩ | ⟨hq, q⟩
  · obtain ⟨its, r', pl, hz⟩ := I.list hq
    have hlen := r'.length
    refine call_tuple_list pl.isList (fun h' kp => ?_) (by simp only [List.size_toArray] <;> omega)
    have I1 : Inv X pins σ H { s with heap := h' } := I.kept (t' := s.toks) kp
    have I2 : Inv X pins σ (upd H h'.objs.size (.tup ys)) { s with heap := h'.push { cls := .type "tuple", data := .seq its.toArray } } :=
      I1.laid (t' := s.toks) (fun b o e => Heap.get?_push_of_some _ e) (Nat.le_refl _) (show ObjOk X.prog X.w _ _ _ (.tup ys) from ⟨hz, its, r', IsTup.new _ _⟩)
    exact ⟨.ref h'.objs.size, _, I2, rfl, q _ (I1.hok.fresh (Nat.le_refl _))⟩
  · obtain ⟨its, r', pl, hz⟩ := I.tuple hq
    exact call_tuple_same pl ⟨.ref p, H, I, rfl, q⟩

/-! ### the call of a builtin's method: o.m(..) -/
/-- the value is of that builtin type -/
def tyV (K : PySem.W.Frag) (T : String) (x : V) (H : Hp) : Prop := match x with
  | .str _ => T = "str"
  | .int _ => T = "int"
  | .ref p => (T = "list" ∧ ∃ xs, SqL K H p xs) ∨ (T = "tuple" ∧ ∃ o, K.lookup p = some o ∧ o.cls = .type "tuple" ∧ o.dict = none) ∨
      (T = "dict" ∧ ((∃ kvs, H p = some (.dK kvs)) ∨ ∃ kvs, H p = some (.dT kvs))) ∨ (T = "set" ∧ ∃ S n, H p = some (.set S n))
  | _ => False
theorem tyV_is {pins : List (Addr × Obj)} {σ : St} {H : Hp} {s : Shared} {T : String} {x : V} {v : Value} (I : Inv X pins σ H s) (r : RelV x v) (ty : tyV X.K T x H) :
    s.TypeIs v T ∧ ∀ a, v = .ref a → ∃ ob, s.heap.get? a = some ob ∧ ob.dict = none := by
  cases x with
  | str z =>
    obtain ⟨t, rfl⟩ := r
    cases (show T = "str" from ty)
    exact ⟨typeIs_str s z t, fun _ e => nomatch e⟩
  | int i =>
    obtain ⟨t, rfl⟩ := r
    cases (show T = "int" from ty)
    exact ⟨typeIs_int s i t, fun _ e => nomatch e⟩
  | ref p =>
    cases r
    rcases ty with ⟨rfl, xs, hq⟩ | ⟨rfl, o, hk, hc, hd⟩ | ⟨rfl, hk⟩ | ⟨rfl, S, n, hk⟩
    · obtain ⟨its, _, pl, _⟩ := I.list hq
      refine ⟨pl.isList.typeIs, fun a e => ?_⟩
      cases e
      obtain ⟨o, n, e, c, hd, _⟩ := pl
      exact ⟨o, e, hd⟩
    · refine ⟨⟨o, I.kIn p o hk, hc⟩, fun a e => ?_⟩
      cases e
      exact ⟨o, I.kIn _ o hk, hd⟩
    · have z : ∃ o, s.heap.get? p = some o ∧ o.ExactDict := by
        rcases hk with ⟨kvs, hk⟩ | ⟨kvs, hk⟩
        · obtain ⟨_, _, _, _, o, _, _, e, ex, _⟩ := I.hok p _ hk
          exact ⟨o, e, ex⟩
        · obtain ⟨_, _, _, _, o, _, _, e, ex, _⟩ := I.hok p _ hk
          exact ⟨o, e, ex⟩
      obtain ⟨o, e, ex⟩ := z
      refine ⟨⟨o, e, ex.1⟩, fun a e2 => ?_⟩
      cases e2
      exact ⟨o, e, ex.2.1⟩
    · obtain ⟨o, _, _, _, e, ex, _⟩ := I.hok p _ hk
      refine ⟨⟨o, e, ex.1⟩, fun a e2 => ?_⟩
      cases e2
      exact ⟨o, e, ex.2.1⟩
  | _ => exact False.elim ty
def tBM0 (K : PySem.W.Frag) (T : String) (r : V → List V → Hp → VK → Prop) (to : TE) : TE := fun σ H Q => to σ H fun x H1 => tyV K T x H1 ∧ r x [] H1 Q
def tBM (K : PySem.W.Frag) (T : String) (r : V → List V → Hp → VK → Prop) (to : TE) (t : TA) : TE := fun σ H Q => to σ H fun x H1 => tyV K T x H1 ∧ t σ H1 fun xs H2 => r x xs H2 Q
variable {o e : Expr} {es : List Expr} {to : TE} {t : TA} {name : Str} {apos cpos : Pos} {T id : String} {r : V → List V → Hp → VK → Prop}
theorem pe_bm (pa : PlainAttrs T) (slot : Slot T name id) (hty : typeOf (.builtin id) = pure (.type "method_descriptor")) (hm : MtR X id r) (ho : PE X o to) (ha : PA X (e :: es) t)
    (hbase : attributeBase o name X.env (eval o X.env) = eval o X.env := by rfl)
    (hfew : ((backTo cpos (starEach (e :: es) X.env)).all (fun x => !x.1) && (backToKw cpos (keywordEach [] X.env)).all (fun x => x.1.isSome)
      && decide ((e :: es).length + ([] : List Keyword).length + (if ([] : List Keyword).isEmpty then 0 else 1) < 30)) = true := by rfl)
    (hline : (apos.endLine == cpos.line) = true := by rfl) (hs : starEach (e :: es) X.env = (false, eval e X.env) :: starEach es X.env := by rfl) (hplain : (backTo cpos (starEach es X.env)).any (·.1) = false := by rfl) :
    PE X (.Call (.Attribute o name apos) (e :: es) [] cpos) (tBM X.K T r to t) := by
  intro pins s σ H Q I h
  refine wpAny_Call_method_late hbase hfew hline rfl (thn (ho pins s σ H _ I h) fun v s1 ⟨x, H1, I1, r1, ty, q1⟩ => ?_)
  obtain ⟨h1, h2⟩ := tyV_is I1 r1 ty
  refine ⟨T, id, pa, slot, hty, h1, h2, ?_⟩
  have hA := ha cpos pins s1 σ H1 _ I1 q1
  rw [hs] at hA ⊢
  refine Calls.callWith_builtin (by show (false || (backTo cpos (starEach es X.env)).any (·.1)) = false; rw [hplain] <;> rfl) (Calls.evalArgs_plain ?_)
  exact thn hA fun us s2 ⟨vs, H2, I2, r2, q2⟩ => hm pins s2 σ H2 x vs v us Q I2 r1 r2 q2
/- xs.append(e), list.index on a module's tuple .. are MtR facts of 06m -/
end
end L2

namespace L2
open PySem PySem.Spec PyProof.Rows

def MtM (X : Cx) (id : String) (r : V → List V → Hp → VK → Prop) : Prop :=
  ∀ (pins : List (Addr × Obj)) (s : Shared) (σ : St) (H : Hp) (x : V) (xs : List V) (v : Value) (us : List Value) (Q : VK), Inv X pins σ H s → RelV x v → Vals xs us → r x xs H Q →
    wpAny (model X.prog X.w) X.A (call (.builtin id) (v :: us)) (EP X pins σ Q) X.xe s

/-! ### lists of values -/
theorem Vals.one : ∀ {x : V} {us : List Value}, Vals [x] us → ∃ u, us = [u] ∧ RelV x u
  | _, _, .cons r .nil => ⟨_, rfl, r⟩
section
variable {X : Cx} {pins : List (Addr × Obj)} {σ : St} {H : Hp} {s : Shared} {l b : Addr} {xs ys zs : List V}

/-! ### the two steps: a tracked list is rewritten, a new list is laid -/
theorem Inv.lset {its its' : List Value} {n : Nat} {f : Array Value → Array Value} {t' : Nat} (I : Inv X pins σ H s) (hH : H l = some (.lst xs))
    (e : s.heap.get? l = some { cls := .type "list", data := .seq its.toArray n }) (hf : f its.toArray = its'.toArray) (hv : Vals ys its') (hz : ys.length ≤ sizeLine) :
    Inv X pins σ (upd H l (.lst ys)) { s with heap := s.heap.update l (Obj.mapSeq f), toks := t' } := by
  have q := PySem.IsL.update e f
  rw [hf] at q
  refine I.write (x := l) (e := l) (by rw [hH]; exact trivial) (.inl rfl) (fun b' u hb hu => (Heap.get?_update_other s.heap (Obj.mapSeq f) (Ne.symm hb)).trans hu) ⟨_, q⟩ ?_
  exact ⟨hz, its', _, hv, q⟩
theorem Inv.lnew {its : List Value} {t' : Nat} (I : Inv X pins σ H s) (hv : Vals ys its) (hz : ys.length ≤ sizeLine) :
    Inv X pins σ (upd H s.heap.objs.size (.lst ys)) { s with heap := s.heap.push { cls := .type "list", data := .seq its.toArray }, toks := t' } :=
  I.laid (fun _ _ q => Heap.get?_push_of_some _ q) (Nat.le_refl _) ⟨hz, its, 0, hv, Heap.get?_push_size _ rfl⟩
theorem Inv.fresh (I : Inv X pins σ H s) : H s.heap.objs.size = none := I.hok.fresh (Nat.le_refl _)
theorem Inv.lstM (I : Inv X pins σ H s) (hH : H l = some (.lst xs)) : xs.length ≤ sizeLine ∧ ∃ (its : List Value) (n : Nat), Vals xs its ∧ xs.length = its.length ∧ s.heap.get? l = some { cls := .type "list", data := .seq its.toArray n } := by
  obtain ⟨z, its, n, r, e⟩ := I.hok l _ hH
  exact ⟨z, its, n, r, r.length, e⟩

theorem notLongL {n : Nat} (h : n ≤ sizeLine) : Builtin.List.listTooLong n = false := by
  unfold Builtin.List.listTooLong
  exact decide_eq_false (by omega)
end

section
variable {X : Cx}

/-! ### methods -/
def rAppend : V → List V → Hp → VK → Prop := fun x vs H Q => ∃ l xs y, x = .ref l ∧ vs = [y] ∧ H l = some (.lst xs) ∧ xs.length < sizeLine ∧ Q .non (upd H l (.lst (xs ++ [y])))
theorem mt_append : MtM X "list.append" rAppend := by
  intro pins s σ H x vs v us Q I rx rv h
  obtain ⟨l, xs, y, rfl, rfl, hH, hz, q⟩ := h
  cases rx
  obtain ⟨u, rfl, ru⟩ := rv.one
  obtain ⟨z, its, n, r, hl, e⟩ := I.lstM hH
  refine call_meets F.slot_list_append ⟨_, e, rfl⟩ F.entry_list_append (F.args_list_append_2 _ _) (PySem.list_append l its.toArray n u (by rw [List.size_toArray]; omega)) ⟨e, ?_⟩
  refine ⟨.non, _, I.lset (its' := its ++ [u]) hH e (by simp) (r.append (.cons ru .nil)) ?_, rfl, q⟩
  rw [List.length_append, List.length_singleton]
  omega

def rExtend : V → List V → Hp → VK → Prop := fun x vs H Q => ∃ l b xs zs, x = .ref l ∧ vs = [.ref b] ∧ H l = some (.lst xs) ∧ H b = some (.lst zs) ∧ xs.length + zs.length ≤ sizeLine ∧ Q .non (upd H l (.lst (xs ++ zs)))
def rPop : V → List V → Hp → VK → Prop := fun x vs H Q => ∃ l xs y, x = .ref l ∧ vs = [] ∧ H l = some (.lst xs) ∧ xs[xs.length - 1]? = some y ∧ Q y (upd H l (.lst xs.dropLast))
def rPopAt : V → List V → Hp → VK → Prop := fun x vs H Q => ∃ l xs i k y, x = .ref l ∧ vs = [.int i] ∧ H l = some (.lst xs) ∧ -(2 ^ 63) ≤ i ∧ i < 2 ^ 63 ∧ seqIndex? i xs.length = some k ∧ xs[k]? = some y ∧ Q y (upd H l (.lst (xs.eraseIdx k)))
def rReverse : V → List V → Hp → VK → Prop := fun x vs H Q => ∃ l xs, x = .ref l ∧ vs = [] ∧ H l = some (.lst xs) ∧ Q .non (upd H l (.lst xs.reverse))
def rClear : V → List V → Hp → VK → Prop := fun x vs H Q => ∃ l xs, x = .ref l ∧ vs = [] ∧ H l = some (.lst xs) ∧ Q .non (upd H l (.lst []))
/-! ### list + list, list += list, list * int -/
def rCat : R2 := fun x y H Q => ∃ l b xs zs, x = .ref l ∧ y = .ref b ∧ H l = some (.lst xs) ∧ H b = some (.lst zs) ∧ xs.length + zs.length ≤ sizeLine ∧ ∀ p, H p = none → Q (.ref p) (upd H p (.lst (xs ++ zs)))
theorem op_cat : OpR X (binaryOp .Add) rCat := by
  intro pins s σ H x y v u Q I rx ry h
  obtain ⟨l, b, xs, zs, rfl, rfl, hH, hB, hz, q⟩ := h
  cases rx
  cases ry
  obtain ⟨z, its, n, r, hl, e⟩ := I.lstM hH
  obtain ⟨z2, its2, n2, r2, hl2, e2⟩ := I.lstM hB
  refine PySem.P.add_list e e2 ?_ (by rw [List.size_toArray, List.size_toArray]; omega)
  have ea : its.toArray ++ its2.toArray = (its ++ its2).toArray := by simp
  rw [ea]
  exact ⟨.ref _, _, I.lnew (t' := s.toks) (r.append r2) (by rw [List.length_append]; omega), rfl, q _ I.fresh⟩
/-- a list times an int (a negative one is nothing) -/
def rRep : R2 := fun x y H Q => ∃ l k xs, x = .ref l ∧ y = .int k ∧ H l = some (.lst xs) ∧ -(2 ^ 63) ≤ k ∧ k < 2 ^ 63 ∧ xs.length * k.toNat ≤ sizeLine ∧
  ∀ p, H p = none → Q (.ref p) (upd H p (.lst (List.replicate k.toNat xs).flatten))
/-! ### del xs[i] -/
end

/-! ### xs[a:b] = ys -/
section
variable {prog : Program} {w : World} {A : Around} {E : Value → Shared → Prop} {s : Shared}
end

section
variable {X : Cx}
end
end L2

namespace Att
open PySem PySem.W PySem.Calls PyProof.Rows

/-! ### the script -/
theorem ints_of_wellAll {P : Params} {h : Heap} : ∀ (ns : List Int) (vs : List Value), WellAll P h vs (ns.map WData.int) → IntsAre vs ns := by
  intro ns
  induction ns with
  | nil =>
    intro vs w
    rw [List.map_nil] at w
    cases w
    exact .nil
  | cons n ns ih =>
    intro vs w
    rw [List.map_cons] at w
    cases w with
    | cons a b =>
      cases a
      exact .cons _ _ (ih _ b)

theorem script_of {l : OpenLaw} {n : Nat} (hn : l.most = some n) {P : Params} {h : Heap} {args : List WData} {vals : List Value}
    (hpre : l.row.toRowW.claim.pre args = true) (hwl : WellAll P h vals args) :
    ∃ a vs ns, vals = [Value.ref a] ∧ args = [WData.list (ns.map WData.int)] ∧ h.get? a = some { cls := .type "list", data := .seq vs.toArray } ∧ IntsAre vs ns ∧ ns.length ≤ n := by
  have hsh : WShape.hasAll [] args [.list .int] = true := (pre_splitW hpre).1
  have hc : l.pre.holds [] { args := args } = true := (pre_splitW hpre).2
  obtain ⟨d, r, rfl, h1, h2⟩ := hasAllW_cons hsh
  obtain rfl := hasAllW_nil h2
  obtain ⟨xs, rfl, h3⟩ := hasW_list h1
  obtain ⟨ns, rfl⟩ := items_int h3
  have hlen : ns.length ≤ n := by
    unfold OpenLaw.pre at hc
    have h4 : (WTm.not (.lt (.lit (.int (n : Int))) (.len (.arg 0)))).holds [] { args := [.list (ns.map .int)] } = true := by
      have h4 := (holds_andW hc).1
      rw [hn] at h4
      exact h4
    have h5 := condW_of h4 (w_not (w_lt w_lit (w_len_list (w_arg rfl))))
    rw [List.length_map] at h5
    refine Nat.le_of_not_lt fun q => ?_
    have q' : (n : Int) < ((ns.length : Nat) : Int) := by omega
    first
      | (rw [decide_eq_true q'] at h5; exact absurd h5 (by decide))
      | (simp at h5; omega)
  cases hwl with
  | cons w1 w2 =>
    cases w2
    cases w1 with
    | list ho hall => exact ⟨_, _, ns, rfl, rfl, ho, ints_of_wellAll ns _ hall, hlen⟩

theorem post_true (l : OpenLaw) (args : List WData) : l.row.toRowW.claim.post args (.bool true) args = true :=
  postW_of (r := l.row.toRowW) (X := (true == true))
    (show WShape.has [] (.bool true) .bool = true by first | rfl | decide | simp [WShape.has, WShape.arms, WShape.armsAll])
    (show (WTm.eq .res (.lit (.bool true))).value [] { args := args, res := some (.bool true), after := args } = some (.bool (true == true)) from w_eq_bool (w_res rfl) w_lit) rfl

/-! ### the attachment: holds_open's last premise (the goal 'hc' behind k_head) from a wpAny of the law's body -/
/-- the same from a codeAny of the CALL (for a layer whose function contracts speak of calls) -/
theorem attach_call {l : OpenLaw} {n : Nat} {q : Program} {loose : List Str} {XP : (Str → Option Value) → Heap → Prop} {YP : World → Heap → Prop} {d : DefRec}
    (hn : l.most = some n) (hdf : d.params.defaults = [])
    (call : ∀ (w : World) (s₀ s₁ : Shared) (mg mb : Str → Option Value) (fa : Addr) (o : Obj) (pm cd doc : Value) (a : Addr) (vs : List Value) (ns : List Int),
      Ground q loose [] XP w s₀ mg mb s₁.heap → YP w s₁.heap →
      s₁.heap.get? fa = some o → o.data = .func (docDef d.name d.params d.body d.scope pm cd doc) → s₁.heap.CodeRec cd d.name → mg d.name = some (.ref fa) →
      s₁.heap.get? a = some { cls := .type "list", data := .seq vs.toArray } → IntsAre vs ns → ns.length ≤ n → s₁.gens = #[] →
      codeAny (model l.prog w) callerA (.call (.ref fa) ⟨[.ref a], []⟩) (fun r s' => r = .ok (.ret (.bool true)) ∧ OldK s₁.heap s'.heap ∧ s'.os = s₁.os ∧ AllBare s'.gens) s₁) :
    WalkO q loose XP YP l.row.toRowW d [] (fun f vs => PySem.call f vs) := by
  intro w s₀ s₁ mg mb G Y fa o pm cd doc dV kV ho hd hcd hD hmg hg args vals as hpre hlay hrd hwl hlo
  obtain rfl : dV = .none := Dflts.none hD hdf
  obtain rfl : kV = .none := Dflts.noKw hD
  obtain ⟨a, vs, ns, rfl, rfl, hobj, hints, hlen⟩ := script_of hn hpre hwl
  refine enter_call (codeAny_mono (call w s₀ s₁ mg mb fa o pm cd doc a vs ns G Y ho (fd_plain hd) hcd hmg hobj hints hlen hg) fun r s' hq => ?_)
  obtain ⟨rfl, h2, h3, h4⟩ := hq
  exact ⟨.inl ⟨.bool true, .bool true, [], rfl, fun _ => rfl, .bool true, post_true l _, fun _ => ⟨List.Pairwise.nil, fun _ hm => (nomatch hm)⟩⟩, h2, h3, h4⟩

/-! ### rules over ANY heap (no ledger) from facts about the written part K: the library's own take a ledger (News) for what they write -/
section
variable {prog : Program} {w : World} {A : Around} {E : Value → Shared → Prop} {s : Shared} {K : Frag}

/-! the whole heap as the ledger: makes every rule that writes through a ledger a rule over any heap -/
def noObjs (h : Heap) : Heap := { h with objs := #[] }
def ledger (h : Heap) (L d : Addr) : List (Addr × Obj) := (List.range h.objs.size).filterMap fun a => if a = L ∨ a = d then none else (h.get? a).map fun o => (a, o)
end
end Att

namespace L2
open PySem PySem.Spec PyProof.Rows

theorem vals_ints : ∀ {vs : List Value} {ns : List Int}, IntsAre vs ns → Vals (ns.map V.int) vs
  | _, _, .nil => .nil
  | _, _, .cons n t h => .cons ⟨t, rfl⟩ (vals_ints h)

/-- nothing is tracked but the script, known to the object (or it is an object of the module) -/
def Only (H : Hp) : Prop := ∀ b, H b = none ∨ ∃ o xs, H b = some (.frz o (.lst xs))

end L2

namespace L2
open PySem PySem.Spec PyProof.Rows

abbrev KOf {K : PySem.W.Frag} {h : Heap} (_ : K.In h) : PySem.W.Frag := K

end L2

/- THE LAST THEOREM (shape; LID, My.* are yours):
   My.Adr: a structure of the addresses that your layer names (classes, functions); My.Txt K t: a structure (Prop) of the equations over K;
   My.txt_mk : {K} {implicit addresses ..} (e1 : nsIn K mainGlobals "law" = some (some (.ref f))) (e2 : K.lookup f = some ⟨oc, od, .func (fnOf "law" "law" params body scope dV kV doc pm an cdv ct), sl⟩) (e3 : codeIn K cdv "law" = true) .. : ∃ t, My.Txt K t

set_option maxRecDepth 100000 in
set_option maxHeartbeats 0 in
theorem PySem.Challenge.cw_LID_holds : PySem.Challenge.rw_LID.Holds := by
  w_on; o_law; k_head; (case hw => w_witness2)
  k_fill
  refine L2.walk_of (l := PySem.Challenge.rw_LID) (n := 63) (k := 40) (x := "script") (CX := fun w => ..) (sp := fun _ => My.sp_law) rfl (by decide) rfl ⟨rfl, by decide, by decide⟩ (fun w h Y => PySem.W.kIn_of Y) ?F ?S ?C
  case F =>
    intro w mg fa h KX G hmg
    have T : ∃ t, My.Txt (L2.KOf KX) t := by
      dsimp only [L2.KOf]                          -- K must stand as «<heap const> w.params» for k_is
      refine' My.txt_mk ?e1 ?e2 ?e3 ..
      (case e1 => PySem.W.k_is)                    -- in the order: a name -> its address -> its object -> its parts
      (case e2 => PySem.W.k_is)
      ..
    obtain ⟨t, T⟩ := T
    have e0 := hmg.symm.trans (PySem.W.mg_of KX G T.law)
    cases e0                                       -- fa is the law's own address
    exact ⟨_, fun s u => .of_eq rfl, fun base kb nb => My.law_fn T kb nb⟩     -- if «.of_eq rfl» comes too early: refine' ⟨_, ?b, fun base kb nb => My.law_fn T kb nb⟩; exact fun s u => .of_eq rfl
  case S => exact fun w H a ns hl hO hS => ..
  case C => exact ..
(the tactic k_is has no namespace: write k_is) -/

/-! SHORT WORDS over the layer: a def of the text, its body, what a loop and a test want. -/
namespace L2
open PySem PySem.Spec PyProof.Rows

/-! ### the text by places -/
/-- the j-th statement of a class's body -/
def inClass (s : Stmt) (j : Nat) : Stmt := match s with
  | .ClassDef _ _ _ body _ _ _ _ _ _ _ => body.getD j (.Pass ⟨0, 0, 0, 0⟩)
  | _ => .Pass ⟨0, 0, 0, 0⟩
def defArgs (s : Stmt) : Arguments := match s with
  | .FunctionDef _ a _ _ _ _ _ _ _ _ => a
  | _ => { posonlyargs := [], args := [], vararg := none, kwonlyargs := [], kw_defaults := [], kwarg := none, defaults := [] }
def defBody (s : Stmt) : List Stmt := match s with
  | .FunctionDef _ _ b _ _ _ _ _ _ _ => b
  | _ => []
def defScope (s : Stmt) : Scope := match s with
  | .FunctionDef _ _ _ _ _ _ sc _ _ _ => sc
  | _ => { kind := .function, names := [], isGenerator := false, isCoroutine := false }

/-! ### no exception leaves a def -/
abbrev CX0 : CXT := fun _ _ _ _ _ _ => False
abbrev E0 : XK := fun _ _ _ => False
theorem pass0 {X : Cx} : Passes CX0 X E0 := fun _ _ _ _ _ _ _ h => h.elim

/-! ### a def (or method) of the text as it stands behind the top -/
structure Fun (K : PySem.W.Frag) (x qual : Str) (st : Stmt) (f : Addr) (fd : FuncData) : Prop where
  ex : ∃ (oc : Value) (od : Option Addr) (kV doc pm : Value) (an : Option Addr) (cdv ct : Value) (osl : Array (Option Value)),
    fd = PySem.W.fnOf x qual (defArgs st) (defBody st) (defScope st) .none kV doc pm an cdv ct ∧ K.lookup f = some ⟨oc, od, .func fd, osl⟩ ∧ PySem.W.codeIn K cdv qual = true
  kp : PySem.W.keepIn K (.ref f) = true
section
variable {P : Program} {w : World} {K : PySem.W.Frag} {mg : Str → Option Value} {base : Heap}
/-- THE RULE for a def: its body as a term of rules, and the reading of that term -/
theorem Fun.ok {x qual : Str} {st : Stmt} {f : Addr} {fd : FuncData} {N ps : List Str} {k : Nat} {sp : Sp} (F : Fun K x qual st f fd) (S : FnScope N ps (defScope st)) (len : ∀ vs H Q E, sp vs H Q E → vs.length = ps.length)
    (hbody : ∀ (cdv : Value) (A : Around) (outer : List Env) (s : Shared) (H : Hp) (vs : List V) (Q : VK) (E : XK), Room k (A.deeper (envOfC qual (defScope st) s.heap.objs.size f cdv)) → sp vs H Q E →
      ∃ t, PSs (cxOf CX0 P w K mg base N qual (defScope st) f cdv A outer s H E).nox (defBody st) t ∧ t { nx := fun _ H' => Q .non H', rt := Q } (start N vs) H) : FnOk P w K mg base CX0 (k + 1) f fd ps sp := by
  obtain ⟨oc, od, kV, doc, pm, an, cdv, ct, osl, rfl, lk, hcd⟩ := F.ex
  refine fn_of lk hcd S len fun A outer s H vs Q E hr hsp => ?_
  obtain ⟨t, h, q⟩ := hbody cdv A outer s H vs Q E hr hsp
  exact ⟨t, h.nox, q⟩
theorem fun_mk {x qual : Str} {st : Stmt} {f : Addr} {oc : Value} {od an : Option Addr} {osl : Array (Option Value)} {kV doc pm cdv ct : Value} (l : K.lookup f = some ⟨oc, od, .func (PySem.W.fnOf x qual (defArgs st) (defBody st) (defScope st) .none kV doc pm an cdv ct), osl⟩)
    (c : PySem.W.codeIn K cdv qual = true) (k : PySem.W.keepIn K (.ref f) = true) : Fun K x qual st f (PySem.W.fnOf x qual (defArgs st) (defBody st) (defScope st) .none kV doc pm an cdv ct) := ⟨⟨oc, od, kV, doc, pm, an, cdv, ct, osl, rfl, l, c⟩, k⟩
end
/-! ### expressions in short: the name that stands in the i-th slot -/
section
variable {X : Cx}
theorem pv (i : Nat) {x : Str} {pos : Pos} (hN : X.N[i]? = some x := by rfl) (hv : Vis X.env.scope x := by first | exact Or.inl rfl | exact Or.inr (Or.inl rfl) | exact Or.inr (Or.inr rfl)) (hd : (x == ("__debug__" : Str)) = false := by decide)
    (hcd : (x == ("__classdict__" : Str)) = false := by decide) : PE X (.Name x pos) (tVar i) := pe_var hN hv hd hcd
end

/-! ### tests -/
theorem iteF {A B : Prop} (h : B) : if false = true then A else B := by
  rw [if_neg Bool.false_ne_true]
  exact h
theorem iteT {A B : Prop} (h : A) : if true = true then A else B := by
  rw [if_pos rfl]
  exact h
theorem ite2 {c A B : Prop} [Decidable c] (h1 : c → A) (h2 : ¬ c → B) : if c then A else B := by
  by_cases h : c
  · rw [if_pos h]
    exact h1 h
  · rw [if_neg h]
    exact h2 h
/-! ### heaps -/
/-- all that was tracked is as it was -/
def Same (H H' : Hp) : Prop := ∀ b o, H b = some o → H' b = some o
theorem Same.refl (H : Hp) : Same H H := fun _ _ h => h
theorem Same.trans {H H1 H2 : Hp} (a : Same H H1) (b : Same H1 H2) : Same H H2 := fun c o h => b c o (a c o h)
theorem Same.free {H H' : Hp} (e : Same H H') {l : Addr} (h : H' l = Option.none) : H l = Option.none := by
  cases q : H l with
  | none => rfl
  | some o =>
    rw [e l o q] at h
    cases h
theorem Same.seq {K : PySem.W.Frag} {H H' : Hp} {a : Addr} {xs : List V} (e : Same H H') (h : SqL K H a xs) : SqL K H' a xs := by
  rcases h with (h | ⟨o, h⟩) | h
  · exact .inl (.inl (e _ _ h))
  · exact .inl (.inr ⟨o, e _ _ h⟩)
  · exact .inr h

end L2

namespace L2
open PySem PySem.Spec PyProof.Rows

/-! ### lists of pairs as tables -/
section
variable {κ : Type} [DecidableEq κ]
def valV (kvs : List (κ × V)) (k : κ) : Option V := (kvs.find? fun kv => decide (kv.1 = k)).map (·.2)
/-- in its place, or at the end -/
def putK (kvs : List (κ × V)) (k : κ) (v : V) : List (κ × V) :=
  if (kvs.any fun kv => decide (kv.1 = k)) = true then kvs.map (fun kv => if kv.1 = k then (kv.1, v) else kv) else kvs ++ [(k, v)]
def dropK (kvs : List (κ × V)) (k : κ) : List (κ × V) := kvs.filter fun kv => decide (kv.1 ≠ k)

theorem valV_nil {k : κ} : valV ([] : List (κ × V)) k = none := rfl
theorem valV_pos {p : κ × V} {r : List (κ × V)} {k : κ} (e : p.1 = k) : valV (p :: r) k = some p.2 := by simp [valV, List.find?_cons, e]
theorem valV_neg {p : κ × V} {r : List (κ × V)} {k : κ} (e : ¬ p.1 = k) : valV (p :: r) k = valV r k := by simp [valV, List.find?_cons, e]
theorem valV_any (k : κ) : ∀ kvs : List (κ × V), (kvs.any fun kv => decide (kv.1 = k)) = (valV kvs k).isSome
  | [] => rfl
  | p :: r => by
    rw [List.any_cons]
    by_cases e : p.1 = k
    · simp only [valV_pos e, decide_eq_true e, Bool.true_or, Option.isSome_some]
    · rw [valV_neg e, decide_eq_false e, Bool.false_or]; exact valV_any k r
theorem valV_map (k j : κ) (y : V) : ∀ kvs : List (κ × V), valV (kvs.map fun kv => if kv.1 = k then (kv.1, y) else kv) j = (valV kvs j).map fun x => if j = k then y else x
  | [] => rfl
  | p :: r => by
    have ih := valV_map k j y r
    rw [List.map_cons]
    by_cases h : p.1 = k
    · rw [if_pos h]
      by_cases e : p.1 = j
      · rw [valV_pos (p := (p.1, y)) e, valV_pos e, Option.map_some, if_pos (e.symm.trans h)]
      · rw [valV_neg (p := (p.1, y)) e, valV_neg e, ih]
    · rw [if_neg h]
      by_cases e : p.1 = j
      · rw [valV_pos (p := p) e, valV_pos e, Option.map_some, if_neg (fun z => h (e.trans z))]
      · rw [valV_neg (p := p) e, valV_neg e, ih]
theorem valV_snoc (k j : κ) (y : V) : ∀ kvs : List (κ × V), valV kvs k = none → valV (kvs ++ [(k, y)]) j = if j = k then some y else valV kvs j
  | [], _ => by
    by_cases e : k = j
    · rw [if_pos e.symm]; exact valV_pos (p := (k, y)) e
    · rw [if_neg (fun z => e z.symm)]; exact valV_neg (p := (k, y)) e
  | p :: r, hn => by
    rw [List.cons_append]
    have hk : ¬ p.1 = k := fun z => by rw [valV_pos z] at hn; cases hn
    rw [valV_neg hk] at hn
    have ih := valV_snoc k j y r hn
    by_cases e : p.1 = j
    · rw [valV_pos e, valV_pos e, if_neg (fun z => hk (e.trans z))]
    · rw [valV_neg e, valV_neg e, ih]
theorem valV_put (kvs : List (κ × V)) (k j : κ) (y : V) : valV (putK kvs k y) j = if j = k then some y else valV kvs j := by
  unfold putK
  by_cases a : (kvs.any fun kv => decide (kv.1 = k)) = true
  · rw [if_pos a, valV_map]
    rw [valV_any] at a
    by_cases e : j = k
    · obtain ⟨x, hx⟩ := Option.isSome_iff_exists.mp a
      rw [if_pos e, e, hx, Option.map_some, if_pos rfl]
    · rw [if_neg e]
      cases valV kvs j with
      | none => rfl
      | some x => rw [Option.map_some, if_neg e]
  · rw [if_neg a]
    refine valV_snoc k j y kvs ?_
    rw [valV_any] at a
    cases q : valV kvs k with
    | none => rfl
    | some x => rw [q] at a; exact (a rfl).elim
theorem length_putK (kvs : List (κ × V)) (k : κ) (v : V) : (putK kvs k v).length ≤ kvs.length + 1 := by
  unfold putK
  split
  · rw [List.length_map]; omega
  · rw [List.length_append, List.length_cons, List.length_nil]; omega
theorem RelO.isSome_eq {o : Option V} {u : Option Value} (r : RelO o u) : o.isSome = u.isSome := by
  cases o with
  | none => cases u with
    | none => rfl
    | some _ => exact (show False from r).elim
  | some _ => cases u with
    | none => exact (show False from r).elim
    | some _ => rfl
theorem RelO.getD {o : Option V} {u : Option Value} {d : V} {d' : Value} (r : RelO o u) (rd : RelV d d') : RelV (o.getD d) (u.getD d') := by
  cases o with
  | none => cases u with
    | none => exact rd
    | some _ => exact (show False from r).elim
  | some _ => cases u with
    | none => exact (show False from r).elim
    | some _ => exact r

/-- raw tables of the same keys -/
theorem KV.val {kvs : List (κ × V)} {vs : List (κ × Value)} (r : KV kvs vs) (k : κ) : RelO (valV kvs k) (valueAt vs k) := by
  unfold KV at r
  induction r with
  | nil => exact True.intro
  | @cons p q ps qs h t ih =>
    obtain ⟨h1, h2⟩ := h
    by_cases e : p.1 = k
    · have e' : q.1 = k := h1.symm.trans e
      have b : valueAt (q :: qs) k = some q.2 := by simp [valueAt, List.find?_cons, e']
      rw [valV_pos e, b]; exact h2
    · have e' : ¬ q.1 = k := fun z => e (h1.trans z)
      have b : valueAt (q :: qs) k = valueAt qs k := by simp [valueAt, List.find?_cons, e']
      rw [valV_neg e, b]; exact ih
theorem KV.any {kvs : List (κ × V)} {vs : List (κ × Value)} (r : KV kvs vs) (k : κ) : (kvs.any fun kv => decide (kv.1 = k)) = vs.any fun kv => decide (kv.1 = k) := by
  unfold KV at r
  induction r with
  | nil => rfl
  | cons h t ih => rw [List.any_cons, List.any_cons, ih, h.1]
theorem KV.repl {kvs : List (κ × V)} {vs : List (κ × Value)} (r : KV kvs vs) (k : κ) {y : V} {u : Value} (ry : RelV y u) :
    KV (kvs.map fun kv => if kv.1 = k then (kv.1, y) else kv) (vs.map fun kv => if kv.1 = k then (kv.1, u) else kv) := by
  unfold KV at r ⊢
  induction r with
  | nil => exact .nil
  | @cons p q ps qs h t ih =>
    rw [List.map_cons, List.map_cons]
    refine .cons ?_ ih
    obtain ⟨h1, h2⟩ := h
    by_cases e : p.1 = k
    · rw [if_pos e, if_pos (h1.symm.trans e)]; exact ⟨h1, ry⟩
    · rw [if_neg e, if_neg (fun z => e (h1.trans z))]; exact ⟨h1, h2⟩
theorem KV.put {kvs : List (κ × V)} {vs : List (κ × Value)} (r : KV kvs vs) (k : κ) {y : V} {u : Value} (ry : RelV y u) : KV (putK kvs k y) (stored vs k u) := by
  unfold putK stored
  rw [r.any k]
  by_cases e : (vs.any fun kv => decide (kv.1 = k)) = true
  · rw [if_pos e, if_pos e]; exact r.repl k ry
  · rw [if_neg e, if_neg e]; exact Paired.snoc r ⟨rfl, ry⟩
theorem KV.length {kvs : List (κ × V)} {vs : List (κ × Value)} (r : KV kvs vs) : kvs.length = vs.length := Paired.length r
end


/-! ### a tracked dict, its keys ints and texts or tuples of these -/
theorem kV_is {P : Program} {w : World} {k : Key} {u : Value} (r : RelV (kV k) u) : (mixKind P w).is k u = true := by
  cases k with
  | inl i => obtain ⟨t, e⟩ := (show ∃ t, u = Value.int i t from r); subst e; exact mixKind_int P w i t
  | inr x => obtain ⟨t, e⟩ := (show ∃ t, u = Value.str x t from r); subst e; exact mixKind_str P w x t
theorem items_are {P : Program} {w : World} : ∀ {ks : List Key} {us : List Value}, Vals (ks.map kV) us → ItemsAre (mixKind P w) ks us
  | [], _, r => by rw [List.map_nil] at r; cases r; exact .nil
  | k :: ks, _, r => by
    rw [List.map_cons] at r
    cases r with
    | cons h t => exact .cons (kV_is h) (items_are t)

/-- raw entries of a dict with tuple keys -/
abbrev KT (H : Hp) : List (List Key × V) → List (List Key × Addr × Value) → Prop := Paired fun p q => p.1 = q.1 ∧ H q.2.1 = some (.tup (p.1.map kV)) ∧ RelV p.2 q.2.2
theorem KT.val {H : Hp} {kvs : List (List Key × V)} {xs : List (List Key × Addr × Value)} (r : KT H kvs xs) (k : List Key) : RelO (valV kvs k) ((atKey xs k).map (·.2)) := by
  induction r with
  | nil => exact True.intro
  | @cons p q ps qs h t ih =>
    obtain ⟨h1, _, h2⟩ := h
    by_cases e : p.1 = k
    · have e' : q.1 = k := h1.symm.trans e
      have b : atKey (q :: qs) k = some q.2 := by simp [atKey, List.find?_cons, e']
      rw [valV_pos e, b]; exact h2
    · have e' : ¬ q.1 = k := fun z => e (h1.trans z)
      have b : atKey (q :: qs) k = atKey qs k := by simp [atKey, List.find?_cons, e']
      rw [valV_neg e, b]; exact ih
theorem KT.repl {H : Hp} {kvs : List (List Key × V)} {xs : List (List Key × Addr × Value)} (r : KT H kvs xs) (k : List Key) {y : V} {u : Value} (ry : RelV y u) :
    KT H (kvs.map fun kv => if kv.1 = k then (kv.1, y) else kv) (xs.map (putAt k u)) := by
  induction r with
  | nil => exact .nil
  | @cons p q ps qs h t ih =>
    rw [List.map_cons, List.map_cons]
    refine .cons ?_ ih
    obtain ⟨h1, h2, h3⟩ := h
    unfold putAt
    by_cases e : p.1 = k
    · rw [if_pos e, if_pos (h1.symm.trans e)]; exact ⟨h1, h2, ry⟩
    · rw [if_neg e, if_neg (fun z => e (h1.trans z))]; exact ⟨h1, h2, h3⟩
theorem KT.put {H : Hp} {kvs : List (List Key × V)} {xs : List (List Key × Addr × Value)} (r : KT H kvs xs) (k : List Key) {b : Addr} {y : V} {u : Value} (hb : H b = some (.tup (k.map kV))) (ry : RelV y u) :
    KT H (putK kvs k y) (storedH xs k b u) := by
  have e : (kvs.any fun kv => decide (kv.1 = k)) = (atKey xs k).isSome := by
    rw [valV_any, (r.val k).isSome_eq, Option.isSome_map]
  unfold putK storedH
  rw [e]
  by_cases q : (atKey xs k).isSome = true
  · rw [if_pos q, if_pos q]; exact r.repl k ry
  · rw [if_neg q, if_neg q]; exact Paired.snoc r ⟨rfl, hb, ry⟩
theorem KT.keeps {H H' : Hp} {kvs : List (List Key × V)} {xs : List (List Key × Addr × Value)} (r : KT H kvs xs) (ht : ∀ b ys, H b = some (.tup ys) → H' b = some (.tup ys)) : KT H' kvs xs :=
  Paired.mapP r fun _ _ z => ⟨z.1, ht _ _ z.2.1, z.2.2⟩

section
variable {P : Program} {w : World} {H : Hp} {h : Heap} {a : Addr}
theorem rd_of {u : HO} (ok : HOk P w H h) (e : Rd H a u) : ObjOk P w H h a u := e.ok ok
theorem dk_rd {kvs : List (Key × V)} (ok : HOk P w H h) (e : Rd H a (.dK kvs)) : kvs.length ≤ sizeLine ∧ (a == sysModules) = false ∧ ∃ vs, KV kvs vs ∧ h.DictOf (mixKind P w) a vs :=
  show ObjOk P w H h a (.dK kvs) from rd_of ok e
theorem dk_of {kvs : List (Key × V)} (ok : HOk P w H h) (e : H a = some (.dK kvs)) : kvs.length ≤ sizeLine ∧ (a == sysModules) = false ∧ ∃ vs, KV kvs vs ∧ h.DictOf (mixKind P w) a vs := dk_rd ok (.inl e)
/-- a tracked tuple of ints and texts is a key -/
theorem key_of {ks : List Key} (ok : HOk P w H h) (e : H a = some (.tup (ks.map kV))) : (tupleKind (mixKind P w)).is h ks a := by
  obtain ⟨_, its, r, o, h1, h2, n, h3⟩ := (show ObjOk P w H h a (.tup (ks.map kV)) from ok a _ e)
  exact ⟨o, its.toArray, n, h1, h2, h3, by simpa using items_are r⟩
theorem dt_rd {kvs : List (List Key × V)} (ok : HOk P w H h) (e : Rd H a (.dT kvs)) : kvs.length ≤ sizeLine ∧ (a == sysModules) = false ∧
    ∃ xs, KT H kvs xs ∧ h.DictOfH (tupleKind (mixKind P w)) a xs := by
  obtain ⟨z, y, xs, r, o, es, ep, h1, h2, h3, h4, h5⟩ := (show ObjOk P w H h a (.dT kvs) from rd_of ok e)
  refine ⟨z, y, xs, r, o, es, ep, h1, h2, h3, h4, fun x hx => ?_, h5⟩
  have all : ∀ {l : List (List Key × V)} {m : List (List Key × Addr × Value)}, KT H l m → ∀ x ∈ m, (tupleKind (mixKind P w)).is h x.1 x.2.1 := by
    intro l m q
    induction q with
    | nil => intro x hx; exact nomatch hx
    | @cons p q ps qs hq t ih =>
      intro x hx
      rcases List.mem_cons.mp hx with e | hx
      · subst e
        exact key_of ok (by rw [← hq.1]; exact hq.2.1)
      · exact ih x hx
  exact all r x hx
theorem dt_of {kvs : List (List Key × V)} (ok : HOk P w H h) (e : H a = some (.dT kvs)) : kvs.length ≤ sizeLine ∧ (a == sysModules) = false ∧
    ∃ xs, KT H kvs xs ∧ h.DictOfH (tupleKind (mixKind P w)) a xs := dt_rd ok (.inl e)
end

/-- what the dict at a holds at the key y -/
def DGet (H : Hp) (a : Addr) (y : V) (r : Option V) : Prop :=
  (∃ kvs k, Rd H a (.dK kvs) ∧ y = kV k ∧ r = valV kvs k) ∨ ∃ kvs k b, Rd H a (.dT kvs) ∧ y = .ref b ∧ H b = some (.tup (k.map kV)) ∧ r = valV kvs k
/-- the heap behind a[y] = v -/
def DPut (H : Hp) (a : Addr) (y v : V) (H' : Hp) : Prop :=
  (∃ kvs k, H a = some (.dK kvs) ∧ y = kV k ∧ kvs.length < sizeLine ∧ H' = upd H a (.dK (putK kvs k v))) ∨
  ∃ kvs k b, H a = some (.dT kvs) ∧ y = .ref b ∧ H b = some (.tup (k.map kV)) ∧ kvs.length < sizeLine ∧ H' = upd H a (.dT (putK kvs k v))
theorem DGet.k {H : Hp} {a : Addr} {kvs : List (Key × V)} {k : Key} (e : H a = some (.dK kvs)) : DGet H a (kV k) (valV kvs k) := .inl ⟨kvs, k, .inl e, rfl, rfl⟩
theorem DPut.k {H : Hp} {a : Addr} {kvs : List (Key × V)} {k : Key} {v : V} (e : H a = some (.dK kvs)) (hl : kvs.length < sizeLine) : DPut H a (kV k) v (upd H a (.dK (putK kvs k v))) := .inl ⟨kvs, k, e, rfl, hl, rfl⟩
section
variable {X : Cx} {pins : List (Addr × Obj)} {σ : St} {H : Hp} {s : Shared} {a : Addr} {y v : V} {u r : Value} {o : Option V} {A : Around} {E : Value → Shared → Prop}

theorem Inv.big (I : Inv X pins σ H s) : sysModules < s.heap.objs.size := by
  have h : mainGlobals < s.heap.objs.size := (I.mod.glob.keeps I.bk).lt
  exact Nat.lt_trans (by decide) h

theorem d_notIn {Q : Value → Shared → Prop} (hu : A.units + 1 < cLine) (I : Inv X pins σ H s) (g : DGet H a y o) (ry : RelV y u) (h : ∀ s', Inv X pins σ H s' → Q (.bool (!o.isSome)) s') :
    wpAny (model X.prog X.w) A (compareOp .NotIn u (.ref a)) Q E s := by
  rcases g with ⟨kvs, k, e, ey, l⟩ | ⟨kvs, k, b, e, ey, eb, l⟩
  · subst ey
    obtain ⟨z, hd, vs, rel, dd⟩ := dk_rd I.hok e
    refine wpAny_notIn_of (kV_is ry) hd dd.mapOf ?_
    rw [← (rel.val k).isSome_eq, ← l]
    exact h _ (I.tok _)
  · subst ey
    cases (show u = Value.ref b from ry)
    obtain ⟨z, hd, xs, rel, dd⟩ := dt_rd I.hok e
    refine wpAny_notIn_heap (tupleKind_room_in1 hu) (key_of I.hok eb) hd dd ?_
    have q := (rel.val k).isSome_eq
    rw [Option.isSome_map] at q
    rw [← q, ← l]
    exact h _ (I.tok _)
/-- a dict's object is replaced -/
theorem d_write {h' : Heap} {t' : Nat} {ob : HO} (I : Inv X pins σ H s) (mu : Mut (H a)) (hs : Heap.SameBut a s.heap h') (he : ∃ q, h'.get? a = some q) (new : ObjOk X.prog X.w (upd H a ob) h' a ob) :
    Inv X pins σ (upd H a ob) { s with heap := h', toks := t' } :=
  I.write (x := a) (e := a) mu (.inl rfl) (fun b q hb z => (hs.2 b hb).trans z) he new
theorem dk_new {P : Program} {w : World} {H' : Hp} {h' : Heap} {kvs : List (Key × V)} {vs : List (Key × Value)} (z : kvs.length ≤ sizeLine) (hd : (a == sysModules) = false) (rel : KV kvs vs) (dd : h'.DictOf (mixKind P w) a vs) :
    ObjOk P w H' h' a (.dK kvs) := ⟨z, hd, vs, rel, dd⟩
/-- d[y] = v -/
theorem d_setItem {H' : Hp} {Q : Unit → Shared → Prop} (hu : A.units + 1 < cLine) (I : Inv X pins σ H s) (g : DPut H a y v H') (ry : RelV y u) (rv : RelV v r) (h : ∀ s', Inv X pins σ H' s' → Q () s') :
    wpAny (model X.prog X.w) A (setItem (.ref a) u r) Q E s := by
  rcases g with ⟨kvs, k, e, ey, l, eH⟩ | ⟨kvs, k, b, e, ey, eb, l, eH⟩
  · subst ey eH
    obtain ⟨z, hd, vs, rel, dd⟩ := dk_of I.hok e
    have hz : vs.length ≤ sizeLine := by rw [← rel.length]; exact z
    have hl : (putK kvs k v).length ≤ sizeLine := by have := length_putK kvs k v; omega
    refine wpAny_setItem_pairs (hsz := hz) (kV_is ry) dd fun h' dd' hs => h _ ?_
    have he : ∃ q, h'.get? a = some q := let ⟨q, _, _, hq, _⟩ := dd'; ⟨q, hq⟩
    exact d_write I (by rw [e]; exact True.intro) hs he (dk_new hl hd (rel.put k rv) dd')
  · subst ey eH
    cases (show u = Value.ref b from ry)
    obtain ⟨z, hd, xs, rel, dd⟩ := dt_of I.hok e
    have hz : xs.length ≤ sizeLine := by rw [← Paired.length rel]; exact z
    have hl : (putK kvs k v).length ≤ sizeLine := by have := length_putK kvs k v; omega
    refine wpAny_setItem_heap (hsz := hz) (tupleKind_room_in1 hu) (key_of I.hok eb) dd fun h' dd' hs => h _ ?_
    obtain ⟨q, es, ep, hq, h2, h3, h4, _, h5⟩ := dd'
    refine d_write I (by rw [e]; exact True.intro) hs ⟨q, hq⟩ ⟨hl, hd, _, (rel.put k eb rv).keeps fun c ys ec => ?_, q, es, ep, hq, h2, h3, h4, h5⟩
    rw [upd_ne (ne_of ec e (fun z => nomatch z))]
    exact ec
end

section
variable {X : Cx} {pins : List (Addr × Obj)} {σ : St} {H : Hp} {s : Shared} {a : Addr} {kvs : List (Key × V)} {k : Key} {u : Value} {A : Around} {E : Value → Shared → Prop}
end


/-! ### readings and rules -/
/-- the element of a subscription, not a slice -/
def NoSl (i : Expr) : Prop := ∀ ov iv, subscripted i false ov iv = operate [ov, iv] (getItem ov iv)
/-- d[y] -/
def tDGet (td ty : TE) : TE := fun σ H Q => td σ H fun x H1 => ty σ H1 fun y H2 => ∃ a v, x = .ref a ∧ DGet H2 a y (some v) ∧ Q v H2
/-- y in d, y not in d -/
def tDIn (ty td : TE) : TE := fun σ H Q => ty σ H fun y H1 => td σ H1 fun x H2 => ∃ a o, x = .ref a ∧ DGet H2 a y o ∧ Q (.bl o.isSome) H2
def tDNotIn (ty td : TE) : TE := fun σ H Q => ty σ H fun y H1 => td σ H1 fun x H2 => ∃ a o, x = .ref a ∧ DGet H2 a y o ∧ Q (.bl (!o.isSome)) H2
/-- d[y] = v -/
def sDPut (td ty tv : TE) : TS := fun D σ H => tv σ H fun v H1 => td σ H1 fun x H2 => ty σ H2 fun y H3 => ∃ a H4, x = .ref a ∧ DPut H3 a y v H4 ∧ D.nx σ H4
/-- d[y] op= v -/
def sDAug (td ty tv : TE) (rd : V → V → Hp → VK → Prop) : TS := fun D σ H => td σ H fun x H1 => ty σ H1 fun y H2 => ∃ a v, x = .ref a ∧ DGet H2 a y (some v) ∧
  tv σ H2 fun y2 H3 => rd v y2 H3 fun z H4 => ∃ H5, DPut H4 a y z H5 ∧ D.nx σ H5
/-- del d[y] -/
def sDDel (td ty : TE) : TS := fun D σ H => td σ H fun x H1 => ty σ H1 fun y H2 => ∃ a kvs k, x = .ref a ∧ H2 a = some (.dK kvs) ∧ y = kV k ∧ (valV kvs k).isSome = true ∧ D.nx σ (upd H2 a (.dK (dropK kvs k)))

section
variable {X : Cx} {o i e value : Expr} {pos pos' tpos : Pos} {td ty tv : TE}
theorem pc_dnotin (hu : X.A.units + 1 < cLine) (hi : PE X i ty) (ho : PE X o td) : PC X .NotIn i o (tDNotIn ty td) := by
  intro pins s σ H Q I h
  refine thn (hi pins s σ H _ I h) fun iv s1 ⟨y, H1, I1, ry, q1⟩ => thn (ho pins s1 σ H1 _ I1 q1) fun u s2 ⟨x, H2, I2, rx, a, ov, ex, g, q2⟩ => ?_
  subst ex
  obtain rfl : u = Value.ref a := rx
  exact d_notIn hu I2 g ry fun s3 I3 => ⟨.bl (!ov.isSome), H2, I3, rfl, q2⟩
theorem ps_dput (hu : X.A.units + 1 < cLine) (ho : PE X o td) (hi : PE X i ty) (hv : PE X value tv) (hs : swapsWith value (some (.Subscript o i pos')) pos.line X.env = pure false) :
    PS X (.Assign [.Subscript o i pos'] value pos) (sDPut td ty tv) := by
  intro pins s σ H D I h
  refine wpAny_Assign_Subscript (thn (hv pins s σ H _ I h) fun r s1 ⟨v, H1, I1, rv, q1⟩ => thn (ho pins s1 σ H1 _ I1 q1) fun u s2 ⟨x, H2, I2, rx, q2⟩ => thn (hi pins s2 σ H2 _ I2 q2) fun iv s3 ⟨y, H3, I3, ry, a, H4, ex, g, q3⟩ => ?_) hs
  subst ex
  obtain rfl : u = Value.ref a := rx
  exact d_setItem hu I3 g ry rv fun s4 I4 => ⟨σ, H4, I4, q3⟩
end


/-! ### displays -/
theorem dk_empty {P : Program} {w : World} {H : Hp} (h : Heap) (hb : sysModules < h.objs.size) : ObjOk P w H (h.push { cls := .type "dict", data := .dict #[] }) h.objs.size (.dK []) :=
  ⟨Nat.zero_le _, beq_eq_false_iff_ne.mpr (Ne.symm (Nat.ne_of_lt hb)), [], .nil, Heap.DictOf.new h⟩
/-- {}, to be a dict of the kind that is wanted -/
def tDNewK : TE := fun _ H Q => ∀ p, H p = none → Q (.ref p) (upd H p (.dK []))
def tDNewT : TE := fun _ H Q => ∀ p, H p = none → Q (.ref p) (upd H p (.dT []))
section
variable {X : Cx} {pos : Pos}
theorem pe_dnewK : PE X (.Dict [] [] pos) tDNewK := fun pins s σ H Q I h =>
  wpAny_Dict_empty ⟨.ref s.heap.objs.size, _, I.laid (a := s.heap.objs.size) (o := .dK []) (t' := s.toks) (fun _ _ q => Heap.get?_push_of_some _ q) (Nat.le_refl _) (dk_empty s.heap I.big), rfl, h _ (I.hok.fresh (Nat.le_refl _))⟩
end

/-- the pairs of a display, from the left -/
def tPairs : List (TE × TE) → St → Hp → (List (V × V) → Hp → Prop) → Prop
  | [], _, H, Q => Q [] H
  | (tk, tv) :: r, σ, H, Q => tk σ H fun x H1 => tv σ H1 fun y H2 => tPairs r σ H2 fun ps H3 => Q ((x, y) :: ps) H3
abbrev VV : List (V × V) → List (Value × Value) → Prop := Paired fun p q => RelV p.1 q.1 ∧ RelV p.2 q.2
def PPs (X : Cx) (pos : Pos) (keys : List (Option Expr)) (values : List Expr) (trs : List (TE × TE)) : Prop :=
  ∀ (pins : List (Addr × Obj)) (s : Shared) (σ : St) (H : Hp) (Q : List (V × V) → Hp → Prop), Inv X pins σ H s → tPairs trs σ H Q →
    wpAny (model X.prog X.w) X.A (evalPairs (pairTrees keys values X.env pos)) (fun vs s' => ∃ ps H', Inv X pins σ H' s' ∧ VV ps vs ∧ Q ps H') X.xe s
theorem pps_nil {X : Cx} {pos : Pos} : PPs X pos [] [] [] := fun pins s σ H Q I h => pairTrees_nil_walk ⟨[], H, I, .nil, h⟩
theorem pps_cons {X : Cx} {pos : Pos} {k v : Expr} {ks : List (Option Expr)} {vs : List Expr} {tk tv : TE} {trs : List (TE × TE)} (hk : PE X k tk) (hv : PE X v tv) (hr : PPs X pos ks vs trs) :
    PPs X pos (some k :: ks) (v :: vs) ((tk, tv) :: trs) := fun pins s σ H Q I h =>
  pairTrees_cons_walk (thn (hk pins s σ H _ I h) fun u s1 ⟨x, H1, I1, rx, q1⟩ => thn (hv pins s1 σ H1 _ I1 q1) fun w2 s2 ⟨y, H2, I2, ry, q2⟩ =>
    thn (hr pins s2 σ H2 _ I2 q2) fun ws s3 ⟨ps, H3, I3, rel, q3⟩ => ⟨(x, y) :: ps, H3, I3, .cons ⟨rx, ry⟩ rel, q3⟩)

def mergeK (kvs more : List (Key × V)) : List (Key × V) := more.foldl (fun acc kv => putK acc kv.1 kv.2) kvs
theorem KV.merge : ∀ {more : List (Key × V)} {rs : List (Key × Value)} {kvs : List (Key × V)} {vs : List (Key × Value)}, KV more rs → KV kvs vs → KV (mergeK kvs more) (merged vs rs) := by
  intro more rs kvs vs r
  unfold KV at r
  induction r generalizing kvs vs with
  | nil => intro q; exact q
  | @cons p q ps qs h t ih =>
    intro r0
    have e : KV (putK kvs p.1 p.2) (stored vs q.1 q.2) := by
      have := r0.put p.1 h.2
      rw [← h.1]; exact this
    exact ih e
theorem length_mergeK : ∀ (more kvs : List (Key × V)), (mergeK kvs more).length ≤ kvs.length + more.length
  | [], kvs => by show kvs.length ≤ kvs.length + 0; omega
  | p :: r, kvs => by
    have h1 := length_mergeK r (putK kvs p.1 p.2)
    have h2 := length_putK kvs p.1 p.2
    show (mergeK (putK kvs p.1 p.2) r).length ≤ _
    rw [List.length_cons]; omega
theorem carries_of {P : Program} {w : World} : ∀ {kvs : List (Key × V)} {ws : List (Value × Value)}, VV (kvs.map fun kv => (kV kv.1, kv.2)) ws → ∃ rs, Carries (mixKind P w) ws rs ∧ KV kvs rs
  | [], _, r => by rw [List.map_nil] at r; cases r; exact ⟨[], True.intro, .nil⟩
  | p :: kvs, _, r => by
    rw [List.map_cons] at r
    cases r with
    | @cons a b as bs h t =>
      obtain ⟨rs, c, q⟩ := carries_of (P := P) (w := w) t
      obtain ⟨b1, b2⟩ := b
      exact ⟨(p.1, b2) :: rs, ⟨kV_is h.1, rfl, c⟩, .cons ⟨rfl, h.2⟩ q⟩
/-- {k: v, ..} with keys ints and texts; the new dict stands empty while the pairs are made -/
def tDisp (trs : List (TE × TE)) : TE := fun σ H Q => ∀ p, H p = none → tPairs trs σ (upd H p (.dK [])) fun ps H2 => H2 p = some (.dK []) ∧ ∃ kvs : List (Key × V), ps = kvs.map (fun kv => (kV kv.1, kv.2)) ∧ kvs.length ≤ 15 ∧ Q (.ref p) (upd H2 p (.dK (mergeK [] kvs)))
theorem pe_disp {X : Cx} {pos : Pos} {keys : List (Option Expr)} {values : List Expr} {trs : List (TE × TE)} (h : PPs X pos keys values trs) (hall : keys.all (·.isSome) = true) (hl : keys.length = values.length) (h0 : keys ≠ [])
    (h15 : keys.length ≤ 15) : PE X (.Dict keys values pos) (tDisp trs) := by
  intro pins s σ H Q I q
  have hn := I.hok.fresh (Nat.le_refl s.heap.objs.size)
  have I1 := I.laid (a := s.heap.objs.size) (o := .dK []) (h' := s.heap.push { cls := .type "dict", data := .dict #[] }) (t' := s.toks) (fun _ _ q => Heap.get?_push_of_some _ q) (Nat.le_refl _) (dk_empty s.heap I.big)
  refine wpAny_Dict_walk (knd := mixKind X.prog X.w) hall hl h0 h15 (thn (h pins _ σ _ _ I1 (q _ hn)) fun ws s2 ⟨ps, H2, I2, rel, e, kvs, ep, lk, q2⟩ => ?_)
  subst ep
  obtain ⟨rs, c, rk⟩ := carries_of (P := X.prog) (w := X.w) rel
  obtain ⟨z, hd, vs0, r0, dd⟩ := dk_of I2.hok e
  cases r0
  refine ⟨rs, c, dd, fun h' dd' hs => ⟨.ref s.heap.objs.size, _, ?_, rfl, q2⟩⟩
  have hz : (mergeK [] kvs).length ≤ sizeLine := by
    have h1 := length_mergeK kvs []
    rw [List.length_nil] at h1
    rw [sizeLine_eq]; omega
  have he : ∃ q, h'.get? s.heap.objs.size = some q := let ⟨q, _, _, hq, _⟩ := dd'; ⟨q, hq⟩
  exact d_write I2 (by rw [e]; exact True.intro) hs he (dk_new hz hd (rk.merge .nil) dd')


/-! ### methods -/
/-- a method call o.m(e) of a built-in, with one argument: what must be seen of the text -/
structure M1 (X : Cx) (o : Expr) (m : Str) (apos : Pos) (e : Expr) (cpos : Pos) : Prop where
  base : attributeBase o m X.env (eval o X.env) = eval o X.env
  few : ((backTo cpos (starEach [e] X.env)).all (fun x => !x.1) && (backToKw cpos (keywordEach [] X.env)).all (fun x => x.1.isSome)
    && decide (([e] : List Expr).length + ([] : List Keyword).length + (if ([] : List Keyword).isEmpty then 0 else 1) < 30)) = true
  line : (apos.endLine == cpos.line) = true
  trees : backTo cpos (starEach [e] X.env) = [(false, eval e X.env)]
structure M2 (X : Cx) (o : Expr) (m : Str) (apos : Pos) (e f : Expr) (cpos : Pos) : Prop where
  base : attributeBase o m X.env (eval o X.env) = eval o X.env
  few : ((backTo cpos (starEach [e, f] X.env)).all (fun x => !x.1) && (backToKw cpos (keywordEach [] X.env)).all (fun x => x.1.isSome)
    && decide (([e, f] : List Expr).length + ([] : List Keyword).length + (if ([] : List Keyword).isEmpty then 0 else 1) < 30)) = true
  line : (apos.endLine == cpos.line) = true
  trees : backTo cpos (starEach [e, f] X.env) = [(false, eval e X.env), (false, eval f X.env)]

/-- a is a dict, whatever its keys -/
def IsD (H : Hp) (a : Addr) : Prop := (∃ kvs, Rd H a (.dK kvs)) ∨ ∃ kvs, Rd H a (.dT kvs)
theorem isD_at {X : Cx} {pins : List (Addr × Obj)} {σ : St} {H : Hp} {s : Shared} {a : Addr} (I : Inv X pins σ H s) (d : IsD H a) :
    s.TypeIs (.ref a) "dict" ∧ (∀ b, Value.ref a = .ref b → ∃ ob, s.heap.get? b = some ob ∧ ob.dict = none) ∧ (a == sysModules) = false := by
  rcases d with ⟨kvs, e⟩ | ⟨kvs, e⟩
  · obtain ⟨_, hd, vs, _, dd⟩ := dk_rd I.hok e
    refine ⟨dd.typeIs, fun b q => ?_, hd⟩
    cases q
    obtain ⟨ob, _, _, h1, h2, _⟩ := dd
    exact ⟨ob, h1, h2.2.1⟩
  · obtain ⟨_, hd, xs, _, dd⟩ := dt_rd I.hok e
    refine ⟨dd.typeIs, fun b q => ?_, hd⟩
    cases q
    obtain ⟨ob, _, _, h1, h2, _⟩ := dd
    exact ⟨ob, h1, h2.2.1⟩

section
variable {X : Cx} {pins : List (Addr × Obj)} {σ : St} {H : Hp} {s : Shared} {a : Addr} {y d : V} {u r : Value} {o : Option V} {A : Around} {E : Value → Shared → Prop}
/-- d.get(y) -/
theorem d_get1 {Q : Value → Shared → Prop} (hu : A.units + 1 < cLine) (I : Inv X pins σ H s) (g : DGet H a y o) (ry : RelV y u) (h : ∀ w' s', Inv X pins σ H s' → RelV (o.getD .non) w' → Q w' s') :
    wpAny (model X.prog X.w) A (call (.builtin "dict.get") [.ref a, u]) Q E s := by
  rcases g with ⟨kvs, k, e, ey, l⟩ | ⟨kvs, k, b, e, ey, eb, l⟩
  · subst ey
    obtain ⟨z, hd, vs, rel, dd⟩ := dk_rd I.hok e
    refine call_meetsIn PySem.F.slot_dict_get dd.typeIs PySem.F.entry_dict_get (PySem.F.args_dict_get_2 _ _) (meets_dict_get (mixKind X.prog X.w) a (kV_is ry) hd) ⟨_, dd.mapOf, h _ _ (I.tok _) ?_⟩
    rw [l]
    exact (rel.val k).getD rfl
  · subst ey
    cases (show u = Value.ref b from ry)
    obtain ⟨z, hd, xs, rel, dd⟩ := dt_rd I.hok e
    refine call_meetsIn PySem.F.slot_dict_get dd.typeIs PySem.F.entry_dict_get (PySem.F.args_dict_get_2 _ _) (meetsH_dict_get (tupleKind (mixKind X.prog X.w)) a b hd) ⟨tupleKind_room_in1 hu, k, xs, key_of I.hok eb, dd, h _ _ (I.tok _) ?_⟩
    rw [l]
    exact (rel.val k).getD rfl
end

def tDGet1 (td ty : TE) : TE := fun σ H Q => td σ H fun x H1 => ∃ a, x = .ref a ∧ IsD H1 a ∧ ty σ H1 fun y H2 => ∃ o, DGet H2 a y o ∧ Q (o.getD .non) H2
def tDGet2 (td ty tx : TE) : TE := fun σ H Q => td σ H fun x H1 => ∃ a, x = .ref a ∧ IsD H1 a ∧ ty σ H1 fun y H2 => tx σ H2 fun z H3 => ∃ o, DGet H3 a y o ∧ Q (o.getD z) H3
/-- d.pop(k): there; d.pop(k, x): there or not -/
def tDPop1 (td ty : TE) : TE := fun σ H Q => td σ H fun x H1 => ∃ a, x = .ref a ∧ IsD H1 a ∧ ty σ H1 fun y H2 => ∃ kvs k v, H2 a = some (.dK kvs) ∧ y = kV k ∧ valV kvs k = some v ∧ Q v (upd H2 a (.dK (dropK kvs k)))
def tDPop2 (td ty tx : TE) : TE := fun σ H Q => td σ H fun x H1 => ∃ a, x = .ref a ∧ IsD H1 a ∧ ty σ H1 fun y H2 => tx σ H2 fun z H3 => ∃ kvs k, H3 a = some (.dK kvs) ∧ y = kV k ∧
  (∀ v, valV kvs k = some v → Q v (upd H3 a (.dK (dropK kvs k)))) ∧ (valV kvs k = none → Q z H3)
section
variable {X : Cx} {o e f : Expr} {apos cpos : Pos} {td ty tx : TE}
theorem pe_dget1 (hu : X.A.units + 1 < cLine) (ho : PE X o td) (he : PE X e ty) (m : M1 X o "get" apos e cpos) : PE X (.Call (.Attribute o "get" apos) [e] [] cpos) (tDGet1 td ty) := by
  intro pins s σ H Q I h
  refine wpAny_Call_method m.base m.few m.line PySem.F.plainAttrs_dict PySem.F.slot_dict_get PySem.F.type_dict_get (thn (ho pins s σ H _ I h) fun u s1 ⟨x, H1, I1, rx, a, ex, d, q1⟩ => ?_)
  subst ex
  obtain rfl : u = Value.ref a := rx
  obtain ⟨t1, t2, _⟩ := isD_at I1 d
  refine ⟨t1, t2, ?_⟩
  rw [m.trees]
  refine Calls.callWith_builtin rfl (Calls.evalArgs_plain (Calls.spliced_cons (thn (he pins s1 σ H1 _ I1 q1) fun iv s2 ⟨y, H2, I2, ry, ov, g, q2⟩ => Calls.spliced_nil ?_)))
  exact d_get1 hu I2 g ry fun w' s3 I3 rw' => ⟨_, H2, I3, rw', q2⟩
end

/-! ### dict(d): a copy -/
section
variable {X : Cx} {pins : List (Addr × Obj)} {σ : St} {H : Hp} {s : Shared} {a : Addr} {kvs : List (Key × V)} {A : Around} {E : Value → Shared → Prop}
end


section
variable {X : Cx} {pins : List (Addr × Obj)} {σ : St} {H : Hp} {s : Shared} {a : Addr} {y : V} {u : Value} {A : Around} {E : Value → Shared → Prop}
end
end L2
namespace L2
open PySem PySem.Spec PyProof.Rows

/-! ### comprehensions -/
theorem nof {α : Type} {M : Model} {A : Around} {t : Sem α} {Q : α → Shared → Prop} {E : Value → Shared → Prop} {s : Shared} (h : wpAny M A t Q (fun _ _ => False) s) : wpAny M A t Q E s :=
  wpAny_mono h (fun _ _ x => x) fun _ _ f => f.elim

/-- the tests of a clause -/
def PTs (X : Cx) (ifs : List Expr) (t : TT) : Prop :=
  ∀ (pins : List (Addr × Obj)) (s : Shared) (σ : St) (H : Hp) (Q : Bool → Hp → Prop), Inv X pins σ H s → t σ H Q →
    wpAny (model X.prog X.w) X.A (forIn ifs true fun c r => if r = true then do let ok ← isTrue c X.env (eval c X.env); pure (ForInStep.yield ok) else pure (ForInStep.yield r)) (TP X pins σ Q) X.xe s
def tYes : TT := fun _ H Q => Q true H
theorem pts_nil {X : Cx} : PTs X [] tYes := fun _ _ _ H _ I h => wpAny_tests_nil ⟨H, I, h⟩
theorem pts_one {X : Cx} {c : Expr} {t : TT} (h : PT X c t) : PTs X [c] t := fun pins s σ H Q I hq => wpAny_tests_one (h pins s σ H Q I hq)

/-- the block's names at its start: its own one, then those of the frame around -/
def cst (ix : List Nat) (σ : St) : St := none :: ix.map fun j => (σ[j]?).getD none

/-- the context of a comprehension's block -/
def cmpCx (X : Cx) (Nc : List Str) (scope : Scope) (cl : List (Str × Addr)) (C : Addr) (fp : List Addr) (s : Shared) (H : Hp) : Cx where
  prog := X.prog
  w := X.w
  K := X.K
  mg := X.mg
  base := X.base
  A := X.A
  N := Nc
  s₀ := s
  H₀ := H
  env := compEnvC scope cl C X.env
  outer := X.stack
  stack := X.stack
  ex := fp
  fn := fun _ => false
  calm := X.calm
  pn := []
  xe := fun _ _ => False

/-- each name of the frame around that the block reads -/
def FreeOk (X : Cx) (scope : Scope) (cl : List (Str × Addr)) : List Str → List Nat → Prop
  | [], [] => True
  | y :: ys, i :: ix => (X.N[i]? = some y ∧ X.env.kindOf y = some .cell ∧ cl.lookup y = X.env.cells.lookup y ∧ (relabel scope X.env).names.lookup y = some .cell) ∧ FreeOk X scope cl ys ix
  | _, _ => False
theorem FreeOk.len {X : Cx} {scope : Scope} {cl : List (Str × Addr)} : ∀ {ys : List Str} {ix : List Nat}, FreeOk X scope cl ys ix → ix.length = ys.length
  | [], [], _ => rfl
  | _ :: _, _ :: _, h => by simp [FreeOk.len h.2]
  | [], _ :: _, h => h.elim
  | _ :: _, [], h => h.elim
theorem FreeOk.at {X : Cx} {scope : Scope} {cl : List (Str × Addr)} : ∀ {ys : List Str} {ix : List Nat}, FreeOk X scope cl ys ix → ∀ (j : Nat) (y : Str), ys[j]? = some y →
    ∃ i, ix[j]? = some i ∧ X.N[i]? = some y ∧ X.env.kindOf y = some .cell ∧ cl.lookup y = X.env.cells.lookup y ∧ (relabel scope X.env).names.lookup y = some .cell
  | [], [], _, j, y, e => by simp at e
  | z :: _, i :: _, h, 0, y, e => by
    simp at e
    subst e
    exact ⟨i, rfl, h.1⟩
  | _ :: _, _ :: _, h, j + 1, y, e => by
    obtain ⟨i, e1, e2⟩ := FreeOk.at h.2 j y (by simpa using e)
    exact ⟨i, by simpa using e1, e2⟩
  | [], _ :: _, h, _, _, _ => h.elim
  | _ :: _, [], h, _, _, _ => h.elim

def SubOk (X : Cx) : List (Str × Addr) → Prop
  | [] => True
  | p :: r => X.env.cells.lookup p.1 = some p.2 ∧ SubOk X r
theorem SubOk.mem {X : Cx} : ∀ {cl : List (Str × Addr)}, SubOk X cl → ∀ p ∈ cl, X.env.cells.lookup p.1 = some p.2
  | [], _, p, hp => absurd hp (by simp)
  | _ :: _, h, p, hp => by
    rcases List.mem_cons.mp hp with e | e
    · subst e; exact h.1
    · exact SubOk.mem h.2 p e
structure CompNames (X : Cx) (scope : Scope) (cl : List (Str × Addr)) (x : Str) (ys : List Str) (ix : List Nat) : Prop where
  clos : closureFor scope X.env = pure cl
  cell : (scope.names.all fun y => !(y.2 == NameKind.cell)) = true
  kind : scope.kind = .function
  names : (scope.names.all fun y => !(y.2 == NameKind.local) || scope.names.lookup y.1 == some NameKind.local) = true
  hx : scope.names.lookup x = some .local
  nd : (x :: ys).Nodup
  sub : SubOk X cl
  has : ((relabel scope X.env).names.all fun p => !(p.2 == NameKind.cell || p.2 == NameKind.free) || (cl.lookup p.1).isSome) = true
  free : FreeOk X scope cl ys ix

theorem lookup_mem {α β : Type} [BEq α] [LawfulBEq α] {k : α} {v : β} : ∀ {l : List (α × β)}, l.lookup k = some v → (k, v) ∈ l
  | [], h => by simp at h
  | (a, b) :: r, h => by
    rw [List.lookup_cons] at h
    cases q : k == a with
    | true =>
      rw [q] at h
      have e := eq_of_beq q
      subst e
      cases h
      exact List.mem_cons_self
    | false =>
      rw [q] at h
      exact List.mem_cons_of_mem _ (lookup_mem h)

section
variable {X : Cx} {scope : Scope} {cl : List (Str × Addr)} {x : Str} {ys : List Str} {ix : List Nat}
theorem CompNames.sub' (n : CompNames X scope cl x ys ix) : ∀ y c, cl.lookup y = some c → X.env.cells.lookup y = some c := fun y c e => by
  exact n.sub.mem (y, c) (lookup_mem e)
theorem CompNames.has' (n : CompNames X scope cl x ys ix) : ∀ y, ((relabel scope X.env).names.lookup y = some .cell ∨ (relabel scope X.env).names.lookup y = some .free) → ∃ c, cl.lookup y = some c := fun y h => by
  have : ∃ k : NameKind, (y, k) ∈ (relabel scope X.env).names ∧ (k = .cell ∨ k = .free) := by
    rcases h with h | h
    · exact ⟨_, lookup_mem h, .inl rfl⟩
    · exact ⟨_, lookup_mem h, .inr rfl⟩
  obtain ⟨k, hm, hk⟩ := this
  have q := List.all_eq_true.mp n.has (y, k) hm
  have : (k == NameKind.cell || k == NameKind.free) = true := by
    rcases hk with rfl | rfl <;> decide
  simp only [this, Bool.not_true, Bool.false_or] at q
  exact Option.isSome_iff_exists.mp q
theorem CompNames.cell' (n : CompNames X scope cl x ys ix) : ∀ y ∈ scope.names, y.2 ≠ .cell := fun y hy e => by
  have q := List.all_eq_true.mp n.cell y hy
  rw [e] at q
  exact absurd q (by decide)
theorem CompNames.names' (n : CompNames X scope cl x ys ix) : ∀ y ∈ scope.names, y.2 = .local → scope.names.lookup y.1 = some .local := fun y hy e => by
  have q := List.all_eq_true.mp n.names y hy
  rw [e] at q
  have z : (NameKind.local == NameKind.local) = true := by decide
  simp only [z, Bool.not_true, Bool.false_or] at q
  exact eq_of_beq q
end

/-- [te for x in wi if tt]: W the turn, a measure, what is gathered, the heap -/
def tComp (wi : TI) (ix : List Nat) (tt : TT) (te : TE) : TE := fun σ H Q => wi σ H fun J H1 => ∃ W : Nat → Nat → List V → Hp → Prop, (∃ m, W 0 m [] H1) ∧ ∀ i m ys H2, W i m ys H2 →
  (J.stop i H2 ∧ ys.length ≤ sizeLine ∧ ∀ p, H2 p = none → Q (.ref p) (upd H2 p (.lst ys))) ∨
  (J.go i H2 ∧ ys.length ≤ sizeLine ∧ ∀ x H3, J.yld i H2 x H3 → tt ((cst ix σ).set 0 (some x)) H3 fun b H4 =>
    if b = true then te ((cst ix σ).set 0 (some x)) H4 fun v H5 => ∃ m', m' < m ∧ W (i + 1) m' (ys ++ [v]) H5 else ∃ m', m' < m ∧ W (i + 1) m' ys H4)

section
variable {X : Cx} {scope : Scope} {cl : List (Str × Addr)} {x : Str} {ys : List Str} {ix : List Nat}

theorem cmp_start {pins : List (Addr × Obj)} {σ : St} {H : Hp} {s : Shared} {fp : List Addr} {D C : Addr} {h₁ : Heap} {tk : Nat} {ob : Obj} {m : Str → Option Value} (n : CompNames X scope cl x ys ix) (I : Inv X pins σ H s)
    (f : ∀ b ∈ fp, FpOk X pins H b) (fo : ∀ b ∈ fp, b < s.heap.objs.size) (hD : s.heap.objs.size ≤ D) (hC : s.heap.objs.size ≤ C) (hDC : D ≠ C) (old : ∀ b o, s.heap.get? b = some o → h₁.get? b = some o) (hns : h₁.Ns C m) (hob : h₁.get? D = some ob)
    (hcell : ∀ v, ob.data ≠ .cell v) : Inv (cmpCx X (x :: ys) scope cl C fp s H) [(D, ob)] (cst ix σ) H { s with heap := h₁, toks := tk } := by
  have nst : ∀ b, s.heap.objs.size ≤ b → b ∉ frs X.stack := fun b hb z => by
    rcases List.mem_cons.mp (I.stkSub b z) with e | e
    · exact absurd (Nat.lt_of_lt_of_le I.lt (by rw [← e]; exact hb)) (Nat.lt_irrefl _)
    · exact I.nofs hb e
  have lt_cell : ∀ y c, cl.lookup y = some c → c < s.heap.objs.size := fun y c e => by
    obtain ⟨v, q⟩ := I.cell y c (n.sub' y c e)
    exact q.lt
  refine ⟨⟨I.ok.mod, n.kind, I.ok.glob, I.ok.blt, hC, fun y z c h1 h2 => I.ok.inj y z c (n.sub' y c h1) (n.sub' z c h2), n.has', (fun y c h => absurd (show false = true from h) (by decide)), I.ok.hd, I.ok.frames, .inl rfl, fun b hb => ⟨?_, fun y c e => ?_⟩, I.bs,
    Nat.le_trans I.ok.bsz I.sz, fun b o e hb => ?_, fun b hb z => ?_, I.stack, I.stkFree⟩, rfl, I.bare, Un.kept old, ⟨m, hns, fun i y v h1 h2 h3 => ?_⟩, fun y c e => ?_, I.hok.fresh hC, fun y c e => I.freeC y c (n.sub' y c e), fun p hp => ?_, I.hok.kept old, ?_⟩
  · exact Nat.ne_of_lt (Nat.lt_of_lt_of_le (fo b hb) hC)
  · exact (f b hb).2.2.2.2.1 y c (n.sub' y c e)
  · rcases (f b hb).2.2.2.1 with z | z
    · exact I.ok.noex b o e z
    · exact absurd (Nat.lt_of_lt_of_le (Heap.lt_size e) (Nat.le_trans I.ok.bsz z)) (Nat.lt_irrefl _)
  · rcases List.mem_cons.mp (I.stkSub b z) with e | e
    · exact (f b hb).2.1 e
    · exact (f b hb).2.2.1 e
  · cases i with
    | zero =>
      have h2' : (none : Option V) = some v := Option.some.inj h2
      cases h2'
    | succ j =>
      have h1' : ys[j]? = some y := h1
      obtain ⟨i, e1, e2, e3, e4, e5⟩ := n.free.at j y h1'
      have h2' : (ix.map fun j => (σ[j]?).getD none)[j]? = some (some v) := by simpa [cst] using h2
      rw [List.getElem?_map, e1] at h2'
      have h2'' : (σ[i]?).getD none = some v := Option.some.inj h2'
      have h4 : σ[i]? = some (some v) := by
        cases q : σ[i]? with
        | none => rw [q] at h2''; cases h2''
        | some o => rw [q] at h2''; exact congrArg some h2''
      obtain ⟨m', hn', hl⟩ := I.loc
      obtain ⟨u, r, look⟩ := hl i y v e2 h4 (.inr (.inl e3))
      refine ⟨u, r, .inr ⟨.inl e5, ?_⟩⟩
      rcases look with ⟨k, _⟩ | ⟨_, c, e, z⟩
      · rw [e3] at k; cases k
      · refine ⟨c, e4.trans e, ?_⟩
        obtain ⟨o, ho, hd⟩ := z
        exact ⟨o, old _ _ ho, hd⟩
  · obtain ⟨v, o, ho, hd⟩ := I.cell y c (n.sub' y c e)
    exact ⟨v, o, old _ _ ho, hd⟩
  · have hp' : p ∈ [(D, ob)] := hp
    have e := List.mem_singleton.mp hp'
    subst e
    exact ⟨hob, I.hok.fresh hD, hDC, nst D hD, hcell⟩
  · show (none :: ix.map _).length = (x :: ys).length
    simp [n.free.len]

theorem pe_comp {elt iter : Expr} {ifs : List Expr} {px pos : Pos} {wi : TI} {tt : TT} {te : TE} (n : CompNames X scope cl x ys ix) (hc : X.calm = true) (hi : PI X (.Name x px) iter wi)
    (ht : ∀ C fp s H, PTs (cmpCx X (x :: ys) scope cl C fp s H) ifs tt) (he : ∀ C fp s H, PE (cmpCx X (x :: ys) scope cl C fp s H) elt te)
    (hs : ∀ x, foldedSetIterable iter X.env x = pure x := by intro _; rfl) : PE X (.ListComp elt [⟨.Name x px, iter, ifs, 0⟩] scope pos) (tComp wi ix tt te) := by
  intro pins s σ H Q I h
  rw [eval_ListComp]
  refine wpAny_comprehension_free (use := none) rfl hs n.clos n.kind n.names' (thn (hi pins s σ H _ I h) fun v s1 h1 => thn h1 fun itv s2 h2 => ?_)
  obtain ⟨it, fp, tn, J, H2, e, I2, T, st2, f2, W, ⟨m0, w0⟩, turn⟩ := h2
  subst e
  have fo : ∀ b ∈ fp, b < s2.heap.objs.size := fun b hb => let ⟨_, e, _⟩ := T.obj _ _ st2 b hb; Heap.lt_size e
  refine wpAny_newObj_type (wpAny_newFunctionEnv n.cell' (by intro y hy; simp at hy) (fun h₁ hns₁ hsb₁ => ?_) n.kind)
  dsimp only at hns₁ hsb₁ ⊢
  generalize hH3 : s2.heap.push { cls := .type "list", dict := none, data := .seq ([] : List Value).toArray } = G at hns₁ hsb₁ ⊢
  have hC : G.objs.size = s2.heap.objs.size + 1 := by rw [← hH3, Heap.size_push]
  have hDC : s2.heap.objs.size ≠ G.objs.size := by rw [hC]; exact Nat.ne_of_lt (Nat.lt_succ_self _)
  have hCle : s2.heap.objs.size ≤ G.objs.size := by rw [hC]; exact Nat.le_succ _
  have below : ∀ b, b < s2.heap.objs.size → b ≠ G.objs.size ∧ b ≠ s2.heap.objs.size := fun b hb => ⟨by rw [hC]; exact Nat.ne_of_lt (Nat.lt_succ_of_lt hb), Nat.ne_of_lt hb⟩
  have old : ∀ b o, s2.heap.get? b = some o → h₁.get? b = some o := fun b o e => hsb₁.extBut b o (below b (Heap.lt_size e)).1 (Heap.get?_push_of_some _ (hH3 ▸ Heap.get?_push_of_some _ e))
  have hacc : h₁.get? s2.heap.objs.size = some { cls := .type "list", data := .seq ([] : List Value).toArray 0 } := hsb₁.extBut _ _ hDC (Heap.get?_push_of_some _ (hH3 ▸ Heap.get?_push_size _ rfl))
  have st1 : tn 0 h₁ := T.keep _ _ _ st2 fun b _ o e => old b o e
  have stat : ∀ {H' : Hp} {ob : Obj}, (∀ b ∈ fp, H' b = none) → ∀ b ∈ fp, FpOk (cmpCx X (x :: ys) scope cl G.objs.size fp s2 H2) [(s2.heap.objs.size, ob)] H' b := fun {H' ob} hn b hb =>
    ⟨hn b hb, (below b (fo b hb)).1, fun z => by
      rcases List.mem_cons.mp (I2.stkSub b z) with e | e
      · exact (f2 b hb).2.1 e
      · exact (f2 b hb).2.2.1 e, .inl hb, fun y c e => (f2 b hb).2.2.2.2.1 y c (n.sub' y c e), fun p hp => by
      have hp' : p ∈ [(s2.heap.objs.size, ob)] := hp
      have e := List.mem_singleton.mp hp'
      subst e
      exact Ne.symm (below b (fo b hb)).2⟩
  have hfin : ∀ (s4 : Shared) (H3 : Hp) (zs : List V) (its : List Value) (k : Nat) (m' : Str → Option Value), Inv (cmpCx X (x :: ys) scope cl G.objs.size fp s2 H2) [(s2.heap.objs.size, { cls := .type "list", data := .seq its.toArray k })] (cst ix σ) H3 s4 → Vals zs its →
      zs.length ≤ sizeLine → (∀ p, H3 p = none → Q (.ref p) (upd H3 p (.lst zs))) → compPost (model X.prog X.w) X.A X.xe none (EP X pins σ Q) (.ref s2.heap.objs.size) G.objs.size (.ok .next) s4 := by
    intro s4 H3 zs its k m' I4 rv hz q
    obtain ⟨m4, hn4, _⟩ := I4.loc
    refine ⟨m4, hn4, fun h' hs' => ?_⟩
    obtain ⟨eD, nD, _, _, _⟩ := I4.pin (s2.heap.objs.size, { cls := .type "list", data := .seq its.toArray k }) (by show _ ∈ [] ++ [_]; simp)
    have nC : H3 G.objs.size = none := I4.free
    have kp : ∀ b o, b ≠ G.objs.size → s4.heap.get? b = some o → h'.get? b = some o := fun b o hb e => hs'.extBut b o hb e
    have hok : HOk X.prog X.w (upd H3 s2.heap.objs.size (.lst zs)) h' := fun b u e => by
      by_cases hb : b = s2.heap.objs.size
      · subst hb
        rw [upd_same] at e
        cases e
        exact ⟨hz, its, k, rv, kp _ _ hDC eD⟩
      · rw [upd_ne hb] at e
        exact (I4.hok b u e).stay (fun c w hc qq => kp c w (by
          rcases hc with z | z
          · intro y; rw [y] at z; rw [← z, nC] at e; cases e
          · exact ne_of_none z nC) qq) (fun c qq => by rw [upd_ne (ne_of_none qq nD)]; exact qq) fun c xs qq => by rw [upd_ne (ne_of_none qq nD)]; exact qq
    have un : Un (frs X.stack) fp H2 (upd H3 s2.heap.objs.size (.lst zs)) s2.heap h' := by
      have u4 : Un (frs X.stack) fp H2 H3 s2.heap s4.heap := I4.base
      refine ⟨fun b o e nn hb hx => kp b o (below b (Heap.lt_size e)).1 (u4.keep b o e nn hb hx), fun b o e nn hb hx => ?_, fun b o e nn hx => ?_, fun b o e hx => ?_, fun b xs e => ?_, fun b o u e => ?_, fun b ps e => ?_⟩
      · obtain ⟨sl, e1⟩ := u4.slot b o e nn hb hx
        exact ⟨sl, kp _ _ (below b (Heap.lt_size e)).1 e1⟩
      · rw [upd_ne (below b (Heap.lt_size e)).2]
        exact u4.free b o e nn hx
      · obtain ⟨o', e1⟩ := u4.there b o e hx
        exact ⟨o', kp _ _ (below b (Heap.lt_size e)).1 e1⟩
      · have z := u4.tups b xs e
        rw [upd_ne (ne_of_none z nD)]
        exact z
      · have z := u4.frzs b o u e
        rw [upd_ne (ne_of_none z nD)]
        exact z
      · obtain ⟨more, z⟩ := u4.tbls b ps e
        exact ⟨more, by rw [upd_ne (ne_of_none z nD)]; exact z⟩
    exact ⟨.ref s2.heap.objs.size, upd H3 s2.heap.objs.size (.lst zs), I2.call' (s' := { s4 with heap := h' }) (ch := fp) I4.os un hok I4.bare (fun b hb => ⟨(f2 b hb).2.2.2.1, (f2 b hb).2.1, (f2 b hb).2.2.2.2.1, (f2 b hb).2.2.2.2.2⟩), rfl, q _ nD⟩
  have loop : ∀ s₃ : Shared, s₃ = { s2 with heap := h₁, toks := s2.toks + ([] : List (Str × Value)).length } →
      codeAny (model X.prog X.w) X.A (.compLoop (.ListComp elt [⟨.Name x px, iter, ifs, 0⟩] scope pos) 0 (.ref it) (.ref s2.heap.objs.size) (compEnvC scope cl G.objs.size X.env))
        (compPost (model X.prog X.w) X.A X.xe none (EP X pins σ Q) (.ref s2.heap.objs.size) G.objs.size) s₃ := by
    rintro s₃ rfl
    refine codeAny_compLoop_tests (fun m s' => ∃ (i : Nat) (zs : List V) (its : List Value) (k : Nat) (H' : Hp),
        Inv (cmpCx X (x :: ys) scope cl G.objs.size fp s2 H2) [(s2.heap.objs.size, { cls := .type "list", data := .seq its.toArray k })] (cst ix σ) H' s' ∧ Vals zs its ∧ tn i s'.heap ∧ (∀ b ∈ fp, H' b = none) ∧ W i m zs H') ?_ m0
      ⟨0, [], [], 0, H2, cmp_start n I2 f2 fo (Nat.le_refl _) hCle hDC old hns₁ hacc (fun v z => by cases z), .nil, st1, fun b hb => (f2 b hb).1, w0⟩
    rintro m s3 ⟨i, zs, its, k, H3, I3, rv, st3, fr3, w3⟩
    rcases turn i m zs H3 w3 with ⟨stop, hz, qn⟩ | ⟨go, hz, step⟩
    · refine nof (thn (T.done (cmpCx X (x :: ys) scope cl G.objs.size fp s2 H2) rfl rfl rfl hc i _ s3 _ H3 _ I3 (stat fr3) st3 stop) fun r s4 ⟨hr, I4⟩ => ?_)
      subst hr
      exact hfin s4 H3 zs its k (fun _ => none) I4 rv hz qn
    · refine nof (thn (T.item (cmpCx X (x :: ys) scope cl G.objs.size fp s2 H2) rfl rfl rfl hc i _ s3 _ H3 _ I3 (stat fr3) st3 go) fun r s4 ⟨u, hr, h4⟩ => ?_)
      subst hr
      have go_on : ∀ {s5 s7 : Shared} {y : V} {H5 H7 : Hp}, (∀ b ∈ fp, H5 b = none) → tn (i + 1) s5.heap → Inv (cmpCx X (x :: ys) scope cl G.objs.size fp s2 H2) ([(s2.heap.objs.size, { cls := .type "list", data := .seq its.toArray k })] ++ pinsAt fp s5.heap) ((cst ix σ).set 0 (some y)) H7 s7 →
          Inv (cmpCx X (x :: ys) scope cl G.objs.size fp s2 H2) [(s2.heap.objs.size, { cls := .type "list", data := .seq its.toArray k })] (cst ix σ) H7 s7 ∧ tn (i + 1) s7.heap ∧ (∀ b ∈ fp, H7 b = none) := by
        intro s5 s7 y H5 H7 fr5 st5 I7
        have pn : ∀ b o, b ∈ fp → s5.heap.get? b = some o → s7.heap.get? b = some o ∧ H7 b = none := fun b o hb e => by
          have z := I7.pin (b, o) (List.mem_append_right _ (List.mem_append_right _ (mem_pinsAt hb e)))
          exact ⟨z.1, z.2.1⟩
        refine ⟨(I7.weak (σ' := cst ix σ) (by simp) fun j v e => ?_).unpinned, T.keep _ _ _ st5 fun b hb o e => (pn b o hb e).1, fun b hb => ?_⟩
        · cases j with
          | zero =>
            have e' : (none : Option V) = some v := Option.some.inj e
            cases e'
          | succ j => simpa [cst] using e
        · obtain ⟨o, e, _⟩ := T.obj _ _ st5 b hb
          exact (pn b o hb e).2
      have e0 : (letOwnedTupleGo (.Name x px) (.ref it) u >>= fun _ => assign (.Name x px) (compEnvC scope cl G.objs.size X.env) u) = assign (.Name x px) (compEnvC scope cl G.objs.size X.env) u := rfl
      show wpAny _ _ (assign (.Name x px) (compEnvC scope cl G.objs.size X.env) u) _ _ s4
      rw [← e0]
      refine nof (wpAny_bind (thn h4 fun _ s5 ⟨y, H5, I5, r5, y5, st5, fr5⟩ => ?_))
      have I5' := I5.pinned (stat fr5) (T.obj _ _ st5)
      have lx : (relabel scope X.env).names.lookup x = some .local := lookup_relabel_local n.hx
      have pg : PG (cmpCx X (x :: ys) scope cl G.objs.size fp s2 H2) (.Name x px) (gName 0) := pg_name n.nd rfl (.inl lx) (.inr lx)
      refine thn (pg _ s5 _ H5 y u (fun σ' H' => σ' = (cst ix σ).set 0 (some y) ∧ H' = H5) I5' r5 ⟨rfl, rfl⟩) fun _ s6 ⟨σ6, H6, I6, e6, e6'⟩ => ?_
      subst e6 e6'
      refine nof (thn (ht _ _ _ _ _ s6 _ _ _ I6 (step y _ y5)) fun b s7 ⟨H7, I7, q7⟩ => ?_)
      cases b with
      | false =>
        rw [if_neg (by decide)] at q7 ⊢
        obtain ⟨m', hm, w7⟩ := q7
        obtain ⟨I8, st8, fr8⟩ := go_on fr5 st5 I7
        exact ⟨m', hm, i + 1, zs, its, k, H7, I8, rv, st8, fr8, w7⟩
      | true =>
        rw [if_pos rfl] at q7 ⊢
        refine nof (thn (he _ _ _ _ _ s7 _ _ _ I7 q7) fun v8 s8 ⟨z8, H8, I8, r8, m', hm, w8⟩ => ?_)
        obtain ⟨I9, st9, fr9⟩ := go_on fr5 st5 I8
        obtain ⟨eD, nD, neL, _, _⟩ := I9.pin (s2.heap.objs.size, { cls := .type "list", data := .seq its.toArray k }) (by show _ ∈ [] ++ [_]; simp)
        refine append_at eD (fun h' hs' hD' => ?_) (by rw [List.size_toArray, ← rv.length]; exact hz)
        have kp : ∀ b o, b ≠ s2.heap.objs.size → s8.heap.get? b = some o → h'.get? b = some o := fun b o hb e => hs'.extBut b o hb e
        have lt_cell : ∀ y c, cl.lookup y = some c → c ≠ s2.heap.objs.size := fun y c e => by
          obtain ⟨v, q⟩ := I2.cell y c (n.sub' y c e)
          exact Nat.ne_of_lt q.lt
        have nst : s2.heap.objs.size ∉ frs X.stack := fun z => by
          rcases List.mem_cons.mp (I2.stkSub _ z) with e | e
          · exact absurd (Nat.lt_of_lt_of_le I2.lt (by rw [← e]; exact Nat.le_refl _)) (Nat.lt_irrefl _)
          · exact I2.nofs (Nat.le_refl _) e
        have I10 : Inv (cmpCx X (x :: ys) scope cl G.objs.size fp s2 H2) [] (cst ix σ) H8 { s8 with heap := h', toks := s8.toks } :=
          (I9.pins_of (pins' := []) fun p hp => absurd hp (by simp)).turned (it := s2.heap.objs.size) kp nD neL (.inr (Nat.le_refl _)) lt_cell fun p hp => absurd (show p ∈ ([] : List (Addr × Obj)) from hp) (by simp)
        refine ⟨m', hm, i + 1, zs ++ [z8], its ++ [v8], k + 1, H8, I10.pins_of fun p hp => ?_, rv.append (.cons r8 .nil), T.keep _ _ _ st9 fun b hb o e => kp b o (below b (fo b hb)).2 e, fr9, w8⟩
        have e := List.mem_singleton.mp hp
        subst e
        refine ⟨?_, nD, hDC, nst, fun v z => by cases z⟩
        rw [← List.push_toArray]
        exact hD'
  exact codeAny_compStart_list (loop _ rfl) (T.self X.A 0 _ _ _ st1 (loop _ rfl))
end
end L2

namespace L2
open PySem PySem.Spec PyProof.Rows

/-! ### texts by their codes -/
abbrev tx (l : List Nat) : Str := ⟨l.toArray⟩
theorem tx_len (l : List Nat) : (tx l).length = l.length := by simp [tx, Str.length]
theorem tx_inj {l m : List Nat} (h : tx l = tx m) : l = m := by
  have h1 := congrArg (fun z : Str => z.cps.toList) h
  simpa using h1
theorem tx_add (l m : List Nat) : tx l ++ tx m = tx (l ++ m) := by
  show Str.append (tx l) (tx m) = tx (l ++ m)
  unfold Str.append
  simp [tx]
theorem v_tx {l m : List Nat} : (V.str (tx l) = V.str (tx m)) ↔ l = m := ⟨fun h => tx_inj (V.str.inj h), fun h => by rw [h]⟩
theorem dec_tx {l m : List Nat} : decide (V.str (tx l) = V.str (tx m)) = decide (l = m) := by
  by_cases h : l = m
  · rw [decide_eq_true h, decide_eq_true (v_tx.mpr h)]
  · rw [decide_eq_false h, decide_eq_false fun z => h (v_tx.mp z)]

def cutL {α : Type} (l : List α) (lo hi : Option Int) : List α := (l.drop (HT.sIx l.length 0 lo)).take (HT.sIx l.length l.length hi - HT.sIx l.length 0 lo)

theorem pick_run (l : List Nat) (i k : Nat) : ((List.range k).map fun (m : Nat) => i + m).filterMap (l[·]?) = (l.drop i).take k := by
  induction k generalizing i with
  | zero => simp
  | succ k ih =>
    rw [List.range_succ_eq_map, List.map_cons, List.map_map]
    have e : ((fun (m : Nat) => i + m) ∘ Nat.succ) = fun m => (i + 1) + m := by
      funext m
      simp only [Function.comp]
      omega
    rw [e]
    by_cases h : i < l.length
    · rw [List.filterMap_cons_some (b := l[i]) (by simp [h]), ih (i + 1), List.drop_eq_getElem_cons h, List.take_succ_cons]
    · rw [List.filterMap_cons_none (by simp; omega), ih (i + 1), List.drop_eq_nil_of_le (by omega), List.drop_eq_nil_of_le (by omega)]
      simp
theorem sliceRange_one (a b : Nat) : sliceRange (a : Int) (b : Int) 1 = (List.range (b - a)).map fun (m : Nat) => a + m := by
  unfold sliceRange
  have e : (if (1 : Int) > 0 then (if (a : Int) < b then ((b : Int) - a + 1 - 1) / 1 else 0) else (if (a : Int) > b then ((a : Int) - b - 1 - 1) / (-1) else 0)).toNat = b - a := by
    rw [if_pos (by decide)]
    split <;> (try simp only [Int.ediv_one]) <;> omega
  dsimp only
  rw [e]
  apply List.map_congr_left
  intro m _
  omega
theorem indices_one (lo hi : Option Int) (n : Nat) : Builtin.Str.strSliceIndices lo hi 1 n = (List.range (HT.sIx n n hi - HT.sIx n 0 lo)).map fun (m : Nat) => HT.sIx n 0 lo + m := by
  unfold Builtin.Str.strSliceIndices
  rw [← sliceRange_one]
  have e1 : ∀ d : Nat, ∀ v : Int, max 0 (min (if v < 0 then v + (n : Int) else v) (n : Int)) = ((HT.sIx n d (some v) : Nat) : Int) := fun d v => by
    rw [← HT.clip_eq v n d]
    split <;> omega
  cases lo with
  | none =>
    cases hi with
    | none => simp only [HT.sIx_none]; rfl
    | some v =>
      simp only [HT.sIx_none]
      show sliceRange 0 (max 0 (min (if v < 0 then v + (n : Int) else v) (n : Int))) 1 = _
      rw [e1 n v]; rfl
  | some u =>
    cases hi with
    | none =>
      simp only [HT.sIx_none]
      show sliceRange (max 0 (min (if u < 0 then u + (n : Int) else u) (n : Int))) (n : Int) 1 = _
      rw [e1 0 u]
    | some v =>
      show sliceRange (max 0 (min (if u < 0 then u + (n : Int) else u) (n : Int))) (max 0 (min (if v < 0 then v + (n : Int) else v) (n : Int))) 1 = _
      rw [e1 0 u, e1 n v]
theorem slice_tx (l : List Nat) (lo hi : Option Int) : Txt.slice (tx l) lo hi = tx (cutL l lo hi) := by
  have key : (Builtin.Str.strSliceIndices lo hi 1 l.length).filterMap (l[·]?) = cutL l lo hi := by
    rw [indices_one, pick_run]; rfl
  unfold Txt.slice
  rw [tx_len]
  split
  · rename_i h
    have h1 : (Builtin.Str.strSliceIndices lo hi 1 l.length).length = l.length := by simpa using h
    rw [indices_one, List.length_map, List.length_range] at h1
    have a := HT.sIx_le l.length l.length (Nat.le_refl _) hi
    have b := HT.sIx_le l.length 0 (Nat.zero_le _) lo
    have e : cutL l lo hi = l := by
      unfold cutL
      by_cases hn : l.length = 0
      · have : l = [] := List.length_eq_zero_iff.mp hn
        subst this
        simp
      · have e0 : HT.sIx l.length 0 lo = 0 := by omega
        rw [h1, e0]
        simp
    rw [e]
  · have e : (fun (i : Nat) => (tx l).cps[i]?) = fun (i : Nat) => l[i]? := by funext i; simp
    show (⟨((Builtin.Str.strSliceIndices lo hi 1 l.length).filterMap fun i => (tx l).cps[i]?).toArray⟩ : Str) = _
    rw [e, key]
section
variable {X : Cx} {tg : Expr}
def Its (l : List Nat) : It := ⟨fun i _ => i < l.length, fun i H v H' => H' = H ∧ ∃ c, l[i]? = some c ∧ v = .str (tx [c]), fun i _ => l.length ≤ i⟩
theorem turn_str {P : Program} {w : World} {K : PySem.W.Frag} {ty : String} (hty : ty = "str_ascii_iterator" ∨ ty = "str_iterator") (it : Addr) (l : List Nat) (t : Tok) : Turn P w K tg (Its l) [it] it (fun i h => h.IsStrIter it ty (tx l) t i) where
  mem := by simp
  obj := fun i h st b hb => by
    have e : b = it := by simpa using hb
    subst e
    obtain ⟨o, e, c, d⟩ := st
    exact ⟨o, e, fun v z => by rw [d] at z; cases z⟩
  keep := fun i h h' st k => let ⟨o, e, r⟩ := st; ⟨o, k it (by simp) o e, r⟩
  item := by
    intro X hP hw hK hc i pins s σ H E I hf st hg
    subst hP hw hK
    obtain ⟨f0, f1, f2, f3, f4, f5⟩ := hf it (by simp)
    have W : Walks X.prog X.w X.A it [it] [it] (tx l).cps.size (SignAt (tx l)) (fun i h => h.IsStrIter it ty (tx l) t i) := by
      rcases hty with rfl | rfl
      · exact Walks.strAscii (I.ok.hd hc) it (tx l) t
      · exact Walks.strWide (I.ok.hd hc) it (tx l) t
    refine W.item i s _ _ (by simpa using (show i < l.length from hg)) st fun v h' tk hv st' kk => ?_
    obtain ⟨c, t', hc', rfl⟩ := hv
    have I1 : Inv X pins σ H { s with heap := h', toks := tk } := I.turned (fun b o hb e => kk b o (by simpa using hb) e) f0 f1 f3 f4 f5
    obtain ⟨o, e, c0, d⟩ := id st'
    exact ⟨_, rfl, go_of (s := { s with heap := h', toks := tk }) e c0 d (by rcases hty with rfl | rfl <;> decide) ⟨.str (tx [c]), H, I1, ⟨t', rfl⟩, ⟨rfl, c, by simpa using hc', rfl⟩, st', fun b hb => (hf b hb).1⟩⟩
  done := by
    intro X hP hw hK hc i pins s σ H E I hf st hg
    subst hP hw hK
    obtain ⟨f0, f1, f2, f3, f4, f5⟩ := hf it (by simp)
    have hg' : (tx l).cps[i]? = none := by have : l.length ≤ i := hg; simpa using this
    rcases hty with rfl | rfl
    · exact wpAny_pyNext_ascii_end (I.ok.hd hc) st hg' fun h' eb => ⟨rfl, I.turned (t' := s.toks) (fun b o hb e => eb b o hb e) f0 f1 f3 f4 f5⟩
    · exact wpAny_pyNext_wide_end (I.ok.hd hc) st hg' fun h' eb => ⟨rfl, I.turned (t' := s.toks) (fun b o hb e => eb b o hb e) f0 f1 f3 f4 f5⟩
  self := fun A i s Q E st h => by
    rcases hty with rfl | rfl
    · exact wpAny_pyIter_striter_ascii st h
    · exact wpAny_pyIter_striter_wide st h
def iStr (tl : TE) : TI := fun σ H R => tl σ H fun x H1 => ∃ l, x = .str (tx l) ∧ R (Its l) H1
theorem pi_str {e : Expr} {tl : TE} (hl : PE X e tl) : PI X tg e (iStr tl) := by
  intro pins s σ H R I h
  refine thn (hl pins s σ H _ I h) fun v s1 ⟨x, H1, I1, r1, q1⟩ => ?_
  obtain ⟨l, e, q⟩ := q1
  subst e
  obtain ⟨t, rfl⟩ := r1
  have fin : ∀ (ty : String), (ty = "str_ascii_iterator" ∨ ty = "str_iterator") → PIE X pins σ tg R (.ref s1.heap.objs.size) { s1 with heap := s1.heap.push { cls := .type ty, data := .fields #[.str (tx l) t, .int 0 0] } } := fun ty hty => by
    refine ⟨s1.heap.objs.size, [s1.heap.objs.size], _, _, H1, rfl, I1.kept (t' := s1.toks) fun b o e => Heap.get?_push_of_some _ e, turn_str hty _ l t, ⟨_, Heap.get?_push_size _ rfl, rfl, rfl⟩, fun b hb => ?_, q⟩
    have e : b = s1.heap.objs.size := by simpa using hb
    subst e
    exact I1.fpOk (Nat.le_refl _) (I1.hok.fresh (Nat.le_refl _))
  cases ha : (tx l).cps.all (· < 128)
  · exact wpAny_pyIter_wide ha (fin _ (.inr rfl))
  · exact wpAny_pyIter_ascii ha (fin _ (.inl rfl))
theorem for_str {l : List Nat} {g : TG} {tb : TS} {D : Ends} {σ : St} {H : Hp} (Pv : Nat → St → Hp → Prop) (h0 : Pv 0 σ H)
    (hs : ∀ i c σ H, l[i]? = some c → Pv i σ H → g (.str (tx [c])) σ H fun σ2 H2 => tb { D with nx := Pv (i + 1), ct := Pv (i + 1), bk := D.nx } σ2 H2) (hd : ∀ σ H, Pv l.length σ H → D.nx σ H) :
    ∃ W : Nat → Nat → St → Hp → Prop, (∃ m, W 0 m σ H) ∧ ∀ i m σ H, W i m σ H →
      ((Its l).stop i H ∧ D.nx σ H) ∨ ((Its l).go i H ∧ ∃ N : St → Hp → Prop, (∀ σ' H', N σ' H' → ∃ m', m' < m ∧ W (i + 1) m' σ' H') ∧ ∀ x H', (Its l).yld i H x H' → g x σ H' fun σ2 H2 => tb { D with nx := N, ct := N, bk := D.nx } σ2 H2) := by
  refine ⟨fun i m σ H => m = l.length - i ∧ i ≤ l.length ∧ Pv i σ H, ⟨l.length, by simp, Nat.zero_le _, h0⟩, ?_⟩
  rintro i m σ H ⟨rfl, hi, p⟩
  by_cases hlt : i < l.length
  · refine .inr ⟨hlt, Pv (i + 1), fun σ' H' p' => ⟨l.length - (i + 1), by omega, rfl, hlt, p'⟩, fun x H' y => ?_⟩
    obtain ⟨e, c, hc, e2⟩ := y
    subst e e2
    exact hs i c σ _ hc p
  · have e : i = l.length := by omega
    subst e
    exact .inl ⟨Nat.le_refl _, hd σ H p⟩

/-! ### comprehensions, the forms one uses: W by the turn and what is gathered -/
theorem comp_str {l : List Nat} {σ : St} {ix : List Nat} {tt : TT} {te : TE} {H : Hp} {Z : List V → Hp → Prop} (hl : l.length ≤ sizeLine) (Pv : Nat → List V → Hp → Prop) (h0 : Pv 0 [] H)
    (hs : ∀ i c ys H (N : List V → Hp → Prop), l[i]? = some c → ys.length ≤ i → Pv i ys H → (∀ ys' H', ys'.length ≤ i + 1 → Pv (i + 1) ys' H' → N ys' H') →
      tt ((cst ix σ).set 0 (some (.str (tx [c])))) H fun b H4 => if b = true then te ((cst ix σ).set 0 (some (.str (tx [c])))) H4 fun v H5 => N (ys ++ [v]) H5 else N ys H4)
    (hd : ∀ ys H, ys.length ≤ l.length → Pv l.length ys H → Z ys H) :
    ∃ W : Nat → Nat → List V → Hp → Prop, (∃ m, W 0 m [] H) ∧ ∀ i m ys H2, W i m ys H2 →
      ((Its l).stop i H2 ∧ ys.length ≤ sizeLine ∧ Z ys H2) ∨
      ((Its l).go i H2 ∧ ys.length ≤ sizeLine ∧ ∀ x H3, (Its l).yld i H2 x H3 → tt ((cst ix σ).set 0 (some x)) H3 fun b H4 =>
        if b = true then te ((cst ix σ).set 0 (some x)) H4 fun v H5 => ∃ m', m' < m ∧ W (i + 1) m' (ys ++ [v]) H5 else ∃ m', m' < m ∧ W (i + 1) m' ys H4) := by
  refine ⟨fun i m ys H => m = l.length - i ∧ i ≤ l.length ∧ ys.length ≤ i ∧ Pv i ys H, ⟨l.length, by simp, Nat.zero_le _, Nat.le_refl _, h0⟩, ?_⟩
  rintro i m ys H ⟨rfl, hi, hy, p⟩
  by_cases hlt : i < l.length
  · refine .inr ⟨hlt, by omega, fun x H' y => ?_⟩
    obtain ⟨e, c, hc, e2⟩ := y
    subst e e2
    exact hs i c ys _ (fun ys' H5 => ∃ m', m' < l.length - i ∧ m' = l.length - (i + 1) ∧ i + 1 ≤ l.length ∧ ys'.length ≤ i + 1 ∧ Pv (i + 1) ys' H5) hc hy p fun ys' H' h1 h2 => ⟨l.length - (i + 1), by omega, rfl, hlt, h1, h2⟩
  · have e : i = l.length := by omega
    subst e
    exact .inl ⟨Nat.le_refl _, by omega, hd ys H hy p⟩
theorem comp_range {lo : Int} {n : Nat} {σ : St} {ix : List Nat} {tt : TT} {te : TE} {H : Hp} {Z : List V → Hp → Prop} (hl : n ≤ sizeLine) (Pv : Nat → List V → Hp → Prop) (h0 : Pv 0 [] H)
    (hs : ∀ i ys H (N : List V → Hp → Prop), i < n → ys.length ≤ i → Pv i ys H → (∀ ys' H', ys'.length ≤ i + 1 → Pv (i + 1) ys' H' → N ys' H') →
      tt ((cst ix σ).set 0 (some (.int (lo + i)))) H fun b H4 => if b = true then te ((cst ix σ).set 0 (some (.int (lo + i)))) H4 fun v H5 => N (ys ++ [v]) H5 else N ys H4)
    (hd : ∀ ys H, ys.length ≤ n → Pv n ys H → Z ys H) :
    ∃ W : Nat → Nat → List V → Hp → Prop, (∃ m, W 0 m [] H) ∧ ∀ i m ys H2, W i m ys H2 →
      ((Itr lo n).stop i H2 ∧ ys.length ≤ sizeLine ∧ Z ys H2) ∨
      ((Itr lo n).go i H2 ∧ ys.length ≤ sizeLine ∧ ∀ x H3, (Itr lo n).yld i H2 x H3 → tt ((cst ix σ).set 0 (some x)) H3 fun b H4 =>
        if b = true then te ((cst ix σ).set 0 (some x)) H4 fun v H5 => ∃ m', m' < m ∧ W (i + 1) m' (ys ++ [v]) H5 else ∃ m', m' < m ∧ W (i + 1) m' ys H4) := by
  refine ⟨fun i m ys H => m = n - i ∧ i ≤ n ∧ ys.length ≤ i ∧ Pv i ys H, ⟨n, by simp, Nat.zero_le _, Nat.le_refl _, h0⟩, ?_⟩
  rintro i m ys H ⟨rfl, hi, hy, p⟩
  by_cases hlt : i < n
  · refine .inr ⟨hlt, by omega, fun x H' y => ?_⟩
    obtain ⟨e, e2⟩ := y
    subst e e2
    exact hs i ys _ (fun ys' H5 => ∃ m', m' < n - i ∧ m' = n - (i + 1) ∧ i + 1 ≤ n ∧ ys'.length ≤ i + 1 ∧ Pv (i + 1) ys' H5) hlt hy p fun ys' H' h1 h2 => ⟨n - (i + 1), by omega, rfl, hlt, h1, h2⟩
  · have e : i = n := by omega
    subst e
    exact .inl ⟨Nat.le_refl _, by omega, hd ys H hy p⟩

/-! ### operations on texts -/
theorem op_addS : OpR X (binaryOp .Add) (fun x y H Q => ∃ l m, x = .str (tx l) ∧ y = .str (tx m) ∧ l.length + m.length ≤ sizeLine ∧ Q (.str (tx (l ++ m))) H) := by
  intro pins s σ H x y v u Q I rx ry h
  obtain ⟨l, m, rfl, rfl, hz, q⟩ := h
  refine op_add_str pins s σ H _ _ v u Q I rx ry ⟨tx l, tx m, rfl, rfl, by rw [tx_len, tx_len]; exact hz, ?_⟩
  rw [tx_add]; exact q
theorem op_inS : OpR X (compareOp .In) (fun x y H Q => ∃ c l, x = .str (tx [c]) ∧ y = .str (tx l) ∧ Q (.bl (decide (c ∈ l))) H) := by
  intro pins s σ H x y v u Q I rx ry h
  obtain ⟨c, l, rfl, rfl, q⟩ := h
  refine op_in_str pins s σ H _ _ v u Q I rx ry ⟨tx [c], tx l, rfl, rfl, ?_⟩
  rw [StrLaws.found_one]
  simpa using q
def rIxS' : R2 := fun x y H Q => ∃ l i c, x = .str (tx l) ∧ y = .int i ∧ l.length ≤ sizeLine ∧ atI l i = some c ∧ Q (.str (tx [c])) H
theorem ix_strS : IxR X rIxS' := by
  intro value slice pins s σ H x y v u Q I rx ry h hs
  obtain ⟨l, i, c, rfl, rfl, hz, ha, q⟩ := h
  exact ix_str value slice pins s σ H _ _ v u Q I rx ry ⟨tx l, i, c, rfl, rfl, by rw [tx_len]; exact hz, by simpa using ha, q⟩ hs
def rSlS : V → Option Int → Option Int → Hp → VK → Prop := fun x lo hi H Q => ∃ l, x = .str (tx l) ∧ l.length ≤ sizeLine ∧ Q (.str (tx (cutL l lo hi))) H
theorem sl_strS : SlR X rSlS := by
  intro pins s σ H x v vl vu lo hi sl Q I rx hs pl pu h
  obtain ⟨l, rfl, hz, q⟩ := h
  obtain ⟨t, rfl⟩ := rx
  refine ⟨"str", _, F.slot_str_getitem.lookup, typeIs_str _ _ _, ?_⟩
  have fin : ∀ t' k, EP X pins σ Q (.str (Txt.slice (tx l) lo hi) t') { s with toks := k } := fun t' k => by
    rw [slice_tx]
    exact ⟨.str (tx (cutL l lo hi)), H, I.tok k, ⟨t', rfl⟩, q⟩
  have sz : (Txt.slice (tx l) lo hi).length ≤ sizeLine := Nat.le_trans (Txt.slice_le _ _ _) (by rw [tx_len]; exact hz)
  obtain ⟨o, e1, e2, e3⟩ := hs
  cases pl with
  | none =>
    cases pu with
    | none => exact wpAny_getItem_str_slice (l := none) (u := none) (st := none) ⟨o, e1, e2, e3⟩ rfl (post_val_or_str ⟨sz, fin⟩)
    | int j uj => exact wpAny_getItem_str_slice (l := none) (u := some (j, uj)) (st := none) ⟨o, e1, e2, e3⟩ rfl (post_val_or_str ⟨sz, fin⟩)
  | int i ui =>
    cases pu with
    | none => exact wpAny_getItem_str_slice (l := some (i, ui)) (u := none) (st := none) ⟨o, e1, e2, e3⟩ rfl (post_val_or_str ⟨sz, fin⟩)
    | int j uj => exact wpAny_getItem_str_slice (l := some (i, ui)) (u := some (j, uj)) (st := none) ⟨o, e1, e2, e3⟩ rfl (post_val_or_str ⟨sz, fin⟩)
/-- e[::-1] -/
def tRev (te ts : TE) : TE := fun σ H Q => te σ H fun x H1 => ts σ H1 fun y H2 => ∃ l, x = .str (tx l) ∧ y = .int (-1) ∧ l.length ≤ sizeLine ∧ Q (.str (tx l.reverse)) H2
end
end L2

namespace L2
open PySem PySem.Spec PyProof.Rows

def repL (l : List Nat) (k : Nat) : List Nat := (List.replicate k l).flatten
theorem repL_len (l : List Nat) (k : Nat) : (repL l k).length = k * l.length := by
  unfold repL
  induction k with
  | zero => simp
  | succ k ih => rw [List.replicate_succ, List.flatten_cons, List.length_append, ih, Nat.succ_mul]; omega
theorem repL_mem {l : List Nat} {k : Nat} {c : Nat} (h : c ∈ repL l k) : c ∈ l := by
  unfold repL at h
  obtain ⟨m, hm, hc⟩ := List.mem_flatten.mp h
  rw [List.eq_of_mem_replicate hm] at hc
  exact hc
theorem foldl_cps (a : Array Nat) : ∀ (k : Nat) (acc : Array Nat), ((List.replicate k a).foldl (· ++ ·) acc).toList = acc.toList ++ (List.replicate k a.toList).flatten
  | 0, acc => by simp
  | k + 1, acc => by
    rw [List.replicate_succ, List.foldl_cons, foldl_cps a k, List.replicate_succ, List.flatten_cons]
    simp
section
variable {X : Cx}
theorem op_mulS : OpR X (binaryOp .Mult) (fun x y H Q => ∃ (l : List Nat) (k : Int), x = .str (tx l) ∧ y = .int k ∧ 0 ≤ k ∧ k ≤ 1000000 ∧ l.length * k.toNat ≤ sizeLine ∧ Q (.str (tx (repL l k.toNat))) H) := by
  intro pins s σ H x y v u Q I rx ry h
  obtain ⟨l, k, rfl, rfl, h0, h1, hz, q⟩ := h
  obtain ⟨t, rfl⟩ := rx
  obtain ⟨t', rfl⟩ := ry
  have hs : (sizeLine : Nat) = 16777216 := sizeLine_eq
  refine P.mul_str ?_ (fun hk _ => ?_) (fun _ _ => ?_) ?_
  · have a1 : ¬ k < -(2 ^ 63 : Int) := by omega
    have a2 : ¬ k ≥ 2 ^ 63 := by omega
    rw [decide_eq_false a1, decide_eq_false a2]; rfl
  · have hk1 : 0 < k := by omega
    have hb : ((tx l).length : Int) * k ≤ 2 ^ 63 - 1 := by
      rw [tx_len]
      have e : (l.length : Int) * k = ((l.length * k.toNat : Nat) : Int) := by
        rw [Int.natCast_mul, Int.toNat_of_nonneg h0]
      rw [e]
      omega
    have := Int.le_ediv_of_mul_le hk1 hb
    omega
  · rw [tx_len]
    unfold Builtin.Str.tooLong
    exact decide_eq_false (by omega)
  · by_cases hk : k < 1
    · rw [if_pos hk]
      have e : k = 0 := by omega
      subst e
      exact ⟨by decide, .str (tx []), H, I.tok _, ⟨_, rfl⟩, q⟩
    · rw [if_neg hk]
      by_cases hc : (k == 1 || (tx l).length == 0) = true
      · rw [if_pos hc]
        refine ⟨.str (tx l), H, I, ⟨t, rfl⟩, ?_⟩
        have e : repL l k.toNat = l := by
          rcases Bool.or_eq_true _ _ |>.mp hc with z | z
          · have : k = 1 := eq_of_beq z
            subst this
            simp [repL]
          · have : l.length = 0 := by rw [← tx_len]; exact eq_of_beq z
            have : l = [] := List.length_eq_zero_iff.mp this
            subst this
            unfold repL
            simp
        rw [e] at q; exact q
      · rw [if_neg hc]
        have e : (⟨(List.replicate k.toNat (tx l).cps).foldl (· ++ ·) #[]⟩ : Str) = tx (repL l k.toNat) := by
          have z := foldl_cps (tx l).cps k.toNat #[]
          apply congrArg Str.mk
          apply Array.toList_inj.mp
          rw [z]
          simp [repL]
        rw [e]
        refine ⟨?_, .str (tx (repL l k.toNat)), H, I.tok _, ⟨_, rfl⟩, q⟩
        rw [tx_len, repL_len]
        rw [Nat.mul_comm]; exact hz

/-! ### ''.join(texts) -/
theorem strsAre_of : ∀ {zs : List (List Nat)} {us : List Value}, Vals (zs.map fun z => V.str (tx z)) us → StrsAre us (zs.map tx)
  | [], _, r => by
    rw [List.map_nil] at r
    cases r
    exact .nil
  | z :: zs, _, r => by
    rw [List.map_cons] at r
    cases r with
    | cons r1 r2 =>
      obtain ⟨t, e⟩ := r1
      subst e
      exact .cons _ t (strsAre_of r2)
theorem glue_foldl : ∀ (zs : List (List Nat)) (acc : List Nat), ((zs.map tx).foldl (fun a p => a ++ (tx []).cps ++ p.cps) acc.toArray) = (acc ++ zs.flatten).toArray
  | [], acc => by simp
  | z :: zs, acc => by
    rw [List.map_cons, List.foldl_cons]
    have e : acc.toArray ++ (tx []).cps ++ (tx z).cps = (acc ++ z).toArray := by simp
    rw [e, glue_foldl zs (acc ++ z), List.flatten_cons, List.append_assoc]
theorem join_tx (zs : List (List Nat)) : Txt.join (tx []) (zs.map tx) = tx zs.flatten := by
  show Builtin.Str.glued (tx []) (zs.map tx) = tx zs.flatten
  unfold Builtin.Str.glued
  cases zs with
  | nil => rfl
  | cons z zs =>
    apply congrArg Str.mk
    show ((zs.map tx).foldl (fun acc p => acc ++ (tx []).cps ++ p.cps) z.toArray) = _
    rw [glue_foldl, List.flatten_cons]
theorem mt_joinS : MtR X "str.join" (fun x vs H Q => ∃ (p : Addr) (zs : List (List Nat)), x = .str (tx []) ∧ vs = [.ref p] ∧ SqL X.K H p (zs.map fun z => V.str (tx z)) ∧ (zs.map (·.length)).sum ≤ 16777216 ∧ Q (.str (tx zs.flatten)) H) := by
  intro pins s σ H x xs v us Q I rx rs h
  obtain ⟨p, zs, rfl, rfl, hq, hz, q⟩ := h
  obtain ⟨t, rfl⟩ := rx
  obtain ⟨u, rfl, ru⟩ := vals1 rs
  cases ru
  obtain ⟨its, rv, pl, _⟩ := I.list hq
  refine join_list (ys := zs.map tx) pl.isList (by simpa using strsAre_of rv) ?_ fun t' k => ?_
  · rw [List.map_map, List.length_map]
    have e : ((fun z : Str => z.length) ∘ tx) = fun z : List Nat => z.length := by funext z; exact tx_len z
    rw [show (List.map ((fun x => x.length) ∘ tx) zs) = zs.map (·.length) from by rw [e], tx_len]
    simpa using hz
  · rw [join_tx]
    exact ⟨.str (tx zs.flatten), H, I.tok k, ⟨t', rfl⟩, q⟩

/-! ### isinstance(x, T), all(bools) -/
theorem call_isT : CallR X (.builtin "isinstance") (fun xs H Q => ∃ x T t b, xs = [x, .ty T] ∧ TyOf X.K H x t ∧ PySem.W.kitOne X.K t (.type T) = some b ∧ Q (.bl b) H) := by
  intro pins s σ H xs us Q I r h
  obtain ⟨x, T, t, b, rfl, ty, e, q⟩ := h
  obtain ⟨u, w', rfl, ru, rw'⟩ := vals2 r
  obtain rfl : w' = Value.type T := rw'
  exact isinst_ok I ru ty e fun tk => ⟨.bl b, H, I.tok tk, rfl, q⟩
theorem vals_bl : ∀ {bs : List Bool} {us : List Value}, Vals (bs.map V.bl) us → us = bs.map Value.bool
  | [], _, r => by
    rw [List.map_nil] at r
    cases r
    rfl
  | b :: bs, _, r => by
    rw [List.map_cons] at r
    cases r with
    | cons r1 r2 =>
      have e : _ = Value.bool b := r1
      rw [e, vals_bl r2, List.map_cons]
theorem call_allB (hc : X.calm = true) : CallR X (.builtin "all") (fun xs H Q => ∃ (p : Addr) (bs : List Bool), xs = [.ref p] ∧ SqL X.K H p (bs.map V.bl) ∧ Q (.bl (bs.all id)) H) := by
  intro pins s σ H xs us Q I r h
  obtain ⟨p, bs, rfl, hq, q⟩ := h
  obtain ⟨u, rfl, ru⟩ := vals1 r
  cases ru
  obtain ⟨its, rv, pl, _⟩ := I.list hq
  have e := vals_bl rv
  subst e
  have hlt : p < s.heap.objs.size := by obtain ⟨o, _, e, _⟩ := pl; exact Heap.lt_size e
  refine call_all_walk (wpAny_pyIter_list pl.isList ?_)
  refine ⟨s.heap.objs.size, [s.heap.objs.size, p], [s.heap.objs.size], _, _, _, fun i => bs.getD i true, rfl, Walks.list (show X.A.in1.handled = none from I.ok.hd hc) _ p (Nat.ne_of_lt hlt) (bs.map Value.bool).toArray, ⟨⟨_, Heap.get?_push_size _ rfl, rfl, rfl⟩, pl.isList.push _⟩, ?_, ?_⟩
  · intro i v s' Q' E' hP hQ'
    have hv : bs[i]?.map Value.bool = some v := by simpa using hP
    cases e : bs[i]? with
    | none => rw [e] at hv; cases hv
    | some b =>
      rw [e] at hv
      have hv' : Value.bool b = v := Option.some.inj hv
      subst hv'
      have e2 : bs.getD i true = b := by rw [List.getD_eq_getElem?_getD, e]; rfl
      have hQ2 : Q' (bs.getD i true) s' := hQ'
      rw [e2] at hQ2
      exact wpAny_truthy_bool hQ2
  · intro h' tk kk
    have e3 : (List.range (bs.map Value.bool).toArray.size).all (fun i => bs.getD i true) = bs.all id := by
      rw [List.size_toArray, List.length_map]
      clear hq q rv pl kk
      apply Bool.eq_iff_iff.mpr
      rw [List.all_eq_true, List.all_eq_true]
      constructor
      · intro h b hb
        obtain ⟨i, hi, e⟩ := List.getElem_of_mem hb
        have := h i (List.mem_range.mpr hi)
        rw [List.getD_eq_getElem?_getD, List.getElem?_eq_getElem hi] at this
        simpa [e] using this
      · intro h i hi
        have hi' := List.mem_range.mp hi
        rw [List.getD_eq_getElem?_getD, List.getElem?_eq_getElem hi']
        exact h _ (List.getElem_mem hi')
    rw [e3]
    refine ⟨.bl (bs.all id), H, I.kept (h' := h') (t' := tk) fun b o e => kk b o (fun z => ?_) (Heap.get?_push_of_some _ e), rfl, q⟩
    have z' := List.mem_singleton.mp z
    rw [z'] at e
    exact absurd (Heap.lt_size e) (Nat.lt_irrefl _)

/-! ### lists compared -/
def eqVs (xs ys : List V) : Bool := decide (xs.length = ys.length) && (List.range xs.length).all fun j => eqV (xs.getD j .non) (ys.getD j .non)
def rEqL (K : PySem.W.Frag) : R2 := fun x y H Q => ∃ p q xs ys, x = .ref p ∧ y = .ref q ∧ SqL K H p xs ∧ SqL K H q ys ∧ xs.all flatV = true ∧ ys.all flatV = true ∧ Q (.bl (eqVs xs ys)) H
theorem Vals.at {xs : List V} {us : List Value} (r : Vals xs us) {j : Nat} (h : j < us.toArray.size) : RelV (xs.getD j .non) us.toArray[j] ∧ xs[j]? = some (xs.getD j .non) := by
  have hj : j < xs.length := by rw [r.length]; simpa using h
  have e : xs[j]? = some xs[j] := List.getElem?_eq_getElem hj
  obtain ⟨u, hu, ru⟩ := r.get e
  have e2 : xs.getD j .non = xs[j] := by rw [List.getD_eq_getElem?_getD, e]; rfl
  have e3 : us.toArray[j] = u := by
    have : us[j]? = some us.toArray[j] := by simp at h ⊢
    rw [hu] at this
    exact (Option.some.inj this).symm
  rw [e2, e3]
  exact ⟨ru, e⟩
theorem op_eqL (hu : X.A.units < cLine) : OpR X (compareOp .Eq) (rEqL X.K) := by
  intro pins s σ H x y v u Q I rx ry h
  obtain ⟨p, q, xs, ys, rfl, rfl, hp, hq, fx, fy, k⟩ := h
  cases rx
  cases ry
  obtain ⟨its, r1, p1, _⟩ := I.list hp
  obtain ⟨jts, r2, p2, _⟩ := I.list hq
  by_cases hl : xs.length = ys.length
  · refine SeqAt.eq_listAt (e := fun j => eqV (xs.getD j .non) (ys.getD j .non)) p1.isList p2.isList (by simp; rw [← r1.length, ← r2.length]; exact hl) hu (fun j h1 h2 => ?_) ?_
    · obtain ⟨a1, b1⟩ := r1.at h1
      obtain ⟨a2, b2⟩ := r2.at h2
      exact eqAt_V a1 a2 (List.all_eq_true.mp fx _ (List.mem_of_getElem? b1)) (List.all_eq_true.mp fy _ (List.mem_of_getElem? b2))
    · refine ⟨.bl _, H, I, rfl, ?_⟩
      have e : its.toArray.size = xs.length := by rw [List.size_toArray, r1.length]
      rw [e]
      unfold eqVs at k
      rw [decide_eq_true hl, Bool.true_and] at k
      exact k
  · refine SeqAt.eq_list_lengthsAt p1.isList p2.isList ?_ hu ?_
    · rw [List.size_toArray, List.size_toArray, ← r1.length, ← r2.length]
      simpa using hl
    · refine ⟨.bl false, H, I, rfl, ?_⟩
      unfold eqVs at k
      rw [decide_eq_false hl, Bool.false_and] at k
      exact k
theorem eqVs_nil (xs : List V) : eqVs xs [] = xs.isEmpty := by
  cases xs with
  | nil => rfl
  | cons a r => simp [eqVs]

/-! ### a chain of three -/
def tChain3 (r r' r'' : R2) (ta tb tc td : TE) : TE := fun σ H Q => ta σ H fun x H1 => tb σ H1 fun y H2 => r x y H2 fun z H3 => ∃ k, z = .bl k ∧
  (if k = true then tc σ H3 fun w' H4 => r' y w' H4 fun z2 H5 => ∃ k2, z2 = .bl k2 ∧ (if k2 = true then td σ H5 fun w2 H6 => r'' w' w2 H6 Q else Q (.bl false) H5) else Q (.bl false) H3)
end
end L2

namespace L2
open PySem PySem.Spec PyProof.Rows

/-- a def of the text, by its promise -/
structure Df (P : Program) (w : World) (K : PySem.W.Frag) (mg : Str → Option Value) (base : Heap) (k : Nat) (x : Str) (ps : List Str) (sp : Sp) : Prop where
  ex : ∃ (f : Addr) (fd : FuncData), FnOk P w K mg base CX0 k f fd ps sp ∧ mg x = some (.ref f) ∧ PySem.W.keepIn K (.ref f) = true ∧ Binds K fd ps []
/-- what the top has of it -/
structure At (K : PySem.W.Frag) (mg : Str → Option Value) (x : Str) (st : Stmt) (ps : List Str) : Prop where
  ex : ∃ (f : Addr) (fd : FuncData), Fun K x x st f fd ∧ mg x = some (.ref f) ∧ ∀ us : List Value, us.length = ps.length → bindArgs fd ⟨us, []⟩ = pure (ps.zip us)
section
variable {P : Program} {w : World} {K : PySem.W.Frag} {mg : Str → Option Value} {base : Heap}
theorem At.df {k : Nat} {x : Str} {st : Stmt} {ps : List Str} {sp : Sp} (a : At K mg x st ps) (h : ∀ f fd, Fun K x x st f fd → FnOk P w K mg base CX0 k f fd ps sp) : Df P w K mg base k x ps sp :=
  let ⟨f, fd, F, m, b⟩ := a.ex
  ⟨f, fd, h f fd F, m, F.kp, .all b⟩
theorem At.mk' {x : Str} {st : Stmt} {ps : List Str} {h : Heap} {f : Addr} {oc : Value} {od an : Option Addr} {osl : Array (Option Value)} {kV doc pm cdv ct : Value} (X : K.In h) (G : h.Ns mainGlobals mg)
    (a : PySem.W.nsIn K mainGlobals x = some (some (.ref f)))
    (l : K.lookup f = some ⟨oc, od, .func (PySem.W.fnOf x x (defArgs st) (defBody st) (defScope st) .none kV doc pm an cdv ct), osl⟩)
    (c : PySem.W.codeIn K cdv x = true) (k : PySem.W.keepIn K (.ref f) = true)
    (b : ∀ (kV doc pm : Value) (an : Option Addr) (cdv ct : Value) (us : List Value), us.length = ps.length → bindArgs (PySem.W.fnOf x x (defArgs st) (defBody st) (defScope st) .none kV doc pm an cdv ct) ⟨us, []⟩ = pure (ps.zip us)) : At K mg x st ps :=
  ⟨f, _, fun_mk l c k, PySem.W.mg_of X G a, b kV doc pm an cdv ct⟩
end
section
variable {X : Cx} {k : Nat} {x : Str} {ps : List Str} {sp : Sp} {e : Expr} {es : List Expr} {p pos : Pos} {t : TA}
theorem pe_df {j : Nat} (d : Df X.prog X.w X.K X.mg X.base j x ps sp) (hr : Room k X.A) (hg : Gl X x) (ha : PA X (e :: es) t) (hjk : j ≤ k := by decide) (hdb : (x == ("__debug__" : Str)) = false := by decide) (he : starEach (e :: es) X.env = (false, eval e X.env) :: starEach es X.env := by rfl)
    (hpl : (backTo pos (starEach es X.env)).any (·.1) = false := by rfl) : PE X (.Call (.Name x p) (e :: es) [] pos) (tCall sp [] E0 t) := by
  obtain ⟨f, fd, F, hm, hk, hb⟩ := d.ex
  exact pe_call (F.mono hjk) hr hg hm hk hb .nil pass0 ha hdb he hpl
end
/-! argument lists, part by part: the step over the star is looked at once -/
section
variable {X : Cx} {es : List Expr} {t : TA} {te : TE} {pos : Pos}
theorem pa_int {i j p} (h : PA X es t) : PA X (.Constant (.int i) j p :: es) (tCons (tC (.int i)) t) := pa_cons pe_int h rfl
theorem pa_str {i j p} (h : PA X es t) : PA X (.Constant (.str i) j p :: es) (tCons (tC (.str i)) t) := pa_cons pe_str h rfl
theorem pa_bl {i j p} (h : PA X es t) : PA X (.Constant (.bool i) j p :: es) (tCons (tC (.bl i)) t) := pa_cons pe_bl h rfl
theorem pa_non {j p} (h : PA X es t) : PA X (.Constant .none j p :: es) (tCons (tC .non) t) := pa_cons pe_non h rfl
theorem pa_lst {xs : List Expr} (e : PE X (.List xs pos) te) (h : PA X es t) : PA X (.List xs pos :: es) (tCons te t) := pa_cons e h rfl
theorem pa_tup {xs : List Expr} {k} (e : PE X (.Tuple xs k pos) te) (h : PA X es t) : PA X (.Tuple xs k pos :: es) (tCons te t) := pa_cons e h rfl
theorem pa_dic {ks vs} (e : PE X (.Dict ks vs pos) te) (h : PA X es t) : PA X (.Dict ks vs pos :: es) (tCons te t) := pa_cons e h rfl
theorem pa_op {a b op} (e : PE X (.BinOp a op b pos) te) (h : PA X es t) : PA X (.BinOp a op b pos :: es) (tCons te t) := pa_cons e h rfl
theorem pa_un {a op} (e : PE X (.UnaryOp op a pos) te) (h : PA X es t) : PA X (.UnaryOp op a pos :: es) (tCons te t) := pa_cons e h rfl
theorem pa_name {x} (e : PE X (.Name x pos) te) (h : PA X es t) : PA X (.Name x pos :: es) (tCons te t) := pa_cons e h rfl
theorem pa_sub {a b} (e : PE X (.Subscript a b pos) te) (h : PA X es t) : PA X (.Subscript a b pos :: es) (tCons te t) := pa_cons e h rfl
theorem pa_call {a b c} (e : PE X (.Call a b c pos) te) (h : PA X es t) : PA X (.Call a b c pos :: es) (tCons te t) := pa_cons e h rfl
end
theorem Same.upd {H : Hp} {p : Addr} {o : HO} (h : H p = none) : Same H (upd H p o) := fun b u e => by
  rw [upd_ne (ne_of_none e h)]
  exact e
end L2

namespace L2
open PySem PySem.Spec PyProof.Rows PySem.SeqAt PySem.MeetsSeq
open PySem.AutoSeq1 (wpAny_loadPart')
/-! ### a thing of whatever kind against a tuple of plain values -/
def rEqT : R2 := fun x y H Q => ∃ (q : Addr) (ys : List V), y = .ref q ∧ H q = some (.tup ys) ∧ ys.all flatV = true ∧
  ((∃ b, x = .bl b ∧ Q (.bl false) H) ∨ (x = .non ∧ Q (.bl false) H) ∨ (∃ i, x = .int i ∧ Q (.bl false) H) ∨ (∃ z, x = .str z ∧ Q (.bl false) H) ∨ (∃ p xs, x = .ref p ∧ H p = some (.lst xs) ∧ Q (.bl false) H) ∨ (∃ p kvs, x = .ref p ∧ H p = some (.dK kvs) ∧ Q (.bl false) H) ∨
    (∃ p xs, x = .ref p ∧ H p = some (.tup xs) ∧ xs.all flatV = true ∧ Q (.bl (eqVs xs ys)) H) ∨ (∃ p r zs j ys', x = .ref p ∧ H p = some (.tup [.ref r]) ∧ H r = some (.tup zs) ∧ ys = .int j :: ys' ∧ Q (.bl false) H))
section
variable {X : Cx}
end
end L2

namespace L2
open PySem PySem.Spec PyProof.Rows
/-! ### range(a, b, -1) -/
/-- hi, hi - 1, .. (n of them) -/
def Itd (hi : Int) (n : Nat) : It := ⟨fun i _ => i < n, fun i H x H' => H' = H ∧ x = .int (hi - i), fun i _ => n ≤ i⟩
section
variable {X : Cx} {tg : Expr}
theorem turn_down {P : Program} {w : World} {K : PySem.W.Frag} (it : Addr) (hi : Int) (n : Nat) : Turn P w K tg (Itd hi n) [it] it (fun i h => IsRangeIter h it (hi + (i : Nat) * (-1)) ((n : Int) - (i : Nat)) (-1)) where
  mem := by simp
  obj := fun i h st b hb => by
    have e : b = it := by simpa using hb
    subst e
    exact ⟨_, st, fun v z => by
      have z' : Data.fields _ = Data.cell v := z
      cases z'⟩
  keep := fun i h h' st k => k it (by simp) _ st
  item := by
    intro X hP hw hK hc i pins s σ H E I hf st hg
    subst hP hw hK
    obtain ⟨f0, f1, f2, f3, f4, f5⟩ := hf it (by simp)
    have W := Walks.range (prog := X.prog) (w := X.w) (I.ok.hd hc) it hi (-1) n
    refine W.item i s _ _ hg st fun v h' tk hv st' kk => ?_
    obtain ⟨t, rfl⟩ := hv
    have I1 : Inv X pins σ H { s with heap := h', toks := tk } := I.turned (fun b o hb e => kk b o (by simpa using hb) e) f0 f1 f3 f4 f5
    refine ⟨_, rfl, go_of (s := { s with heap := h', toks := tk }) (n := "range_iterator") st' rfl rfl (by decide) ⟨.int (hi - i), H, I1, ⟨t, ?_⟩, ⟨rfl, rfl⟩, st', fun b hb => (hf b hb).1⟩⟩
    rw [Int.mul_neg, Int.mul_one, Int.sub_eq_add_neg]
  done := by
    intro X hP hw hK hc i pins s σ H E I hf st hg
    subst hP hw hK
    obtain ⟨f0, f1, f2, f3, f4, f5⟩ := hf it (by simp)
    exact wpAny_pyNext_range_end (I.ok.hd hc) st (by have : n ≤ i := hg; omega) fun h' eb => ⟨rfl, I.turned (t' := s.toks) (fun b o hb e => eb b o hb e) f0 f1 f3 f4 f5⟩
  self := fun _ _ _ _ _ st h => wpAny_pyIter_rangeiter st h
theorem down_it {pins : List (Addr × Obj)} {σ : St} {H : Hp} {s : Shared} {R : It → Hp → Prop} {E : Value → Shared → Prop} {lo hi : Int} {t u v : Tok} {tk : Nat} (I : Inv X pins σ H s) (h1 : -(2 ^ 62) ≤ lo) (h2 : lo < 2 ^ 62) (h3 : -(2 ^ 62) ≤ hi) (h4 : hi < 2 ^ 62)
    (q : R (Itd hi (hi - lo).toNat) H) : wpAny (model X.prog X.w) X.A (pyIter (.ref s.heap.objs.size)) (PIE X pins σ tg R) E { s with heap := s.heap.push { cls := .type "range", data := .fields #[.int hi t, .int lo u, .int (-1) v] }, toks := tk } := by
  refine wpAny_pyIter_range (IsRange.new ..) (PySem.W.small_down h3 h4 h1 h2) ?_
  have I1 : Inv X pins σ H { s with heap := s.heap.push { cls := .type "range", data := .fields #[.int hi t, .int lo u, .int (-1) v] }, toks := tk } := I.kept fun b o e => Heap.get?_push_of_some _ e
  refine ⟨(s.heap.push { cls := .type "range", data := .fields #[.int hi t, .int lo u, .int (-1) v] }).objs.size, [(s.heap.push { cls := .type "range", data := .fields #[.int hi t, .int lo u, .int (-1) v] }).objs.size], _, _, H, rfl,
    I1.kept (t' := tk) fun b o e => Heap.get?_push_of_some _ e, turn_down _ hi (hi - lo).toNat, ?_, fun b hb => ?_, q⟩
  · have e1 : hi + ((0 : Nat) : Int) * (-1) = hi := by simp
    have e2 : (((hi - lo).toNat : Nat) : Int) - ((0 : Nat) : Int) = Builtin.Range.rangeSize hi lo (-1) := by rw [PySem.W.rangeSize_downNat]; omega
    show IsRangeIter _ _ (hi + ((0 : Nat) : Int) * (-1)) ((((hi - lo).toNat : Nat) : Int) - ((0 : Nat) : Int)) (-1)
    rw [e1, e2]
    exact Heap.get?_push_size _ rfl
  · have e : b = (s.heap.push { cls := .type "range", data := .fields #[.int hi t, .int lo u, .int (-1) v] }).objs.size := by simpa using hb
    subst e
    exact I1.fpOk (Nat.le_refl _) (I1.hok.fresh (Nat.le_refl _))
def iRngD (ta : TA) : TI := fun σ H R => ta σ H fun vs H1 => ∃ i j : Int, vs = [.int i, .int j, .int (-1)] ∧ (-(2 ^ 62) ≤ i ∧ i < 2 ^ 62 ∧ -(2 ^ 62) ≤ j ∧ j < 2 ^ 62) ∧ R (Itd i (i - j).toNat) H1
theorem pi_rangeD {a b c : Expr} {ta : TA} {p pos : Pos} (hg : Gl X "range") (hm : X.mg "range" = none) (ha : PA X [a, b, c] ta) (hs : starEach [a, b, c] X.env = [(false, eval a X.env), (false, eval b X.env), (false, eval c X.env)] := by rfl)
    (hs2 : starEach [b, c] X.env = [(false, eval b X.env), (false, eval c X.env)] := by rfl) : PI X tg (.Call (.Name "range" p) [a, b, c] [] pos) (iRngD ta) := by
  intro pins s σ H R I h
  refine Call_ (ld_blt I hg hm boot_range (PyProof.Rows.callWith_type1 (thn (ha pos pins s σ H _ I h) fun us s1 ⟨vs, H1, I1, r1, q1⟩ => ?_) (by rw [hs, hs2]) (by rw [hs2]; rfl)))
  obtain ⟨i, j, e, ⟨q1, q2, q3, q4⟩, q⟩ := q1
  subst e
  cases r1 with
  | cons r rr =>
    cases rr with
    | cons r' rr =>
      cases rr with
      | cons r'' rr =>
        cases rr
        obtain ⟨t, rfl⟩ := r
        obtain ⟨t', rfl⟩ := r'
        obtain ⟨t'', rfl⟩ := r''
        exact call_range_3 (by decide) (down_it (tk := s1.toks) I1 q3 q4 q1 q2 q) (.inl (PyProof.noPylong_small (by decide)))
theorem comp_down {hi : Int} {n : Nat} {σ : St} {ix : List Nat} {tt : TT} {te : TE} {H : Hp} {Z : List V → Hp → Prop} (hl : n ≤ sizeLine) (Pv : Nat → List V → Hp → Prop) (h0 : Pv 0 [] H)
    (hs : ∀ i ys H (N : List V → Hp → Prop), i < n → ys.length ≤ i → Pv i ys H → (∀ ys' H', ys'.length ≤ i + 1 → Pv (i + 1) ys' H' → N ys' H') →
      tt ((cst ix σ).set 0 (some (.int (hi - i)))) H fun b H4 => if b = true then te ((cst ix σ).set 0 (some (.int (hi - i)))) H4 fun v H5 => N (ys ++ [v]) H5 else N ys H4)
    (hd : ∀ ys H, ys.length ≤ n → Pv n ys H → Z ys H) :
    ∃ W : Nat → Nat → List V → Hp → Prop, (∃ m, W 0 m [] H) ∧ ∀ i m ys H2, W i m ys H2 →
      ((Itd hi n).stop i H2 ∧ ys.length ≤ sizeLine ∧ Z ys H2) ∨
      ((Itd hi n).go i H2 ∧ ys.length ≤ sizeLine ∧ ∀ x H3, (Itd hi n).yld i H2 x H3 → tt ((cst ix σ).set 0 (some x)) H3 fun b H4 =>
        if b = true then te ((cst ix σ).set 0 (some x)) H4 fun v H5 => ∃ m', m' < m ∧ W (i + 1) m' (ys ++ [v]) H5 else ∃ m', m' < m ∧ W (i + 1) m' ys H4) := by
  refine ⟨fun i m ys H => m = n - i ∧ i ≤ n ∧ ys.length ≤ i ∧ Pv i ys H, ⟨n, by simp, Nat.zero_le _, Nat.le_refl _, h0⟩, ?_⟩
  rintro i m ys H ⟨rfl, hi, hy, p⟩
  by_cases hlt : i < n
  · refine .inr ⟨hlt, by omega, fun x H' y => ?_⟩
    obtain ⟨e, e2⟩ := y
    subst e e2
    exact hs i ys _ (fun ys' H5 => ∃ m', m' < n - i ∧ m' = n - (i + 1) ∧ i + 1 ≤ n ∧ ys'.length ≤ i + 1 ∧ Pv (i + 1) ys' H5) hlt hy p fun ys' H' h1 h2 => ⟨n - (i + 1), by omega, rfl, hlt, h1, h2⟩
  · have e : i = n := by omega
    subst e
    exact .inl ⟨Nat.le_refl _, by omega, hd ys H hy p⟩
/-! ### != of two lists of plain values -/
def rNeL (K : PySem.W.Frag) : R2 := fun x y H Q => ∃ p q xs ys, x = .ref p ∧ y = .ref q ∧ SqL K H p xs ∧ SqL K H q ys ∧ xs.all flatV = true ∧ ys.all flatV = true ∧ Q (.bl (!eqVs xs ys)) H
end
end L2

namespace L2
open PySem PySem.Spec PyProof.Rows
section
variable {X : Cx} {scope : Scope} {cl : List (Str × Addr)} {x : Str} {ys : List Str} {ix : List Nat}
end
end L2

namespace L2
open PySem PySem.Spec PyProof.Rows
/-! ### exceptions: how one lies behind a call, how it passes a def, how it is made -/
/-- behind a call: the exception at a, of class cls; B: all that stays as it is while it passes -/
def CX1 (P : Program) (w : World) : CXT := fun outer H s E e s' => ∃ (a : Addr) (cls a0 : Value) (H' : Hp) (B : Heap), e = .ref a ∧ s'.os = s.os ∧ AllBare s'.gens ∧ Un (frs outer) [] H H' s.heap s'.heap ∧
  HOk P w H' B ∧ Heap.FlyingW B outer a cls a0 s'.heap ∧ (∀ b o, s.heap.get? b = some o → b ∉ frs outer → ∃ o', B.get? b = some o') ∧ E cls none H'

/-- the body of a def that an exception may leave: E is wanted of it -/
structure Lv (X : Cx) (E : XK) : Prop where
  stk : X.stack = X.env :: X.outer
  fr : X.env.frame = some X.env.locals
  ex : X.ex = []
  xe : ∀ e s', wpAny (model X.prog X.w) X.A (leaving X.env e) (fun _ s'' => CX1 X.prog X.w X.outer X.H₀ X.s₀ E e s'') (fun e' s'' => CX1 X.prog X.w X.outer X.H₀ X.s₀ E e' s'') s' → X.xe e s'

section
variable {X : Cx} {E : XK} {pins : List (Addr × Obj)} {σ : St} {H H' : Hp} {s : Shared}
end

/-! ### raise C(..) -/
def tRaise (cls : Value) (E : XK) (t : TA) : TS := fun _ σ H => t σ H fun vs H1 => vs.length ≤ sizeLine ∧ E cls none H1
section
variable {X : Cx} {E : XK} {x : Str} {C : Addr} {bm bmN : List Value} {B Bn newId nid initId inN : String} {np cpos pos : Pos} {e₀ : Expr} {es : List Expr} {t : TA}
end
end L2

namespace L2
open PySem PySem.Spec PyProof.Rows
/-! ### a def that may raise, by its promise -/
/-- a wish about exceptions, by the names' values -/
abbrev XS := St → XK
structure DfX (P : Program) (w : World) (K : PySem.W.Frag) (mg : Str → Option Value) (base : Heap) (k : Nat) (x : Str) (ps : List Str) (sp : Sp) : Prop where
  ex : ∃ (f : Addr) (fd : FuncData), FnOk P w K mg base (CX1 P w) k f fd ps sp ∧ mg x = some (.ref f) ∧ PySem.W.keepIn K (.ref f) = true ∧ Binds K fd ps []
section
variable {P : Program} {w : World} {K : PySem.W.Frag} {mg : Str → Option Value} {base : Heap}
end
def tCallX (sp : Sp) (Ex : XS) (t : TA) : TE := fun σ H Q => t σ H fun vs H1 => sp vs H1 Q (Ex σ)
def PassesX (X : Cx) (Ex : XS) : Prop := ∀ (pins : List (Addr × Obj)) (σ : St) (H : Hp) (s : Shared) (e : Value) (s' : Shared), Inv X pins σ H s → CX1 X.prog X.w X.stack H s (Ex σ) e s' → X.xe e s'
section
variable {X : Cx} {k j : Nat} {x : Str} {ps : List Str} {sp : Sp} {e : Expr} {es : List Expr} {p pos : Pos} {t : TA} {Ex : XS}
end

/-! ### try: .. except C as n: .. -/
/-- an exception of the class cls -/
def excO (a : Addr) (cls : Value) : HO := .ext fun h => ∃ o, h.get? a = some o ∧ o.cls = cls
abbrev Cx.pinned (X : Cx) (pins : List (Addr × Obj)) : Cx := { X with pn := X.pn ++ pins }
abbrev Cx.tryX (X : Cx) (pins : List (Addr × Obj)) (Ex : XS) : Cx := (X.pinned pins).wish fun e s' => ∃ pins' σ H s, Inv (X.pinned pins) pins' σ H s ∧ CX1 X.prog X.w X.stack H s (Ex σ) e s'
abbrev Cx.inExc (X : Cx) (e : Value) : Cx := { X with A := X.A.mark (some e), calm := false, xe := fun _ _ => False }
section
variable {X : Cx} {pins pins' : List (Addr × Obj)} {σ : St} {H H' : Hp} {s : Shared}
end
end L2

namespace L2
open PySem PySem.Spec PyProof.Rows
def tTry (tb : XS → TS) (K : PySem.W.Frag) (R : Value) (i : Nat) (ts : TS) : TS := fun D σ H => ∃ Ex : XS, tb Ex D σ H ∧ ∀ σ' cls H', Ex σ' cls none H' → PySem.W.exmOne K cls R = some true ∧ ∀ a, H' a = none →
  ts { nx := fun σ2 H2 => D.nx (σ2.set i none) H2, rt := D.rt, bk := fun σ2 H2 => D.bk (σ2.set i none) H2, ct := fun σ2 H2 => D.ct (σ2.set i none) H2 } (σ'.set i (some (.ref a))) (upd H' a (excO a cls))
section
variable {X : Cx} {Ex : XS} {pins : List (Addr × Obj)} {tb : XS → TS} {ts : TS} {c n : Str} {i : Nat} {R : Addr} {body suite : List Stmt} {b₀ : Stmt} {np hpos pos : Pos}
end
end L2

/-! ### the class of an exception of an own class, as isinstance asks for it -/
namespace Mr.X
open PySem PySem.W PySem.Spec PySem.Calls PyProof.Rows Builtin Builtin.ObjectAttr Builtin.Getset_descriptor
section
variable {prog : Program} {w : World} {A : Around} {E : Value → Shared → Prop} {K : Frag} {D a : Addr} {h : Heap} {g : Array GenState} {d : Drawn} {t : Nat} {os : OsState} {o : Obj}
end
/-- what the fragment has of an own exception class -/
structure ExC (K : Frag) (D : Addr) : Prop where
  ga : findIn K (.ref D) "__getattribute__" = some (some (.builtin "BaseException.__getattribute__"))
  gt : findIn K (.ref D) "__getattr__" = some none
  cl : findIn K (.ref D) "__class__" = some (some (.builtin "object.__class__"))
  be : subIn K (.ref D) (.type "BaseException") = some true
  ob : mroIn K D (.type "object") = some true
  is : ∃ c d cd sl, K.lookup D = some ⟨c, d, .cls cd, sl⟩
end Mr.X
namespace L2
open PySem PySem.Spec PyProof.Rows
section
variable {X : Cx}
end
end L2

namespace L2
open PySem PySem.Spec PyProof.Rows
/-! ### a def that is called within an except suite: it makes no exception -/
structure RoomN (k : Nat) (A : Around) : Prop where
  dp : A.depth + 3 * k + 5 < recursionLimit
  un : A.units + 16 * k + 200 < cLine
structure FnOkN (P : Program) (w : World) (K : PySem.W.Frag) (mg : Str → Option Value) (base : Heap) (k : Nat) (f : Addr) (fd : FuncData) (ps : List Str) (sp : Sp) : Prop where
  len : ∀ vs H Q E, sp vs H Q E → vs.length = ps.length
  run : ∀ (A : Around) (outer : List Env) (s : Shared) (H : Hp) (args : Args) (us : List Value) (vs : List V) (Q : VK) (E : XK), RoomN k A → Env0 P w K mg base A outer s H → BindsTo s fd args (ps.zip us) → Vals vs us → sp vs H Q E →
    codeAny (model P w) A (.call (.ref f) args) (CR CX0 outer P w H s Q E) s
abbrev cxN (P : Program) (w : World) (K : PySem.W.Frag) (mg : Str → Option Value) (base : Heap) (N : List Str) (qual : Str) (scope : Scope) (f : Addr) (cd : Value) (A : Around) (outer : List Env) (s : Shared) (H : Hp) : Cx :=
  { (cxOf CX0 P w K mg base N qual scope f cd A outer s H E0).nox with calm := false }
structure DfN (P : Program) (w : World) (K : PySem.W.Frag) (mg : Str → Option Value) (base : Heap) (k : Nat) (x : Str) (ps : List Str) (sp : Sp) : Prop where
  ex : ∃ (f : Addr) (fd : FuncData), FnOkN P w K mg base k f fd ps sp ∧ mg x = some (.ref f) ∧ PySem.W.keepIn K (.ref f) = true ∧ Binds K fd ps []
section
variable {P : Program} {w : World} {K : PySem.W.Frag} {mg : Str → Option Value} {base : Heap}
end
section
variable {X : Cx} {k j : Nat} {x : Str} {ps : List Str} {sp : Sp} {e : Expr} {es : List Expr} {p pos : Pos} {t : TA}
end
end L2

namespace L2
open PySem PySem.Spec PyProof.Rows PySem.SeqAt PySem.MeetsSeq
/-! ### xs.count(b), xs.index(b) of truths -/
def isB (b : Bool) : Value → Bool
  | .bool c => c == b
  | _ => false
def rCountB : V → List V → Hp → VK → Prop := fun x vs H Q => ∃ (l : Addr) (bs : List Bool) (b : Bool), x = .ref l ∧ vs = [.bl b] ∧ H l = some (.lst (bs.map V.bl)) ∧ Q (.int (bs.count b : Nat)) H
def rIndexB : V → List V → Hp → VK → Prop := fun x vs H Q => ∃ (l : Addr) (bs : List Bool) (b : Bool) (j : Nat), x = .ref l ∧ vs = [.bl b] ∧ H l = some (.lst (bs.map V.bl)) ∧ bs[j]? = some b ∧ (∀ m, m < j → bs[m]? = some (!b)) ∧ Q (.int (j : Nat)) H
section
variable {X : Cx}
end
end L2

namespace L2
open PySem PySem.Spec PyProof.Rows
/-- raise C(..), C under ValueError -/
def Er (K : PySem.W.Frag) (mg : Str → Option Value) (x : Str) (C : Addr) : Prop := mg x = some (.ref C) ∧ PySem.W.excIn K C [.type "ValueError", .type "Exception", .type "BaseException", .type "object"] "ValueError.__new__" = true
end L2

namespace L2
open PySem PySem.Spec PyProof.Rows
/-! rules within a comprehension, where the context's K must be said plainly -/
section
variable {X : Cx} {K : PySem.W.Frag}
theorem ix_listK (h : X.K = K) : IxR X (rIxL K) := h ▸ ix_list
end
end L2

namespace L2
open PySem PySem.Spec PyProof.Rows PySem.SeqAt PySem.MeetsSeq
/-! ### sum and max of a list of ints; xs.index(n); tuples and None compared by != -/
section
variable {X : Cx}
def isI (n : Int) : Value → Bool
  | .int c _ => c == n
  | _ => false
def rIndexI : V → List V → Hp → VK → Prop := fun x vs H Q => ∃ (l : Addr) (ns : List Int) (n : Int) (j : Nat), x = .ref l ∧ vs = [.int n] ∧ H l = some (.lst (ns.map V.int)) ∧ ns[j]? = some n ∧ (∀ m, m < j → ns[m]? ≠ some n) ∧ Q (.int (j : Nat)) H
/-- None against None, or two tuples of plain values, or one of each -/
def rNeTN : R2 := fun x y H Q => (x = .non ∧ y = .non ∧ Q (.bl false) H) ∨ ∃ p q xs ys, x = .ref p ∧ y = .ref q ∧ H p = some (.tup xs) ∧ H q = some (.tup ys) ∧ xs.all flatV = true ∧ ys.all flatV = true ∧ Q (.bl (!eqVs xs ys)) H
end
end L2

namespace L2
open PySem PySem.Spec PyProof.Rows
/-! ### for a, b in enumerate(xs), in zip(xs, ys) -/
section
variable {X : Cx} {pins : List (Addr × Obj)} {σ : St} {H : Hp} {s : Shared} {h' : Heap} {wr : List Addr} {t' : Nat}
/-- the iterator's records have turned, and a new tuple stands at T -/
theorem Inv.turnedT {T : Addr} {xs : List V} (I : Inv X pins σ H s) (k : ∀ b o, b ∉ wr → s.heap.get? b = some o → h'.get? b = some o) (hf : ∀ b ∈ wr, FpOk X pins H b) (hT : s.heap.objs.size ≤ T) (new : ObjOk X.prog X.w (upd H T (.tup xs)) h' T (.tup xs)) :
    Inv X pins σ (upd H T (.tup xs)) { s with heap := h', toks := t' } := by
  have hn : H T = none := I.hok.fresh hT
  have nit : ∀ b u, H b = some u → b ∉ wr := fun b u e z => by rw [(hf b z).1] at e; cases e
  have neT : ∀ b o, s.heap.get? b = some o → b ≠ T := fun b o e => Nat.ne_of_lt (Nat.lt_of_lt_of_le (Heap.lt_size e) hT)
  refine I.step (g' := s.gens) (d' := s.drawn) (ch := wr) (fun b hb => ?_) (fun b o _ _ hc e _ => k b o hc e) (fun b o _ _ hc e _ => ⟨o.slots, k b o hc e⟩) (fun b o _ e n => by rw [upd_ne (neT b o e)]; exact n)
    (fun b o hc e => ⟨o, k b o hc e⟩) (fun b ys e => by rw [upd_ne (ne_of_none e hn)]; exact e) (fun b _ _ e => by rw [upd_ne (ne_of_none e hn)]; exact e) (fun b ps e => ⟨#[], by rw [upd_ne (ne_of_none e hn), e]; simp⟩) (fun m hm => ?_) (fun b u e => ?_) I.bare
  · obtain ⟨_, f1, _, f3, f4, f5⟩ := hf b hb
    exact ⟨f3, f1, f4, f5⟩
  · obtain ⟨o, es, ep, ho, r⟩ := hm
    exact ⟨o, es, ep, k _ o (fun z => (hf _ z).2.1 rfl) ho, r⟩
  · by_cases hb : b = T
    · subst hb; rw [upd_same] at e; cases e; exact new
    · rw [upd_ne hb] at e
      refine (I.hok b u e).stay (fun c v hc q => k c v ?_ q) (fun c q => by rw [upd_ne (ne_of_none q hn)]; exact q) fun c xs q => by rw [upd_ne (ne_of_none q hn)]; exact q
      rcases hc with z | z
      · rw [z]; exact nit b u e
      · exact nit c _ z
theorem Inv.turnedL (I : Inv X pins σ H s) (k : ∀ b o, b ∉ wr → s.heap.get? b = some o → h'.get? b = some o) (hf : ∀ b ∈ wr, FpOk X pins H b) : Inv X pins σ H { s with heap := h', toks := t' } := by
  have nit : ∀ b u, H b = some u → b ∉ wr := fun b u e z => by rw [(hf b z).1] at e; cases e
  refine I.step (g' := s.gens) (d' := s.drawn) (ch := wr) (fun b hb => ?_) (fun b o _ _ hc e _ => k b o hc e) (fun b o _ _ hc e _ => ⟨o.slots, k b o hc e⟩) (fun b o _ e n => n)
    (fun b o hc e => ⟨o, k b o hc e⟩) (fun b ys e => e) (fun b _ _ e => e) (fun b ps e => ⟨#[], by rw [e]; simp⟩) (fun m hm => ?_) (fun b u e => ?_) I.bare
  · obtain ⟨_, f1, _, f3, f4, f5⟩ := hf b hb
    exact ⟨f3, f1, f4, f5⟩
  · obtain ⟨o, es, ep, ho, r⟩ := hm
    exact ⟨o, es, ep, k _ o (fun z => (hf _ z).2.1 rfl) ho, r⟩
  · refine (I.hok b u e).stay (fun c v hc q => k c v ?_ q) (fun _ q => q) fun _ _ q => q
    rcases hc with z | z
    · rw [z]; exact nit b u e
    · exact nit c _ z
end
/-- the list at a: at each turn a new tuple (i, item) -/
def Ite (a : Addr) : It :=
  ⟨fun i H => ∃ xs x, H a = some (.lst xs) ∧ xs[i]? = some x, fun i H x H' => ∃ (T : Addr) (v : V), x = .ref T ∧ H T = none ∧ H' = upd H T (.tup [.int (i : Int), v]) ∧ ∀ xs, H a = some (.lst xs) → xs[i]? = some v, fun i H => ∃ xs, H a = some (.lst xs) ∧ xs.length = i⟩
def iEnum (ta : TA) : TI := fun σ H R => ta σ H fun vs H1 => ∃ (a : Addr) (xs : List V), vs = [.ref a] ∧ H1 a = some (.lst xs) ∧ R (Ite a) H1
theorem boot_zip : bootBuiltins "zip" = some (.type "zip") := by decide +kernel
section
variable {X : Cx} {elts : List Expr} {k : Nat} {tp : Pos}
end
/-- two lists at once: at each turn a new tuple of both items -/
def Itz (a b : Addr) : It :=
  ⟨fun i H => ∃ xs ys x y, H a = some (.lst xs) ∧ H b = some (.lst ys) ∧ xs[i]? = some x ∧ ys[i]? = some y,
   fun i H z H' => ∃ (T : Addr) (x y : V), z = .ref T ∧ H T = none ∧ H' = upd H T (.tup [x, y]) ∧ ∀ xs ys, H a = some (.lst xs) → H b = some (.lst ys) → xs[i]? = some x ∧ ys[i]? = some y,
   fun i H => ∃ xs ys, H a = some (.lst xs) ∧ H b = some (.lst ys) ∧ min xs.length ys.length = i⟩
theorem turn_zip {P : Program} {w : World} {K : PySem.W.Frag} {elts : List Expr} {k : Nat} {pos : Pos} (z TI TO i1 i2 l1 l2 : Addr) (D : ZipApart z TI TO i1 i2 l1 l2) :
    Turn P w K (.Tuple elts k pos) (Itz l1 l2) [z, TI, TO, i1, i2] z (fun i h => IsZip h z TI TO .none ∧ IsPair h TI (.ref i1) (.ref i2) ∧ (∃ a b, IsPair h TO a b) ∧ h.IsListIter i1 l1 i ∧ h.IsListIter i2 l2 i) where
  mem := by simp
  obj := fun i h st b hb => by
    obtain ⟨hz, hTI, ⟨a', b', hTO⟩, ⟨o1, e1, c1, d1⟩, ⟨o2, e2, c2, d2⟩⟩ := st
    have hb' : b = z ∨ b = TI ∨ b = TO ∨ b = i1 ∨ b = i2 := by simpa using hb
    rcases hb' with rfl | rfl | rfl | rfl | rfl
    · exact ⟨_, hz, fun v z => by cases z⟩
    · exact ⟨_, hTI, fun v z => by cases z⟩
    · exact ⟨_, hTO, fun v z => by cases z⟩
    · exact ⟨o1, e1, fun v z => by rw [d1] at z; cases z⟩
    · exact ⟨o2, e2, fun v z => by rw [d2] at z; cases z⟩
  keep := fun i h h' st kk => by
    obtain ⟨hz, hTI, ⟨a', b', hTO⟩, h1, h2⟩ := st
    exact ⟨kk z (by simp) _ hz, kk TI (by simp) _ hTI, ⟨a', b', kk TO (by simp) _ hTO⟩, h1.at fun o x => kk i1 (by simp) o x, h2.at fun o x => kk i2 (by simp) o x⟩
  item := by
    intro X hP hw hK hc i pins s σ H E I hf st hg
    subst hP hw hK
    obtain ⟨xs, ys, x, y, hq, hq2, hx, hy⟩ := hg
    obtain ⟨its, rv, p, hz⟩ := I.list (SqL.of (K := X.K) hq)
    obtain ⟨jts, rv2, p2, hz2⟩ := I.list (SqL.of (K := X.K) hq2)
    obtain ⟨u, hu, ru⟩ := rv.get hx
    obtain ⟨u2, hu2, ru2⟩ := rv2.get hy
    obtain ⟨st1, st2, st3, st4, st5⟩ := st
    have hsub : ∀ b ∈ [z, TO, i1, i2], b ∈ [z, TI, TO, i1, i2] := fun b hb => by
      have hb' : b = z ∨ b = TO ∨ b = i1 ∨ b = i2 := by simpa using hb
      rcases hb' with rfl | rfl | rfl | rfl <;> simp
    have hwr : ∀ b ∈ [z, TO, i1, i2], FpOk X pins H b := fun b hb => hf b (hsub b hb)
    have W := WalksT.zip2 (prog := X.prog) (w := X.w) (A := X.A) (I.ok.hd hc) z TI TO i1 i2 l1 l2 D its.toArray jts.toArray
    have a1 := (List.getElem?_eq_some_iff.mp hu).1
    have a2 := (List.getElem?_eq_some_iff.mp hu2).1
    have hi : i < min its.toArray.size jts.toArray.size := by
      rw [List.size_toArray, List.size_toArray]
      omega
    refine W.item i s _ _ hi ⟨st1, st2, st3, st4, st5, p.isList, p2.isList⟩ fun T vals h' tk hP hT hIs hM hk => ⟨.ref T, rfl, ?_⟩
    obtain ⟨x', y', hx', hy', rfl⟩ := hP
    have hxu : x' = u := by
      have : its.toArray[i]? = some u := by simpa using hu
      rw [this] at hx'; exact (Option.some.inj hx').symm
    have hyu : y' = u2 := by
      have : jts.toArray[i]? = some u2 := by simpa using hu2
      rw [this] at hy'; exact (Option.some.inj hy').symm
    subst hxu hyu
    have I1 : Inv X pins σ (upd H T (.tup [x, y])) { s with heap := h', toks := tk } :=
      I.turnedT (t' := tk) hk hwr hT ⟨by show 2 ≤ sizeLine; decide, [x', y'], .cons ru (.cons ru2 .nil), hIs⟩
    have hn : H T = none := I.hok.fresh hT
    have hTI : s.heap.get? TI = some _ := st2
    have hnT : ∀ b ∈ [z, TI, TO, i1, i2], b ≠ T := fun b hb e => by
      have hb' : b ∈ [z, TO, i1, i2] ∨ b = TI := by
        have hb' : b = z ∨ b = TI ∨ b = TO ∨ b = i1 ∨ b = i2 := by simpa using hb
        rcases hb' with rfl | rfl | rfl | rfl | rfl <;> simp
      rcases hb' with hb' | hb'
      · exact W.apart i T h' hM (e ▸ hb')
      · have := Heap.lt_size hTI
        rw [← hb', e] at this
        exact absurd (Nat.lt_of_lt_of_le this hT) (Nat.lt_irrefl _)
    refine W.go elts k pos i T { s with heap := h', toks := tk } _ _ hM fun h2 st' hk2 => ?_
    have hf2 : ∀ b ∈ [z, TI, TO, i1, i2], FpOk X pins (upd H T (.tup [x, y])) b := fun b hb => ⟨by rw [upd_ne (hnT b hb)]; exact (hf b hb).1, (hf b hb).2⟩
    exact ⟨.ref T, _, I1.turnedL (h' := h2) (t' := tk) hk2 (fun b hb => hf2 b (hsub b hb)), rfl, ⟨T, x, y, rfl, hn, rfl, fun xs' ys' h1 h2 => by rw [hq] at h1; rw [hq2] at h2; cases h1; cases h2; exact ⟨hx, hy⟩⟩, ⟨st'.1, st'.2.1, st'.2.2.1, st'.2.2.2.1, st'.2.2.2.2.1⟩, fun b hb => (hf2 b hb).1⟩
  done := by
    intro X hP hw hK hc i pins s σ H E I hf st hg
    subst hP hw hK
    obtain ⟨xs, ys, hq, hq2, hx⟩ := hg
    obtain ⟨its, rv, p, hz⟩ := I.list (SqL.of (K := X.K) hq)
    obtain ⟨jts, rv2, p2, hz2⟩ := I.list (SqL.of (K := X.K) hq2)
    obtain ⟨st1, st2, st3, st4, st5⟩ := st
    have W := WalksT.zip2 (prog := X.prog) (w := X.w) (A := X.A) (I.ok.hd hc) z TI TO i1 i2 l1 l2 D its.toArray jts.toArray
    have hl : min its.toArray.size jts.toArray.size = i := by rw [← hx, List.size_toArray, List.size_toArray, ← rv.length, ← rv2.length]
    have hsub : ∀ b ∈ [z, TO, i1, i2], b ∈ [z, TI, TO, i1, i2] := fun b hb => by
      have hb' : b = z ∨ b = TO ∨ b = i1 ∨ b = i2 := by simpa using hb
      rcases hb' with rfl | rfl | rfl | rfl <;> simp
    refine W.done s _ _ (by rw [hl]; exact ⟨st1, st2, st3, st4, st5, p.isList, p2.isList⟩) fun h' tk hk => ⟨rfl, I.turnedL (t' := tk) hk fun b hb => hf b (hsub b hb)⟩
  self := fun _ _ _ _ _ st h => wpAny_pyIter_zip st.1 h
def iZip (ta : TA) : TI := fun σ H R => ta σ H fun vs H1 => ∃ (a b : Addr) (xs ys : List V), vs = [.ref a, .ref b] ∧ H1 a = some (.lst xs) ∧ H1 b = some (.lst ys) ∧ R (Itz a b) H1
section
variable {X : Cx} {elts : List Expr} {k : Nat} {tp : Pos}
theorem pi_zip {a b : Expr} {ta : TA} {p pos : Pos} (hg : Gl X "zip") (hm : X.mg "zip" = none) (ha : PA X [a, b] ta) (hs : starEach [a, b] X.env = [(false, eval a X.env), (false, eval b X.env)] := by rfl) (hs2 : starEach [b] X.env = [(false, eval b X.env)] := by rfl) :
    PI X (.Tuple elts k tp) (.Call (.Name "zip" p) [a, b] [] pos) (iZip ta) := by
  intro pins s σ H R I h
  refine Call_ (ld_blt I hg hm boot_zip (PyProof.Rows.callWith_type1 (thn (ha pos pins s σ H _ I h) fun us s1 ⟨vs, H1, I1, r1, q1⟩ => ?_) (by rw [hs, hs2]) (by rw [hs2]; rfl)))
  obtain ⟨a, b, xs, ys, e, hq, hq2, q⟩ := q1
  subst e
  cases r1 with
  | cons r rr =>
    cases rr with
    | cons r' rr =>
      cases rr
      cases r
      cases r'
      obtain ⟨its, rv, p, hz⟩ := I1.list (SqL.of (K := X.K) hq)
      obtain ⟨jts, rv2, p2, hz2⟩ := I1.list (SqL.of (K := X.K) hq2)
      have hlt1 : a < s1.heap.objs.size := I1.hok.lt hq
      have hlt2 : b < s1.heap.objs.size := I1.hok.lt hq2
      refine call_zip_2 p.isList p2.isList fun h' hz hTI hTO hi1 hi2 hsz hk => ?_
      refine wpAny_pyIter_zip (s := { s1 with heap := h' }) hz ?_
      have I2 : Inv X pins σ H1 { s1 with heap := h' } := I1.kept (t' := s1.toks) hk
      refine ⟨s1.heap.objs.size + 4, [s1.heap.objs.size + 4, s1.heap.objs.size + 2, s1.heap.objs.size + 3, s1.heap.objs.size, s1.heap.objs.size + 1], _, _, H1, rfl, I2, turn_zip (s1.heap.objs.size + 4) (s1.heap.objs.size + 2) (s1.heap.objs.size + 3) s1.heap.objs.size (s1.heap.objs.size + 1) a b (PySem.W.ktu_apart _ _ _ hlt1 hlt2), ⟨hz, hTI, ⟨_, _, hTO⟩, hi1, hi2⟩, fun c hc => ?_, q⟩
      have hb' : c = s1.heap.objs.size + 4 ∨ c = s1.heap.objs.size + 2 ∨ c = s1.heap.objs.size + 3 ∨ c = s1.heap.objs.size ∨ c = s1.heap.objs.size + 1 := by simpa using hc
      have hge : s1.heap.objs.size ≤ c := by
        rcases hb' with rfl | rfl | rfl | rfl | rfl
        · exact Nat.le_add_right _ _
        · exact Nat.le_add_right _ _
        · exact Nat.le_add_right _ _
        · exact Nat.le_refl _
        · exact Nat.le_add_right _ _
      exact I1.fpOk hge (I1.hok.fresh hge)
end
/-! the forms one uses -/
end L2

namespace L2
open PySem PySem.Spec PyProof.Rows
/-! ### comprehensions with a target of several names: [.. for a, b in zip(xs, ys)] -/
structure CompNamesL (X : Cx) (scope : Scope) (cl : List (Str × Addr)) (xs : List Str) (ys : List Str) (ix : List Nat) : Prop where
  clos : closureFor scope X.env = pure cl
  cell : (scope.names.all fun y => !(y.2 == NameKind.cell)) = true
  kind : scope.kind = .function
  names : (scope.names.all fun y => !(y.2 == NameKind.local) || scope.names.lookup y.1 == some NameKind.local) = true
  nd : (xs ++ ys).Nodup
  sub : SubOk X cl
  has : ((relabel scope X.env).names.all fun p => !(p.2 == NameKind.cell || p.2 == NameKind.free) || (cl.lookup p.1).isSome) = true
  free : FreeOk X scope cl ys ix
/-- the names' values at the block's start -/
def cstL (k : Nat) (ix : List Nat) (σ : St) : St := List.replicate k none ++ ix.map fun j => (σ[j]?).getD none
/-- .. and with the target stored -/
def cstV (vs : List V) (ix : List Nat) (σ : St) : St := vs.map some ++ ix.map fun j => (σ[j]?).getD none
section
variable {X : Cx} {scope : Scope} {cl : List (Str × Addr)} {xs ys : List Str} {ix : List Nat}
theorem CompNamesL.sub' (n : CompNamesL X scope cl xs ys ix) : ∀ y c, cl.lookup y = some c → X.env.cells.lookup y = some c := fun y c e => n.sub.mem (y, c) (lookup_mem e)
theorem CompNamesL.has' (n : CompNamesL X scope cl xs ys ix) : ∀ y, ((relabel scope X.env).names.lookup y = some .cell ∨ (relabel scope X.env).names.lookup y = some .free) → ∃ c, cl.lookup y = some c := fun y h => by
  have : ∃ k : NameKind, (y, k) ∈ (relabel scope X.env).names ∧ (k = .cell ∨ k = .free) := by
    rcases h with h | h
    · exact ⟨_, lookup_mem h, .inl rfl⟩
    · exact ⟨_, lookup_mem h, .inr rfl⟩
  obtain ⟨k, hm, hk⟩ := this
  have q := List.all_eq_true.mp n.has (y, k) hm
  have : (k == NameKind.cell || k == NameKind.free) = true := by
    rcases hk with rfl | rfl <;> decide
  simp only [this, Bool.not_true, Bool.false_or] at q
  exact Option.isSome_iff_exists.mp q
theorem CompNamesL.cell' (n : CompNamesL X scope cl xs ys ix) : ∀ y ∈ scope.names, y.2 ≠ .cell := fun y hy e => by
  have q := List.all_eq_true.mp n.cell y hy
  rw [e] at q
  exact absurd q (by decide)
theorem CompNamesL.names' (n : CompNamesL X scope cl xs ys ix) : ∀ y ∈ scope.names, y.2 = .local → scope.names.lookup y.1 = some .local := fun y hy e => by
  have q := List.all_eq_true.mp n.names y hy
  rw [e] at q
  have z : (NameKind.local == NameKind.local) = true := by decide
  simp only [z, Bool.not_true, Bool.false_or] at q
  exact eq_of_beq q
/-- the turns of a block whose target may be a tuple that the iterator keeps -/
theorem turns_go {prog : Program} {w : World} {A : Around} {s : Shared} {elt target iter : Expr} {ifs : List Expr} {sc : Scope} {pos : Pos} {it acc : Value} {env : Env} {R : Result → Shared → Prop} (I : Nat → Shared → Prop)
    (turn : ∀ n s, I n s → wpAny (model prog w) A (pyNext it) (fun r s1 => match r with | none => R (.ok .next) s1 | some v => wpAny (model prog w) A (letOwnedTupleGo target it v) (fun _ s0 => wpAny (model prog w) A (assign target env v) (fun _ s2 => wpAny (model prog w) A (forIn ifs true fun c r => if r = true then do let ok ← isTrue c env (eval c env); pure (ForInStep.yield ok) else pure (ForInStep.yield r)) (fun ok s3 => if ok = true then wpAny (model prog w) A (eval elt env) (fun x s4 => wpAny (model prog w) A (call (.builtin "list.append") [acc, x]) (fun _ s5 => ∃ m, m < n ∧ I m s5) (notedBy (model prog w) A env fun e s' => R (.error e) s') s4) (notedBy (model prog w) A env fun e s' => R (.error e) s') s3 else ∃ m, m < n ∧ I m s3) (notedBy (model prog w) A env fun e s' => R (.error e) s') s2) (notedBy (model prog w) A env fun e s' => R (.error e) s') s0) (notedBy (model prog w) A env fun e s' => R (.error e) s') s1) (notedBy (model prog w) A env fun e s' => R (.error e) s') s)
    (n : Nat) (h : I n s) : codeAny (model prog w) A (.compLoop (.ListComp elt [⟨target, iter, ifs, 0⟩] sc pos) 0 it acc env) R s := by
  refine codeAny_loop rfl I (fun n s hI => ?_) n h
  show wpAny _ A ((compTurn (.ListComp elt [⟨target, iter, ifs, 0⟩] sc pos) 0 it acc env).onRaise (fun x => do noteFrame x env; theTreesLotGoes x)) _ _ s
  refine wpAny_noted ?_
  rw [compTurn_list]
  refine wpAny_bind (wpAny_standAt (wpAny_bind (thn (turn n s hI) fun r s1 h1 => ?_)))
  cases r with
  | none => exact wpAny_pure h1
  | some v =>
    refine wpAny_bind (thn h1 fun _ s0 h0 => wpAny_bind (thn h0 fun _ s2 h2 => wpAny_bind (thn h2 fun ok s3 h3 => ?_)))
    cases ok with
    | false => exact wpAny_pure ⟨rfl, h3⟩
    | true => exact wpAny_bind (wpAny_bind (thn h3 fun x s4 h4 => wpAny_bind (thn h4 fun _ s5 h5 => wpAny_pure (wpAny_pure ⟨rfl, h5⟩))))
/-- [te for (a, b, ..) in wi if tt]: k names in the target -/
def tCompL (K : PySem.W.Frag) (k : Nat) (wi : TI) (ix : List Nat) (tt : TT) (te : TE) : TE := fun σ H Q => wi σ H fun J H1 => ∃ W : Nat → Nat → List V → Hp → Prop, (∃ m, W 0 m [] H1) ∧ ∀ i m ys H2, W i m ys H2 →
  (J.stop i H2 ∧ ys.length ≤ sizeLine ∧ ∀ p, H2 p = none → Q (.ref p) (upd H2 p (.lst ys))) ∨
  (J.go i H2 ∧ ys.length ≤ sizeLine ∧ ∀ x H3, J.yld i H2 x H3 → ∃ (a : Addr) (vs : List V), x = .ref a ∧ SqT K H3 a vs ∧ vs.length = k ∧ tt (cstV vs ix σ) H3 fun b H4 =>
    if b = true then te (cstV vs ix σ) H4 fun v H5 => ∃ m', m' < m ∧ W (i + 1) m' (ys ++ [v]) H5 else ∃ m', m' < m ∧ W (i + 1) m' ys H4)
theorem cmp_startL {pins : List (Addr × Obj)} {σ : St} {H : Hp} {s : Shared} {fp : List Addr} {D C : Addr} {h₁ : Heap} {tk : Nat} {ob : Obj} {m : Str → Option Value} (n : CompNamesL X scope cl xs ys ix) (I : Inv X pins σ H s)
    (f : ∀ b ∈ fp, FpOk X pins H b) (fo : ∀ b ∈ fp, b < s.heap.objs.size) (hD : s.heap.objs.size ≤ D) (hC : s.heap.objs.size ≤ C) (hDC : D ≠ C) (old : ∀ b o, s.heap.get? b = some o → h₁.get? b = some o) (hns : h₁.Ns C m) (hob : h₁.get? D = some ob)
    (hcell : ∀ v, ob.data ≠ .cell v) : Inv (cmpCx X (xs ++ ys) scope cl C fp s H) [(D, ob)] (cstL xs.length ix σ) H { s with heap := h₁, toks := tk } := by
  have nst : ∀ b, s.heap.objs.size ≤ b → b ∉ frs X.stack := fun b hb z => by
    rcases List.mem_cons.mp (I.stkSub b z) with e | e
    · exact absurd (Nat.lt_of_lt_of_le I.lt (by rw [← e]; exact hb)) (Nat.lt_irrefl _)
    · exact I.nofs hb e
  have lt_cell : ∀ y c, cl.lookup y = some c → c < s.heap.objs.size := fun y c e => by
    obtain ⟨v, q⟩ := I.cell y c (n.sub' y c e)
    exact q.lt
  refine ⟨⟨I.ok.mod, n.kind, I.ok.glob, I.ok.blt, hC, fun y z c h1 h2 => I.ok.inj y z c (n.sub' y c h1) (n.sub' z c h2), n.has', (fun y c h => absurd (show false = true from h) (by decide)), I.ok.hd, I.ok.frames, .inl rfl, fun b hb => ⟨?_, fun y c e => ?_⟩, I.bs,
    Nat.le_trans I.ok.bsz I.sz, fun b o e hb => ?_, fun b hb z => ?_, I.stack, I.stkFree⟩, rfl, I.bare, Un.kept old, ⟨m, hns, fun i y v h1 h2 h3 => ?_⟩, fun y c e => ?_, I.hok.fresh hC, fun y c e => I.freeC y c (n.sub' y c e), fun p hp => ?_, I.hok.kept old, ?_⟩
  · exact Nat.ne_of_lt (Nat.lt_of_lt_of_le (fo b hb) hC)
  · exact (f b hb).2.2.2.2.1 y c (n.sub' y c e)
  · rcases (f b hb).2.2.2.1 with z | z
    · exact I.ok.noex b o e z
    · exact absurd (Nat.lt_of_lt_of_le (Heap.lt_size e) (Nat.le_trans I.ok.bsz z)) (Nat.lt_irrefl _)
  · rcases List.mem_cons.mp (I.stkSub b z) with e | e
    · exact (f b hb).2.1 e
    · exact (f b hb).2.2.1 e
  · by_cases hi : i < xs.length
    · have h2' : (cstL xs.length ix σ)[i]? = some (some v) := h2
      unfold cstL at h2'
      rw [List.getElem?_append_left (by simpa using hi), List.getElem?_replicate, if_pos hi] at h2'
      cases Option.some.inj h2'
    · obtain ⟨j, rfl⟩ : ∃ j, i = xs.length + j := ⟨i - xs.length, by omega⟩
      have h1' : ys[j]? = some y := by
        have h1'' : (xs ++ ys)[xs.length + j]? = some y := h1
        rw [List.getElem?_append_right (by omega)] at h1''
        simpa using h1''
      obtain ⟨i, e1, e2, e3, e4, e5⟩ := n.free.at j y h1'
      have h2' : (ix.map fun j => (σ[j]?).getD none)[j]? = some (some v) := by
        have h2'' : (cstL xs.length ix σ)[xs.length + j]? = some (some v) := h2
        unfold cstL at h2''
        rw [List.getElem?_append_right (by simp)] at h2''
        simpa using h2''
      rw [List.getElem?_map, e1] at h2'
      have h2'' : (σ[i]?).getD none = some v := Option.some.inj h2'
      have h4 : σ[i]? = some (some v) := by
        cases q : σ[i]? with
        | none => rw [q] at h2''; cases h2''
        | some o => rw [q] at h2''; exact congrArg some h2''
      obtain ⟨m', hn', hl⟩ := I.loc
      obtain ⟨u, r, look⟩ := hl i y v e2 h4 (.inr (.inl e3))
      refine ⟨u, r, .inr ⟨.inl e5, ?_⟩⟩
      rcases look with ⟨k, _⟩ | ⟨_, c, e, z⟩
      · rw [e3] at k; cases k
      · refine ⟨c, e4.trans e, ?_⟩
        obtain ⟨o, ho, hd⟩ := z
        exact ⟨o, old _ _ ho, hd⟩
  · obtain ⟨v, o, ho, hd⟩ := I.cell y c (n.sub' y c e)
    exact ⟨v, o, old _ _ ho, hd⟩
  · have hp' : p ∈ [(D, ob)] := hp
    have e := List.mem_singleton.mp hp'
    subst e
    exact ⟨hob, I.hok.fresh hD, hDC, nst D hD, hcell⟩
  · show (cstL xs.length ix σ).length = (xs ++ ys).length
    simp [cstL, n.free.len]

theorem pe_compL {elt iter : Expr} {elts ifs : List Expr} {kt : Nat} {px pos : Pos} {wi : TI} {gs : TGs} {tt : TT} {te : TE} (n : CompNamesL X scope cl xs ys ix) (hc : X.calm = true) (hi : PI X (.Tuple elts kt px) iter wi)
    (hg : ∀ C fp s H, PG (cmpCx X (xs ++ ys) scope cl C fp s H) (.Tuple elts kt px) (gTup X.K xs.length gs)) (hgs : ∀ (vs : List V) (cs : St) (H : Hp) (Q : St → Hp → Prop), vs.length = xs.length → Q (vs.map some ++ cs) H → gs vs (List.replicate xs.length none ++ cs) H Q)
    (ht : ∀ C fp s H, PTs (cmpCx X (xs ++ ys) scope cl C fp s H) ifs tt) (he : ∀ C fp s H, PE (cmpCx X (xs ++ ys) scope cl C fp s H) elt te)
    (hs : ∀ x, foldedSetIterable iter X.env x = pure x := by intro _; rfl) : PE X (.ListComp elt [⟨.Tuple elts kt px, iter, ifs, 0⟩] scope pos) (tCompL X.K xs.length wi ix tt te) := by
  intro pins s σ H Q I h
  rw [eval_ListComp]
  refine wpAny_comprehension_free (use := none) rfl hs n.clos n.kind n.names' (thn (hi pins s σ H _ I h) fun v s1 h1 => thn h1 fun itv s2 h2 => ?_)
  obtain ⟨it, fp, tn, J, H2, e, I2, T, st2, f2, W, ⟨m0, w0⟩, turn⟩ := h2
  subst e
  have fo : ∀ b ∈ fp, b < s2.heap.objs.size := fun b hb => let ⟨_, e, _⟩ := T.obj _ _ st2 b hb; Heap.lt_size e
  refine wpAny_newObj_type (wpAny_newFunctionEnv n.cell' (by intro y hy; simp at hy) (fun h₁ hns₁ hsb₁ => ?_) n.kind)
  dsimp only at hns₁ hsb₁ ⊢
  generalize hH3 : s2.heap.push { cls := .type "list", dict := none, data := .seq ([] : List Value).toArray } = G at hns₁ hsb₁ ⊢
  have hC : G.objs.size = s2.heap.objs.size + 1 := by rw [← hH3, Heap.size_push]
  have hDC : s2.heap.objs.size ≠ G.objs.size := by rw [hC]; exact Nat.ne_of_lt (Nat.lt_succ_self _)
  have hCle : s2.heap.objs.size ≤ G.objs.size := by rw [hC]; exact Nat.le_succ _
  have below : ∀ b, b < s2.heap.objs.size → b ≠ G.objs.size ∧ b ≠ s2.heap.objs.size := fun b hb => ⟨by rw [hC]; exact Nat.ne_of_lt (Nat.lt_succ_of_lt hb), Nat.ne_of_lt hb⟩
  have old : ∀ b o, s2.heap.get? b = some o → h₁.get? b = some o := fun b o e => hsb₁.extBut b o (below b (Heap.lt_size e)).1 (Heap.get?_push_of_some _ (hH3 ▸ Heap.get?_push_of_some _ e))
  have hacc : h₁.get? s2.heap.objs.size = some { cls := .type "list", data := .seq ([] : List Value).toArray 0 } := hsb₁.extBut _ _ hDC (Heap.get?_push_of_some _ (hH3 ▸ Heap.get?_push_size _ rfl))
  have st1 : tn 0 h₁ := T.keep _ _ _ st2 fun b _ o e => old b o e
  have stat : ∀ {H' : Hp} {ob : Obj}, (∀ b ∈ fp, H' b = none) → ∀ b ∈ fp, FpOk (cmpCx X (xs ++ ys) scope cl G.objs.size fp s2 H2) [(s2.heap.objs.size, ob)] H' b := fun {H' ob} hn b hb =>
    ⟨hn b hb, (below b (fo b hb)).1, fun z => by
      rcases List.mem_cons.mp (I2.stkSub b z) with e | e
      · exact (f2 b hb).2.1 e
      · exact (f2 b hb).2.2.1 e, .inl hb, fun y c e => (f2 b hb).2.2.2.2.1 y c (n.sub' y c e), fun p hp => by
      have hp' : p ∈ [(s2.heap.objs.size, ob)] := hp
      have e := List.mem_singleton.mp hp'
      subst e
      exact Ne.symm (below b (fo b hb)).2⟩
  have hfin : ∀ (s4 : Shared) (H3 : Hp) (zs : List V) (its : List Value) (k : Nat) (m' : Str → Option Value), Inv (cmpCx X (xs ++ ys) scope cl G.objs.size fp s2 H2) [(s2.heap.objs.size, { cls := .type "list", data := .seq its.toArray k })] (cstL xs.length ix σ) H3 s4 → Vals zs its →
      zs.length ≤ sizeLine → (∀ p, H3 p = none → Q (.ref p) (upd H3 p (.lst zs))) → compPost (model X.prog X.w) X.A X.xe none (EP X pins σ Q) (.ref s2.heap.objs.size) G.objs.size (.ok .next) s4 := by
    intro s4 H3 zs its k m' I4 rv hz q
    obtain ⟨m4, hn4, _⟩ := I4.loc
    refine ⟨m4, hn4, fun h' hs' => ?_⟩
    obtain ⟨eD, nD, _, _, _⟩ := I4.pin (s2.heap.objs.size, { cls := .type "list", data := .seq its.toArray k }) (by show _ ∈ [] ++ [_]; simp)
    have nC : H3 G.objs.size = none := I4.free
    have kp : ∀ b o, b ≠ G.objs.size → s4.heap.get? b = some o → h'.get? b = some o := fun b o hb e => hs'.extBut b o hb e
    have hok : HOk X.prog X.w (upd H3 s2.heap.objs.size (.lst zs)) h' := fun b u e => by
      by_cases hb : b = s2.heap.objs.size
      · subst hb
        rw [upd_same] at e
        cases e
        exact ⟨hz, its, k, rv, kp _ _ hDC eD⟩
      · rw [upd_ne hb] at e
        exact (I4.hok b u e).stay (fun c w hc qq => kp c w (by
          rcases hc with z | z
          · intro y; rw [y] at z; rw [← z, nC] at e; cases e
          · exact ne_of_none z nC) qq) (fun c qq => by rw [upd_ne (ne_of_none qq nD)]; exact qq) fun c xs qq => by rw [upd_ne (ne_of_none qq nD)]; exact qq
    have un : Un (frs X.stack) fp H2 (upd H3 s2.heap.objs.size (.lst zs)) s2.heap h' := by
      have u4 : Un (frs X.stack) fp H2 H3 s2.heap s4.heap := I4.base
      refine ⟨fun b o e nn hb hx => kp b o (below b (Heap.lt_size e)).1 (u4.keep b o e nn hb hx), fun b o e nn hb hx => ?_, fun b o e nn hx => ?_, fun b o e hx => ?_, fun b xs e => ?_, fun b o u e => ?_, fun b ps e => ?_⟩
      · obtain ⟨sl, e1⟩ := u4.slot b o e nn hb hx
        exact ⟨sl, kp _ _ (below b (Heap.lt_size e)).1 e1⟩
      · rw [upd_ne (below b (Heap.lt_size e)).2]
        exact u4.free b o e nn hx
      · obtain ⟨o', e1⟩ := u4.there b o e hx
        exact ⟨o', kp _ _ (below b (Heap.lt_size e)).1 e1⟩
      · have z := u4.tups b xs e
        rw [upd_ne (ne_of_none z nD)]
        exact z
      · have z := u4.frzs b o u e
        rw [upd_ne (ne_of_none z nD)]
        exact z
      · obtain ⟨more, z⟩ := u4.tbls b ps e
        exact ⟨more, by rw [upd_ne (ne_of_none z nD)]; exact z⟩
    exact ⟨.ref s2.heap.objs.size, upd H3 s2.heap.objs.size (.lst zs), I2.call' (s' := { s4 with heap := h' }) (ch := fp) I4.os un hok I4.bare (fun b hb => ⟨(f2 b hb).2.2.2.1, (f2 b hb).2.1, (f2 b hb).2.2.2.2.1, (f2 b hb).2.2.2.2.2⟩), rfl, q _ nD⟩
  have loop : ∀ s₃ : Shared, s₃ = { s2 with heap := h₁, toks := s2.toks + ([] : List (Str × Value)).length } →
      codeAny (model X.prog X.w) X.A (.compLoop (.ListComp elt [⟨.Tuple elts kt px, iter, ifs, 0⟩] scope pos) 0 (.ref it) (.ref s2.heap.objs.size) (compEnvC scope cl G.objs.size X.env))
        (compPost (model X.prog X.w) X.A X.xe none (EP X pins σ Q) (.ref s2.heap.objs.size) G.objs.size) s₃ := by
    rintro s₃ rfl
    refine turns_go (fun m s' => ∃ (i : Nat) (zs : List V) (its : List Value) (k : Nat) (H' : Hp),
        Inv (cmpCx X (xs ++ ys) scope cl G.objs.size fp s2 H2) [(s2.heap.objs.size, { cls := .type "list", data := .seq its.toArray k })] (cstL xs.length ix σ) H' s' ∧ Vals zs its ∧ tn i s'.heap ∧ (∀ b ∈ fp, H' b = none) ∧ W i m zs H') ?_ m0
      ⟨0, [], [], 0, H2, cmp_startL n I2 f2 fo (Nat.le_refl _) hCle hDC old hns₁ hacc (fun v z => by cases z), .nil, st1, fun b hb => (f2 b hb).1, w0⟩
    rintro m s3 ⟨i, zs, its, k, H3, I3, rv, st3, fr3, w3⟩
    rcases turn i m zs H3 w3 with ⟨stop, hz, qn⟩ | ⟨go, hz, step⟩
    · refine nof (thn (T.done (cmpCx X (xs ++ ys) scope cl G.objs.size fp s2 H2) rfl rfl rfl hc i _ s3 _ H3 _ I3 (stat fr3) st3 stop) fun r s4 ⟨hr, I4⟩ => ?_)
      subst hr
      exact hfin s4 H3 zs its k (fun _ => none) I4 rv hz qn
    · refine nof (thn (T.item (cmpCx X (xs ++ ys) scope cl G.objs.size fp s2 H2) rfl rfl rfl hc i _ s3 _ H3 _ I3 (stat fr3) st3 go) fun r s4 ⟨u, hr, h4⟩ => ?_)
      subst hr
      have go_on : ∀ {s5 s7 : Shared} {vs : List V} {H5 H7 : Hp}, vs.length = xs.length → (∀ b ∈ fp, H5 b = none) → tn (i + 1) s5.heap → Inv (cmpCx X (xs ++ ys) scope cl G.objs.size fp s2 H2) ([(s2.heap.objs.size, { cls := .type "list", data := .seq its.toArray k })] ++ pinsAt fp s5.heap) (cstV vs ix σ) H7 s7 →
          Inv (cmpCx X (xs ++ ys) scope cl G.objs.size fp s2 H2) [(s2.heap.objs.size, { cls := .type "list", data := .seq its.toArray k })] (cstL xs.length ix σ) H7 s7 ∧ tn (i + 1) s7.heap ∧ (∀ b ∈ fp, H7 b = none) := by
        intro s5 s7 vs H5 H7 hvl fr5 st5 I7
        have pn : ∀ b o, b ∈ fp → s5.heap.get? b = some o → s7.heap.get? b = some o ∧ H7 b = none := fun b o hb e => by
          have z := I7.pin (b, o) (List.mem_append_right _ (List.mem_append_right _ (mem_pinsAt hb e)))
          exact ⟨z.1, z.2.1⟩
        refine ⟨(I7.weak (σ' := cstL xs.length ix σ) (by simp [cstL, cstV, hvl]) fun j v e => ?_).unpinned, T.keep _ _ _ st5 fun b hb o e => (pn b o hb e).1, fun b hb => ?_⟩
        · unfold cstL at e
          unfold cstV
          by_cases hj : j < xs.length
          · rw [List.getElem?_append_left (by simpa using hj), List.getElem?_replicate, if_pos hj] at e
            cases Option.some.inj e
          · rw [List.getElem?_append_right (by simp; omega)] at e ⊢
            simpa [hvl] using e
        · obtain ⟨o, e, _⟩ := T.obj _ _ st5 b hb
          exact (pn b o hb e).2
      refine nof (thn h4 fun _ s5 ⟨y, H5, I5, r5, y5, st5, fr5⟩ => ?_)
      have I5' := I5.pinned (stat fr5) (T.obj _ _ st5)
      obtain ⟨a, vs, e1, hq, hvl, q5⟩ := step y _ y5
      subst e1
      refine nof (thn (hg _ _ _ _ _ s5 _ H5 (.ref a) u (fun σ' H' => σ' = cstV vs ix σ ∧ H' = H5) I5' r5 ⟨a, vs, rfl, hq, hvl, hgs vs _ _ _ hvl ⟨rfl, rfl⟩⟩) fun _ s6 ⟨σ6, H6, I6, e6, e6'⟩ => ?_)
      subst e6 e6'
      refine nof (thn (ht _ _ _ _ _ s6 _ _ _ I6 q5) fun b s7 ⟨H7, I7, q7⟩ => ?_)
      cases b with
      | false =>
        rw [if_neg (by decide)] at q7 ⊢
        obtain ⟨m', hm, w7⟩ := q7
        obtain ⟨I8, st8, fr8⟩ := go_on hvl fr5 st5 I7
        exact ⟨m', hm, i + 1, zs, its, k, H7, I8, rv, st8, fr8, w7⟩
      | true =>
        rw [if_pos rfl] at q7 ⊢
        refine nof (thn (he _ _ _ _ _ s7 _ _ _ I7 q7) fun v8 s8 ⟨z8, H8, I8, r8, m', hm, w8⟩ => ?_)
        obtain ⟨I9, st9, fr9⟩ := go_on hvl fr5 st5 I8
        obtain ⟨eD, nD, neL, _, _⟩ := I9.pin (s2.heap.objs.size, { cls := .type "list", data := .seq its.toArray k }) (by show _ ∈ [] ++ [_]; simp)
        refine append_at eD (fun h' hs' hD' => ?_) (by rw [List.size_toArray, ← rv.length]; exact hz)
        have kp : ∀ b o, b ≠ s2.heap.objs.size → s8.heap.get? b = some o → h'.get? b = some o := fun b o hb e => hs'.extBut b o hb e
        have lt_cell : ∀ y c, cl.lookup y = some c → c ≠ s2.heap.objs.size := fun y c e => by
          obtain ⟨v, q⟩ := I2.cell y c (n.sub' y c e)
          exact Nat.ne_of_lt q.lt
        have nst : s2.heap.objs.size ∉ frs X.stack := fun z => by
          rcases List.mem_cons.mp (I2.stkSub _ z) with e | e
          · exact absurd (Nat.lt_of_lt_of_le I2.lt (by rw [← e]; exact Nat.le_refl _)) (Nat.lt_irrefl _)
          · exact I2.nofs (Nat.le_refl _) e
        have I10 : Inv (cmpCx X (xs ++ ys) scope cl G.objs.size fp s2 H2) [] (cstL xs.length ix σ) H8 { s8 with heap := h', toks := s8.toks } :=
          (I9.pins_of (pins' := []) fun p hp => absurd hp (by simp)).turned (it := s2.heap.objs.size) kp nD neL (.inr (Nat.le_refl _)) lt_cell fun p hp => absurd (show p ∈ ([] : List (Addr × Obj)) from hp) (by simp)
        refine ⟨m', hm, i + 1, zs ++ [z8], its ++ [v8], k + 1, H8, I10.pins_of fun p hp => ?_, rv.append (.cons r8 .nil), T.keep _ _ _ st9 fun b hb o e => kp b o (below b (fo b hb)).2 e, fr9, w8⟩
        have e := List.mem_singleton.mp hp
        subst e
        refine ⟨?_, nD, hDC, nst, fun v z => by cases z⟩
        rw [← List.push_toArray]
        exact hD'
  exact codeAny_compStart_list (loop _ rfl) (T.self X.A 0 _ _ _ st1 (loop _ rfl))
end

/-! the targets of two and of three names -/
theorem gs2 (vs : List V) (cs : St) (H : Hp) (Q : St → Hp → Prop) (h : vs.length = 2) (q : Q (vs.map some ++ cs) H) : gCons (gName 0) (gCons (gName 1) gNil) vs (List.replicate 2 none ++ cs) H Q := by
  match vs, h with
  | [a, b], _ => exact ⟨a, [b], rfl, b, [], rfl, rfl, q⟩
theorem comp_zip {K : PySem.W.Frag} {a b : Addr} {xs zs : List V} {σ : St} {ix : List Nat} {tt : TT} {te : TE} {H : Hp} {Z : List V → Hp → Prop} (hl : xs.length ≤ sizeLine) (Pv : Nat → List V → Hp → Prop) (h0 : Pv 0 [] H) (hk : ∀ i ys H, Pv i ys H → H a = some (.lst xs) ∧ H b = some (.lst zs))
    (hs : ∀ i x y ys H (N : List V → Hp → Prop) T, xs[i]? = some x → zs[i]? = some y → ys.length ≤ i → Pv i ys H → H T = none → (∀ ys' H', ys'.length ≤ i + 1 → Pv (i + 1) ys' H' → N ys' H') →
      tt (cstV [x, y] ix σ) (upd H T (.tup [x, y])) fun b H4 => if b = true then te (cstV [x, y] ix σ) H4 fun v H5 => N (ys ++ [v]) H5 else N ys H4)
    (hd : ∀ ys H, ys.length ≤ min xs.length zs.length → Pv (min xs.length zs.length) ys H → Z ys H) :
    ∃ W : Nat → Nat → List V → Hp → Prop, (∃ m, W 0 m [] H) ∧ ∀ i m ys H2, W i m ys H2 →
      ((Itz a b).stop i H2 ∧ ys.length ≤ sizeLine ∧ Z ys H2) ∨
      ((Itz a b).go i H2 ∧ ys.length ≤ sizeLine ∧ ∀ x H3, (Itz a b).yld i H2 x H3 → ∃ (a : Addr) (vs : List V), x = .ref a ∧ SqT K H3 a vs ∧ vs.length = 2 ∧ tt (cstV vs ix σ) H3 fun b H4 =>
        if b = true then te (cstV vs ix σ) H4 fun v H5 => ∃ m', m' < m ∧ W (i + 1) m' (ys ++ [v]) H5 else ∃ m', m' < m ∧ W (i + 1) m' ys H4) := by
  refine ⟨fun i m ys H => m = min xs.length zs.length - i ∧ i ≤ min xs.length zs.length ∧ ys.length ≤ i ∧ Pv i ys H, ⟨min xs.length zs.length, by simp, Nat.zero_le _, Nat.le_refl _, h0⟩, ?_⟩
  rintro i m ys H ⟨rfl, hi, hy, p⟩
  obtain ⟨q1, q2⟩ := hk i ys H p
  by_cases hlt : i < min xs.length zs.length
  · have l1 : i < xs.length := by omega
    have l2 : i < zs.length := by omega
    refine .inr ⟨⟨xs, zs, xs[i], zs[i], q1, q2, by simp [l1], by simp [l2]⟩, by omega, fun z H' y => ?_⟩
    obtain ⟨T, x, y, rfl, hn, rfl, hv⟩ := y
    obtain ⟨v1, v2⟩ := hv xs zs q1 q2
    refine ⟨T, [x, y], rfl, SqT.of upd_same, rfl, ?_⟩
    exact hs i x y ys _ (fun ys' H5 => ∃ m', m' < min xs.length zs.length - i ∧ m' = min xs.length zs.length - (i + 1) ∧ i + 1 ≤ min xs.length zs.length ∧ ys'.length ≤ i + 1 ∧ Pv (i + 1) ys' H5) T v1 v2 hy p hn fun ys' H' h1 h2 => ⟨min xs.length zs.length - (i + 1), by omega, rfl, hlt, h1, h2⟩
  · have e : i = min xs.length zs.length := by omega
    subst e
    exact .inl ⟨⟨xs, zs, q1, q2, rfl⟩, by omega, hd ys H hy p⟩
end L2

namespace L2
open PySem PySem.Spec PyProof.Rows
/-! ### xs[::-1] of a list; is True, is not True; the other rules that laws of reaches want -/
section
variable {X : Cx}
def tRevL (K : PySem.W.Frag) (te ts : TE) : TE := fun σ H Q => te σ H fun x H1 => ts σ H1 fun y H2 => ∃ a xs, x = .ref a ∧ y = .int (-1) ∧ SqL K H2 a xs ∧ ∀ p, H2 p = none → Q (.ref p) (upd H2 p (.lst xs.reverse))
end
end L2

namespace L2
open PySem PySem.Spec PyProof.Rows PySem.SeqAt PySem.MeetsSeq
/-! ### deep values that are the same: ==, != ; lists against []; insert(0, x); reversed(xs); divmod by greater numbers -/
/-- x and y have the same plain values in the same places, n deep -/
def DSame (H : Hp) : Nat → V → V → Prop
  | 0, x, y => flatV x = true ∧ x = y
  | n + 1, x, y => (flatV x = true ∧ x = y) ∨ (∃ p q xs ys, x = .ref p ∧ y = .ref q ∧ H p = some (.lst xs) ∧ H q = some (.lst ys) ∧ xs.length = ys.length ∧ ∀ (j : Nat) (u v : V), xs[j]? = some u → ys[j]? = some v → DSame H n u v) ∨
    (∃ p q xs ys, x = .ref p ∧ y = .ref q ∧ H p = some (.tup xs) ∧ H q = some (.tup ys) ∧ xs.length = ys.length ∧ ∀ (j : Nat) (u v : V), xs[j]? = some u → ys[j]? = some v → DSame H n u v)
section
variable {X : Cx} {pins : List (Addr × Obj)} {σ : St} {H : Hp} {s : Shared}
/-- != of two lists that are the same, n deep below them -/
def rNeD (n : Nat) : R2 := fun x y H Q => ∃ p q xs ys, x = .ref p ∧ y = .ref q ∧ H p = some (.lst xs) ∧ H q = some (.lst ys) ∧ xs.length = ys.length ∧ (∀ (j : Nat) (u v : V), xs[j]? = some u → ys[j]? = some v → DSame H n u v) ∧ Q (.bl false) H
/-- xs == [], xs != [] -/
def rNil (neg : Bool) : R2 := fun x y H Q => ∃ p q xs, x = .ref p ∧ y = .ref q ∧ H p = some (.lst xs) ∧ H q = some (.lst []) ∧ Q (.bl (if neg then !xs.isEmpty else xs.isEmpty)) H
theorem op_eqNil (hu : X.A.units < cLine) : OpR X (compareOp .Eq) (rNil false) := by
  intro pins s σ H x y v u Q I rx ry h
  obtain ⟨p, q, xs, rfl, rfl, hp, hq, k⟩ := h
  cases rx
  cases ry
  obtain ⟨its, r1, p1, _⟩ := I.list (SqL.of (K := X.K) hp)
  obtain ⟨jts, r2, p2, _⟩ := I.list (SqL.of (K := X.K) hq)
  cases r2
  cases r1 with
  | nil =>
    refine SeqAt.RcAt.lists (e := fun _ => true) p1.isList p2.isList rfl hu (fun j h1 h2 => ?_) _ _ _ _ ⟨.bl true, H, I, rfl, k⟩
    simp at h1
  | cons r rr =>
    refine SeqAt.RcAt.lists_lengths p1.isList p2.isList ?_ hu _ _ _ _ ⟨.bl false, H, I, rfl, k⟩
    simp
/-- xs.insert(0, y) -/
def rInsert0 : V → List V → Hp → VK → Prop := fun x vs H Q => ∃ l xs y, x = .ref l ∧ vs = [.int 0, y] ∧ H l = some (.lst xs) ∧ xs.length < sizeLine ∧ Q .non (upd H l (.lst (y :: xs)))
/-- for x in reversed(xs) -/
def Itv (a : Addr) (xs : List V) : It :=
  ⟨fun i H => i < xs.length ∧ H a = some (.lst xs), fun i H x H' => H' = H ∧ xs[xs.length - 1 - i]? = some x, fun i H => i = xs.length⟩
def iRev (ta : TA) : TI := fun σ H R => ta σ H fun vs H1 => ∃ (a : Addr) (xs : List V), vs = [.ref a] ∧ H1 a = some (.lst xs) ∧ R (Itv a xs) H1
end
end L2

namespace L2
open PySem PySem.Spec PyProof.Rows
/-! ### repr of made data, where no repr is under way -/
mutual
/-- x is read as d -/
inductive RdV (H : Hp) : V → PyData → Prop
  | non : RdV H .non .none
  | bl (b : Bool) : RdV H (.bl b) (.bool b)
  | int (i : Int) : RdV H (.int i) (.int i)
  | str (z : Str) : RdV H (.str z) (.str z)
  | lst {p : Addr} {xs : List V} {ds : List PyData} : H p = some (.lst xs) → RdVs H xs ds → RdV H (.ref p) (.list ds)
  | tup {p : Addr} {xs : List V} {ds : List PyData} : H p = some (.tup xs) → RdVs H xs ds → RdV H (.ref p) (.tuple ds)
inductive RdVs (H : Hp) : List V → List PyData → Prop
  | nil : RdVs H [] []
  | cons {x : V} {d : PyData} {xs : List V} {ds : List PyData} : RdV H x d → RdVs H xs ds → RdVs H (x :: xs) (d :: ds)
end
mutual
theorem RdV.mono {H H' : Hp} (s : Same H H') : ∀ {x : V} {d : PyData}, RdV H x d → RdV H' x d
  | _, _, .non => .non
  | _, _, .bl b => .bl b
  | _, _, .int i => .int i
  | _, _, .str z => .str z
  | _, _, .lst h r => .lst (s _ _ h) (RdVs.mono s r)
  | _, _, .tup h r => .tup (s _ _ h) (RdVs.mono s r)
theorem RdVs.mono {H H' : Hp} (s : Same H H') : ∀ {xs : List V} {ds : List PyData}, RdVs H xs ds → RdVs H' xs ds
  | _, _, .nil => .nil
  | _, _, .cons a b => .cons (RdV.mono s a) (RdVs.mono s b)
end
section
variable {X : Cx} {pins : List (Addr × Obj)} {σ : St} {H : Hp} {s : Shared}
mutual
theorem RdV.reads (I : Inv X pins σ H s) : ∀ {x : V} {d : PyData} {u : Value}, RdV H x d → RelV x u → (∃ as, Reads s.heap u d as) ∧ d.hasDict = false
  | _, _, _, .non, r => by cases r; exact ⟨⟨_, .none⟩, by simp only [PyData.hasDict]⟩
  | _, _, _, .bl b, r => by cases r; exact ⟨⟨_, .bool b⟩, by simp only [PyData.hasDict]⟩
  | _, _, _, .int i, r => by obtain ⟨t, rfl⟩ := r; exact ⟨⟨_, .int i t⟩, by simp only [PyData.hasDict]⟩
  | _, _, _, .str z, r => by obtain ⟨t, rfl⟩ := r; exact ⟨⟨_, .str z t⟩, by simp only [PyData.hasDict]⟩
  | _, _, _, .lst h q, r => by
    cases r
    obtain ⟨_, its, n, rv, e⟩ := (show ObjOk X.prog X.w H s.heap _ (.lst _) from I.hok _ _ h)
    obtain ⟨⟨as, ra⟩, hd⟩ := RdVs.reads I q rv
    exact ⟨⟨_, .list e rfl rfl (by simpa using ra)⟩, by simp only [PyData.hasDict]; exact hd⟩
  | _, _, _, .tup h q, r => by
    cases r
    obtain ⟨_, its, rv, o, e, c, n, d⟩ := (show ObjOk X.prog X.w H s.heap _ (.tup _) from I.hok _ _ h)
    obtain ⟨⟨as, ra⟩, hd⟩ := RdVs.reads I q rv
    exact ⟨⟨_, .tuple e c d (by simpa using ra)⟩, by simp only [PyData.hasDict]; exact hd⟩
theorem RdVs.reads (I : Inv X pins σ H s) : ∀ {xs : List V} {ds : List PyData} {us : List Value}, RdVs H xs ds → Vals xs us → (∃ as, ReadsAll s.heap us ds as) ∧ PyData.hasDictAll ds = false
  | _, _, _, .nil, r => by cases r; exact ⟨⟨_, .nil⟩, by simp only [PyData.hasDictAll]⟩
  | _, _, _, .cons a b, r => by
    cases r with
    | cons r1 r2 =>
      obtain ⟨⟨as, ra⟩, h1⟩ := RdV.reads I a r1
      obtain ⟨⟨bs, rb⟩, h2⟩ := RdVs.reads I b r2
      exact ⟨⟨_, .cons ra rb⟩, by simp only [PyData.hasDictAll, h1, h2, Bool.or_self]⟩
end
theorem bt_repr : bootBuiltins "repr" = some (.builtin "repr") := by decide +kernel
end
end L2

namespace L2
open PySem PySem.Spec PyProof.Rows
structure FnOkC (P : Program) (w : World) (K : PySem.W.Frag) (mg : Str → Option Value) (base : Heap) (CX : CXT) (k : Nat) (f : Addr) (fd : FuncData) (ps : List Str) (sp : Sp) : Prop where
  len : ∀ vs H Q E, sp vs H Q E → vs.length = ps.length
  run : ∀ (outer : List Env) (s : Shared) (H : Hp) (args : Args) (us : List Value) (vs : List V) (Q : VK) (E : XK), Room k callerA → Env0 P w K mg base callerA outer s H → BindsTo s fd args (ps.zip us) → Vals vs us → sp vs H Q E →
    codeAny (model P w) callerA (.call (.ref f) args) (CR CX outer P w H s Q E) s
theorem fn_ofC {CX : CXT} {P : Program} {w : World} {K : PySem.W.Frag} {mg : Str → Option Value} {base : Heap} {k : Nat} {f : Addr} {name qual : Str} {params : Arguments} {body : List Stmt} {scope : Scope} {dV kV doc pm cdv ct oc : Value} {an od : Option Addr}
    {osl : Array (Option Value)} {N ps : List Str} {sp : Sp} (lk : K.lookup f = some ⟨oc, od, .func (PySem.W.fnOf name qual params body scope dV kV doc pm an cdv ct), osl⟩) (hcd : PySem.W.codeIn K cdv qual = true) (S : FnScope N ps scope)
    (len : ∀ vs H Q E, sp vs H Q E → vs.length = ps.length)
    (hbody : ∀ (outer : List Env) (s : Shared) (H : Hp) (vs : List V) (Q : VK) (E : XK), Room k (callerA.deeper (envOfC qual scope s.heap.objs.size f cdv)) → sp vs H Q E →
      ∃ t, PSs (cxOf CX P w K mg base N qual scope f cdv callerA outer s H E) body t ∧ t { nx := fun _ H' => Q .non H', rt := Q } (start N vs) H) :
    FnOkC P w K mg base CX (k + 1) f (PySem.W.fnOf name qual params body scope dV kV doc pm an cdv ct) ps sp := by
  refine ⟨len, fun outer s H args us vs Q E hr e0 hb r hsp => ?_⟩
  have hl := len _ _ _ _ hsp
  have KX : K.In s.heap := e0.mod.kin.keeps fun b o e => (e0.bs b o e).1
  have lim : s.heap.NoLimit := e0.mod.nolimit.keeps fun b o e => (e0.bs b o e).1
  have hkind : ∀ y ∈ ps.zip us, scope.names.lookup y.1 = some .local ∨ (scope.names.lookup y.1 = some .cell ∧ ((cellsFrom (s.heap.objs.size + 1) scope.names []).lookup y.1).isSome = true) := fun ⟨n, v⟩ hy => by
    rcases S.par n (List.of_mem_zip hy).1 with q | q
    · exact .inl q
    · exact .inr ⟨q, PySem.W.cellsFrom_some _ _ _ (.inl q)⟩
  refine codeAny_call_function hr.depth (KX _ _ lk) rfl S.co S.gen rfl (PySem.W.codeRec_of KX hcd) (hb _ _ _ _ ?_)
  refine wpAny_newFunctionEnv_cells S.kind hkind fun env he s1 x => ?_
  subst he
  refine ⟨lim.keeps x.toInCall.keep, codeAny_func ?_⟩
  obtain ⟨t, ht, hq⟩ := hbody outer s H vs Q E (hr.deeper _) hsp
  have I : Inv (cxOf CX P w K mg base N qual scope f cdv callerA outer s H E) [] (start N vs) H s1 := inv_start S hr.hd e0 hl r x
  refine wpAny_mono (ht [] s1 (start N vs) H _ I hq) (fun fl s' hs => ?_) fun e s' hs => hs
  have fin : ∀ {σ' : St} {H' : Hp} {v : V} {u : Value}, Inv (cxOf CX P w K mg base N qual scope f cdv callerA outer s H E) [] σ' H' s' → RelV v u → Q v H' → CE outer P w H s Q u s' :=
    fun {σ' H' v u} J rv q => ⟨v, H', J.os, J.bare, J.base, J.hok, rv, q⟩
  cases fl with
  | ret u =>
    obtain ⟨v, σ', H', J, rv, q⟩ := hs
    exact fin J rv q
  | next =>
    obtain ⟨σ', H', J, q⟩ := hs
    exact fin (v := V.non) (u := Value.none) J rfl q
  | brk =>
    obtain ⟨_, _, _, q⟩ := hs
    exact False.elim q
  | cont =>
    obtain ⟨_, _, _, q⟩ := hs
    exact False.elim q
section
variable {P : Program} {w : World} {K : PySem.W.Frag} {mg : Str → Option Value} {base : Heap}
theorem Fun.okC {x qual : Str} {st : Stmt} {f : Addr} {fd : FuncData} {N ps : List Str} {k : Nat} {sp : Sp} (F : Fun K x qual st f fd) (S : FnScope N ps (defScope st)) (len : ∀ vs H Q E, sp vs H Q E → vs.length = ps.length)
    (hbody : ∀ (cdv : Value) (outer : List Env) (s : Shared) (H : Hp) (vs : List V) (Q : VK) (E : XK), Room k (callerA.deeper (envOfC qual (defScope st) s.heap.objs.size f cdv)) → sp vs H Q E →
      ∃ t, PSs (cxOf CX0 P w K mg base N qual (defScope st) f cdv callerA outer s H E).nox (defBody st) t ∧ t { nx := fun _ H' => Q .non H', rt := Q } (start N vs) H) : FnOkC P w K mg base CX0 (k + 1) f fd ps sp := by
  obtain ⟨oc, od, kV, doc, pm, an, cdv, ct, osl, rfl, lk, hcd⟩ := F.ex
  refine fn_ofC lk hcd S len fun outer s H vs Q E hr hsp => ?_
  obtain ⟨t, h, q⟩ := hbody cdv outer s H vs Q E hr hsp
  exact ⟨t, h.nox, q⟩
end
end L2

namespace Mr
open PySem L2
theorem bt_len : bootBuiltins "len" = some (.builtin "len") := by decide +kernel
theorem bt_abs : bootBuiltins "abs" = some (.builtin "abs") := by decide +kernel
theorem bt_all : bootBuiltins "all" = some (.builtin "all") := by decide +kernel
theorem bt_max : bootBuiltins "max" = some (.builtin "max") := by decide +kernel
theorem bt_min : bootBuiltins "min" = some (.builtin "min") := by decide +kernel
theorem bt_divmod : bootBuiltins "divmod" = some (.builtin "divmod") := by decide +kernel
theorem bt_isinstance : bootBuiltins "isinstance" = some (.builtin "isinstance") := by decide +kernel
theorem bt_str : bootBuiltins "str" = some (.type "str") := by decide +kernel
theorem bt_bool : bootBuiltins "bool" = some (.type "bool") := by decide +kernel
theorem bt_int : bootBuiltins "int" = some (.type "int") := by decide +kernel
theorem bt_tuple : bootBuiltins "tuple" = some (.type "tuple") := by decide +kernel
theorem e_nil : ("" : Str) = tx [] := by decide +kernel
theorem e_abz : ("abz" : Str) = tx [97, 98, 122] := by decide +kernel
/-- letters a to z -/
def Let (l : List Nat) : Prop := ∀ c ∈ l, 97 ≤ c ∧ c ≤ 122
theorem Let.app {l m : List Nat} (a : Let l) (b : Let m) : Let (l ++ m) := fun c h => (List.mem_append.mp h).elim (a c) (b c)
theorem Let.rev {l : List Nat} (a : Let l) : Let l.reverse := fun c h => a c (List.mem_reverse.mp h)
theorem Let.sub {l m : List Nat} (a : Let l) (h : ∀ c ∈ m, c ∈ l) : Let m := fun c q => a c (h c q)
theorem Let.nil : Let [] := fun _ h => absurd h (by simp)
theorem Let.take {l : List Nat} (a : Let l) (n : Nat) : Let (l.take n) := a.sub fun _ h => List.mem_of_mem_take h
theorem Let.drop {l : List Nat} (a : Let l) (n : Nat) : Let (l.drop n) := a.sub fun _ h => List.mem_of_mem_drop h
theorem Let.cut {l : List Nat} (a : Let l) (lo hi : Option Int) : Let (cutL l lo hi) := (a.drop _).take _
/-- all that is tracked, but what stands at b, is as it was -/
def But (b : Addr) (H H' : Hp) : Prop := ∀ c o, H c = some o → c ≠ b → H' c = some o
theorem But.trans {b : Addr} {H H1 H2 : Hp} (x : But b H H1) (y : But b H1 H2) : But b H H2 := fun c o e n => y c o (x c o e n) n
theorem But.of {b : Addr} {H H1 : Hp} (x : Same H H1) : But b H H1 := fun c o e _ => x c o e
theorem cut_from {l : List Nat} (k : Nat) : cutL l (some (k : Int)) none = l.drop k := by
  unfold cutL
  rw [HT.sIx_nat, HT.sIx_none]
  by_cases h : k ≤ l.length
  · rw [Nat.min_eq_left h, List.take_of_length_le (by simp)]
  · rw [Nat.min_eq_right (by omega), List.drop_eq_nil_of_le (Nat.le_refl _), List.drop_eq_nil_of_le (by omega)]
    simp
theorem cut_to {l : List Nat} (k : Nat) : cutL l none (some (k : Int)) = l.take k := by
  unfold cutL
  rw [HT.sIx_nat, HT.sIx_none, Nat.sub_zero, List.drop_zero]
  by_cases h : k ≤ l.length
  · rw [Nat.min_eq_left h]
  · rw [Nat.min_eq_right (by omega), List.take_of_length_le (Nat.le_refl _), List.take_of_length_le (by omega)]
theorem cut_mid (l : List Nat) (a b : Nat) : (cutL l (some (a : Int)) (some (b : Int))).length ≤ b - a := by
  unfold cutL
  rw [HT.sIx_nat, HT.sIx_nat, List.length_take, List.length_drop]
  omega

theorem cut_le (l : List Nat) (lo hi : Option Int) : (cutL l lo hi).length ≤ l.length := by
  unfold cutL
  rw [List.length_take, List.length_drop]
  omega
section
variable (K : PySem.W.Frag)
def spCell : Sp := fun vs H Q _ => ∃ (a : Addr) (ns : List Int) (k : Int), vs = [.ref a, .int k] ∧ SqL K H a (ns.map V.int) ∧ 0 ≤ k ∧ ∀ i, Q (.int i) H
def spMix : Sp := fun vs H Q _ => ∃ (c k : Int), vs = [.int c, .int k] ∧ 0 ≤ k ∧ k ≤ 1000 ∧ ∀ (i : Int) (H' : Hp), 0 ≤ i → Same H H' → Q (.int i) H'
def spBox : Sp := fun vs H Q _ => ∃ (a : Addr) (ns : List Int) (k : Int), vs = [.ref a, .int k] ∧ SqL K H a (ns.map V.int) ∧ 0 ≤ k ∧ ∀ (b : Addr) (n : Int) (H' : Hp), 0 ≤ n → H b = none → H' b = some (.lst [.int n]) → Same H H' → Q (.ref b) H'
def spTake : Sp := fun vs H Q _ => ∃ (b : Addr) (n m : Int), vs = [.ref b, .int m] ∧ H b = some (.lst [.int n]) ∧ 0 ≤ n ∧ 0 < m ∧ m < 1000000 ∧
  ∀ (d n' : Int) (H' : Hp), 0 ≤ d → d < m → 0 ≤ n' → H' b = some (.lst [.int n']) → But b H H' → Q (.int d) H'
def spTruth : Sp := fun vs H Q _ => ∃ (a b : Bool), vs = [.bl a, .bl b] ∧ Q (.bl (decide (a = b))) H
def spBehind : Sp := fun vs H Q _ => ∃ (l : List Nat), vs = [.str (tx l)] ∧ l.length ≤ sizeLine ∧ Q (.str (tx l.reverse)) H
def spAlike : Sp := fun vs H Q _ => ∃ (l : List Nat), vs = [.str (tx l)] ∧ l.length ≤ 1000000 ∧ ∀ H', Same H H' → Q (.bl (decide (l = l.reverse))) H'
def spClosed : Sp := fun vs H Q _ => ∃ (l : List Nat), vs = [.str (tx l)] ∧ Let l ∧ l.length ≤ 10000 ∧ ∀ (m : List Nat) (H' : Hp), Let m → m.length ≤ 2 * l.length → Same H H' → Q (.str (tx m)) H'
def spRow : Sp := fun vs H Q _ => ∃ (b : Addr) (n most : Int), vs = [.ref b, .int most] ∧ H b = some (.lst [.int n]) ∧ 0 ≤ n ∧ 0 ≤ most ∧ most ≤ 1000 ∧
  ∀ (m : List Nat) (n' : Int) (H' : Hp), Let m → (m.length : Int) ≤ most → 0 ≤ n' → H' b = some (.lst [.int n']) → But b H H' → Q (.str (tx m)) H'
end
theorem int_at {ns : List Int} {k : Int} (h0 : 0 ≤ k) (h1 : k < (ns.map V.int).length) : ∃ z, atI (ns.map V.int) k = some (V.int z) := by
  obtain ⟨j, rfl⟩ := Int.eq_ofNat_of_zero_le h0
  have hj : j < ns.length := by rw [List.length_map] at h1; omega
  exact ⟨ns[j], atI_nat (by rw [List.getElem?_map, List.getElem?_eq_getElem hj]; rfl)⟩
theorem at_ofInt {α : Type} {xs : List α} {k : Int} (h0 : 0 ≤ k) (h1 : k < xs.length) : ∃ z, atI xs k = some z ∧ z ∈ xs := by
  obtain ⟨j, rfl⟩ := Int.eq_ofNat_of_zero_le h0
  have hj : j < xs.length := by omega
  exact ⟨xs[j], atI_nat (List.getElem?_eq_getElem hj), List.getElem_mem hj⟩
/-- sign by sign from both ends -/
theorem alike_iff (l : List Nat) : (∀ k, k < l.length / 2 → l[k]? = l[l.length - 1 - k]?) ↔ l = l.reverse := by
  constructor
  · intro h
    apply List.ext_getElem?
    intro i
    by_cases hi : i < l.length
    · rw [List.getElem?_reverse hi]
      by_cases h1 : i < l.length / 2
      · exact h i h1
      · by_cases h2 : l.length - 1 - i < l.length / 2
        · have := h (l.length - 1 - i) h2
          rw [this]
          congr 1
          omega
        · have : l.length - 1 - i = i := by omega
          rw [this]
    · rw [List.getElem?_eq_none (by omega), List.getElem?_eq_none (by rw [List.length_reverse]; omega)]
  · intro h k hk
    have hk' : k < l.length := by omega
    have e : l[k]? = l.reverse[k]? := congrArg (fun m : List Nat => m[k]?) h
    rw [e, List.getElem?_reverse hk']
theorem flat_one : ∀ cs : List Nat, (cs.map fun c => [c]).flatten = cs
  | [] => rfl
  | c :: cs => by rw [List.map_cons, List.flatten_cons, flat_one cs]; rfl
theorem sum_one : ∀ cs : List Nat, ((cs.map fun c => [c]).map (·.length)).sum = cs.length
  | [] => rfl
  | c :: cs => by rw [List.map_cons, List.map_cons, List.sum_cons, sum_one cs, List.length_cons]; show 1 + cs.length = cs.length + 1; omega
theorem yes_ok {σ : St} {H : Hp} {Q : Bool → Hp → Prop} (h : Q true H) : tYes σ H Q := h
theorem e_a : ("a" : Str) = tx [97] := by decide +kernel
theorem e_A : ("A" : Str) = tx [65] := by decide +kernel
theorem e_ab : ("a b" : Str) = tx [97, 32, 98] := by decide +kernel
theorem e_an : ("a\n" : Str) = tx [97, 10] := by decide +kernel
theorem e_1 : ("1" : Str) = tx [49] := by decide +kernel
/-- the odd things -/
inductive Odd (H : Hp) : V → Prop
  | non : Odd H .non
  | bl (b : Bool) : Odd H (.bl b)
  | int (i : Int) (h : i = 0 ∨ i = 10 ^ 39 ∨ i = -1) : Odd H (.int i)
  | str (l : List Nat) (h : l = [65] ∨ l = [97, 32, 98] ∨ l = [97, 10] ∨ l = [49]) : Odd H (.str (tx l))
  | long : Odd H (.str (tx (repL [97] 201)))
  | la (p : Addr) (h : H p = some (.lst [.str (tx [97])])) : Odd H (.ref p)
  | ta (p : Addr) (h : H p = some (.tup [.str (tx [97])])) : Odd H (.ref p)
  | da (p : Addr) (h : H p = some (.dK [(Sum.inr (tx [97]), .int 1)])) : Odd H (.ref p)
  | t01 (p : Addr) (h : H p = some (.tup [.int 0, .int 1])) : Odd H (.ref p)
  | l0 (p : Addr) (h : H p = some (.lst [])) : Odd H (.ref p)
def spOdd : Sp := fun vs H Q _ => ∃ (b : Addr) (n : Int), vs = [.ref b] ∧ H b = some (.lst [.int n]) ∧ 0 ≤ n ∧
  ∀ (x : V) (n' : Int) (H' : Hp), Odd H' x → 0 ≤ n' → H' b = some (.lst [.int n']) → But b H H' → Q x H'
def lets : List Nat := [97, 98, 99, 100, 101, 102, 103, 104, 105, 106, 107, 108, 109, 110, 111, 112, 113, 114, 115, 116, 117, 118, 119, 120, 121, 122]
theorem e_lets : ("abcdefghijklmnopqrstuvwxyz" : Str) = tx lets := by decide +kernel
theorem mem_lets {c : Nat} : c ∈ lets ↔ 97 ≤ c ∧ c ≤ 122 := by
  unfold lets
  simp only [List.mem_cons, List.not_mem_nil, or_false]
  omega
def rowL (l : List Nat) : Bool := decide (l.length ≤ 200) && l.all fun c => decide (c ∈ lets)
def rowV : V → Bool
  | .str z => rowL z.cps.toList
  | _ => false
def mirV : V → Bool
  | .str z => rowL z.cps.toList && (!decide (z.cps.toList = []) && decide (z.cps.toList = z.cps.toList.reverse))
  | _ => false
theorem rowL_iff {l : List Nat} : rowL l = true ↔ l.length ≤ 200 ∧ Let l := by
  unfold rowL
  rw [Bool.and_eq_true, decide_eq_true_iff, List.all_eq_true]
  constructor
  · intro h
    exact ⟨h.1, fun c hc => mem_lets.mp (of_decide_eq_true (h.2 c hc))⟩
  · intro h
    exact ⟨h.1, fun c hc => decide_eq_true (mem_lets.mpr (h.2 c hc))⟩
section
variable (K : PySem.W.Frag)
/-- a text of moderate length, or a thing that is no text -/
def Thing (H : Hp) (x : V) : Prop := (∃ l : List Nat, x = .str (tx l) ∧ l.length ≤ 100000) ∨ (rowV x = false ∧ mirV x = false ∧ ∃ t, TyOf K H x t ∧ PySem.W.kitOne K t (.type "str") = some false)
def spIsRow : Sp := fun vs H Q _ => ∃ x, vs = [x] ∧ Thing K H x ∧ ∀ H', Same H H' → Q (.bl (rowV x)) H'
def spIsMirror : Sp := fun vs H Q _ => ∃ x, vs = [x] ∧ Thing K H x ∧ ∀ H', Same H H' → Q (.bl (mirV x)) H'
def spNeed : Sp := fun vs H Q _ => ∃ l : List Nat, vs = [.str (tx l)] ∧ rowL l = true ∧ ∀ H', Same H H' → Q .non H'
def spBack : Sp := fun vs H Q _ => ∃ l : List Nat, vs = [.str (tx l)] ∧ rowL l = true ∧ ∀ H', Same H H' → Q (.str (tx l.reverse)) H'
end
section
variable {P : Program} {w : World} {K : PySem.W.Frag} {mg : Str → Option Value} {base : Heap}
theorem TyOf.same {H H' : Hp} {x : V} {t : Value} (s : Same H H') (h : TyOf K H x t) : TyOf K H' x t := by
  cases h with
  | non => exact .non
  | bl b => exact .bl b
  | int i => exact .int i
  | str z => exact .str z
  | flt z => exact .flt z
  | lst e => exact .lst (s _ _ e)
  | frz e => exact .frz (s _ _ e)
  | tup e => exact .tup (s _ _ e)
  | dK e => exact .dK (s _ _ e)
  | dT e => exact .dT (s _ _ e)
  | ins e a b c d f => exact .ins (s _ _ e) a b c d f
end
section
variable {P : Program} {w : World} {K : PySem.W.Frag} {mg : Str → Option Value} {base : Heap}
theorem row_thing {H : Hp} {l : List Nat} (h : rowL l = true) : Thing K H (.str (tx l)) := .inl ⟨l, rfl, by have := (rowL_iff.mp h).1; omega⟩
end
theorem same_but {b : Addr} {H H1 H2 : Hp} (s : Same H H1) (fr : H b = none) (k : But b H1 H2) : Same H H2 := fun c o e => k c o (s c o e) (ne_of_none e fr)
theorem Odd.but {b : Addr} {n : Int} {H H' : Hp} {x : V} (h : Odd H x) (hb : H b = some (.lst [.int n])) (k : But b H H') : Odd H' x := by
  cases h with
  | non => exact .non
  | bl b => exact .bl b
  | int i h => exact .int i h
  | str l h => exact .str l h
  | long => exact .long
  | la p e => exact .la p (k _ _ e (ne_of e hb (by intro z; cases z)))
  | ta p e => exact .ta p (k _ _ e (ne_of e hb (by intro z; cases z)))
  | da p e => exact .da p (k _ _ e (ne_of e hb (by intro z; cases z)))
  | t01 p e => exact .t01 p (k _ _ e (ne_of e hb (by intro z; cases z)))
  | l0 p e => exact .l0 p (k _ _ e (ne_of e hb (by intro z; cases z)))
def spLaw (K : PySem.W.Frag) : Sp := fun vs H Q _ => ∃ (a : Addr) (ns : List Int), vs = [.ref a] ∧ SqL K H a (ns.map V.int) ∧ ns.length ≤ 63 ∧ ∀ H', Q (.bl true) H'
section
variable {P : Program} {w : World} {K : PySem.W.Frag} {mg : Str → Option Value} {base : Heap}
end
end Mr

namespace Mr
open PySem L2
/-- plain values -/
def Scal : V → Prop
  | .non => True
  | .bl _ => True
  | .int _ => True
  | .str _ => True
  | _ => False
def wholeV : V → Bool
  | .int _ => true
  | _ => false
/-- a stretch of a row of n signs -/
def stL (n : Int) : List V → Bool
  | [.int i, .int j] => decide (0 ≤ i) && (decide (i ≤ j) && decide (j ≤ n))
  | _ => false
def cutAl (l : List Nat) : List V → Bool
  | [.int i, .int j] => decide (cutL l (some i) (some j) = (cutL l (some i) (some j)).reverse)
  | _ => false
def rdL (l : List Nat) (xs : List V) : Bool := stL (l.length : Int) xs && cutAl l xs
section
variable (K : PySem.W.Frag)
def NoTup (H : Hp) (x : V) : Prop := ∃ t, TyOf K H x t ∧ PySem.W.kitOne K t (.type "tuple") = some false
def spWhole : Sp := fun vs H Q _ => ∃ x, vs = [x] ∧ Scal x ∧ Q (.bl (wholeV x)) H
def spStretch : Sp := fun vs H Q _ => ∃ (x : V) (n : Int), vs = [x, .int n] ∧ ((NoTup K H x ∧ Q (.bl false) H) ∨ ∃ p xs, x = .ref p ∧ H p = some (.tup xs) ∧ (xs.length = 2 → ∀ y ∈ xs, Scal y) ∧ Q (.bl (stL n xs)) H)
def spReads : Sp := fun vs H Q _ => ∃ (l : List Nat) (x : V), vs = [.str (tx l), x] ∧ rowL l = true ∧ ((NoTup K H x ∧ ∀ H', Same H H' → Q (.bl false) H') ∨ ∃ p xs, x = .ref p ∧ H p = some (.tup xs) ∧ (xs.length = 2 → ∀ y ∈ xs, Scal y) ∧ ∀ H', Same H H' → Q (.bl (rdL l xs)) H')
end
theorem row_sub {l m : List Nat} (h : rowL l = true) (h1 : m.length ≤ l.length) (h2 : ∀ c ∈ m, c ∈ l) : rowL m = true := by
  obtain ⟨a, b⟩ := rowL_iff.mp h
  exact rowL_iff.mpr ⟨by omega, b.sub h2⟩
end Mr

namespace Mr
open PySem L2
/-! readings that only lay new things -/
def EOk (σ : St) (Φ : Hp → V → Prop) (te : TE) : Prop := ∀ (H : Hp) (Q : VK), (∀ x H', Same H H' → Φ H' x → Q x H') → te σ H Q
def AOk (σ : St) (Φ : Hp → V → Prop) (n : Nat) (t : TA) : Prop := ∀ (H : Hp) (Q : List V → Hp → Prop), (∀ xs H', Same H H' → xs.length = n → (∀ x ∈ xs, Φ H' x) → Q xs H') → t σ H Q
section
variable {σ : St} {Φ : Hp → V → Prop} {te : TE} {t : TA} {n : Nat}
end
/-- the things that are looked at as stretches, in the row l -/
inductive Th2 (l : List Nat) (H : Hp) : V → Prop
  | tup (p : Addr) (xs : List V) (h : H p = some (.tup xs)) (hs : ∀ y ∈ xs, Scal y) (g : rdL l xs = (eqVs xs [.int 0, .int 1] && decide (0 < l.length))) : Th2 l H (.ref p)
  | nest (p r : Addr) (zs : List V) (h : H p = some (.tup [.ref r])) (h' : H r = some (.tup zs)) : Th2 l H (.ref p)
  | lst (p : Addr) (xs : List V) (h : H p = some (.lst xs)) : Th2 l H (.ref p)
  | dk (p : Addr) (kvs : List (Key × V)) (h : H p = some (.dK kvs)) : Th2 l H (.ref p)
  | non : Th2 l H .non
  | bl (b : Bool) : Th2 l H (.bl b)
  | int (i : Int) : Th2 l H (.int i)
  | str (z : Str) : Th2 l H (.str z)
section
variable {K : PySem.W.Frag}
end
end Mr

namespace Mr
open PySem L2
theorem bt_list : bootBuiltins "list" = some (.type "list") := by decide +kernel
/-- n, n - 1, .. 1 -/
def downs (n : Nat) : List Nat := (List.range n).map fun i => n - i
theorem downs_len (n : Nat) : (downs n).length = n := by simp [downs]
theorem downs_take {n i : Nat} (h : i < n) : (downs n).take (i + 1) = (downs n).take i ++ [n - i] := by
  rw [List.take_succ]
  congr 1
  unfold downs
  rw [List.getElem?_map, List.getElem?_range h]
  rfl
theorem downs_all (n : Nat) : (downs n).take n = downs n := List.take_of_length_le (by rw [downs_len]; exact Nat.le_refl _)
theorem filt_take {n i : Nat} (p : Nat → Bool) (h : i < n) : ((downs n).take (i + 1)).filter p = ((downs n).take i).filter p ++ (if p (n - i) = true then [n - i] else []) := by
  rw [downs_take h, List.filter_append]
  congr 1
  by_cases hp : p (n - i) = true
  · rw [List.filter_cons_of_pos hp, if_pos hp]; rfl
  · rw [List.filter_cons_of_neg hp, if_neg hp]; rfl
def lensV (ks : List Nat) : List V := ks.map fun (k : Nat) => V.int (k : Int)
theorem lensV_app (a b : List Nat) : lensV (a ++ b) = lensV a ++ lensV b := List.map_append
theorem lensV_len (ks : List Nat) : (lensV ks).length = ks.length := by simp [lensV]
def bordersN (l : List Nat) : List Nat := (downs (l.length - 1)).filter fun k => decide (l.take k = l.drop (l.length - k))
def endsN (l : List Nat) : List Nat := (downs l.length).filter fun k => decide (l.drop (l.length - k) = (l.drop (l.length - k)).reverse)
def beginsN (l : List Nat) : List Nat := (downs l.length).filter fun k => decide (l.take k = (l.take k).reverse)
theorem filt_le (n : Nat) (p : Nat → Bool) : ((downs n).filter p).length ≤ n := Nat.le_trans (List.length_filter_le _ _) (Nat.le_of_eq (downs_len n))
/-- a def that tells a list of lengths of a row, a new one -/
def spLens (f : List Nat → List Nat) : Sp := fun vs H Q _ => ∃ l : List Nat, vs = [.str (tx l)] ∧ rowL l = true ∧ ∀ (p : Addr) (H' : Hp), H p = none → H' p = some (.lst (lensV (f l))) → Same H H' → Q (.ref p) H'
theorem same_upd {H H' : Hp} {p : Addr} {o : HO} (s : Same H H') (h : H p = none) : Same H (upd H' p o) := fun c u e => by
  rw [upd_ne (ne_of_none e h)]
  exact s c u e
section
variable {K : PySem.W.Frag}
end
end Mr

namespace Mr
/-! stretches that read alike, by places; the reach around a middle -/
def PalI (l : List Nat) (a b : Nat) : Prop := ∀ i, a ≤ i → i < b → l[i]? = l[a + b - 1 - i]?
def sub (l : List Nat) (a b : Nat) : List Nat := (l.drop a).take (b - a)
theorem sub_len {l : List Nat} {a b : Nat} (hb : b ≤ l.length) : (sub l a b).length = b - a := by
  unfold sub
  rw [List.length_take, List.length_drop]
  omega
theorem sub_at {l : List Nat} {a b i : Nat} (hi : i < b - a) : (sub l a b)[i]? = l[a + i]? := by
  unfold sub
  rw [List.getElem?_take_of_lt hi, List.getElem?_drop]
theorem pal_iff {l : List Nat} {a b : Nat} (hb : b ≤ l.length) : sub l a b = (sub l a b).reverse ↔ PalI l a b := by
  have hn := sub_len (a := a) hb
  constructor
  · intro h i h1 h2
    have e1 := sub_at (l := l) (a := a) (b := b) (i := i - a) (by omega)
    have e2 : (sub l a b).reverse[i - a]? = (sub l a b)[(sub l a b).length - 1 - (i - a)]? := List.getElem?_reverse (by omega)
    rw [← h, e1, hn, sub_at (by omega)] at e2
    have x1 : a + (i - a) = i := by omega
    have x2 : a + (b - a - 1 - (i - a)) = a + b - 1 - i := by omega
    rw [x1, x2] at e2
    exact e2
  · intro h
    apply List.ext_getElem?
    intro i
    by_cases hi : i < b - a
    · rw [List.getElem?_reverse (by omega), hn, sub_at hi, sub_at (by omega)]
      have := h (a + i) (by omega) (by omega)
      rw [this]
      congr 1
      omega
    · rw [List.getElem?_eq_none (by omega), List.getElem?_eq_none (by rw [List.length_reverse]; omega)]
theorem PalI.inner {l : List Nat} {a b c d : Nat} (h : PalI l a b) (he : a + b = c + d) (hc : a ≤ c) : PalI l c d := fun i h1 h2 => by
  have := h i (by omega) (by omega)
  rw [this, he]
/-- going outward from a stretch that reads alike -/
def grow (l : List Nat) : Nat → Nat → Nat
  | 0, b => b
  | f + 1, b => if b < l.length ∧ l[f]? = l[b]? then grow l f (b + 1) else b - (f + 1)
theorem grow_spec {l : List Nat} : ∀ {f b : Nat}, f ≤ b → b ≤ l.length → PalI l f b → ∀ {a c : Nat}, a + c = f + b → a ≤ c → c ≤ l.length → (PalI l a c ↔ c - a ≤ grow l f b)
  | 0, b, _, _, hp, a, c, he, hac, _ => by
    unfold grow
    exact ⟨fun _ => by omega, fun _ => hp.inner (by omega) (by omega)⟩
  | f + 1, b, hfb, hb, hp, a, c, he, hac, hc => by
    unfold grow
    by_cases hg : b < l.length ∧ l[f]? = l[b]?
    · rw [if_pos hg]
      refine grow_spec (by omega) (by omega) ?_ (by omega) hac hc
      intro i h1 h2
      by_cases e1 : i = f
      · subst e1
        have x : i + (b + 1) - 1 - i = b := by omega
        rw [x]; exact hg.2
      · by_cases e2 : i = b
        · subst e2
          have x : f + (i + 1) - 1 - i = f := by omega
          rw [x]; exact hg.2.symm
        · have := hp i (by omega) (by omega)
          rw [this]
          congr 1
          omega
    · rw [if_neg hg]
      constructor
      · intro h
        apply Nat.le_of_not_lt
        intro hlt
        apply hg
        refine ⟨by omega, ?_⟩
        have := h f (by omega) (by omega)
        rw [this]
        congr 1
        omega
      · intro h
        exact hp.inner (by omega) (by omega)
def reachN (l : List Nat) (m : Nat) : Nat := grow l ((m + 1) / 2) (m + 1 - (m + 1) / 2)
theorem reach_spec {l : List Nat} {m a c : Nat} (hm : m + 1 < 2 * l.length) (he : a + c = m + 1) (hac : a ≤ c) (hc : c ≤ l.length) : PalI l a c ↔ c - a ≤ reachN l m := by
  unfold reachN
  refine grow_spec (by omega) (by omega) ?_ (by omega) hac hc
  intro i h1 h2
  congr 1
  omega
def reachesN (l : List Nat) : List Nat := (List.range (2 * l.length - 1)).map (reachN l)
theorem reachesN_at {l : List Nat} {m : Nat} (h : m < 2 * l.length - 1) : (reachesN l)[m]? = some (reachN l m) := by
  unfold reachesN
  rw [List.getElem?_map, List.getElem?_range h]
  rfl
theorem sub_end (l : List Nat) (k : Nat) : sub l (l.length - k) l.length = l.drop (l.length - k) := by
  unfold sub
  rw [List.take_of_length_le]
  rw [List.length_drop]
  omega
theorem sub_take {l : List Nat} {a b : Nat} : (l.take b).drop a = sub l a b := by
  unfold sub
  rw [List.drop_take]
theorem sub_beg (l : List Nat) (k : Nat) : sub l 0 k = l.take k := by
  unfold sub
  rw [List.drop_zero, Nat.sub_zero]
/-- the ends of the signs ahead of b, by the reaches of the whole -/
theorem ends_ahead_eq {l : List Nat} {b : Nat} (hb : b ≤ l.length) : endsN (l.take b) = (downs b).filter fun k => decide (k ≤ reachN l (b - k + b - 1)) := by
  unfold endsN
  have e : (l.take b).length = b := by rw [List.length_take]; omega
  rw [e]
  apply List.filter_congr
  intro k hk
  obtain ⟨i, hi, rfl⟩ := List.mem_map.mp hk
  have hi' := List.mem_range.mp hi
  have h1 := pal_iff (l := l) (a := b - (b - i)) (b := b) hb
  have h2 := reach_spec (l := l) (m := b - (b - i) + b - 1) (a := b - (b - i)) (c := b) (by omega) (by omega) (by omega) hb
  rw [sub_take]
  have h3 : b - (b - (b - i)) = b - i := by omega
  rw [h3] at h2
  exact decide_eq_decide.mpr (h1.trans h2)
end Mr

namespace Mr
open PySem L2
def spReachA : Sp := fun vs H Q _ => ∃ (l : List Nat) (m : Nat), vs = [.str (tx l), .int (m : Int)] ∧ rowL l = true ∧ m + 1 < 2 * l.length ∧ Q (.int ((reachN l m : Nat) : Int)) H
/-- ends_ahead: of the reaches of a row of at most 200 signs -/
def spEA : Sp := fun vs H Q _ => ∃ (p : Addr) (l : List Nat) (b : Nat), vs = [.ref p, .int (b : Int)] ∧ l.length ≤ 200 ∧ b ≤ l.length ∧ H p = some (.lst (lensV (reachesN l))) ∧
  ∀ (p' : Addr) (H' : Hp), H p' = none → H' p' = some (.lst (lensV (endsN (l.take b)))) → Same H H' → Q (.ref p') H'
end Mr

namespace Mr
/-! sums over 0 .. n - 1 -/
def sm : Nat → (Nat → Nat) → Nat
  | 0, _ => 0
  | n + 1, f => sm n f + f n
/-- does the stretch read alike -/
def palB (l : List Nat) (a c : Nat) : Bool := decide (sub l a c = (sub l a c).reverse)
/-- how many stretches are mirrors: by their first place -/
def manyN (l : List Nat) : Nat := sm l.length fun a => sm (l.length - a) fun j => if palB l a (a + 1 + j) = true then 1 else 0
/-- the first longest mirror stretch -/
def BestP (l : List Nat) (x y : Nat) : Prop := x < y ∧ y ≤ l.length ∧ PalI l x y ∧ ∀ a c, a < c → c ≤ l.length → PalI l a c → c - a < y - x ∨ (c - a = y - x ∧ x ≤ a)
/-- best so far, of those ahead of (i, j) -/
def BestSo (l : List Nat) (S : Nat → Nat → Prop) (x y : Nat) : Prop := S x y ∧ PalI l x y ∧ ∀ a c, S a c → PalI l a c → c - a < y - x ∨ (c - a = y - x ∧ x ≤ a)
end Mr

namespace Mr
open PySem L2
def spMany : Sp := fun vs H Q _ => ∃ l : List Nat, vs = [.str (tx l)] ∧ rowL l = true ∧ ∀ H', Same H H' → Q (.int ((manyN l : Nat) : Int)) H'
def spLongest : Sp := fun vs H Q _ => ∃ l : List Nat, vs = [.str (tx l)] ∧ rowL l = true ∧ (l = [] → ∀ H', Same H H' → Q .non H') ∧
  ∀ (x y : Nat) (p : Addr) (H' : Hp), BestP l x y → H p = none → H' p = some (.tup [.int (x : Int), .int (y : Int)]) → Same H H' → Q (.ref p) H'
end Mr

namespace Mr
open PySem L2
theorem cut_sub {l : List Nat} {a b : Nat} (hab : a ≤ b) (hb : b ≤ l.length) : cutL l (some (a : Int)) (some (b : Int)) = sub l a b := by
  unfold cutL sub
  rw [HT.sIx_nat, HT.sIx_nat, Nat.min_eq_left hb, Nat.min_eq_left (show a ≤ l.length by omega)]
/-- the stretches ahead of (i, i + 1 + t), in the order of two loops -/
def Ah (n i t : Nat) (x y : Nat) : Prop := x < y ∧ y ≤ n ∧ (x < i ∨ (x = i ∧ y < i + 1 + t))
def BestV (l : List Nat) (S : Nat → Nat → Prop) (H : Hp) (v : V) : Prop := (v = .non ∧ ∀ x y, S x y → ¬ PalI l x y) ∨ ∃ (p : Addr) (x y : Nat), v = .ref p ∧ H p = some (.tup [.int (x : Int), .int (y : Int)]) ∧ BestSo l S x y
section
variable {K : PySem.W.Frag}
end
end Mr

namespace Mr
open PySem L2
theorem lensV_at {ks : List Nat} {j : Nat} {x : V} (h : (lensV ks)[j]? = some x) : ∃ k : Nat, ks[j]? = some k ∧ x = .int (k : Int) := by
  unfold lensV at h
  rw [List.getElem?_map] at h
  cases e : ks[j]? with
  | none => rw [e] at h; cases h
  | some k => rw [e] at h; exact ⟨k, rfl, (Option.some.inj h).symm⟩
theorem cutV_from (xs : List V) (k : Nat) : cutV xs (some (k : Int)) none = xs.drop k := by
  unfold cutV
  rw [HT.sIx_nat, HT.sIx_none]
  by_cases h : k ≤ xs.length
  · rw [Nat.min_eq_left h, List.take_of_length_le (by simp)]
  · rw [Nat.min_eq_right (by omega), List.drop_eq_nil_of_le (Nat.le_refl _), List.drop_eq_nil_of_le (by omega)]
    simp
end Mr

namespace Mr
/-! ends, begins and borders of one another -/
theorem downs_succ (n : Nat) : downs (n + 1) = (n + 1) :: downs n := by
  unfold downs
  rw [List.range_succ_eq_map, List.map_cons, List.map_map]
  congr 1
  apply List.map_congr_left
  intro i _
  show n + 1 - (i + 1) = n - i
  omega
theorem mem_downs {n k : Nat} : k ∈ downs n ↔ 1 ≤ k ∧ k ≤ n := by
  unfold downs
  rw [List.mem_map]
  constructor
  · rintro ⟨i, hi, rfl⟩
    have := List.mem_range.mp hi
    omega
  · rintro ⟨h1, h2⟩
    exact ⟨n - k, List.mem_range.mpr (by omega), by omega⟩
theorem filt_drop {p : Nat → Bool} : ∀ {n i k : Nat}, ((downs n).filter p)[i]? = some k → ((downs n).filter p).drop i = (downs k).filter p
  | 0, i, k, h => by simp [downs] at h
  | n + 1, i, k, h => by
    rw [downs_succ] at h ⊢
    by_cases hp : p (n + 1) = true
    · rw [List.filter_cons_of_pos hp] at h ⊢
      cases i with
      | zero =>
        have e : n + 1 = k := by simpa using h
        subst e
        rw [List.drop_zero, downs_succ, List.filter_cons_of_pos hp]
      | succ i =>
        rw [List.drop_succ_cons]
        exact filt_drop (by simpa using h)
    · rw [List.filter_cons_of_neg hp] at h ⊢
      exact filt_drop h
theorem filt_at {p : Nat → Bool} {n i k : Nat} (h : ((downs n).filter p)[i]? = some k) : p k = true ∧ 1 ≤ k ∧ k ≤ n := by
  have hm := List.mem_of_getElem? h
  obtain ⟨h1, h2⟩ := List.mem_filter.mp hm
  exact ⟨h2, mem_downs.mp h1⟩
theorem filt_drop1 {p : Nat → Bool} {n i k : Nat} (h : ((downs n).filter p)[i]? = some k) : ((downs n).filter p).drop (i + 1) = (downs (k - 1)).filter p := by
  obtain ⟨h1, h2, h3⟩ := filt_at h
  have e : ((downs n).filter p).drop (i + 1) = (((downs n).filter p).drop i).drop 1 := by rw [List.drop_drop]
  rw [e, filt_drop h]
  obtain ⟨j, rfl⟩ : ∃ j, k = j + 1 := ⟨k - 1, by omega⟩
  rw [downs_succ, List.filter_cons_of_pos h1]
  rfl
def sufB (l : List Nat) (k : Nat) : Bool := decide (l.drop (l.length - k) = (l.drop (l.length - k)).reverse)
theorem endsN_def (l : List Nat) : endsN l = (downs l.length).filter (sufB l) := rfl
theorem suf_suf {l : List Nat} {k j : Nat} (hk : k ≤ l.length) (hj : j ≤ k) : (l.drop (l.length - k)).drop ((l.drop (l.length - k)).length - j) = l.drop (l.length - j) := by
  rw [List.drop_drop, List.length_drop]
  congr 1
  omega
theorem ends_of_end {l : List Nat} {i k : Nat} (h : (endsN l)[i]? = some k) : endsN (l.drop (l.length - k)) = (endsN l).drop i ∧ beginsN (l.drop (l.length - k)) = (endsN l).drop i ∧ bordersN (l.drop (l.length - k)) = (endsN l).drop (i + 1) ∧
    l.drop (l.length - k) = (l.drop (l.length - k)).reverse ∧ 1 ≤ k ∧ k ≤ l.length := by
  obtain ⟨h1, h2, h3⟩ := filt_at (p := sufB l) h
  have hp : l.drop (l.length - k) = (l.drop (l.length - k)).reverse := of_decide_eq_true h1
  have hl : (l.drop (l.length - k)).length = k := by rw [List.length_drop]; omega
  have tk : ∀ j, j ≤ k → (l.drop (l.length - k)).take j = (l.drop (l.length - j)).reverse := fun j hj => by
    have e : (l.drop (l.length - k)).reverse.take j = ((l.drop (l.length - k)).drop ((l.drop (l.length - k)).length - j)).reverse := by rw [List.take_reverse]
    rw [← hp, suf_suf h3 hj] at e
    exact e
  refine ⟨?_, ?_, ?_, hp, h2, h3⟩
  · rw [endsN_def l, filt_drop (p := sufB l) h]
    unfold endsN
    rw [hl]
    apply List.filter_congr
    intro j hj
    have hj' := mem_downs.mp hj
    have := suf_suf (l := l) h3 hj'.2
    rw [hl] at this
    rw [this]; rfl
  · rw [endsN_def l, filt_drop (p := sufB l) h]
    unfold beginsN
    rw [hl]
    apply List.filter_congr
    intro j hj
    have hj' := mem_downs.mp hj
    rw [tk j hj'.2, List.reverse_reverse]
    exact decide_eq_decide.mpr ⟨Eq.symm, Eq.symm⟩
  · rw [endsN_def l, filt_drop1 (p := sufB l) h]
    unfold bordersN
    rw [hl]
    apply List.filter_congr
    intro j hj
    have hj' := mem_downs.mp hj
    have := suf_suf (l := l) (k := k) (j := j) h3 (by omega)
    rw [hl] at this
    rw [tk j (by omega), this]
    exact decide_eq_decide.mpr ⟨Eq.symm, Eq.symm⟩
/-- a sign more at the end -/
def moreB (l : List Nat) (c : Nat) (k : Nat) : Bool := decide (k < l.length ∧ l[l.length - k - 1]? = some c)
def dueN (l : List Nat) (c : Nat) : List Nat := ((endsN l).filter (moreB l c)).map (· + 2) ++ (if moreB l c 0 = true then [2] else []) ++ [1]
end Mr
namespace Mr
open PySem L2
/-- what is due behind j of the lengths, 0 and -1 -/
def dueTo (l : List Nat) (c j : Nat) : List Nat := (((endsN l).take j).filter (moreB l c)).map (· + 2) ++ (if (endsN l).length < j ∧ moreB l c 0 = true then [2] else []) ++ (if (endsN l).length + 1 < j then [1] else [])
end Mr

namespace Mr
/-! reaches turned about, within mirrors, in the middle -/
end Mr

namespace Mr
open PySem L2
def spSame : Sp := fun vs H Q _ => ∃ (x : V) (n : Int), vs = [x, .int n] ∧ Scal x ∧ Q (.bl (decide (x = .int n))) H
/-- are_reaches, of a list of plain values -/
def spAreL : Sp := fun vs H Q _ => ∃ (p : Addr) (xs : List V) (l : List Nat), vs = [.ref p, .str (tx l)] ∧ rowL l = true ∧ H p = some (.lst xs) ∧ (∀ x ∈ xs, Scal x) ∧ ∀ H', Same H H' → Q (.bl (decide (xs = lensV (reachesN l)))) H'
def spOpp : Sp := fun vs H Q _ => ∃ (p : Addr) (l : List Nat) (m : Nat), vs = [.str (tx l), .ref p, .int (m : Int)] ∧ l.length ≤ 200 ∧ m + 1 < 2 * l.length ∧ H p = some (.lst (lensV (reachesN l))) ∧ Q (.bl true) H
theorem lensV_get {ks : List Nat} {j k : Nat} (h : ks[j]? = some k) : (lensV ks)[j]? = some (.int (k : Int)) := by
  unfold lensV
  rw [List.getElem?_map, h]; rfl
end Mr

namespace L2
open PySem
end L2
namespace Mr
open PySem L2
/-- no whole number, by its kind: not even a truth -/
def NoInt (K : PySem.W.Frag) (H : Hp) (x : V) : Prop := wholeV x = false ∧ ∃ t, TyOf K H x t ∧ PySem.W.kitOne K t (.type "int") = some false
def spWholeG (K : PySem.W.Frag) : Sp := fun vs H Q _ => ∃ x, vs = [x] ∧ (Scal x ∨ NoInt K H x) ∧ Q (.bl (wholeV x)) H
/-- no middle of the row -/
def NoMid (K : PySem.W.Frag) (l : List Nat) (H : Hp) (x : V) : Prop := (Scal x ∨ NoInt K H x) ∧ ∀ m : Nat, x = .int (m : Int) → ¬ m + 1 < 2 * l.length
def spReachX (K : PySem.W.Frag) (C : Addr) : Sp := fun vs H Q E => ∃ (l : List Nat) (x : V), vs = [.str (tx l), x] ∧ rowL l = true ∧
  ((∃ m : Nat, x = .int (m : Int) ∧ m + 1 < 2 * l.length ∧ ∀ H', Same H H' → Q (.int ((reachN l m : Nat) : Int)) H') ∨ (NoMid K l H x ∧ ∀ H', Same H H' → E (.ref C) none H'))
def spReach1 : Sp := fun vs H Q _ => ∃ (l : List Nat) (m : Nat), vs = [.str (tx l), .int (m : Int)] ∧ rowL l = true ∧ m + 1 < 2 * l.length ∧ ∀ H', Same H H' → Q (.int ((reachN l m : Nat) : Int)) H'
def spToldM (K : PySem.W.Frag) : Sp := fun vs H Q _ => ∃ (l : List Nat) (x : V), vs = [.str (tx l), x] ∧ rowL l = true ∧ NoMid K l H x ∧ ∀ H', Same H H' → Q (.str "middle") H'
end Mr
namespace Mr
open PySem L2
end Mr

namespace Mr
open PySem L2
/-! groups of falling lengths -/
abbrev Gp := Int × Int × Int
def hd0 : List Int → Int
  | [] => 0
  | a :: _ => a
def stepsI : List Int → List Int
  | [] => []
  | a :: r => (a - hd0 r) :: stepsI r
def merge (x : Gp) : List Gp → List Gp
  | [] => [x]
  | y :: t => if y.2.1 = x.2.1 then (x.1, x.2.1, x.2.2 + y.2.2) :: t else x :: y :: t
def dueG : List Int → List Gp
  | [] => []
  | a :: r => merge (a, a - hd0 r, 1) (dueG r)
/-- one turn of the program's loop -/
def turnG (acc : List Gp) (l s : Int) : List Gp :=
  match acc.getLast? with
  | some g => if g.2.1 = s then acc.dropLast ++ [(g.1, s, g.2.2 + 1)] else acc ++ [(l, s, 1)]
  | none => [(l, s, 1)]
def runG : List Gp → List Int → List Gp
  | acc, [] => acc
  | acc, a :: r => runG (turnG acc a (a - hd0 r)) r
/-- what the loop has behind i turns -/
def toG (ls : List Int) (i : Nat) : List Gp := (List.range i).foldl (fun acc j => turnG acc ((ls[j]?).getD 0) (((stepsI ls)[j]?).getD 0)) []
/-- falling lengths -/
def Fall (ls : List Int) : Prop := (∀ l ∈ ls, 0 < l) ∧ ∀ (i : Nat) (a b : Int), ls[i]? = some a → ls[i + 1]? = some b → b < a
def gpV (g : Gp) : HO := .tup [.int g.1, .int g.2.1, .int g.2.2]
/-- xs: the groups gs, each a tuple -/
def GrpsV (H : Hp) (xs : List V) (gs : List Gp) : Prop := xs.length = gs.length ∧ ∀ (j : Nat) (x : V) (g : Gp), xs[j]? = some x → gs[j]? = some g → ∃ p : Addr, x = .ref p ∧ H p = some (gpV g)
end Mr

namespace Mr
open PySem L2
def posV : V → Bool
  | .int i => decide (0 < i)
  | _ => false
/-- are_lengths, of a list -/
def spAreLen (K : PySem.W.Frag) : Sp := fun vs H Q _ => ∃ x, vs = [x] ∧ ((∃ t, TyOf K H x t ∧ PySem.W.kitOne K t (.type "list") = some false ∧ ∀ H', Same H H' → Q (.bl false) H') ∨
  ∃ (p : Addr) (xs : List V), x = .ref p ∧ H p = some (.lst xs) ∧ xs.length ≤ 1000 ∧ (∀ y ∈ xs, Scal y ∨ NoInt K H y) ∧ (∀ ls : List Int, xs = ls.map V.int → Fall ls → ∀ H', Same H H' → Q (.bl true) H') ∧ ((¬ ∃ ls : List Int, xs = ls.map V.int ∧ Fall ls) → ∀ H', Same H H' → Q (.bl false) H'))
def spSteps : Sp := fun vs H Q _ => ∃ (p : Addr) (ls : List Int), vs = [.ref p] ∧ H p = some (.lst (ls.map V.int)) ∧ ls.length ≤ 1000 ∧ ∀ (p' : Addr) (H' : Hp), H p' = none → H' p' = some (.lst ((stepsI ls).map V.int)) → Same H H' → Q (.ref p') H'
/-- groups: of falling lengths the groups, else NoLengths -/
def spGroupsX (K : PySem.W.Frag) (C : Addr) : Sp := fun vs H Q E => ∃ x, vs = [x] ∧ ((∃ (p : Addr) (ls : List Int), x = .ref p ∧ H p = some (.lst (ls.map V.int)) ∧ ls.length ≤ 1000 ∧ Fall ls ∧ ∀ (p' : Addr) (H' : Hp) (xs : List V), H p' = none → H' p' = some (.lst xs) → GrpsV H' xs (dueG ls) → Same H H' → Q (.ref p') H') ∨
  ((∃ t, TyOf K H x t ∧ PySem.W.kitOne K t (.type "list") = some false) ∧ ∀ H', Same H H' → E (.ref C) none H') ∨
  (∃ (p : Addr) (xs : List V), x = .ref p ∧ H p = some (.lst xs) ∧ xs.length ≤ 1000 ∧ (∀ y ∈ xs, Scal y ∨ NoInt K H y) ∧ (¬ ∃ ls : List Int, xs = ls.map V.int ∧ Fall ls) ∧ ∀ H', Same H H' → E (.ref C) none H'))
def spGroups : Sp := fun vs H Q _ => ∃ (p : Addr) (ls : List Int), vs = [.ref p] ∧ H p = some (.lst (ls.map V.int)) ∧ ls.length ≤ 1000 ∧ Fall ls ∧ ∀ (p' : Addr) (H' : Hp) (xs : List V), H p' = none → H' p' = some (.lst xs) → GrpsV H' xs (dueG ls) → Same H H' → Q (.ref p') H'
end Mr
namespace Mr
open PySem L2
def spTakeB : Sp := fun vs H Q _ => ∃ (b : Addr) (n m : Int), vs = [.ref b, .int m] ∧ H b = some (.lst [.int n]) ∧ 0 ≤ n ∧ 0 < m ∧ m ≤ 10 ^ 40 ∧
  ∀ (d n' : Int) (H' : Hp), 0 ≤ d → d < m → 0 ≤ n' → H' b = some (.lst [.int n']) → But b H H' → Q (.int d) H'
/-- falling lengths drawn from the box -/
def spLensD : Sp := fun vs H Q _ => ∃ (b : Addr) (n : Int), vs = [.ref b] ∧ H b = some (.lst [.int n]) ∧ 0 ≤ n ∧
  ∀ (p : Addr) (ls : List Int) (n' : Int) (H' : Hp), ls.length ≤ 1000 → Fall ls → H p = none → H' p = some (.lst (ls.map V.int)) → 0 ≤ n' → H' b = some (.lst [.int n']) → But b H H' → Q (.ref p) H'
def spDueG : Sp := fun vs H Q _ => ∃ (p : Addr) (ls : List Int), vs = [.ref p] ∧ H p = some (.lst (ls.map V.int)) ∧ ls.length ≤ 1000 ∧
  ∀ (p' : Addr) (H' : Hp) (xs : List V), H p' = none → H' p' = some (.lst xs) → GrpsV H' xs (dueG ls) → Same H H' → Q (.ref p') H'
end Mr

namespace Mr
open PySem L2
/-! the mirrors of a row in the order in which they come; their inner and their less -/
def topT (l : List Nat) (b : Nat) : List Nat := sub l (b - ((endsN (l.take b))[0]?).getD 0) b
def mirs (l : List Nat) : Nat → List (List Nat)
  | 0 => []
  | b + 1 => if topT l (b + 1) ∈ mirs l b then mirs l b else mirs l b ++ [topT l (b + 1)]
/-- a mirror that ends at c -/
def EndsAt (l : List Nat) (c : Nat) (t : List Nat) : Prop := ∃ k, 1 ≤ k ∧ k ≤ c ∧ t = sub l (c - k) c ∧ PalI l (c - k) c
theorem EndsAt.len {l : List Nat} {c : Nat} {t : List Nat} (h : EndsAt l c t) (hc : c ≤ l.length) : t ≠ [] ∧ t = t.reverse := by
  obtain ⟨k, h1, h2, rfl, h4⟩ := h
  have := sub_len (l := l) (a := c - k) hc
  exact ⟨fun z => by rw [z] at this; simp at this; omega, (pal_iff hc).mpr h4⟩
theorem ends_mem {l : List Nat} {c k : Nat} (hc : c ≤ l.length) : k ∈ endsN (l.take c) ↔ 1 ≤ k ∧ k ≤ c ∧ PalI l (c - k) c := by
  have e : (l.take c).length = c := by rw [List.length_take]; omega
  rw [endsN_def, List.mem_filter, mem_downs, e]
  unfold sufB
  rw [decide_eq_true_iff, e, sub_take, pal_iff hc]
  exact ⟨fun ⟨⟨a, b⟩, d⟩ => ⟨a, b, d⟩, fun ⟨a, b, d⟩ => ⟨⟨a, b⟩, d⟩⟩
theorem ends_first {l : List Nat} {c : Nat} (h1 : 1 ≤ c) (hc : c ≤ l.length) : ∃ L, (endsN (l.take c))[0]? = some L ∧ 1 ≤ L ∧ L ≤ c ∧ PalI l (c - L) c ∧ ∀ k, k ∈ endsN (l.take c) → k ≤ L := by
  have hm : (1 : Nat) ∈ endsN (l.take c) := (ends_mem hc).mpr ⟨Nat.le_refl _, h1, fun i h1 h2 => by congr 1; omega⟩
  cases e : endsN (l.take c) with
  | nil => rw [e] at hm; cases hm
  | cons L r =>
    have hL : L ∈ endsN (l.take c) := by rw [e]; exact List.mem_cons_self
    obtain ⟨a, b, d⟩ := (ends_mem hc).mp hL
    refine ⟨L, rfl, a, b, d, fun k hk => ?_⟩
    rw [← e] at hk
    have h0 : (endsN (l.take c))[0]? = some L := by rw [e]; rfl
    have hd := filt_drop (p := sufB (l.take c)) (n := (l.take c).length) (i := 0) (k := L) h0
    rw [List.drop_zero] at hd
    have hk' : k ∈ (downs (l.take c).length).filter (sufB (l.take c)) := hk
    rw [hd] at hk'
    exact (mem_downs.mp (List.mem_filter.mp hk').1).2
theorem top_ends {l : List Nat} {c : Nat} (h1 : 1 ≤ c) (hc : c ≤ l.length) : EndsAt l c (topT l c) := by
  obtain ⟨L, e, a, b, d, _⟩ := ends_first h1 hc
  exact ⟨L, a, b, by unfold topT; rw [e]; rfl, d⟩
/-- a shorter end stood ahead -/
theorem short_ahead {l : List Nat} {c k L : Nat} (hc : c ≤ l.length) (hL : L ≤ c) (hk : 1 ≤ k) (hkL : k < L) (pL : PalI l (c - L) c) (pk : PalI l (c - k) c) : EndsAt l (c - L + k) (sub l (c - k) c) := by
  refine ⟨k, hk, by omega, ?_, ?_⟩
  · apply List.ext_getElem?
    intro i
    by_cases hi : i < k
    · rw [sub_at (by omega), sub_at (by omega)]
      have e1 := pk (c - k + i) (by omega) (by omega)
      have e2 := pL (c - 1 - i) (by omega) (by omega)
      have x1 : c - k + c - 1 - (c - k + i) = c - 1 - i := by omega
      have x2 : c - L + c - 1 - (c - 1 - i) = c - L + k - k + i := by omega
      rw [x1] at e1
      rw [x2] at e2
      rw [e1, e2]
    · rw [List.getElem?_eq_none (by rw [sub_len hc]; omega), List.getElem?_eq_none (by rw [sub_len (by omega)]; omega)]
  · intro i h1 h2
    have e1 := pL i (by omega) (by omega)
    have e2 := pk (c - L + c - 1 - i) (by omega) (by omega)
    have e3 := pL (c - k + c - 1 - (c - L + c - 1 - i)) (by omega) (by omega)
    rw [e1, e2, e3]
    congr 1
    omega
theorem mem_mirs {l : List Nat} : ∀ {b : Nat}, b ≤ l.length → ∀ t, t ∈ mirs l b ↔ ∃ c, 1 ≤ c ∧ c ≤ b ∧ EndsAt l c t
  | 0, _, t => by
    constructor
    · intro h; cases h
    · rintro ⟨c, h1, h2, _⟩; omega
  | b + 1, hb, t => by
    have ih := mem_mirs (l := l) (b := b) (by omega)
    have key : t ∈ mirs l (b + 1) ↔ t ∈ mirs l b ∨ t = topT l (b + 1) := by
      show t ∈ (if topT l (b + 1) ∈ mirs l b then mirs l b else mirs l b ++ [topT l (b + 1)]) ↔ _
      by_cases h : topT l (b + 1) ∈ mirs l b
      · rw [if_pos h]
        exact ⟨.inl, fun z => z.elim id fun e => by rw [e]; exact h⟩
      · rw [if_neg h, List.mem_append, List.mem_singleton]
    rw [key]
    constructor
    · rintro (h | rfl)
      · obtain ⟨c, h1, h2, h3⟩ := (ih t).mp h
        exact ⟨c, h1, by omega, h3⟩
      · exact ⟨b + 1, by omega, Nat.le_refl _, top_ends (by omega) hb⟩
    · rintro ⟨c, h1, h2, h3⟩
      by_cases hcb : c ≤ b
      · exact .inl ((ih t).mpr ⟨c, h1, hcb, h3⟩)
      · have hc : c = b + 1 := by omega
        subst hc
        obtain ⟨k, k1, k2, k3, k4⟩ := h3
        obtain ⟨L, eL, L1, L2, L3, L4⟩ := ends_first h1 hb
        have hk : k ≤ L := L4 k ((ends_mem hb).mpr ⟨k1, k2, k4⟩)
        by_cases hkL : k = L
        · right
          rw [k3, hkL]
          unfold topT
          rw [eL]; rfl
        · left
          rw [k3]
          exact (ih _).mpr ⟨b + 1 - L + k, by omega, by omega, short_ahead hb L2 k1 (by omega) L3 k4⟩
theorem mirs_len (l : List Nat) : ∀ b, (mirs l b).length ≤ b
  | 0 => Nat.le_refl _
  | b + 1 => by
    show (if topT l (b + 1) ∈ mirs l b then mirs l b else mirs l b ++ [topT l (b + 1)]).length ≤ b + 1
    have := mirs_len l b
    split
    · omega
    · simp; omega
def inner (t : List Nat) : List Nat := (t.drop 1).take (t.length - 2)
def lessN (t : List Nat) : List Nat := t.take (((endsN t)[1]?).getD 0)
/-- the ends of the longest end are those of the whole -/
theorem ends_top {l : List Nat} {c : Nat} (h1 : 1 ≤ c) (hc : c ≤ l.length) : endsN (topT l c) = endsN (l.take c) ∧ lessN (topT l c) = sub l (c - ((endsN (l.take c))[1]?).getD 0) c ∧
    (∀ k, (endsN (l.take c))[1]? = some k → 1 ≤ k ∧ k < c ∧ EndsAt l c (lessN (topT l c))) ∧ (topT l c).length = ((endsN (l.take c))[0]?).getD 0 := by
  obtain ⟨L, eL, L1, L2, L3, L4⟩ := ends_first h1 hc
  have e : (l.take c).length = c := by rw [List.length_take]; omega
  have et : topT l c = (l.take c).drop ((l.take c).length - L) := by unfold topT; rw [eL, e, sub_take]; rfl
  obtain ⟨q1, q2, q3, q4, q5, q6⟩ := ends_of_end eL
  rw [← et, List.drop_zero] at q1
  rw [← et] at q4
  have hlen : (topT l c).length = L := by rw [et, List.length_drop, e]; omega
  refine ⟨q1, ?_, ?_, by rw [hlen, eL]; rfl⟩
  · unfold lessN
    rw [q1]
    cases h2 : (endsN (l.take c))[1]? with
    | none =>
      show List.take 0 _ = sub l (c - 0) c
      rw [List.take_zero]
      unfold sub
      rw [Nat.sub_zero, Nat.sub_self, List.take_zero]
    | some k =>
      show (topT l c).take k = sub l (c - k) c
      obtain ⟨k1, k2, k3⟩ := filt_at (p := sufB (l.take c)) h2
      have kp := (ends_mem hc).mp (List.mem_of_getElem? h2)
      have hkL := L4 k (List.mem_of_getElem? h2)
      have r1 : (topT l c).take k = ((topT l c).drop ((topT l c).length - k)).reverse := by
        have : (topT l c).reverse.take k = ((topT l c).drop ((topT l c).length - k)).reverse := by rw [List.take_reverse]
        rw [← q4] at this
        exact this
      have r2 : (topT l c).drop ((topT l c).length - k) = sub l (c - k) c := by
        rw [hlen, et, List.drop_drop, e, ← sub_take]
        congr 1
        omega
      rw [r1, r2]
      exact ((pal_iff hc).mpr kp.2.2).symm
  · intro k h2
    have kp := (ends_mem hc).mp (List.mem_of_getElem? h2)
    have hkL : k < c := by
      have hd := filt_drop1 (p := sufB (l.take c)) (n := (l.take c).length) (i := 0) (k := L) eL
      have : k ∈ ((downs (l.take c).length).filter (sufB (l.take c))).drop (0 + 1) := by
        have e2 : (((downs (l.take c).length).filter (sufB (l.take c))).drop (0 + 1))[0]? = some k := by rw [List.getElem?_drop]; exact h2
        exact List.mem_of_getElem? e2
      rw [hd] at this
      have := (mem_downs.mp (List.mem_filter.mp this).1).2
      omega
    refine ⟨kp.1, hkL, ?_⟩
    have el : lessN (topT l c) = sub l (c - k) c := by
      unfold lessN
      rw [q1, h2]
      show (topT l c).take k = sub l (c - k) c
      have r1 : (topT l c).take k = ((topT l c).drop ((topT l c).length - k)).reverse := by
        have : (topT l c).reverse.take k = ((topT l c).drop ((topT l c).length - k)).reverse := by rw [List.take_reverse]
        rw [← q4] at this
        exact this
      have r2 : (topT l c).drop ((topT l c).length - k) = sub l (c - k) c := by
        have hkL := L4 k (List.mem_of_getElem? h2)
        rw [hlen, et, List.drop_drop, e, ← sub_take]
        congr 1
        omega
      rw [r1, r2]
      exact ((pal_iff hc).mpr kp.2.2).symm
    exact ⟨k, kp.1, kp.2.1, el, kp.2.2⟩
theorem inner_sub {l : List Nat} {c k : Nat} (hc : c ≤ l.length) (hk : k ≤ c) : inner (sub l (c - k) c) = sub l (c - k + 1) (c - 1) := by
  unfold inner
  rw [sub_len hc]
  unfold sub
  rw [List.drop_take, List.drop_drop, List.take_take]
  congr 1
  omega
theorem inner_in {l : List Nat} {b : Nat} (hb : b ≤ l.length) {t : List Nat} (ht : t ∈ mirs l b) : inner t = [] ∨ inner t ∈ mirs l b := by
  obtain ⟨c, h1, h2, k, k1, k2, rfl, k4⟩ := (mem_mirs hb t).mp ht
  rw [inner_sub (by omega) k2]
  by_cases hk : k ≤ 2
  · left
    apply List.eq_nil_of_length_eq_zero
    rw [sub_len (by omega)]
    omega
  · right
    refine (mem_mirs hb _).mpr ⟨c - 1, by omega, by omega, k - 2, by omega, by omega, ?_, ?_⟩
    · have x : c - 1 - (k - 2) = c - k + 1 := by omega
      rw [x]
    · have x : c - 1 - (k - 2) = c - k + 1 := by omega
      rw [x]
      exact k4.inner (by omega) (by omega)
/-- where a text stands in the list -/
def idxO (ms : List (List Nat)) (x : List Nat) : Option Nat := if x ∈ ms then some (ms.idxOf x) else none
theorem idxO_app {ms : List (List Nat)} {t x : List Nat} (h : x ∈ ms) : idxO (ms ++ [t]) x = idxO ms x := by
  unfold idxO
  rw [if_pos h, if_pos (List.mem_append_left _ h), List.idxOf_append, if_pos h]
theorem idxO_none {ms : List (List Nat)} {x : List Nat} (h : x ∉ ms) : idxO ms x = none := if_neg h
theorem idxO_last {ms : List (List Nat)} {t : List Nat} (h : t ∉ ms) : idxO (ms ++ [t]) t = some ms.length := by
  unfold idxO
  rw [if_pos (List.mem_append_right _ List.mem_cons_self), List.idxOf_append, if_neg h]
  simp
abbrev Ent := List Nat × Option Nat × Option Nat
def entT (ms : List (List Nat)) (t : List Nat) : Ent := (t, idxO ms (inner t), idxO ms (lessN t))
def treeN (l : List Nat) : List Ent := (mirs l l.length).map (entT (mirs l l.length))
theorem no_nil {l : List Nat} {b : Nat} (hb : b ≤ l.length) : ([] : List Nat) ∉ mirs l b := fun h => by
  obtain ⟨c, h1, h2, h3⟩ := (mem_mirs hb _).mp h
  exact (h3.len (by omega)).1 rfl
theorem less_in {l : List Nat} : ∀ {b : Nat}, b ≤ l.length → ∀ {t : List Nat}, t ∈ mirs l b → lessN t = [] ∨ lessN t ∈ mirs l b
  | 0, _, t, h => by cases h
  | b + 1, hb, t, h => by
    have key : t ∈ mirs l b ∨ t = topT l (b + 1) := by
      have h' : t ∈ (if topT l (b + 1) ∈ mirs l b then mirs l b else mirs l b ++ [topT l (b + 1)]) := h
      by_cases hm : topT l (b + 1) ∈ mirs l b
      · rw [if_pos hm] at h'; exact .inl h'
      · rw [if_neg hm, List.mem_append, List.mem_singleton] at h'; exact h'
    have up : ∀ x, x ∈ mirs l b → x ∈ mirs l (b + 1) := fun x hx => by
      obtain ⟨c, h1, h2, h3⟩ := (mem_mirs (by omega) x).mp hx
      exact (mem_mirs hb x).mpr ⟨c, h1, by omega, h3⟩
    rcases key with h1 | rfl
    · exact (less_in (by omega) h1).imp id (up _)
    · obtain ⟨q1, q2, q3, _⟩ := ends_top (l := l) (c := b + 1) (by omega) hb
      cases e : (endsN (l.take (b + 1)))[1]? with
      | none =>
        left
        unfold lessN
        rw [q1, e]
        rfl
      | some k => exact .inr ((mem_mirs hb _).mpr ⟨b + 1, by omega, Nat.le_refl _, (q3 k e).2.2⟩)
/-- the entries told so far stay as they are when a mirror comes -/
theorem ent_app {l : List Nat} {b : Nat} (hb : b ≤ l.length) {t : List Nat} (ht : t ≠ []) {x : List Nat} (hx : x ∈ mirs l b) : entT (mirs l b ++ [t]) x = entT (mirs l b) x := by
  unfold entT
  have i1 := inner_in hb hx
  have i2 := less_in hb hx
  have nn := no_nil (l := l) hb
  have z : ([] : List Nat) ∉ mirs l b ++ [t] := fun h => by
    rcases List.mem_append.mp h with h | h
    · exact nn h
    · exact ht (List.mem_singleton.mp h).symm
  have a1 : idxO (mirs l b ++ [t]) (inner x) = idxO (mirs l b) (inner x) := by
    rcases i1 with e | e
    · rw [e, idxO_none nn, idxO_none z]
    · exact idxO_app e
  have a2 : idxO (mirs l b ++ [t]) (lessN x) = idxO (mirs l b) (lessN x) := by
    rcases i2 with e | e
    · rw [e, idxO_none nn, idxO_none z]
    · exact idxO_app e
  rw [a1, a2]
theorem map_ent {l : List Nat} {b : Nat} (hb : b ≤ l.length) {t : List Nat} (ht : t ≠ []) : (mirs l b).map (entT (mirs l b ++ [t])) = (mirs l b).map (entT (mirs l b)) := List.map_congr_left fun x hx => ent_app hb ht hx
end Mr

namespace L2
open PySem PySem.Spec PyProof.Rows PySem.SeqAt PySem.MeetsSeq
theorem Room.unitsD {k : Nat} {A : Around} (r : Room k A) : A.units + 1 < cLine := by have := r.un; omega
section
variable {X : Cx}
def isS (z : Str) : Value → Bool
  | .str c _ => c == z
  | _ => false
/-- xs.index(text) of texts -/
def rIndexS : V → List V → Hp → VK → Prop := fun x vs H Q => ∃ (l : Addr) (ts : List (List Nat)) (t : List Nat) (j : Nat), x = .ref l ∧ vs = [.str (tx t)] ∧ H l = some (.lst (ts.map fun t => V.str (tx t))) ∧ ts[j]? = some t ∧ (∀ m, m < j → ts[m]? ≠ some t) ∧ Q (.int (j : Nat)) H
theorem mt_indexS : MtM X "list.index" rIndexS := by
  intro pins s σ H x vs v us Q I rx rv h
  obtain ⟨l, ns, n, j, rfl, rfl, hH, hj, hno, q⟩ := h
  cases rx
  obtain ⟨u, rfl, ru⟩ := rv.one
  obtain ⟨tt, rfl⟩ : ∃ t, u = Value.str (tx n) t := ru
  obtain ⟨z, its, k, r, hl, e⟩ := I.lstM hH
  have jl : j < ns.length := (List.getElem?_eq_some_iff.mp hj).1
  have jz : ns.length ≤ sizeLine := by have := z; rw [List.length_map] at this; exact this
  have rl : its.length = ns.length := by have := r.length; rw [List.length_map] at this; exact this.symm
  have at_ : ∀ m (hm : m < its.toArray.size), ∃ t, its.toArray[m] = Value.str (tx (ns[m]'(by rw [← rl]; simpa using hm))) t := fun m hm => by
    obtain ⟨a1, b1⟩ := r.at hm
    have hm' : m < ns.length := by rw [← rl]; simpa using hm
    have e2 : (ns.map fun t => V.str (tx t)).getD m .non = V.str (tx ns[m]) := by rw [List.getD_eq_getElem?_getD, List.getElem?_map, List.getElem?_eq_getElem hm']; rfl
    rw [e2] at a1
    exact a1
  refine call_meets F.slot_list_index ⟨_, e, rfl⟩ F.entry_list_index (F.args_list_index_2 _ _) (list_indexAt l its.toArray k none #[] (.str (tx n) tt) (isS (tx n)) j (by simpa [rl] using jl) (by rw [sizeLine_eq] at jz; omega) ?_ ?_) ⟨e, fun y hy => ?_, ⟨.int (j : Nat), H, I.tok _, ⟨_, rfl⟩, q⟩⟩
  · obtain ⟨t, e1⟩ := at_ j (by simpa [rl] using jl)
    rw [e1]
    have : ns[j] = n := (List.getElem?_eq_some_iff.mp hj).2
    rw [this]
    show (tx n == tx n) = true
    simp
  · intro m hm hmj
    obtain ⟨t, e1⟩ := at_ m hm
    rw [e1]
    have hm' : m < ns.length := by rw [← rl]; simpa using hm
    have := hno m hmj
    rw [List.getElem?_eq_getElem hm'] at this
    show (tx ns[m] == tx n) = false
    rw [beq_eq_false_iff_ne]
    intro z
    exact this (by rw [tx_inj z])
  · obtain ⟨m, hm, rfl⟩ := Array.mem_iff_getElem.mp hy
    obtain ⟨t, e1⟩ := at_ m hm
    rw [e1]
    exact EqAt.str_str _ _ _ _
end
end L2
namespace Mr
open PySem L2
/-- a list of objects that stand for es, each by f -/
def ReV {α : Type} (f : α → HO) (H : Hp) (xs : List V) (es : List α) : Prop := xs.length = es.length ∧ ∀ (j : Nat) (x : V) (e : α), xs[j]? = some x → es[j]? = some e → ∃ p : Addr, x = .ref p ∧ H p = some (f e)
theorem ReV.mono {α : Type} {f : α → HO} {H H' : Hp} {xs : List V} {es : List α} (h : ReV f H xs es) (k : ∀ p e, H p = some (f e) → H' p = some (f e)) : ReV f H' xs es := ⟨h.1, fun j x g h1 h2 => let ⟨p, e, q⟩ := h.2 j x g h1 h2; ⟨p, e, k _ _ q⟩⟩
theorem ReV.nil {α : Type} {f : α → HO} {H : Hp} : ReV f H [] [] := ⟨rfl, fun j x g h => by simp at h⟩
theorem ReV.push {α : Type} {f : α → HO} {H : Hp} {xs : List V} {gs : List α} {p : Addr} {g : α} (h : ReV f H xs gs) (hp : H p = some (f g)) : ReV f H (xs ++ [.ref p]) (gs ++ [g]) := by
  refine ⟨by simp [h.1], fun j x g' h1 h2 => ?_⟩
  by_cases hj : j < xs.length
  · rw [List.getElem?_append_left hj] at h1
    rw [List.getElem?_append_left (by rw [← h.1]; exact hj)] at h2
    exact h.2 j x g' h1 h2
  · rw [List.getElem?_append_right (by omega)] at h1
    rw [List.getElem?_append_right (by rw [← h.1]; omega), ← h.1] at h2
    have e0 : j - xs.length = 0 := by
      have := (List.getElem?_eq_some_iff.mp h1).1
      simp at this; omega
    rw [e0] at h1 h2
    have e1 : V.ref p = x := Option.some.inj h1
    have e2 : g = g' := Option.some.inj h2
    subst e1 e2
    exact ⟨p, rfl, hp⟩
def optV : Option Nat → V
  | none => .non
  | some i => .int (i : Int)
def entV (e : Ent) : HO := .tup [.str (tx e.1), optV e.2.1, optV e.2.2]
abbrev TreeV := ReV entV
def spTree : Sp := fun vs H Q _ => ∃ l : List Nat, vs = [.str (tx l)] ∧ rowL l = true ∧ ∀ (p : Addr) (xs : List V) (H' : Hp), H p = none → H' p = some (.lst xs) → TreeV H' xs (treeN l) → Same H H' → Q (.ref p) H'
def txV (ms : List (List Nat)) : List V := ms.map fun t => V.str (tx t)
theorem txV_flat (ms : List (List Nat)) : (txV ms).all flatV = true := by
  rw [List.all_eq_true]
  intro x hx
  obtain ⟨l, _, rfl⟩ := List.mem_map.mp hx
  rfl
/-- _law_mirrors -/
def spMirs : Sp := fun vs H Q _ => ∃ l : List Nat, vs = [.str (tx l)] ∧ rowL l = true ∧ ∀ (p : Addr) (H' : Hp), H p = none → H' p = some (.lst (txV (mirs l l.length))) → Same H H' → Q (.ref p) H'
/-- the dict of the numbers -/
def NumD (H : Hp) (p : Addr) (ms : List (List Nat)) : Prop := ∃ kvs : List (Key × V), H p = some (.dK kvs) ∧ kvs.length ≤ 1000 + ms.length ∧ ∀ x, valV kvs (Sum.inr (tx x)) = (idxO ms x).map fun i => V.int (i : Int)
theorem cut_inner {t : List Nat} (h : t ≠ []) : cutL t (some 1) (some (-1)) = inner t := by
  have hl : 0 < t.length := List.length_pos_iff.mpr h
  unfold cutL inner
  have e1 : HT.sIx t.length 0 (some 1) = 1 := by
    have := HT.sIx_nat t.length 0 1
    rw [show ((1 : Nat) : Int) = 1 from rfl] at this
    rw [this]; omega
  have e2 : HT.sIx t.length t.length (some (-1)) = t.length - 1 := by
    unfold HT.sIx
    simp
    omega
  rw [e1, e2]
  congr 1
theorem inV_tx (t : List Nat) : ∀ ms : List (List Nat), inV (.str (tx t)) (txV ms) = decide (t ∈ ms)
  | [] => rfl
  | m :: r => by
    have ih := inV_tx t r
    show inV (.str (tx t)) (.str (tx m) :: txV r) = _
    unfold inV at ih ⊢
    rw [List.any_cons, ih]
    have e : eqV (.str (tx t)) (.str (tx m)) = decide (t = m) := by
      show (tx t == tx m) = _
      rw [Bool.eq_iff_iff, decide_eq_true_iff]
      constructor
      · intro z; exact tx_inj (eq_of_beq z)
      · intro z; rw [z]; simp
    have e' : eqV (.str (tx m)) (.str (tx t)) = decide (t = m) := by
      show (tx m == tx t) = _
      rw [Bool.eq_iff_iff, decide_eq_true_iff]
      constructor
      · intro z; exact (tx_inj (eq_of_beq z)).symm
      · intro z; rw [z]; simp
    rw [e', List.decide_mem_cons]
    congr 1
    rw [Bool.eq_iff_iff]
    simp
/-- the tree as data -/
def entD (e : Ent) : PyData := .tuple [.str (tx e.1), (match e.2.1 with | none => .none | some i => .int (i : Int)), (match e.2.2 with | none => .none | some i => .int (i : Int))]
end Mr

namespace Mr
open PySem L2
theorem idx_first {x : List Nat} : ∀ {ms : List (List Nat)}, x ∈ ms → ms[ms.idxOf x]? = some x ∧ ∀ m : Nat, m < ms.idxOf x → ms[m]? ≠ some x
  | [], h => by cases h
  | y :: r, h => by
    by_cases e : y = x
    · subst e
      rw [List.idxOf_cons_self]
      exact ⟨rfl, fun m hm => by omega⟩
    · have hx : x ∈ r := by
        rcases List.mem_cons.mp h with z | z
        · exact absurd z.symm e
        · exact z
      obtain ⟨h1, h2⟩ := idx_first hx
      have hb : (y == x) = false := by simpa using e
      have ei : (y :: r).idxOf x = r.idxOf x + 1 := by rw [List.idxOf_cons, hb]; rfl
      rw [ei]
      refine ⟨by simpa using h1, fun m hm => ?_⟩
      cases m with
      | zero => simpa using e
      | succ m => simpa using h2 m (by omega)
theorem idxO_lt {ms : List (List Nat)} {x : List Nat} {i : Nat} (h : idxO ms x = some i) : i < ms.length := by
  unfold idxO at h
  by_cases hx : x ∈ ms
  · rw [if_pos hx] at h
    have := (idx_first hx).1
    rw [← Option.some.inj h]
    exact (List.getElem?_eq_some_iff.mp this).1
  · rw [if_neg hx] at h; cases h
theorem mirs_row {l : List Nat} {b : Nat} (hb : b ≤ l.length) (hrow : rowL l = true) {t : List Nat} (h : t ∈ mirs l b) : rowL t = true ∧ t ≠ [] ∧ t = t.reverse ∧ t.length ≤ l.length := by
  obtain ⟨c, h1, h2, h3⟩ := (mem_mirs hb t).mp h
  obtain ⟨a, b'⟩ := h3.len (by omega)
  obtain ⟨k, k1, k2, k3, _⟩ := h3
  have hl : t.length ≤ l.length := by rw [k3, sub_len (by omega)]; omega
  refine ⟨row_sub hrow hl fun x hx => ?_, a, b', hl⟩
  rw [k3] at hx
  exact List.mem_of_mem_drop (List.mem_of_mem_take hx)
/-- a mirror of two signs or more has a less -/
theorem has_less {t : List Nat} (hp : t = t.reverse) (h : 1 < t.length) : ∃ k, (endsN t)[1]? = some k ∧ 1 ≤ k ∧ k < t.length := by
  have e : t.take t.length = t := List.take_of_length_le (Nat.le_refl _)
  obtain ⟨L, eL, L1, L2, L3, L4⟩ := ends_first (l := t) (c := t.length) (by omega) (Nat.le_refl _)
  rw [e] at eL L4
  have m1 : (1 : Nat) ∈ endsN t := by
    have := (ends_mem (l := t) (c := t.length) (k := 1) (Nat.le_refl _)).mpr ⟨Nat.le_refl _, by omega, fun i h1 h2 => by congr 1; omega⟩
    rw [e] at this; exact this
  have mL : t.length ∈ endsN t := by
    have := (ends_mem (l := t) (c := t.length) (k := t.length) (Nat.le_refl _)).mpr ⟨by omega, Nat.le_refl _, (pal_iff (Nat.le_refl _)).mp (by rw [Nat.sub_self, sub_beg, e]; exact hp)⟩
    rw [e] at this; exact this
  have hL : L = t.length := by have := L4 _ mL; omega
  cases h2 : (endsN t)[1]? with
  | none =>
    exfalso
    have : (endsN t).length ≤ 1 := List.getElem?_eq_none_iff.mp h2
    obtain ⟨i, hi⟩ := List.mem_iff_getElem?.mp m1
    have hi0 : i = 0 := by have := (List.getElem?_eq_some_iff.mp hi).1; omega
    rw [hi0, eL] at hi
    have := Option.some.inj hi
    omega
  | some k =>
    have hd := filt_drop1 (p := sufB t) (n := t.length) (i := 0) (k := L) eL
    have hm : k ∈ ((downs t.length).filter (sufB t)).drop (0 + 1) := by
      have e2 : (((downs t.length).filter (sufB t)).drop (0 + 1))[0]? = some k := by rw [List.getElem?_drop]; exact h2
      exact List.mem_of_getElem? e2
    rw [hd] at hm
    have := mem_downs.mp (List.mem_filter.mp hm).1
    exact ⟨k, rfl, this.1, by omega⟩
theorem no_less {t : List Nat} (h : t.length ≤ 1) : lessN t = [] := by
  unfold lessN
  have : (endsN t).length ≤ t.length := filt_le _ _
  rw [List.getElem?_eq_none (by omega)]
  rfl
theorem inner_len (t : List Nat) : (inner t).length = t.length - 2 := by
  unfold inner
  rw [List.length_take, List.length_drop]
  omega
/-! the tree's data: it may be shown, and is not too long -/
def optD (o : Option Nat) : PyData := match o with | none => .none | some i => .int (i : Int)
/-- may be shown: n deep at most, of weight w at most -/
def ShOk (d : PyData) (n w : Nat) : Prop := d.showable = true ∧ d.depth ≤ n ∧ d.leavesShort 13 = true ∧ d.weight ≤ w
def ShAll (ds : List PyData) (n w : Nat) : Prop := PyData.showableAll ds = true ∧ PyData.depthAll ds ≤ n ∧ PyData.leavesShortAll 13 ds = true ∧ PyData.weightAll ds ≤ w
end Mr

namespace L2
open PySem PySem.Spec PyProof.Rows
section
variable {X : Cx} {K : PySem.W.Frag} {o e : Expr} {es : List Expr} {to : TE} {t : TA} {name : Str} {apos cpos : Pos} {T id : String} {r : V → List V → Hp → VK → Prop}
end
end L2
namespace Mr
open PySem L2
/-! the way of a mirror: its ends, by their numbers -/
def dueW (ms : List (List Nat)) (t : List Nat) : List Nat := (endsN t).map fun k => ms.idxOf (t.take k)
/-- the step behind number i of the way -/
def stepW (ms : List (List Nat)) (t : List Nat) (i : Nat) : Option Nat := ((endsN t)[i]?).map fun k => ms.idxOf (t.take k)
/-! number_of and way -/
def spNumX (K : PySem.W.Frag) (C : Addr) : Sp := fun vs H Q E => ∃ (l : List Nat) (x : V), vs = [.str (tx l), x] ∧ rowL l = true ∧
  ((∃ t : List Nat, x = .str (tx t) ∧ mirV x = true ∧ t.length ≤ 100000 ∧ ∀ H', Same H H' → Q (optV (idxO (mirs l l.length) t)) H') ∨ (Thing K H x ∧ mirV x = false ∧ ∀ H', Same H H' → E (.ref C) none H'))
def NoNum (K : PySem.W.Frag) (l : List Nat) (H : Hp) (x : V) : Prop := (Scal x ∨ NoInt K H x) ∧ ∀ m : Nat, x = .int (m : Int) → ¬ m < (mirs l l.length).length
def spWayX (K : PySem.W.Frag) (C : Addr) : Sp := fun vs H Q E => ∃ (l : List Nat) (x : V), vs = [.str (tx l), x] ∧ rowL l = true ∧
  ((∃ (j : Nat) (t : List Nat), x = .int (j : Int) ∧ (mirs l l.length)[j]? = some t ∧ ∀ (p : Addr) (H' : Hp), H p = none → H' p = some (.lst (lensV (dueW (mirs l l.length) t))) → Same H H' → Q (.ref p) H') ∨ (NoNum K l H x ∧ ∀ H', Same H H' → E (.ref C) none H'))
def spTold17 (K : PySem.W.Frag) : Sp := fun vs H Q _ => ∃ (k : Int) (l : List Nat) (x : V), vs = [.int k, .str (tx l), x] ∧ rowL l = true ∧
  ((k = 0 ∧ ((∃ t : List Nat, x = .str (tx t) ∧ mirV x = true ∧ t.length ≤ 100000 ∧ ∀ H', Same H H' → Q (optV (idxO (mirs l l.length) t)) H') ∨ (Thing K H x ∧ mirV x = false ∧ ∀ H', Same H H' → Q (.str "mirror") H'))) ∨
   (k = 1 ∧ ((∃ (j : Nat) (t : List Nat), x = .int (j : Int) ∧ (mirs l l.length)[j]? = some t ∧ ∀ (p : Addr) (H' : Hp), H p = none → H' p = some (.lst (lensV (dueW (mirs l l.length) t))) → Same H H' → Q (.ref p) H') ∨ (NoNum K l H x ∧ ∀ H', Same H H' → Q (.str "number") H'))))
/-! rows of a, b, z; texts made mirrors -/
def Abz (l : List Nat) : Prop := ∀ c ∈ l, c = 97 ∨ c = 98 ∨ c = 122
def spClosedP : Sp := fun vs H Q _ => ∃ (l : List Nat), vs = [.str (tx l)] ∧ l.length ≤ 10000 ∧ ∀ (m : List Nat) (H' : Hp), (∀ c ∈ m, c ∈ l) → m.length ≤ 2 * l.length → m = m.reverse → (l ≠ [] → m ≠ []) → Same H H' → Q (.str (tx m)) H'
def spClosedZ : Sp := fun vs H Q _ => ∃ (l : List Nat), vs = [.str (tx l)] ∧ Abz l ∧ l.length ≤ 10000 ∧ ∀ (m : List Nat) (H' : Hp), Abz m → m.length ≤ 2 * l.length → Same H H' → Q (.str (tx m)) H'
def spRowZ : Sp := fun vs H Q _ => ∃ (b : Addr) (n most : Int), vs = [.ref b, .int most] ∧ H b = some (.lst [.int n]) ∧ 0 ≤ n ∧ 0 ≤ most ∧ most ≤ 1000 ∧
  ∀ (m : List Nat) (n' : Int) (H' : Hp), Abz m → (m.length : Int) ≤ most → 0 ≤ n' → H' b = some (.lst [.int n']) → But b H H' → Q (.str (tx m)) H'
/-! lists of numbers, shown -/
def lensD (ks : List Nat) : PyData := .list (ks.map fun (k : Nat) => PyData.int (k : Int))
end Mr

namespace L2
open PySem PySem.Spec PyProof.Rows PySem.SeqAt PySem.MeetsSeq
/-! ### sorted of texts, endswith, == of lists that are the same or of unlike length -/
section
variable {X : Cx}
def rEndsS : V → List V → Hp → VK → Prop := fun x vs H Q => ∃ t u : List Nat, x = .str (tx t) ∧ vs = [.str (tx u)] ∧ u.length ≤ t.length ∧ u = t.drop (t.length - u.length) ∧ Q (.bl true) H
/-- == of two lists that are the same, n deep below them, or of unlike length -/
def rEqDL (n : Nat) : R2 := fun x y H Q => ∃ p q xs ys, x = .ref p ∧ y = .ref q ∧ H p = some (.lst xs) ∧ H q = some (.lst ys) ∧ ((xs.length = ys.length ∧ (∀ (j : Nat) (u v : V), xs[j]? = some u → ys[j]? = some v → DSame H n u v) ∧ Q (.bl true) H) ∨ (xs.length ≠ ys.length ∧ Q (.bl false) H))
end
/-! what is sorted is one list -/
end L2

namespace Mr
open PySem L2
/-! the tree of a beginning; elder ones; the row turned about -/
theorem top_take {l : List Nat} {b c : Nat} (hc : c ≤ b) : topT (l.take b) c = topT l c := by
  unfold topT
  have e : (l.take b).take c = l.take c := by rw [List.take_take, Nat.min_eq_left hc]
  rw [e]
  unfold sub
  rw [List.drop_take, List.take_take]
  congr 1
  omega
/-! the row turned about has the same mirrors -/
end Mr

namespace Mr
open PySem L2
/-! trees looked at, entries looked at -/
def spElder : Sp := fun vs H Q _ => ∃ o : Option Nat, vs = [optV o, optV o] ∧ Q (.bl true) H
def spEntry : Sp := fun vs H Q _ => ∃ (p q : Addr) (e : Ent), vs = [.ref p, .ref q] ∧ H p = some (entV e) ∧ H q = some (entV e) ∧ Q (.bl true) H
def spIsTree : Sp := fun vs H Q _ => ∃ (p : Addr) (xs : List V) (l : List Nat), vs = [.ref p, .str (tx l)] ∧ rowL l = true ∧ H p = some (.lst xs) ∧
  ((TreeV H xs (treeN l) ∧ ∀ H', Same H H' → Q (.bl true) H') ∨ (xs.length ≠ (treeN l).length ∧ ∀ H', Same H H' → Q (.bl false) H'))
def spEntryR : Sp := fun vs H Q _ => ∃ (p : Addr) (xs : List V) (l : List Nat) (j : Nat), vs = [.ref p, .int (j : Int)] ∧ rowL l = true ∧ H p = some (.lst xs) ∧ TreeV H xs (treeN l) ∧ j < (mirs l l.length).length ∧ ∀ H', Same H H' → Q (.bl true) H'
def spNum1 : Sp := fun vs H Q _ => ∃ (l t : List Nat), vs = [.str (tx l), .str (tx t)] ∧ rowL l = true ∧ mirV (.str (tx t)) = true ∧ t.length ≤ 100000 ∧ ∀ H', Same H H' → Q (optV (idxO (mirs l l.length) t)) H'
def spWay1 : Sp := fun vs H Q _ => ∃ (l : List Nat) (j : Nat) (t : List Nat), vs = [.str (tx l), .int (j : Int)] ∧ rowL l = true ∧ (mirs l l.length)[j]? = some t ∧ ∀ (p : Addr) (H' : Hp), H p = none → H' p = some (.lst (lensV (dueW (mirs l l.length) t))) → Same H H' → Q (.ref p) H'
theorem cutV_to (xs : List V) (k : Nat) : cutV xs none (some (k : Int)) = xs.take k := by
  unfold cutV
  have e1 : HT.sIx xs.length 0 none = 0 := rfl
  have e2 : HT.sIx xs.length xs.length (some (k : Int)) = min k xs.length := HT.sIx_nat xs.length xs.length k
  rw [e1, e2]
  apply List.ext_getElem?
  intro i
  simp only [List.drop_zero, Nat.sub_zero]
  by_cases hi : i < min k xs.length
  · rw [List.getElem?_take_of_lt (by omega), List.getElem?_take_of_lt (by omega)]
  · by_cases h2 : i < k
    · rw [List.getElem?_eq_none (by rw [List.length_take]; omega), List.getElem?_eq_none (by rw [List.length_take]; omega)]
    · rw [List.getElem?_eq_none (by rw [List.length_take]; omega), List.getElem?_eq_none (by rw [List.length_take]; omega)]
end Mr

namespace L2
open PySem PySem.Spec PyProof.Rows
/-! ### sorted(xs, reverse=True) of ints, set(xs) of ints, len of it -/
section
variable {X : Cx} {x : Str} {p pos : Pos} {e : Expr} {es : List Expr} {kws : List Keyword} {t tk : TA} {id : String} {ks : List Str} {r : List V → List V → Hp → VK → Prop}
/-- a call of a built-in with keywords -/
def CallKR (X : Cx) (f : Value) (ks : List Str) (r : List V → List V → Hp → VK → Prop) : Prop :=
  ∀ (pins : List (Addr × Obj)) (s : Shared) (σ : St) (H : Hp) (xs zs : List V) (us ws : List Value) (Q : VK), Inv X pins σ H s → Vals xs us → Vals zs ws → r xs zs H Q → wpAny (model X.prog X.w) X.A (call f us (ks.zip ws)) (EP X pins σ Q) X.xe s
def tCBK (r : List V → List V → Hp → VK → Prop) (t tk : TA) : TE := fun σ H Q => t σ H fun vs H1 => tk σ H1 fun zs H2 => r vs zs H2 Q
def setOfI (ns : List Int) : List Int := firstMet (fun i => ns.getD i 0) ns.length
end
end L2

namespace L2
open PySem PySem.Spec PyProof.Rows
section
variable {X : Cx} {scope : Scope} {cl : List (Str × Addr)} {xs ys : List Str} {ix : List Nat}
end
end L2

namespace Mr
open PySem L2
/-! the steps of the ends: they never rise, and where they fall the length is more than the next two together -/
/-- lengths whose steps never rise, with what is promised where they fall -/
def Good : List Int → Prop
  | [] => True
  | a :: r => 0 < a ∧ hd0 r < a ∧ (r ≠ [] → hd0 r - hd0 r.tail ≤ a - hd0 r ∧ (hd0 r - hd0 r.tail < a - hd0 r → hd0 r + hd0 r.tail < a)) ∧ Good r
def castI (l : List Nat) : List Int := l.map fun k : Nat => (k : Int)
/-! groups told apart -/
def lenG (g : Gp) : List Int := (List.range g.2.2.toNat).map fun k : Nat => g.1 - g.2.1 * (k : Int)
def lensG (gs : List Gp) : List Int := (gs.map lenG).flatten
def HdG (r : List Int) (D : List Gp) : Prop := match D with
  | [] => r = []
  | y :: _ => r ≠ [] ∧ y.1 = hd0 r ∧ y.2.1 = hd0 r - hd0 r.tail ∧ 1 ≤ y.2.2
def stepG (D : List Gp) : List Int := D.map (·.2.1)
def leastI : Nat → Int
  | 0 => 1
  | 1 => 3
  | n + 2 => leastI (n + 1) + leastI n + 1
end Mr

namespace L2
open PySem PySem.Spec PyProof.Rows
end L2
namespace Mr
open PySem L2
/-- the lengths of the groups -/
def spLenG : Sp := fun vs H Q _ => ∃ (p : Addr) (xs : List V) (gs : List Gp), vs = [.ref p] ∧ H p = some (.lst xs) ∧ GrpsV H xs gs ∧ (lensG gs).length ≤ 1000 ∧ (∀ g ∈ gs, 1 ≤ g.2.2) ∧
  ∀ (p' : Addr) (H' : Hp), H p' = none → H' p' = some (.lst ((lensG gs).map V.int)) → Same H H' → Q (.ref p') H'
def leasts (k : Nat) : List V := ((List.range k).map leastI).map V.int
def spRight : Sp := fun vs H Q _ => ∃ (p : Addr) (ls : List Int), vs = [.ref p] ∧ H p = some (.lst (ls.map V.int)) ∧ Good ls ∧ ls.length ≤ 60 ∧ ∀ H', Same H H' → Q (.bl true) H'
end Mr

namespace L2
open PySem PySem.Spec PyProof.Rows PySem.SeqAt PySem.MeetsSeq
open PySem.AutoSeq1 (wpAny_loadPart')
/-! ### a dict against a number; a list of whatever against a list of numbers -/
/-- x == n, x whatever of the odd things -/
def eqN : V → Int → Bool
  | .int i, n => i == n
  | .bl b, n => (if b then 1 else 0) == n
  | _, _ => false
/-- what may stand against a number -/
def Vs (H : Hp) (x : V) : Prop := match x with
  | .non => True
  | .bl _ => True
  | .int _ => True
  | .str _ => True
  | .ref p => (∃ xs, H p = some (.lst xs)) ∨ (∃ xs, H p = some (.tup xs)) ∨ ∃ kvs, H p = some (.dK kvs)
  | _ => False
section
variable {X : Cx} {pins : List (Addr × Obj)} {σ : St} {H : Hp} {s : Shared}
def eqNs (xs : List V) (ns : List Int) : Bool := decide (xs.length = ns.length) && (List.range xs.length).all fun j => eqN (xs.getD j .non) (ns.getD j 0)
def rEqN : R2 := fun x y H Q => ∃ p q xs ns, x = .ref p ∧ y = .ref q ∧ H p = some (.lst xs) ∧ H q = some (.lst (ns.map V.int)) ∧ (∀ x ∈ xs, Vs H x) ∧ Q (.bl (eqNs xs ns)) H
end
/-! ### repr of made data with small dicts -/
mutual
inductive RdW (H : Hp) : V → PyData → Prop
  | non : RdW H .non .none
  | bl (b : Bool) : RdW H (.bl b) (.bool b)
  | int (i : Int) : RdW H (.int i) (.int i)
  | str (z : Str) : RdW H (.str z) (.str z)
  | lst {p : Addr} {xs : List V} {ds : List PyData} : H p = some (.lst xs) → RdWs H xs ds → RdW H (.ref p) (.list ds)
  | tup {p : Addr} {xs : List V} {ds : List PyData} : H p = some (.tup xs) → RdWs H xs ds → RdW H (.ref p) (.tuple ds)
  | dic {p : Addr} {z : Str} {i : Int} : H p = some (.dK [(Sum.inr z, .int i)]) → RdW H (.ref p) (.dict [(.str z, .int i)])
inductive RdWs (H : Hp) : List V → List PyData → Prop
  | nil : RdWs H [] []
  | cons {x : V} {d : PyData} {xs : List V} {ds : List PyData} : RdW H x d → RdWs H xs ds → RdWs H (x :: xs) (d :: ds)
end
mutual
theorem RdW.mono {H H' : Hp} (s : Same H H') : ∀ {x : V} {d : PyData}, RdW H x d → RdW H' x d
  | _, _, .non => .non
  | _, _, .bl b => .bl b
  | _, _, .int i => .int i
  | _, _, .str z => .str z
  | _, _, .lst h r => .lst (s _ _ h) (RdWs.mono s r)
  | _, _, .tup h r => .tup (s _ _ h) (RdWs.mono s r)
  | _, _, .dic h => .dic (s _ _ h)
theorem RdWs.mono {H H' : Hp} (s : Same H H') : ∀ {xs : List V} {ds : List PyData}, RdWs H xs ds → RdWs H' xs ds
  | _, _, .nil => .nil
  | _, _, .cons a b => .cons (RdW.mono s a) (RdWs.mono s b)
end
section
variable {X : Cx} {pins : List (Addr × Obj)} {σ : St} {H : Hp} {s : Shared}
mutual
theorem RdW.reads (I : Inv X pins σ H s) : ∀ {x : V} {d : PyData} {u : Value}, RdW H x d → RelV x u → ∃ as, Reads s.heap u d as ∧ ∀ a ∈ as, H a ≠ none
  | _, _, _, .non, r => by cases r; exact ⟨_, .none, fun a h => by cases h⟩
  | _, _, _, .bl b, r => by cases r; exact ⟨_, .bool b, fun a h => by cases h⟩
  | _, _, _, .int i, r => by obtain ⟨t, rfl⟩ := r; exact ⟨_, .int i t, fun a h => by cases h⟩
  | _, _, _, .str z, r => by obtain ⟨t, rfl⟩ := r; exact ⟨_, .str z t, fun a h => by cases h⟩
  | _, _, _, .lst (p := p) h q, r => by
    cases r
    obtain ⟨_, its, n, rv, e⟩ := (show ObjOk X.prog X.w H s.heap _ (.lst _) from I.hok _ _ h)
    obtain ⟨as, ra, ha⟩ := RdWs.reads I q rv
    refine ⟨_, .list e rfl rfl (by simpa using ra), fun a hm => ?_⟩
    rcases List.mem_cons.mp hm with rfl | hm
    · rw [h]; simp
    · exact ha a hm
  | _, _, _, .tup h q, r => by
    cases r
    obtain ⟨_, its, rv, o, e, c, n, d⟩ := (show ObjOk X.prog X.w H s.heap _ (.tup _) from I.hok _ _ h)
    obtain ⟨as, ra, ha⟩ := RdWs.reads I q rv
    exact ⟨_, .tuple e c d (by simpa using ra), ha⟩
  | _, _, _, .dic (p := p) (z := z0) (i := i0) h, r => by
    cases r
    obtain ⟨_, _, vs, kv, o, es, ep, h1, h2, h3, _, h5, _⟩ := (show ObjOk X.prog X.w H s.heap _ (.dK _) from I.hok _ _ h)
    cases kv with
    | cons e1 e2 =>
      cases e2
      obtain ⟨e1, rv⟩ := e1
      cases hes : es.toList with
      | nil => rw [hes] at h5; cases h5
      | cons e0 er =>
        rw [hes] at h5
        cases h5 with
        | cons k1 k2 k3 =>
          cases k3
          obtain ⟨t2, e3⟩ := rv
          have k1' : keyIs (Sum.inr z0) e0.key = true := by rw [mixKind_is, ← e1] at k1; exact k1
          rcases keyIs_shape k1' with ⟨i, t, a, b⟩ | ⟨x, t, a, b⟩
          · cases a
          · cases a
            refine ⟨_, .dict (kvs := [(.str _, .int _)]) h1 h2.1 h3 (as := []) (bs := []) ?_ ?_, fun a hm => ?_⟩
            · rw [hes]
              show ReadsAll s.heap [e0.key] [.str _] []
              rw [b]
              exact .cons (as := []) (bs := []) (.str _ _) .nil
            · rw [hes]
              show ReadsAll s.heap [e0.val] [.int _] []
              rw [k2, e3]
              exact .cons (as := []) (bs := []) (.int _ _) .nil
            · have : a = p := by simpa using hm
              rw [this, h]; simp
theorem RdWs.reads (I : Inv X pins σ H s) : ∀ {xs : List V} {ds : List PyData} {us : List Value}, RdWs H xs ds → Vals xs us → ∃ as, ReadsAll s.heap us ds as ∧ ∀ a ∈ as, H a ≠ none
  | _, _, _, .nil, r => by cases r; exact ⟨_, .nil, fun a h => by cases h⟩
  | _, _, _, .cons a b, r => by
    cases r with
    | cons r1 r2 =>
      obtain ⟨as, ra, h1⟩ := RdW.reads I a r1
      obtain ⟨bs, rb, h2⟩ := RdWs.reads I b r2
      refine ⟨_, .cons ra rb, fun a hm => ?_⟩
      rcases List.mem_append.mp hm with hm | hm
      · exact h1 a hm
      · exact h2 a hm
end
theorem call_reprW (hg : X.A.guards = some []) (hu : X.A.units + 64 < cLine) (hm : ∃ o, X.base.get? sysModules = some o) : CallR X (.builtin "repr") (fun xs H Q => ∃ x d, xs = [x] ∧ RdW H x d ∧ d.showable = true ∧ d.depth ≤ 40 ∧ d.shown.length ≤ sizeLine ∧ Q (.str d.shown) H) := by
  intro pins s σ H xs us Q I r h
  obtain ⟨x, d, rfl, hr, hs, hdp, hz, q⟩ := h
  obtain ⟨u, rfl, ru⟩ := vals1 r
  obtain ⟨as, ra, ha⟩ := hr.reads I ru
  obtain ⟨o, ho⟩ := hm
  have hno : sysModules ∉ as := fun z => ha _ z (I.bs _ _ ho).2
  cases hr with
  | non =>
    cases ru
    simp only [PyData.shown] at q
    exact P.repr_of_none ⟨.str _, H, I.tok _, ⟨_, rfl⟩, q⟩
  | bl b =>
    cases ru
    simp only [PyData.shown] at q
    exact P.repr_of_bool ⟨.str _, H, I.tok _, ⟨_, rfl⟩, q⟩
  | int i =>
    obtain ⟨t, rfl⟩ := ru
    simp only [PyData.shown] at q
    exact P.repr_of_int (by simpa [PyData.showable] using hs) ⟨.str _, H, I.tok _, ⟨_, rfl⟩, q⟩
  | str z =>
    obtain ⟨t, rfl⟩ := ru
    simp only [PyData.shown] at q hz
    exact P.repr_of_str ⟨.str _, H, I.tok _, ⟨_, rfl⟩, q⟩ hz
  | lst h1 h2 =>
    cases ru
    exact repr_of_reads' ra hs (fun _ => hno) hg (by omega) (fun _ _ e => e) (fun h' tk t' hk => ⟨.str _, H, I.kept hk, ⟨_, rfl⟩, q⟩) hz
  | tup h1 h2 =>
    cases ru
    exact repr_of_reads' ra hs (fun _ => hno) hg (by omega) (fun _ _ e => e) (fun h' tk t' hk => ⟨.str _, H, I.kept hk, ⟨_, rfl⟩, q⟩) hz
  | dic h1 =>
    cases ru
    exact repr_of_reads' ra hs (fun _ => hno) hg (by omega) (fun _ _ e => e) (fun h' tk t' hk => ⟨.str _, H, I.kept hk, ⟨_, rfl⟩, q⟩) hz
end
theorem pa_cmp {X : Cx} {es : List Expr} {t : TA} {te : TE} {pos : Pos} {a : Expr} {ops : List CmpOp} {cs : List Expr} (e : PE X (.Compare a ops cs pos) te) (h : PA X es t) : PA X (.Compare a ops cs pos :: es) (tCons te t) := pa_cons e h rfl
end L2

namespace L2
open PySem PySem.Spec PyProof.Rows
theorem law_callD {P : Program} {w : World} {K : PySem.W.Frag} {mg mb : Str → Option Value} {CX : CXT} {k : Nat} {fa a : Addr} {fd : FuncData} {x : Str} {sp : Sp} {s₁ : Shared} {vs : List Value} {ns : List Int}
    (KX : K.In s₁.heap) (hns : s₁.heap.Ns mainGlobals mg) (hb : s₁.heap.Ns builtinsNs mb) (hbb : ∀ x : Str, x ≠ "__name__" → mb x = bootBuiltins x) (hlim : s₁.heap.NoLimit) {mm : Str → Option Value} (hsm : s₁.heap.Ns sysModules mm) (hg : s₁.gens = #[])
    (ha : s₁.heap.get? a = some { cls := .type "list", data := .seq vs.toArray }) (hi : IntsAre vs ns) (hl : ns.length ≤ sizeLine) (hr : Room k callerA)
    (F : ∀ base : Heap, K.In base → base.Ns mainGlobals mg → (∃ o, base.get? sysModules = some o) → FnOkC P w K mg base CX k fa fd [x] sp) (hbind : ∀ (s : Shared) (u : Value), BindsTo s fd ⟨[u], []⟩ [(x, u)])
    (hsp : ∀ H : Hp, Only H → SqL K H a (ns.map V.int) → sp [.ref a] H (fun v _ => v = .bl true) fun _ _ _ => False)
    (hCX : ∀ H e s', CX [] H s₁ (fun _ _ _ => False) e s' → False) :
    codeAny (model P w) callerA (.call (.ref fa) ⟨[.ref a], []⟩) (fun r s' => r = .ok (.ret (.bool true)) ∧ OldK s₁.heap s'.heap ∧ s'.os = s₁.os ∧ AllBare s'.gens) s₁ := by
  have rv := vals_ints hi
  have lenV := hi.length
  -- from an abstract heap in which nothing but the script may be tracked
  have core : ∀ H : Hp, Only H → SqL K H a (ns.map V.int) → HOk P w H s₁.heap → (∀ b, H b ≠ none → b = a) → (H a ≠ none → K.lookup a = none) →
      codeAny (model P w) callerA (.call (.ref fa) ⟨[.ref a], []⟩) (fun r s' => r = .ok (.ret (.bool true)) ∧ OldK s₁.heap s'.heap ∧ s'.os = s₁.os ∧ AllBare s'.gens) s₁ := by
    intro H hO hS hok hA hK
    have base_of : ∀ {b : Addr} {o : Obj}, s₁.heap.get? b = some o → H b = none → (hidT s₁.heap H).get? b = some o := fun e n => hidT_get e n
    have noA : ∀ {b : Addr} {o : Obj} {es : Array DictEntry} {ep : Nat}, s₁.heap.get? b = some o → o.data = .dict es ep → H b = none := fun {b o es ep} e d => by
      cases q : H b with
      | none => rfl
      | some u =>
        have e' : b = a := hA b (by rw [q]; simp)
        subst e'
        rw [ha] at e; cases e
        have d' : Data.seq vs.toArray _ = Data.dict es ep := d
        cases d'
    have nsK : ∀ {b : Addr} {m : Str → Option Value}, s₁.heap.Ns b m → (hidT s₁.heap H).Ns b m := fun {b m} ⟨o, es, ep, e, d, r⟩ => ⟨o, es, ep, base_of e (noA e d), d, r⟩
    have hKb : K.In (hidT s₁.heap H) := fun b o e => base_of (KX b o e) (by
      cases q : H b with
      | none => rfl
      | some u =>
        have e' : b = a := hA b (by rw [q]; simp)
        subst e'
        rw [hK (by rw [q]; simp)] at e; cases e)
    have hM : Mod K mg (hidT s₁.heap H) := ⟨hKb, nsK hns, ⟨mb, nsK hb, hbb⟩, let ⟨mc, h1, h2⟩ := hlim; ⟨mc, nsK h1, h2⟩⟩
    have e0 : Env0 P w K mg (hidT s₁.heap H) callerA [] s₁ H := ⟨rfl, hM, fun b o e => of_hidT e, Nat.le_of_eq (hidT_size _ _), trivial, fun b hb => absurd (show b ∈ ([] : List Addr) from hb) (by simp), hok, .of_eq hg⟩
    refine codeAny_mono ((F _ hKb (nsK hns) (let ⟨o, _, _, e, _⟩ := nsK hsm; ⟨o, e⟩)).run [] s₁ H ⟨[.ref a], []⟩ [.ref a] [.ref a] _ _ hr e0 (hbind s₁ (.ref a)) (.cons rfl .nil) (hsp H hO hS)) fun r s' h => ?_
    cases r with
    | error e => exact (hCX H e s' h).elim
    | ok fl =>
      cases fl with
      | next => exact False.elim h
      | brk => exact False.elim h
      | cont => exact False.elim h
      | ret u =>
        obtain ⟨v, H', os, bare, un, hok', r', q⟩ := h
        have q' : v = .bl true := q
        subst q'
        obtain rfl : u = Value.bool true := r'
        refine ⟨rfl, OldK.of_keep fun b o e => ?_, os, bare⟩
        cases q : H b with
        | none => exact un.keep b o e q (by intro z; exact absurd (show b ∈ ([] : List Addr) from z) (by simp)) (by simp)
        | some u =>
          rcases hO b with z | ⟨ob, xs, z⟩
          · rw [q] at z; cases z
          · have z2 := un.frzs b ob _ z
            obtain ⟨e1, _⟩ := hok b _ z
            obtain ⟨e2, _⟩ := hok' b _ z2
            rw [e] at e1; cases e1
            exact e2
  cases hk : K.lookup a with
  | some o =>
    -- the script is one of the module's own objects
    have e := KX a o hk
    rw [ha] at e
    cases e
    refine core (fun _ => none) (fun _ => .inl rfl) (.inr ⟨_, vs.toArray, _, hk, rfl, rfl, rfl, by rw [List.size_toArray, lenV]; exact hl, by simpa using rv⟩) (fun b u z => by have z' : (none : Option HO) = some u := z; cases z') (fun b z => absurd rfl z) fun z => absurd rfl z
  | none =>
    refine core (fun b => if b = a then some (.frz { cls := .type "list", data := .seq vs.toArray } (.lst (ns.map V.int))) else none) (fun b => ?_) (.inl (.inr ⟨{ cls := .type "list", data := .seq vs.toArray }, if_pos rfl⟩)) (fun b u z => ?_) (fun b z => ?_) fun _ => hk
    · by_cases hb : b = a
      · exact .inr ⟨_, _, if_pos hb⟩
      · exact .inl (if_neg hb)
    · by_cases hb : b = a
      · have z' := (if_pos hb).symm.trans z
        cases z'
        subst hb
        exact ⟨ha, by rw [List.length_map]; exact hl, vs, _, rv, ha⟩
      · have z' := (if_neg hb).symm.trans z
        cases z'
    · by_cases hb : b = a
      · exact hb
      · exact absurd (if_neg hb) z
theorem walk_ofD {l : PySem.W.OpenLaw} {n k : Nat} {q : Program} {loose : List Str} {XP : (Str → Option Value) → Heap → Prop} {YP : World → Heap → Prop} {d : DefRec} {K : Params → PySem.W.Frag} {CX : World → CXT} {sp : World → Sp} {x : Str}
    (hn : l.most = some n) (hn2 : n ≤ sizeLine) (hdf : d.params.defaults = []) (hI : importsNone q = true) (hr : Room k callerA)
    (hY : ∀ (w : World) (h : Heap), YP w h → (K w.params).In h)
    (F : ∀ (w : World) (mg : Str → Option Value) (fa : Addr) (h : Heap), (K w.params).In h → h.Ns mainGlobals mg → mg d.name = some (.ref fa) →
      ∃ fd : FuncData, (∀ (s : Shared) (u : Value), BindsTo s fd ⟨[u], []⟩ [(x, u)]) ∧
        ∀ base : Heap, (K w.params).In base → base.Ns mainGlobals mg → (∃ o, base.get? sysModules = some o) → FnOkC l.prog w (K w.params) mg base (CX w) k fa fd [x] (sp w))
    (hsp : ∀ (w : World) (H : Hp) (a : Addr) (ns : List Int), ns.length ≤ n → Only H → SqL (K w.params) H a (ns.map V.int) → sp w [.ref a] H (fun v _ => v = .bl true) fun _ _ _ => False)
    (hCX : ∀ (w : World) (H : Hp) (s : Shared) (e : Value) (s' : Shared), CX w [] H s (fun _ _ _ => False) e s' → False) :
    PySem.W.WalkO q loose XP YP l.row.toRowW d [] (fun f vs => PySem.call f vs) := by
  refine Att.attach_call hn hdf fun w s₀ s₁ mg mb fa o pm cd doc a vs ns G Y ho hd hcd hmg hobj hints hlen hg => ?_
  have KX := hY w _ Y
  obtain ⟨fd, hb, hF⟩ := F w mg fa _ KX G.T.g hmg
  obtain ⟨mm, hsm, _⟩ := (G.T.seer hI).mods
  exact law_callD KX G.T.g G.T.b G.T.builtins G.T.nolimit hsm hg hobj hints (Nat.le_trans hlen hn2) hr hF hb (fun H hO hS => hsp w H a ns hlen hO hS) fun H e s' => hCX w H s₁ e s'
end L2

namespace Mr
open PySem L2
/-! things of whatever kind: what may stand in a list, what may be handed in -/
inductive Elt (H : Hp) : V → Prop
  | bl (b : Bool) : Elt H (.bl b)
  | int (i : Int) (h : i.natAbs < 10 ^ 40) : Elt H (.int i)
  | str (z : Str) (h : z.cps.size ≤ 300) (hc : (z.cps.toList.all fun c => decide (c < 16 ^ 8)) = true) : Elt H (.str z)
  | odd (x : V) (h : Odd H x) : Elt H x
theorem Odd.same {H H' : Hp} {x : V} (h : Odd H x) (s : Same H H') : Odd H' x := by
  cases h with
  | non => exact .non
  | bl b => exact .bl b
  | int i h => exact .int i h
  | str l h => exact .str l h
  | long => exact .long
  | la p e => exact .la p (s _ _ e)
  | ta p e => exact .ta p (s _ _ e)
  | da p e => exact .da p (s _ _ e)
  | t01 p e => exact .t01 p (s _ _ e)
  | l0 p e => exact .l0 p (s _ _ e)
theorem Elt.same {H H' : Hp} {x : V} (h : Elt H x) (s : Same H H') : Elt H' x := by
  cases h with
  | bl b => exact .bl b
  | int i h => exact .int i h
  | str z h hc => exact .str z h hc
  | odd x h => exact .odd x (h.same s)
theorem Elt.but {b : Addr} {n : Int} {H H' : Hp} {x : V} (h : Elt H x) (hb : H b = some (.lst [.int n])) (k : But b H H') : Elt H' x := by
  cases h with
  | bl b => exact .bl b
  | int i h => exact .int i h
  | str z h hc => exact .str z h hc
  | odd x h => exact .odd x (h.but hb k)
/-- a thing that is handed in -/
inductive Thg (b : Addr) (H : Hp) : V → Prop
  | elt (x : V) (h : Elt H x) : Thg b H x
  | lst (p : Addr) (xs : List V) (hp : H p = some (.lst xs)) (hb : p ≠ b) (hl : xs.length ≤ 60) (he : ∀ x ∈ xs, Elt H x) : Thg b H (.ref p)
  | tup (p : Addr) (xs : List V) (hp : H p = some (.tup xs)) (hl : xs.length ≤ 60) (he : ∀ x ∈ xs, Elt H x) : Thg b H (.ref p)
/-- may be shown: n deep at most, of weight w at most -/
def Sh2 (d : PyData) (n w : Nat) : Prop := d.showable = true ∧ d.depth ≤ n ∧ d.leavesShort 50 = true ∧ d.weight ≤ w
def Sh2s (ds : List PyData) (n w : Nat) : Prop := PyData.showableAll ds = true ∧ PyData.depthAll ds ≤ n ∧ PyData.leavesShortAll 50 ds = true ∧ PyData.weightAll ds ≤ w
theorem Sh2s.nil (n w : Nat) : Sh2s [] n w := ⟨by simp only [PyData.showableAll], by simp only [PyData.depthAll]; omega, by simp only [PyData.leavesShortAll], by simp only [PyData.weightAll]; omega⟩
theorem Sh2s.cons {d : PyData} {ds : List PyData} {n w v : Nat} (h : Sh2 d n w) (h' : Sh2s ds n v) : Sh2s (d :: ds) n (w + 1 + v) := by
  obtain ⟨a1, a2, a3, a4⟩ := h
  obtain ⟨b1, b2, b3, b4⟩ := h'
  exact ⟨by simp only [PyData.showableAll, a1, b1, Bool.and_self], by simp only [PyData.depthAll]; omega, by simp only [PyData.leavesShortAll, a3, b3, Bool.and_self], by simp only [PyData.weightAll]; omega⟩
theorem Sh2s.tup {ds : List PyData} {n w : Nat} (h : Sh2s ds n w) : Sh2 (.tuple ds) (n + 1) w := by
  obtain ⟨b1, b2, b3, b4⟩ := h
  exact ⟨by simp only [PyData.showable]; exact b1, by simp only [PyData.depth]; omega, by simp only [PyData.leavesShort]; exact b3, by simp only [PyData.weight]; exact b4⟩
theorem Sh2s.lst {ds : List PyData} {n w : Nat} (h : Sh2s ds n w) : Sh2 (.list ds) (n + 1) w := by
  obtain ⟨b1, b2, b3, b4⟩ := h
  exact ⟨by simp only [PyData.showable]; exact b1, by simp only [PyData.depth]; omega, by simp only [PyData.leavesShort]; exact b3, by simp only [PyData.weight]; exact b4⟩
theorem Sh2.size {d : PyData} {n w : Nat} (h : Sh2 d n w) (hw : w ≤ 300000) : d.shown.length ≤ sizeLine := by
  have := PyData.shown_le 50 (by decide) d h.2.2.1
  have := h.2.2.2
  have e : (50 + 2) * d.weight ≤ 52 * 300000 := Nat.mul_le_mul_left 52 (by omega)
  rw [sizeLine_eq]; omega
theorem Sh2.mono {d : PyData} {n w m v : Nat} (h : Sh2 d n w) (h1 : n ≤ m) (h2 : w ≤ v) : Sh2 d m v := ⟨h.1, Nat.le_trans h.2.1 h1, h.2.2.1, Nat.le_trans h.2.2.2 h2⟩
theorem sh_int {i : Int} (h : i.natAbs < 10 ^ 40) : Sh2 (.int i) 0 150 := by
  have h2 : i.natAbs.log2 < 140 := by
    by_cases h0 : i.natAbs = 0
    · rw [h0]; decide
    · exact (Nat.log2_lt h0).mpr (Nat.lt_of_lt_of_le h (by decide))
  refine ⟨by simp only [PyData.showable]; exact decide_eq_true (by omega), by simp only [PyData.depth]; omega, ?_, ?_⟩
  · simp only [PyData.leavesShort]
    apply decide_eq_true
    have e := int_text_length_le10 (k := 40) (by decide) h
    show (Str.ofString (toString i)).length ≤ 50
    rw [ofString_length]; omega
  · simp only [PyData.weight]
    split <;> omega
theorem sh_str {z : Str} (h : z.cps.size ≤ 300) (hc : (z.cps.toList.all fun c => decide (c < 16 ^ 8)) = true) : Sh2 (.str z) 0 300 :=
  ⟨by simp only [PyData.showable], by simp only [PyData.depth]; omega, by simp only [PyData.leavesShort]; exact hc, by simp only [PyData.weight]; exact h⟩
theorem sh_tx {l : List Nat} (h : l.length ≤ 300) (hc : ∀ c ∈ l, c < 1000) : Sh2 (.str (tx l)) 0 300 := sh_str (by simpa using h) (by
  rw [List.all_eq_true]
  intro c hm
  have : c ∈ l := by simpa using hm
  have := hc c this
  exact decide_eq_true (by have : (16 : Nat) ^ 8 = 4294967296 := by decide
                           omega))
theorem Odd.rd {H : Hp} {x : V} (h : Odd H x) : ∃ d, RdW H x d ∧ Sh2 d 1 400 := by
  have one : ∀ {z : Int}, z.natAbs < 10 ^ 40 → Sh2 (.int z) 0 150 := fun h => sh_int h
  have a : Sh2 (.str (tx [97])) 0 300 := sh_tx (by decide) (by decide)
  cases h with
  | non => exact ⟨_, .non, by simp only [PyData.showable], by simp only [PyData.depth]; omega, by simp only [PyData.leavesShort], by simp only [PyData.weight]; omega⟩
  | bl b => exact ⟨_, .bl b, by simp only [PyData.showable], by simp only [PyData.depth]; omega, by simp only [PyData.leavesShort], by simp only [PyData.weight]; omega⟩
  | int i h => exact ⟨_, .int i, (sh_int (by rcases h with rfl | rfl | rfl <;> decide)).mono (by omega) (by omega)⟩
  | str l h => exact ⟨_, .str _, (sh_tx (by rcases h with rfl | rfl | rfl | rfl <;> decide) (by rcases h with rfl | rfl | rfl | rfl <;> decide)).mono (by omega) (by omega)⟩
  | long => exact ⟨_, .str _, (sh_tx (by rw [repL_len]; decide) (by decide +kernel)).mono (by omega) (by omega)⟩
  | la p e => exact ⟨_, .lst e (.cons (.str _) .nil), (Sh2s.lst (Sh2s.cons a (Sh2s.nil 0 0))).mono (by decide) (by decide)⟩
  | ta p e => exact ⟨_, .tup e (.cons (.str _) .nil), (Sh2s.tup (Sh2s.cons a (Sh2s.nil 0 0))).mono (by decide) (by decide)⟩
  | da p e =>
    refine ⟨_, .dic e, ?_, ?_, ?_, ?_⟩
    · simp only [PyData.showable, PyData.showableKv, Bool.true_and, Bool.and_true]; decide
    · simp only [PyData.depth, PyData.depthKv]; decide
    · have := (sh_int (i := 1) (by decide)).2.2.1
      simp only [PyData.leavesShort, PyData.leavesShortKv, Bool.and_true] at this ⊢
      rw [this, Bool.and_true]
      have h2 := a.2.2.1
      simp only [PyData.leavesShort] at h2
      exact h2
    · simp only [PyData.weight, PyData.weightKv]; decide
  | t01 p e => exact ⟨_, .tup e (.cons (.int _) (.cons (.int _) .nil)), (Sh2s.tup (Sh2s.cons (one (z := 0) (by decide)) (Sh2s.cons (one (z := 1) (by decide)) (Sh2s.nil 0 0)))).mono (by decide) (by decide)⟩
  | l0 p e => exact ⟨_, .lst e .nil, (Sh2s.lst (Sh2s.nil 0 0)).mono (by decide) (by decide)⟩
theorem Elt.rd {H : Hp} {x : V} (h : Elt H x) : ∃ d, RdW H x d ∧ Sh2 d 1 400 := by
  cases h with
  | bl b => exact ⟨_, .bl b, by simp only [PyData.showable], by simp only [PyData.depth]; omega, by simp only [PyData.leavesShort], by simp only [PyData.weight]; omega⟩
  | int i h => exact ⟨_, .int i, (sh_int h).mono (by omega) (by omega)⟩
  | str z h hc => exact ⟨_, .str z, (sh_str h hc).mono (by omega) (by omega)⟩
  | odd x h => exact h.rd
theorem elts_rd {H : Hp} : ∀ {xs : List V}, (∀ x ∈ xs, Elt H x) → ∃ ds, RdWs H xs ds ∧ Sh2s ds 1 (401 * xs.length)
  | [], _ => ⟨[], .nil, Sh2s.nil _ _⟩
  | x :: xs, h => by
    obtain ⟨d, r, s⟩ := (h x List.mem_cons_self).rd
    obtain ⟨ds, rs, ss⟩ := elts_rd fun y hy => h y (List.mem_cons_of_mem _ hy)
    refine ⟨d :: ds, .cons r rs, ?_⟩
    have := Sh2s.cons s ss
    have e : 400 + 1 + 401 * xs.length = 401 * (x :: xs).length := by rw [List.length_cons]; omega
    rw [e] at this
    exact this
section
variable {K : PySem.W.Frag}
theorem Odd.noint {H : Hp} {x : V} (h : Odd H x) : Scal x ∨ NoInt K H x := by
  cases h with
  | non => exact .inl trivial
  | bl b => exact .inl trivial
  | int i h => exact .inl trivial
  | str l h => exact .inl trivial
  | long => exact .inl trivial
  | la p e => exact .inr ⟨rfl, _, .lst e, rfl⟩
  | ta p e => exact .inr ⟨rfl, _, .tup e, rfl⟩
  | da p e => exact .inr ⟨rfl, _, .dK e, rfl⟩
  | t01 p e => exact .inr ⟨rfl, _, .tup e, rfl⟩
  | l0 p e => exact .inr ⟨rfl, _, .lst e, rfl⟩
theorem Elt.noint {H : Hp} {x : V} (h : Elt H x) : Scal x ∨ NoInt K H x := by
  cases h with
  | bl b => exact .inl trivial
  | int i h => exact .inl trivial
  | str z h hc => exact .inl trivial
  | odd x h => exact h.noint
theorem Odd.vs {H : Hp} {x : V} (h : Odd H x) : Vs H x := by
  cases h with
  | non => trivial
  | bl b => trivial
  | int i h => trivial
  | str l h => trivial
  | long => trivial
  | la p e => exact .inl ⟨_, e⟩
  | ta p e => exact .inr (.inl ⟨_, e⟩)
  | da p e => exact .inr (.inr ⟨_, e⟩)
  | t01 p e => exact .inr (.inl ⟨_, e⟩)
  | l0 p e => exact .inl ⟨_, e⟩
theorem Elt.vs {H : Hp} {x : V} (h : Elt H x) : Vs H x := by
  cases h with
  | bl b => trivial
  | int i h => trivial
  | str z h hc => trivial
  | odd x h => exact h.vs
end
theorem Elt.nat {H : Hp} {i : Nat} (h : i < 1000) : Elt H (.int (i : Int)) := .int _ (Nat.lt_of_lt_of_le (by omega : (i : Int).natAbs < 1000) (by decide))
theorem but_free {b p : Addr} {o : HO} {H H' : Hp} (k : But b H H') (hb : H' b = some o) (h : H' p = none) : H p = none := by
  cases e : H p with
  | none => rfl
  | some u =>
    have np : p ≠ b := fun z => by rw [z, hb] at h; cases h
    rw [k _ _ e np] at h; cases h
/-- the list of the things grows: what stands in it stays -/
theorem Odd.grow {q : Addr} {xs : List V} {o : HO} {H : Hp} {x : V} (h : Odd H x) (hq : H q = some (.lst xs)) (hl : 2 ≤ xs.length) : Odd (upd H q o) x := by
  have ne : ∀ {p : Addr} {u : HO}, H p = some u → (∀ ys, u = .lst ys → ys.length < 2) → upd H q o p = some u := fun {p u} e hu => by
    have : p ≠ q := fun z => by
      subst z
      rw [e] at hq
      have := hu xs (Option.some.inj hq)
      omega
    rw [upd_ne this]; exact e
  cases h with
  | non => exact .non
  | bl b => exact .bl b
  | int i h => exact .int i h
  | str l h => exact .str l h
  | long => exact .long
  | la p e => exact .la p (ne e fun ys z => by cases z; decide)
  | ta p e => exact .ta p (ne e fun ys z => by cases z)
  | da p e => exact .da p (ne e fun ys z => by cases z)
  | t01 p e => exact .t01 p (ne e fun ys z => by cases z)
  | l0 p e => exact .l0 p (ne e fun ys z => by cases z; decide)
theorem Elt.grow {q : Addr} {xs : List V} {o : HO} {H : Hp} {x : V} (h : Elt H x) (hq : H q = some (.lst xs)) (hl : 2 ≤ xs.length) : Elt (upd H q o) x := by
  cases h with
  | bl b => exact .bl b
  | int i h => exact .int i h
  | str z h hc => exact .str z h hc
  | odd x h => exact .odd x (h.grow hq hl)
def spSameG (K : PySem.W.Frag) : Sp := fun vs H Q _ => ∃ (x : V) (n : Int), vs = [x, .int n] ∧ (Scal x ∨ NoInt K H x) ∧ Q (.bl (decide (x = .int n))) H
def spAreG (K : PySem.W.Frag) : Sp := fun vs H Q _ => ∃ (x : V) (l : List Nat), vs = [x, .str (tx l)] ∧ rowL l = true ∧
  ((∃ (p : Addr) (xs : List V), x = .ref p ∧ H p = some (.lst xs) ∧ (∀ x ∈ xs, Scal x ∨ NoInt K H x) ∧ ∀ H', Same H H' → Q (.bl (decide (xs = lensV (reachesN l)))) H') ∨
   ((∃ t, TyOf K H x t ∧ PySem.W.kitOne K t (.type "list") = some false) ∧ ∀ H', Same H H' → Q (.bl false) H'))
def spBent04 : Sp := fun vs H Q _ => ∃ (b pd : Addr) (n : Int) (ks : List Nat) (x : V), vs = [.ref b, .ref pd, x] ∧ H b = some (.lst [.int n]) ∧ 0 ≤ n ∧ b ≠ pd ∧ H pd = some (.lst (lensV ks)) ∧ ks.length ≤ 29 ∧ (∀ k ∈ ks, k < 100) ∧ Odd H x ∧
  ∀ (y : V) (n' : Int) (H' : Hp), Thg b H' y → (∀ p, y = .ref p → H p = none) → 0 ≤ n' → H' b = some (.lst [.int n']) → But b H H' → Q y H'
end Mr

namespace L2
open PySem PySem.Spec PyProof.Rows PySem.SeqAt PySem.MeetsSeq
open PySem.AutoSeq1 (wpAny_loadPart')
/-! ### != of whatever thing and a text -/
theorem sub_str_dict' : isSubtype (.type "str") (.type "dict") = pure false := by rw [isSubtype_type]; kernel_rfl
theorem str_ne_declines_dict (b : Str) (u : Tok) (l : Addr) (es : Array DictEntry) (n : Nat) (dd : Option Addr) (sl : Array (Option Value)) :
    Meets (Builtin.«str.__ne__» ⟨[.str b u, .ref l], []⟩) (fun _ R s => s.heap.get? l = some { cls := .type "dict", dict := dd, data := .dict es n, slots := sl } ∧ R (.ok (.ret .notImplemented)) s) :=
  .of_wp fun prog w A R s h => by obtain ⟨hp, g, d, tk, os⟩ := s; obtain ⟨hl, h⟩ := h; wp_walk using wpAny_loadPart' hl, wpAny_load hl; exact ⟨_, rfl, h⟩
theorem rc_dict_str {A : Around} {s : Shared} {l : Addr} {o : Obj} {es : Array DictEntry} {n : Nat} (b : Str) (u : Tok) (hl : s.heap.get? l = some o) (hc : o.cls = .type "dict") (hd : o.data = .dict es n) (hu : A.units < cLine) : SeqAt.RcNeAt A s (.ref l) (.str b u) true := fun prog w E Q h => by
  obtain ⟨cls, dd, data, sl⟩ := o
  simp only at hc hd
  subst hc hd
  have tl : s.TypeIs (.ref l) "dict" := ⟨_, hl, rfl⟩
  refine rc_ne_decline_or (k := false) tl (typeIs_str s b u) (by decide) sub_str_dict' F.slot_dict_ne F.slot_str_ne_refl (fun Q' hq => ?_)
    (fun _ hq => call_meets F.slot_str_ne_refl (typeIs_str s b u) F.entry_str_ne (F.args_str_ne_2 _ _) (str_ne_declines_dict b u l es n dd sl) ⟨hl, hq⟩)
    (fun _ hq => wpAny_of_eq (rfl : isSame (.ref l) (.str b u) = pure false) hq) (.inr hu) h
  refine wpAny_call_entry PySem.F.slot_dict_ne tl PySem.F.entry_dict_ne ?_ (PySem.F.args_dict_ne_2 _ _)
  show wpAny _ _ (Builtin.Dict.dictSlotArgs "__ne__" ⟨[.ref l, .str b u], []⟩ >>= _) _ _ s
  refine wpAny_bind ?_
  unfold Builtin.Dict.dictSlotArgs
  refine wpAny_bind (wpAny_notOrdered_dict tl ?_)
  show wpAny _ _ (pure (Value.ref l, Value.str b u)) _ _ s
  refine wpAny_pure ?_
  refine wpAny_bind (wpAny_isInstance (T := "str") (typeIs_str s b u) sub_str_dict' ?_)
  simp only [Bool.not_false, if_true]
  exact wpAny_bind (wpAny_rule (wpAny_pure ⟨_, rfl, hq⟩))
section
variable {X : Cx}
def rNeS : R2 := fun x y H Q => ∃ z : Str, y = .str z ∧ Vs H x ∧ Q (.bl (!decide (x = .str z))) H
theorem op_neS (hu : X.A.units < cLine) : OpR X (compareOp .NotEq) rNeS := by
  intro pins s σ H x y v u Q I rx ry h
  obtain ⟨z, rfl, hv, q⟩ := h
  obtain ⟨t, rfl⟩ := ry
  cases x with
  | non => cases rx; exact SeqAt.RcNeAt.none_str z t _ _ _ _ ⟨.bl true, H, I, rfl, q⟩
  | bl b => cases rx; exact SeqAt.RcNeAt.bool_str b z t _ _ _ _ ⟨.bl true, H, I, rfl, q⟩
  | int i => obtain ⟨k, rfl⟩ := rx; exact SeqAt.RcNeAt.int_str i k z t _ _ _ _ ⟨.bl true, H, I, rfl, q⟩
  | str a =>
    obtain ⟨k, rfl⟩ := rx
    have e : (!decide (V.str a = V.str z)) = !(a == z) := by
      congr 1
      rw [Bool.eq_iff_iff, decide_eq_true_iff]
      constructor
      · intro h; injection h with h; rw [h]; simp
      · intro h; rw [eq_of_beq h]
    rw [e] at q
    exact SeqAt.RcNeAt.str_str a k z t _ _ _ _ ⟨.bl _, H, I, rfl, q⟩
  | ref p =>
    cases rx
    rcases hv with ⟨xs, hp⟩ | ⟨xs, hp⟩ | ⟨kvs, hp⟩
    · obtain ⟨its, r1, p1, _⟩ := I.list (SqL.of (K := X.K) hp)
      exact SeqAt.RcNeAt.list_str z t p1.isList hu _ _ _ _ ⟨.bl true, H, I, rfl, q⟩
    · obtain ⟨its, r1, p1, _⟩ := I.tuple (SqT.of (K := X.K) hp)
      exact SeqAt.RcNeAt.tuple_str z t (show s.heap.IsTuple p its.toArray from p1) hu _ _ _ _ ⟨.bl true, H, I, rfl, q⟩
    · obtain ⟨_, _, vs, _, o, es, ep, h1, h2, h3, _⟩ := (show ObjOk X.prog X.w H s.heap p (.dK kvs) from I.hok p _ hp)
      exact rc_dict_str z t h1 h2.1 h3 hu _ _ _ _ ⟨.bl true, H, I, rfl, q⟩
  | _ => exact hv.elim
end
end L2

namespace Mr
open PySem L2
/-! things that are shown alike are alike: the tree's side is known -/
def cp (z : Str) : List Nat := z.cps.toList
theorem cp_app (a b : Str) : cp (a ++ b) = cp a ++ cp b := by
  show (a.cps ++ b.cps).toList = _
  simp [cp]
def joinC : List (List Nat) → List Nat
  | [] => []
  | [x] => x
  | x :: y :: r => x ++ 44 :: 32 :: joinC (y :: r)
theorem cp_join : ∀ ts : List Str, cp (Str.join ", " ts) = joinC (ts.map cp)
  | [] => rfl
  | [x] => rfl
  | x :: y :: r => by
    show cp (x ++ ", " ++ Str.join ", " (y :: r)) = cp x ++ 44 :: 32 :: joinC ((y :: r).map cp)
    rw [cp_app, cp_app, cp_join (y :: r)]
    have e : cp (", " : Str) = [44, 32] := by decide +kernel
    rw [e, List.append_assoc]
    rfl
theorem text_from : ∀ (ts : List Str) (k : Nat) (acc : Str), 0 < k → cp (textFrom k acc ts) = cp acc ++ (ts.map fun t => 44 :: 32 :: cp t).flatten
  | [], k, acc, _ => by show cp acc = _; simp
  | t :: r, k, acc, hk => by
    show cp (textFrom (k + 1) (acc ++ (if k > 0 then ", " else "" : String) ++ t) r) = _
    rw [text_from r (k + 1) _ (Nat.succ_pos k), if_pos hk, cp_app, cp_app]
    have e : cp ((", " : String) : Str) = [44, 32] := by decide +kernel
    rw [e]
    simp
theorem join_flat : ∀ (x : List Nat) (r : List (List Nat)), joinC (x :: r) = x ++ (r.map fun t => 44 :: 32 :: t).flatten
  | x, [] => by simp [joinC]
  | x, y :: r => by
    show x ++ 44 :: 32 :: joinC (y :: r) = _
    rw [join_flat y r]
    simp
theorem cp_list (ts : List Str) : cp (listText ts) = 91 :: (joinC (ts.map cp) ++ [93]) := by
  unfold listText
  rw [cp_app]
  have e1 : cp ("]" : Str) = [93] := by decide +kernel
  have e2 : cp ("[" : Str) = [91] := by decide +kernel
  rw [e1]
  cases ts with
  | nil => show cp ("[" : Str) ++ [93] = _; rw [e2]; rfl
  | cons t r =>
    show cp (textFrom 1 (("[" : Str) ++ ((if 0 > 0 then ", " else "" : String) : Str) ++ t) r) ++ [93] = _
    rw [text_from r 1 _ (by decide), cp_app, cp_app, e2]
    have e3 : cp ((if 0 > 0 then ", " else "" : String) : Str) = [] := by decide +kernel
    rw [e3, List.map_cons, join_flat]
    simp [Function.comp_def]
theorem cp_tuple (ts : List Str) : cp (tupleText ts) = 40 :: (joinC (ts.map cp) ++ (if ts.length = 1 then [44, 41] else [41])) := by
  unfold tupleText
  rw [cp_app, cp_app, cp_join]
  have e1 : cp ("(" : Str) = [40] := by decide +kernel
  rw [e1]
  by_cases h : ts.length = 1
  · have h' : (ts.length == 1) = true := by simpa using h
    rw [if_pos h, h', if_pos rfl]
    have e : cp ((",)" : String) : Str) = [44, 41] := by decide +kernel
    rw [e]; simp
  · have h' : (ts.length == 1) = false := by simpa using h
    rw [if_neg h, h', if_neg Bool.false_ne_true]
    have e : cp ((")" : String) : Str) = [41] := by decide +kernel
    rw [e]; simp
/-- the signs of what is shown -/
def shC (d : PyData) : List Nat := cp d.shown
theorem shAll_map : ∀ ds : List PyData, (PyData.shownAll ds).map cp = ds.map shC
  | [] => by simp only [PyData.shownAll, List.map_nil]
  | d :: r => by simp only [PyData.shownAll, List.map_cons, shAll_map r, shC]
theorem shAll_len : ∀ ds : List PyData, (PyData.shownAll ds).length = ds.length
  | [] => by simp only [PyData.shownAll, List.length_nil]
  | d :: r => by simp only [PyData.shownAll, List.length_cons, shAll_len r]
theorem shC_list (ds : List PyData) : shC (.list ds) = 91 :: (joinC (ds.map shC) ++ [93]) := by
  unfold shC
  simp only [PyData.shown]
  rw [cp_list, shAll_map]; rfl
theorem shC_tuple (ds : List PyData) : shC (.tuple ds) = 40 :: (joinC (ds.map shC) ++ (if ds.length = 1 then [44, 41] else [41])) := by
  unfold shC
  simp only [PyData.shown]
  rw [cp_tuple, shAll_map, shAll_len]; rfl
theorem shC_dict (kvs : List (PyData × PyData)) : ∃ r, shC (.dict kvs) = 123 :: r := by
  unfold shC
  simp only [PyData.shown]
  unfold dictText
  rw [cp_app, cp_app]
  have e1 : cp ("{" : Str) = [123] := by decide +kernel
  rw [e1]
  exact ⟨_, rfl⟩
theorem shC_none : shC .none = [78, 111, 110, 101] := by unfold shC; simp only [PyData.shown]; decide +kernel
theorem shC_bool (b : Bool) : shC (.bool b) = if b then [84, 114, 117, 101] else [70, 97, 108, 115, 101] := by
  unfold shC; simp only [PyData.shown]; cases b <;> decide +kernel
/-- numbers that may stand there -/
def NiceI (i : Int) : Prop := i = 10 ^ 39 ∨ i = -1 ∨ ∃ n : Nat, n < 40 ∧ i = (n : Int)
def dig (n : Nat) : List Nat := cp ((toString (n : Int) : String) : Str)
theorem shC_int (i : Int) : shC (.int i) = cp ((toString i : String) : Str) := by unfold shC; simp only [PyData.shown]
theorem dig_ok : ∀ n : Fin 40, (dig n.val).all (fun c => decide (48 ≤ c ∧ c ≤ 57)) = true ∧ dig n.val ≠ [] ∧ (dig n.val).length < 10 := by decide +kernel
theorem dig_inj : ∀ n m : Fin 40, dig n.val = dig m.val → n = m := by decide +kernel
theorem sh_big : (cp ((toString ((10 : Int) ^ 39) : String) : Str)).all (fun c => decide (48 ≤ c ∧ c ≤ 57)) = true ∧ (cp ((toString ((10 : Int) ^ 39) : String) : Str)).length = 40 := by decide +kernel
theorem sh_neg : cp ((toString (-1 : Int) : String) : Str) = [45, 49] := by decide +kernel
/-! texts -/
def inn (l : List Nat) : List Nat := (l.map (Builtin.Str.reprChar 39)).flatten
theorem fold_repr (q : Nat) : ∀ (l : List Nat) (acc : Array Nat), (l.foldl (fun out c => out ++ (Builtin.Str.reprChar q c).toArray) acc).toList = acc.toList ++ (l.map (Builtin.Str.reprChar q)).flatten
  | [], acc => by simp
  | c :: r, acc => by
    rw [List.foldl_cons, fold_repr q r]
    simp
theorem quote_tx {l : List Nat} (h : 39 ∉ l) : reprQuote (tx l) = 39 := by
  unfold reprQuote
  have : (tx l).cps.contains 39 = false := by
    rw [Bool.eq_false_iff]
    intro z
    have : 39 ∈ (tx l).cps.toList := by simpa using z
    exact h (by simpa using this)
  rw [this]; rfl
theorem shC_str {l : List Nat} (h : 39 ∉ l) : shC (.str (tx l)) = 39 :: (inn l ++ [39]) := by
  unfold shC
  simp only [PyData.shown]
  unfold reprText
  rw [quote_tx h]
  show ((((tx l).cps.foldl (fun out c => out ++ (Builtin.Str.reprChar 39 c).toArray) #[39]).push 39).toList) = _
  have e : (tx l).cps.foldl (fun out c => out ++ (Builtin.Str.reprChar 39 c).toArray) #[39] = l.foldl (fun out c => out ++ (Builtin.Str.reprChar 39 c).toArray) #[39] := by
    rw [← Array.foldl_toList]
    first | done | (have : (tx l).cps.toList = l := by simp
                    rw [this])
  rw [Array.toList_push, e, fold_repr]
  rfl
def NiceS (l : List Nat) : Prop := Let l ∨ l = [65] ∨ l = [97, 32, 98] ∨ l = [97, 10] ∨ l = [49]
theorem let_char : ∀ c ∈ lets, Builtin.Str.reprChar 39 c = [c] := by decide +kernel
theorem let_mem {l : List Nat} (h : Let l) {c : Nat} (hc : c ∈ l) : c ∈ lets := by
  have := h c hc
  first | exact this | exact mem_lets.mpr this
theorem inn_let : ∀ {l : List Nat}, Let l → inn l = l
  | [], _ => rfl
  | c :: r, h => by
    have e := let_char c (let_mem h List.mem_cons_self)
    have ih := inn_let (l := r) fun x hx => h x (List.mem_cons_of_mem _ hx)
    show Builtin.Str.reprChar 39 c ++ inn r = c :: r
    rw [e, ih]; rfl
theorem nice_no {l : List Nat} (h : NiceS l) : 39 ∉ l := by
  rcases h with h | rfl | rfl | rfl | rfl
  · intro z
    have := mem_lets.mp (let_mem h z)
    omega
  all_goals decide
theorem inn_odd : inn [65] = [65] ∧ inn [97, 32, 98] = [97, 32, 98] ∧ inn [97, 10] = [97, 92, 110] ∧ inn [49] = [49] := by decide +kernel
theorem inn_no {l : List Nat} (h : NiceS l) : (inn l).all (fun c => decide (c ≠ 39)) = true := by
  rcases h with h | rfl | rfl | rfl | rfl
  · rw [inn_let h, List.all_eq_true]
    intro c hc
    have := mem_lets.mp (let_mem h hc)
    exact decide_eq_true (by omega)
  · rw [inn_odd.1]; decide
  · rw [inn_odd.2.1]; decide
  · rw [inn_odd.2.2.1]; decide
  · rw [inn_odd.2.2.2]; decide
theorem inn_inj {l t : List Nat} (h : NiceS l) (ht : Let t) (e : inn l = t) : l = t := by
  have no : ∀ {c : Nat}, c ∈ t → 97 ≤ c ∧ c ≤ 122 := fun hc => mem_lets.mp (let_mem ht hc)
  rcases h with h | rfl | rfl | rfl | rfl
  · rw [inn_let h] at e; exact e
  · rw [inn_odd.1] at e; have := no (c := 65) (by rw [← e]; decide); omega
  · rw [inn_odd.2.1] at e; have := no (c := 32) (by rw [← e]; decide); omega
  · rw [inn_odd.2.2.1] at e; have := no (c := 92) (by rw [← e]; decide); omega
  · rw [inn_odd.2.2.2] at e; have := no (c := 49) (by rw [← e]; decide); omega
theorem split_p (p : Nat → Bool) : ∀ {a b : List Nat} {c c' : Nat} {r r' : List Nat}, a.all p = true → b.all p = true → p c = false → p c' = false → a ++ c :: r = b ++ c' :: r' → a = b ∧ c = c' ∧ r = r'
  | [], [], _, _, _, _, _, _, _, _, h => by
    have := List.cons.inj h
    exact ⟨rfl, this⟩
  | [], y :: b, c, _, _, _, _, hb, hc, _, h => by
    have e := (List.cons.inj h).1
    rw [List.all_cons, Bool.and_eq_true] at hb
    rw [← e, hc] at hb
    exact absurd hb.1 Bool.false_ne_true
  | x :: a, [], _, c', _, _, ha, _, _, hc', h => by
    have e := (List.cons.inj h).1
    rw [List.all_cons, Bool.and_eq_true] at ha
    rw [e, hc'] at ha
    exact absurd ha.1 Bool.false_ne_true
  | x :: a, y :: b, c, c', r, r', ha, hb, hc, hc', h => by
    rw [List.all_cons, Bool.and_eq_true] at ha hb
    obtain ⟨e1, e2⟩ := List.cons.inj h
    obtain ⟨q1, q2⟩ := split_p p ha.2 hb.2 hc hc' e2
    exact ⟨by rw [e1, q1], q2⟩
/-- what may stand anywhere: its numbers and texts are nice -/
def Leaf (d : PyData) : Prop := match d with
  | .int i => NiceI i
  | .str z => ∃ l, z = tx l ∧ NiceS l
  | _ => True
def dgB (c : Nat) : Bool := decide (48 ≤ c ∧ c ≤ 57)
/-- the first sign -/
def FirstC (d : PyData) (c : Nat) : Prop := match d with
  | .none => c = 78
  | .bool _ => c = 84 ∨ c = 70
  | .int _ => dgB c = true ∨ c = 45
  | .str _ => c = 39
  | .list _ => c = 91
  | .tuple _ => c = 40
  | .dict _ => c = 123
theorem leaf_first {d : PyData} (h : Leaf d) : ∃ c r, shC d = c :: r ∧ FirstC d c := by
  cases d with
  | none => exact ⟨_, _, shC_none, rfl⟩
  | bool b => rw [shC_bool]; cases b; exact ⟨_, _, rfl, .inr rfl⟩; exact ⟨_, _, rfl, .inl rfl⟩
  | int i =>
    rw [shC_int]
    rcases h with rfl | rfl | ⟨n, hn, rfl⟩
    · obtain ⟨h1, h2⟩ := sh_big
      cases e : cp ((toString ((10 : Int) ^ 39) : String) : Str) with
      | nil => rw [e] at h2; cases h2
      | cons c r =>
        rw [e, List.all_cons, Bool.and_eq_true] at h1
        exact ⟨c, r, rfl, .inl h1.1⟩
    · exact ⟨_, _, sh_neg, .inr rfl⟩
    · obtain ⟨h1, h2, _⟩ := dig_ok ⟨n, hn⟩
      show ∃ c r, dig n = c :: r ∧ _
      cases e : dig n with
      | nil => exact absurd e h2
      | cons c r =>
        have h1' : (dig n).all (fun c => decide (48 ≤ c ∧ c ≤ 57)) = true := h1
        rw [e, List.all_cons, Bool.and_eq_true] at h1'
        exact ⟨c, r, rfl, .inl h1'.1⟩
  | str z =>
    obtain ⟨l, rfl, hl⟩ := h
    exact ⟨_, _, shC_str (nice_no hl), rfl⟩
  | list ds => exact ⟨_, _, shC_list ds, rfl⟩
  | tuple ds => exact ⟨_, _, shC_tuple ds, rfl⟩
  | dict kvs => obtain ⟨r, e⟩ := shC_dict kvs; exact ⟨_, r, e, rfl⟩
theorem first_is {d : PyData} (h : Leaf d) {c : Nat} {r r' : List Nat} (e : shC d ++ r = c :: r') : FirstC d c := by
  obtain ⟨c0, r0, e0, k⟩ := leaf_first h
  rw [e0, List.cons_append] at e
  rw [← (List.cons.inj e).1]
  exact k
theorem leaf_str {d : PyData} (h : Leaf d) {t r r' : List Nat} (ht : Let t) (e : shC d ++ r = 39 :: (t ++ 39 :: r')) : d = .str (tx t) ∧ r = r' := by
  have k := first_is h e
  cases d with
  | str z =>
    obtain ⟨l, rfl, hl⟩ := h
    rw [shC_str (nice_no hl), List.cons_append, List.append_assoc] at e
    have e2 := (List.cons.inj e).2
    have tn : t.all (fun c => decide (c ≠ 39)) = true := by have := inn_no (l := t) (.inl ht); rw [inn_let ht] at this; exact this
    obtain ⟨q1, _, q2⟩ := split_p (fun c => decide (c ≠ 39)) (inn_no hl) tn (by decide) (by decide) (show inn l ++ 39 :: r = t ++ 39 :: r' from e2)
    rw [inn_inj hl ht q1]
    exact ⟨rfl, q2⟩
  | none => exact absurd (show (39 = 78) from k) (by decide)
  | bool b => exact absurd (show (39 = 84 ∨ 39 = 70) from k) (by decide)
  | int i => exact absurd (show (dgB 39 = true ∨ 39 = 45) from k) (by decide)
  | list ds => exact absurd (show (39 = 91) from k) (by decide)
  | tuple ds => exact absurd (show (39 = 40) from k) (by decide)
  | dict ds => exact absurd (show (39 = 123) from k) (by decide)
theorem leaf_opt {d : PyData} (h : Leaf d) {o : Option Nat} (ho : ∀ i, o = some i → i < 40) {c c' : Nat} {r r' : List Nat} (hc : dgB c = false) (hc' : dgB c' = false) (e : shC d ++ c :: r = shC (optD o) ++ c' :: r') : d = optD o ∧ c = c' ∧ r = r' := by
  cases o with
  | none =>
    have e' : shC d ++ c :: r = 78 :: ([111, 110, 101] ++ c' :: r') := by rw [e]; show shC .none ++ _ = _; rw [shC_none]; rfl
    have k := first_is h e'
    cases d with
    | none =>
      rw [e] at e'
      have e2 : shC .none ++ c :: r = shC .none ++ c' :: r' := e
      have := List.append_cancel_left e2
      exact ⟨rfl, List.cons.inj this⟩
    | str z => exact absurd (show (78 = 39) from k) (by decide)
    | bool b => exact absurd (show (78 = 84 ∨ 78 = 70) from k) (by decide)
    | int i => exact absurd (show (dgB 78 = true ∨ 78 = 45) from k) (by decide)
    | list ds => exact absurd (show (78 = 91) from k) (by decide)
    | tuple ds => exact absurd (show (78 = 40) from k) (by decide)
    | dict ds => exact absurd (show (78 = 123) from k) (by decide)
  | some n =>
    have hn := ho n rfl
    obtain ⟨h1, h2, h3⟩ := dig_ok ⟨n, hn⟩
    have h1' : (dig n).all dgB = true := h1
    have en : shC (optD (some n)) = dig n := shC_int _
    rw [en] at e
    cases en2 : dig n with
    | nil => exact absurd en2 h2
    | cons x xs =>
      have hx : dgB x = true := by rw [en2, List.all_cons, Bool.and_eq_true] at h1'; exact h1'.1
      have k := first_is h (show shC d ++ c :: r = x :: (xs ++ c' :: r') by rw [e, en2]; rfl)
      have hx' : 48 ≤ x ∧ x ≤ 57 := of_decide_eq_true hx
      cases d with
      | int i =>
        rcases h with rfl | rfl | ⟨m, hm, rfl⟩
        · obtain ⟨b1, b2⟩ := sh_big
          rw [shC_int] at e
          have q := (split_p dgB b1 h1' hc hc' e).1
          have h3' : (dig n).length < 10 := h3
          rw [← q, b2] at h3'
          omega
        · rw [shC_int, sh_neg, en2] at e
          have := (List.cons.inj e).1
          omega
        · rw [shC_int] at e
          obtain ⟨q1, q2, q3⟩ := split_p dgB (dig_ok ⟨m, hm⟩).1 h1' hc hc' e
          have := dig_inj ⟨m, hm⟩ ⟨n, hn⟩ q1
          have e3 : m = n := congrArg Fin.val this
          subst e3
          exact ⟨rfl, q2, q3⟩
      | none => have k' : x = 78 := k; omega
      | bool b => have k' : x = 84 ∨ x = 70 := k; omega
      | str z => have k' : x = 39 := k; omega
      | list ds => have k' : x = 91 := k; omega
      | tuple ds => have k' : x = 40 := k; omega
      | dict ds => have k' : x = 123 := k; omega
/-! entries and trees -/
def Ent2 (d : PyData) : Prop := Leaf d ∧ ∀ ds, d = .tuple ds → ∀ x ∈ ds, Leaf x
def Top2 (d : PyData) : Prop := Leaf d ∧ ∀ ds, d = .list ds → ∀ x ∈ ds, Ent2 x
/-- an entry of letters and small numbers -/
def SmallE (e : Ent) : Prop := Let e.1 ∧ (∀ i, e.2.1 = some i → i < 40) ∧ ∀ i, e.2.2 = some i → i < 40
theorem entD_eq (e : Ent) : entD e = .tuple [.str (tx e.1), optD e.2.1, optD e.2.2] := by
  obtain ⟨t, a, b⟩ := e
  cases a <;> cases b <;> rfl
theorem shC_ent {e : Ent} (h : SmallE e) (r : List Nat) : shC (entD e) ++ r = 40 :: 39 :: (e.1 ++ 39 :: 44 :: 32 :: (shC (optD e.2.1) ++ 44 :: 32 :: (shC (optD e.2.2) ++ 41 :: r))) := by
  rw [entD_eq, shC_tuple]
  show 40 :: (joinC [shC (.str (tx e.1)), shC (optD e.2.1), shC (optD e.2.2)] ++ [41]) ++ r = _
  rw [shC_str (nice_no (.inl h.1)), inn_let h.1]
  simp [joinC]
theorem ent_inj {d : PyData} (hd : Ent2 d) {e : Ent} (h : SmallE e) {r r' : List Nat} (q : shC d ++ r = shC (entD e) ++ r') : d = entD e ∧ r = r' := by
  rw [shC_ent h] at q
  have k := first_is hd.1 q
  cases d with
  | tuple ds =>
    have hl := hd.2 ds rfl
    rw [shC_tuple, List.cons_append] at q
    have q1 := (List.cons.inj q).2
    cases ds with
    | nil =>
      have q2 : 41 :: r = 39 :: (e.1 ++ 39 :: 44 :: 32 :: (shC (optD e.2.1) ++ 44 :: 32 :: (shC (optD e.2.2) ++ 41 :: r'))) := q1
      exact absurd (List.cons.inj q2).1 (by decide)
    | cons x xs =>
      have hx := hl x List.mem_cons_self
      cases xs with
      | nil =>
        have q2 : shC x ++ (44 :: 41 :: r) = 39 :: (e.1 ++ 39 :: 44 :: 32 :: (shC (optD e.2.1) ++ 44 :: 32 :: (shC (optD e.2.2) ++ 41 :: r'))) := by
          have : joinC [shC x] ++ (if [x].length = 1 then [44, 41] else [41]) ++ r = shC x ++ (44 :: 41 :: r) := by
            rw [if_pos (show [x].length = 1 from rfl)]; simp [joinC]
          rw [← this]; exact q1
        have q3 := (leaf_str hx h.1 q2).2
        exact absurd (List.cons.inj (List.cons.inj q3).2).1 (by decide)
      | cons y ys =>
        have hy := hl y (List.mem_cons_of_mem _ List.mem_cons_self)
        have nl : ¬ (x :: y :: ys).length = 1 := by simp
        have q2 : shC x ++ (44 :: 32 :: (joinC ((y :: ys).map shC) ++ 41 :: r)) = 39 :: (e.1 ++ 39 :: 44 :: 32 :: (shC (optD e.2.1) ++ 44 :: 32 :: (shC (optD e.2.2) ++ 41 :: r'))) := by
          have : joinC ((x :: y :: ys).map shC) ++ (if (x :: y :: ys).length = 1 then [44, 41] else [41]) ++ r = shC x ++ (44 :: 32 :: (joinC ((y :: ys).map shC) ++ 41 :: r)) := by
            rw [if_neg nl]
            show (shC x ++ 44 :: 32 :: joinC ((y :: ys).map shC)) ++ [41] ++ r = _
            simp
          rw [← this]; exact q1
        obtain ⟨e1, q3⟩ := leaf_str hx h.1 q2
        have q4 := (List.cons.inj (List.cons.inj q3).2).2
        cases ys with
        | nil =>
          have q5 : shC y ++ 41 :: r = shC (optD e.2.1) ++ 44 :: 32 :: (shC (optD e.2.2) ++ 41 :: r') := q4
          exact absurd (leaf_opt hy h.2.1 (by decide) (by decide) q5).2.1 (by decide)
        | cons z zs =>
          have hz := hl z (List.mem_cons_of_mem _ (List.mem_cons_of_mem _ List.mem_cons_self))
          have q5 : shC y ++ 44 :: (32 :: (joinC ((z :: zs).map shC) ++ 41 :: r)) = shC (optD e.2.1) ++ 44 :: 32 :: (shC (optD e.2.2) ++ 41 :: r') := by
            rw [← q4]
            show _ = (shC y ++ 44 :: 32 :: joinC ((z :: zs).map shC)) ++ 41 :: r
            simp
          obtain ⟨e2, _, q6⟩ := leaf_opt hy h.2.1 (by decide) (by decide) q5
          have q7 := (List.cons.inj q6).2
          cases zs with
          | nil =>
            have q8 : shC z ++ 41 :: r = shC (optD e.2.2) ++ 41 :: r' := q7
            obtain ⟨e3, _, q9⟩ := leaf_opt hz h.2.2 (by decide) (by decide) q8
            exact ⟨by rw [entD_eq, e1, e2, e3], q9⟩
          | cons w ws =>
            have q8 : shC z ++ 44 :: (32 :: (joinC ((w :: ws).map shC) ++ 41 :: r)) = shC (optD e.2.2) ++ 41 :: r' := by
              rw [← q7]
              show _ = (shC z ++ 44 :: 32 :: joinC ((w :: ws).map shC)) ++ 41 :: r
              simp
            exact absurd (leaf_opt hz h.2.2 (by decide) (by decide) q8).2.1 (by decide)
  | none => exact absurd (show (40 = 78) from k) (by decide)
  | bool b => exact absurd (show (40 = 84 ∨ 40 = 70) from k) (by decide)
  | int i => exact absurd (show (dgB 40 = true ∨ 40 = 45) from k) (by decide)
  | str z => exact absurd (show (40 = 39) from k) (by decide)
  | list ds => exact absurd (show (40 = 91) from k) (by decide)
  | dict ds => exact absurd (show (40 = 123) from k) (by decide)
theorem first_not {d : PyData} (h : Leaf d) {r r' : List Nat} (e : shC d ++ r = 93 :: r') : False := by
  have k := first_is h e
  cases d with
  | none => exact absurd (show (93 = 78) from k) (by decide)
  | bool b => exact absurd (show (93 = 84 ∨ 93 = 70) from k) (by decide)
  | int i => exact absurd (show (dgB 93 = true ∨ 93 = 45) from k) (by decide)
  | str z => exact absurd (show (93 = 39) from k) (by decide)
  | list ds => exact absurd (show (93 = 91) from k) (by decide)
  | tuple ds => exact absurd (show (93 = 40) from k) (by decide)
  | dict ds => exact absurd (show (93 = 123) from k) (by decide)
theorem join_inj : ∀ {es : List Ent} {ds : List PyData} {r r' : List Nat}, (∀ e ∈ es, SmallE e) → (∀ d ∈ ds, Ent2 d) → joinC (ds.map shC) ++ 93 :: r = joinC ((es.map entD).map shC) ++ 93 :: r' → ds = es.map entD
  | [], [], _, _, _, _, _ => rfl
  | [], d :: ds, r, r', _, hd, q => by
    exfalso
    have hd0 := (hd d List.mem_cons_self).1
    rw [List.map_cons, join_flat, List.append_assoc] at q
    exact first_not hd0 (show shC d ++ _ = 93 :: r' from q)
  | e :: es, [], r, r', he, _, q => by
    exfalso
    have h := he e List.mem_cons_self
    rw [List.map_cons, List.map_cons, join_flat, List.append_assoc, shC_ent h] at q
    have := (List.cons.inj (show 93 :: r = 40 :: _ from q)).1
    omega
  | e :: es, d :: ds, r, r', he, hd, q => by
    have h := he e List.mem_cons_self
    have hd0 := hd d List.mem_cons_self
    rw [List.map_cons, List.map_cons, List.map_cons, join_flat, join_flat, List.append_assoc, List.append_assoc] at q
    obtain ⟨e1, q1⟩ := ent_inj hd0 h q
    cases es with
    | nil =>
      cases ds with
      | nil => rw [e1]; rfl
      | cons d2 ds =>
        exfalso
        have : (44 : Nat) = 93 := (List.cons.inj (show 44 :: _ = 93 :: r' from q1)).1
        omega
    | cons e2 es =>
      cases ds with
      | nil =>
        exfalso
        have : (93 : Nat) = 44 := (List.cons.inj (show 93 :: r = 44 :: _ from q1)).1
        omega
      | cons d2 ds =>
        have q2 : joinC ((d2 :: ds).map shC) ++ 93 :: r = joinC (((e2 :: es).map entD).map shC) ++ 93 :: r' := by
          rw [List.map_cons, join_flat, List.map_cons, List.map_cons, join_flat]
          have q3 : 44 :: 32 :: (shC d2 ++ ((ds.map shC).map fun t => 44 :: 32 :: t).flatten ++ 93 :: r) = 44 :: 32 :: (shC (entD e2) ++ (((es.map entD).map shC).map fun t => 44 :: 32 :: t).flatten ++ 93 :: r') := by
            simpa using q1
          exact (List.cons.inj (List.cons.inj q3).2).2
        have := join_inj (fun x hx => he x (List.mem_cons_of_mem _ hx)) (fun x hx => hd x (List.mem_cons_of_mem _ hx)) q2
        rw [e1, this]; rfl
theorem tree_inj {d : PyData} (hd : Top2 d) {es : List Ent} (he : ∀ e ∈ es, SmallE e) (q : d.shown = (PyData.list (es.map entD)).shown) : d = .list (es.map entD) := by
  have q1 : shC d = shC (.list (es.map entD)) := congrArg cp q
  rw [shC_list] at q1
  have k := first_is hd.1 (r := []) (show shC d ++ [] = 91 :: _ by rw [List.append_nil]; exact q1)
  cases d with
  | list ds =>
    rw [shC_list] at q1
    have := join_inj (r := []) (r' := []) he (hd.2 ds rfl) (List.cons.inj q1).2
    rw [this]
  | none => exact absurd (show (91 = 78) from k) (by decide)
  | bool b => exact absurd (show (91 = 84 ∨ 91 = 70) from k) (by decide)
  | int i => exact absurd (show (dgB 91 = true ∨ 91 = 45) from k) (by decide)
  | str z => exact absurd (show (91 = 39) from k) (by decide)
  | tuple ds => exact absurd (show (91 = 40) from k) (by decide)
  | dict ds => exact absurd (show (91 = 123) from k) (by decide)
end Mr

namespace Mr
open PySem L2
/-! things that are handed in where trees are asked for -/
def NiceV (x : V) : Prop := match x with
  | .int i => NiceI i
  | .str z => ∃ l, z = tx l ∧ NiceS l
  | _ => True
theorem rep_let : Let (repL [97] 201) := by
  intro c hc
  have : c ∈ lets := by revert c; decide +kernel
  first | exact this | exact mem_lets.mp this
theorem Odd.nice {H : Hp} {x : V} (h : Odd H x) : NiceV x := by
  cases h with
  | non => trivial
  | bl b => trivial
  | int i h =>
    rcases h with rfl | rfl | rfl
    · exact .inr (.inr ⟨0, by decide, rfl⟩)
    · exact .inl rfl
    · exact .inr (.inl rfl)
  | str l h => exact ⟨l, rfl, .inr h⟩
  | long => exact ⟨_, rfl, .inl rep_let⟩
  | la p e => trivial
  | ta p e => trivial
  | da p e => trivial
  | t01 p e => trivial
  | l0 p e => trivial
theorem rd_leaf {H : Hp} {x : V} {d : PyData} (r : RdW H x d) (h : NiceV x) : Leaf d := by
  cases r with
  | int i => exact h
  | str z => exact h
  | _ => trivial
theorem rdws_leaf {H : Hp} : ∀ {xs : List V} {ds : List PyData}, RdWs H xs ds → (∀ x ∈ xs, NiceV x) → ∀ d ∈ ds, Leaf d
  | _, _, .nil, _, d, hd => by cases hd
  | _, _, .cons a b, h, d, hd => by
    rcases List.mem_cons.mp hd with rfl | hd
    · exact rd_leaf a (h _ List.mem_cons_self)
    · exact rdws_leaf b (fun x hx => h x (List.mem_cons_of_mem _ hx)) d hd
theorem rdws_len {H : Hp} : ∀ {xs : List V} {ds : List PyData}, RdWs H xs ds → ds.length = xs.length
  | _, _, .nil => rfl
  | _, _, .cons _ b => by rw [List.length_cons, List.length_cons, rdws_len b]
theorem rdws_at {H : Hp} : ∀ {xs : List V} {ds : List PyData}, RdWs H xs ds → ∀ {i : Nat} {x : V}, xs[i]? = some x → ∃ d, ds[i]? = some d ∧ RdW H x d
  | _, _, .nil, i, x, h => by simp at h
  | _, _, .cons a b, 0, x, h => by
    have e : _ = x := Option.some.inj h
    subst e
    exact ⟨_, rfl, a⟩
  | _, _, .cons a b, i + 1, x, h => rdws_at b (show _[i]? = some x from h)
mutual
theorem rdw_one {H : Hp} : ∀ {x : V} {d d' : PyData}, RdW H x d → RdW H x d' → d = d'
  | _, _, _, .non, .non => rfl
  | _, _, _, .bl b, .bl _ => rfl
  | _, _, _, .int i, .int _ => rfl
  | _, _, _, .str z, .str _ => rfl
  | _, _, _, .lst h q, .lst h' q' => by rw [h] at h'; cases h'; rw [rdws_one q q']
  | _, _, _, .lst h q, .tup h' q' => by rw [h] at h'; cases h'
  | _, _, _, .lst h q, .dic h' => by rw [h] at h'; cases h'
  | _, _, _, .tup h q, .tup h' q' => by rw [h] at h'; cases h'; rw [rdws_one q q']
  | _, _, _, .tup h q, .lst h' q' => by rw [h] at h'; cases h'
  | _, _, _, .tup h q, .dic h' => by rw [h] at h'; cases h'
  | _, _, _, .dic h, .dic h' => by rw [h] at h'; cases h'; rfl
  | _, _, _, .dic h, .lst h' q' => by rw [h] at h'; cases h'
  | _, _, _, .dic h, .tup h' q' => by rw [h] at h'; cases h'
theorem rdws_one {H : Hp} : ∀ {xs : List V} {ds ds' : List PyData}, RdWs H xs ds → RdWs H xs ds' → ds = ds'
  | _, _, _, .nil, .nil => rfl
  | _, _, _, .cons a b, .cons a' b' => by rw [rdw_one a a', rdws_one b b']
end
/-- what stands in a list of entries -/
inductive En (b : Addr) (H : Hp) : V → Prop
  | lf (x : V) (h : Elt H x) (n : NiceV x) : En b H x
  | tup (p : Addr) (xs : List V) (hp : H p = some (.tup xs)) (hl : xs.length ≤ 5) (he : ∀ x ∈ xs, Elt H x ∧ NiceV x) : En b H (.ref p)
  | lst (p : Addr) (xs : List V) (hp : H p = some (.lst xs)) (hb : p ≠ b) (hl : xs.length ≤ 3) (he : ∀ x ∈ xs, Elt H x ∧ NiceV x) : En b H (.ref p)
inductive Tg (b : Addr) (H : Hp) : V → Prop
  | en (x : V) (h : En b H x) : Tg b H x
  | lst (p : Addr) (xs : List V) (hp : H p = some (.lst xs)) (hb : p ≠ b) (hl : xs.length ≤ 60) (he : ∀ x ∈ xs, En b H x) : Tg b H (.ref p)
  | tup (p : Addr) (xs : List V) (hp : H p = some (.tup xs)) (hl : xs.length ≤ 60) (he : ∀ x ∈ xs, En b H x) : Tg b H (.ref p)
theorem En.same {b : Addr} {H H' : Hp} {x : V} (h : En b H x) (s : Same H H') : En b H' x := by
  cases h with
  | lf x h n => exact .lf x (h.same s) n
  | tup p xs hp hl he => exact .tup p xs (s _ _ hp) hl fun x hx => ⟨(he x hx).1.same s, (he x hx).2⟩
  | lst p xs hp hb hl he => exact .lst p xs (s _ _ hp) hb hl fun x hx => ⟨(he x hx).1.same s, (he x hx).2⟩
theorem En.but {b : Addr} {n : Int} {H H' : Hp} {x : V} (h : En b H x) (hb : H b = some (.lst [.int n])) (k : But b H H') : En b H' x := by
  cases h with
  | lf x h n => exact .lf x (h.but hb k) n
  | tup p xs hp hl he => exact .tup p xs (k _ _ hp (ne_of hp hb (by intro z; cases z))) hl fun x hx => ⟨(he x hx).1.but hb k, (he x hx).2⟩
  | lst p xs hp hn hl he => exact .lst p xs (k _ _ hp hn) hn hl fun x hx => ⟨(he x hx).1.but hb k, (he x hx).2⟩
theorem Tg.same {b : Addr} {H H' : Hp} {x : V} (h : Tg b H x) (s : Same H H') : Tg b H' x := by
  cases h with
  | en x h => exact .en x (h.same s)
  | lst p xs hp hb hl he => exact .lst p xs (s _ _ hp) hb hl fun x hx => (he x hx).same s
  | tup p xs hp hl he => exact .tup p xs (s _ _ hp) hl fun x hx => (he x hx).same s
theorem Tg.but {b : Addr} {n : Int} {H H' : Hp} {x : V} (h : Tg b H x) (hb : H b = some (.lst [.int n])) (k : But b H H') : Tg b H' x := by
  cases h with
  | en x h => exact .en x (h.but hb k)
  | lst p xs hp hn hl he => exact .lst p xs (k _ _ hp hn) hn hl fun x hx => (he x hx).but hb k
  | tup p xs hp hl he => exact .tup p xs (k _ _ hp (ne_of hp hb (by intro z; cases z))) hl fun x hx => (he x hx).but hb k
/-- data of the leaves: it may be shown, and is as wanted -/
theorem Elt.rd3 {H : Hp} {x : V} (h : Elt H x) (n : NiceV x) : ∃ d, RdW H x d ∧ Sh2 d 1 400 ∧ Ent2 d ∧ Top2 d := by
  have plain : ∀ {d : PyData}, Leaf d → (∀ ds, d ≠ .tuple ds) → (∀ ds, d ≠ .list ds) → Ent2 d ∧ Top2 d := fun h1 h2 h3 => ⟨⟨h1, fun ds e => absurd e (h2 ds)⟩, ⟨h1, fun ds e => absurd e (h3 ds)⟩⟩
  have la : Leaf (.str (tx [97])) := ⟨[97], rfl, .inl (by intro c hc; rw [List.mem_singleton.mp hc]; first | decide | exact mem_lets.mpr (by omega))⟩
  have li : ∀ {k : Nat}, k < 40 → Leaf (.int (k : Int)) := fun hk => .inr (.inr ⟨_, hk, rfl⟩)
  obtain ⟨d, r, s⟩ := h.rd
  refine ⟨d, r, s, ?_⟩
  have lf := rd_leaf r n
  cases h with
  | bl b => cases r; exact plain lf (fun _ z => by cases z) (fun _ z => by cases z)
  | int i h => cases r; exact plain lf (fun _ z => by cases z) (fun _ z => by cases z)
  | str z h hc => cases r; exact plain lf (fun _ z => by cases z) (fun _ z => by cases z)
  | odd x h =>
    cases h with
    | non => cases r; exact plain lf (fun _ z => by cases z) (fun _ z => by cases z)
    | bl b => cases r; exact plain lf (fun _ z => by cases z) (fun _ z => by cases z)
    | int i h => cases r; exact plain lf (fun _ z => by cases z) (fun _ z => by cases z)
    | str l h => cases r; exact plain lf (fun _ z => by cases z) (fun _ z => by cases z)
    | long => cases r; exact plain lf (fun _ z => by cases z) (fun _ z => by cases z)
    | la p e =>
      cases r with
      | lst e2 q =>
        rw [e] at e2
        cases e2
        refine ⟨⟨lf, fun ds z => by cases z⟩, ⟨lf, fun ds z => ?_⟩⟩
        cases z
        intro y hy
        have := rdws_leaf q (fun v hv => by rw [List.mem_singleton.mp hv]; exact la) y hy
        cases q with
        | cons a b =>
          cases b
          cases a
          rw [List.mem_singleton.mp hy]
          exact (plain la (fun _ z => by cases z) (fun _ z => by cases z)).1
      | tup e2 q => rw [e] at e2; cases e2
      | dic e2 => rw [e] at e2; cases e2
    | ta p e =>
      cases r with
      | tup e2 q =>
        rw [e] at e2
        cases e2
        refine ⟨⟨lf, fun ds z => ?_⟩, ⟨lf, fun ds z => by cases z⟩⟩
        cases z
        exact rdws_leaf q (fun v hv => by rw [List.mem_singleton.mp hv]; exact la)
      | lst e2 q => rw [e] at e2; cases e2
      | dic e2 => rw [e] at e2; cases e2
    | da p e =>
      cases r with
      | dic e2 => exact plain lf (fun _ z => by cases z) (fun _ z => by cases z)
      | lst e2 q => rw [e] at e2; cases e2
      | tup e2 q => rw [e] at e2; cases e2
    | t01 p e =>
      cases r with
      | tup e2 q =>
        rw [e] at e2
        cases e2
        refine ⟨⟨lf, fun ds z => ?_⟩, ⟨lf, fun ds z => by cases z⟩⟩
        cases z
        refine rdws_leaf q fun v hv => ?_
        rcases List.mem_cons.mp hv with rfl | hv
        · exact li (k := 0) (by decide)
        · rw [List.mem_singleton.mp hv]; exact li (k := 1) (by decide)
      | lst e2 q => rw [e] at e2; cases e2
      | dic e2 => rw [e] at e2; cases e2
    | l0 p e =>
      cases r with
      | lst e2 q =>
        rw [e] at e2
        cases e2
        cases q
        refine ⟨⟨lf, fun ds z => by cases z⟩, ⟨lf, fun ds z => ?_⟩⟩
        cases z
        intro y hy
        cases hy
      | tup e2 q => rw [e] at e2; cases e2
      | dic e2 => rw [e] at e2; cases e2
theorem sh_more {ds : List PyData} {n m w v : Nat} (h : Sh2s ds n w) (h1 : n ≤ m) (h2 : w ≤ v) : Sh2s ds m v := ⟨h.1, Nat.le_trans h.2.1 h1, h.2.2.1, Nat.le_trans h.2.2.2 h2⟩
theorem En.rd {b : Addr} {H : Hp} {x : V} (h : En b H x) : ∃ d, RdW H x d ∧ Sh2 d 2 2100 ∧ Ent2 d ∧ ((∀ ds, d ≠ .list ds) ∨ Top2 d) := by
  have lv : ∀ {xs : List V} {ds : List PyData}, RdWs H xs ds → (∀ x ∈ xs, Elt H x ∧ NiceV x) → ∀ d ∈ ds, Leaf d := fun r he => rdws_leaf r fun x hx => (he x hx).2
  cases h with
  | lf x h n =>
    obtain ⟨d, r, s, e1, e2⟩ := h.rd3 n
    exact ⟨d, r, s.mono (by decide) (by decide), e1, .inr e2⟩
  | tup p xs hp hl he =>
    obtain ⟨ds, rs, ss⟩ := elts_rd fun x hx => (he x hx).1
    refine ⟨_, .tup hp rs, (sh_more ss (Nat.le_refl 1) (by omega : 401 * xs.length ≤ 2100)).tup, ⟨trivial, fun ds' z => ?_⟩, .inl fun ds' z => by cases z⟩
    cases z
    exact lv rs he
  | lst p xs hp hb hl he =>
    obtain ⟨ds, rs, ss⟩ := elts_rd fun x hx => (he x hx).1
    refine ⟨_, .lst hp rs, (sh_more ss (Nat.le_refl 1) (by omega : 401 * xs.length ≤ 2100)).lst, ⟨trivial, fun ds' z => by cases z⟩, .inr ⟨trivial, fun ds' z => ?_⟩⟩
    cases z
    intro y hy
    obtain ⟨i, hi⟩ := List.mem_iff_getElem?.mp hy
    have hl2 := rdws_len rs
    have hil : i < xs.length := by rw [← hl2]; exact (List.getElem?_eq_some_iff.mp hi).1
    obtain ⟨d, hd, rd⟩ := rdws_at rs (List.getElem?_eq_getElem hil)
    rw [hi] at hd
    cases hd
    obtain ⟨e1, e2⟩ := he _ (List.getElem_mem hil)
    obtain ⟨d', r', _, en, _⟩ := e1.rd3 e2
    rw [rdw_one rd r']
    exact en
theorem ens_rd {b : Addr} {H : Hp} : ∀ {xs : List V}, (∀ x ∈ xs, En b H x) → ∃ ds, RdWs H xs ds ∧ Sh2s ds 2 (2101 * xs.length) ∧ ∀ d ∈ ds, Ent2 d
  | [], _ => ⟨[], .nil, Sh2s.nil _ _, fun d hd => by cases hd⟩
  | x :: xs, h => by
    obtain ⟨d, r, s, e, _⟩ := (h x List.mem_cons_self).rd
    obtain ⟨ds, rs, ss, es⟩ := ens_rd fun y hy => h y (List.mem_cons_of_mem _ hy)
    refine ⟨d :: ds, .cons r rs, ?_, fun y hy => ?_⟩
    · have := Sh2s.cons s ss
      have e : 2100 + 1 + 2101 * xs.length = 2101 * (x :: xs).length := by rw [List.length_cons]; omega
      rw [e] at this
      exact this
    · rcases List.mem_cons.mp hy with rfl | hy
      · exact e
      · exact es y hy
theorem Tg.rd {b : Addr} {H : Hp} {x : V} (h : Tg b H x) : ∃ d, RdW H x d ∧ Top2 d ∧ d.showable = true ∧ d.depth ≤ 40 ∧ d.shown.length ≤ sizeLine := by
  have fin : ∀ {d : PyData} {n w : Nat}, Sh2 d n w → n ≤ 40 → w ≤ 300000 → d.showable = true ∧ d.depth ≤ 40 ∧ d.shown.length ≤ sizeLine := fun s h1 h2 => ⟨s.1, Nat.le_trans s.2.1 h1, s.size h2⟩
  cases h with
  | en x h =>
    obtain ⟨d, r, s, e, t⟩ := h.rd
    refine ⟨d, r, ?_, fin s (by decide) (by decide)⟩
    rcases t with t | t
    · exact ⟨e.1, fun ds z => absurd z (t ds)⟩
    · exact t
  | lst p xs hp hb hl he =>
    obtain ⟨ds, rs, ss, es⟩ := ens_rd he
    refine ⟨_, .lst hp rs, ⟨trivial, fun ds' z => ?_⟩, fin ss.lst (by decide) (by omega)⟩
    cases z
    exact es
  | tup p xs hp hl he =>
    obtain ⟨ds, rs, ss, es⟩ := ens_rd he
    exact ⟨_, .tup hp rs, ⟨trivial, fun ds' z => by cases z⟩, fin ss.tup (by decide) (by omega)⟩
section
variable {K : PySem.W.Frag}
theorem Elt.kind2 {H : Hp} {x : V} (h : Elt H x) (n : NiceV x) : (∃ t, TyOf K H x t ∧ (PySem.W.kitOne K t (.type "list") = some false ∧ (∀ p xs, x = .ref p → H p ≠ some (.lst xs)) ∨ ∃ p xs, x = .ref p ∧ H p = some (.lst xs) ∧ xs.length ≤ 1 ∧ ∀ y ∈ xs, Elt H y ∧ NiceV y) ∧
    (PySem.W.kitOne K t (.type "tuple") = some false ∧ (∀ p xs, x = .ref p → H p ≠ some (.tup xs)) ∨ ∃ p xs, x = .ref p ∧ H p = some (.tup xs) ∧ xs.length ≤ 5 ∧ ∀ y ∈ xs, Elt H y ∧ NiceV y)) := by
  have sc : ∀ {x : V} {t : Value}, (∀ p, x ≠ .ref p) → TyOf K H x t → PySem.W.kitOne K t (.type "list") = some false → PySem.W.kitOne K t (.type "tuple") = some false → (∃ t, TyOf K H x t ∧ (PySem.W.kitOne K t (.type "list") = some false ∧ (∀ p xs, x = .ref p → H p ≠ some (.lst xs)) ∨ ∃ p xs, x = .ref p ∧ H p = some (.lst xs) ∧ xs.length ≤ 1 ∧ ∀ y ∈ xs, Elt H y ∧ NiceV y) ∧
      (PySem.W.kitOne K t (.type "tuple") = some false ∧ (∀ p xs, x = .ref p → H p ≠ some (.tup xs)) ∨ ∃ p xs, x = .ref p ∧ H p = some (.tup xs) ∧ xs.length ≤ 5 ∧ ∀ y ∈ xs, Elt H y ∧ NiceV y)) :=
    fun hx ty k1 k2 => ⟨_, ty, .inl ⟨k1, fun p _ e => absurd e (hx p)⟩, .inl ⟨k2, fun p _ e => absurd e (hx p)⟩⟩
  have ea : Elt H (.str (tx [97])) ∧ NiceV (.str (tx [97])) := ⟨.str _ (by decide) (by decide), [97], rfl, .inl (by intro c hc; rw [List.mem_singleton.mp hc]; first | decide | exact mem_lets.mpr (by omega))⟩
  have ei : ∀ {k : Nat}, k < 40 → Elt H (.int (k : Int)) ∧ NiceV (.int (k : Int)) := fun hk => ⟨.nat (by omega), .inr (.inr ⟨_, hk, rfl⟩)⟩
  cases h with
  | bl b => exact sc (fun _ z => by cases z) (.bl b) rfl rfl
  | int i h => exact sc (fun _ z => by cases z) (.int i) rfl rfl
  | str z h hc => exact sc (fun _ z => by cases z) (.str z) rfl rfl
  | odd x h =>
    cases h with
    | non => exact sc (fun _ z => by cases z) .non rfl rfl
    | bl b => exact sc (fun _ z => by cases z) (.bl b) rfl rfl
    | int i h => exact sc (fun _ z => by cases z) (.int i) rfl rfl
    | str l h => exact sc (fun _ z => by cases z) (.str _) rfl rfl
    | long => exact sc (fun _ z => by cases z) (.str _) rfl rfl
    | la p e => exact ⟨_, .lst e, .inr ⟨p, _, rfl, e, by show 1 ≤ 1; decide, fun y hy => by rw [List.mem_singleton.mp hy]; exact ea⟩, .inl ⟨rfl, fun q xs z => by cases z; rw [e]; intro z; cases z⟩⟩
    | ta p e => exact ⟨_, .tup e, .inl ⟨rfl, fun q xs z => by cases z; rw [e]; intro z; cases z⟩, .inr ⟨p, _, rfl, e, by show 1 ≤ 5; decide, fun y hy => by rw [List.mem_singleton.mp hy]; exact ea⟩⟩
    | da p e => exact ⟨_, .dK e, .inl ⟨rfl, fun q xs z => by cases z; rw [e]; intro z; cases z⟩, .inl ⟨rfl, fun q xs z => by cases z; rw [e]; intro z; cases z⟩⟩
    | t01 p e =>
      refine ⟨_, .tup e, .inl ⟨rfl, fun q xs z => by cases z; rw [e]; intro z; cases z⟩, .inr ⟨p, _, rfl, e, by show 2 ≤ 5; decide, fun y hy => ?_⟩⟩
      rcases List.mem_cons.mp hy with rfl | hy
      · exact ei (k := 0) (by decide)
      · rw [List.mem_singleton.mp hy]; exact ei (k := 1) (by decide)
    | l0 p e => exact ⟨_, .lst e, .inr ⟨p, _, rfl, e, by show 0 ≤ 1; decide, fun y hy => by cases hy⟩, .inl ⟨rfl, fun q xs z => by cases z; rw [e]; intro z; cases z⟩⟩
theorem En.kindT {b : Addr} {H : Hp} {x : V} (h : En b H x) : (∃ (p : Addr) (xs : List V), x = .ref p ∧ H p = some (.tup xs) ∧ xs.length ≤ 5 ∧ ∀ y ∈ xs, Elt H y ∧ NiceV y) ∨ ((∃ t, TyOf K H x t ∧ PySem.W.kitOne K t (.type "tuple") = some false) ∧ ∀ p xs, x = .ref p → H p ≠ some (.tup xs)) := by
  cases h with
  | lf x h n =>
    obtain ⟨t, ty, _, k | k⟩ := h.kind2 (K := K) n
    · exact .inr ⟨⟨t, ty, k.1⟩, k.2⟩
    · exact .inl k
  | tup p xs hp hl he => exact .inl ⟨p, xs, rfl, hp, hl, he⟩
  | lst p xs hp hb hl he => exact .inr ⟨⟨_, .lst hp, rfl⟩, fun q ys z => by cases z; rw [hp]; intro z; cases z⟩
theorem Tg.kind {b : Addr} {H : Hp} {x : V} (h : Tg b H x) : (∃ (p : Addr) (xs : List V), x = .ref p ∧ H p = some (.lst xs) ∧ xs.length ≤ 60 ∧ ∀ y ∈ xs, En b H y) ∨ ((∃ t, TyOf K H x t ∧ PySem.W.kitOne K t (.type "list") = some false) ∧ ∀ p xs, x = .ref p → H p ≠ some (.lst xs)) := by
  cases h with
  | en x h =>
    cases h with
    | lf x h n =>
      obtain ⟨t, ty, k | ⟨p, xs, e, hp, hl, he⟩, _⟩ := h.kind2 (K := K) n
      · exact .inr ⟨⟨t, ty, k.1⟩, k.2⟩
      · exact .inl ⟨p, xs, e, hp, by omega, fun y hy => .lf y (he y hy).1 (he y hy).2⟩
    | tup p xs hp hl he => exact .inr ⟨⟨_, .tup hp, rfl⟩, fun q ys z => by cases z; rw [hp]; intro z; cases z⟩
    | lst p xs hp hb hl he => exact .inl ⟨p, xs, rfl, hp, by omega, fun y hy => .lf y (he y hy).1 (he y hy).2⟩
  | lst p xs hp hb hl he => exact .inl ⟨p, xs, rfl, hp, hl, he⟩
  | tup p xs hp hl he => exact .inr ⟨⟨_, .tup hp, rfl⟩, fun q ys z => by cases z; rw [hp]; intro z; cases z⟩
end
theorem En.grow {b q : Addr} {xs : List V} {o : HO} {H : Hp} {x : V} (h : En b H x) (hq : H q = some (.lst xs)) (hl : 4 ≤ xs.length) : En b (upd H q o) x := by
  cases h with
  | lf x h n => exact .lf x (h.grow hq (by omega)) n
  | tup p ys hp hl2 he =>
    have : p ≠ q := fun z => by rw [z, hq] at hp; cases hp
    exact .tup p ys (by rw [upd_ne this]; exact hp) hl2 fun x hx => ⟨(he x hx).1.grow hq (by omega), (he x hx).2⟩
  | lst p ys hp hb hl2 he =>
    have : p ≠ q := fun z => by rw [z, hq] at hp; cases hp; omega
    exact .lst p ys (by rw [upd_ne this]; exact hp) hb hl2 fun x hx => ⟨(he x hx).1.grow hq (by omega), (he x hx).2⟩
theorem Tg.grow {b q : Addr} {xs : List V} {o : HO} {H : Hp} {x : V} (h : Tg b H x) (hq : H q = some (.lst xs)) (hl : 4 ≤ xs.length) (hx : x ≠ .ref q) : Tg b (upd H q o) x := by
  cases h with
  | en x h => exact .en x (h.grow hq hl)
  | lst p ys hp hb hl2 he => exact .lst p ys (by rw [upd_ne (fun z => hx (by rw [z]))]; exact hp) hb hl2 fun x hx => (he x hx).grow hq hl
  | tup p ys hp hl2 he => exact .tup p ys (by rw [upd_ne (fun z => hx (by rw [z]))]; exact hp) hl2 fun x hx => (he x hx).grow hq hl
theorem optV_ok {H : Hp} {o : Option Nat} (h : ∀ i, o = some i → i < 40) : Elt H (optV o) ∧ NiceV (optV o) := by
  cases o with
  | none => exact ⟨.odd _ .non, trivial⟩
  | some i => have := h i rfl; exact ⟨.nat (by omega), .inr (.inr ⟨i, this, rfl⟩)⟩
theorem txt_ok {H : Hp} {t : List Nat} (h : Let t) (hl : t.length ≤ 200) : Elt H (.str (tx t)) ∧ NiceV (.str (tx t)) := by
  have := sh_tx (l := t) (by omega) (fun c hc => by have := mem_lets.mp (let_mem h hc); omega)
  refine ⟨.str _ (by simpa using (show t.length ≤ 300 by omega)) ?_, t, rfl, .inl h⟩
  have h2 := this.2.2.1
  simp only [PyData.leavesShort] at h2
  exact h2
/-- small entries -/
def SmE (e : Ent) : Prop := SmallE e ∧ e.1.length ≤ 100
theorem ent_en {b p : Addr} {H : Hp} {e : Ent} (h : SmE e) (hp : H p = some (entV e)) : En b H (.ref p) := by
  refine .tup p _ hp (by show 3 ≤ 5; decide) fun x hx => ?_
  simp only [List.mem_cons, List.not_mem_nil, or_false] at hx
  rcases hx with rfl | rfl | rfl
  · exact txt_ok h.1.1 (by have := h.2; omega)
  · exact optV_ok h.1.2.1
  · exact optV_ok h.1.2.2
theorem tree_small {l : List Nat} (hrow : rowL l = true) (hl : l.length ≤ 10) : (treeN l).length ≤ 10 ∧ ∀ e ∈ treeN l, SmE e := by
  have hml := mirs_len l l.length
  refine ⟨by unfold treeN; rw [List.length_map]; omega, fun e he => ?_⟩
  obtain ⟨t, ht, rfl⟩ := List.mem_map.mp he
  obtain ⟨r1, r2, r3, r4⟩ := mirs_row (Nat.le_refl _) hrow ht
  exact ⟨⟨(rowL_iff.mp r1).2, fun i hi => by have := idxO_lt hi; omega, fun i hi => by have := idxO_lt hi; omega⟩, by show t.length ≤ 100; omega⟩
theorem tree_en {b : Addr} {H : Hp} {xs : List V} {es : List Ent} (hT : TreeV H xs es) (he : ∀ e ∈ es, SmE e) : ∀ x ∈ xs, En b H x := by
  intro x hx
  obtain ⟨i, hi⟩ := List.mem_iff_getElem?.mp hx
  have hil : i < es.length := by rw [← hT.1]; exact (List.getElem?_eq_some_iff.mp hi).1
  obtain ⟨p, rfl, hp⟩ := hT.2 i x _ hi (List.getElem?_eq_getElem hil)
  exact ent_en (he _ (List.getElem_mem hil)) hp
theorem tree_rdw {H : Hp} {p : Addr} {xs : List V} {es : List Ent} (hp : H p = some (.lst xs)) (hT : TreeV H xs es) : RdW H (.ref p) (.list (es.map entD)) := by
  refine .lst hp ?_
  have opt : ∀ o : Option Nat, RdW H (optV o) (optD o) := fun o => by
    cases o with
    | none => exact .non
    | some i => exact .int _
  have all : ∀ (xs : List V) (es : List Ent), TreeV H xs es → RdWs H xs (es.map entD) := by
    intro xs
    induction xs with
    | nil =>
      intro es h
      cases es with
      | nil => exact .nil
      | cons _ _ => have := h.1; simp at this
    | cons x xs ih =>
      intro es h
      cases es with
      | nil => have := h.1; simp at this
      | cons e es =>
        obtain ⟨p, rfl, hp⟩ := h.2 0 x e rfl rfl
        rw [List.map_cons, entD_eq]
        exact .cons (.tup hp (.cons (.str _) (.cons (opt _) (.cons (opt _) .nil)))) (ih es ⟨by have := h.1; simp at this; exact this, fun j y e' h1 h2 => h.2 (j + 1) y e' (by simpa using h1) (by simpa using h2)⟩)
  exact all xs es hT
def spElderG (K : PySem.W.Frag) : Sp := fun vs H Q _ => ∃ (x : V) (o : Option Nat) (d : PyData), vs = [x, optV o] ∧ (Scal x ∨ NoInt K H x) ∧ RdW H x d ∧ ∀ r : Bool, (r = true ↔ d = optD o) → Q (.bl r) H
def spEntryG : Sp := fun vs H Q _ => ∃ (b : Addr) (x : V) (q : Addr) (d : PyData) (e : Ent), vs = [x, .ref q] ∧ En b H x ∧ RdW H x d ∧ H q = some (entV e) ∧ ∀ r : Bool, (r = true ↔ d = entD e) → Q (.bl r) H
def spIsTreeG : Sp := fun vs H Q _ => ∃ (b : Addr) (x : V) (l : List Nat) (d : PyData), vs = [x, .str (tx l)] ∧ rowL l = true ∧ Tg b H x ∧ RdW H x d ∧ ∀ (r : Bool) (H' : Hp), (r = true ↔ d = .list ((treeN l).map entD)) → Same H H' → Q (.bl r) H'
def spBent16 : Sp := fun vs H Q _ => ∃ (b pd : Addr) (n : Int) (xs : List V) (es : List Ent) (x : V), vs = [.ref b, .ref pd, x] ∧ H b = some (.lst [.int n]) ∧ 0 ≤ n ∧ b ≠ pd ∧ H pd = some (.lst xs) ∧ TreeV H xs es ∧ es.length ≤ 20 ∧ (∀ e ∈ es, SmE e) ∧ Odd H x ∧
  ∀ (y : V) (n' : Int) (H' : Hp), Tg b H' y → (∀ p, y = .ref p → H p = none) → 0 ≤ n' → H' b = some (.lst [.int n']) → But b H H' → Q y H'
/-- parts and wholes, by what is read -/
theorem rd_str {H : Hp} {x : V} {d : PyData} {t : List Nat} (r : RdW H x d) : x = .str (tx t) ↔ d = .str (tx t) := by
  constructor
  · rintro rfl
    cases r
    rfl
  · rintro rfl
    cases r
    rfl
theorem rd_int {H : Hp} {x : V} {d : PyData} {i : Int} (r : RdW H x d) : x = .int i ↔ d = .int i := by
  constructor
  · rintro rfl
    cases r
    rfl
  · rintro rfl
    cases r
    rfl
theorem rd_non {H : Hp} {x : V} {d : PyData} (r : RdW H x d) : x = .non ↔ d = .none := by
  constructor
  · rintro rfl
    cases r
    rfl
  · rintro rfl
    cases r
    rfl
theorem rd_tup {H : Hp} {x : V} {ds : List PyData} (r : RdW H x (.tuple ds)) : ∃ p xs, x = .ref p ∧ H p = some (.tup xs) ∧ RdWs H xs ds := by
  cases r with
  | tup h q => exact ⟨_, _, rfl, h, q⟩
theorem rd_lst {H : Hp} {x : V} {ds : List PyData} (r : RdW H x (.list ds)) : ∃ p xs, x = .ref p ∧ H p = some (.lst xs) ∧ RdWs H xs ds := by
  cases r with
  | lst h q => exact ⟨_, _, rfl, h, q⟩
theorem rd_ref_tup {H : Hp} {p : Addr} {xs : List V} {d : PyData} (h : H p = some (.tup xs)) (r : RdW H (.ref p) d) : ∃ ds, d = .tuple ds ∧ RdWs H xs ds := by
  cases r with
  | tup h' q => rw [h] at h'; cases h'; exact ⟨_, rfl, q⟩
  | lst h' q => rw [h] at h'; cases h'
  | dic h' => rw [h] at h'; cases h'
theorem rd_ref_lst {H : Hp} {p : Addr} {xs : List V} {d : PyData} (h : H p = some (.lst xs)) (r : RdW H (.ref p) d) : ∃ ds, d = .list ds ∧ RdWs H xs ds := by
  cases r with
  | lst h' q => rw [h] at h'; cases h'; exact ⟨_, rfl, q⟩
  | tup h' q => rw [h] at h'; cases h'
  | dic h' => rw [h] at h'; cases h'
end Mr

namespace Mr
open PySem L2
/-! boxes of the later laws: the number in a box may be below nought -/
def Abcz (l : List Nat) : Prop := ∀ c ∈ l, c = 97 ∨ c = 98 ∨ c = 99 ∨ c = 122
section
variable (K : PySem.W.Frag)
def spBoxI : Sp := fun vs H Q _ => ∃ (a : Addr) (ns : List Int) (k : Int), vs = [.ref a, .int k] ∧ SqL K H a (ns.map V.int) ∧ 0 ≤ k ∧ ∀ (b : Addr) (n : Int) (H' : Hp), H b = none → H' b = some (.lst [.int n]) → Same H H' → Q (.ref b) H'
end
def spTakeI : Sp := fun vs H Q _ => ∃ (b : Addr) (n m : Int), vs = [.ref b, .int m] ∧ H b = some (.lst [.int n]) ∧ 0 < m ∧ m < 1000000 ∧
  ∀ (d n' : Int) (H' : Hp), 0 ≤ d → d < m → H' b = some (.lst [.int n']) → But b H H' → Q (.int d) H'
def spRowI : Sp := fun vs H Q _ => ∃ (b : Addr) (n most : Int), vs = [.ref b, .int most] ∧ H b = some (.lst [.int n]) ∧ 0 ≤ most ∧ most ≤ 1000 ∧
  ∀ (m : List Nat) (n' : Int) (H' : Hp), Abcz m → (m.length : Int) ≤ most → H' b = some (.lst [.int n']) → But b H H' → Q (.str (tx m)) H'
/-- _law_mirror -/
def spMirI : Sp := fun vs H Q _ => ∃ l : List Nat, vs = [.str (tx l)] ∧ l.length ≤ sizeLine ∧ Q (.bl (!decide (l = []) && decide (l = l.reverse))) H
/-! the ends by place -/
def lstV (ls : List Nat) : HO := .lst (lensV ls)
abbrev LenV := ReV lstV
def endsAt (l : List Nat) : List (List Nat) := (List.range (l.length + 1)).map fun b => endsN (l.take b)
theorem endsAt_get {l : List Nat} {b : Nat} (h : b ≤ l.length) : (endsAt l)[b]? = some (endsN (l.take b)) := by
  unfold endsAt
  rw [List.getElem?_map, List.getElem?_range (by omega)]
  rfl
def spEBP : Sp := fun vs H Q _ => ∃ l : List Nat, vs = [.str (tx l)] ∧ rowL l = true ∧ ∀ (p : Addr) (xs : List V) (H' : Hp), H p = none → H' p = some (.lst xs) → LenV H' xs (endsAt l) → Same H H' → Q (.ref p) H'
theorem ReV.at {α : Type} {f : α → HO} {H : Hp} {xs : List V} {es : List α} (h : ReV f H xs es) {j : Nat} {e : α} (he : es[j]? = some e) : ∃ p : Addr, xs[j]? = some (.ref p) ∧ H p = some (f e) := by
  have hj : j < xs.length := by rw [h.1]; exact (List.getElem?_eq_some_iff.mp he).1
  obtain ⟨p, e1, e2⟩ := h.2 j xs[j] e (List.getElem?_eq_getElem hj) he
  exact ⟨p, by rw [List.getElem?_eq_getElem hj, e1], e2⟩
/-- longest_entry: of a row with its ends, and numbers -/
def spLE : Sp := fun vs H Q _ => ∃ (l : List Nat) (pl pn : Addr) (ms : List (List Nat)), vs = [.str (tx l), .ref pl, .ref pn] ∧ 1 ≤ l.length ∧ l.length ≤ 200 ∧ H pl = some (.lst (lensV (endsN l))) ∧ NumD H pn ms ∧
  ∀ (p : Addr) (H' : Hp), H p = none → H' p = some (entV (entT ms (topT l l.length))) → Same H H' → Q (.ref p) H'
theorem idxO_snoc {ms : List (List Nat)} {t x : List Nat} (h : x ≠ t) : idxO (ms ++ [t]) x = idxO ms x := by
  by_cases hx : x ∈ ms
  · exact idxO_app hx
  · rw [idxO_none hx, idxO_none (fun z => by rcases List.mem_append.mp z with z | z; exact hx z; exact h (List.mem_singleton.mp z))]
theorem inner_lt {t : List Nat} (h : t ≠ []) : inner t ≠ t := fun z => by
  have h1 := inner_len t
  rw [z] at h1
  have : 0 < t.length := List.length_pos_iff.mpr h
  omega
theorem less_lt {t : List Nat} (h : t ≠ []) (hp : t = t.reverse) : lessN t ≠ t := fun z => by
  have h0 : 0 < t.length := List.length_pos_iff.mpr h
  by_cases h1 : 1 < t.length
  · obtain ⟨k, hk, k1, k2⟩ := has_less hp h1
    have : (lessN t).length = k := by unfold lessN; rw [hk, List.length_take]; show min k _ = k; omega
    rw [z] at this
    omega
  · rw [no_less (by omega)] at z
    exact h z.symm
theorem ent_self {ms : List (List Nat)} {t : List Nat} (h : t ≠ []) (hp : t = t.reverse) : entT (ms ++ [t]) t = entT ms t := by
  unfold entT
  rw [idxO_snoc (inner_lt h), idxO_snoc (less_lt h hp)]
end Mr
namespace Mr
open PySem L2
/-- need_mirror -/
def spNM (K : PySem.W.Frag) (C : Addr) : Sp := fun vs H Q E => ∃ x : V, vs = [x] ∧
  ((∃ t : List Nat, x = .str (tx t) ∧ mirV x = true ∧ t.length ≤ 100000 ∧ ∀ H', Same H H' → Q .non H') ∨ (Thing K H x ∧ mirV x = false ∧ ∀ H', Same H H' → E (.ref C) none H'))
end Mr

namespace Mr
open PySem L2
def top (i : Nat) : Stmt := PySem.Challenge.pw_mirrorruns_k16_trees_looked_at.main.body.getD i (.Pass ⟨0, 0, 0, 0⟩)
abbrev sWhole : Stmt := top 4
abbrev s_is_same_number : Stmt := top 5
abbrev sIsRow : Stmt := top 9
abbrev sNeedRow : Stmt := top 10
abbrev s_reaches : Stmt := top 12
abbrev s_reach_around : Stmt := top 13
abbrev s_ends_ahead : Stmt := top 15
abbrev s_ends_by_place : Stmt := top 16
abbrev s_tree : Stmt := top 18
abbrev s_longest_entry : Stmt := top 19
abbrev s_is_tree : Stmt := top 20
abbrev s_is_entry : Stmt := top 21
abbrev s_is_elder : Stmt := top 22
abbrev sCell : Stmt := top 24
abbrev sMix : Stmt := top 25
abbrev sBox : Stmt := top 26
abbrev sTake : Stmt := top 27
abbrev sTruth : Stmt := top 28
abbrev sBehind : Stmt := top 29
abbrev sAlike : Stmt := top 30
abbrev sClosed : Stmt := top 31
abbrev sRow : Stmt := top 32
abbrev sOdd : Stmt := top 33
abbrev s_law_ends : Stmt := top 34
abbrev s_law_mirrors : Stmt := top 35
abbrev s_law_tree : Stmt := top 36
abbrev s_law_bent : Stmt := top 37
abbrev sLaw : Stmt := top 38
end Mr

namespace Mr
open PySem L2
section
variable {P : Program} {w : World} {K : PySem.W.Frag} {mg : Str → Option Value} {base : Heap}
theorem scCell : FnScope ["_law_script", "_law_k"] ["_law_script", "_law_k"] (defScope sCell) := ⟨rfl, rfl, rfl, by decide +kernel, rfl, by decide +kernel, by decide +kernel⟩
theorem ok_cell (a : At K mg "_law_cell" sCell ["_law_script", "_law_k"]) (zl : mg "len" = none) : Df P w K mg base 1 "_law_cell" ["_law_script", "_law_k"] (spCell K) := by
  refine a.df fun f fd F => ?_
  refine F.ok scCell (fun vs H Q E h => ?_) (fun cdv A outer s H vs Q E hr h => ?_)
  · obtain ⟨_, _, _, rfl, _⟩ := h
    rfl
  · obtain ⟨a, ns, k, rfl, hS, h0, q⟩ := h
    refine ⟨_, pss_cons (ps_if (pt_cmpR op_lt (pv 1) (pe_callB call_len_seq (by rfl) zl bt_len (pa_cons (pv 0) pa_nil)) (nomark _)) (pss_one (ps_ret (pe_ix ix_list (pv 0) (pv 1) (fun _ _ => rfl)))) pss_nil) (pss_one (ps_ret pe_int)), ?_⟩
    refine ⟨_, rfl, _, rfl, a, _, rfl, .inl hS, _, _, rfl, rfl, _, rfl, ?_⟩
    refine ite2 (fun h1 => ?_) (fun _ => ?_)
    · obtain ⟨z, hz⟩ := int_at (ns := ns) h0 (of_decide_eq_true h1)
      exact ⟨_, rfl, _, rfl, a, _, _, _, rfl, rfl, hS, hz, q z⟩
    · exact q 0
end
end Mr

namespace Mr
open PySem L2
section
variable {P : Program} {w : World} {K : PySem.W.Frag} {mg : Str → Option Value} {base : Heap}
theorem scMix : FnScope ["_law_cell_here", "_law_k", "_law_some", "_law_stir"] ["_law_cell_here", "_law_k"] (defScope sMix) := ⟨rfl, rfl, rfl, by decide +kernel, rfl, by decide +kernel, by decide +kernel⟩
def mixes : List Int := [48271, 69621, 16807, 39373, 30269, 40014, 40692, 50021, 61687, 71993, 83869, 95561, 30307]
theorem ok_mix (a : At K mg "_law_mix" sMix ["_law_cell_here", "_law_k"]) : Df P w K mg base 1 "_law_mix" ["_law_cell_here", "_law_k"] spMix := by
  refine a.df fun f fd F => ?_
  refine F.ok scMix (fun vs H Q E h => ?_) (fun cdv A outer s H vs Q E hr h => ?_)
  · obtain ⟨_, _, rfl, _⟩ := h
    rfl
  · obtain ⟨c, k, rfl, h0, h1, q⟩ := h
    refine ⟨_, @pss_cons _ _ _ _ _ (@ps_set _ _ 2 _ _ _ _ scMix.nd rfl (Or.inl rfl) (@pe_lst _ _ _ _ (@pa_int _ _ _ _ _ _ (@pa_int _ _ _ _ _ _ (@pa_int _ _ _ _ _ _ (@pa_int _ _ _ _ _ _ (@pa_int _ _ _ _ _ _ (@pa_int _ _ _ _ _ _ (@pa_int _ _ _ _ _ _ (@pa_int _ _ _ _ _ _ (@pa_int _ _ _ _ _ _ (@pa_int _ _ _ _ _ _ (@pa_int _ _ _ _ _ _ (@pa_int _ _ _ _ _ _ (@pa_int _ _ _ _ _ _ pa_nil)))))))))))))) rfl (Or.inl rfl))
      (pss_cons (ps_set (i := 3) scMix.nd rfl (Or.inl rfl) (pe_op op_add (pe_op op_add (pe_op op_mul (pe_op op_add (pe_op op_mod (pv 0) pe_int) pe_int) (pe_ix ix_list (pv 2) (pe_op op_mod (pv 1) pe_int) (fun _ _ => rfl))) (pe_op op_mul pe_int (pv 1))) (pe_op op_mul pe_int (pe_op op_fdiv (pv 1) pe_int))))
      (pss_cons (ps_set (i := 3) scMix.nd rfl (Or.inl rfl) (pe_op op_mod (pv 3) pe_int))
      (pss_one (ps_ret (pe_op op_fdiv (pe_op op_mod (pe_op op_add (pe_op op_mul (pv 3) (pv 3)) (pe_op op_mul pe_int (pv 1))) pe_int) pe_int))))), ?_⟩
    refine ⟨by show 13 ≤ sizeLine; decide, fun p hp => ?_⟩
    obtain ⟨z, hz⟩ := int_at (ns := mixes) (k := k % 13) (Int.emod_nonneg _ (by decide)) (by have := Int.emod_lt_of_pos k (show (0 : Int) < 13 by decide); show k % 13 < 13; omega)
    have hc0 := Int.emod_nonneg c (show (2147483647 : Int) ≠ 0 by decide)
    have hc1 := Int.emod_lt_of_pos c (show (0 : Int) < 2147483647 by decide)
    refine ⟨_, rfl, _, _, rfl, rfl, (by show (0 : Int) < 2147483647; decide), _, _, rfl, rfl, _, rfl, _, rfl, _, _, rfl, rfl, (by show (0 : Int) < 13; decide), p, _, _, _, rfl, rfl, SqL.of upd_same, hz, _, _, rfl, rfl, .inl ⟨by omega, by omega⟩, _, rfl, _, _, rfl, rfl, .inl ⟨by decide, by decide⟩, _, _, rfl, rfl,
      _, rfl, _, _, rfl, rfl, ⟨by decide, by decide⟩, _, _, rfl, rfl, .inl ⟨by decide, by decide⟩, _, _, rfl, rfl, ?_⟩
    generalize hstir : (c % 2147483647 + 12345) * z + 977 * k + 7919 * (k / 13) = stir
    have s0 := Int.emod_nonneg stir (show (1000000007 : Int) ≠ 0 by decide)
    have s1 := Int.emod_lt_of_pos stir (show (0 : Int) < 1000000007 by decide)
    refine ⟨_, rfl, _, _, rfl, rfl, (by show (0 : Int) < 1000000007; decide), _, rfl, _, rfl, _, _, rfl, rfl, .inl ⟨by omega, by omega⟩, _, rfl, _, _, rfl, rfl, .inl ⟨by decide, by decide⟩, _, _, rfl, rfl, _, _, rfl, rfl, (by show (0 : Int) < 1000000007; decide), _, _, rfl, rfl, ⟨by decide, by decide⟩, ?_⟩
    exact q _ _ (Int.ediv_nonneg (Int.emod_nonneg _ (by decide)) (by decide)) (Same.upd hp)
end
end Mr

namespace Mr
open PySem L2
section
variable {P : Program} {w : World} {K : PySem.W.Frag} {mg : Str → Option Value} {base : Heap}
theorem scBox : FnScope ["_law_script", "_law_k", "_law_cell_here", "_law_number", "_law_j"] ["_law_script", "_law_k"] (defScope sBox) := ⟨rfl, rfl, rfl, by decide +kernel, rfl, by decide +kernel, by decide +kernel⟩
theorem ok_box (a : At K mg "_law_box" sBox ["_law_script", "_law_k"]) (dC : Df P w K mg base 1 "_law_cell" ["_law_script", "_law_k"] (spCell K)) (dM : Df P w K mg base 1 "_law_mix" ["_law_cell_here", "_law_k"] spMix) (za : mg "abs" = none) (zr : mg "range" = none) :
    Df P w K mg base 2 "_law_box" ["_law_script", "_law_k"] (spBox K) := by
  refine a.df fun f fd F => ?_
  refine F.ok scBox (fun vs H Q E h => ?_) (fun cdv A outer s H vs Q E hr h => ?_)
  · obtain ⟨_, _, _, rfl, _⟩ := h
    rfl
  · obtain ⟨a, ns, k, rfl, hS, h0, q⟩ := h
    refine ⟨_, pss_cons (ps_set (i := 2) scBox.nd rfl (Or.inl rfl) (pe_df dC hr rfl (pa_cons (pv 0) (pa_cons (pv 1) pa_nil))))
      (pss_cons (ps_if (pt_cmpR op_eq (pe_op op_mod (pv 2) pe_int) pe_int (nomark _)) (pss_one (ps_ret (pe_lst (pa_cons (pe_op op_fdiv (pe_callB call_abs (by rfl) za bt_abs (pa_cons (pv 2) pa_nil)) pe_int) pa_nil)))) pss_nil)
      (pss_cons (ps_set (i := 3) scBox.nd rfl (Or.inl rfl) pe_int)
      (pss_cons (ps_for PassesOwn.never rfl (pi_range1 rfl zr (pa_cons pe_int pa_nil)) (pg_name (i := 4) scBox.nd rfl (Or.inl rfl))
        (pss_one (ps_set (i := 3) scBox.nd rfl (Or.inl rfl) (pe_op op_add (pe_op op_mul (pv 3) pe_int) (pe_df dM hr rfl (pa_cons (pv 2) (pa_cons (pv 4) pa_nil)))))))
      (pss_one (ps_ret (pe_lst (pa_cons (pv 3) pa_nil))))))), ?_⟩
    refine ⟨_, rfl, _, rfl, a, ns, k, rfl, hS, h0, fun c => ?_⟩
    refine ⟨_, rfl, _, _, rfl, rfl, (by show (0 : Int) < 2; decide), rfl, _, rfl, ?_⟩
    refine ite2 (fun _ => ?_) (fun _ => ?_)
    · refine ⟨_, rfl, _, rfl, _, _, rfl, rfl, ⟨by decide, by decide⟩, by show 1 ≤ sizeLine; decide, fun p hp => ?_⟩
      refine q p _ _ (Int.ediv_nonneg ?_ (by decide)) hp upd_same (Same.upd hp)
      split <;> omega
    · refine ⟨40, rfl, by decide, by decide, for_range (n := 40) (fun i σ H' => ∃ (n : Int) (j : Option V), 0 ≤ n ∧ σ = [some (.ref a), some (.int k), some (.int c), some (.int n), j] ∧ Same H H') ⟨0, none, Int.le_refl _, rfl, Same.refl _⟩ ?_ ?_⟩
      · rintro i σ H' hi ⟨n, j, hn, rfl, hs⟩
        refine ⟨_, rfl, _, _, rfl, rfl, .inr ⟨by decide, by decide⟩, _, rfl, _, rfl, c, 0 + (i : Int), rfl, by omega, by omega, fun m H'' hm hs' => ⟨_, _, rfl, rfl, ?_⟩⟩
        exact ⟨_, _, Int.add_nonneg (Int.mul_nonneg hn (by decide)) hm, rfl, hs.trans hs'⟩
      · rintro σ H' ⟨n, j, hn, rfl, hs⟩
        exact ⟨_, rfl, by show 1 ≤ sizeLine; decide, fun p hp => q p n _ hn (hs.free hp) upd_same (hs.trans (Same.upd hp))⟩
end
end Mr

namespace Mr
open PySem L2
section
variable {P : Program} {w : World} {K : PySem.W.Frag} {mg : Str → Option Value} {base : Heap}
theorem scTake : FnScope ["_law_box_here", "_law_many", "_law_left", "_law_digit"] ["_law_box_here", "_law_many"] (defScope sTake) := ⟨rfl, rfl, rfl, by decide +kernel, rfl, by decide +kernel, by decide +kernel⟩
theorem ok_take (a : At K mg "_law_take" sTake ["_law_box_here", "_law_many"]) (zd : mg "divmod" = none) : Df P w K mg base 1 "_law_take" ["_law_box_here", "_law_many"] spTake := by
  refine a.df fun f fd F => ?_
  refine F.ok scTake (fun vs H Q E h => ?_) (fun cdv A outer s H vs Q E hr h => ?_)
  · obtain ⟨_, _, _, rfl, _⟩ := h
    rfl
  · obtain ⟨b, n, m, rfl, hb, h0, h1, h2, q⟩ := h
    refine ⟨_, pss_cons (ps_asg (pe_callB call_divmod (by rfl) zd bt_divmod (pa_cons (pe_ix ix_list (pv 0) pe_int (fun _ _ => rfl)) (pa_cons (pv 1) pa_nil)))
        (pg_tup rfl (pgs_cons (pg_name (i := 2) scTake.nd rfl (Or.inl rfl)) (pgs_cons (pg_name (i := 3) scTake.nd rfl (Or.inl rfl)) pgs_nil))))
      (pss_cons (ps_asg (pv 2) (pg_sub (pv 0) pe_int set_list)) (pss_one (ps_ret (pv 3)))), ?_⟩
    refine ⟨_, rfl, b, _, _, _, rfl, rfl, SqL.of hb, atI_nat (j := 0) rfl, _, rfl, _, _, rfl, ⟨h1, by omega⟩, fun p hp => ?_⟩
    have nb : b ≠ p := ne_of_none hb hp
    refine ⟨p, _, rfl, SqT.of upd_same, rfl, _, _, rfl, _, _, rfl, rfl, ?_⟩
    refine ⟨_, rfl, _, rfl, b, _, _, 0, rfl, rfl, (by rw [upd_ne nb]; exact hb), rfl, ?_⟩
    refine ⟨_, rfl, ?_⟩
    refine q _ (n / m) _ (Int.emod_nonneg _ (by omega)) (Int.emod_lt_of_pos _ h1) (Int.ediv_nonneg h0 (by omega)) upd_same fun c o e hc => ?_
    rw [upd_ne hc, upd_ne (ne_of_none e hp)]
    exact e
end
end Mr

namespace Mr
open PySem L2
section
variable {P : Program} {w : World} {K : PySem.W.Frag} {mg : Str → Option Value} {base : Heap}
theorem scTruth : FnScope ["_law_found", "_law_due"] ["_law_found", "_law_due"] (defScope sTruth) := ⟨rfl, rfl, rfl, by decide +kernel, rfl, by decide +kernel, by decide +kernel⟩
theorem ok_truth (a : At K mg "_law_truth" sTruth ["_law_found", "_law_due"]) (zi : mg "isinstance" = none) (zb : mg "bool" = none) : Df P w K mg base 1 "_law_truth" ["_law_found", "_law_due"] spTruth := by
  refine a.df fun f fd F => ?_
  refine F.ok scTruth (fun vs H Q E h => ?_) (fun cdv A outer s H vs Q E hr h => ?_)
  · obtain ⟨_, _, rfl, _⟩ := h
    rfl
  · obtain ⟨x, y, rfl, q⟩ := h
    refine ⟨_, pss_one (ps_ret (pe_and (pe_callB call_isT (by rfl) zi bt_isinstance (pa_cons (pv 0) (pa_cons (pe_bltn (v := .ty "bool") (by rfl) zb bt_bool rfl) pa_nil))) (pe_one (pe_cmpR op_eq (pv 0) (pv 1) (nomark _))))), ?_⟩
    refine ⟨_, rfl, _, "bool", _, true, rfl, .bl _, by rfl, true, rfl, iteT ?_⟩
    refine ⟨_, rfl, _, rfl, rfl, ?_⟩
    have e : decide (V.bl x = V.bl y) = decide (x = y) := by cases x <;> cases y <;> rfl
    rw [e]
    exact q
end
end Mr

namespace Mr
open PySem L2
section
variable {P : Program} {w : World} {K : PySem.W.Frag} {mg : Str → Option Value} {base : Heap}
theorem scBehind : FnScope ["_law_text", "_law_found", "_law_sign"] ["_law_text"] (defScope sBehind) := ⟨rfl, rfl, rfl, by decide +kernel, rfl, by decide +kernel, by decide +kernel⟩
theorem ok_behind (a : At K mg "_law_from_behind" sBehind ["_law_text"]) : Df P w K mg base 1 "_law_from_behind" ["_law_text"] spBehind := by
  refine a.df fun f fd F => ?_
  refine F.ok scBehind (fun vs H Q E h => ?_) (fun cdv A outer s H vs Q E hr h => ?_)
  · obtain ⟨_, rfl, _⟩ := h
    rfl
  · obtain ⟨l, rfl, hl, q⟩ := h
    refine ⟨_, pss_cons (ps_set (i := 1) scBehind.nd rfl (Or.inl rfl) pe_str) (pss_cons (ps_for PassesOwn.never rfl (pi_str (pv 0)) (pg_name (i := 2) scBehind.nd rfl (Or.inl rfl))
      (pss_one (ps_set (i := 1) scBehind.nd rfl (Or.inl rfl) (pe_op op_addS (pv 2) (pv 1))))) (pss_one (ps_ret (pv 1)))), ?_⟩
    refine ⟨_, rfl, l, rfl, for_str (l := l) (fun i σ H' => H' = H ∧ ∃ v, σ = [some (.str (tx l)), some (.str (tx (l.take i).reverse)), v]) ⟨rfl, none, by show _ = [some _, some (V.str (tx [])), none]; rw [← e_nil]; rfl⟩ ?_ ?_⟩
    · rintro i c σ H' hc ⟨rfl, v, rfl⟩
      have hi := (List.getElem?_eq_some_iff.mp hc).1
      refine ⟨_, rfl, _, rfl, [c], (l.take i).reverse, rfl, rfl, by simp; omega, rfl, some (.str (tx [c])), ?_⟩
      have e : [c] ++ (l.take i).reverse = (l.take (i + 1)).reverse := by
        rw [List.take_succ, hc]
        simp
      rw [e]; rfl
    · rintro σ H' ⟨rfl, v, rfl⟩
      refine ⟨_, rfl, ?_⟩
      rw [List.take_of_length_le (Nat.le_refl _)]
      exact q
end
end Mr

namespace Mr
open PySem L2
section
variable {P : Program} {w : World} {K : PySem.W.Frag} {mg : Str → Option Value} {base : Heap}
theorem scAlike : FnScope ["_law_text"] ["_law_text"] (defScope sAlike) := ⟨rfl, rfl, rfl, by decide +kernel, rfl, by decide +kernel, by decide +kernel⟩
theorem ok_alike (a : At K mg "_law_alike" sAlike ["_law_text"]) (zl : mg "len" = none) (zr : mg "range" = none) : Df P w K mg base 1 "_law_alike" ["_law_text"] spAlike := by
  refine a.df fun f fd F => ?_
  refine F.ok scAlike (fun vs H Q E h => ?_) (fun cdv A outer s H vs Q E hr h => ?_)
  · obtain ⟨_, rfl, _⟩ := h
    rfl
  · obtain ⟨l, rfl, hl, q⟩ := h
    have hz : l.length ≤ sizeLine := by rw [sizeLine_eq]; omega
    refine ⟨_, pss_one (ps_ret (pe_cmpR (op_eqL hr.units0)
      (pe_comp (ys := ["_law_text"]) (ix := [0]) ⟨rfl, by decide +kernel, rfl, by decide +kernel, rfl, by decide +kernel, ⟨rfl, trivial⟩, rfl, ⟨⟨rfl, rfl, rfl, rfl⟩, trivial⟩⟩ rfl
        (pi_range1 rfl zr (pa_cons (pe_op op_fdiv (pe_callB call_len_str (by rfl) zl bt_len (pa_cons (pv 0) pa_nil)) pe_int) pa_nil))
        (fun C fp s H => pts_one (pt_cmpR op_ne (pe_ix ix_strS (pv 1) (pv 0) (fun _ _ => rfl)) (pe_ix ix_strS (pv 1) (pe_op op_sub (pe_op op_sub (pe_callB call_len_str (by rfl) zl bt_len (pa_cons (pv 1) pa_nil)) pe_int) (pv 0)) (fun _ _ => rfl)) (nomark _)))
        (fun C fp s H => pe_int)) (pe_lst pa_nil) (nomark _))), ?_⟩
    have e2 : (((tx l).length : Int) / 2).toNat = l.length / 2 := by rw [tx_len]; omega
    refine ⟨_, rfl, tx l, rfl, (by rw [tx_len]; exact hz), _, _, rfl, rfl, ⟨by decide, by decide⟩, _, rfl, by rw [tx_len]; omega, by rw [tx_len]; omega, ?_⟩
    rw [e2]
    refine comp_range (lo := 0) (n := l.length / 2) (by omega) (fun i ys H' => H' = H ∧ (∀ y ∈ ys, y = V.int 1) ∧ (ys = [] ↔ ∀ k, k < i → l[k]? = l[l.length - 1 - k]?)) ⟨rfl, fun _ h => absurd h (by simp), ⟨fun _ k h => absurd h (Nat.not_lt_zero _), fun _ => rfl⟩⟩ ?_ ?_
    · rintro i ys H' N hi hy ⟨rfl, h1, h2⟩ hN
      have hi' : i < l.length := by omega
      have hj' : l.length - 1 - i < l.length := by omega
      have e3 : (((tx l).length : Int) - 1 - (0 + (i : Int))) = ((l.length - 1 - i : Nat) : Int) := by rw [tx_len]; omega
      refine ⟨_, rfl, _, rfl, l, _, l[i], rfl, rfl, hz, (by rw [Int.zero_add]; exact atI_nat (List.getElem?_eq_getElem hi')), _, rfl, _, rfl, tx l, rfl, (by rw [tx_len]; exact hz), _, _, rfl, rfl, _, rfl, _, _, rfl, rfl, l, _, l[l.length - 1 - i], rfl, rfl, hz, (by rw [e3]; exact atI_nat (List.getElem?_eq_getElem hj')), rfl, _, rfl, ?_⟩
      rw [dec_tx]
      by_cases he : l[i] = l[l.length - 1 - i]
      · rw [decide_eq_true (by rw [he] : [l[i]] = [l[l.length - 1 - i]])]
        refine iteF (hN ys _ (by omega) ⟨rfl, h1, ?_⟩)
        rw [h2]
        constructor
        · intro h k hk
          by_cases hki : k = i
          · subst hki
            rw [List.getElem?_eq_getElem hi', List.getElem?_eq_getElem hj', he]
          · exact h k (by omega)
        · intro h k hk
          exact h k (by omega)
      · rw [decide_eq_false (fun z => he (by simpa using z))]
        refine iteT (hN (ys ++ [V.int 1]) _ (by simp; omega) ⟨rfl, fun y hm => (List.mem_append.mp hm).elim (h1 y) fun z => by simpa using z, ?_⟩)
        constructor
        · intro h
          exact absurd h (by simp)
        · intro h
          have := h i (by omega)
          rw [List.getElem?_eq_getElem hi', List.getElem?_eq_getElem hj'] at this
          exact absurd (Option.some.inj this) he
    · rintro ys H' hy ⟨rfl, h1, h2⟩ p hp
      refine ⟨by show 0 ≤ sizeLine; omega, fun p2 hp2 => ?_⟩
      have np : p ≠ p2 := ne_of_none (H := upd H' p (.lst ys)) upd_same hp2
      refine ⟨p, p2, ys, [], rfl, rfl, SqL.of (by rw [upd_ne np]; exact upd_same), SqL.of upd_same, List.all_eq_true.mpr fun y hm => by rw [h1 y hm]; rfl, rfl, ?_⟩
      have e4 : eqVs ys [] = decide (l = l.reverse) := by
        rw [eqVs_nil]
        by_cases hy0 : ys = []
        · rw [decide_eq_true ((alike_iff l).mp (h2.mp hy0))]
          rw [hy0]; rfl
        · rw [decide_eq_false fun z => hy0 (h2.mpr ((alike_iff l).mpr z))]
          cases ys with
          | nil => exact absurd rfl hy0
          | cons _ _ => rfl
      rw [e4]
      exact q _ ((Same.upd hp).trans (Same.upd hp2))
end
end Mr

namespace Mr
open PySem L2
section
variable {P : Program} {w : World} {K : PySem.W.Frag} {mg : Str → Option Value} {base : Heap}
theorem scClosed : FnScope ["_law_text", "_law_at"] ["_law_text"] (defScope sClosed) := ⟨rfl, rfl, rfl, by decide +kernel, rfl, by decide +kernel, by decide +kernel⟩
theorem ok_closed (a : At K mg "_law_closed" sClosed ["_law_text"]) (dA : Df P w K mg base 1 "_law_alike" ["_law_text"] spAlike) (dB : Df P w K mg base 1 "_law_from_behind" ["_law_text"] spBehind) : Df P w K mg base 2 "_law_closed" ["_law_text"] spClosed := by
  refine a.df fun f fd F => ?_
  refine F.ok scClosed (fun vs H Q E h => ?_) (fun cdv A outer s H vs Q E hr h => ?_)
  · obtain ⟨_, rfl, _⟩ := h
    rfl
  · obtain ⟨l, rfl, hL, hl, q⟩ := h
    have hz : l.length ≤ sizeLine := by rw [sizeLine_eq]; omega
    refine ⟨_, pss_cons (ps_set (i := 1) scClosed.nd rfl (Or.inl rfl) pe_int)
      (pss_cons (ps_while PassesOwn.never (pt_not (pt_val (pe_df dA hr rfl (pa_cons (pe_slice sl_strS (pv 0) (po_some (pv 1)) po_none) pa_nil)))) (pss_one (ps_set (i := 1) scClosed.nd rfl (Or.inl rfl) (pe_op op_add (pv 1) pe_int))))
      (pss_one (ps_ret (pe_op op_addS (pv 0) (pe_df dB hr rfl (pa_cons (pe_slice sl_strS (pv 0) po_none (po_some (pv 1))) pa_nil)))))), ?_⟩
    refine ⟨fun m σ H' => ∃ k : Nat, k ≤ l.length ∧ m = l.length - k ∧ σ = [some (.str (tx l)), some (.int (k : Int))] ∧ Same H H', ⟨l.length, 0, Nat.zero_le _, rfl, rfl, Same.refl _⟩, ?_⟩
    rintro m σ H' ⟨k, hk, rfl, rfl, hs⟩
    refine ⟨_, rfl, _, rfl, _, rfl, l, rfl, hz, _, rfl, ?_, fun H'' hs' => ⟨_, rfl, ?_⟩⟩
    · rw [cut_from, List.length_drop]; omega
    · rw [cut_from]
      refine ite2 (fun h1 => ?_) (fun _ => ?_)
      · have hk' : k < l.length := by
          apply Nat.lt_of_not_le
          intro hge
          rw [List.drop_eq_nil_of_le hge] at h1
          exact absurd h1 (by decide)
        refine ⟨fun σ' H3 => ∃ k' : Nat, k' = k + 1 ∧ σ' = [some (.str (tx l)), some (.int (k' : Int))] ∧ Same H H3, fun σ' H3 ⟨k', e1, e2, e3⟩ => ⟨l.length - k', by omega, k', by omega, rfl, e2, e3⟩, ?_⟩
        exact ⟨_, rfl, _, _, rfl, rfl, k + 1, rfl, rfl, hs.trans hs'⟩
      · refine ⟨_, rfl, _, rfl, _, rfl, _, rfl, l, rfl, hz, _, rfl, ?_, l, _, rfl, rfl, ?_, ?_⟩
        · rw [cut_to, List.length_take]; omega
        · rw [cut_to, List.length_reverse, List.length_take, sizeLine_eq]; omega
        · rw [cut_to]
          refine q _ _ (hL.app (hL.take k).rev) ?_ (hs.trans hs')
          rw [List.length_append, List.length_reverse, List.length_take]; omega
end
end Mr

namespace Mr
open PySem L2
section
variable {P : Program} {w : World} {K : PySem.W.Frag} {mg : Str → Option Value} {base : Heap}
theorem scRow : FnScope ["_law_box_here", "_law_most", "_law_sort", "_law_many", "_law_kinds", "_law_signs", "_law_half", "_law_piece", "_law_found", "_law_sign"] ["_law_box_here", "_law_most"] (defScope sRow) := ⟨rfl, rfl, rfl, by decide +kernel, rfl, by decide +kernel, by decide +kernel⟩
set_option maxHeartbeats 4000000 in
theorem ok_row (a : At K mg "_law_row" sRow ["_law_box_here", "_law_most"]) (dT : Df P w K mg base 1 "_law_take" ["_law_box_here", "_law_many"] spTake) (dB : Df P w K mg base 1 "_law_from_behind" ["_law_text"] spBehind)
    (dC : Df P w K mg base 2 "_law_closed" ["_law_text"] spClosed) (zr : mg "range" = none) : Df P w K mg base 3 "_law_row" ["_law_box_here", "_law_most"] spRow := by
  refine a.df fun f fd F => ?_
  refine F.ok scRow (fun vs H Q E h => ?_) (fun cdv A outer s H vs Q E hr h => ?_)
  · obtain ⟨_, _, _, rfl, _⟩ := h
    rfl
  · obtain ⟨b, n, most, rfl, hb, hn, hm0, hm1, q⟩ := h
    refine ⟨_, pss_cons (ps_set (i := 2) scRow.nd rfl (Or.inl rfl) (pe_df dT hr rfl (pa_cons (pv 0) (pa_cons pe_int pa_nil))))
      (pss_cons (ps_set (i := 3) scRow.nd rfl (Or.inl rfl) (pe_df dT hr rfl (pa_cons (pv 0) (pa_cons (pe_op op_add (pv 1) pe_int) pa_nil))))
      (pss_cons (ps_set (i := 4) scRow.nd rfl (Or.inr rfl) (pe_op op_add pe_int (pe_df dT hr rfl (pa_cons (pv 0) (pa_cons pe_int pa_nil)))))
      (pss_cons (ps_set (i := 5) scRow.nd rfl (Or.inl rfl) (pe_bm PySem.F.plainAttrs_str PySem.F.slot_str_join PySem.F.type_str_join mt_joinS pe_str (pa_cons
        (pe_comp (ys := ["_law_box_here", "_law_kinds"]) (ix := [0, 4]) ⟨rfl, by decide +kernel, rfl, by decide +kernel, rfl, by decide +kernel, ⟨rfl, rfl, trivial⟩, rfl, ⟨⟨rfl, rfl, rfl, rfl⟩, ⟨rfl, rfl, rfl, rfl⟩, trivial⟩⟩ rfl
          (pi_range1 rfl zr (pa_cons (pv 3) pa_nil)) (fun C fp s H => pts_nil)
          (fun C fp s H => pe_ix ix_strS pe_str (pe_df (X := cmpCx _ _ _ _ C fp s H) dT hr rfl (pa_cons (pv 1) (pa_cons (pv 2) pa_nil))) (fun _ _ => rfl))) pa_nil)))
      (pss_cons (ps_if (pt_cmpR op_eq (pv 2) pe_int (nomark _))
        (pss_cons (ps_set (i := 6) scRow.nd rfl (Or.inl rfl) (pe_slice sl_strS (pv 5) po_none (po_some (pe_op op_fdiv (pv 3) pe_int))))
        (pss_one (ps_ret (pe_op op_addS (pe_op op_addS (pv 6) (pe_slice sl_strS (pv 5) (po_some (pe_op op_fdiv (pv 3) pe_int)) (po_some (pe_op op_add (pe_op op_fdiv (pv 3) pe_int) (pe_op op_mod (pv 3) pe_int))))) (pe_df dB hr rfl (pa_cons (pv 6) pa_nil)))))) pss_nil)
      (pss_cons (ps_if (pw_and (pt_cmpR op_eq (pv 2) pe_int (nomark _)) (pw_and1 (pt_cmpR op_gt (pv 3) pe_int (nomark _)))).pt
        (pss_cons (ps_set (i := 7) scRow.nd rfl (Or.inl rfl) (pe_slice sl_strS (pv 5) po_none (po_some (pe_op op_add pe_int (pe_df dT hr rfl (pa_cons (pv 0) (pa_cons pe_int pa_nil)))))))
        (pss_one (ps_ret (pe_slice sl_strS (pe_op op_mulS (pv 7) (pv 3)) po_none (po_some (pv 3)))))) pss_nil)
      (pss_cons (ps_if (pt_cmpR op_eq (pv 2) pe_int (nomark _))
        (@pss_cons _ _ _ _ _ (@ps_set _ _ 8 _ _ _ _ scRow.nd rfl (Or.inl rfl) pe_str rfl (Or.inl rfl))
        (pss_cons (ps_for PassesOwn.never rfl (pi_str (pe_slice sl_strS (pv 5) po_none (po_some pe_int))) (pg_name (i := 9) scRow.nd rfl (Or.inl rfl))
          (pss_one (ps_set (i := 8) scRow.nd rfl (Or.inl rfl) (pe_df dC hr rfl (pa_cons (pe_op op_addS (pv 8) (pv 9)) pa_nil)))))
        (pss_one (ps_ret (pe_slice sl_strS (pv 8) po_none (po_some (pv 3))))))) pss_nil)
      (pss_one (ps_ret (pv 5))))))))), ?_⟩
    -- sort, many, kinds
    refine ⟨_, rfl, b, n, 6, rfl, hb, hn, by decide, by decide, fun d1 n1 H1 _ _ hn1 hb1 k1 => ?_⟩
    refine ⟨_, rfl, _, rfl, _, _, rfl, rfl, b, n1, most + 1, rfl, hb1, hn1, by omega, by omega, fun d2 n2 H2 hd2 hd2' hn2 hb2 k2 => ?_⟩
    refine ⟨_, rfl, b, n2, 3, rfl, hb2, hn2, by decide, by decide, fun d3 n3 H3 hd3 hd3' hn3 hb3 k3 => ⟨_, _, rfl, rfl, ?_⟩⟩
    obtain ⟨many, rfl⟩ := Int.eq_ofNat_of_zero_le hd2
    have kk : But b H H3 := (k1.trans k2).trans k3
    -- signs
    refine ⟨rfl, _, rfl, _, rfl, by omega, by omega, ?_⟩
    have e0 : ((many : Int)).toNat = many := by omega
    rw [e0]
    refine comp_range (lo := 0) (n := many) (by rw [sizeLine_eq]; omega) (fun i ys H' => ∃ (cs : List Nat) (n' : Int), ys = cs.map (fun c => V.str (tx [c])) ∧ Let cs ∧ cs.length = i ∧ 0 ≤ n' ∧ H' b = some (.lst [.int n']) ∧ But b H H')
      ⟨[], n3, rfl, Let.nil, rfl, hn3, hb3, kk⟩ ?_ ?_
    · rintro i ys H' N hi hy ⟨cs, n', rfl, hc, hl, hn', hb', k'⟩ hN
      refine yes_ok (iteT ?_)
      refine ⟨_, rfl, _, rfl, b, n', 1 + d3, rfl, hb', hn', by omega, by omega, fun d4 n4 H4 hd4 hd4' hn4 hb4 k4 => ?_⟩
      obtain ⟨c, hc1, hc2⟩ := at_ofInt (xs := [97, 98, 122]) hd4 (by show d4 < 3; omega)
      refine ⟨[97, 98, 122], _, c, congrArg V.str e_abz, rfl, by decide, hc1, ?_⟩
      refine hN _ _ (by simp; omega) ⟨cs ++ [c], n4, by simp, hc.app fun z hz => ?_, by simp; omega, hn4, hb4, k'.trans k4⟩
      have e : z = c := by simpa using hz
      subst e
      simp at hc2
      omega
    · rintro ys H' hy ⟨cs, n', rfl, hc, hl, hn', hb', k'⟩ p hp
      have nb : b ≠ p := ne_of_none hb' hp
      have e1 : cs.map (fun c => V.str (tx [c])) = (cs.map fun c => [c]).map fun z => V.str (tx z) := by rw [List.map_map]; rfl
      refine ⟨p, cs.map fun c => [c], congrArg V.str e_nil, rfl, SqL.of (by rw [upd_same, e1]), by rw [sum_one]; omega, ?_⟩
      rw [flat_one]
      have hb5 : (upd H' p (.lst (cs.map fun c => V.str (tx [c])))) b = some (.lst [.int n']) := by rw [upd_ne nb]; exact hb'
      have k5 : But b H (upd H' p (.lst (cs.map fun c => V.str (tx [c])))) := k'.trans (But.of (Same.upd hp))
      generalize upd H' p (.lst (cs.map fun c => V.str (tx [c]))) = H5 at hb5 k5
      have hz : cs.length ≤ sizeLine := by rw [sizeLine_eq]; omega
      -- sort == 3
      refine ⟨_, rfl, rfl, _, rfl, ite2 (fun _ => ?_) (fun _ => ?_)⟩
      · have e3 : ((many : Int) / 2) = ((many / 2 : Nat) : Int) := by omega
        have e4 : ((many : Int) / 2 + (many : Int) % 2) = ((many / 2 + many % 2 : Nat) : Int) := by omega
        refine ⟨_, rfl, _, rfl, _, _, rfl, rfl, ⟨by decide, by decide⟩, _, rfl, cs, rfl, hz, ?_⟩
        refine ⟨_, rfl, _, rfl, _, rfl, _, _, rfl, rfl, ⟨by decide, by decide⟩, _, rfl, _, rfl, _, _, rfl, rfl, ⟨by decide, by decide⟩, _, rfl, _, _, rfl, rfl, (by show (0 : Int) < 2; decide), _, _, rfl, rfl, _, rfl, cs, rfl, hz, _, _, rfl, rfl, ?_, _, rfl, _, rfl, ?_, _, _, rfl, rfl, ?_, ?_⟩
        all_goals try rw [e4]
        all_goals rw [e3]
        all_goals rw [cut_to]
        · have := cut_mid cs (many / 2) (many / 2 + many % 2)
          rw [List.length_take, sizeLine_eq]; omega
        · rw [List.length_take, sizeLine_eq]; omega
        · have := cut_mid cs (many / 2) (many / 2 + many % 2)
          rw [List.length_append, List.length_reverse, List.length_take, sizeLine_eq]; omega
        · have := cut_mid cs (many / 2) (many / 2 + many % 2)
          refine q _ n' H5 (((hc.take _).app (hc.cut _ _)).app (hc.take _).rev) ?_ hn' hb5 k5
          rw [List.length_append, List.length_append, List.length_reverse, List.length_take]; omega
      -- sort == 4 and many > 0
      refine ⟨_, rfl, rfl, _, rfl, ?_⟩
      refine (fun hR => ite2 (fun _ => ⟨_, rfl, _, _, rfl, rfl, _, rfl, ite2 (fun _ => ?four) (fun _ => hR)⟩) (fun _ => iteF hR)) ?five
      case four =>
        refine ⟨_, rfl, _, rfl, b, n', 4, rfl, hb5, hn', by decide, by decide, fun d6 n6 H6 hd6 hd6' hn6 hb6 k6 => ⟨_, _, rfl, rfl, _, rfl, cs, rfl, hz, ?_⟩⟩
        have hp := cut_le cs none (some (1 + d6))
        have hpl := hc.cut none (some (1 + d6))
        generalize cutL cs none (some (1 + d6)) = piece at hp hpl
        have hpm : piece.length * many ≤ 1000 * 1000 := Nat.mul_le_mul (by omega) (by omega)
        refine ⟨_, rfl, _, rfl, piece, (many : Int), rfl, rfl, by omega, by omega, ?_, _, rfl, _, rfl, _, rfl, ?_, ?_⟩
        all_goals rw [e0]
        · rw [sizeLine_eq]; omega
        · rw [repL_len, Nat.mul_comm, sizeLine_eq]; omega
        · rw [cut_to]
          refine q _ n6 H6 (Let.take (hpl.sub fun _ h => repL_mem h) _) ?_ hn6 hb6 (k5.trans k6)
          rw [List.length_take]; omega
      -- sort == 5
      case five =>
      refine ⟨_, rfl, rfl, _, rfl, ite2 (fun _ => ?_) (fun _ => ?_)⟩
      · have e6 : cutL cs none (some 6) = cs.take 6 := cut_to 6
        refine ⟨_, rfl, _, rfl, cs, rfl, hz, _, rfl, ?_⟩
        rw [e6]
        have h6 : (cs.take 6).length ≤ 6 := by rw [List.length_take]; omega
        have hc6 := hc.take 6
        generalize cs.take 6 = cs6 at h6 hc6
        refine for_str (l := cs6) (fun i σ H' => ∃ (fnd : List Nat) (v : Option V), Let fnd ∧ fnd.length + 2 ≤ 2 ^ (i + 1) ∧ σ = [some (.ref b), some (.int most), some (.int d1), some (.int (many : Int)), some (.int (1 + d3)), some (.str (tx cs)), none, none, some (.str (tx fnd)), v] ∧ H' b = some (.lst [.int n']) ∧ But b H H')
          ⟨[], none, Let.nil, by decide, by rw [← e_nil]; rfl, hb5, k5⟩ ?_ ?_
        · rintro i c σ H' hci ⟨fnd, v, hf, hfl, rfl, hb', k'⟩
          have hi := (List.getElem?_eq_some_iff.mp hci).1
          have hpw : 2 ^ (i + 1) ≤ 2 ^ 6 := Nat.pow_le_pow_right (by decide) (by omega)
          have hcl : Let [c] := fun z hz => by
            have e : z = c := by simpa using hz
            subst e
            exact hc6 z (List.mem_of_getElem? hci)
          refine ⟨_, rfl, _, rfl, fnd, [c], rfl, rfl, by rw [sizeLine_eq]; simp; omega, fnd ++ [c], rfl, hf.app hcl, by simp; omega, fun m H'' hm hml hs => ?_⟩
          refine ⟨m, _, hm, ?_, rfl, hs _ _ hb', k'.trans (But.of hs)⟩
          rw [List.length_append] at hml
          have : ([c] : List Nat).length = 1 := rfl
          have e7 : 2 ^ (i + 1 + 1) = 2 * 2 ^ (i + 1) := by rw [Nat.pow_succ]; omega
          omega
        · rintro σ H' ⟨fnd, v, hf, hfl, rfl, hb', k'⟩
          have hpw : 2 ^ (cs6.length + 1) ≤ 2 ^ 7 := Nat.pow_le_pow_right (by decide) (by omega)
          refine ⟨_, rfl, _, rfl, _, rfl, fnd, rfl, by rw [sizeLine_eq]; omega, ?_⟩
          rw [cut_to]
          refine q _ n' H' (hf.take _) ?_ hn' hb' k'
          rw [List.length_take]; omega
      · exact ⟨_, rfl, q _ n' H5 hc (by omega) hn' hb5 k5⟩
end
end Mr

namespace Mr
open PySem L2
section
variable {P : Program} {w : World} {K : PySem.W.Frag} {mg : Str → Option Value} {base : Heap}
theorem scOdd : FnScope ["_law_box_here", "_law_some"] ["_law_box_here"] (defScope sOdd) := ⟨rfl, rfl, rfl, by decide +kernel, rfl, by decide +kernel, by decide +kernel⟩
set_option maxHeartbeats 4000000 in
theorem ok_odd (a : At K mg "_law_odd" sOdd ["_law_box_here"]) (dT : Df P w K mg base 1 "_law_take" ["_law_box_here", "_law_many"] spTake) : Df P w K mg base 2 "_law_odd" ["_law_box_here"] spOdd := by
  refine a.df fun f fd F => ?_
  refine F.ok scOdd (fun vs H Q E h => ?_) (fun cdv A outer s H vs Q E hr h => ?_)
  · obtain ⟨_, _, rfl, _⟩ := h
    rfl
  · obtain ⟨b, n, rfl, hb, hn, q⟩ := h
    refine ⟨_, @pss_cons _ _ _ _ _ (@ps_set _ _ 1 _ _ _ _ scOdd.nd rfl (Or.inl rfl) (@pe_lst _ _ _ _ (@pa_non _ _ _ _ _ (@pa_bl _ _ _ _ _ _ (@pa_bl _ _ _ _ _ _ (@pa_int _ _ _ _ _ _ (@pa_str _ _ _ _ _ _ (@pa_str _ _ _ _ _ _ (@pa_str _ _ _ _ _ _ (@pa_lst _ _ _ _ _ _ (pe_lst (pa_str pa_nil)) (@pa_tup _ _ _ _ _ _ _ (pe_tup (pa_str pa_nil)) (@pa_dic _ _ _ _ _ _ _ (pe_disp (pps_cons pe_str pe_int pps_nil) rfl rfl (by simp) (by decide)) (@pa_tup _ _ _ _ _ _ _ (pe_tup (pa_int (pa_int pa_nil))) (@pa_lst _ _ _ _ _ _ (pe_lst pa_nil) (@pa_op _ _ _ _ _ _ _ _ (pe_op op_pow pe_int pe_int) (@pa_str _ _ _ _ _ _ (@pa_op _ _ _ _ _ _ _ _ (pe_op op_mulS pe_str pe_int) (@pa_un _ _ _ _ _ _ _ (pe_un un_neg pe_int) pa_nil))))))))))))))))) rfl (Or.inl rfl))
      (pss_one (ps_ret (pe_ix ix_list (pv 1) (pe_df dT hr rfl (pa_cons (pv 0) (pa_cons pe_int pa_nil))) (fun _ _ => rfl)))), ?_⟩
    refine ⟨by show 1 ≤ sizeLine; decide, fun p1 hp1 => ⟨by show 1 ≤ sizeLine; decide, fun p2 hp2 => fun p3 hp3 => ⟨upd_same, [(Sum.inr ("a" : Str), V.int 1)], rfl, by decide, by show 2 ≤ sizeLine; decide, fun p4 hp4 => ⟨by show 0 ≤ sizeLine; decide, fun p5 hp5 =>
      ⟨_, _, rfl, rfl, ⟨by decide, by decide, by decide⟩, [97], 201, congrArg V.str e_a, rfl, by decide, by decide, by decide, _, rfl, by show 16 ≤ sizeLine; decide, fun p6 hp6 => ?_⟩⟩⟩⟩⟩
    have S1 := Same.upd (o := .lst [V.str ("a" : Str)]) hp1
    have S2 := Same.upd (o := .tup [V.str ("a" : Str)]) hp2
    have S3 : Same (upd (upd H p1 (.lst [V.str ("a" : Str)])) p2 (.tup [V.str ("a" : Str)])) (upd (upd (upd (upd H p1 (.lst [V.str ("a" : Str)])) p2 (.tup [V.str ("a" : Str)])) p3 (.dK [])) p3 (.dK (mergeK [] [(Sum.inr ("a" : Str), V.int 1)]))) := by
      rw [upd_upd]
      exact Same.upd hp3
    have S4 := Same.upd (o := .tup [V.int 0, V.int 1]) hp4
    have S5 := Same.upd (o := .lst []) hp5
    have S6 := Same.upd (o := .lst [V.non, V.bl true, V.bl false, V.int 0, V.str ("A" : Str), V.str ("a b" : Str), V.str ("a\n" : Str), V.ref p1, V.ref p2, V.ref p3, V.ref p4, V.ref p5, V.int (10 ^ 39), V.str ("1" : Str), V.str (tx (repL [97] 201)), V.int (-1)]) hp6
    have f1 := S6 _ _ (S5 _ _ (S4 _ _ (S3 _ _ (S2 _ _ (upd_same (H := H) (a := p1) (o := .lst [V.str ("a" : Str)]))))))
    have f2 := S6 _ _ (S5 _ _ (S4 _ _ (S3 _ _ (upd_same (a := p2) (o := .tup [V.str ("a" : Str)])))))
    have f3 := S6 _ _ (S5 _ _ (S4 _ _ (upd_same (a := p3) (o := .dK (mergeK [] [(Sum.inr ("a" : Str), V.int 1)])))))
    have f4 := S6 _ _ (S5 _ _ (upd_same (a := p4) (o := .tup [V.int 0, V.int 1])))
    have f5 := S6 _ _ (upd_same (a := p5) (o := .lst []))
    have S := ((((S1.trans S2).trans S3).trans S4).trans S5).trans S6
    have hb1 := S1 _ _ hb
    have hb2 := S2 _ _ hb1
    have hb3 := S3 _ _ hb2
    have hb4 := S4 _ _ hb3
    have hb5 := S5 _ _ hb4
    have hb6 := S6 _ _ hb5
    have n1 : p1 ≠ b := (ne_of_none hb hp1).symm
    have n2 : p2 ≠ b := (ne_of_none hb1 hp2).symm
    have n3 : p3 ≠ b := (ne_of_none hb2 hp3).symm
    have n4 : p4 ≠ b := (ne_of_none hb3 hp4).symm
    have n5 : p5 ≠ b := (ne_of_none hb4 hp5).symm
    have n6 : p6 ≠ b := (ne_of_none hb5 hp6).symm
    refine ⟨_, rfl, _, rfl, b, n, 16, rfl, hb6, hn, by decide, by decide, fun d n' H' hd hd' hn' hb' k => ?_⟩
    obtain ⟨v, hv, hm⟩ := at_ofInt (xs := [V.non, V.bl true, V.bl false, V.int 0, V.str ("A" : Str), V.str ("a b" : Str), V.str ("a\n" : Str), V.ref p1, V.ref p2, V.ref p3, V.ref p4, V.ref p5, V.int (10 ^ 39), V.str ("1" : Str), V.str (tx (repL [97] 201)), V.int (-1)]) hd (by show d < 16; exact hd')
    refine ⟨p6, _, _, v, rfl, rfl, SqL.of (k _ _ upd_same n6), hv, q v n' H' ?_ hn' hb' ((But.of S).trans k)⟩
    rw [e_a] at f1 f2 f3
    rw [e_A, e_ab, e_an, e_1] at hm
    simp only [List.mem_cons, List.not_mem_nil, or_false] at hm
    rcases hm with e | e | e | e | e | e | e | e | e | e | e | e | e | e | e | e
    all_goals subst e
    · exact .non
    · exact .bl _
    · exact .bl _
    · exact .int _ (.inl rfl)
    · exact .str _ (.inl rfl)
    · exact .str _ (.inr (.inl rfl))
    · exact .str _ (.inr (.inr (.inl rfl)))
    · exact .la _ (k _ _ f1 n1)
    · exact .ta _ (k _ _ f2 n2)
    · exact .da _ (k _ _ f3 n3)
    · exact .t01 _ (k _ _ f4 n4)
    · exact .l0 _ (k _ _ f5 n5)
    · exact .int _ (.inr (.inl rfl))
    · exact .str _ (.inr (.inr (.inr rfl)))
    · exact .long
    · exact .int _ (.inr (.inr rfl))
end
end Mr

namespace Mr
open PySem L2
section
variable {P : Program} {w : World} {K : PySem.W.Frag} {mg : Str → Option Value} {base : Heap}
theorem scIsRow : FnScope ["thing"] ["thing"] (defScope sIsRow) := ⟨rfl, rfl, rfl, by decide +kernel, rfl, by decide +kernel, by decide +kernel⟩
theorem ok_isrow (a : At K mg "is_row" sIsRow ["thing"]) (zi : mg "isinstance" = none) (zs : mg "str" = none) (zl : mg "len" = none) (za : mg "all" = none) {tM tL : Tok} (hM : mg "MOST_SIGNS" = some (.int 200 tM)) (hL : mg "LETTERS" = some (.str (tx lets) tL)) :
    Df P w K mg base 1 "is_row" ["thing"] (spIsRow K) := by
  refine a.df fun f fd F => ?_
  refine F.ok scIsRow (fun vs H Q E h => ?_) (fun cdv A outer s H vs Q E hr h => ?_)
  · obtain ⟨_, rfl, _⟩ := h
    rfl
  · obtain ⟨x, rfl, hT, q⟩ := h
    refine ⟨_, pss_cons (ps_if (pw_or (pt_not (pt_val (pe_callB call_isT (by rfl) zi bt_isinstance (pa_cons (pv 0) (pa_cons (pe_bltn (v := .ty "str") (by rfl) zs bt_str rfl) pa_nil)))))
        (pw_or1 (pt_cmpR op_gt (pe_callB call_len_str (by rfl) zl bt_len (pa_cons (pv 0) pa_nil)) (pe_glob (v := .int 200) (by rfl) hM ⟨_, rfl⟩) (nomark _)))).pt (pss_one (ps_ret pe_bl)) pss_nil)
      (pss_one (ps_ret (pe_callB (call_allB rfl) (by rfl) za bt_all (pa_cons (pe_comp (ys := []) (ix := []) ⟨rfl, by decide +kernel, rfl, by decide +kernel, rfl, by decide +kernel, trivial, rfl, trivial⟩ rfl
        (pi_str (pv 0)) (fun C fp s H => pts_nil) (fun C fp s H => pe_cmpR op_inS (pv 0) (pe_glob (X := cmpCx _ _ _ _ C fp s H) (v := .str (tx lets)) (by rfl) hL ⟨_, rfl⟩) (by with_unfolding_all rfl))) pa_nil)))), ?_⟩
    rcases hT with ⟨l, rfl, hl⟩ | ⟨hrow, _, t, ty, hk⟩
    · have hz : l.length ≤ sizeLine := by rw [sizeLine_eq]; omega
      refine ⟨_, rfl, _, "str", _, true, rfl, .str _, by rfl, _, rfl, iteF ?_⟩
      refine ⟨_, rfl, tx l, rfl, by rw [tx_len]; exact hz, _, _, rfl, rfl, _, rfl, ite2 (fun h1 => ?_) (fun h1 => ?_)⟩
      · have h2 : 200 < l.length := by have := of_decide_eq_true h1; rw [tx_len] at this; omega
        have e : rowV (.str (tx l)) = false := by
          show rowL l = false
          unfold rowL
          rw [decide_eq_false (by omega)]; rfl
        have q' := q H (Same.refl _)
        rw [e] at q'
        exact q'
      · have h2 : l.length ≤ 200 := by
          have : ¬ ((200 : Int) < ((tx l).length : Int)) := fun z => h1 (decide_eq_true z)
          rw [tx_len] at this; omega
        refine ⟨_, rfl, l, rfl, comp_str (l := l) hz (fun i ys H' => H' = H ∧ ys = (l.take i).map fun c => V.bl (decide (c ∈ lets))) ⟨rfl, rfl⟩ ?_ ?_⟩
        · rintro i c ys H' N hc hy ⟨rfl, rfl⟩ hN
          refine yes_ok (iteT ⟨_, rfl, c, lets, rfl, rfl, hN _ _ (by simp; omega) ⟨rfl, ?_⟩⟩)
          rw [List.take_succ, hc]
          simp
        · rintro ys H' hy ⟨rfl, rfl⟩ p hp
          refine ⟨p, l.map fun c => decide (c ∈ lets), rfl, SqL.of (by rw [upd_same, List.take_of_length_le (Nat.le_refl _), List.map_map]; rfl), ?_⟩
          have e : rowV (.str (tx l)) = (l.map fun c => decide (c ∈ lets)).all id := by
            show rowL l = _
            unfold rowL
            rw [decide_eq_true h2, Bool.true_and, List.all_map]; rfl
          rw [← e]
          exact q _ (Same.upd hp)
    · refine ⟨_, rfl, _, "str", _, false, rfl, ty, hk, _, rfl, iteT (iteT ?_)⟩
      have q' := q H (Same.refl _)
      rw [hrow] at q'
      exact q'
end
end Mr

namespace Mr
open PySem L2
section
variable {P : Program} {w : World} {K : PySem.W.Frag} {mg : Str → Option Value} {base : Heap}
theorem scNeed : FnScope ["thing"] ["thing"] (defScope sNeedRow) := ⟨rfl, rfl, rfl, by decide +kernel, rfl, by decide +kernel, by decide +kernel⟩
theorem ok_need (a : At K mg "need_row" sNeedRow ["thing"]) (dR : Df P w K mg base 1 "is_row" ["thing"] (spIsRow K)) : Df P w K mg base 2 "need_row" ["thing"] spNeed := by
  refine a.df fun f fd F => ?_
  refine F.ok scNeed (fun vs H Q E h => ?_) (fun cdv A outer s H vs Q E hr h => ?_)
  · obtain ⟨_, rfl, _⟩ := h
    rfl
  · obtain ⟨l, rfl, hrow, q⟩ := h
    refine ⟨_, pss_one (ps_if (pt_not (pt_val (pe_df dR hr rfl (pa_cons (pv 0) pa_nil)))) pss_never pss_nil), ?_⟩
    refine ⟨_, rfl, _, rfl, row_thing hrow, fun H' hs => ⟨_, rfl, ?_⟩⟩
    have e : rowV (.str (tx l)) = true := hrow
    rw [e]
    exact iteF (q H' hs)
end
end Mr

namespace Mr
open PySem L2
section
variable {P : Program} {w : World} {K : PySem.W.Frag} {mg : Str → Option Value} {base : Heap}
theorem scRA : FnScope ["row", "middle", "first", "behind"] ["row", "middle"] (defScope s_reach_around) := ⟨rfl, rfl, rfl, by decide +kernel, rfl, by decide +kernel, by decide +kernel⟩
set_option maxHeartbeats 4000000 in
theorem ok_reach_around (a : At K mg "reach_around" s_reach_around ["row", "middle"]) (z_len : mg "len" = none) : Df P w K mg base 1 "reach_around" ["row", "middle"] spReachA := by
  refine a.df fun f fd F => ?_
  refine F.ok scRA (fun vs H Q E h => ?_) (fun cdv A outer s H vs Q E hr h => ?_)
  · obtain ⟨_, _, rfl, _⟩ := h
    rfl
  · obtain ⟨l, m, rfl, hrow, hm, q⟩ := h
    have hlen := (rowL_iff.mp hrow).1
    have hz : l.length ≤ sizeLine := by rw [sizeLine_eq]; omega
    refine ⟨_, (pss_cons (ps_set (i := 2) scRA.nd rfl (Or.inl rfl) (pe_op op_fdiv (pe_op op_add (pv 1) pe_int) pe_int))
      (pss_cons (ps_set (i := 3) scRA.nd rfl (Or.inl rfl) (pe_op op_sub (pe_op op_add (pv 1) pe_int) (pv 2)))
      (pss_cons (ps_while PassesOwn.never (PW.pt (pw_and (pt_cmpR op_gt (pv 2) pe_int (nomark _)) (pw_and (pt_cmpR op_lt (pv 3) (pe_callB call_len_str (by rfl) z_len bt_len (pa_cons (pv 0) pa_nil)) (nomark _)) (pw_and1 (pt_cmpR op_eq (pe_ix ix_strS (pv 0) (pe_op op_sub (pv 2) pe_int) (fun _ _ => rfl)) (pe_ix ix_strS (pv 0) (pv 3) (fun _ _ => rfl)) (nomark _)))))) (pss_cons (ps_set (i := 2) scRA.nd rfl (Or.inl rfl) (pe_op op_sub (pv 2) pe_int))
      (pss_one (ps_set (i := 3) scRA.nd rfl (Or.inl rfl) (pe_op op_add (pv 3) pe_int)))))
      (pss_one (ps_ret (pe_op op_sub (pv 3) (pv 2))))))), ?_⟩
    refine ⟨_, rfl, _, _, rfl, rfl, _, _, rfl, rfl, ⟨by decide, by decide⟩, ?_⟩
    refine ⟨_, rfl, _, _, rfl, rfl, _, rfl, _, _, rfl, rfl, ?_⟩
    have e1 : ((m : Int) + 1) / 2 = (((m + 1) / 2 : Nat) : Int) := by omega
    have e2 : (m : Int) + 1 - (((m + 1) / 2 : Nat) : Int) = ((m + 1 - (m + 1) / 2 : Nat) : Int) := by omega
    refine ⟨fun k σ H' => ∃ f b : Nat, k = f ∧ f ≤ b ∧ b ≤ l.length ∧ grow l f b = reachN l m ∧ σ = [some (.str (tx l)), some (.int (m : Int)), some (.int (f : Int)), some (.int (b : Int))] ∧ H' = H, ⟨(m + 1) / 2, (m + 1) / 2, m + 1 - (m + 1) / 2, rfl, by omega, by omega, rfl, ?_, rfl⟩, ?_⟩
    · show [some (V.str (tx l)), some (V.int (m : Int)), some (V.int (((m : Int) + 1) / 2)), some (V.int ((m : Int) + 1 - ((m : Int) + 1) / 2))] = _
      rw [e1, e2]
    rintro k σ H' ⟨x, y, ek, hfb, hb, hg, rfl, rfl⟩
    have out : (∀ y1 x1 : Nat, x = x1 + 1 → ¬ (y < l.length ∧ l[x1]? = l[y]?)) → Q (.int ((y : Int) - (x : Int))) H' := by
      intro h
      have e : reachN l m = y - x := by
        rw [← hg]
        cases x with
        | zero => rfl
        | succ x1 => unfold grow; rw [if_neg (h 0 x1 rfl)]
      have e3 : (y : Int) - (x : Int) = ((reachN l m : Nat) : Int) := by omega
      rw [e3]; exact q
    refine ⟨_, rfl, _, _, rfl, rfl, _, rfl, ite2 (fun h1 => ?_) (fun h1 => iteF ⟨_, rfl, _, rfl, _, _, rfl, rfl, out ?_⟩)⟩
    · have hf : 0 < x := by have := of_decide_eq_true h1; omega
      refine ⟨_, rfl, _, rfl, tx l, rfl, (by rw [tx_len]; exact hz), _, _, rfl, rfl, _, rfl, ite2 (fun h2 => ?_) (fun h2 => iteF ⟨_, rfl, _, rfl, _, _, rfl, rfl, out ?_⟩)⟩
      · have hb2 : y < l.length := by have := of_decide_eq_true h2; rw [tx_len] at this; omega
        have ef : (x : Int) - 1 = ((x - 1 : Nat) : Int) := by omega
        have g1 : l[x - 1]? = some l[x - 1] := List.getElem?_eq_getElem (by omega)
        have g2 : l[y]? = some l[y] := List.getElem?_eq_getElem (by omega)
        refine ⟨_, rfl, _, rfl, _, _, rfl, rfl, l, _, l[x - 1], rfl, rfl, hz, (by rw [ef, atI_nat]; exact g1), _, rfl, _, rfl, l, _, l[y], rfl, rfl, hz, (by rw [atI_nat]; exact g2), rfl, _, rfl, ?_⟩
        rw [dec_tx]
        refine ite2 (fun h3 => ?_) (fun h3 => ⟨_, rfl, _, rfl, _, _, rfl, rfl, out ?_⟩)
        · have h4 : l[x - 1]? = l[y]? := by rw [g1, g2]; have := of_decide_eq_true h3; injection this with h5; rw [h5]
          refine ⟨fun σ' H3 => σ' = [some (.str (tx l)), some (.int (m : Int)), some (.int ((x - 1 : Nat) : Int)), some (.int ((y + 1 : Nat) : Int))] ∧ H3 = H', fun σ' H3 ⟨e1, e2⟩ => ⟨x - 1, by omega, x - 1, y + 1, rfl, by omega, by omega, ?_, e1, e2⟩, ?_⟩
          · rw [← hg]
            obtain ⟨x1, rfl⟩ : ∃ x1, x = x1 + 1 := ⟨x - 1, by omega⟩
            rw [grow, if_pos ⟨hb2, h4⟩]
            rfl
          · refine ⟨_, rfl, _, _, rfl, rfl, _, rfl, _, _, rfl, rfl, ?_, rfl⟩
            show [some (V.str (tx l)), some (V.int (m : Int)), some (V.int ((x : Int) - 1)), some (V.int ((y : Int) + 1))] = _
            rw [ef]; rfl
        · intro _ x1 e ⟨_, h4⟩
          subst e
          apply h3
          rw [decide_eq_true]
          have x : x1 + 1 - 1 = x1 := rfl
          rw [g2] at h4
          have g1' : l[x1]? = some l[x1] := List.getElem?_eq_getElem (by omega)
          rw [g1'] at h4
          injection h4 with h5
          exact congrArg (fun c => [c]) h5
      · intro _ x1 e ⟨h3, _⟩
        apply h2
        apply decide_eq_true
        rw [tx_len]; omega
    · intro _ x1 e _
      apply h1
      apply decide_eq_true
      omega
end
end Mr

namespace Mr
open PySem L2
section
variable {P : Program} {w : World} {K : PySem.W.Frag} {mg : Str → Option Value} {base : Heap}
theorem scReaches : FnScope ["row"] ["row"] (defScope s_reaches) := ⟨rfl, rfl, rfl, by decide +kernel, rfl, by decide +kernel, by decide +kernel⟩
set_option maxHeartbeats 4000000 in
theorem ok_reaches (a : At K mg "reaches" s_reaches ["row"]) (d_need_row : Df P w K mg base 2 "need_row" ["thing"] spNeed) (d_reach_around : Df P w K mg base 1 "reach_around" ["row", "middle"] spReachA) (z_len : mg "len" = none) (z_range : mg "range" = none) : Df P w K mg base 3 "reaches" ["row"] (spLens reachesN) := by
  refine a.df fun f fd F => ?_
  refine F.ok scReaches (fun vs H Q E h => ?_) (fun cdv A outer s H vs Q E hr h => ?_)
  · obtain ⟨_, rfl, _⟩ := h
    rfl
  · obtain ⟨l, rfl, hrow, q⟩ := h
    have hlen := (rowL_iff.mp hrow).1
    have hz : l.length ≤ sizeLine := by rw [sizeLine_eq]; omega
    refine ⟨_, (pss_cons (ps_expr (pe_df d_need_row hr rfl (pa_cons (pv 0) pa_nil)))
      (pss_one (ps_ret (pe_comp (ys := ["row"]) (ix := [0]) ⟨rfl, by decide +kernel, rfl, by decide +kernel, rfl, by decide +kernel, ⟨rfl, trivial⟩, rfl, ⟨⟨rfl, rfl, rfl, rfl⟩, trivial⟩⟩ rfl (pi_range1 rfl z_range (pa_cons (pe_op op_sub (pe_op op_mul pe_int (pe_callB call_len_str (by rfl) z_len bt_len (pa_cons (pv 0) pa_nil))) pe_int) pa_nil)) (fun C fp s H => pts_nil) (fun C fp s H => (pe_df (X := cmpCx _ _ _ _ C fp s H) d_reach_around hr rfl (pa_cons (pv 1) (pa_cons (pv 0) pa_nil)))))))), ?_⟩
    refine ⟨_, rfl, l, rfl, hrow, fun H1 s1 => ?_⟩
    refine ⟨_, rfl, tx l, rfl, (by rw [tx_len]; exact hz), _, _, rfl, rfl, .inl ⟨by decide, by decide⟩, _, _, rfl, rfl, _, rfl, (by rw [tx_len]; omega), (by rw [tx_len]; omega), ?_⟩
    rw [tx_len]
    have en : (2 * (l.length : Int) - 1).toNat = 2 * l.length - 1 := by omega
    rw [en]
    refine comp_range (n := 2 * l.length - 1) (by rw [sizeLine_eq]; omega) (fun i ys H' => H' = H1 ∧ ys = lensV ((List.range i).map (reachN l))) ⟨rfl, rfl⟩ ?_ ?_
    · rintro i ys H' N hi hy ⟨rfl, rfl⟩ hN
      refine yes_ok (iteT ⟨_, rfl, _, rfl, l, i, ?_, hrow, by omega, hN _ _ (by simp [lensV]) ⟨rfl, ?_⟩⟩)
      · show [V.str (tx l), V.int (0 + (i : Int))] = _
        rw [Int.zero_add]
      · rw [List.range_succ, List.map_append, lensV_app]
        rfl
    · rintro ys H' hy ⟨rfl, rfl⟩ p hp
      exact q p _ (s1.free hp) upd_same (s1.trans (Same.upd hp))
end
end Mr

namespace Mr
open PySem L2
section
variable {P : Program} {w : World} {K : PySem.W.Frag} {mg : Str → Option Value} {base : Heap}
theorem scEA : FnScope ["told", "behind"] ["told", "behind"] (defScope s_ends_ahead) := ⟨rfl, rfl, rfl, by decide +kernel, rfl, by decide +kernel, by decide +kernel⟩
set_option maxHeartbeats 4000000 in
theorem ok_ends_ahead (a : At K mg "ends_ahead" s_ends_ahead ["told", "behind"]) (z_range : mg "range" = none) : Df P w K mg base 1 "ends_ahead" ["told", "behind"] spEA := by
  refine a.df fun f fd F => ?_
  refine F.ok scEA (fun vs H Q E h => ?_) (fun cdv A outer s H vs Q E hr h => ?_)
  · obtain ⟨_, _, _, rfl, _⟩ := h
    rfl
  · obtain ⟨p, l, b, rfl, hlen, hb, hp, q⟩ := h
    refine ⟨_, (pss_one (ps_ret (pe_comp (ys := ["behind", "told"]) (ix := [1, 0]) ⟨rfl, by decide +kernel, rfl, by decide +kernel, rfl, by decide +kernel, ⟨rfl, rfl, trivial⟩, rfl, ⟨⟨rfl, rfl, rfl, rfl⟩, ⟨rfl, rfl, rfl, rfl⟩, trivial⟩⟩ rfl (pi_range1 rfl z_range (pa_cons (pv 1) pa_nil)) (fun C fp s H => (pts_one (pt_cmpR op_ge (pe_ix (ix_listK (K := K) rfl) (pv 2) (pe_op op_sub (pe_op op_add (pv 0) (pv 1)) pe_int) (fun _ _ => rfl)) (pe_op op_sub (pv 1) (pv 0)) (nomark _)))) (fun C fp s H => (pe_op op_sub (pv 1) (pv 0)))))), ?_⟩
    refine ⟨_, rfl, _, rfl, by omega, by omega, ?_⟩
    have en : ((b : Int)).toNat = b := by omega
    rw [en]
    refine comp_range (n := b) (by rw [sizeLine_eq]; omega) (fun i ys H' => H' = H ∧ ys = lensV (((downs b).take i).filter fun k => decide (k ≤ reachN l (b - k + b - 1)))) ⟨rfl, rfl⟩ ?_ ?_
    · rintro i ys H' N hi hy ⟨rfl, rfl⟩ hN
      have hfl := filt_take (fun k => decide (k ≤ reachN l (b - k + b - 1))) hi
      have ei : (0 : Int) + (i : Int) + (b : Int) - 1 = ((i + b - 1 : Nat) : Int) := by omega
      refine ⟨_, rfl, _, rfl, _, rfl, _, _, rfl, rfl, _, _, rfl, rfl, p, _, _, .int ((reachN l (i + b - 1) : Nat) : Int), rfl, rfl, SqL.of hp, ?_, _, rfl, _, rfl, _, _, rfl, rfl, _, _, rfl, rfl, _, rfl, ?_⟩
      · rw [ei, atI_nat]
        show (lensV (reachesN l))[i + b - 1]? = _
        unfold lensV
        rw [List.getElem?_map, reachesN_at (by omega)]
        rfl
      have ek : b - (b - i) = i := by omega
      have e0 : (b : Int) - (0 + (i : Int)) = ((b - i : Nat) : Int) := by omega
      rw [e0]
      refine ite2 (fun h1 => ?_) (fun h1 => ?_)
      · have h2 : b - i ≤ reachN l (i + b - 1) := by have := of_decide_eq_true h1; omega
        refine ⟨_, rfl, _, rfl, _, _, rfl, rfl, hN _ _ (by rw [List.length_append]; simp; omega) ⟨rfl, ?_⟩⟩
        show _ ++ [V.int ((b : Int) - (0 + (i : Int)))] = _
        rw [e0, hfl, if_pos (decide_eq_true (by rw [ek]; exact h2)), lensV_app]
        rfl
      · have h2 : ¬ b - i ≤ reachN l (i + b - 1) := fun z => h1 (decide_eq_true (by omega))
        refine hN _ _ (by omega) ⟨rfl, ?_⟩
        rw [hfl, if_neg (by rw [decide_eq_false (by rw [ek]; exact h2)]; decide), List.append_nil]
    · rintro ys H' hy ⟨rfl, rfl⟩ p' hp'
      rw [downs_all, ← ends_ahead_eq hb]
      exact q p' _ hp' upd_same (Same.upd hp')
end
end Mr

namespace Mr
open PySem L2
section
variable {P : Program} {w : World} {K : PySem.W.Frag} {mg : Str → Option Value} {base : Heap}
theorem scEnds : FnScope ["_law_row_here"] ["_law_row_here"] (defScope s_law_ends) := ⟨rfl, rfl, rfl, by decide +kernel, rfl, by decide +kernel, by decide +kernel⟩
set_option maxHeartbeats 4000000 in
theorem ok_lawends (a : At K mg "_law_ends" s_law_ends ["_law_row_here"]) (dAl : Df P w K mg base 1 "_law_alike" ["_law_text"] spAlike) (zl : mg "len" = none) (zr : mg "range" = none) : Df P w K mg base 2 "_law_ends" ["_law_row_here"] (spLens endsN) := by
  refine a.df fun f fd F => ?_
  refine F.ok scEnds (fun vs H Q E h => ?_) (fun cdv A outer s H vs Q E hr h => ?_)
  · obtain ⟨_, rfl, _⟩ := h
    rfl
  · obtain ⟨l, rfl, hrow, q⟩ := h
    have hlen := (rowL_iff.mp hrow).1
    have hz : l.length ≤ sizeLine := by rw [sizeLine_eq]; omega
    refine ⟨_, (pss_one (ps_ret (pe_comp (ys := ["_law_row_here"]) (ix := [0]) ⟨rfl, by decide +kernel, rfl, by decide +kernel, rfl, by decide +kernel, ⟨rfl, trivial⟩, rfl, ⟨⟨rfl, rfl, rfl, rfl⟩, trivial⟩⟩ rfl (pi_rangeD rfl zr (pa_cons (pe_callB call_len_str (by rfl) zl bt_len (pa_cons (pv 0) pa_nil)) (pa_cons pe_int (pa_cons (pe_un un_neg pe_int) pa_nil)))) (fun C fp s H => pts_one (pt_val (pe_df (X := cmpCx _ _ _ _ C fp s H) dAl hr rfl (pa_cons (pe_slice sl_strS (pv 1) (po_some (pe_op op_sub (pe_callB call_len_str (by rfl) zl bt_len (pa_cons (pv 1) pa_nil)) (pv 0))) po_none) pa_nil)))) (fun C fp s H => pv 0)))), ?_⟩
    refine ⟨_, rfl, tx l, rfl, (by rw [tx_len]; exact hz), _, rfl, _, _, rfl, ⟨by rw [tx_len]; omega, by rw [tx_len]; omega, by omega, by omega⟩, ?_⟩
    rw [tx_len]
    have en : ((l.length : Int) - 0).toNat = l.length := by omega
    rw [en]
    refine comp_down (hi := (l.length : Int)) (n := l.length) hz (fun i ys H' => Same H H' ∧ ys = lensV (((downs l.length).take i).filter fun k => decide (l.drop (l.length - k) = (l.drop (l.length - k)).reverse))) ⟨Same.refl _, rfl⟩ ?_ ?_
    · rintro i ys H' N hi hy ⟨s1, rfl⟩ hN
      have ek : (l.length : Int) - (i : Int) = ((l.length - i : Nat) : Int) := by omega
      have eg : (l.length : Int) - ((l.length - i : Nat) : Int) = ((l.length - (l.length - i) : Nat) : Int) := by omega
      rw [ek]
      refine ⟨_, rfl, _, rfl, tx l, rfl, (by rw [tx_len]; exact hz), _, rfl, _, _, rfl, rfl, _, rfl, l, rfl, hz, _, rfl, Nat.le_trans (cut_le _ _ _) (by omega), fun H2 s2 => ⟨_, rfl, ?_⟩⟩
      dsimp only
      rw [tx_len, eg, cut_from]
      have hfl := filt_take (fun k => decide (l.drop (l.length - k) = (l.drop (l.length - k)).reverse)) hi
      by_cases hb : l.drop (l.length - (l.length - i)) = (l.drop (l.length - (l.length - i))).reverse
      · rw [decide_eq_true hb]
        refine iteT ⟨_, rfl, hN _ _ (by rw [List.length_append]; simp; omega) ⟨s1.trans s2, ?_⟩⟩
        rw [hfl, if_pos (decide_eq_true hb), lensV_app]
        rfl
      · rw [decide_eq_false hb]
        refine iteF (hN _ _ (by omega) ⟨s1.trans s2, ?_⟩)
        rw [hfl, if_neg (by rw [decide_eq_false hb]; decide), List.append_nil]
    · rintro ys H' hy ⟨s1, rfl⟩ p hp
      rw [downs_all]
      exact q p _ (s1.free hp) upd_same (s1.trans (Same.upd hp))
end
end Mr

namespace Mr
open PySem L2
section
variable {P : Program} {w : World} {K : PySem.W.Frag} {mg : Str → Option Value} {base : Heap}
theorem scMi : FnScope ["_law_row_here", "_law_found", "_law_behind", "_law_length", "_law_text"] ["_law_row_here"] (defScope s_law_mirrors) := ⟨rfl, rfl, rfl, by decide +kernel, rfl, by decide +kernel, by decide +kernel⟩
set_option maxHeartbeats 4000000 in
theorem ok_mirrors (a : At K mg "_law_mirrors" s_law_mirrors ["_law_row_here"]) (d_law_ends : Df P w K mg base 2 "_law_ends" ["_law_row_here"] (spLens endsN)) (z_len : mg "len" = none) (z_range : mg "range" = none) : Df P w K mg base 3 "_law_mirrors" ["_law_row_here"] spMirs := by
  refine a.df fun f fd F => ?_
  refine F.ok scMi (fun vs H Q E h => ?_) (fun cdv A outer s H vs Q E hr h => ?_)
  · obtain ⟨_, rfl, _⟩ := h
    rfl
  · obtain ⟨l, rfl, hrow, q⟩ := h
    have hlen := (rowL_iff.mp hrow).1
    have hz : l.length ≤ sizeLine := by rw [sizeLine_eq]; omega
    refine ⟨_, (pss_cons (ps_set (i := 1) scMi.nd rfl (Or.inl rfl) (pe_lst pa_nil))
      (pss_cons (ps_for PassesOwn.never rfl (pi_range2 rfl z_range (pa_cons pe_int (pa_cons (pe_op op_add (pe_callB call_len_str (by rfl) z_len bt_len (pa_cons (pv 0) pa_nil)) pe_int) pa_nil))) (pg_name (i := 2) scMi.nd rfl (Or.inl rfl)) (pss_one (ps_for PassesOwn.never rfl (pi_list (pe_df d_law_ends hr rfl (pa_cons (pe_slice sl_strS (pv 0) po_none (po_some (pv 2))) pa_nil))) (pg_name (i := 3) scMi.nd rfl (Or.inl rfl)) (pss_cons (ps_set (i := 4) scMi.nd rfl (Or.inl rfl) (pe_slice sl_strS (pv 0) (po_some (pe_op op_sub (pv 2) (pv 3))) (po_some (pv 2))))
      (pss_one (ps_if (pt_cmpR op_notIn_seq (pv 4) (pv 1) (by with_unfolding_all rfl)) (pss_one (ps_expr (pe_bm PySem.F.plainAttrs_list PySem.F.slot_list_append PySem.F.type_list_append mt_append (pv 1) (pa_cons (pv 4) pa_nil)))) pss_nil))))))
      (pss_one (ps_ret (pv 1))))), ?_⟩
    refine ⟨(by show 0 ≤ sizeLine; omega), fun pf hpf => ?_⟩
    have s1 : Same H (upd H pf (.lst [])) := Same.upd hpf
    have f1 : upd H pf (.lst []) pf = some (.lst (txV (mirs l 0))) := upd_same
    generalize upd H pf (.lst []) = H1 at s1 f1
    refine ⟨_, rfl, tx l, rfl, (by rw [tx_len]; exact hz), _, _, rfl, rfl, _, _, rfl, ⟨by omega, by omega, by rw [tx_len]; omega, by rw [tx_len]; omega⟩, ?_⟩
    rw [tx_len]
    have en : ((l.length : Int) + 1 - 1).toNat = l.length := by omega
    rw [en]
    refine for_range (fun i σ H' => ∃ (w2 w3 w4 : Option V), σ = [some (V.str (tx l)), some (V.ref pf), w2, w3, w4] ∧ H' pf = some (.lst (txV (mirs l i))) ∧ Same H H') ⟨_, _, _, rfl, f1, s1⟩ ?_ ?_
    · rintro i σ H2 hi ⟨w2, w3, w4, rfl, hf2, s2⟩
      have eb : (1 : Int) + (i : Int) = ((i + 1 : Nat) : Int) := by omega
      rw [eb]
      have hb1 : 1 ≤ i + 1 := by omega
      have hbl : i + 1 ≤ l.length := by omega
      obtain ⟨L, eL, L1, L2, L3, L4⟩ := ends_first hb1 hbl
      have hml := mirs_len l i
      have hml' := mirs_len l (i + 1)
      have hrt : rowL (l.take (i + 1)) = true := row_sub hrow (by rw [List.length_take]; omega) fun c hc => List.mem_of_mem_take hc
      refine ⟨_, rfl, _, rfl, _, rfl, l, rfl, hz, l.take (i + 1), (by rw [cut_to]; rfl), hrt, fun pe H3 hf3 hp3 s3 => ⟨pe, rfl, ⟨_, SqL.of hp3⟩, ?_⟩⟩
      refine for_list (K := K) (a := pe) (xs := lensV (endsN (l.take (i + 1)))) (fun j σ H' => ∃ (w3 w4 : Option V), σ = [some (V.str (tx l)), some (V.ref pf), some (V.int ((i + 1 : Nat) : Int)), w3, w4] ∧ H' pf = some (.lst (txV (if j = 0 then mirs l i else mirs l (i + 1)))) ∧ H' pe = some (.lst (lensV (endsN (l.take (i + 1))))) ∧ Same H H') ⟨_, _, rfl, s3 _ _ hf2, hp3, s2.trans s3⟩ (fun j σ H' _ ⟨_, _, _, _, h, _⟩ => SqL.of h) ?_ ?_
      · rintro j x σ H4 hx ⟨w3', w4', rfl, hf4, hp4, s4⟩
        obtain ⟨k, hk, rfl⟩ := lensV_at hx
        obtain ⟨k1, k2, k3⟩ := (ends_mem hbl).mp (List.mem_of_getElem? hk)
        have npe : pe ≠ pf := fun z => by rw [z, hf2] at hf3; cases hf3
        have x1 : ((i + 1 : Nat) : Int) - (k : Int) = ((i + 1 - k : Nat) : Int) := by omega
        refine ⟨_, rfl, _, rfl, _, rfl, _, _, rfl, rfl, _, rfl, _, rfl, _, rfl, l, rfl, hz, ?_⟩
        dsimp only [gName]
        rw [x1, cut_sub (by omega) hbl]
        refine ⟨_, rfl, _, rfl, pf, _, rfl, .inl (SqL.of hf4), rfl, txV_flat _, _, rfl, ?_⟩
        rw [if_pos rfl, inV_tx]
        by_cases hj : j = 0
        · subst hj
          rw [if_pos rfl] at hf4 ⊢
          have hkL : k = L := by rw [eL] at hk; exact (Option.some.inj hk).symm
          have et : sub l (i + 1 - k) (i + 1) = topT l (i + 1) := by unfold topT; rw [eL, hkL]; rfl
          rw [et]
          by_cases hm : topT l (i + 1) ∈ mirs l i
          · rw [decide_eq_true hm]
            have em : mirs l (i + 1) = mirs l i := if_pos hm
            exact iteF ⟨_, _, rfl, by rw [if_neg (by omega), em]; exact hf4, hp4, s4⟩
          · rw [decide_eq_false hm]
            have em : mirs l (i + 1) = mirs l i ++ [topT l (i + 1)] := if_neg hm
            refine iteT ⟨_, rfl, .inl ⟨rfl, _, SqL.of hf4⟩, _, rfl, pf, _, _, rfl, rfl, hf4, (by unfold txV; rw [List.length_map, sizeLine_eq]; omega), ?_⟩
            refine ⟨_, _, rfl, ?_, (by rw [upd_ne npe]; exact hp4), same_upd s4 hpf⟩
            rw [upd_same, if_neg (by omega), em]
            unfold txV
            rw [List.map_append]; rfl
        · rw [if_neg hj] at hf4 ⊢
          have hm : sub l (i + 1 - k) (i + 1) ∈ mirs l (i + 1) := (mem_mirs hbl _).mpr ⟨i + 1, hb1, Nat.le_refl _, k, k1, k2, rfl, k3⟩
          rw [decide_eq_true hm]
          exact iteF ⟨_, _, rfl, by rw [if_neg (by omega)]; exact hf4, hp4, s4⟩
      · rintro σ H4 ⟨w3', w4', rfl, hf4, hp4, s4⟩
        have h0 : 0 < (endsN (l.take (i + 1))).length := (List.getElem?_eq_some_iff.mp eL).1
        rw [lensV_len, if_neg (by omega)] at hf4
        exact ⟨_, _, _, rfl, hf4, s4⟩
    · rintro σ H2 ⟨w2, w3, w4, rfl, hf2, s2⟩
      exact ⟨_, rfl, q pf H2 hpf hf2 s2⟩
end
end Mr

namespace Mr
open PySem L2
section
variable {P : Program} {w : World} {K : PySem.W.Frag} {mg : Str → Option Value} {base : Heap}
theorem scLT : FnScope ["_law_row_here", "_law_some", "_law_found", "_law_text", "_law_inner", "_law_less"] ["_law_row_here"] (defScope s_law_tree) := ⟨rfl, rfl, rfl, by decide +kernel, rfl, by decide +kernel, by decide +kernel⟩
set_option maxHeartbeats 4000000 in
theorem ok_lawtree (a : At K mg "_law_tree" s_law_tree ["_law_row_here"]) (d_law_ends : Df P w K mg base 2 "_law_ends" ["_law_row_here"] (spLens endsN)) (d_law_mirrors : Df P w K mg base 3 "_law_mirrors" ["_law_row_here"] spMirs) (z_len : mg "len" = none) : Df P w K mg base 4 "_law_tree" ["_law_row_here"] spTree := by
  refine a.df fun f fd F => ?_
  refine F.ok scLT (fun vs H Q E h => ?_) (fun cdv A outer s H vs Q E hr h => ?_)
  · obtain ⟨_, rfl, _⟩ := h
    rfl
  · obtain ⟨l, rfl, hrow, q⟩ := h
    have hlen := (rowL_iff.mp hrow).1
    refine ⟨_, (pss_cons (ps_set (i := 1) scLT.nd rfl (Or.inl rfl) (pe_df d_law_mirrors hr rfl (pa_cons (pv 0) pa_nil)))
      (pss_cons (ps_set (i := 2) scLT.nd rfl (Or.inl rfl) (pe_lst pa_nil))
      (pss_cons (ps_for PassesOwn.never rfl (pi_list (pv 1)) (pg_name (i := 3) scLT.nd rfl (Or.inl rfl)) (pss_cons (ps_set (i := 4) scLT.nd rfl (Or.inl rfl) pe_non)
      (pss_cons (ps_set (i := 5) scLT.nd rfl (Or.inl rfl) pe_non)
      (pss_cons (ps_if (pt_cmpR op_gt (pe_callB call_len_str (by rfl) z_len bt_len (pa_cons (pv 3) pa_nil)) pe_int (nomark _)) (pss_one (ps_set (i := 4) scLT.nd rfl (Or.inl rfl) (pe_bm PySem.F.plainAttrs_list PySem.F.slot_list_index PySem.F.type_list_index mt_indexS (pv 1) (pa_cons (pe_slice sl_strS (pv 3) (po_some pe_int) (po_some (pe_un un_neg pe_int))) pa_nil)))) pss_nil)
      (pss_cons (ps_if (pt_cmpR op_gt (pe_callB call_len_str (by rfl) z_len bt_len (pa_cons (pv 3) pa_nil)) pe_int (nomark _)) (pss_one (ps_set (i := 5) scLT.nd rfl (Or.inl rfl) (pe_bm PySem.F.plainAttrs_list PySem.F.slot_list_index PySem.F.type_list_index mt_indexS (pv 1) (pa_cons (pe_slice sl_strS (pv 3) po_none (po_some (pe_ix ix_list (pe_df d_law_ends hr rfl (pa_cons (pv 3) pa_nil)) pe_int (fun _ _ => rfl)))) pa_nil)))) pss_nil)
      (pss_one (ps_expr (pe_bm PySem.F.plainAttrs_list PySem.F.slot_list_append PySem.F.type_list_append mt_append (pv 2) (pa_cons (pe_tup (pa_cons (pv 3) (pa_cons (pv 4) (pa_cons (pv 5) pa_nil)))) pa_nil)))))))))
      (pss_one (ps_ret (pv 2)))))), ?_⟩
    refine ⟨_, rfl, l, rfl, hrow, fun ps H1 hfs hps s1 => ⟨(by show 0 ≤ sizeLine; omega), fun pf hpf => ?_⟩⟩
    have nsf : ps ≠ pf := ne_of_none hps hpf
    have frf : H pf = none := s1.free hpf
    have s2 : Same H (upd H1 pf (.lst [])) := s1.trans (Same.upd hpf)
    have f1 : upd H1 pf (.lst []) ps = some (.lst (txV (mirs l l.length))) := by rw [upd_ne nsf]; exact hps
    have f2 : upd H1 pf (.lst []) pf = some (.lst []) := upd_same
    generalize upd H1 pf (.lst []) = H2 at s2 f1 f2
    have hml := mirs_len l l.length
    have hin := @inner_in l l.length (Nat.le_refl _)
    have hle := @less_in l l.length (Nat.le_refl _)
    have hmr := fun t => @mirs_row l l.length (Nat.le_refl _) hrow t
    have hnn := no_nil (l := l) (Nat.le_refl l.length)
    generalize hms : mirs l l.length = ms at f1 hml hin hle hmr hnn
    have etree : treeN l = ms.map (entT ms) := by unfold treeN; rw [hms]
    have hmv : (txV ms).length = ms.length := List.length_map ..
    refine ⟨_, rfl, ps, rfl, ⟨_, SqL.of f1⟩, for_list (K := K) (a := ps) (xs := txV ms) (fun j σ H' => ∃ (w3 w4 w5 : Option V) (xs : List V), σ = [some (V.str (tx l)), some (V.ref ps), some (V.ref pf), w3, w4, w5] ∧ H' ps = some (.lst (txV ms)) ∧ H' pf = some (.lst xs) ∧ TreeV H' xs ((ms.take j).map (entT ms)) ∧ Same H H') ⟨_, _, _, [], rfl, f1, f2, ReV.nil, s2⟩ (fun j σ H' _ ⟨_, _, _, _, _, h, _⟩ => SqL.of h) ?_ ?_⟩
    · rintro j x σ H3 hx ⟨w3, w4, w5, xs, rfl, hs3, hf3, hT3, s3⟩
      have hjl : j < ms.length := by rw [← hmv]; exact (List.getElem?_eq_some_iff.mp hx).1
      have hx2 : (txV ms)[j]? = some (V.str (tx ms[j])) := by unfold txV; rw [List.getElem?_map, List.getElem?_eq_getElem hjl]; rfl
      rw [hx2] at hx
      have hxe := Option.some.inj hx
      subst hxe
      have htm : ms[j] ∈ ms := List.getElem_mem hjl
      have htj : ms[j]? = some ms[j] := List.getElem?_eq_getElem hjl
      generalize ms[j] = t at htm htj hx2
      obtain ⟨r1, r2, r3, r4⟩ := hmr t htm
      have htz : t.length ≤ sizeLine := by rw [sizeLine_eq]; omega
      have hxl : xs.length = j := by rw [hT3.1, List.length_map, List.length_take]; omega
      -- what is behind: the entry is put down
      have last : ∀ (o1 o2 : Option Nat) (H4 : Hp), o1 = idxO ms (inner t) → o2 = idxO ms (lessN t) → H4 ps = some (.lst (txV ms)) → H4 pf = some (.lst xs) → TreeV H4 xs ((ms.take j).map (entT ms)) → Same H H4 → ∀ pq, H4 pq = none →
          ∃ (w3 w4 w5 : Option V) (xs' : List V), [some (V.str (tx l)), some (V.ref ps), some (V.ref pf), some (V.str (tx t)), some (optV o1), some (optV o2)] = [some (V.str (tx l)), some (V.ref ps), some (V.ref pf), w3, w4, w5] ∧ (upd (upd H4 pq (.tup [.str (tx t), optV o1, optV o2])) pf (.lst (xs ++ [.ref pq]))) ps = some (.lst (txV ms)) ∧ (upd (upd H4 pq (.tup [.str (tx t), optV o1, optV o2])) pf (.lst (xs ++ [.ref pq]))) pf = some (.lst xs') ∧ TreeV (upd (upd H4 pq (.tup [.str (tx t), optV o1, optV o2])) pf (.lst (xs ++ [.ref pq]))) xs' ((ms.take (j + 1)).map (entT ms)) ∧ Same H (upd (upd H4 pq (.tup [.str (tx t), optV o1, optV o2])) pf (.lst (xs ++ [.ref pq]))) := by
        intro o1 o2 H4 e1 e2 hs4 hf4 hT4 s4 pq hpq
        subst e1 e2
        have nfq : pf ≠ pq := ne_of_none hf4 hpq
        refine ⟨_, _, _, xs ++ [.ref pq], rfl, ?_, upd_same, ?_, same_upd (s4.trans (Same.upd hpq)) frf⟩
        · rw [upd_ne nsf]; exact (Same.upd hpq) _ _ hs4
        · rw [List.take_succ, htj, List.map_append]
          refine ReV.push (hT4.mono fun p e h => ?_) (by rw [upd_ne nfq.symm]; exact upd_same)
          have : p ≠ pf := fun z => by rw [z, hf4] at h; cases h
          rw [upd_ne this]
          exact (Same.upd hpq) _ _ h
      by_cases h2 : 2 < t.length
      · have him : inner t ∈ ms := (hin htm).resolve_left fun z => by have := inner_len t; rw [z] at this; simp at this; omega
        obtain ⟨i1, i2⟩ := idx_first him
        obtain ⟨k, hk, kk1, kk2⟩ := has_less r3 (by omega)
        have hlm : lessN t ∈ ms := (hle htm).resolve_left fun z => by
          have : (lessN t).length = k := by unfold lessN; rw [hk, List.length_take]; show min k _ = k; omega
          rw [z] at this; simp at this; omega
        obtain ⟨j1, j2⟩ := idx_first hlm
        refine ⟨_, rfl, tx t, rfl, (by rw [tx_len]; exact htz), _, _, rfl, rfl, _, rfl, ?_⟩
        rw [tx_len, decide_eq_true (show (2 : Int) < (t.length : Int) by omega)]
        refine iteT ⟨_, rfl, .inl ⟨rfl, _, SqL.of hs3⟩, _, rfl, _, rfl, _, rfl, _, rfl, t, rfl, htz, ps, ms, inner t, ms.idxOf (inner t), rfl, (by rw [cut_inner r2]), hs3, i1, i2, ?_⟩
        refine ⟨_, rfl, tx t, rfl, (by rw [tx_len]; exact htz), _, _, rfl, rfl, _, rfl, ?_⟩
        rw [tx_len, decide_eq_true (show (1 : Int) < (t.length : Int) by omega)]
        refine iteT ⟨_, rfl, .inl ⟨rfl, _, SqL.of hs3⟩, _, rfl, _, rfl, t, rfl, r1, fun pe H4 hfe hpe s4 => ⟨pe, _, _, _, rfl, rfl, SqL.of hpe, atI_nat (j := 1) (lensV_get hk), _, rfl, t, rfl, htz, ps, ms, lessN t, ms.idxOf (lessN t), rfl, (by rw [cut_to]; unfold lessN; rw [hk]; rfl), s4 _ _ hs3, j1, j2, ?_⟩⟩
        refine ⟨_, rfl, .inl ⟨rfl, _, SqL.of (s4 _ _ hf3)⟩, _, rfl, _, rfl, _, rfl, (by show 3 ≤ sizeLine; decide), fun pq hpq => ?_⟩
        have nfq : pf ≠ pq := ne_of_none (s4 _ _ hf3) hpq
        refine ⟨pf, xs, _, rfl, rfl, (by rw [upd_ne nfq]; exact s4 _ _ hf3), (by rw [hxl, sizeLine_eq]; omega), ?_⟩
        exact last (some (ms.idxOf (inner t))) (some (ms.idxOf (lessN t))) H4 (by unfold idxO; rw [if_pos him]) (by unfold idxO; rw [if_pos hlm]) (s4 _ _ hs3) (s4 _ _ hf3) (hT3.mono fun p e h => s4 _ _ h) (s3.trans s4) pq hpq
      · have hi0 : inner t = [] := List.eq_nil_of_length_eq_zero (by rw [inner_len]; omega)
        refine ⟨_, rfl, tx t, rfl, (by rw [tx_len]; exact htz), _, _, rfl, rfl, _, rfl, ?_⟩
        rw [tx_len, decide_eq_false (show ¬ (2 : Int) < (t.length : Int) by omega)]
        refine iteF ⟨_, rfl, tx t, rfl, (by rw [tx_len]; exact htz), _, _, rfl, rfl, _, rfl, ?_⟩
        rw [tx_len]
        by_cases h1 : 1 < t.length
        · obtain ⟨k, hk, kk1, kk2⟩ := has_less r3 h1
          have hlm : lessN t ∈ ms := (hle htm).resolve_left fun z => by
            have : (lessN t).length = k := by unfold lessN; rw [hk, List.length_take]; show min k _ = k; omega
            rw [z] at this; simp at this; omega
          obtain ⟨j1, j2⟩ := idx_first hlm
          rw [decide_eq_true (show (1 : Int) < (t.length : Int) by omega)]
          refine iteT ⟨_, rfl, .inl ⟨rfl, _, SqL.of hs3⟩, _, rfl, _, rfl, t, rfl, r1, fun pe H4 hfe hpe s4 => ⟨pe, _, _, _, rfl, rfl, SqL.of hpe, atI_nat (j := 1) (lensV_get hk), _, rfl, t, rfl, htz, ps, ms, lessN t, ms.idxOf (lessN t), rfl, (by rw [cut_to]; unfold lessN; rw [hk]; rfl), s4 _ _ hs3, j1, j2, ?_⟩⟩
          refine ⟨_, rfl, .inl ⟨rfl, _, SqL.of (s4 _ _ hf3)⟩, _, rfl, _, rfl, _, rfl, (by show 3 ≤ sizeLine; decide), fun pq hpq => ?_⟩
          have nfq : pf ≠ pq := ne_of_none (s4 _ _ hf3) hpq
          refine ⟨pf, xs, _, rfl, rfl, (by rw [upd_ne nfq]; exact s4 _ _ hf3), (by rw [hxl, sizeLine_eq]; omega), ?_⟩
          exact last none (some (ms.idxOf (lessN t))) H4 (by rw [hi0, idxO_none hnn]) (by unfold idxO; rw [if_pos hlm]) (s4 _ _ hs3) (s4 _ _ hf3) (hT3.mono fun p e h => s4 _ _ h) (s3.trans s4) pq hpq
        · rw [decide_eq_false (show ¬ (1 : Int) < (t.length : Int) by omega)]
          refine iteF ⟨_, rfl, .inl ⟨rfl, _, SqL.of hf3⟩, _, rfl, _, rfl, _, rfl, (by show 3 ≤ sizeLine; decide), fun pq hpq => ?_⟩
          have nfq : pf ≠ pq := ne_of_none hf3 hpq
          refine ⟨pf, xs, _, rfl, rfl, (by rw [upd_ne nfq]; exact hf3), (by rw [hxl, sizeLine_eq]; omega), ?_⟩
          exact last none none H3 (by rw [hi0, idxO_none hnn]) (by rw [no_less (by omega), idxO_none hnn]) hs3 hf3 hT3 s3 pq hpq
    · rintro σ H3 ⟨w3, w4, w5, xs, rfl, hs3, hf3, hT3, s3⟩
      rw [hmv, List.take_of_length_le (Nat.le_refl _), ← etree] at hT3
      exact ⟨_, rfl, q pf xs H3 frf hf3 hT3 s3⟩
end
end Mr

namespace Mr
open PySem L2
section
variable {P : Program} {w : World} {K : PySem.W.Frag} {mg : Str → Option Value} {base : Heap}
theorem scEBP : FnScope ["row", "told"] ["row"] (defScope s_ends_by_place) := ⟨rfl, rfl, rfl, by decide +kernel, rfl, by decide +kernel, by decide +kernel⟩
set_option maxHeartbeats 4000000 in
theorem ok_ebp (a : At K mg "ends_by_place" s_ends_by_place ["row"]) (d_reaches : Df P w K mg base 3 "reaches" ["row"] (spLens reachesN)) (d_ends_ahead : Df P w K mg base 1 "ends_ahead" ["told", "behind"] spEA) (z_len : mg "len" = none) (z_range : mg "range" = none) : Df P w K mg base 4 "ends_by_place" ["row"] spEBP := by
  refine a.df fun f fd F => ?_
  refine F.ok scEBP (fun vs H Q E h => ?_) (fun cdv A outer s H vs Q E hr h => ?_)
  · obtain ⟨_, rfl, _⟩ := h
    rfl
  · obtain ⟨l, rfl, hrow, q⟩ := h
    have hlen := (rowL_iff.mp hrow).1
    have hz : l.length ≤ sizeLine := by rw [sizeLine_eq]; omega
    refine ⟨_, (pss_cons (ps_set (i := 1) scEBP.nd rfl (Or.inr rfl) (pe_df d_reaches hr rfl (pa_cons (pv 0) pa_nil)))
      (pss_one (ps_ret (pe_comp (ys := ["told"]) (ix := [1]) ⟨rfl, by decide +kernel, rfl, by decide +kernel, rfl, by decide +kernel, ⟨rfl, trivial⟩, rfl, ⟨⟨rfl, rfl, rfl, rfl⟩, trivial⟩⟩ rfl (pi_range1 rfl z_range (pa_cons (pe_op op_add (pe_callB call_len_str (by rfl) z_len bt_len (pa_cons (pv 0) pa_nil)) pe_int) pa_nil)) (fun C fp s H => pts_nil) (fun C fp s H => (pe_df (X := cmpCx _ _ _ _ C fp s H) d_ends_ahead hr rfl (pa_cons (pv 1) (pa_cons (pv 0) pa_nil)))))))), ?_⟩
    refine ⟨_, rfl, l, rfl, hrow, fun pr H1 hfr hpr s1 => ?_⟩
    refine ⟨_, rfl, tx l, rfl, (by rw [tx_len]; exact hz), _, _, rfl, rfl, _, rfl, (by rw [tx_len]; omega), (by rw [tx_len]; omega), ?_⟩
    rw [tx_len]
    have en : ((l.length : Int) + 1).toNat = l.length + 1 := by omega
    rw [en]
    refine comp_range (n := l.length + 1) (by rw [sizeLine_eq]; omega) (fun i ys H' => LenV H' ys ((List.range i).map fun b => endsN (l.take b)) ∧ H' pr = some (.lst (lensV (reachesN l))) ∧ Same H H') ⟨ReV.nil, hpr, s1⟩ ?_ ?_
    · rintro i ys H2 N hi hy ⟨hL, hp2, s2⟩ hN
      refine yes_ok (iteT ⟨_, rfl, _, rfl, pr, l, i, ?_, hlen, by omega, hp2, fun p' H3 hf3 hp3 s3 => hN _ _ (by simp; omega) ⟨?_, s3 _ _ hp2, s2.trans s3⟩⟩)
      · show [V.ref pr, V.int (0 + (i : Int))] = _
        rw [Int.zero_add]
      · rw [List.range_succ, List.map_append]
        exact ReV.push (hL.mono fun p e h => s3 _ _ h) hp3
    · rintro ys H2 hy ⟨hL, hp2, s2⟩ p hp
      exact q p ys _ (s2.free hp) upd_same (hL.mono fun p' e h => (Same.upd hp) _ _ h) (s2.trans (Same.upd hp))
end
end Mr

namespace Mr
open PySem L2
section
variable {P : Program} {w : World} {K : PySem.W.Frag} {mg : Str → Option Value} {base : Heap}
theorem scLE : FnScope ["row", "lengths", "numbers", "text", "less"] ["row", "lengths", "numbers"] (defScope s_longest_entry) := ⟨rfl, rfl, rfl, by decide +kernel, rfl, by decide +kernel, by decide +kernel⟩
set_option maxHeartbeats 4000000 in
theorem ok_lentry (a : At K mg "longest_entry" s_longest_entry ["row", "lengths", "numbers"]) (z_len : mg "len" = none) : Df P w K mg base 1 "longest_entry" ["row", "lengths", "numbers"] spLE := by
  refine a.df fun f fd F => ?_
  refine F.ok scLE (fun vs H Q E h => ?_) (fun cdv A outer s H vs Q E hr h => ?_)
  · obtain ⟨_, _, _, _, rfl, _⟩ := h
    rfl
  · obtain ⟨l, pl, pn, ms, rfl, h1, hlen, hpl, ⟨kvs, hkv, hkl, hkx⟩, q⟩ := h
    have hz : l.length ≤ sizeLine := by rw [sizeLine_eq]; omega
    refine ⟨_, (pss_cons (ps_set (i := 3) scLE.nd rfl (Or.inl rfl) (pe_slice sl_strS (pv 0) (po_some (pe_op op_sub (pe_callB call_len_str (by rfl) z_len bt_len (pa_cons (pv 0) pa_nil)) (pe_ix ix_list (pv 1) pe_int (fun _ _ => rfl)))) po_none))
      (pss_cons (ps_set (i := 4) scLE.nd rfl (Or.inl rfl) (pe_ifExp (pt_cmpR op_gt (pe_callB call_len_seq (by rfl) z_len bt_len (pa_cons (pv 1) pa_nil)) pe_int (nomark _)) (pe_slice sl_strS (pv 3) (po_some (pe_op op_sub (pe_callB call_len_str (by rfl) z_len bt_len (pa_cons (pv 3) pa_nil)) (pe_ix ix_list (pv 1) pe_int (fun _ _ => rfl)))) po_none) pe_str))
      (pss_one (ps_ret (pe_tup (pa_cons (pv 3) (pa_cons (pe_dget1 hr.unitsD (pv 2) (pe_slice sl_strS (pv 3) (po_some pe_int) (po_some (pe_un un_neg pe_int))) ⟨rfl, rfl, rfl, rfl⟩) (pa_cons (pe_dget1 hr.unitsD (pv 2) (pv 4) ⟨rfl, rfl, rfl, rfl⟩) pa_nil)))))))), ?_⟩
    obtain ⟨L, eL, L1, L2, L3, L4⟩ := ends_first h1 (Nat.le_refl l.length)
    obtain ⟨q1, q2, q3, q4⟩ := ends_top (l := l) (c := l.length) h1 (Nat.le_refl _)
    have htn : topT l l.length ≠ [] := ((top_ends h1 (Nat.le_refl _)).len (Nat.le_refl _)).1
    have et : topT l l.length = l.drop (l.length - L) := by unfold topT; rw [eL]; exact sub_end l L
    rw [List.take_of_length_le (Nat.le_refl _)] at eL L4 q1 q2 q3 q4
    have htl : (topT l l.length).length = L := by rw [q4, eL]; rfl
    have htz : (topT l l.length).length ≤ sizeLine := by rw [htl]; omega
    have a0 : atI (lensV (endsN l)) 0 = some (V.int (L : Int)) := atI_nat (j := 0) (lensV_get eL)
    have dD : IsD H pn := .inl ⟨_, .inl hkv⟩
    have ov : ∀ o : Option Nat, (o.map fun i => V.int (i : Int)).getD .non = optV o := fun o => by cases o <;> rfl
    refine ⟨_, rfl, _, rfl, tx l, rfl, (by rw [tx_len]; exact hz), _, rfl, pl, _, _, _, rfl, rfl, SqL.of hpl, a0, _, _, rfl, rfl, _, rfl, l, rfl, hz, ?_⟩
    have x1 : ((tx l).length : Int) - (L : Int) = ((l.length - L : Nat) : Int) := by rw [tx_len]; omega
    rw [x1, cut_from, ← et]
    refine ⟨_, rfl, pl, _, rfl, .inl (SqL.of hpl), _, _, rfl, rfl, _, rfl, ?_⟩
    rw [lensV_len]
    cases e1 : (endsN l)[1]? with
    | none =>
      have hc : (endsN l).length ≤ 1 := List.getElem?_eq_none_iff.mp e1
      rw [decide_eq_false (show ¬ (1 : Int) < ((endsN l).length : Int) by omega)]
      refine iteF ?_
      have el : (("" : Str)) = tx (lessN (topT l l.length)) := by
        rw [e_nil]; congr 1; unfold lessN; rw [q1, e1]; rfl
      dsimp only [gName]
      rw [el]
      refine ⟨_, rfl, _, rfl, pn, rfl, dD, _, rfl, _, rfl, _, rfl, _, rfl, topT l l.length, rfl, htz, _, DGet.k (k := Sum.inr (tx (cutL (topT l l.length) (some 1) (some (-1))))) hkv, _, rfl, pn, rfl, dD, _, rfl, _, DGet.k (k := Sum.inr (tx (lessN (topT l l.length)))) hkv, (by show 3 ≤ sizeLine; decide), fun pq hpq => ?_⟩
      rw [cut_inner htn, hkx, hkx, ov, ov]
      exact q pq _ hpq upd_same (Same.upd hpq)
    | some k =>
      obtain ⟨k1, k2, k3⟩ := q3 k e1
      have hc : 1 < (endsN l).length := (List.getElem?_eq_some_iff.mp e1).1
      have hkL : k ≤ L := L4 k (List.mem_of_getElem? e1)
      rw [decide_eq_true (show (1 : Int) < ((endsN l).length : Int) by omega)]
      refine iteT ⟨_, rfl, _, rfl, tx (topT l l.length), rfl, (by rw [tx_len]; exact htz), _, rfl, pl, _, _, _, rfl, rfl, SqL.of hpl, atI_nat (j := 1) (lensV_get e1), _, _, rfl, rfl, _, rfl, topT l l.length, rfl, htz, ?_⟩
      have x2 : ((tx (topT l l.length)).length : Int) - (k : Int) = (((topT l l.length).length - k : Nat) : Int) := by rw [tx_len]; omega
      have el : (topT l l.length).drop ((topT l l.length).length - k) = lessN (topT l l.length) := by
        rw [q2, e1]
        have := suf_suf L2 hkL
        rw [← et] at this
        rw [this]
        exact (sub_end l k).symm
      rw [x2, cut_from, el]
      refine ⟨_, rfl, _, rfl, pn, rfl, dD, _, rfl, _, rfl, _, rfl, _, rfl, topT l l.length, rfl, htz, _, DGet.k (k := Sum.inr (tx (cutL (topT l l.length) (some 1) (some (-1))))) hkv, _, rfl, pn, rfl, dD, _, rfl, _, DGet.k (k := Sum.inr (tx (lessN (topT l l.length)))) hkv, (by show 3 ≤ sizeLine; decide), fun pq hpq => ?_⟩
      rw [cut_inner htn, hkx, hkx, ov, ov]
      exact q pq _ hpq upd_same (Same.upd hpq)
end
end Mr

namespace Mr
open PySem L2
section
variable {P : Program} {w : World} {K : PySem.W.Frag} {mg : Str → Option Value} {base : Heap}
theorem scTr : FnScope ["row", "lengths", "numbers", "told", "behind", "entry"] ["row"] (defScope s_tree) := ⟨rfl, rfl, rfl, by decide +kernel, rfl, by decide +kernel, by decide +kernel⟩
set_option maxHeartbeats 8000000 in
theorem ok_tree (a : At K mg "tree" s_tree ["row"]) (d_ends_by_place : Df P w K mg base 4 "ends_by_place" ["row"] spEBP) (d_longest_entry : Df P w K mg base 1 "longest_entry" ["row", "lengths", "numbers"] spLE) (z_len : mg "len" = none) (z_range : mg "range" = none) : Df P w K mg base 5 "tree" ["row"] spTree := by
  refine a.df fun f fd F => ?_
  refine F.ok scTr (fun vs H Q E h => ?_) (fun cdv A outer s H vs Q E hr h => ?_)
  · obtain ⟨_, rfl, _⟩ := h
    rfl
  · obtain ⟨l, rfl, hrow, q⟩ := h
    have hlen := (rowL_iff.mp hrow).1
    have hz : l.length ≤ sizeLine := by rw [sizeLine_eq]; omega
    refine ⟨_, (pss_cons (ps_set (i := 1) scTr.nd rfl (Or.inl rfl) (pe_df d_ends_by_place hr rfl (pa_cons (pv 0) pa_nil)))
      (pss_cons (ps_set (i := 2) scTr.nd rfl (Or.inl rfl) pe_dnewK)
      (pss_cons (ps_set (i := 3) scTr.nd rfl (Or.inl rfl) (pe_lst pa_nil))
      (pss_cons (ps_for PassesOwn.never rfl (pi_range2 rfl z_range (pa_cons pe_int (pa_cons (pe_op op_add (pe_callB call_len_str (by rfl) z_len bt_len (pa_cons (pv 0) pa_nil)) pe_int) pa_nil))) (pg_name (i := 4) scTr.nd rfl (Or.inl rfl)) (pss_cons (ps_set (i := 5) scTr.nd rfl (Or.inl rfl) (pe_df d_longest_entry hr rfl (pa_cons (pe_slice sl_strS (pv 0) po_none (po_some (pv 4))) (pa_cons (pe_ix ix_list (pv 1) (pv 4) (fun _ _ => rfl)) (pa_cons (pv 2) pa_nil)))))
      (pss_one (ps_if (pt_cmp (pc_dnotin hr.unitsD (pe_ix ix_tup (pv 5) pe_int (fun _ _ => rfl)) (pv 2))) (pss_cons (ps_dput hr.unitsD (pv 2) (pe_ix ix_tup (pv 5) pe_int (fun _ _ => rfl)) (pe_callB call_len_seq (by rfl) z_len bt_len (pa_cons (pv 3) pa_nil)) rfl)
      (pss_one (ps_expr (pe_bm PySem.F.plainAttrs_list PySem.F.slot_list_append PySem.F.type_list_append mt_append (pv 3) (pa_cons (pv 5) pa_nil))))) pss_nil))))
      (pss_one (ps_ret (pv 3))))))), ?_⟩
    refine ⟨_, rfl, l, rfl, hrow, fun pr x0 H1 hfr hpr hL1 s1 => ?_⟩
    refine fun pn hpn => ⟨(by show 0 ≤ sizeLine; omega), fun pt hpt => ?_⟩
    have n2 : pn ≠ pt := fun z => by rw [← z, upd_same] at hpt; cases hpt
    have frt : H1 pt = none := by rw [upd_ne n2.symm] at hpt; exact hpt
    have s3 : Same H1 (upd (upd H1 pn (.dK [])) pt (.lst [])) := (Same.upd hpn).trans (Same.upd hpt)
    have f2 : NumD (upd (upd H1 pn (.dK [])) pt (.lst [])) pn (mirs l 0) := ⟨[], by rw [upd_ne n2]; exact upd_same, by simp, fun x => rfl⟩
    have f3 : (upd (upd H1 pn (.dK [])) pt (.lst [])) pt = some (.lst []) := upd_same
    generalize upd (upd H1 pn (.dK [])) pt (.lst []) = H3 at s3 f2 f3
    refine ⟨_, rfl, tx l, rfl, (by rw [tx_len]; exact hz), _, _, rfl, rfl, _, _, rfl, ⟨by omega, by omega, by rw [tx_len]; omega, by rw [tx_len]; omega⟩, ?_⟩
    rw [tx_len]
    have en : ((l.length : Int) + 1 - 1).toNat = l.length := by omega
    rw [en]
    refine for_range (fun i σ H' => ∃ (w4 w5 : Option V) (xs : List V), σ = [some (V.str (tx l)), some (V.ref pr), some (V.ref pn), some (V.ref pt), w4, w5] ∧ NumD H' pn (mirs l i) ∧ H' pt = some (.lst xs) ∧ TreeV H' xs ((mirs l i).map (entT (mirs l i))) ∧ Same H1 H') ⟨_, _, [], rfl, f2, f3, ReV.nil, s3⟩ ?_ ?_
    · rintro i σ H4 hi ⟨w4, w5, xs, rfl, hN4, ht4, hT4, s4⟩
      have eb : (1 : Int) + (i : Int) = ((i + 1 : Nat) : Int) := by omega
      rw [eb]
      have hb1 : 1 ≤ i + 1 := by omega
      have hbl : i + 1 ≤ l.length := by omega
      obtain ⟨pe, a1, hpe⟩ := (hL1.mono (H' := H4) fun p e h => s4 _ _ h).at (endsAt_get hbl)
      have etk : topT (l.take (i + 1)) (l.take (i + 1)).length = topT l (i + 1) := by
        have : (l.take (i + 1)).length = i + 1 := by rw [List.length_take]; omega
        rw [this, top_take (Nat.le_refl _)]
      obtain ⟨htn, htp⟩ := (top_ends hb1 hbl).len hbl
      refine ⟨_, rfl, _, rfl, _, rfl, l, rfl, hz, _, rfl, _, rfl, pr, _, _, _, rfl, rfl, SqL.of (s4 _ _ hpr), atI_nat (j := i + 1) a1, _, rfl, l.take (i + 1), pe, pn, mirs l i, (by rw [cut_to]; rfl), (by rw [List.length_take]; omega), (by rw [List.length_take]; omega), hpe, hN4, fun pq H6 hfq hpq s6 => ?_⟩
      rw [etk] at hpq
      obtain ⟨kvs, hkv, hkl, hkx⟩ := hN4
      have hkv6 := s6 _ _ hkv
      have ht6 := s6 _ _ ht4
      have hT6 := hT4.mono (H' := H6) fun p e h => s6 _ _ h
      have t6 := s4.trans s6
      have hml := mirs_len l i
      refine ⟨_, rfl, pq, _, _, _, rfl, rfl, SqT.of hpq, atI_nat (j := 0) rfl, _, rfl, pn, _, rfl, DGet.k (k := Sum.inr (tx (topT l (i + 1)))) hkv6, _, rfl, ?_⟩
      rw [hkx]
      by_cases hm : topT l (i + 1) ∈ mirs l i
      · have e9 : (((idxO (mirs l i) (topT l (i + 1))).map fun i => V.int (i : Int)).isSome) = true := by unfold idxO; rw [if_pos hm]; rfl
        rw [e9]
        have em : mirs l (i + 1) = mirs l i := if_pos hm
        refine iteF ⟨_, _, xs, rfl, ?_, ht6, ?_, t6⟩
        · rw [em]; exact ⟨kvs, hkv6, hkl, hkx⟩
        · rw [em]; exact hT6
      · have e9 : (((idxO (mirs l i) (topT l (i + 1))).map fun i => V.int (i : Int)).isSome) = false := by rw [idxO_none hm]; rfl
        rw [e9]
        have em : mirs l (i + 1) = mirs l i ++ [topT l (i + 1)] := if_neg hm
        have hxl : xs.length = (mirs l i).length := by rw [hT4.1, List.length_map]
        refine iteT ⟨_, rfl, pt, _, rfl, .inl (SqL.of ht6), _, rfl, _, rfl, pq, _, _, _, rfl, rfl, SqT.of hpq, atI_nat (j := 0) rfl, pn, _, rfl, DPut.k (k := Sum.inr (tx (topT l (i + 1)))) hkv6 (by rw [sizeLine_eq]; omega), ?_⟩
        have npt : pt ≠ pn := n2.symm
        have nqn : pq ≠ pn := fun z => by rw [z, hkv] at hfq; cases hfq
        have nqt : pq ≠ pt := fun z => by rw [z, ht4] at hfq; cases hfq
        have g1 : upd H6 pn (.dK (putK kvs (Sum.inr (tx (topT l (i + 1)))) (.int (xs.length : Int)))) pn = some (.dK (putK kvs (Sum.inr (tx (topT l (i + 1)))) (.int (xs.length : Int)))) := upd_same
        have g2 : upd H6 pn (.dK (putK kvs (Sum.inr (tx (topT l (i + 1)))) (.int (xs.length : Int)))) pt = some (.lst xs) := by rw [upd_ne npt]; exact ht6
        have g3 : upd H6 pn (.dK (putK kvs (Sum.inr (tx (topT l (i + 1)))) (.int (xs.length : Int)))) pq = some (entV (entT (mirs l i) (topT l (i + 1)))) := by rw [upd_ne nqn]; exact hpq
        have g4 : Same H1 (upd H6 pn (.dK (putK kvs (Sum.inr (tx (topT l (i + 1)))) (.int (xs.length : Int))))) := same_upd t6 hpn
        have g5 : TreeV (upd H6 pn (.dK (putK kvs (Sum.inr (tx (topT l (i + 1)))) (.int (xs.length : Int))))) xs ((mirs l i).map (entT (mirs l i))) := hT6.mono fun p e h => by
          have : p ≠ pn := fun z => by rw [z, hkv6] at h; cases h
          rw [upd_ne this]; exact h
        generalize upd H6 pn (.dK (putK kvs (Sum.inr (tx (topT l (i + 1)))) (.int (xs.length : Int)))) = H7 at g1 g2 g3 g4 g5
        have vx : ∀ x, valV (putK kvs (Sum.inr (tx (topT l (i + 1)))) (.int (xs.length : Int))) (Sum.inr (tx x)) = (idxO (mirs l (i + 1)) x).map fun i => V.int (i : Int) := by
          intro x
          rw [valV_put, em]
          by_cases hx : x = topT l (i + 1)
          · rw [hx, if_pos rfl, idxO_last hm, hxl]; rfl
          · have nx : ¬ (Sum.inr (tx x) : Key) = Sum.inr (tx (topT l (i + 1))) := fun z => hx (tx_inj (Sum.inr.inj z))
            rw [if_neg nx, hkx, idxO_snoc hx]
        refine ⟨_, rfl, .inl ⟨rfl, _, SqL.of g2⟩, _, rfl, pt, xs, _, rfl, rfl, g2, (by rw [hxl, sizeLine_eq]; omega), ?_⟩
        refine ⟨_, _, xs ++ [.ref pq], rfl, ?_, upd_same, ?_, same_upd g4 frt⟩
        · refine ⟨_, by rw [upd_ne n2]; exact g1, ?_, vx⟩
          have := length_putK kvs (Sum.inr (tx (topT l (i + 1)))) (.int (xs.length : Int))
          rw [em, List.length_append]
          show _ ≤ 1000 + ((mirs l i).length + 1)
          omega
        · have e8 : (mirs l (i + 1)).map (entT (mirs l (i + 1))) = (mirs l i).map (entT (mirs l i)) ++ [entT (mirs l i) (topT l (i + 1))] := by
            rw [em, List.map_append, map_ent (by omega) htn, ← ent_self (ms := mirs l i) htn htp]; rfl
          rw [e8]
          refine ReV.push (g5.mono fun p e h => ?_) (by rw [upd_ne nqt]; exact g3)
          have : p ≠ pt := fun z => by rw [z, g2] at h; cases h
          rw [upd_ne this]
          exact h
    · rintro σ H4 ⟨w4, w5, xs, rfl, hN4, ht4, hT4, s4⟩
      exact ⟨_, rfl, q pt xs H4 (s1.free frt) ht4 hT4 (s1.trans s4)⟩
end
end Mr

namespace Mr
open PySem L2
section
variable {P : Program} {w : World} {K : PySem.W.Frag} {mg : Str → Option Value} {base : Heap}
theorem scok_wholeg : FnScope ["thing"] ["thing"] (defScope sWhole) := ⟨rfl, rfl, rfl, by decide +kernel, rfl, by decide +kernel, by decide +kernel⟩
theorem ok_wholeg (a : At K mg "is_whole" sWhole ["thing"]) (z_isinstance : mg "isinstance" = none) (z_int : mg "int" = none) (z_bool : mg "bool" = none) : Df P w K mg base 1 "is_whole" ["thing"] (spWholeG K) := by
  refine a.df fun f fd F => ?_
  refine F.ok scok_wholeg (fun vs H Q E h => ?_) (fun cdv A outer s H vs Q E hr h => ?_)
  · obtain ⟨_, rfl, _⟩ := h
    rfl
  · obtain ⟨x, rfl, hS, q⟩ := h
    refine ⟨_, (pss_one (ps_ret (pe_and (pe_callB call_isT (by rfl) z_isinstance bt_isinstance (pa_cons (pv 0) (pa_cons (pe_bltn (v := .ty "int") (by rfl) z_int bt_int rfl) pa_nil))) (pe_one (pe_not (pe_callB call_isT (by rfl) z_isinstance bt_isinstance (pa_cons (pv 0) (pa_cons (pe_bltn (v := .ty "bool") (by rfl) z_bool bt_bool rfl) pa_nil)))))))), ?_⟩
    rcases hS with hS | ⟨hw, t, ty, hk⟩
    · cases x with
      | non => exact ⟨_, rfl, _, "int", _, false, rfl, .non, rfl, _, rfl, iteF q⟩
      | str z => exact ⟨_, rfl, _, "int", _, false, rfl, .str _, rfl, _, rfl, iteF q⟩
      | int i => exact ⟨_, rfl, _, "int", _, true, rfl, .int _, rfl, _, rfl, iteT ⟨_, rfl, _, "bool", _, false, rfl, .int _, rfl, _, rfl, q⟩⟩
      | bl b => exact ⟨_, rfl, _, "int", _, true, rfl, .bl _, rfl, _, rfl, iteT ⟨_, rfl, _, "bool", _, true, rfl, .bl _, rfl, _, rfl, q⟩⟩
      | _ => exact hS.elim
    · rw [hw] at q
      exact ⟨_, rfl, _, "int", _, false, rfl, ty, hk, _, rfl, iteF q⟩
end
end Mr

namespace Mr
open PySem L2
section
variable {P : Program} {w : World} {K : PySem.W.Frag} {mg : Str → Option Value} {base : Heap}
theorem scSG : FnScope ["thing", "number"] ["thing", "number"] (defScope s_is_same_number) := ⟨rfl, rfl, rfl, by decide +kernel, rfl, by decide +kernel, by decide +kernel⟩
theorem ok_sameg (a : At K mg "is_same_number" s_is_same_number ["thing", "number"]) (d_is_whole : Df P w K mg base 1 "is_whole" ["thing"] (spWholeG K)) : Df P w K mg base 2 "is_same_number" ["thing", "number"] (spSameG K) := by
  refine a.df fun f fd F => ?_
  refine F.ok scSG (fun vs H Q E h => ?_) (fun cdv A outer s H vs Q E hr h => ?_)
  · obtain ⟨_, _, rfl, _⟩ := h
    rfl
  · obtain ⟨x, n, rfl, hS, q⟩ := h
    refine ⟨_, (pss_one (ps_ret (pe_and (pe_df d_is_whole hr rfl (pa_cons (pv 0) pa_nil)) (pe_one (pe_cmpR op_eq (pv 0) (pv 1) (nomark _)))))), ?_⟩
    refine ⟨_, rfl, x, rfl, hS, _, rfl, ?_⟩
    cases x with
    | int i => exact iteT ⟨_, rfl, _, rfl, rfl, q⟩
    | _ => refine iteF ?_; rw [decide_eq_false (by intro z; cases z)] at q; exact q
end
end Mr

namespace Mr
open PySem L2
section
variable {P : Program} {w : World} {K : PySem.W.Frag} {mg : Str → Option Value} {base : Heap}
theorem scElG : FnScope ["thing", "wanted"] ["thing", "wanted"] (defScope s_is_elder) := ⟨rfl, rfl, rfl, by decide +kernel, rfl, by decide +kernel, by decide +kernel⟩
theorem ok_elderg (a : At K mg "is_elder" s_is_elder ["thing", "wanted"]) (d_is_same_number : Df P w K mg base 2 "is_same_number" ["thing", "number"] (spSameG K)) : Df P w K mg base 3 "is_elder" ["thing", "wanted"] (spElderG K) := by
  refine a.df fun f fd F => ?_
  refine F.ok scElG (fun vs H Q E h => ?_) (fun cdv A outer s H vs Q E hr h => ?_)
  · obtain ⟨_, _, _, rfl, _⟩ := h
    rfl
  · obtain ⟨x, o, d, rfl, hS, rd, q⟩ := h
    refine ⟨_, (pss_cons (ps_if (pt_cmpR op_isN (pv 1) pe_non (nomark _)) (pss_one (ps_ret (pe_cmpR op_isN (pv 0) pe_non (nomark _)))) pss_nil)
      (pss_one (ps_ret (pe_df d_is_same_number hr rfl (pa_cons (pv 0) (pa_cons (pv 1) pa_nil)))))), ?_⟩
    cases o with
    | none =>
      refine ⟨_, rfl, rfl, _, rfl, ?_⟩
      rw [decide_eq_true (show optV none = V.non from rfl)]
      refine iteT ⟨_, rfl, rfl, q _ ?_⟩
      rw [decide_eq_true_iff]
      exact rd_non rd
    | some i =>
      refine ⟨_, rfl, rfl, _, rfl, ?_⟩
      rw [decide_eq_false (show ¬ optV (some i) = V.non from fun z => by cases z)]
      refine iteF ⟨_, rfl, _, rfl, x, (i : Int), rfl, hS, q _ ?_⟩
      rw [decide_eq_true_iff]
      exact rd_int rd
end
end Mr

namespace Mr
open PySem L2
section
variable {P : Program} {w : World} {K : PySem.W.Frag} {mg : Str → Option Value} {base : Heap}
theorem scEnG : FnScope ["thing", "wanted"] ["thing", "wanted"] (defScope s_is_entry) := ⟨rfl, rfl, rfl, by decide +kernel, rfl, by decide +kernel, by decide +kernel⟩
set_option maxHeartbeats 4000000 in
theorem ok_entryg (a : At K mg "is_entry" s_is_entry ["thing", "wanted"]) (d_is_elder : Df P w K mg base 3 "is_elder" ["thing", "wanted"] (spElderG K)) (z_isinstance : mg "isinstance" = none) (z_len : mg "len" = none) (z_tuple : mg "tuple" = none) : Df P w K mg base 4 "is_entry" ["thing", "wanted"] spEntryG := by
  refine a.df fun f fd F => ?_
  refine F.ok scEnG (fun vs H Q E h => ?_) (fun cdv A outer s H vs Q E hr h => ?_)
  · obtain ⟨_, _, _, _, _, rfl, _⟩ := h
    rfl
  · obtain ⟨b, x, q, d, e, rfl, hE, rd, hq, k⟩ := h
    have hq' : H q = some (.tup [.str (tx e.1), optV e.2.1, optV e.2.2]) := hq
    refine ⟨_, (pss_cons (ps_if (PW.pt (pw_or (pt_not (pt_val (pe_callB call_isT (by rfl) z_isinstance bt_isinstance (pa_cons (pv 0) (pa_cons (pe_bltn (v := .ty "tuple") (by rfl) z_tuple bt_tuple rfl) pa_nil))))) (pw_or (pt_cmpR op_ne (pe_callB call_len_seq (by rfl) z_len bt_len (pa_cons (pv 0) pa_nil)) pe_int (nomark _)) (pw_or1 (pt_cmpR (op_neS hr.units0) (pe_ix ix_tup (pv 0) pe_int (fun _ _ => rfl)) (pe_ix ix_tup (pv 1) pe_int (fun _ _ => rfl)) (nomark _)))))) (pss_one (ps_ret pe_bl)) pss_nil)
      (pss_one (ps_ret (pe_and (pe_df d_is_elder hr rfl (pa_cons (pe_ix ix_tup (pv 0) pe_int (fun _ _ => rfl)) (pa_cons (pe_ix ix_tup (pv 1) pe_int (fun _ _ => rfl)) pa_nil))) (pe_one (pe_df d_is_elder hr rfl (pa_cons (pe_ix ix_tup (pv 0) pe_int (fun _ _ => rfl)) (pa_cons (pe_ix ix_tup (pv 1) pe_int (fun _ _ => rfl)) pa_nil)))))))), ?_⟩
    rcases hE.kindT (K := K) with ⟨p, xs, rfl, hp, hl, he⟩ | ⟨⟨t, ty, hk⟩, hno⟩
    rotate_left
    · refine ⟨_, rfl, _, "tuple", _, false, rfl, ty, hk, _, rfl, iteT (k false ⟨fun z => absurd z Bool.false_ne_true, fun z => ?_⟩)⟩
      rw [z, entD_eq] at rd
      obtain ⟨p, xs, e1, e2, _⟩ := rd_tup rd
      exact absurd e2 (hno p xs e1)
    obtain ⟨ds, rfl, rds⟩ := rd_ref_tup hp rd
    have hdl := rdws_len rds
    refine ⟨_, rfl, _, "tuple", _, true, rfl, .tup hp, by rfl, _, rfl, iteF ⟨_, rfl, p, _, rfl, .inr (SqT.of hp), rfl, _, rfl, ?_⟩⟩
    by_cases h3 : xs.length = 3
    · rw [decide_eq_true (show V.int ((xs.length : Nat) : Int) = V.int 3 by rw [h3]; rfl)]
      match xs, h3 with
      | [x0, x1, x2], _ =>
        match ds, rds with
        | [d0, d1, d2], .cons r0 (.cons r1 (.cons r2 .nil)) =>
          obtain ⟨e0, _⟩ := he x0 (by simp)
          obtain ⟨e1, _⟩ := he x1 (by simp)
          obtain ⟨e2, _⟩ := he x2 (by simp)
          have inj : PyData.tuple [d0, d1, d2] = entD e ↔ d0 = .str (tx e.1) ∧ d1 = optD e.2.1 ∧ d2 = optD e.2.2 := by
            rw [entD_eq]
            constructor
            · intro z
              injection z with z
              injection z with z1 z
              injection z with z2 z
              injection z with z3 z
              exact ⟨z1, z2, z3⟩
            · rintro ⟨z1, z2, z3⟩
              rw [z1, z2, z3]
          refine iteF ⟨_, rfl, p, _, _, _, rfl, rfl, SqT.of hp, atI_nat (j := 0) rfl, _, rfl, q, _, _, _, rfl, rfl, SqT.of hq', atI_nat (j := 0) rfl, _, rfl, e0.vs, _, rfl, ?_⟩
          by_cases h0 : x0 = .str (tx e.1)
          · rw [decide_eq_true h0]
            refine iteF ⟨_, rfl, p, _, _, _, rfl, rfl, SqT.of hp, atI_nat (j := 1) rfl, _, rfl, q, _, _, _, rfl, rfl, SqT.of hq', atI_nat (j := 1) rfl, x1, e.2.1, d1, rfl, e1.noint, r1, fun r hr1 => ⟨_, rfl, ?_⟩⟩
            cases r with
            | true =>
              refine iteT ⟨_, rfl, p, _, _, _, rfl, rfl, SqT.of hp, atI_nat (j := 2) rfl, _, rfl, q, _, _, _, rfl, rfl, SqT.of hq', atI_nat (j := 2) rfl, x2, e.2.2, d2, rfl, e2.noint, r2, fun r hr2 => k r ?_⟩
              rw [inj, hr2]
              exact ⟨fun z => ⟨(rd_str r0).mp h0, hr1.mp rfl, z⟩, fun z => z.2.2⟩
            | false =>
              refine iteF (k false ?_)
              rw [inj]
              exact ⟨fun z => absurd z Bool.false_ne_true, fun z => absurd (hr1.mpr z.2.1) Bool.false_ne_true⟩
          · rw [decide_eq_false h0]
            refine iteT (k false ?_)
            rw [inj]
            exact ⟨fun z => absurd z Bool.false_ne_true, fun z => absurd ((rd_str r0).mpr z.1) h0⟩
    · rw [decide_eq_false (show ¬ V.int ((xs.length : Nat) : Int) = V.int 3 from fun z => h3 (by injection z with z; omega))]
      refine iteT (k false ⟨fun z => absurd z Bool.false_ne_true, fun z => absurd ?_ h3⟩)
      rw [entD_eq] at z
      injection z with z
      rw [← hdl, z]; rfl
end
end Mr

namespace Mr
open PySem L2
section
variable {P : Program} {w : World} {K : PySem.W.Frag} {mg : Str → Option Value} {base : Heap}
theorem scITG : FnScope ["thing", "row", "told"] ["thing", "row"] (defScope s_is_tree) := ⟨rfl, rfl, rfl, by decide +kernel, rfl, by decide +kernel, by decide +kernel⟩
set_option maxHeartbeats 4000000 in
theorem ok_istreeg (a : At K mg "is_tree" s_is_tree ["thing", "row"]) (d_tree : Df P w K mg base 5 "tree" ["row"] spTree) (d_is_entry : Df P w K mg base 4 "is_entry" ["thing", "wanted"] spEntryG) (z_all : mg "all" = none) (z_isinstance : mg "isinstance" = none) (z_len : mg "len" = none) (z_list : mg "list" = none) (z_zip : mg "zip" = none) : Df P w K mg base 6 "is_tree" ["thing", "row"] spIsTreeG := by
  refine a.df fun f fd F => ?_
  refine F.ok scITG (fun vs H Q E h => ?_) (fun cdv A outer s H vs Q E hr h => ?_)
  · obtain ⟨_, _, _, _, rfl, _⟩ := h
    rfl
  · obtain ⟨b, x, l, d, rfl, hrow, hT, rd, k⟩ := h
    have hlen := (rowL_iff.mp hrow).1
    have hml := mirs_len l l.length
    have hnl : (treeN l).length = (mirs l l.length).length := by unfold treeN; rw [List.length_map]
    refine ⟨_, (pss_cons (ps_set (i := 2) scITG.nd rfl (Or.inl rfl) (pe_df d_tree hr rfl (pa_cons (pv 1) pa_nil)))
      (pss_cons (ps_if (PW.pt (pw_or (pt_not (pt_val (pe_callB call_isT (by rfl) z_isinstance bt_isinstance (pa_cons (pv 0) (pa_cons (pe_bltn (v := .ty "list") (by rfl) z_list bt_list rfl) pa_nil))))) (pw_or1 (pt_cmpR op_ne (pe_callB call_len_seq (by rfl) z_len bt_len (pa_cons (pv 0) pa_nil)) (pe_callB call_len_seq (by rfl) z_len bt_len (pa_cons (pv 2) pa_nil)) (nomark _))))) (pss_one (ps_ret pe_bl)) pss_nil)
      (pss_one (ps_ret (pe_callB (call_allB rfl) (by rfl) z_all bt_all (pa_cons (pe_compL (xs := ["given", "wanted"]) (ys := []) (ix := []) ⟨rfl, by decide +kernel, rfl, by decide +kernel, by decide +kernel, trivial, rfl, trivial⟩ rfl (pi_zip rfl z_zip (pa_cons (pv 0) (pa_cons (pv 2) pa_nil))) (fun C fp s H => pg_tup rfl (pgs_cons (pg_name (i := 0) (show List.Nodup ((["given", "wanted"] : List Str) ++ ([] : List Str)) by decide +kernel) rfl (Or.inl rfl)) (pgs_cons (pg_name (i := 1) (show List.Nodup ((["given", "wanted"] : List Str) ++ ([] : List Str)) by decide +kernel) rfl (Or.inl rfl)) pgs_nil))) gs2 (fun C fp s H => pts_nil) (fun C fp s H => (pe_df (X := cmpCx _ _ _ _ C fp s H) d_is_entry hr rfl (pa_cons (pv 0) (pa_cons (pv 1) pa_nil))))) pa_nil)))))), ?_⟩
    refine ⟨_, rfl, l, rfl, hrow, fun pt zs H1 hf1 hp1 hT1 s1 => ?_⟩
    rcases hT.kind (K := K) with ⟨p, xs, rfl, hp, hxl, he⟩ | ⟨⟨t, ty, hk⟩, hno⟩
    rotate_left
    · refine ⟨_, rfl, _, "list", _, false, rfl, TyOf.same s1 ty, hk, _, rfl, iteT (k false H1 ⟨fun z => absurd z Bool.false_ne_true, fun z => ?_⟩ s1)⟩
      rw [z] at rd
      obtain ⟨p, xs, e1, e2, _⟩ := rd_lst rd
      exact absurd e2 (hno p xs e1)
    obtain ⟨ds, rfl, rds⟩ := rd_ref_lst hp rd
    have hdl := rdws_len rds
    have hp' := s1 _ _ hp
    refine ⟨_, rfl, _, "list", _, true, rfl, .lst hp', by rfl, _, rfl, iteF ⟨_, rfl, p, _, rfl, .inl (SqL.of hp'), _, rfl, pt, _, rfl, .inl (SqL.of hp1), rfl, _, rfl, ?_⟩⟩
    have ed : (!decide (V.int ((xs.length : Nat) : Int) = V.int ((zs.length : Nat) : Int))) = !decide (xs.length = zs.length) := by
      congr 1
      apply decide_eq_decide.mpr
      constructor
      · intro z; injection z with z; omega
      · intro z; rw [z]
    rw [ed]
    by_cases hl : xs.length = zs.length
    · rw [decide_eq_true hl]
      have hz : xs.length ≤ sizeLine := by rw [sizeLine_eq]; omega
      refine iteF ⟨_, rfl, _, rfl, p, pt, _, _, rfl, hp', hp1, comp_zip (K := K) (xs := xs) (zs := zs) hz (fun i ys H' => Same H1 H' ∧ ∃ rs : List Bool, rs.length = i ∧ ys = rs.map V.bl ∧ ∀ j, j < i → (rs[j]? = some true ↔ ds[j]? = ((treeN l).map entD)[j]?)) ⟨Same.refl _, [], rfl, rfl, fun j hj => by omega⟩ (fun i ys H' ⟨s, _⟩ => ⟨s _ _ hp', s _ _ hp1⟩) ?_ ?_⟩
      · rintro i x y ys H' N T hx hy hyl ⟨s2, rs, hrl, rfl, hrs⟩ hTn hN
        have hi : i < (treeN l).length := by rw [← hT1.1]; exact (List.getElem?_eq_some_iff.mp hy).1
        obtain ⟨q2, rfl, hq2⟩ := hT1.2 i y _ hy (List.getElem?_eq_getElem hi)
        obtain ⟨dx, hdx, rdx⟩ := rdws_at rds hx
        have sA := (s1.trans s2).trans (Same.upd (o := .tup [x, .ref q2]) hTn)
        refine yes_ok (iteT ⟨_, rfl, _, rfl, b, x, q2, dx, (treeN l)[i], rfl, (he x (List.mem_of_getElem? hx)).same sA, rdx.mono sA, (Same.upd hTn) _ _ (s2 _ _ hq2), fun r hr => hN _ _ (by simp; omega) ⟨s2.trans (Same.upd hTn), rs ++ [r], by simp [hrl], by rw [List.map_append]; rfl, fun j hj => ?_⟩⟩)
        by_cases hji : j < i
        · rw [List.getElem?_append_left (by omega)]
          exact hrs j hji
        · have : j = i := by omega
          subst this
          rw [List.getElem?_append_right (by omega), hrl, Nat.sub_self, hdx, List.getElem?_map, List.getElem?_eq_getElem hi]
          show some r = some true ↔ some dx = some (entD (treeN l)[j])
          rw [Option.some.injEq, Option.some.injEq]
          exact hr
      · rintro ys H' hyl ⟨s2, rs, hrl, rfl, hrs⟩ p' hp'
        refine ⟨p', rs, rfl, SqL.of upd_same, k _ _ ?_ (s1.trans (s2.trans (Same.upd hp')))⟩
        have hmin : min xs.length zs.length = xs.length := by rw [← hl, Nat.min_self]
        rw [hmin] at hrl hrs
        have hlen2 : ds.length = ((treeN l).map entD).length := by rw [hdl, hl, hT1.1, List.length_map]
        constructor
        · intro z
          rw [List.all_eq_true] at z
          have : ds = (treeN l).map entD := by
            apply List.ext_getElem?
            intro j
            by_cases hj : j < xs.length
            · refine (hrs j hj).mp ?_
              have hjr : j < rs.length := by omega
              rw [List.getElem?_eq_getElem hjr]
              exact congrArg some (z _ (List.getElem_mem hjr))
            · rw [List.getElem?_eq_none (by omega), List.getElem?_eq_none (by omega)]
          rw [this]
        · intro z
          injection z with z
          rw [List.all_eq_true]
          intro r hr
          obtain ⟨j, hj⟩ := List.mem_iff_getElem?.mp hr
          have hjx : j < xs.length := by have := (List.getElem?_eq_some_iff.mp hj).1; omega
          have := (hrs j hjx).mpr (by rw [z])
          rw [hj] at this
          exact Option.some.inj this
    · rw [decide_eq_false hl]
      refine iteT (k false H1 ⟨fun z => absurd z Bool.false_ne_true, fun z => absurd ?_ hl⟩ s1)
      injection z with z
      rw [← hdl, z, List.length_map, hT1.1]
end
end Mr

namespace Mr
open PySem L2
section
variable {P : Program} {w : World} {K : PySem.W.Frag} {mg : Str → Option Value} {base : Heap}
theorem scB16 : FnScope ["_law_box_here", "_law_due", "_law_odd_here", "_law_at", "_law_text", "_law_inner", "_law_less", "_law_other", "_law_news", "_law_kind"] ["_law_box_here", "_law_due", "_law_odd_here"] (defScope s_law_bent) := ⟨rfl, rfl, rfl, by decide +kernel, rfl, by decide +kernel, by decide +kernel⟩
set_option maxHeartbeats 16000000 in
theorem ok_bent16 (a : At K mg "_law_bent" s_law_bent ["_law_box_here", "_law_due", "_law_odd_here"]) (d_law_take : Df P w K mg base 1 "_law_take" ["_law_box_here", "_law_many"] spTake) (z_len : mg "len" = none) (z_list : mg "list" = none) (z_tuple : mg "tuple" = none) : Df P w K mg base 2 "_law_bent" ["_law_box_here", "_law_due", "_law_odd_here"] spBent16 := by
  refine a.df fun f fd F => ?_
  refine F.ok scB16 (fun vs H Q E h => ?_) (fun cdv A outer s H vs Q E hr h => ?_)
  · obtain ⟨_, _, _, _, _, _, rfl, _⟩ := h
    rfl
  · obtain ⟨b, pd, n, xs, es, x, rfl, hb, hn, nbd, hpd, hT, hel, hes, hx, q⟩ := h
    have hxl : xs.length = es.length := hT.1
    refine ⟨_, (@pss_cons _ _ _ _ _ (@ps_if _ _ _ _ _ _ _ _ (pt_cmpR (op_eqNil hr.units0) (pv 1) (pe_lst pa_nil) (nomark _)) (@pss_one _ _ _ (@ps_ret _ _ _ _ (@pe_ix _ _ _ _ _ _ _ ix_list (@pe_lst _ _ _ _ (@pa_lst _ _ _ _ _ _  (@pe_lst _ _ _ _ (@pa_tup _ _ _ _ _ _ _  (@pe_tup _ _ _ _ _ (@pa_str _ _ _ _ _ _  (@pa_non _ _ _ _ _  (@pa_non _ _ _ _ _  pa_nil)))) pa_nil)) (@pa_lst _ _ _ _ _ _  (@pe_lst _ _ _ _ (@pa_non _ _ _ _ _  pa_nil)) (@pa_tup _ _ _ _ _ _ _  (@pe_tup _ _ _ _ _ pa_nil) (@pa_lst _ _ _ _ _ _  (@pe_lst _ _ _ _ (@pa_name _ _ _ _ _ _  (pv 2) pa_nil)) (@pa_str _ _ _ _ _ _  (@pa_lst _ _ _ _ _ _  (@pe_lst _ _ _ _ (@pa_lst _ _ _ _ _ _  (@pe_lst _ _ _ _ pa_nil) pa_nil)) pa_nil))))))) (pe_df d_law_take hr rfl (pa_cons (pv 0) (pa_cons pe_int pa_nil))) (fun _ _ => rfl)))) pss_nil)
      (@pss_cons _ _ _ _ _ (@ps_set _ _ 3 _ _ _ _ scB16.nd rfl (Or.inl rfl) (pe_df d_law_take hr rfl (pa_cons (pv 0) (pa_cons (pe_callB call_len_seq (by rfl) z_len bt_len (pa_cons (pv 1) pa_nil)) pa_nil))) rfl (Or.inl rfl))
      (@pss_cons _ _ _ _ _ (ps_asg (@pe_ix _ _ _ _ _ _ _ ix_list (pv 1) (pv 3) (fun _ _ => rfl)) (pg_tup rfl (pgs_cons (pg_name (i := 4) scB16.nd rfl (Or.inl rfl)) (pgs_cons (pg_name (i := 5) scB16.nd rfl (Or.inl rfl)) (pgs_cons (pg_name (i := 6) scB16.nd rfl (Or.inl rfl)) pgs_nil)))))
      (@pss_cons _ _ _ _ _ (@ps_set _ _ 7 _ _ _ _ scB16.nd rfl (Or.inl rfl) (@pe_ix _ _ _ _ _ _ _ ix_list (@pe_lst _ _ _ _ (@pa_non _ _ _ _ _  (@pa_name _ _ _ _ _ _  (pv 3) (@pa_int _ _ _ _ _ _  (@pa_bl _ _ _ _ _ _  (@pa_cmp _ _ _ _ _ _ _ _  (pe_cmpR op_eq pe_int pe_int (nomark _)) (@pa_name _ _ _ _ _ _  (pv 2) pa_nil))))))) (pe_df d_law_take hr rfl (pa_cons (pv 0) (pa_cons pe_int pa_nil))) (fun _ _ => rfl)) rfl (Or.inl rfl))
      (@pss_cons _ _ _ _ _ (@ps_set _ _ 8 _ _ _ _ scB16.nd rfl (Or.inl rfl) (@pe_lst _ _ _ _ (@pa_tup _ _ _ _ _ _ _  (@pe_tup _ _ _ _ _ (@pa_op _ _ _ _ _ _ _ _  (@pe_op _ _ _ _ _ _ _ _ op_addS (pv 4) pe_str) (@pa_name _ _ _ _ _ _  (pv 5) (@pa_name _ _ _ _ _ _  (pv 6) pa_nil)))) (@pa_tup _ _ _ _ _ _ _  (@pe_tup _ _ _ _ _ (@pa_name _ _ _ _ _ _  (pv 4) (@pa_name _ _ _ _ _ _  (pv 7) (@pa_name _ _ _ _ _ _  (pv 6) pa_nil)))) (@pa_tup _ _ _ _ _ _ _  (@pe_tup _ _ _ _ _ (@pa_name _ _ _ _ _ _  (pv 4) (@pa_name _ _ _ _ _ _  (pv 5) (@pa_name _ _ _ _ _ _  (pv 7) pa_nil)))) (@pa_call _ _ _ _ _ _ _ _  (pe_callTy call_list_of (by rfl) z_list bt_list (pa_cons (@pe_ix _ _ _ _ _ _ _ ix_list (pv 1) (pv 3) (fun _ _ => rfl)) pa_nil)) (@pa_sub _ _ _ _ _ _ _  (pe_slice sl_tup (@pe_ix _ _ _ _ _ _ _ ix_list (pv 1) (pv 3) (fun _ _ => rfl)) po_none (po_some pe_int)) pa_nil)))))) rfl (Or.inl rfl))
      (@pss_cons _ _ _ _ _ (@ps_set _ _ 8 _ _ _ _ scB16.nd rfl (Or.inl rfl) (@pe_op _ _ _ _ _ _ _ _ op_cat (pv 8) (@pe_lst _ _ _ _ (@pa_op _ _ _ _ _ _ _ _  (@pe_op _ _ _ _ _ _ _ _ op_catT (@pe_ix _ _ _ _ _ _ _ ix_list (pv 1) (pv 3) (fun _ _ => rfl)) (@pe_tup _ _ _ _ _ (@pa_non _ _ _ _ _  pa_nil))) (@pa_tup _ _ _ _ _ _ _  (@pe_tup _ _ _ _ _ (@pa_name _ _ _ _ _ _  (pv 2) (@pa_name _ _ _ _ _ _  (pv 5) (@pa_name _ _ _ _ _ _  (pv 6) pa_nil)))) (@pa_tup _ _ _ _ _ _ _  (@pe_tup _ _ _ _ _ (@pa_name _ _ _ _ _ _  (pv 4) (@pa_name _ _ _ _ _ _  (pv 6) (@pa_name _ _ _ _ _ _  (pv 5) pa_nil)))) pa_nil))))) rfl (Or.inl rfl))
      (@pss_cons _ _ _ _ _ (@ps_set _ _ 9 _ _ _ _ scB16.nd rfl (Or.inl rfl) (pe_df d_law_take hr rfl (pa_cons (pv 0) (pa_cons pe_int pa_nil))) rfl (Or.inl rfl))
      (@pss_cons _ _ _ _ _ (@ps_if _ _ _ _ _ _ _ _ (pt_cmpR op_lt (pv 9) pe_int (nomark _)) (@pss_one _ _ _ (@ps_ret _ _ _ _ (@pe_op _ _ _ _ _ _ _ _ op_cat (@pe_op _ _ _ _ _ _ _ _ op_cat (pe_slice sl_list (pv 1) po_none (po_some (pv 3))) (@pe_lst _ _ _ _ (@pa_sub _ _ _ _ _ _ _  (@pe_ix _ _ _ _ _ _ _ ix_list (pv 8) (pv 9) (fun _ _ => rfl)) pa_nil))) (pe_slice sl_list (pv 1) (po_some (@pe_op _ _ _ _ _ _ _ _ op_add (pv 3) pe_int)) po_none)))) pss_nil)
      (@pss_one _ _ _ (@ps_ret _ _ _ _ (@pe_ix _ _ _ _ _ _ _ ix_list (@pe_lst _ _ _ _ (@pa_op _ _ _ _ _ _ _ _  (@pe_op _ _ _ _ _ _ _ _ op_cat (pe_slice sl_list (pv 1) po_none (po_some (pv 3))) (pe_slice sl_list (pv 1) (po_some (@pe_op _ _ _ _ _ _ _ _ op_add (pv 3) pe_int)) po_none)) (@pa_op _ _ _ _ _ _ _ _  (@pe_op _ _ _ _ _ _ _ _ op_cat (@pe_op _ _ _ _ _ _ _ _ op_cat (pe_slice sl_list (pv 1) po_none (po_some (pv 3))) (@pe_lst _ _ _ _ (@pa_sub _ _ _ _ _ _ _  (@pe_ix _ _ _ _ _ _ _ ix_list (pv 1) (pv 3) (fun _ _ => rfl)) pa_nil))) (pe_slice sl_list (pv 1) (po_some (pv 3)) po_none)) (@pa_op _ _ _ _ _ _ _ _  (@pe_op _ _ _ _ _ _ _ _ op_cat (pe_slice sl_list (pv 1) (po_some (pv 3)) po_none) (pe_slice sl_list (pv 1) po_none (po_some (pv 3)))) (@pa_call _ _ _ _ _ _ _ _  (pe_callTy call_tuple_of (by rfl) z_tuple bt_tuple (pa_cons (pv 1) pa_nil)) pa_nil))))) (@pe_op _ _ _ _ _ _ _ _ op_sub (pv 9) pe_int) (fun _ _ => rfl)))))))))))), ?_⟩
    refine ⟨_, rfl, (by show 0 ≤ sizeLine; omega), fun pe hpe => ?_⟩
    have s1 := Same.upd (o := .lst []) hpe
    have fpe : upd H pe (.lst []) pe = some (.lst []) := upd_same
    generalize upd H pe (.lst []) = H1 at s1 fpe
    have hb1 := s1 _ _ hb
    have hpd1 := s1 _ _ hpd
    have hT1 : TreeV H1 xs es := hT.mono fun p e h => s1 _ _ h
    have npb : pd ≠ b := nbd.symm
    refine ⟨pd, pe, _, rfl, rfl, hpd1, fpe, _, rfl, ?_⟩
    have la : Elt H (.str (tx [97])) ∧ NiceV (.str (tx [97])) := txt_ok (by intro c hc; rw [List.mem_singleton.mp hc]; first | decide | exact mem_lets.mpr (by omega)) (by decide)
    by_cases hk : xs = []
    · have eb : (if false = true then !xs.isEmpty else xs.isEmpty) = true := by rw [hk]; rfl
      rw [eb]
      refine iteT ?_
      refine ⟨(by show 3 ≤ sizeLine; decide), fun Gp1 Gh1 => ?_⟩
      have Gs1 := Same.upd (o := .tup [V.str ("a" : Str), V.non, V.non]) Gh1
      have Gf1 : upd H1 Gp1 (.tup [V.str ("a" : Str), V.non, V.non]) Gp1 = some (.tup [V.str ("a" : Str), V.non, V.non]) := upd_same
      have Gt1 : Same H1 (upd H1 Gp1 (.tup [V.str ("a" : Str), V.non, V.non])) := Gs1
      generalize upd H1 Gp1 (.tup [V.str ("a" : Str), V.non, V.non]) = G1 at Gs1 Gf1 Gt1
      refine ⟨(by show 1 ≤ sizeLine; decide), fun Gp2 Gh2 => ?_⟩
      have Gs2 := Same.upd (o := .lst [V.ref Gp1]) Gh2
      have Gf2 : upd G1 Gp2 (.lst [V.ref Gp1]) Gp2 = some (.lst [V.ref Gp1]) := upd_same
      have Gt2 : Same H1 (upd G1 Gp2 (.lst [V.ref Gp1])) := Gt1.trans Gs2
      generalize upd G1 Gp2 (.lst [V.ref Gp1]) = G2 at Gs2 Gf2 Gt2
      refine ⟨(by show 1 ≤ sizeLine; decide), fun Gp3 Gh3 => ?_⟩
      have Gs3 := Same.upd (o := .lst [V.non]) Gh3
      have Gf3 : upd G2 Gp3 (.lst [V.non]) Gp3 = some (.lst [V.non]) := upd_same
      have Gt3 : Same H1 (upd G2 Gp3 (.lst [V.non])) := Gt2.trans Gs3
      generalize upd G2 Gp3 (.lst [V.non]) = G3 at Gs3 Gf3 Gt3
      refine ⟨(by show 0 ≤ sizeLine; decide), fun Gp4 Gh4 => ?_⟩
      have Gs4 := Same.upd (o := .tup []) Gh4
      have Gf4 : upd G3 Gp4 (.tup []) Gp4 = some (.tup []) := upd_same
      have Gt4 : Same H1 (upd G3 Gp4 (.tup [])) := Gt3.trans Gs4
      generalize upd G3 Gp4 (.tup []) = G4 at Gs4 Gf4 Gt4
      refine ⟨_, rfl, (by show 1 ≤ sizeLine; decide), fun Gp5 Gh5 => ?_⟩
      have Gs5 := Same.upd (o := .lst [x]) Gh5
      have Gf5 : upd G4 Gp5 (.lst [x]) Gp5 = some (.lst [x]) := upd_same
      have Gt5 : Same H1 (upd G4 Gp5 (.lst [x])) := Gt4.trans Gs5
      generalize upd G4 Gp5 (.lst [x]) = G5 at Gs5 Gf5 Gt5
      refine ⟨(by show 0 ≤ sizeLine; decide), fun Gp6 Gh6 => ?_⟩
      have Gs6 := Same.upd (o := .lst []) Gh6
      have Gf6 : upd G5 Gp6 (.lst []) Gp6 = some (.lst []) := upd_same
      have Gt6 : Same H1 (upd G5 Gp6 (.lst [])) := Gt5.trans Gs6
      generalize upd G5 Gp6 (.lst []) = G6 at Gs6 Gf6 Gt6
      refine ⟨(by show 1 ≤ sizeLine; decide), fun Gp7 Gh7 => ?_⟩
      have Gs7 := Same.upd (o := .lst [V.ref Gp6]) Gh7
      have Gf7 : upd G6 Gp7 (.lst [V.ref Gp6]) Gp7 = some (.lst [V.ref Gp6]) := upd_same
      have Gt7 : Same H1 (upd G6 Gp7 (.lst [V.ref Gp6])) := Gt6.trans Gs7
      generalize upd G6 Gp7 (.lst [V.ref Gp6]) = G7 at Gs7 Gf7 Gt7
      refine ⟨(by show 6 ≤ sizeLine; decide), fun Gp8 Gh8 => ?_⟩
      have Gs8 := Same.upd (o := .lst [V.ref Gp2, V.ref Gp3, V.ref Gp4, V.ref Gp5, V.str ("" : Str), V.ref Gp7]) Gh8
      have Gf8 : upd G7 Gp8 (.lst [V.ref Gp2, V.ref Gp3, V.ref Gp4, V.ref Gp5, V.str ("" : Str), V.ref Gp7]) Gp8 = some (.lst [V.ref Gp2, V.ref Gp3, V.ref Gp4, V.ref Gp5, V.str ("" : Str), V.ref Gp7]) := upd_same
      have Gt8 : Same H1 (upd G7 Gp8 (.lst [V.ref Gp2, V.ref Gp3, V.ref Gp4, V.ref Gp5, V.str ("" : Str), V.ref Gp7])) := Gt7.trans Gs8
      generalize upd G7 Gp8 (.lst [V.ref Gp2, V.ref Gp3, V.ref Gp4, V.ref Gp5, V.str ("" : Str), V.ref Gp7]) = G8 at Gs8 Gf8 Gt8
      refine ⟨_, rfl, b, n, 6, rfl, Gt8 _ _ hb1, hn, by decide, by decide, fun d n' H' hd hd' hn' hb' k => ?_⟩
      obtain ⟨v, hv, hm⟩ := at_ofInt (xs := [V.ref Gp2, V.ref Gp3, V.ref Gp4, V.ref Gp5, V.str ("" : Str), V.ref Gp7]) hd (by show d < 6; exact hd')
      have hO : Odd H' x := ((hx.same s1).same Gt8).but (Gt8 _ _ hb1) k
      refine ⟨Gp8, _, _, v, rfl, rfl, SqL.of (k _ _ Gf8 ((ne_of_none (Gt7 _ _ hb1) Gh8).symm)), hv, ?_⟩
      have key : Tg b H' v ∧ ∀ p, v = .ref p → H p = none := ?_
      · exact q v n' H' key.1 key.2 hn' hb' ((But.of (s1.trans Gt8)).trans k)
      have hn1 : Elt H' V.non ∧ NiceV V.non := ⟨.odd _ .non, trivial⟩
      simp only [List.mem_cons, List.not_mem_nil, or_false] at hm
      rcases hm with e | e | e | e | e | e
      all_goals subst e
      · refine ⟨.lst Gp2 _ (k _ _ (Gs8 _ _ (Gs7 _ _ (Gs6 _ _ (Gs5 _ _ (Gs4 _ _ (Gs3 _ _ Gf2)))))) ((ne_of_none (Gt1 _ _ hb1) Gh2).symm)) ((ne_of_none (Gt1 _ _ hb1) Gh2).symm) (by show 1 ≤ 60; decide) fun y hy => ?_, fun p e => by cases e; exact (s1.trans Gt1).free Gh2⟩
        rw [List.mem_singleton.mp hy]
        refine .tup Gp1 _ (k _ _ (Gs8 _ _ (Gs7 _ _ (Gs6 _ _ (Gs5 _ _ (Gs4 _ _ (Gs3 _ _ (Gs2 _ _ Gf1))))))) ((ne_of_none (hb1) Gh1).symm)) (by show 3 ≤ 5; decide) fun z hz => ?_
        simp only [List.mem_cons, List.not_mem_nil, or_false] at hz
        rcases hz with rfl | rfl | rfl
        · rw [e_a]; exact ⟨.str _ (by decide) (by decide), la.2⟩
        · exact hn1
        · exact hn1
      · exact ⟨.lst Gp3 _ (k _ _ (Gs8 _ _ (Gs7 _ _ (Gs6 _ _ (Gs5 _ _ (Gs4 _ _ Gf3))))) ((ne_of_none (Gt2 _ _ hb1) Gh3).symm)) ((ne_of_none (Gt2 _ _ hb1) Gh3).symm) (by show 1 ≤ 60; decide) fun y hy => by rw [List.mem_singleton.mp hy]; exact .lf _ hn1.1 hn1.2, fun p e => by cases e; exact (s1.trans Gt2).free Gh3⟩
      · exact ⟨.tup Gp4 _ (k _ _ (Gs8 _ _ (Gs7 _ _ (Gs6 _ _ (Gs5 _ _ Gf4)))) ((ne_of_none (Gt3 _ _ hb1) Gh4).symm)) (by decide) fun y hy => (by cases hy), fun p e => by cases e; exact (s1.trans Gt3).free Gh4⟩
      · exact ⟨.lst Gp5 _ (k _ _ (Gs8 _ _ (Gs7 _ _ (Gs6 _ _ Gf5))) ((ne_of_none (Gt4 _ _ hb1) Gh5).symm)) ((ne_of_none (Gt4 _ _ hb1) Gh5).symm) (by show 1 ≤ 60; decide) fun y hy => by rw [List.mem_singleton.mp hy]; exact .lf _ (.odd _ hO) hO.nice, fun p e => by cases e; exact (s1.trans Gt4).free Gh5⟩
      · refine ⟨.en _ (.lf _ (.str _ (by decide) (by decide)) ⟨[], e_nil, .inl fun c hc => by cases hc⟩), fun p e => by cases e⟩
      · refine ⟨.lst Gp7 _ (k _ _ (Gs8 _ _ Gf7) ((ne_of_none (Gt6 _ _ hb1) Gh7).symm)) ((ne_of_none (Gt6 _ _ hb1) Gh7).symm) (by show 1 ≤ 60; decide) fun y hy => ?_, fun p e => by cases e; exact (s1.trans Gt6).free Gh7⟩
        rw [List.mem_singleton.mp hy]
        exact .lst Gp6 [] (k _ _ (Gs8 _ _ (Gs7 _ _ Gf6)) ((ne_of_none (Gt5 _ _ hb1) Gh6).symm)) ((ne_of_none (Gt5 _ _ hb1) Gh6).symm) (by decide) fun z hz => by cases hz
    · have eb : (if false = true then !xs.isEmpty else xs.isEmpty) = false := by
        cases hks2 : xs with
        | nil => exact absurd hks2 hk
        | cons _ _ => rfl
      rw [eb]
      refine iteF ?_
      have hpos : 0 < xs.length := List.length_pos_iff.mpr hk
      refine ⟨_, rfl, _, rfl, pd, _, rfl, .inl (SqL.of hpd1), b, n, _, rfl, hb1, hn, by omega, by omega, fun d n2 H2 hd0 hd1 hn2 hb2 k2 => ?_⟩
      obtain ⟨j, rfl⟩ := Int.eq_ofNat_of_zero_le hd0
      have hj : j < xs.length := by omega
      have hje : j < es.length := by omega
      have hpd2 := k2 _ _ hpd1 npb
      have tb : ∀ {G1 G2 : Hp} {m : Int}, But b G1 G2 → G1 b = some (.lst [.int m]) → TreeV G1 xs es → TreeV G2 xs es := fun kk hh tt => tt.mono fun p e h => kk _ _ h (ne_of h hh (by intro z; cases z))
      have hT2 := tb k2 hb1 hT1
      obtain ⟨qe, hqe, hq2⟩ := hT2.2 j _ _ (List.getElem?_eq_getElem hj) (List.getElem?_eq_getElem hje)
      have hee : es[j] ∈ es := List.getElem_mem hje
      generalize es[j] = e at hq2 hee
      have hat : atI xs (j : Int) = some (.ref qe) := by rw [← hqe]; exact atI_nat (List.getElem?_eq_getElem hj)
      have hq2' : H2 qe = some (.tup [V.str (tx e.1), optV e.2.1, optV e.2.2]) := hq2
      have hx2 : Odd H2 x := (hx.same s1).but hb1 k2
      refine ⟨_, rfl, _, rfl, pd, _, _, .ref qe, rfl, rfl, SqL.of hpd2, hat, qe, _, rfl, SqT.of hq2', rfl, _, _, rfl, _, _, rfl, _, _, rfl, rfl, ?_⟩
      refine ⟨_, rfl, rfl, _, rfl, (by show 6 ≤ sizeLine; decide), fun Op1 Oh1 => ?_⟩
      have Os1 := Same.upd (o := .lst [V.non, V.int (j : Int), V.int 0, V.bl true, V.bl (decide (V.int 0 = V.int 1)), x]) Oh1
      have Of1 : upd H2 Op1 (.lst [V.non, V.int (j : Int), V.int 0, V.bl true, V.bl (decide (V.int 0 = V.int 1)), x]) Op1 = some (.lst [V.non, V.int (j : Int), V.int 0, V.bl true, V.bl (decide (V.int 0 = V.int 1)), x]) := upd_same
      have Ot1 : Same H2 (upd H2 Op1 (.lst [V.non, V.int (j : Int), V.int 0, V.bl true, V.bl (decide (V.int 0 = V.int 1)), x])) := Os1
      generalize upd H2 Op1 (.lst [V.non, V.int (j : Int), V.int 0, V.bl true, V.bl (decide (V.int 0 = V.int 1)), x]) = O1 at Os1 Of1 Ot1
      have hb3 := Ot1 _ _ hb2
      have nOb : Op1 ≠ b := (ne_of_none hb2 Oh1).symm
      refine ⟨_, rfl, b, n2, 6, rfl, hb3, hn2, by decide, by decide, fun d3 n5 H5 hd30 hd31 hn5 hb5 k5 => ?_⟩
      obtain ⟨ov, hov, hom⟩ := at_ofInt (xs := [V.non, V.int (j : Int), V.int 0, V.bl true, V.bl (decide (V.int 0 = V.int 1)), x]) hd30 (by show d3 < 6; exact hd31)
      have hx5 : Odd H5 x := (hx2.same Ot1).but hb3 k5
      have hovE : ∀ {G : Hp}, Odd G x → Elt G ov ∧ NiceV ov := fun {G} hG => by
        simp only [List.mem_cons, List.not_mem_nil, or_false] at hom
        rcases hom with e | e | e | e | e | e
        all_goals subst e
        · exact ⟨.odd _ .non, trivial⟩
        · exact ⟨.nat (by omega), .inr (.inr ⟨j, by omega, rfl⟩)⟩
        · exact ⟨.int 0 (by decide), .inr (.inr ⟨0, by decide, rfl⟩)⟩
        · exact ⟨.bl _, trivial⟩
        · exact ⟨.bl _, trivial⟩
        · exact ⟨.odd _ hG, hG.nice⟩
      refine ⟨Op1, _, _, ov, rfl, rfl, SqL.of (k5 _ _ Of1 nOb), hov, ?_⟩
      have hpd5 := k5 _ _ (Ot1 _ _ hpd2) npb
      have hT5 : TreeV H5 xs es := tb k5 hb3 (hT2.mono fun p e h => Ot1 _ _ h)
      have hq5 : H5 qe = some (.tup [V.str (tx e.1), optV e.2.1, optV e.2.2]) := k5 _ _ (Ot1 _ _ hq2') (ne_of (Ot1 _ _ hq2') hb3 (by intro z; cases z))
      have e2 : cutV [V.str (tx e.1), optV e.2.1, optV e.2.2] none (some (2 : Int)) = [V.str (tx e.1), optV e.2.1] := cutV_to [V.str (tx e.1), optV e.2.1, optV e.2.2] 2
      have B5 : But b H H5 := ((But.of s1).trans k2).trans ((But.of Ot1).trans k5)
      refine ⟨_, rfl, e.1, [97], rfl, congrArg V.str e_a, (by rw [sizeLine_eq]; have := (hes e hee).2; show e.1.length + 1 ≤ _; omega), _, rfl, _, rfl, (by show 3 ≤ sizeLine; decide), fun Np1 Nh1 => ?_⟩
      have Ns1 := Same.upd (o := .tup [V.str (tx (e.1 ++ [97])), optV e.2.1, optV e.2.2]) Nh1
      have Nf1 : upd H5 Np1 (.tup [V.str (tx (e.1 ++ [97])), optV e.2.1, optV e.2.2]) Np1 = some (.tup [V.str (tx (e.1 ++ [97])), optV e.2.1, optV e.2.2]) := upd_same
      have Nt1 : Same H5 (upd H5 Np1 (.tup [V.str (tx (e.1 ++ [97])), optV e.2.1, optV e.2.2])) := Ns1
      generalize upd H5 Np1 (.tup [V.str (tx (e.1 ++ [97])), optV e.2.1, optV e.2.2]) = N1 at Ns1 Nf1 Nt1
      refine ⟨_, rfl, _, rfl, _, rfl, (by show 3 ≤ sizeLine; decide), fun Np2 Nh2 => ?_⟩
      have Ns2 := Same.upd (o := .tup [V.str (tx e.1), ov, optV e.2.2]) Nh2
      have Nf2 : upd N1 Np2 (.tup [V.str (tx e.1), ov, optV e.2.2]) Np2 = some (.tup [V.str (tx e.1), ov, optV e.2.2]) := upd_same
      have Nt2 : Same H5 (upd N1 Np2 (.tup [V.str (tx e.1), ov, optV e.2.2])) := Nt1.trans Ns2
      generalize upd N1 Np2 (.tup [V.str (tx e.1), ov, optV e.2.2]) = N2 at Ns2 Nf2 Nt2
      refine ⟨_, rfl, _, rfl, _, rfl, (by show 3 ≤ sizeLine; decide), fun Np3 Nh3 => ?_⟩
      have Ns3 := Same.upd (o := .tup [V.str (tx e.1), optV e.2.1, ov]) Nh3
      have Nf3 : upd N2 Np3 (.tup [V.str (tx e.1), optV e.2.1, ov]) Np3 = some (.tup [V.str (tx e.1), optV e.2.1, ov]) := upd_same
      have Nt3 : Same H5 (upd N2 Np3 (.tup [V.str (tx e.1), optV e.2.1, ov])) := Nt2.trans Ns3
      generalize upd N2 Np3 (.tup [V.str (tx e.1), optV e.2.1, ov]) = N3 at Ns3 Nf3 Nt3
      refine ⟨_, rfl, _, rfl, pd, _, _, .ref qe, rfl, rfl, SqL.of (Nt3 _ _ hpd5), hat, qe, _, rfl, .inr (SqT.of (Nt3 _ _ hq5)), fun Np4 Nh4 => ?_⟩
      have Ns4 := Same.upd (o := .lst [V.str (tx e.1), optV e.2.1, optV e.2.2]) Nh4
      have Nf4 : upd N3 Np4 (.lst [V.str (tx e.1), optV e.2.1, optV e.2.2]) Np4 = some (.lst [V.str (tx e.1), optV e.2.1, optV e.2.2]) := upd_same
      have Nt4 : Same H5 (upd N3 Np4 (.lst [V.str (tx e.1), optV e.2.1, optV e.2.2])) := Nt3.trans Ns4
      generalize upd N3 Np4 (.lst [V.str (tx e.1), optV e.2.1, optV e.2.2]) = N4 at Ns4 Nf4 Nt4
      refine ⟨_, rfl, _, rfl, pd, _, _, .ref qe, rfl, rfl, SqL.of (Nt4 _ _ hpd5), hat, _, rfl, qe, _, rfl, SqT.of (Nt4 _ _ hq5), (show ¬ (HT.sIx 3 0 none = 0 ∧ HT.sIx 3 3 (some 2) = 3) by decide), fun Np5 Nh5 => ?_⟩
      rw [e2]
      have Ns5 := Same.upd (o := .tup [V.str (tx e.1), optV e.2.1]) Nh5
      have Nf5 : upd N4 Np5 (.tup [V.str (tx e.1), optV e.2.1]) Np5 = some (.tup [V.str (tx e.1), optV e.2.1]) := upd_same
      have Nt5 : Same H5 (upd N4 Np5 (.tup [V.str (tx e.1), optV e.2.1])) := Nt4.trans Ns5
      generalize upd N4 Np5 (.tup [V.str (tx e.1), optV e.2.1]) = N5 at Ns5 Nf5 Nt5
      refine ⟨(by show 5 ≤ sizeLine; decide), fun Np6 Nh6 => ?_⟩
      have Ns6 := Same.upd (o := .lst [V.ref Np1, V.ref Np2, V.ref Np3, V.ref Np4, V.ref Np5]) Nh6
      have Nf6 : upd N5 Np6 (.lst [V.ref Np1, V.ref Np2, V.ref Np3, V.ref Np4, V.ref Np5]) Np6 = some (.lst [V.ref Np1, V.ref Np2, V.ref Np3, V.ref Np4, V.ref Np5]) := upd_same
      have Nt6 : Same H5 (upd N5 Np6 (.lst [V.ref Np1, V.ref Np2, V.ref Np3, V.ref Np4, V.ref Np5])) := Nt5.trans Ns6
      generalize upd N5 Np6 (.lst [V.ref Np1, V.ref Np2, V.ref Np3, V.ref Np4, V.ref Np5]) = N6 at Ns6 Nf6 Nt6
      refine ⟨_, rfl, _, rfl, _, rfl, pd, _, _, .ref qe, rfl, rfl, SqL.of (Nt6 _ _ hpd5), hat, (by show 1 ≤ sizeLine; decide), fun Np7 Nh7 => ?_⟩
      have Ns7 := Same.upd (o := .tup [V.non]) Nh7
      have Nf7 : upd N6 Np7 (.tup [V.non]) Np7 = some (.tup [V.non]) := upd_same
      have Nt7 : Same H5 (upd N6 Np7 (.tup [V.non])) := Nt6.trans Ns7
      generalize upd N6 Np7 (.tup [V.non]) = N7 at Ns7 Nf7 Nt7
      refine ⟨qe, Np7, _, _, rfl, rfl, SqT.of (Nt7 _ _ hq5), SqT.of Nf7, List.cons_ne_nil _ _, (by show 3 + 1 ≤ sizeLine; decide), fun z => absurd z (List.cons_ne_nil _ _), fun _ => fun Np8 Nh8 => ?_⟩
      have Ns8 := Same.upd (o := .tup ([V.str (tx e.1), optV e.2.1, optV e.2.2] ++ [V.non])) Nh8
      have Nf8 : upd N7 Np8 (.tup ([V.str (tx e.1), optV e.2.1, optV e.2.2] ++ [V.non])) Np8 = some (.tup ([V.str (tx e.1), optV e.2.1, optV e.2.2] ++ [V.non])) := upd_same
      have Nt8 : Same H5 (upd N7 Np8 (.tup ([V.str (tx e.1), optV e.2.1, optV e.2.2] ++ [V.non]))) := Nt7.trans Ns8
      generalize upd N7 Np8 (.tup ([V.str (tx e.1), optV e.2.1, optV e.2.2] ++ [V.non])) = N8 at Ns8 Nf8 Nt8
      refine ⟨_, rfl, _, rfl, _, rfl, (by show 3 ≤ sizeLine; decide), fun Np9 Nh9 => ?_⟩
      have Ns9 := Same.upd (o := .tup [x, optV e.2.1, optV e.2.2]) Nh9
      have Nf9 : upd N8 Np9 (.tup [x, optV e.2.1, optV e.2.2]) Np9 = some (.tup [x, optV e.2.1, optV e.2.2]) := upd_same
      have Nt9 : Same H5 (upd N8 Np9 (.tup [x, optV e.2.1, optV e.2.2])) := Nt8.trans Ns9
      generalize upd N8 Np9 (.tup [x, optV e.2.1, optV e.2.2]) = N9 at Ns9 Nf9 Nt9
      refine ⟨_, rfl, _, rfl, _, rfl, (by show 3 ≤ sizeLine; decide), fun Np10 Nh10 => ?_⟩
      have Ns10 := Same.upd (o := .tup [V.str (tx e.1), optV e.2.2, optV e.2.1]) Nh10
      have Nf10 : upd N9 Np10 (.tup [V.str (tx e.1), optV e.2.2, optV e.2.1]) Np10 = some (.tup [V.str (tx e.1), optV e.2.2, optV e.2.1]) := upd_same
      have Nt10 : Same H5 (upd N9 Np10 (.tup [V.str (tx e.1), optV e.2.2, optV e.2.1])) := Nt9.trans Ns10
      generalize upd N9 Np10 (.tup [V.str (tx e.1), optV e.2.2, optV e.2.1]) = N10 at Ns10 Nf10 Nt10
      refine ⟨(by show 3 ≤ sizeLine; decide), fun Np11 Nh11 => ?_⟩
      have Ns11 := Same.upd (o := .lst [V.ref Np8, V.ref Np9, V.ref Np10]) Nh11
      have Nf11 : upd N10 Np11 (.lst [V.ref Np8, V.ref Np9, V.ref Np10]) Np11 = some (.lst [V.ref Np8, V.ref Np9, V.ref Np10]) := upd_same
      have Nt11 : Same H5 (upd N10 Np11 (.lst [V.ref Np8, V.ref Np9, V.ref Np10])) := Nt10.trans Ns11
      generalize upd N10 Np11 (.lst [V.ref Np8, V.ref Np9, V.ref Np10]) = N11 at Ns11 Nf11 Nt11
      refine ⟨Np6, Np11, _, _, rfl, rfl, (Ns11 _ _ (Ns10 _ _ (Ns9 _ _ (Ns8 _ _ (Ns7 _ _ Nf6))))), Nf11, (by show 5 + 3 ≤ sizeLine; decide), fun Np12 Nh12 => ?_⟩
      have Ns12 := Same.upd (o := .lst ([V.ref Np1, V.ref Np2, V.ref Np3, V.ref Np4, V.ref Np5] ++ [V.ref Np8, V.ref Np9, V.ref Np10])) Nh12
      have Nf12 : upd N11 Np12 (.lst ([V.ref Np1, V.ref Np2, V.ref Np3, V.ref Np4, V.ref Np5] ++ [V.ref Np8, V.ref Np9, V.ref Np10])) Np12 = some (.lst ([V.ref Np1, V.ref Np2, V.ref Np3, V.ref Np4, V.ref Np5] ++ [V.ref Np8, V.ref Np9, V.ref Np10])) := upd_same
      have Nt12 : Same H5 (upd N11 Np12 (.lst ([V.ref Np1, V.ref Np2, V.ref Np3, V.ref Np4, V.ref Np5] ++ [V.ref Np8, V.ref Np9, V.ref Np10]))) := Nt11.trans Ns12
      generalize upd N11 Np12 (.lst ([V.ref Np1, V.ref Np2, V.ref Np3, V.ref Np4, V.ref Np5] ++ [V.ref Np8, V.ref Np9, V.ref Np10])) = N12 at Ns12 Nf12 Nt12
      have hb6 := Nt12 _ _ hb5
      refine ⟨_, rfl, b, n5, 12, rfl, hb6, hn5, by decide, by decide, fun d7 n7 H7 hd70 hd71 hn7 hb7 k7 => ?_⟩
      have hpd7 := k7 _ _ (Nt12 _ _ hpd5) npb
      have hx7 : Odd H7 x := (hx5.same Nt12).but hb6 k7
      have hT7 : TreeV H7 xs es := tb k7 hb6 (hT5.mono fun p e h => Nt12 _ _ h)
      have B7 : But b H H7 := B5.trans ((But.of Nt12).trans k7)
      have hen : ∀ {G : Hp}, TreeV G xs es → ∀ y ∈ xs, En b G y := fun hG => tree_en hG hes
      have eT : cutV xs none (some ((j : Nat) : Int)) = xs.take j := cutV_to xs j
      have eF : cutV xs (some (((j : Nat) : Int) + 1)) none = xs.drop (j + 1) := by
        have e : ((j : Nat) : Int) + 1 = ((j + 1 : Nat) : Int) := by omega
        rw [e]; exact cutV_from xs (j + 1)
      have eG : cutV xs (some ((j : Nat) : Int)) none = xs.drop j := cutV_from xs j
      have hlT : (xs.take j).length ≤ 20 := by rw [List.length_take]; omega
      have hlD : ∀ i, (xs.drop i).length ≤ 20 := fun i => by rw [List.length_drop]; omega
      have sz : ∀ {m : Nat}, m ≤ 100 → m ≤ sizeLine := fun h => by rw [sizeLine_eq]; omega
      refine ⟨_, rfl, _, _, rfl, rfl, _, rfl, ite2 (fun h1 => ?_) (fun h1 => ?_)⟩
      · have h2 : d7 < 8 := of_decide_eq_true h1
        obtain ⟨v, hv, hm⟩ := at_ofInt (xs := ([V.ref Np1, V.ref Np2, V.ref Np3, V.ref Np4, V.ref Np5] ++ [V.ref Np8, V.ref Np9, V.ref Np10])) hd70 (by show d7 < 8; exact h2)
        have hN7 : H7 Np12 = some (.lst ([V.ref Np1, V.ref Np2, V.ref Np3, V.ref Np4, V.ref Np5] ++ [V.ref Np8, V.ref Np9, V.ref Np10])) := k7 _ _ Nf12 ((ne_of_none (Nt11 _ _ hb5) Nh12).symm)
        have sm := hes e hee
        have tt : ∀ {G : Hp}, Elt G (.str (tx e.1)) ∧ NiceV (.str (tx e.1)) := txt_ok sm.1.1 (by have := sm.2; omega)
        have ta : ∀ {G : Hp}, Elt G (.str (tx (e.1 ++ [97]))) ∧ NiceV (.str (tx (e.1 ++ [97]))) := txt_ok (fun c hc => by
          rcases List.mem_append.mp hc with hc | hc
          · exact sm.1.1 c hc
          · rw [List.mem_singleton.mp hc]; first | decide | exact mem_lets.mpr (by omega)) (by have := sm.2; rw [List.length_append]; show _ + 1 ≤ _; omega)
        have oi : ∀ {G : Hp}, Elt G (optV e.2.1) ∧ NiceV (optV e.2.1) := optV_ok sm.1.2.1
        have ol : ∀ {G : Hp}, Elt G (optV e.2.2) ∧ NiceV (optV e.2.2) := optV_ok sm.1.2.2
        have vo := hovE hx7
        have tup : ∀ {p : Addr} {ys : List V}, H7 p = some (.tup ys) → ys.length ≤ 5 → (∀ y ∈ ys, Elt H7 y ∧ NiceV y) → En b H7 (.ref p) := fun h1 h2 h3 => .tup _ _ h1 h2 h3
        have m3 : ∀ {u1 u2 u3 : V}, (Elt H7 u1 ∧ NiceV u1) → (Elt H7 u2 ∧ NiceV u2) → (Elt H7 u3 ∧ NiceV u3) → ∀ y ∈ [u1, u2, u3], Elt H7 y ∧ NiceV y := fun a1 a2 a3 y hy => by
          simp only [List.mem_cons, List.not_mem_nil, or_false] at hy
          rcases hy with rfl | rfl | rfl
          · exact a1
          · exact a2
          · exact a3
        have hvE : En b H7 v := by
          have hm' : v = V.ref Np1 ∨ v = V.ref Np2 ∨ v = V.ref Np3 ∨ v = V.ref Np4 ∨ v = V.ref Np5 ∨ v = V.ref Np8 ∨ v = V.ref Np9 ∨ v = V.ref Np10 := by simpa using hm
          rcases hm' with e | e | e | e | e | e | e | e
          all_goals subst e
          · exact tup (k7 _ _ (Ns12 _ _ (Ns11 _ _ (Ns10 _ _ (Ns9 _ _ (Ns8 _ _ (Ns7 _ _ (Ns6 _ _ (Ns5 _ _ (Ns4 _ _ (Ns3 _ _ (Ns2 _ _ Nf1))))))))))) (ne_of (Ns12 _ _ (Ns11 _ _ (Ns10 _ _ (Ns9 _ _ (Ns8 _ _ (Ns7 _ _ (Ns6 _ _ (Ns5 _ _ (Ns4 _ _ (Ns3 _ _ (Ns2 _ _ Nf1))))))))))) hb6 (by intro z; cases z))) (by show 3 ≤ 5; decide) (m3 ta oi ol)
          · exact tup (k7 _ _ (Ns12 _ _ (Ns11 _ _ (Ns10 _ _ (Ns9 _ _ (Ns8 _ _ (Ns7 _ _ (Ns6 _ _ (Ns5 _ _ (Ns4 _ _ (Ns3 _ _ Nf2)))))))))) (ne_of (Ns12 _ _ (Ns11 _ _ (Ns10 _ _ (Ns9 _ _ (Ns8 _ _ (Ns7 _ _ (Ns6 _ _ (Ns5 _ _ (Ns4 _ _ (Ns3 _ _ Nf2)))))))))) hb6 (by intro z; cases z))) (by show 3 ≤ 5; decide) (m3 tt vo ol)
          · exact tup (k7 _ _ (Ns12 _ _ (Ns11 _ _ (Ns10 _ _ (Ns9 _ _ (Ns8 _ _ (Ns7 _ _ (Ns6 _ _ (Ns5 _ _ (Ns4 _ _ Nf3))))))))) (ne_of (Ns12 _ _ (Ns11 _ _ (Ns10 _ _ (Ns9 _ _ (Ns8 _ _ (Ns7 _ _ (Ns6 _ _ (Ns5 _ _ (Ns4 _ _ Nf3))))))))) hb6 (by intro z; cases z))) (by show 3 ≤ 5; decide) (m3 tt oi vo)
          · exact .lst Np4 _ (k7 _ _ (Ns12 _ _ (Ns11 _ _ (Ns10 _ _ (Ns9 _ _ (Ns8 _ _ (Ns7 _ _ (Ns6 _ _ (Ns5 _ _ Nf4)))))))) ((ne_of_none (Nt3 _ _ hb5) Nh4).symm)) ((ne_of_none (Nt3 _ _ hb5) Nh4).symm) (by show 3 ≤ 3; decide) (m3 tt oi ol)
          · refine tup (k7 _ _ (Ns12 _ _ (Ns11 _ _ (Ns10 _ _ (Ns9 _ _ (Ns8 _ _ (Ns7 _ _ (Ns6 _ _ Nf5))))))) (ne_of (Ns12 _ _ (Ns11 _ _ (Ns10 _ _ (Ns9 _ _ (Ns8 _ _ (Ns7 _ _ (Ns6 _ _ Nf5))))))) hb6 (by intro z; cases z))) (by show 2 ≤ 5; decide) fun y hy => ?_
            simp only [List.mem_cons, List.not_mem_nil, or_false] at hy
            rcases hy with rfl | rfl
            · exact tt
            · exact oi
          · refine tup (k7 _ _ (Ns12 _ _ (Ns11 _ _ (Ns10 _ _ (Ns9 _ _ Nf8)))) (ne_of (Ns12 _ _ (Ns11 _ _ (Ns10 _ _ (Ns9 _ _ Nf8)))) hb6 (by intro z; cases z))) (by show 4 ≤ 5; decide) fun y hy => ?_
            rcases List.mem_append.mp hy with hy | hy
            · exact m3 tt oi ol y hy
            · rw [List.mem_singleton.mp hy]; exact ⟨.odd _ .non, trivial⟩
          · exact tup (k7 _ _ (Ns12 _ _ (Ns11 _ _ (Ns10 _ _ Nf9))) (ne_of (Ns12 _ _ (Ns11 _ _ (Ns10 _ _ Nf9))) hb6 (by intro z; cases z))) (by show 3 ≤ 5; decide) (m3 ⟨.odd _ hx7, hx7.nice⟩ oi ol)
          · exact tup (k7 _ _ (Ns12 _ _ (Ns11 _ _ Nf10)) (ne_of (Ns12 _ _ (Ns11 _ _ Nf10)) hb6 (by intro z; cases z))) (by show 3 ≤ 5; decide) (m3 tt ol oi)
        refine ⟨_, rfl, _, rfl, _, rfl, pd, _, rfl, SqL.of hpd7, fun Cp1 Ch1 => ?_⟩
        rw [eT]
        have Cs1 := Same.upd (o := .lst (xs.take j)) Ch1
        have Cf1 : upd H7 Cp1 (.lst (xs.take j)) Cp1 = some (.lst (xs.take j)) := upd_same
        have Ct1 : Same H7 (upd H7 Cp1 (.lst (xs.take j))) := Cs1
        generalize upd H7 Cp1 (.lst (xs.take j)) = C1 at Cs1 Cf1 Ct1
        refine ⟨_, rfl, _, rfl, Np12, _, _, v, rfl, rfl, SqL.of (Ct1 _ _ hN7), hv, (by show 1 ≤ sizeLine; decide), fun Cp2 Ch2 => ?_⟩
        have Cs2 := Same.upd (o := .lst [v]) Ch2
        have Cf2 : upd C1 Cp2 (.lst [v]) Cp2 = some (.lst [v]) := upd_same
        have Ct2 : Same H7 (upd C1 Cp2 (.lst [v])) := Ct1.trans Cs2
        generalize upd C1 Cp2 (.lst [v]) = C2 at Cs2 Cf2 Ct2
        refine ⟨Cp1, Cp2, _, _, rfl, rfl, (Cs2 _ _ Cf1), Cf2, sz (by simp only [List.length_cons, List.length_nil]; omega), fun Cp3 Ch3 => ?_⟩
        have Cs3 := Same.upd (o := .lst (xs.take j ++ [v])) Ch3
        have Cf3 : upd C2 Cp3 (.lst (xs.take j ++ [v])) Cp3 = some (.lst (xs.take j ++ [v])) := upd_same
        have Ct3 : Same H7 (upd C2 Cp3 (.lst (xs.take j ++ [v]))) := Ct2.trans Cs3
        generalize upd C2 Cp3 (.lst (xs.take j ++ [v])) = C3 at Cs3 Cf3 Ct3
        refine ⟨_, rfl, _, rfl, _, _, rfl, rfl, _, rfl, pd, _, rfl, SqL.of (Ct3 _ _ hpd7), fun Cp4 Ch4 => ?_⟩
        rw [eF]
        have Cs4 := Same.upd (o := .lst (xs.drop (j + 1))) Ch4
        have Cf4 : upd C3 Cp4 (.lst (xs.drop (j + 1))) Cp4 = some (.lst (xs.drop (j + 1))) := upd_same
        have Ct4 : Same H7 (upd C3 Cp4 (.lst (xs.drop (j + 1)))) := Ct3.trans Cs4
        generalize upd C3 Cp4 (.lst (xs.drop (j + 1))) = C4 at Cs4 Cf4 Ct4
        refine ⟨Cp3, Cp4, _, _, rfl, rfl, (Cs4 _ _ Cf3), Cf4, sz (by have := hlD (j + 1); simp only [List.length_append, List.length_cons, List.length_nil]; omega), fun Cp5 Ch5 => ?_⟩
        have Cs5 := Same.upd (o := .lst (xs.take j ++ [v] ++ xs.drop (j + 1))) Ch5
        have Cf5 : upd C4 Cp5 (.lst (xs.take j ++ [v] ++ xs.drop (j + 1))) Cp5 = some (.lst (xs.take j ++ [v] ++ xs.drop (j + 1))) := upd_same
        have Ct5 : Same H7 (upd C4 Cp5 (.lst (xs.take j ++ [v] ++ xs.drop (j + 1)))) := Ct4.trans Cs5
        generalize upd C4 Cp5 (.lst (xs.take j ++ [v] ++ xs.drop (j + 1))) = C5 at Cs5 Cf5 Ct5
        have hT8 : TreeV C5 xs es := hT7.mono fun p e h => Ct5 _ _ h
        refine q (.ref Cp5) n7 C5 (.lst Cp5 _ Cf5 ((ne_of_none (Ct4 _ _ hb7) Ch5).symm) (by have := hlD (j + 1); simp only [List.length_append, List.length_cons, List.length_nil]; omega) fun y hy => ?_) (fun p e => by cases e; exact but_free B7 hb7 (Ct4.free Ch5)) hn7 (Ct5 _ _ hb7) (B7.trans (But.of Ct5))
        rcases List.mem_append.mp hy with hy | hy
        · rcases List.mem_append.mp hy with hy | hy
          · exact hen hT8 y (List.mem_of_mem_take hy)
          · rw [List.mem_singleton.mp hy]; exact hvE.same Ct5
        · exact hen hT8 y (List.mem_of_mem_drop hy)
      · have h2 : ¬ d7 < 8 := fun z => h1 (decide_eq_true z)
        have hqm : V.ref qe ∈ xs := by rw [← hqe]; exact List.getElem_mem hj
        refine ⟨_, rfl, _, rfl, _, rfl, pd, _, rfl, SqL.of hpd7, fun Ep1 Eh1 => ?_⟩
        rw [eT]
        have Es1 := Same.upd (o := .lst (xs.take j)) Eh1
        have Ef1 : upd H7 Ep1 (.lst (xs.take j)) Ep1 = some (.lst (xs.take j)) := upd_same
        have Et1 : Same H7 (upd H7 Ep1 (.lst (xs.take j))) := Es1
        generalize upd H7 Ep1 (.lst (xs.take j)) = E1 at Es1 Ef1 Et1
        refine ⟨_, rfl, _, rfl, _, _, rfl, rfl, _, rfl, pd, _, rfl, SqL.of (Et1 _ _ hpd7), fun Ep2 Eh2 => ?_⟩
        rw [eF]
        have Es2 := Same.upd (o := .lst (xs.drop (j + 1))) Eh2
        have Ef2 : upd E1 Ep2 (.lst (xs.drop (j + 1))) Ep2 = some (.lst (xs.drop (j + 1))) := upd_same
        have Et2 : Same H7 (upd E1 Ep2 (.lst (xs.drop (j + 1)))) := Et1.trans Es2
        generalize upd E1 Ep2 (.lst (xs.drop (j + 1))) = E2 at Es2 Ef2 Et2
        refine ⟨Ep1, Ep2, _, _, rfl, rfl, (Es2 _ _ Ef1), Ef2, sz (by have := hlD (j + 1); have := hlD j; first | omega | (simp only [List.length_append, List.length_cons, List.length_nil]; omega)), fun Ep3 Eh3 => ?_⟩
        have Es3 := Same.upd (o := .lst (xs.take j ++ xs.drop (j + 1))) Eh3
        have Ef3 : upd E2 Ep3 (.lst (xs.take j ++ xs.drop (j + 1))) Ep3 = some (.lst (xs.take j ++ xs.drop (j + 1))) := upd_same
        have Et3 : Same H7 (upd E2 Ep3 (.lst (xs.take j ++ xs.drop (j + 1)))) := Et2.trans Es3
        generalize upd E2 Ep3 (.lst (xs.take j ++ xs.drop (j + 1))) = E3 at Es3 Ef3 Et3
        refine ⟨_, rfl, _, rfl, _, rfl, pd, _, rfl, SqL.of (Et3 _ _ hpd7), fun Ep4 Eh4 => ?_⟩
        rw [eT]
        have Es4 := Same.upd (o := .lst (xs.take j)) Eh4
        have Ef4 : upd E3 Ep4 (.lst (xs.take j)) Ep4 = some (.lst (xs.take j)) := upd_same
        have Et4 : Same H7 (upd E3 Ep4 (.lst (xs.take j))) := Et3.trans Es4
        generalize upd E3 Ep4 (.lst (xs.take j)) = E4 at Es4 Ef4 Et4
        refine ⟨_, rfl, _, rfl, pd, _, _, .ref qe, rfl, rfl, SqL.of (Et4 _ _ hpd7), hat, (by show 1 ≤ sizeLine; decide), fun Ep5 Eh5 => ?_⟩
        have Es5 := Same.upd (o := .lst [V.ref qe]) Eh5
        have Ef5 : upd E4 Ep5 (.lst [V.ref qe]) Ep5 = some (.lst [V.ref qe]) := upd_same
        have Et5 : Same H7 (upd E4 Ep5 (.lst [V.ref qe])) := Et4.trans Es5
        generalize upd E4 Ep5 (.lst [V.ref qe]) = E5 at Es5 Ef5 Et5
        refine ⟨Ep4, Ep5, _, _, rfl, rfl, (Es5 _ _ Ef4), Ef5, sz (by have := hlD (j + 1); have := hlD j; first | omega | (simp only [List.length_append, List.length_cons, List.length_nil]; omega)), fun Ep6 Eh6 => ?_⟩
        have Es6 := Same.upd (o := .lst (xs.take j ++ [V.ref qe])) Eh6
        have Ef6 : upd E5 Ep6 (.lst (xs.take j ++ [V.ref qe])) Ep6 = some (.lst (xs.take j ++ [V.ref qe])) := upd_same
        have Et6 : Same H7 (upd E5 Ep6 (.lst (xs.take j ++ [V.ref qe]))) := Et5.trans Es6
        generalize upd E5 Ep6 (.lst (xs.take j ++ [V.ref qe])) = E6 at Es6 Ef6 Et6
        refine ⟨_, rfl, _, rfl, _, rfl, pd, _, rfl, SqL.of (Et6 _ _ hpd7), fun Ep7 Eh7 => ?_⟩
        rw [eG]
        have Es7 := Same.upd (o := .lst (xs.drop j)) Eh7
        have Ef7 : upd E6 Ep7 (.lst (xs.drop j)) Ep7 = some (.lst (xs.drop j)) := upd_same
        have Et7 : Same H7 (upd E6 Ep7 (.lst (xs.drop j))) := Et6.trans Es7
        generalize upd E6 Ep7 (.lst (xs.drop j)) = E7 at Es7 Ef7 Et7
        refine ⟨Ep6, Ep7, _, _, rfl, rfl, (Es7 _ _ Ef6), Ef7, sz (by have := hlD (j + 1); have := hlD j; first | omega | (simp only [List.length_append, List.length_cons, List.length_nil]; omega)), fun Ep8 Eh8 => ?_⟩
        have Es8 := Same.upd (o := .lst (xs.take j ++ [V.ref qe] ++ xs.drop j)) Eh8
        have Ef8 : upd E7 Ep8 (.lst (xs.take j ++ [V.ref qe] ++ xs.drop j)) Ep8 = some (.lst (xs.take j ++ [V.ref qe] ++ xs.drop j)) := upd_same
        have Et8 : Same H7 (upd E7 Ep8 (.lst (xs.take j ++ [V.ref qe] ++ xs.drop j))) := Et7.trans Es8
        generalize upd E7 Ep8 (.lst (xs.take j ++ [V.ref qe] ++ xs.drop j)) = E8 at Es8 Ef8 Et8
        refine ⟨_, rfl, _, rfl, _, rfl, pd, _, rfl, SqL.of (Et8 _ _ hpd7), fun Ep9 Eh9 => ?_⟩
        rw [eG]
        have Es9 := Same.upd (o := .lst (xs.drop j)) Eh9
        have Ef9 : upd E8 Ep9 (.lst (xs.drop j)) Ep9 = some (.lst (xs.drop j)) := upd_same
        have Et9 : Same H7 (upd E8 Ep9 (.lst (xs.drop j))) := Et8.trans Es9
        generalize upd E8 Ep9 (.lst (xs.drop j)) = E9 at Es9 Ef9 Et9
        refine ⟨_, rfl, _, rfl, _, rfl, pd, _, rfl, SqL.of (Et9 _ _ hpd7), fun Ep10 Eh10 => ?_⟩
        rw [eT]
        have Es10 := Same.upd (o := .lst (xs.take j)) Eh10
        have Ef10 : upd E9 Ep10 (.lst (xs.take j)) Ep10 = some (.lst (xs.take j)) := upd_same
        have Et10 : Same H7 (upd E9 Ep10 (.lst (xs.take j))) := Et9.trans Es10
        generalize upd E9 Ep10 (.lst (xs.take j)) = E10 at Es10 Ef10 Et10
        refine ⟨Ep9, Ep10, _, _, rfl, rfl, (Es10 _ _ Ef9), Ef10, sz (by have := hlD (j + 1); have := hlD j; first | omega | (simp only [List.length_append, List.length_cons, List.length_nil]; omega)), fun Ep11 Eh11 => ?_⟩
        have Es11 := Same.upd (o := .lst (xs.drop j ++ xs.take j)) Eh11
        have Ef11 : upd E10 Ep11 (.lst (xs.drop j ++ xs.take j)) Ep11 = some (.lst (xs.drop j ++ xs.take j)) := upd_same
        have Et11 : Same H7 (upd E10 Ep11 (.lst (xs.drop j ++ xs.take j))) := Et10.trans Es11
        generalize upd E10 Ep11 (.lst (xs.drop j ++ xs.take j)) = E11 at Es11 Ef11 Et11
        refine ⟨_, rfl, pd, _, rfl, .inl ⟨SqL.of (Et11 _ _ hpd7), fun Ep12 Eh12 => ?_⟩⟩
        have Es12 := Same.upd (o := .tup xs) Eh12
        have Ef12 : upd E11 Ep12 (.tup xs) Ep12 = some (.tup xs) := upd_same
        have Et12 : Same H7 (upd E11 Ep12 (.tup xs)) := Et11.trans Es12
        generalize upd E11 Ep12 (.tup xs) = E12 at Es12 Ef12 Et12
        refine ⟨(by show 4 ≤ sizeLine; decide), fun Ep13 Eh13 => ?_⟩
        have Es13 := Same.upd (o := .lst [V.ref Ep3, V.ref Ep8, V.ref Ep11, V.ref Ep12]) Eh13
        have Ef13 : upd E12 Ep13 (.lst [V.ref Ep3, V.ref Ep8, V.ref Ep11, V.ref Ep12]) Ep13 = some (.lst [V.ref Ep3, V.ref Ep8, V.ref Ep11, V.ref Ep12]) := upd_same
        have Et13 : Same H7 (upd E12 Ep13 (.lst [V.ref Ep3, V.ref Ep8, V.ref Ep11, V.ref Ep12])) := Et12.trans Es13
        generalize upd E12 Ep13 (.lst [V.ref Ep3, V.ref Ep8, V.ref Ep11, V.ref Ep12]) = E13 at Es13 Ef13 Et13
        obtain ⟨v, hv, hm⟩ := at_ofInt (xs := [V.ref Ep3, V.ref Ep8, V.ref Ep11, V.ref Ep12]) (k := d7 - 8) (by omega) (by show d7 - 8 < 4; omega)
        refine ⟨_, rfl, _, _, rfl, rfl, Ep13, _, _, v, rfl, rfl, SqL.of Ef13, hv, ?_⟩
        have hT8 : TreeV E13 xs es := hT7.mono fun p e h => Et13 _ _ h
        have key : Tg b E13 v ∧ ∀ p, v = .ref p → H p = none := ?_
        · exact q v n7 E13 key.1 key.2 hn7 (Et13 _ _ hb7) (B7.trans (But.of Et13))
        simp only [List.mem_cons, List.not_mem_nil, or_false] at hm
        rcases hm with e | e | e | e
        all_goals subst e
        · refine ⟨?_, fun p e => by cases e; exact but_free B7 hb7 (Et2.free Eh3)⟩
          refine .lst Ep3 _ (Es13 _ _ (Es12 _ _ (Es11 _ _ (Es10 _ _ (Es9 _ _ (Es8 _ _ (Es7 _ _ (Es6 _ _ (Es5 _ _ (Es4 _ _ Ef3)))))))))) ((ne_of_none (Et2 _ _ hb7) Eh3).symm) (by have := hlD (j + 1); rw [List.length_append]; omega) fun y hy => ?_
          rcases List.mem_append.mp hy with hy | hy
          · exact hen hT8 y (List.mem_of_mem_take hy)
          · exact hen hT8 y (List.mem_of_mem_drop hy)
        · refine ⟨?_, fun p e => by cases e; exact but_free B7 hb7 (Et7.free Eh8)⟩
          refine .lst Ep8 _ (Es13 _ _ (Es12 _ _ (Es11 _ _ (Es10 _ _ (Es9 _ _ Ef8))))) ((ne_of_none (Et7 _ _ hb7) Eh8).symm) (by have := hlD j; simp only [List.length_append, List.length_cons, List.length_nil]; omega) fun y hy => ?_
          rcases List.mem_append.mp hy with hy | hy
          · rcases List.mem_append.mp hy with hy | hy
            · exact hen hT8 y (List.mem_of_mem_take hy)
            · rw [List.mem_singleton.mp hy]; exact hen hT8 _ hqm
          · exact hen hT8 y (List.mem_of_mem_drop hy)
        · refine ⟨?_, fun p e => by cases e; exact but_free B7 hb7 (Et10.free Eh11)⟩
          refine .lst Ep11 _ (Es13 _ _ (Es12 _ _ Ef11)) ((ne_of_none (Et10 _ _ hb7) Eh11).symm) (by have := hlD j; rw [List.length_append]; omega) fun y hy => ?_
          rcases List.mem_append.mp hy with hy | hy
          · exact hen hT8 y (List.mem_of_mem_drop hy)
          · exact hen hT8 y (List.mem_of_mem_take hy)
        · exact ⟨.tup Ep12 _ (Es13 _ _ Ef12) (by omega) fun y hy => hen hT8 y hy, fun p e => by cases e; exact but_free B7 hb7 (Et11.free Eh12)⟩
end
end Mr

namespace Mr
open PySem L2
section
variable {P : Program} {w : World} {K : PySem.W.Frag} {mg : Str → Option Value} {base : Heap}
theorem scLaw : FnScope ["_law_script", "_law_k", "_law_box_here", "_law_row_here", "_law_due", "_law_odd_here", "_law_things", "_law_turn", "_law_thing", "_law_kept"] ["_law_script"] (defScope sLaw) := ⟨rfl, rfl, rfl, by decide +kernel, rfl, by decide +kernel, by decide +kernel⟩
set_option maxHeartbeats 8000000 in
theorem ok_law {f : Addr} {fd : FuncData} (F : Fun K "law" "law" sLaw f fd) (d_law_box : Df P w K mg base 2 "_law_box" ["_law_script", "_law_k"] (spBox K)) (d_law_row : Df P w K mg base 3 "_law_row" ["_law_box_here", "_law_most"] spRow) (d_law_tree : Df P w K mg base 4 "_law_tree" ["_law_row_here"] spTree) (d_law_odd : Df P w K mg base 2 "_law_odd" ["_law_box_here"] spOdd) (d_law_bent : Df P w K mg base 2 "_law_bent" ["_law_box_here", "_law_due", "_law_odd_here"] spBent16) (d_law_truth : Df P w K mg base 1 "_law_truth" ["_law_found", "_law_due"] spTruth) (d_is_tree : Df P w K mg base 6 "is_tree" ["thing", "row"] spIsTreeG) (z_len : mg "len" = none) (z_max : mg "max" = none) (z_min : mg "min" = none) (z_range : mg "range" = none) (z_repr : mg "repr" = none) (hsm : ∃ o, base.get? sysModules = some o) : FnOkC P w K mg base CX0 9 f fd ["_law_script"] (spLaw K) := by
  refine F.okC scLaw (fun vs H Q E h => ?_) (fun cdv outer s H vs Q E hr h => ?_)
  · obtain ⟨_, _, rfl, _⟩ := h
    rfl
  · obtain ⟨a, ns, rfl, hS, hlen, q⟩ := h
    refine ⟨_, (@pss_cons _ _ _ _ _ (ps_for PassesOwn.never rfl (pi_range1 rfl z_range (pa_cons (pe_callB (call_max2 rfl) (by rfl) z_max bt_max (pa_cons pe_int (pa_cons (pe_callB (call_min2 rfl) (by rfl) z_min bt_min (pa_cons (pe_callB call_len_seq (by rfl) z_len bt_len (pa_cons (pv 0) pa_nil)) (pa_cons pe_int pa_nil))) pa_nil))) pa_nil)) (pg_name (i := 1) scLaw.nd rfl (Or.inl rfl)) (@pss_cons _ _ _ _ _ (@ps_set _ _ 2 _ _ _ _ scLaw.nd rfl (Or.inl rfl) (pe_df d_law_box hr rfl (pa_cons (pv 0) (pa_cons (pv 1) pa_nil))) rfl (Or.inl rfl))
      (@pss_cons _ _ _ _ _ (@ps_set _ _ 3 _ _ _ _ scLaw.nd rfl (Or.inl rfl) (pe_df d_law_row hr rfl (pa_cons (pv 2) (pa_cons pe_int pa_nil))) rfl (Or.inl rfl))
      (@pss_cons _ _ _ _ _ (@ps_set _ _ 4 _ _ _ _ scLaw.nd rfl (Or.inl rfl) (pe_df d_law_tree hr rfl (pa_cons (pv 3) pa_nil)) rfl (Or.inl rfl))
      (@pss_cons _ _ _ _ _ (@ps_set _ _ 5 _ _ _ _ scLaw.nd rfl (Or.inl rfl) (pe_df d_law_odd hr rfl (pa_cons (pv 2) pa_nil)) rfl (Or.inl rfl))
      (@pss_cons _ _ _ _ _ (@ps_set _ _ 6 _ _ _ _ scLaw.nd rfl (Or.inl rfl) (@pe_lst _ _ _ _ (@pa_name _ _ _ _ _ _  (pv 4) (@pa_name _ _ _ _ _ _  (pv 5) (@pa_call _ _ _ _ _ _ _ _  (pe_df d_law_tree hr rfl (pa_cons (pe_df d_law_row hr rfl (pa_cons (pv 2) (pa_cons pe_int pa_nil))) pa_nil)) (@pa_lst _ _ _ _ _ _  (@pe_lst _ _ _ _ pa_nil) pa_nil))))) rfl (Or.inl rfl))
      (@pss_cons _ _ _ _ _ (ps_for PassesOwn.never rfl (pi_range1 rfl z_range (pa_cons pe_int pa_nil)) (pg_name (i := 7) scLaw.nd rfl (Or.inl rfl)) (@pss_one _ _ _ (ps_expr (pe_bm PySem.F.plainAttrs_list PySem.F.slot_list_append PySem.F.type_list_append mt_append (pv 6) (pa_cons (pe_df d_law_bent hr rfl (pa_cons (pv 2) (pa_cons (pv 4) (pa_cons (pv 5) pa_nil)))) pa_nil)))))
      (@pss_one _ _ _ (ps_for PassesOwn.never rfl (pi_list (pv 6)) (pg_name (i := 8) scLaw.nd rfl (Or.inl rfl)) (@pss_cons _ _ _ _ _ (@ps_set _ _ 9 _ _ _ _ scLaw.nd rfl (Or.inl rfl) (pe_callB (call_reprW rfl hr.units hsm) (by rfl) z_repr bt_repr (pa_cons (pv 8) pa_nil)) rfl (Or.inl rfl))
      (@pss_one _ _ _ (@ps_if _ _ _ _ _ _ _ _ (PW.pt (pw_or (pt_not (pt_val (pe_df d_law_truth hr rfl (pa_cons (pe_df d_is_tree hr rfl (pa_cons (pv 8) (pa_cons (pv 3) pa_nil))) (pa_cons (pe_cmpR op_eq (pv 9) (pe_callB (call_reprW rfl hr.units hsm) (by rfl) z_repr bt_repr (pa_cons (pv 4) pa_nil)) (nomark _)) pa_nil))))) (pw_or1 (pt_cmpR op_ne (pe_callB (call_reprW rfl hr.units hsm) (by rfl) z_repr bt_repr (pa_cons (pv 8) pa_nil)) (pv 9) (nomark _))))) (@pss_one _ _ _ (@ps_ret _ _ _ _ pe_bl)) pss_nil))))))))))))
      (@pss_one _ _ _ (@ps_ret _ _ _ _ pe_bl))), ?_⟩
    refine ⟨_, rfl, a, _, rfl, .inl hS, _, _, rfl, _, _, rfl, _, rfl, ?_, ?_, ?_⟩
    · split <;> split <;> omega
    · split <;> split <;> omega
    refine for_range (fun i σ H' => ∃ (v1 v2 v3 v4 v5 v6 v7 v8 v9 : Option V), σ = [some (.ref a), v1, v2, v3, v4, v5, v6, v7, v8, v9] ∧ Same H H') ⟨none, none, none, none, none, none, none, none, none, rfl, Same.refl _⟩ ?_ ?_
    rotate_left
    · rintro σ H' ⟨v1, v2, v3, v4, v5, v6, v7, v8, v9, rfl, s0⟩
      exact q H'
    rintro i σ H0 hi ⟨v1, v2, v3, v4, v5, v6, v7, v8, v9, rfl, s0⟩
    refine ⟨_, rfl, _, rfl, a, ns, _, rfl, s0.seq hS, by omega, fun b n H1 hn hfr hb s1 => ?_⟩
    have fr : H b = none := s0.free hfr
    refine ⟨_, rfl, b, n, 10, rfl, hb, hn, by decide, by decide, fun m n2 H2 hm hml hn2 hb2 k2 => ?_⟩
    have hrow : rowL m = true := rowL_iff.mpr ⟨by omega, hm⟩
    have hm10 : m.length ≤ 10 := by omega
    have SH2 : Same H H2 := same_but (s0.trans s1) fr k2
    refine ⟨_, rfl, m, rfl, hrow, fun pd xd H3 hfd hpd hTd s3 => ?_⟩
    have nbd : b ≠ pd := fun z => by rw [← z, hb2] at hfd; cases hfd
    have hb3 := s3 _ _ hb2
    have tb : ∀ {G1 G2 : Hp} {m : Int} {ys : List V} {es : List Ent}, But b G1 G2 → G1 b = some (.lst [.int m]) → TreeV G1 ys es → TreeV G2 ys es := fun kk hh tt => tt.mono fun p e h => kk _ _ h (ne_of h hh (by intro z; cases z))
    refine ⟨_, rfl, b, n2, rfl, hb3, hn2, fun x n3 H4 hx hn3 hb4 k4 => ?_⟩
    have hpd4 := k4 _ _ hpd nbd.symm
    have hTd4 := tb k4 hb3 hTd
    have SH4 : Same H H4 := same_but (SH2.trans s3) fr k4
    refine ⟨_, rfl, _, rfl, _, rfl, b, n3, 10, rfl, hb4, hn3, by decide, by decide, fun m2 n5 H5 hm2 hml2 hn5 hb5 k5 => ⟨m2, rfl, rowL_iff.mpr ⟨by omega, hm2⟩, fun p6 y6 H6 hf6 hp6 hT6 s6 => ⟨(by show 0 ≤ sizeLine; omega), fun p7 hp7 => ?_⟩⟩⟩
    have hb6 := s6 _ _ hb5
    have n6b : p6 ≠ b := fun z => by rw [z, hb5] at hf6; cases hf6
    have s7 := Same.upd (o := .lst []) hp7
    have f7 : upd H6 p7 (.lst []) p7 = some (.lst []) := upd_same
    have n7b : p7 ≠ b := (ne_of_none hb6 hp7).symm
    generalize upd H6 p7 (.lst []) = H7 at s7 f7
    refine ⟨(by show 4 ≤ sizeLine; decide), fun p8 hp8 => ?_⟩
    have s8 := Same.upd (o := .lst [V.ref pd, x, V.ref p6, V.ref p7]) hp8
    have f8 : upd H7 p8 (.lst [V.ref pd, x, V.ref p6, V.ref p7]) p8 = some (.lst [V.ref pd, x, V.ref p6, V.ref p7]) := upd_same
    have hb7 := s7 _ _ hb6
    have n8b : p8 ≠ b := (ne_of_none hb7 hp8).symm
    generalize upd H7 p8 (.lst [V.ref pd, x, V.ref p6, V.ref p7]) = H8 at s8 f8
    have hb8 := s8 _ _ hb7
    have S68 : Same H6 H8 := s7.trans s8
    have K48 : But b H4 H8 := k5.trans ((But.of s6).trans (But.of S68))
    have hpd8 := K48 _ _ hpd4 nbd.symm
    have hTd8 : TreeV H8 xd (treeN m) := tb K48 hb4 hTd4
    have hx8 : Odd H8 x := hx.but hb4 K48
    have SH8 : Same H H8 := same_but SH4 fr K48
    have fr8 : H p8 = none := by
      cases e : H p8 with
      | none => rfl
      | some o =>
        have := same_but SH4 fr (k5.trans ((But.of s6).trans (But.of s7))) _ _ e
        rw [this] at hp8; cases hp8
    have nd8 : pd ≠ p8 := ne_of_none (s7 _ _ (s6 _ _ (k5 _ _ hpd4 nbd.symm))) hp8
    obtain ⟨htl, hts⟩ := tree_small hrow hm10
    obtain ⟨htl2, hts2⟩ := tree_small (l := m2) (rowL_iff.mpr ⟨by omega, hm2⟩) (by omega)
    have hxd : xd.length ≤ 10 := by rw [hTd.1]; exact htl
    have dueT : ∀ {G : Hp}, G pd = some (.lst xd) → TreeV G xd (treeN m) → Tg b G (.ref pd) := fun h1 h2 => .lst pd xd h1 nbd.symm (by omega) (tree_en h2 hts)
    have h0 : ∀ y ∈ [V.ref pd, x, V.ref p6, V.ref p7], Tg b H8 y ∧ y ≠ .ref p8 := by
      intro y hy
      simp only [List.mem_cons, List.not_mem_nil, or_false] at hy
      rcases hy with rfl | rfl | rfl | rfl
      · exact ⟨dueT hpd8 hTd8, fun z => nd8 (by injection z)⟩
      · refine ⟨.en _ (.lf _ (.odd _ hx8) hx8.nice), fun z => ?_⟩
        subst z
        cases hx8 with
        | la p e => rw [e] at f8; cases f8
        | ta p e => rw [e] at f8; cases f8
        | da p e => rw [e] at f8; cases f8
        | t01 p e => rw [e] at f8; cases f8
        | l0 p e => rw [e] at f8; cases f8
      · refine ⟨.lst p6 y6 (S68 _ _ hp6) n6b (by rw [hT6.1]; omega) (tree_en (hT6.mono fun p e h => S68 _ _ h) hts2), fun z => ne_of_none (s7 _ _ hp6) hp8 (by injection z)⟩
      · exact ⟨.lst p7 [] (s8 _ _ f7) n7b (by decide) (fun y hy => by cases hy), fun z => ne_of_none f7 hp8 (by injection z)⟩
    refine ⟨4, rfl, by decide, by decide, for_range (n := 4) (fun j σ H' => ∃ (w7 w8 w9 : Option V) (xs : List V) (n' : Int), σ = [some (V.ref a), some (V.int (0 + (i : Int))), some (V.ref b), some (V.str (tx m)), some (V.ref pd), some x, some (V.ref p8), w7, w8, w9] ∧ H' p8 = some (.lst xs) ∧ xs.length = 4 + j ∧ (∀ y ∈ xs, Tg b H' y ∧ y ≠ .ref p8) ∧ 0 ≤ n' ∧ H' b = some (.lst [.int n']) ∧ H' pd = some (.lst xd) ∧ TreeV H' xd (treeN m) ∧ Odd H' x ∧ Same H H') ⟨_, _, _, _, n5, rfl, f8, rfl, h0, hn5, hb8, hpd8, hTd8, hx8, SH8⟩ ?_ ?_⟩
    · rintro j σ H9 hj ⟨w7, w8, w9, xs, n', rfl, g8, gl, gT, gn, gb, gd, gt, gx, gS⟩
      refine ⟨_, rfl, .inl ⟨rfl, _, SqL.of g8⟩, _, rfl, _, rfl, _, rfl, b, pd, n', xd, treeN m, x, rfl, gb, gn, nbd, gd, gt, by omega, hts, gx, fun y n6 HB hy hyf hn6 hbB kB => ?_⟩
      have B8 := kB _ _ g8 n8b
      have ny : y ≠ .ref p8 := fun z => by have := hyf p8 z; rw [g8] at this; cases this
      have gtB := tb kB gb gt
      refine ⟨p8, xs, _, rfl, rfl, B8, (by rw [sizeLine_eq]; omega), ?_⟩
      refine ⟨_, _, _, xs ++ [y], n6, rfl, upd_same, by rw [List.length_append]; show xs.length + 1 = _; omega, fun z hz => ?_, hn6, by rw [upd_ne n8b.symm]; exact hbB, by rw [upd_ne nd8]; exact kB _ _ gd nbd.symm, gtB.mono fun p e h => by rw [upd_ne (fun z => by rw [z, B8] at h; cases h)]; exact h, (gx.but gb kB).grow B8 (by omega), same_upd (same_but gS fr kB) fr8⟩
      rcases List.mem_append.mp hz with hz | hz
      · exact ⟨((gT z hz).1.but gb kB).grow B8 (by omega) (gT z hz).2, (gT z hz).2⟩
      · rw [List.mem_singleton.mp hz]
        exact ⟨hy.grow B8 (by omega) ny, ny⟩
    rintro σ HL ⟨w7, w8, w9, xs, n', rfl, g8, gl, gT, gn, gb, gd, gt, gx, gS⟩
    refine ⟨_, rfl, p8, rfl, ⟨_, SqL.of g8⟩, for_list (K := K) (a := p8) (xs := xs) (fun j σ H' => ∃ (w8 w9 : Option V), σ = [some (V.ref a), some (V.int (0 + (i : Int))), some (V.ref b), some (V.str (tx m)), some (V.ref pd), some x, some (V.ref p8), w7, w8, w9] ∧ Same HL H') ⟨_, _, rfl, Same.refl _⟩ (fun j σ H' _ ⟨_, _, _, s⟩ => SqL.of (s _ _ g8)) ?_ ?_⟩
    · rintro j y σ H9 hy ⟨w8, w9, rfl, s9⟩
      have hT := (gT y (List.mem_of_getElem? hy)).1.same s9
      have hgt : TreeV H9 xd (treeN m) := gt.mono fun p e h => s9 _ _ h
      obtain ⟨d, hrd, htop, hd1, hd2, hd3⟩ := hT.rd
      obtain ⟨D, hrD, _, hD1, hD2, hD3⟩ := (dueT (s9 _ _ gd) hgt).rd
      have eD := rdw_one hrD (tree_rdw (s9 _ _ gd) hgt)
      subst eD
      refine ⟨_, rfl, y, d, rfl, hrd, hd1, hd2, hd3, ?_⟩
      refine ⟨_, rfl, _, rfl, b, y, m, d, rfl, hrow, hT, hrd, fun r HA hr sA => ⟨_, rfl, _, rfl, .ref pd, _, rfl, hrD.mono sA, hD1, hD2, hD3, rfl, r, _, rfl, _, rfl, ?_⟩⟩
      have er : r = decide (V.str d.shown = V.str (PyData.list ((treeN m).map entD)).shown) := by
        rw [Bool.eq_iff_iff, decide_eq_true_iff, hr]
        constructor
        · intro z; rw [z]
        · intro z
          injection z with z
          exact tree_inj htop (fun e he => (hts e he).1) z
      rw [decide_eq_true er]
      refine iteF ⟨_, rfl, y, d, rfl, hrd.mono sA, hd1, hd2, hd3, _, rfl, rfl, _, rfl, ?_⟩
      rw [decide_eq_true rfl]
      exact iteF ⟨_, _, rfl, s9.trans sA⟩
    · rintro σ H9 ⟨w8, w9, rfl, s9⟩
      exact ⟨_, _, _, _, _, _, _, _, _, rfl, gS.trans s9⟩
end
end Mr

namespace Mr
open PySem L2
theorem all_mk {l : PySem.W.OpenLaw} {w : World} {K : PySem.W.Frag} {mg : Str → Option Value} {fa : Addr} {tM : Tok} {tL : Tok} (hfa : mg "law" = some (.ref fa))
    (a_is_whole : At K mg "is_whole" sWhole ["thing"])
    (a_is_same_number : At K mg "is_same_number" s_is_same_number ["thing", "number"])
    (a_is_row : At K mg "is_row" sIsRow ["thing"])
    (a_need_row : At K mg "need_row" sNeedRow ["thing"])
    (a_reaches : At K mg "reaches" s_reaches ["row"])
    (a_reach_around : At K mg "reach_around" s_reach_around ["row", "middle"])
    (a_ends_ahead : At K mg "ends_ahead" s_ends_ahead ["told", "behind"])
    (a_ends_by_place : At K mg "ends_by_place" s_ends_by_place ["row"])
    (a_tree : At K mg "tree" s_tree ["row"])
    (a_longest_entry : At K mg "longest_entry" s_longest_entry ["row", "lengths", "numbers"])
    (a_is_tree : At K mg "is_tree" s_is_tree ["thing", "row"])
    (a_is_entry : At K mg "is_entry" s_is_entry ["thing", "wanted"])
    (a_is_elder : At K mg "is_elder" s_is_elder ["thing", "wanted"])
    (a_law_cell : At K mg "_law_cell" sCell ["_law_script", "_law_k"])
    (a_law_mix : At K mg "_law_mix" sMix ["_law_cell_here", "_law_k"])
    (a_law_box : At K mg "_law_box" sBox ["_law_script", "_law_k"])
    (a_law_take : At K mg "_law_take" sTake ["_law_box_here", "_law_many"])
    (a_law_truth : At K mg "_law_truth" sTruth ["_law_found", "_law_due"])
    (a_law_from_behind : At K mg "_law_from_behind" sBehind ["_law_text"])
    (a_law_alike : At K mg "_law_alike" sAlike ["_law_text"])
    (a_law_closed : At K mg "_law_closed" sClosed ["_law_text"])
    (a_law_row : At K mg "_law_row" sRow ["_law_box_here", "_law_most"])
    (a_law_odd : At K mg "_law_odd" sOdd ["_law_box_here"])
    (a_law_ends : At K mg "_law_ends" s_law_ends ["_law_row_here"])
    (a_law_mirrors : At K mg "_law_mirrors" s_law_mirrors ["_law_row_here"])
    (a_law_tree : At K mg "_law_tree" s_law_tree ["_law_row_here"])
    (a_law_bent : At K mg "_law_bent" s_law_bent ["_law_box_here", "_law_due", "_law_odd_here"])
    (a_law : At K mg "law" sLaw ["_law_script"])
    (hM : mg "MOST_SIGNS" = some (.int 200 tM))
    (hL : mg "LETTERS" = some (.str (tx lets) tL))
    (z_len : mg "len" = none)
    (z_range : mg "range" = none)
    (z_abs : mg "abs" = none)
    (z_divmod : mg "divmod" = none)
    (z_isinstance : mg "isinstance" = none)
    (z_bool : mg "bool" = none)
    (z_str : mg "str" = none)
    (z_all : mg "all" = none)
    (z_max : mg "max" = none)
    (z_min : mg "min" = none)
    (z_int : mg "int" = none)
    (z_tuple : mg "tuple" = none)
    (z_list : mg "list" = none)
    (z_repr : mg "repr" = none)
    (z_zip : mg "zip" = none)
    : ∃ fd : FuncData, (∀ (s : Shared) (v : Value), BindsTo s fd ⟨[v], []⟩ [("_law_script", v)]) ∧ ∀ base : Heap, K.In base → base.Ns mainGlobals mg → (∃ o, base.get? sysModules = some o) → FnOkC l.prog w K mg base CX0 9 fa fd ["_law_script"] (spLaw K) := by
  obtain ⟨f, fd, F, hm, hb⟩ := a_law.ex
  have e := hfa.symm.trans hm
  cases e
  refine ⟨fd, fun s v => .of_eq (hb [v] rfl), fun base _ _ hsm => ?_⟩
  have dCell := ok_cell (P := l.prog) (w := w) (base := base) a_law_cell z_len
  have dMix := ok_mix (P := l.prog) (w := w) (base := base) a_law_mix
  have dBox := ok_box a_law_box dCell dMix z_abs z_range
  have dTake := ok_take (P := l.prog) (w := w) (base := base) a_law_take z_divmod
  have dTr := ok_truth (P := l.prog) (w := w) (base := base) a_law_truth z_isinstance z_bool
  have dBeh := ok_behind (P := l.prog) (w := w) (base := base) a_law_from_behind
  have dAl := ok_alike (P := l.prog) (w := w) (base := base) a_law_alike z_len z_range
  have dCl := ok_closed a_law_closed dAl dBeh
  have dRow := ok_row a_law_row dTake dBeh dCl z_range
  have dOdd := ok_odd a_law_odd dTake
  have dIR := ok_isrow (P := l.prog) (w := w) (base := base) a_is_row z_isinstance z_str z_len z_all hM hL
  have dN := ok_need a_need_row dIR
  have d_ra := ok_reach_around (P := l.prog) (w := w) (base := base) a_reach_around z_len
  have d_reaches := ok_reaches a_reaches dN d_ra z_len z_range
  have d_ea := ok_ends_ahead (P := l.prog) (w := w) (base := base) a_ends_ahead z_range
  have dLE := ok_lawends a_law_ends dAl z_len z_range
  have dMirs := ok_mirrors a_law_mirrors dLE z_len z_range
  have dLTree := ok_lawtree a_law_tree dLE dMirs z_len
  have d_ebp := ok_ebp a_ends_by_place d_reaches d_ea z_len z_range
  have d_le := ok_lentry (P := l.prog) (w := w) (base := base) a_longest_entry z_len
  have d_tree := ok_tree a_tree d_ebp d_le z_len z_range
  have dWG := ok_wholeg (P := l.prog) (w := w) (base := base) a_is_whole z_isinstance z_int z_bool
  have dSame := ok_sameg a_is_same_number dWG
  have dEl := ok_elderg a_is_elder dSame
  have dEn := ok_entryg a_is_entry dEl z_isinstance z_len z_tuple
  have dIT := ok_istreeg a_is_tree d_tree dEn z_all z_isinstance z_len z_list z_zip
  have dBent := ok_bent16 a_law_bent dTake z_len z_list z_tuple
  exact ok_law F dBox dRow dLTree dOdd dBent dTr dIT z_len z_max z_min z_range z_repr hsm
theorem walk {l : PySem.W.OpenLaw} {q : Program} {loose : List Str} {XP : (Str → Option Value) → Heap → Prop} {YP : World → Heap → Prop} {d : DefRec} {K : Params → PySem.W.Frag} (hn : l.most = some 63) (hdf : d.params.defaults = []) (hI : PyProof.Rows.importsNone q = true)
    (hY : ∀ (w : World) (h : Heap), YP w h → (K w.params).In h)
    (F : ∀ (w : World) (mg : Str → Option Value) (fa : Addr) (h : Heap), (K w.params).In h → h.Ns mainGlobals mg → mg d.name = some (.ref fa) →
      ∃ fd : FuncData, (∀ (s : Shared) (u : Value), BindsTo s fd ⟨[u], []⟩ [("_law_script", u)]) ∧ ∀ base : Heap, (K w.params).In base → base.Ns mainGlobals mg → (∃ o, base.get? sysModules = some o) → FnOkC l.prog w (K w.params) mg base CX0 9 fa fd ["_law_script"] (spLaw (K w.params))) :
    PySem.W.WalkO q loose XP YP l.row.toRowW d [] (fun f vs => PySem.call f vs) :=
  L2.walk_ofD (n := 63) (k := 9) (x := "_law_script") (CX := fun _ => CX0) (sp := fun w => spLaw (K w.params)) hn (by decide) hdf hI ⟨rfl, by decide, by decide⟩ hY F (fun _ _ a ns hl _ hS => ⟨a, ns, rfl, hS, hl, fun _ => rfl⟩) fun _ _ _ _ _ z => z
end Mr
open PySem PySem.W PyProof.Rows
set_option maxRecDepth 100000 in
set_option maxHeartbeats 0 in
theorem PySem.Challenge.cw_mirrorruns_k16_trees_looked_at_holds : PySem.Challenge.rw_mirrorruns_k16_trees_looked_at.Holds := by
  w_on; o_law; k_head; (case hw => w_witness2)
  k_fill
  refine Mr.walk (l := PySem.Challenge.rw_mirrorruns_k16_trees_looked_at) rfl rfl (by decide +kernel) (fun w h Y => PySem.W.kIn_of Y) ?F
  case F =>
    intro w mg fa h KX G hmg
    refine' Mr.all_mk hmg ?a_is_whole ?a_is_same_number ?a_is_row ?a_need_row ?a_reaches ?a_reach_around ?a_ends_ahead ?a_ends_by_place ?a_tree ?a_longest_entry ?a_is_tree ?a_is_entry ?a_is_elder ?a_law_cell ?a_law_mix ?a_law_box ?a_law_take ?a_law_truth ?a_law_from_behind ?a_law_alike ?a_law_closed ?a_law_row ?a_law_odd ?a_law_ends ?a_law_mirrors ?a_law_tree ?a_law_bent ?a_law ?hM ?hL ?z_len ?z_range ?z_abs ?z_divmod ?z_isinstance ?z_bool ?z_str ?z_all ?z_max ?z_min ?z_int ?z_tuple ?z_list ?z_repr ?z_zip
    (case a_is_whole => refine' L2.At.mk' KX G ?a ?l ?c ?k (fun _ _ _ _ _ _ us hl => match us, hl with | [_], _ => rfl); (case a => k_is); (case l => k_is); (case c => k_is); (case k => k_is))
    (case a_is_same_number => refine' L2.At.mk' KX G ?a ?l ?c ?k (fun _ _ _ _ _ _ us hl => match us, hl with | [_, _], _ => rfl); (case a => k_is); (case l => k_is); (case c => k_is); (case k => k_is))
    (case a_is_row => refine' L2.At.mk' KX G ?a ?l ?c ?k (fun _ _ _ _ _ _ us hl => match us, hl with | [_], _ => rfl); (case a => k_is); (case l => k_is); (case c => k_is); (case k => k_is))
    (case a_need_row => refine' L2.At.mk' KX G ?a ?l ?c ?k (fun _ _ _ _ _ _ us hl => match us, hl with | [_], _ => rfl); (case a => k_is); (case l => k_is); (case c => k_is); (case k => k_is))
    (case a_reaches => refine' L2.At.mk' KX G ?a ?l ?c ?k (fun _ _ _ _ _ _ us hl => match us, hl with | [_], _ => rfl); (case a => k_is); (case l => k_is); (case c => k_is); (case k => k_is))
    (case a_reach_around => refine' L2.At.mk' KX G ?a ?l ?c ?k (fun _ _ _ _ _ _ us hl => match us, hl with | [_, _], _ => rfl); (case a => k_is); (case l => k_is); (case c => k_is); (case k => k_is))
    (case a_ends_ahead => refine' L2.At.mk' KX G ?a ?l ?c ?k (fun _ _ _ _ _ _ us hl => match us, hl with | [_, _], _ => rfl); (case a => k_is); (case l => k_is); (case c => k_is); (case k => k_is))
    (case a_ends_by_place => refine' L2.At.mk' KX G ?a ?l ?c ?k (fun _ _ _ _ _ _ us hl => match us, hl with | [_], _ => rfl); (case a => k_is); (case l => k_is); (case c => k_is); (case k => k_is))
    (case a_tree => refine' L2.At.mk' KX G ?a ?l ?c ?k (fun _ _ _ _ _ _ us hl => match us, hl with | [_], _ => rfl); (case a => k_is); (case l => k_is); (case c => k_is); (case k => k_is))
    (case a_longest_entry => refine' L2.At.mk' KX G ?a ?l ?c ?k (fun _ _ _ _ _ _ us hl => match us, hl with | [_, _, _], _ => rfl); (case a => k_is); (case l => k_is); (case c => k_is); (case k => k_is))
    (case a_is_tree => refine' L2.At.mk' KX G ?a ?l ?c ?k (fun _ _ _ _ _ _ us hl => match us, hl with | [_, _], _ => rfl); (case a => k_is); (case l => k_is); (case c => k_is); (case k => k_is))
    (case a_is_entry => refine' L2.At.mk' KX G ?a ?l ?c ?k (fun _ _ _ _ _ _ us hl => match us, hl with | [_, _], _ => rfl); (case a => k_is); (case l => k_is); (case c => k_is); (case k => k_is))
    (case a_is_elder => refine' L2.At.mk' KX G ?a ?l ?c ?k (fun _ _ _ _ _ _ us hl => match us, hl with | [_, _], _ => rfl); (case a => k_is); (case l => k_is); (case c => k_is); (case k => k_is))
    (case a_law_cell => refine' L2.At.mk' KX G ?a ?l ?c ?k (fun _ _ _ _ _ _ us hl => match us, hl with | [_, _], _ => rfl); (case a => k_is); (case l => k_is); (case c => k_is); (case k => k_is))
    (case a_law_mix => refine' L2.At.mk' KX G ?a ?l ?c ?k (fun _ _ _ _ _ _ us hl => match us, hl with | [_, _], _ => rfl); (case a => k_is); (case l => k_is); (case c => k_is); (case k => k_is))
    (case a_law_box => refine' L2.At.mk' KX G ?a ?l ?c ?k (fun _ _ _ _ _ _ us hl => match us, hl with | [_, _], _ => rfl); (case a => k_is); (case l => k_is); (case c => k_is); (case k => k_is))
    (case a_law_take => refine' L2.At.mk' KX G ?a ?l ?c ?k (fun _ _ _ _ _ _ us hl => match us, hl with | [_, _], _ => rfl); (case a => k_is); (case l => k_is); (case c => k_is); (case k => k_is))
    (case a_law_truth => refine' L2.At.mk' KX G ?a ?l ?c ?k (fun _ _ _ _ _ _ us hl => match us, hl with | [_, _], _ => rfl); (case a => k_is); (case l => k_is); (case c => k_is); (case k => k_is))
    (case a_law_from_behind => refine' L2.At.mk' KX G ?a ?l ?c ?k (fun _ _ _ _ _ _ us hl => match us, hl with | [_], _ => rfl); (case a => k_is); (case l => k_is); (case c => k_is); (case k => k_is))
    (case a_law_alike => refine' L2.At.mk' KX G ?a ?l ?c ?k (fun _ _ _ _ _ _ us hl => match us, hl with | [_], _ => rfl); (case a => k_is); (case l => k_is); (case c => k_is); (case k => k_is))
    (case a_law_closed => refine' L2.At.mk' KX G ?a ?l ?c ?k (fun _ _ _ _ _ _ us hl => match us, hl with | [_], _ => rfl); (case a => k_is); (case l => k_is); (case c => k_is); (case k => k_is))
    (case a_law_row => refine' L2.At.mk' KX G ?a ?l ?c ?k (fun _ _ _ _ _ _ us hl => match us, hl with | [_, _], _ => rfl); (case a => k_is); (case l => k_is); (case c => k_is); (case k => k_is))
    (case a_law_odd => refine' L2.At.mk' KX G ?a ?l ?c ?k (fun _ _ _ _ _ _ us hl => match us, hl with | [_], _ => rfl); (case a => k_is); (case l => k_is); (case c => k_is); (case k => k_is))
    (case a_law_ends => refine' L2.At.mk' KX G ?a ?l ?c ?k (fun _ _ _ _ _ _ us hl => match us, hl with | [_], _ => rfl); (case a => k_is); (case l => k_is); (case c => k_is); (case k => k_is))
    (case a_law_mirrors => refine' L2.At.mk' KX G ?a ?l ?c ?k (fun _ _ _ _ _ _ us hl => match us, hl with | [_], _ => rfl); (case a => k_is); (case l => k_is); (case c => k_is); (case k => k_is))
    (case a_law_tree => refine' L2.At.mk' KX G ?a ?l ?c ?k (fun _ _ _ _ _ _ us hl => match us, hl with | [_], _ => rfl); (case a => k_is); (case l => k_is); (case c => k_is); (case k => k_is))
    (case a_law_bent => refine' L2.At.mk' KX G ?a ?l ?c ?k (fun _ _ _ _ _ _ us hl => match us, hl with | [_, _, _], _ => rfl); (case a => k_is); (case l => k_is); (case c => k_is); (case k => k_is))
    (case a_law => refine' L2.At.mk' KX G ?a ?l ?c ?k (fun _ _ _ _ _ _ us hl => match us, hl with | [_], _ => rfl); (case a => k_is); (case l => k_is); (case c => k_is); (case k => k_is))
    (case hM => exact PySem.W.mg_of KX G (by k_is))
    (case hL => exact (PySem.W.mg_of KX G (by k_is)).trans (congrArg (fun z => some (Value.str z _)) Mr.e_lets))
    (case z_len => exact PySem.W.mg_none_of KX G (by k_is))
    (case z_range => exact PySem.W.mg_none_of KX G (by k_is))
    (case z_abs => exact PySem.W.mg_none_of KX G (by k_is))
    (case z_divmod => exact PySem.W.mg_none_of KX G (by k_is))
    (case z_isinstance => exact PySem.W.mg_none_of KX G (by k_is))
    (case z_bool => exact PySem.W.mg_none_of KX G (by k_is))
    (case z_str => exact PySem.W.mg_none_of KX G (by k_is))
    (case z_all => exact PySem.W.mg_none_of KX G (by k_is))
    (case z_max => exact PySem.W.mg_none_of KX G (by k_is))
    (case z_min => exact PySem.W.mg_none_of KX G (by k_is))
    (case z_int => exact PySem.W.mg_none_of KX G (by k_is))
    (case z_tuple => exact PySem.W.mg_none_of KX G (by k_is))
    (case z_list => exact PySem.W.mg_none_of KX G (by k_is))
    (case z_repr => exact PySem.W.mg_none_of KX G (by k_is))
    (case z_zip => exact PySem.W.mg_none_of KX G (by k_is))
